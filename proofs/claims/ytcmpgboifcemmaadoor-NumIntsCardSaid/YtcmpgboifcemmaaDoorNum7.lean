/- Layer 1: product. -/
import Derived.Test.YtcmpgboifcemmaaDoorRow
set_option linter.all false
namespace Go.Proofs.YtcmpgboifcemmaaDoor
open Go Go.RowKit Go.Shelf

section
variable (p i : Nat) (ys : List Nat)
/-- One line of a product: p times ys is added to the row from place i on; what is carried, and the row, after k digits. -/
def lineTo (row : List Nat) : Nat → Nat × List Nat
  | 0 => (0, row)
  | k + 1 => (((lineTo row k).1 + (p * ys[k]?.getD 0 + (lineTo row k).2[i + k]?.getD 0)) / B32, (lineTo row k).2.set (i + k) (((lineTo row k).1 + (p * ys[k]?.getD 0 + (lineTo row k).2[i + k]?.getD 0)) % B32))
def line (row : List Nat) : List Nat := (lineTo p i ys row ys.length).2.set (i + ys.length) (lineTo p i ys row ys.length).1
end
def prodTo (xs ys : List Nat) : Nat → List Nat
  | 0 => List.replicate 65 0
  | i + 1 => line (xs[i]?.getD 0) i ys (prodTo xs ys i)
def prodRow (xs ys : List Nat) : List Nat := prodTo xs ys xs.length

theorem lineTo_length (p i : Nat) (ys row : List Nat) (k : Nat) : (lineTo p i ys row k).2.length = row.length := by
  induction k with
  | zero => rfl
  | succ k ih => simp [lineTo, ih]
theorem line_length (p i : Nat) (ys row : List Nat) : (line p i ys row).length = row.length := by simp [line, lineTo_length]
theorem prodTo_length (xs ys : List Nat) (k : Nat) : (prodTo xs ys k).length = 65 := by
  induction k with
  | zero => simp [prodTo]
  | succ k ih => rw [prodTo, line_length, ih]
theorem prodRow_length (xs ys : List Nat) : (prodRow xs ys).length = 65 := prodTo_length _ _ _

theorem Digits.set {ds : List Nat} (h : Digits ds) (i : Nat) {d : Nat} (hd : d < B32) : Digits (ds.set i d) := fun e he => by
  rcases List.mem_or_eq_of_mem_set he with h1 | rfl
  · exact h e h1
  · exact hd
theorem digits_replicate (n : Nat) : Digits (List.replicate n 0) := fun d hd => by rw [List.eq_of_mem_replicate hd]; exact B32_pos

theorem mul_bound {p q : Nat} (hp : p < B32) (hq : q < B32) : p * q ≤ 18446744065119617025 := by
  unfold B32 at *
  exact Nat.le_trans (Nat.mul_le_mul (Nat.le_of_lt_succ hp) (Nat.le_of_lt_succ hq)) (by decide)

theorem lineTo_bounds {p i : Nat} {ys row : List Nat} (hp : p < B32) (hy : Digits ys) (hr : Digits row) (k : Nat) : (lineTo p i ys row k).1 < B32 ∧ Digits (lineTo p i ys row k).2 := by
  induction k with
  | zero => exact ⟨B32_pos, hr⟩
  | succ k ih =>
    obtain ⟨h1, h2⟩ := ih
    have h3 := mul_bound hp (hy.getD k)
    have h4 := h2.getD (i + k)
    refine ⟨?_, h2.set _ (Nat.mod_lt _ B32_pos)⟩
    show (_ / B32) < B32
    unfold B32 at *
    omega
theorem line_digits {p i : Nat} {ys row : List Nat} (hp : p < B32) (hy : Digits ys) (hr : Digits row) : Digits (line p i ys row) :=
  (lineTo_bounds hp hy hr _).2.set _ (lineTo_bounds hp hy hr _).1
theorem prodTo_digits {xs ys : List Nat} (hx : Digits xs) (hy : Digits ys) (k : Nat) : Digits (prodTo xs ys k) := by
  induction k with
  | zero => exact digits_replicate _
  | succ k ih => exact line_digits (hx.getD k) hy ih

theorem prod_cast (c x y r : Nat) : ((c : Int) + ((x : Int) * (y : Int) + (r : Int))) / 4294967296 = (((c + (x * y + r)) / B32 : Nat) : Int) ∧
    ((c : Int) + ((x : Int) * (y : Int) + (r : Int))) % 4294967296 = (((c + (x * y + r)) % B32 : Nat) : Int) := by
  unfold B32
  rw [← Int.natCast_mul]
  generalize x * y = t
  omega

set_option maxRecDepth 100000 in
set_option maxHeartbeats 4000000 in
theorem product_calls (v u : Value) (xs ys : List Nat) (w : World) (hx : U32s w.heap.size w v xs) (hy : U32s w.heap.size w u ys) (hdx : Digits xs) (hdy : Digits ys) (h65 : xs.length + ys.length ≤ 65) :
    Calls Tryd.prog 46 #[v, u] w fun e w' => e = .returned (.agg (arr (prodRow xs ys))) ∧ Below w.heap.size w w' := by
  obtain ⟨p, cap, rfl, hl, hc⟩ := hx
  obtain ⟨q, cap2, rfl, hl2, hc2⟩ := hy
  have Hc := Lib.hid hc
  have Hc2 := Lib.hid hc2
  obtain ⟨n, hn⟩ : ∃ n, n = xs.length := ⟨_, rfl⟩
  obtain ⟨m, hm⟩ : ∃ m, m = ys.length := ⟨_, rfl⟩
  rw [← hn, ← hm] at h65
  have Hn := Lib.hid hn
  have Hm := Lib.hid hm
  rw [← hn, ← hm]
  have hln : ∀ i, prodTo xs ys (i + 1) = (lineTo (xs[i]?.getD 0) i ys (prodTo xs ys i) m).2.set (i + m) (lineTo (xs[i]?.getD 0) i ys (prodTo xs ys i) m).1 := fun i => by rw [hm]; rfl
  have Hln := Lib.hid hln
  clear hc hc2 hl hl2 hn hm hln
  go_enter Tryd.func46, Tryd.ntmps46
  go_wp2
  go_loopw [13] (fun i wr => ∃ k : Nat, k ≤ n ∧ i = .int .i64 k ∧ RowAt wr w.heap.size 52 Tryd.zeroCells52 ∧ RowAt wr (w.heap.size + 1) 52 (arr (prodTo xs ys k)) ∧ Below w.heap.size w wr)
    (fun i _ => n - (intOf i).toNat)
  case atStart => exact ⟨0, Nat.zero_le _, rfl, (RowAt.new w _ _).alloc _, by rw [prodTo, ← zero_row]; exact RowAt.new' _ _ (by simp), ((Below.refl _ w).alloc (Nat.le_refl _) _).alloc (by simp) _⟩
  case round =>
    obtain ⟨i, hi, rfl, hr4, hr5, hB⟩ := hrel
    obtain ⟨wo, hwo⟩ : ∃ wo : World, wo = wr := ⟨_, rfl⟩
    rw [← hwo] at hr4 hr5 hB ⊢
    clear hwo wr
    by_cases hlt : i < n
    · obtain ⟨b, off, rfl, hbB, hcs⟩ := Hc.out (by rw [← Hn.out]; exact Nat.lt_of_le_of_lt (Nat.zero_le _) hlt)
      have hcx := (hB.cell (p := ⟨b, off + i, none⟩) hbB).trans (hcs i (by rw [← Hn.out]; exact hlt))
      clear hcs
      have Hl := Lib.hid (Hln.out i)
      have hp := hdx.getD i
      have HD := Lib.hid (prodTo_digits hdx hdy i)
      have Hlen := Lib.hid (prodTo_length xs ys i)
      generalize xs[i]?.getD 0 = x at *
      have Hp := Lib.hid hp
      clear hp
      go_wp2
      go_loopw [8, 20] (fun c j wr => ∃ k : Nat, k ≤ m ∧ j = .int .i64 k ∧ c = .int .u64 ((lineTo x i ys (prodTo xs ys i) k).1 : Nat) ∧ RowAt wr w.heap.size 52 Tryd.zeroCells52 ∧ RowAt wr (w.heap.size + 1) 52 (arr (lineTo x i ys (prodTo xs ys i) k).2) ∧ Below w.heap.size w wr)
        (fun _ j _ => m - (intOf j).toNat)
      case atStart => exact ⟨0, Nat.zero_le _, rfl, rfl, hr4, hr5, hB⟩
      case round =>
        clear hr4 hr5 hB hcx
        obtain ⟨k, hk, rfl, rfl, hr4, hr5, hB⟩ := hrel
        obtain ⟨hb1, hb2⟩ := lineTo_bounds (i := i) Hp.out hdy HD.out k
        have hll := lineTo_length x i ys (prodTo xs ys i) k
        rw [Hlen.out] at hll
        by_cases hkm : k < m
        · obtain ⟨b2, off2, rfl, hbB2, hcs2⟩ := Hc2.out (by rw [← Hm.out]; exact Nat.lt_of_le_of_lt (Nat.zero_le _) hkm)
          have hcy := (hB.cell (p := ⟨b2, off2 + k, none⟩) hbB2).trans (hcs2 k (by rw [← Hm.out]; exact hkm))
          clear hcs2
          have hyk := hdy.getD k
          have hmul := mul_bound Hp.out hyk
          have hrk := hb2.getD (i + k)
          have hcr := (hr5.cell (i + k)).trans (arr_get _ (i + k) (by rw [hll]; omega))
          have hfr := hr5.frozen (i + k)
          have hs1 : (lineTo x i ys (prodTo xs ys i) (k + 1)).1 = ((lineTo x i ys (prodTo xs ys i) k).1 + (x * ys[k]?.getD 0 + (lineTo x i ys (prodTo xs ys i) k).2[i + k]?.getD 0)) / B32 := rfl
          have hs2 : (lineTo x i ys (prodTo xs ys i) (k + 1)).2 = (lineTo x i ys (prodTo xs ys i) k).2.set (i + k) (((lineTo x i ys (prodTo xs ys i) k).1 + (x * ys[k]?.getD 0 + (lineTo x i ys (prodTo xs ys i) k).2[i + k]?.getD 0)) % B32) := rfl
          generalize (lineTo x i ys (prodTo xs ys i) k).2[i + k]?.getD 0 = r at *
          generalize ys[k]?.getD 0 = y at *
          generalize lineTo x i ys (prodTo xs ys i) k = st at *
          obtain ⟨c, row⟩ := st
          dsimp only at *
          have Hs1 := Lib.hid hs1
          have Hs2 := Lib.hid hs2
          have Hr4 := Lib.hid hr4
          have Hr5 := Lib.hid hr5
          have Hll := Lib.hid hll
          have hx' := Hp.out
          have hik : (i : Int) + (k : Int) < 65 := by omega
          unfold B32 at hx' hyk hrk hb1
          have hmul' : (x : Int) * (y : Int) ≤ 18446744065119617025 := by rw [← Int.natCast_mul]; generalize x * y = t at hmul; clear hs1 hs2 Hs1 Hs2; omega
          have hmul0 : 0 ≤ (x : Int) * (y : Int) := Int.mul_nonneg (by omega) (by omega)
          clear hs1 hs2 hr4 hr5 hll hb2 hmul
          go_wp2
          go_roundw
          case rel =>
            rw [(prod_cast c x y r).1, (prod_cast c x y r).2]
            exact ⟨k + 1, by omega, by rw [Int.natCast_add]; rfl, by rw [Hs1.out], Hr4.out.setOther _ _ (by simp), by rw [Hs2.out, ← arr_set]; exact Hr5.out.set (i + k) _, hB.setCell (p := ⟨w.heap.size + 1, i + k, none⟩) (Nat.le_succ _) _⟩
          case measure => show m - ((k : Int) + 1).toNat < m - ((k : Int)).toNat; omega
        · obtain rfl : k = m := by omega
          have Hl2 := Lib.hid (show prodTo xs ys (i + 1) = (lineTo x i ys (prodTo xs ys i) k).2.set (i + k) (lineTo x i ys (prodTo xs ys i) k).1 from Hl.out)
          have hcr := (hr5.cell (i + k)).trans (arr_get _ (i + k) (by rw [hll]; omega))
          have hfr := hr5.frozen (i + k)
          generalize lineTo x i ys (prodTo xs ys i) k = st at *
          obtain ⟨c, row⟩ := st
          dsimp only at *
          have Hr4 := Lib.hid hr4
          have Hr5 := Lib.hid hr5
          have hik : (i : Int) + (k : Int) < 65 := by omega
          unfold B32 at hb1
          clear hr4 hr5 hll hb2
          go_wp2
          go_roundw
          case rel => exact ⟨i + 1, by omega, by rw [Int.natCast_add]; rfl, Hr4.out.setOther _ _ (by simp), by rw [Hl2.out, ← arr_set]; exact Hr5.out.set (i + k) _, hB.setCell (p := ⟨w.heap.size + 1, i + k, none⟩) (Nat.le_succ _) _⟩
          case measure => show n - ((i : Int) + 1).toNat < n - ((i : Int)).toNat; omega
    · obtain rfl : i = n := by omega
      have Hres := Lib.hid (show prodTo xs ys i = prodRow xs ys by rw [Hn.out]; rfl)
      have Hcl := Lib.hid (prodRow_length xs ys)
      rw [Hres.out] at hr5
      have Hr5 := Lib.hid hr5
      have Hr4 := Lib.hid hr4
      generalize hg : prodRow xs ys = res at *
      have Hg := Lib.hid hg
      clear hr4 hr5 hg
      go_wp2_with (first
        | (refine load_row rfl (.tmp 5) rfl (w.heap.size + 1) rfl res Hcl.out 52 Hr5.out ?_)
        | (refine store_row rfl (.tmp 4) (.tmp 56) rfl w.heap.size rfl res Hcl.out rfl 52 Tryd.zeroCells52 Hr4.out (by kernel_rfl) ?_))
      refine ret_row rfl w.heap.size rfl res Hcl.out 52 (Hr4.out.setRow _) ⟨by rw [Hg.out], below_setRow2 hB (Nat.le_refl _) _⟩

end Go.Proofs.YtcmpgboifcemmaaDoor
