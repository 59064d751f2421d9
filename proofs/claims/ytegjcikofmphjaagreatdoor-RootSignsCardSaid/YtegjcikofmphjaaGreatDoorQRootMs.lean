/- Texts that belong together. -/
import Derived.Test.YtegjcikofmphjaaGreatDoorQRootEnd
import Derived.Test.YtegjcikofmphjaaGreatDoorQRootXs
import Derived.Deep.Cut
set_option linter.all false
/- The reference of layer 1: Mod, as layer 2's law asks it. -/
namespace Go.Proofs.YtegjcikofmphjaaGreatDoor
open Go Go.RowKit Go.Shelf
theorem ent_mod (args : Array Value) (w : World) : (callFunc 46 args).run Tryz.prog w = .ok (.enter 46 args) w := enters_of Tryz.func46 (by kernel_rfl) rfl args w
theorem mod_eq {n m : Int} (hm : 0 < m) : (n.tmod m + m).tmod m = n % m := by
  have h1 := Int.tmod_lt_of_pos n hm
  have h2 := Int.tmod_lt_of_pos (-n) hm
  rw [Int.neg_tmod] at h2
  rw [Int.tmod_eq_emod_of_nonneg (by omega), Int.add_emod_right]
  have h4 : m * n.tdiv m + n.tmod m = n := Int.mul_tdiv_add_tmod n m
  have h5 : (n.tmod m + m * n.tdiv m) % m = n.tmod m % m := Int.add_mul_emod_self_left _ _ _
  rw [← h5]
  congr 1
  omega
set_option maxRecDepth 100000 in
theorem refMod_ok (n m : Int) (w : World) (hm : 0 < m) (hm' : m ≤ 1099511627776) : Calls Tryz.prog 46 #[.int .i64 n, .int .i64 m] w fun e w' => e = .returned (.int .i64 (n % m)) ∧ Ext w w' := by
  have h1 := Int.tmod_lt_of_pos n hm
  have h2 := Int.tmod_lt_of_pos (-n) hm
  rw [Int.neg_tmod] at h2
  have hz : (m == 0) = false := by simp; omega
  have hz' : ¬ m = 0 := by omega
  have w1 : wrap64 (n.tmod m) = n.tmod m := by unfold wrap64; omega
  have w2 : wrap64 (n.tmod m + m) = n.tmod m + m := by unfold wrap64; omega
  have h6 := mod_eq (n := n) hm
  have h7 := Int.emod_nonneg n (show m ≠ 0 by omega)
  have h8 := Int.emod_lt_of_pos n hm
  have w3 : wrap64 ((n.tmod m + m).tmod m) = (n.tmod m + m).tmod m := by rw [h6]; unfold wrap64; omega
  have H6 := Lib.hid h6
  clear h6 h7 h8 h1 h2 hm hm'
  go_enter Tryz.func46, Tryz.ntmps46
  go_wp2
  go_ret
  exact ⟨by show Ending.returned (.int .i64 ((n.tmod m + m).tmod m)) = _; rw [H6.out], Ext.refl _⟩
end Go.Proofs.YtegjcikofmphjaaGreatDoor
/- The reference of layer 1: times, Mul of right numbers. -/
namespace Go.Proofs.YtegjcikofmphjaaGreatDoor
open Go Go.RowKit Go.Shelf
def prodL (L : Nat) (xs ys : List Nat) : Nat → List Nat
  | 0 => List.replicate L 0
  | i + 1 => line (xs[i]?.getD 0) i ys (prodL L xs ys i)
theorem prodL_length (L : Nat) (xs ys : List Nat) (k : Nat) : (prodL L xs ys k).length = L := by
  induction k with
  | zero => simp [prodL]
  | succ k ih => rw [prodL, line_length, ih]
theorem prodL_digits {L : Nat} {xs ys : List Nat} (hx : Digits xs) (hy : Digits ys) (k : Nat) : Digits (prodL L xs ys k) := by
  induction k with
  | zero => exact digits_replicate _
  | succ k ih => exact line_digits (hx.getD k) hy ih
theorem prodL_zero (L : Nat) (xs ys : List Nat) (k j : Nat) (hj : k + ys.length ≤ j) : (prodL L xs ys k)[j]?.getD 0 = 0 := by
  induction k with
  | zero =>
    show (List.replicate L 0)[j]?.getD 0 = 0
    rw [List.getElem?_replicate]; split <;> rfl
  | succ k ih =>
    show (line _ k ys (prodL L xs ys k))[j]?.getD 0 = 0
    rw [line_zero j (by omega), ih (by omega)]
theorem prodL_val {L : Nat} (xs ys : List Nat) (k : Nat) (hk : k ≤ xs.length) (h : xs.length + ys.length ≤ L) : val (prodL L xs ys k) = val (xs.take k) * val ys := by
  induction k with
  | zero => simp [prodL, val_zeros, val]
  | succ k ih =>
    show val (line _ k ys (prodL L xs ys k)) = _
    rw [line_val (by rw [prodL_length]; omega) (prodL_zero _ _ _ _ _ (Nat.le_refl _)), ih (by omega), val_take_succ, Nat.add_mul, Nat.mul_assoc]
def stT (p i : Nat) (ys row : List Nat) (k : Nat) : Nat × List Nat := if k ≤ ys.length then lineTo p i ys row k else (0, line p i ys row)
theorem cast_sum (c r x y : Nat) : ((c : Int) + (r : Int) + (x : Int) * (y : Int)) / 4294967296 = (((c + (x * y + r)) / B32 : Nat) : Int) ∧ ((c : Int) + (r : Int) + (x : Int) * (y : Int)) % 4294967296 = (((c + (x * y + r)) % B32 : Nat) : Int) := by
  unfold B32
  rw [← Int.natCast_mul]
  generalize x * y = t
  omega
set_option maxRecDepth 100000 in
set_option maxHeartbeats 8000000 in
theorem rtimes_calls (v u : Value) (xs ys : List Nat) (w : World) (hx : U32s w.heap.size w v xs) (hy : U32s w.heap.size w u ys) (hdx : Digits xs) (hdy : Digits ys) (hnx : xs.length ≤ 64) (hny : ys.length ≤ 64) :
    Calls Tryz.prog 94 #[v, u] w fun e w' => ∃ r, e = .returned r ∧ U32s w'.heap.size w' r (digs (val xs * val ys)) ∧ Ext w w' := by
  obtain ⟨p, cap, rfl, hl, hc⟩ := hx
  obtain ⟨q, cap2, rfl, hl2, hc2⟩ := hy
  have Hc := Lib.hid hc
  have Hc2 := Lib.hid hc2
  obtain ⟨n, hn⟩ : ∃ n, n = xs.length := ⟨_, rfl⟩
  obtain ⟨m, hm⟩ : ∃ m, m = ys.length := ⟨_, rfl⟩
  rw [← hn] at hnx
  rw [← hm] at hny
  have Hn := Lib.hid hn
  have Hm := Lib.hid hm
  rw [← hn, ← hm]
  obtain ⟨L, hL⟩ : ∃ L, L = n + m + 1 := ⟨_, rfl⟩
  have HL := Lib.hid hL
  have hLI : (n : Int) + (m : Int) + 1 = (L : Int) := by omega
  have hLb : L ≤ 129 := by omega
  have hln : ∀ i, prodL L xs ys (i + 1) = (lineTo (xs[i]?.getD 0) i ys (prodL L xs ys i) m).2.set (i + m) (lineTo (xs[i]?.getD 0) i ys (prodL L xs ys i) m).1 := fun i => by rw [hm]; rfl
  have Hln := Lib.hid hln
  clear hc hc2 hl hl2 hn hm hln hL
  have HLI := Lib.hid hLI
  clear hLI
  go_enter Tryz.func94, Tryz.ntmps94
  go_wp2_with (refine make_row rfl (.tmp 14) (.tmp 14) rfl L (by first | rfl | (show Value.int .i64 _ = _; rw [HLI.out])) (by first | rfl | (show Value.int .i64 _ = _; rw [HLI.out])) (by omega) ?_)
  go_loopw [6] (fun i wr => ∃ k : Nat, k ≤ n ∧ i = .int .i64 k ∧ RowAt wr w.heap.size 87 (arr (prodL L xs ys k)) ∧ Ext w wr) (fun i _ => n - (intOf i).toNat)
  case atStart => exact ⟨0, Nat.zero_le _, rfl, by rw [prodL]; exact RowAt.new _ _ _, Ext.alloc _ _⟩
  case round =>
    obtain ⟨i, hi, rfl, hr5, hB⟩ := hrel
    obtain ⟨wo, hwo⟩ : ∃ wo : World, wo = wr := ⟨_, rfl⟩
    rw [← hwo] at hr5 hB ⊢
    clear hwo wr
    have hL2 := HL.out
    by_cases hlt : i < n
    · obtain ⟨b, off, rfl, hbB, hcs⟩ := Hc.out (by rw [← Hn.out]; exact Nat.lt_of_le_of_lt (Nat.zero_le _) hlt)
      have Hcx := Lib.hid (hcs i (by rw [← Hn.out]; exact hlt))
      have HbB := Lib.hid hbB
      clear hcs hbB
      have Hl := Lib.hid (Hln.out i)
      have Hz := Lib.hid (prodL_zero L xs ys i)
      have hp := hdx.getD i
      have HD := Lib.hid (prodL_digits (L := L) hdx hdy i)
      have Hlen := Lib.hid (prodL_length L xs ys i)
      generalize xs[i]?.getD 0 = x at *
      generalize hP : prodL L xs ys i = P at *
      have HP := Lib.hid hP
      have Hp := Lib.hid hp
      have HR5 := Lib.hid hr5
      have HBB := Lib.hid hB
      clear hp hP hr5 hB hL2
      go_wp2
      go_loopw [7, 8] (fun c j wr => ∃ k : Nat, k ≤ m + 1 ∧ j = .int .i64 k ∧ c = .int .u64 ((stT x i ys P k).1 : Nat) ∧ RowAt wr w.heap.size 87 (arr (stT x i ys P k).2) ∧ Ext w wr) (fun _ j _ => m + 1 - (intOf j).toNat)
      case atStart => exact ⟨0, Nat.zero_le _, rfl, by unfold stT; rw [if_pos (Nat.zero_le _)]; rfl, by unfold stT; rw [if_pos (Nat.zero_le _)]; exact HR5.out, HBB.out⟩
      case round =>
        obtain ⟨k, hk, rfl, rfl, hr5, hB⟩ := hrel
        have hL2 := HL.out
        by_cases hkm : k < m
        · have e0 : stT x i ys P k = lineTo x i ys P k := by unfold stT; rw [if_pos (by rw [← Hm.out]; omega)]
          have e1 : stT x i ys P (k + 1) = lineTo x i ys P (k + 1) := by unfold stT; rw [if_pos (by rw [← Hm.out]; omega)]
          rw [e0] at hr5 ⊢
          have He1 := Lib.hid e1
          clear e0 e1
          obtain ⟨hb1, hb2⟩ := lineTo_bounds (i := i) Hp.out hdy HD.out k
          have hll := lineTo_length x i ys P k
          rw [Hlen.out] at hll
          obtain ⟨b2, off2, rfl, hbB2, hcs2⟩ := Hc2.out (by rw [← Hm.out]; exact Nat.lt_of_le_of_lt (Nat.zero_le _) hkm)
          have hcy := (hB.cell (p := ⟨b2, off2 + k, none⟩) hbB2).trans (hcs2 k (by rw [← Hm.out]; exact hkm))
          have hcx := (hB.cell (p := ⟨b, off + i, none⟩) HbB.out).trans Hcx.out
          clear hcs2
          have hyk := hdy.getD k
          have hmul := mul_bound Hp.out hyk
          have hrk := hb2.getD (i + k)
          have hcr := (hr5.cell (i + k)).trans (arr_get _ (i + k) (by rw [hll]; omega))
          have hfr := hr5.frozen (i + k)
          have hs1 : (lineTo x i ys P (k + 1)).1 = ((lineTo x i ys P k).1 + (x * ys[k]?.getD 0 + (lineTo x i ys P k).2[i + k]?.getD 0)) / B32 := rfl
          have hs2 : (lineTo x i ys P (k + 1)).2 = (lineTo x i ys P k).2.set (i + k) (((lineTo x i ys P k).1 + (x * ys[k]?.getD 0 + (lineTo x i ys P k).2[i + k]?.getD 0)) % B32) := rfl
          generalize (lineTo x i ys P k).2[i + k]?.getD 0 = r at *
          generalize ys[k]?.getD 0 = y at *
          generalize lineTo x i ys P k = st at *
          obtain ⟨c, row⟩ := st
          dsimp only at *
          have Hs1 := Lib.hid hs1
          have Hs2 := Lib.hid hs2
          have Hr5 := Lib.hid hr5
          have Hll := Lib.hid hll
          have HB := Lib.hid hB
          have hx' := Hp.out
          have hik : (i : Int) + (k : Int) < (L : Int) := by omega
          unfold B32 at hx' hyk hrk hb1
          have hmul' : (x : Int) * (y : Int) ≤ 18446744065119617025 := by rw [← Int.natCast_mul]; generalize x * y = t at hmul; clear hs1 hs2 Hs1 Hs2; omega
          have hmul0 : 0 ≤ (x : Int) * (y : Int) := Int.mul_nonneg (by omega) (by omega)
          have hw1 : IntKind.u64.wrap ((x : Int) * (y : Int)) = (x : Int) * (y : Int) := by rw [IntKind.wrap_u64]; omega
          have hw2 : IntKind.u64.wrap ((c : Int) + (r : Int)) = (c : Int) + (r : Int) := by rw [IntKind.wrap_u64]; omega
          have hw3 : IntKind.u64.wrap ((c : Int) + (r : Int) + (x : Int) * (y : Int)) = (c : Int) + (r : Int) + (x : Int) * (y : Int) := by rw [IntKind.wrap_u64]; omega
          have hkI : (k : Int) < (m : Int) := by omega
          have hiI : (i : Int) < (n : Int) := by omega
          have hik0 : 0 ≤ (i : Int) + (k : Int) := by omega
          clear hs1 hs2 hr5 hll hb2 hmul hL2 hB hbB2
          go_wp2_with fail
          go_quiet (fail)
          have hcr' : (wr.drewN nq).cell? ⟨w.heap.size, i + k, none⟩ = some (.int .u32 (r : Int)) := hcr
          have hfr' : (wr.drewN nq).frozen? ⟨w.heap.size, i + k, none⟩ = false := hfr
          have HR6 := Lib.hid (show RowAt (wr.drewN nq) w.heap.size _ _ from Hr5.out)
          have HB6 := Lib.hid (HB.out.trans (Ext.drewN wr nq))
          clear hcr hfr hcx hcy
          go_wp2
          go_roundw
          case rel =>
            rw [(cast_sum c r x y).1, (cast_sum c r x y).2]
            refine ⟨k + 1, by omega, by rw [Int.natCast_add]; rfl, by rw [He1.out, Hs1.out], by rw [He1.out, Hs2.out, ← arr_set]; exact HR6.out.set (i + k) _, ?_⟩
            exact HB6.out.setCell (p := ⟨w.heap.size, i + k, none⟩) (Nat.le_refl _) _
          case measure => show m + 1 - ((k : Int) + 1).toNat < m + 1 - ((k : Int)).toNat; omega
        · have hkI : ¬ (k : Int) < (m : Int) := by omega
          obtain ⟨hb1, hb2⟩ := lineTo_bounds (i := i) Hp.out hdy HD.out m
          have hll := lineTo_length x i ys P m
          rw [Hlen.out] at hll
          have hz := Hz.out (i + m) (by rw [← Hm.out]; omega)
          have hg0 := lineTo_get (p := x) (i := i) (ys := ys) (row := P) m (i + m) (Nat.le_refl _)
          have hrz : (lineTo x i ys P m).2[i + m]?.getD 0 = 0 := by rw [hg0]; exact hz
          have hline : line x i ys P = (lineTo x i ys P m).2.set (i + m) (lineTo x i ys P m).1 := by unfold line; rw [← Hm.out]
          have hpl := Hl.out
          by_cases hkm1 : k = m
          · subst hkm1
            have e0 : stT x i ys P k = lineTo x i ys P k := by unfold stT; rw [if_pos (by rw [← Hm.out]; omega)]
            have e1 : stT x i ys P (k + 1) = (0, line x i ys P) := by unfold stT; rw [if_neg (by rw [← Hm.out]; omega)]
            rw [e0] at hr5 ⊢
            rw [hline] at e1
            have He1 := Lib.hid e1
            clear e0 e1 hz hg0 hline
            have hcr := (hr5.cell (i + k)).trans (arr_get _ (i + k) (by rw [hll]; omega))
            have hfr := hr5.frozen (i + k)
            rw [hrz] at hcr
            have hset0 : (lineTo x i ys P k).1 = 0 → (lineTo x i ys P k).2.set (i + k) 0 = (lineTo x i ys P k).2 := fun _ => by
              apply List.ext_getElem?
              intro j
              by_cases hj : j = i + k
              · subst hj
                rw [List.getElem?_set_self (by rw [hll]; omega)]
                have h1 : i + k < (lineTo x i ys P k).2.length := by rw [hll]; omega
                rw [List.getElem?_eq_getElem h1] at hrz ⊢
                simpa using hrz.symm
              · rw [List.getElem?_set_ne (by omega)]
            generalize lineTo x i ys P k = st at *
            obtain ⟨c, row⟩ := st
            dsimp only at *
            have Hr5 := Lib.hid hr5
            have Hset0 := Lib.hid hset0
            have Hpl := Lib.hid hpl
            have HB := Lib.hid hB
            unfold B32 at hb1
            have hik : (i : Int) + (k : Int) < (L : Int) := by omega
            have hik0 : 0 ≤ (i : Int) + (k : Int) := by omega
            clear hr5 hll hb2 hset0 hpl hB hrz hL2
            by_cases hc0 : c = 0
            · subst hc0
              go_wp2
              go_roundw
              case rel => exact ⟨i + 1, by omega, by rw [Int.natCast_add]; rfl, by rw [Hpl.out, Hset0.out rfl]; exact Hr5.out, HB.out⟩
              case measure => show n - ((i : Int) + 1).toNat < n - ((i : Int)).toNat; omega
            · have hcI : (0 : Int) < (c : Int) := by omega
              go_wp2
              go_roundw
              case rel =>
                refine ⟨k + 1, by omega, by rw [Int.natCast_add]; rfl, ?_, ?_, HB.out.setCell (p := ⟨w.heap.size, i + k, none⟩) (Nat.le_refl _) _⟩
                · rw [He1.out]; show Value.int .u64 ((c : Int) / 4294967296) = .int .u64 ((0 : Nat) : Int); rw [show (c : Int) / 4294967296 = 0 by omega]; rfl
                · rw [He1.out]; show RowAt _ _ _ (arr (row.set (i + k) c)); rw [← arr_set]; exact Hr5.out.set (i + k) _
              case measure => show k + 1 - ((k : Int) + 1).toNat < k + 1 - ((k : Int)).toNat; omega
          · obtain rfl : k = m + 1 := by omega
            have e0 : stT x i ys P (m + 1) = (0, line x i ys P) := by unfold stT; rw [if_neg (by rw [← Hm.out]; omega)]
            rw [e0] at hr5 ⊢
            rw [hline, ← hpl] at hr5
            have Hr5 := Lib.hid hr5
            have HB := Lib.hid hB
            clear e0 hr5 hll hb1 hb2 hB hrz hL2 hpl hz hg0 hline
            go_wp2
            go_roundw
            case rel => exact ⟨i + 1, by omega, by rw [Int.natCast_add]; rfl, Hr5.out, HB.out⟩
            case measure => show n - ((i : Int) + 1).toNat < n - ((i : Int)).toNat; omega
    · obtain rfl : i = n := by omega
      have hlen := prodL_length L xs ys i
      have hu := u32s_row (B := wo.heap.size) (cap := L) (L := L) hr5 hr5.lt (by rw [hlen]; exact Nat.le_refl _) (by rw [hlen]; unfold maxLen; omega)
      have hv : val (prodL L xs ys i) = val xs * val ys := by rw [prodL_val xs ys i (by rw [← Hn.out]; exact Nat.le_refl _) (by rw [← Hn.out, ← Hm.out]; omega), val_take_all (by rw [← Hn.out]; exact Nat.le_refl _)]
      have hd := prodL_digits (L := L) hdx hdy i
      rw [List.take_of_length_le (by rw [hlen]; exact Nat.le_refl _)] at hu
      have Htr := Lib.hid (trim_digs (p := some ⟨w.heap.size, 0, none⟩) (cap := L) (n := L) (w := wo) hlen hu (.inr (Nat.le_refl _)) hd)
      have HV := Lib.hid hv
      have HB := Lib.hid hB
      clear hlen hu hv hd hr5 hB hL2
      go_wp2_with fail
      refine Htr.out.mono ?_
      rintro e w1 ⟨kk, rfl, -, -, hu, hx⟩
      rw [HV.out] at hu
      go_wp2
      go_ret
      exact ⟨_, rfl, hu, HB.out.trans hx⟩
end Go.Proofs.YtegjcikofmphjaaGreatDoor
/- The reference of layers 1 and 2: Mul, times of right numbers. -/
namespace Go.Proofs.YtegjcikofmphjaaGreatDoor
open Go Go.RowKit Go.Shelf
theorem ent_rtimes (args : Array Value) (w : World) : (callFunc 94 args).run Tryz.prog w = .ok (.enter 94 args) w := enters_of Tryz.func94 (by kernel_rfl) rfl args w
theorem ent_rmade (args : Array Value) (w : World) : (callFunc 64 args).run Tryz.prog w = .ok (.enter 64 args) w := enters_of Tryz.func64 (by kernel_rfl) rfl args w
def US (X : Nat) (v : Value) (W : World) : Prop := U32s W.heap.size W v (digs X)
theorem US.ext {X : Nat} {v : Value} {W W' : World} (h : US X v W) (hx : Ext W W') : US X v W' := hx.u32s h
def NumTrue (z : Int) (v : Value) (W : World) : Prop := ∃ r, v = .tuple #[r, .bool true] ∧ IsN z r W
theorem NumTrue.ext {z : Int} {v : Value} {W W' : World} (h : NumTrue z v W) (hx : Ext W W') : NumTrue z v W' := by
  obtain ⟨r, e, hz⟩ := h; exact ⟨r, e, hz.ext hx⟩
theorem times_z (v u : Value) (X Y : Nat) (w : World) (hx : US X v w) (hy : US Y u w) (lx : (digs X).length ≤ 64) (ly : (digs Y).length ≤ 64) : Calls Tryz.prog 94 #[v, u] w fun e w' => ∃ r, e = .returned r ∧ US (X * Y) r w' ∧ Ext w w' := by
  refine (rtimes_calls v u _ _ w hx hy (digs_digits X) (digs_digits Y) lx ly).mono ?_
  rintro e w' ⟨r, rfl, hr, hx⟩
  rw [val_digs, val_digs] at hr
  exact ⟨r, rfl, hr, hx⟩
theorem made_t (neg : Bool) (v : Value) (X : Nat) (z : Int) (w : World) (hu : US X v w) (h64 : X < B32 ^ 64) (hz : madeZ neg X = z) : Calls Tryz.prog 64 #[.bool neg, v] w fun e w' => ∃ t, e = .returned t ∧ NumTrue z t w' ∧ Ext w w' := by
  subst hz
  refine (made_digs neg v X w hu h64).mono ?_
  rintro e w' ⟨p, n, c, rfl, hz, hx⟩
  exact ⟨_, rfl, ⟨_, rfl, hz⟩, hx⟩
theorem madeZ_mul (za zb : Int) : madeZ (decide (za < 0) != decide (zb < 0)) (za.natAbs * zb.natAbs) = za * zb := by
  unfold madeZ
  rw [Int.natCast_mul]
  have ea : (za.natAbs : Int) = if za < 0 then -za else za := by split <;> omega
  have eb : (zb.natAbs : Int) = if zb < 0 then -zb else zb := by split <;> omega
  rw [ea, eb]
  by_cases h1 : za < 0 <;> by_cases h2 : zb < 0 <;> simp [h1, h2] <;> grind
theorem run_neq_bb {o : Oper} {a : Act} {w : World} (x y : Operand) (ho : o.op = .binOp .neq 4 x y 4) (u v : Bool) (hx : a.eval x = .bool u) (hy : a.eval y = .bool v) : (execOp a.eval o).run Tryz.prog w = .ok (.value (.bool (u != v))) w := by
  unfold execOp
  simp only [ho, hx, hy]
  simp [go_sem]
  cases u <;> cases v <;> rfl
def muF (g0 : Nat) (na nb : Bool) (p q : Option Addr) (n c m c2 X Y : Nat) (z : Int) : Nat → Value → World → Prop
  | 0, v, _ => v = .pointer (some ⟨g0, 0, none⟩)
  | 1, v, _ => v = .bool na
  | 2, v, _ => v = .pointer (some ⟨g0 + 1, 0, none⟩)
  | 3, v, _ => v = .bool nb
  | 4, v, _ => v = .bool (na != nb)
  | 5, v, _ => v = .pointer (some ⟨g0, 1, none⟩)
  | 6, v, _ => v = .slice p n c
  | 7, v, _ => v = .pointer (some ⟨g0 + 1, 1, none⟩)
  | 8, v, _ => v = .slice q m c2
  | 9, v, W => US (X * Y) v W
  | 10, v, W => NumTrue z v W
  | 11, v, W => IsN z v W
  | 12, v, _ => v = .bool true
  | _, _, _ => True
theorem muF_mono {g0 : Nat} {na nb : Bool} {p q : Option Addr} {n c m c2 X Y : Nat} {z : Int} {W W' : World} (hx : Ext W W') (j : Nat) (v : Value) (h : muF g0 na nb p q n c m c2 X Y z j v W) : muF g0 na nb p q n c m c2 X Y z j v W' := by
  match j, h with
  | 0, h | 1, h | 2, h | 3, h | 4, h | 5, h | 6, h | 7, h | 8, h | 12, h => exact h
  | 9, h => exact US.ext h hx
  | 10, h => exact NumTrue.ext h hx
  | 11, h => exact IsN.ext h hx
  | _ + 13, _ => trivial
set_option maxRecDepth 100000 in
set_option maxHeartbeats 8000000 in
theorem rmul_n (va vb : Value) (za zb z : Int) (w : World) (ha : IsN za va w) (hb : IsN zb vb w) (hz : za * zb = z) (hl : z.natAbs < B32 ^ 64) : Calls Tryz.prog 75 #[va, vb] w fun e w' => ∃ v, e = .returned (.tuple #[v, .bool true]) ∧ IsN z v w' ∧ Ext w w' := by
  obtain ⟨p, c, rfl⟩ := ZNum.parts ha
  obtain ⟨q, c2, rfl⟩ := ZNum.parts hb
  have US_A := Lib.hid (show US za.natAbs _ w from znum_slice ha)
  have US_B := Lib.hid (show US zb.natAbs _ w from znum_slice hb)
  have LA := Lib.hid (digs_len64 ha.2)
  have LB := Lib.hid (digs_len64 hb.2)
  have HM : Hid (madeZ (decide (za < 0) != decide (zb < 0)) (za.natAbs * zb.natAbs) = z) := by show _ = z; rw [madeZ_mul, hz]
  have HL : Hid (za.natAbs * zb.natAbs < B32 ^ 64) := by show _ < _; rw [← Int.natAbs_mul, hz]; exact hl
  obtain ⟨na, hna⟩ : ∃ na, na = decide (za < 0) := ⟨_, rfl⟩
  obtain ⟨nb, hnb⟩ : ∃ nb, nb = decide (zb < 0) := ⟨_, rfl⟩
  obtain ⟨X, hX⟩ : ∃ X, X = za.natAbs := ⟨_, rfl⟩
  obtain ⟨Y, hY⟩ : ∃ Y, Y = zb.natAbs := ⟨_, rfl⟩
  rw [← hna] at ha HM ⊢
  rw [← hnb] at hb HM ⊢
  rw [← hX] at ha HM HL US_A LA ⊢
  rw [← hY] at hb HM HL US_B LB ⊢
  obtain ⟨n, hn⟩ : ∃ n, n = (digs X).length := ⟨_, rfl⟩
  obtain ⟨m, hm⟩ : ∃ m, m = (digs Y).length := ⟨_, rfl⟩
  rw [← hn] at ha US_A ⊢
  rw [← hm] at hb US_B ⊢
  have NA := Lib.hid ha
  have NB := Lib.hid hb
  have E := Lib.hid (Ext.refl w)
  clear ha hb hz hl hna hnb hX hY hn hm
  obtain ⟨W0a, hW0a⟩ : ∃ W0a, W0a = (((w.alloc (.cells #[.bool na, .slice p n c] 25)).alloc (.cells #[.bool nb, .slice q m c2] 25)).alloc (.cells #[.bool false, .slice none 0 0] 25)) := ⟨_, rfl⟩
  have hx : Ext w W0a := by rw [hW0a]; exact (((Ext.alloc _ _).trans (Ext.alloc _ _)).trans (Ext.alloc _ _))
  have A_n : RowAt W0a (w.heap.size) 25 (numCells na p n c) := by rw [hW0a]; exact (((RowAt.new' _ _ (by simp)).alloc _).alloc _)
  have B_n : RowAt W0a (w.heap.size + 1) 25 (numCells nb q m c2) := by rw [hW0a]; exact ((RowAt.new' _ _ (by simp)).alloc _)
  have P_n : RowAt W0a (w.heap.size + 1 + 1) 25 (numCells false none 0 0) := by rw [hW0a]; exact (RowAt.new' _ _ (by simp))
  have NA1 := Lib.hid (hx.num NA.out)
  have NB1 := Lib.hid (hx.num NB.out)
  have E1 := Lib.hid (E.out.trans hx)
  have US_A1 := Lib.hid (US.ext US_A.out hx)
  have US_B1 := Lib.hid (US.ext US_B.out hx)
  clear NA NB E US_A US_B
  have A_1 := Lib.hid A_n
  have B_1 := Lib.hid B_n
  have P_1 := Lib.hid P_n
  have HW0a := Lib.hid hW0a
  clear hx hW0a A_n B_n P_n
  go_enter Tryz.func75, Tryz.ntmps75
  go_wp2_with fail
  rw [← HW0a.out]
  refine (rright_z _ _ W0a NA1.out).mono ?_
  rintro e w2_ ⟨rfl, hx⟩
  have NA2 := Lib.hid (hx.num NA1.out)
  have NB2 := Lib.hid (hx.num NB1.out)
  have E2 := Lib.hid (E1.out.trans hx)
  have US_A2 := Lib.hid (US.ext US_A1.out hx)
  have US_B2 := Lib.hid (US.ext US_B1.out hx)
  have A_2 := Lib.hid (hx.row A_1.out)
  have B_2 := Lib.hid (hx.row B_1.out)
  have P_2 := Lib.hid (hx.row P_1.out)
  clear NA1 NB1 E1 US_A1 US_B1 A_1 B_1 P_1
  clear hx
  have cB__num0_2 := B_2.out.num0
  have cB__num1_2 := B_2.out.num1
  go_wp2_with fail
  refine (rright_z _ _ w2_ NB2.out).mono ?_
  rintro e w3_ ⟨rfl, hx⟩
  clear cB__num0_2 cB__num1_2
  have NA3 := Lib.hid (hx.num NA2.out)
  have NB3 := Lib.hid (hx.num NB2.out)
  have E3 := Lib.hid (E2.out.trans hx)
  have US_A3 := Lib.hid (US.ext US_A2.out hx)
  have US_B3 := Lib.hid (US.ext US_B2.out hx)
  have A_3 := Lib.hid (hx.row A_2.out)
  have B_3 := Lib.hid (hx.row B_2.out)
  have P_3 := Lib.hid (hx.row P_2.out)
  clear NA2 NB2 E2 US_A2 US_B2 A_2 B_2 P_2
  clear hx
  go_upto_region 3 with fail
  refine wp_region_tail (fun D ac w' => ∃ vs : Nat → Value, ac = { tmps := #[Value.agg #[Value.bool na, Value.slice p n c], Value.agg #[Value.bool nb, Value.slice q m c2], Value.pointer (some { block := w.heap.size, off := 0 }), Value.pointer (some { block := w.heap.size + 1, off := 0 }), Value.pointer (some { block := w.heap.size + 1 + 1, off := 0 }), Value.bool false, Value.agg #[Value.bool na, Value.slice p n c], Value.bool true, Value.bool false, Value.bool false, Value.agg #[Value.bool nb, Value.slice q m c2], Value.bool true, Value.bool false, Value.bool false, undef, vs 0, vs 1, vs 2, vs 3, vs 4, vs 5, vs 6, vs 7, vs 8, vs 9, vs 10, vs 11, vs 12], defers := [] } ∧ Ext w3_ w' ∧ ∀ j, D j → muF w.heap.size na nb p q n c m c2 X Y z j (vs j) w') 13 (by kernel_rfl) (by kernel_rfl) (by kernel_rfl) ?start3 ?step3 ?fin3
  case start3 => exact ⟨fun _ => undef, rfl, Ext.drew _, fun _ h => h.elim⟩
  case step3 =>
    rintro i o D ac wz hin hio hnd he ⟨vs, rfl, k0, hF⟩
    rcases i with _ | _ | _ | _ | _ | _ | _ | _ | _ | _ | _ | _ | _ | i
    rotate_left 13
    · exact absurd hin (by omega)
    all_goals (obtain rfl := Option.some.inj (hio.symm.trans (by rfl)))
    · refine step_yes (wanted_of_none rfl _) ?_
      exact wp_of_run (run_field0 (.tmp 2) rfl _ rfl) ⟨upd vs 0 _, rfl, k0, inv_step hF (fun _ _ h => h) rfl⟩
    · refine step_yes (wanted_of_none rfl _) ?_
      exact wp_of_run (run_load_bool_at (.tmp 15) rfl _ (by exact (hF 0 (he ⟨0, .data⟩ (by simp) rfl))) _ ((k0.row A_3.out).cell 0)) ⟨upd vs 1 _, rfl, k0, inv_step hF (fun _ _ h => h) rfl⟩
    · refine step_yes (wanted_of_none rfl _) ?_
      exact wp_of_run (run_field0 (.tmp 3) rfl _ rfl) ⟨upd vs 2 _, rfl, k0, inv_step hF (fun _ _ h => h) rfl⟩
    · refine step_yes (wanted_of_none rfl _) ?_
      exact wp_of_run (run_load_bool_at (.tmp 17) rfl _ (by exact (hF 2 (he ⟨2, .data⟩ (by simp) rfl))) _ ((k0.row B_3.out).cell 0)) ⟨upd vs 3 _, rfl, k0, inv_step hF (fun _ _ h => h) rfl⟩
    · refine step_yes (wanted_of_none rfl _) ?_
      exact wp_of_run (run_neq_bb (.tmp 16) (.tmp 18) rfl _ _ (by exact (hF 1 (he ⟨1, .data⟩ (by simp) rfl))) (by exact (hF 3 (he ⟨3, .data⟩ (by simp) rfl)))) ⟨upd vs 4 _, rfl, k0, inv_step hF (fun _ _ h => h) rfl⟩
    · refine step_yes (wanted_of_none rfl _) ?_
      exact wp_of_run (run_field1 (.tmp 2) rfl _ rfl) ⟨upd vs 5 _, rfl, k0, inv_step hF (fun _ _ h => h) rfl⟩
    · refine step_yes (wanted_of_none rfl _) ?_
      exact wp_of_run (run_load_slice_at (.tmp 20) rfl _ (by exact (hF 5 (he ⟨5, .data⟩ (by simp) rfl))) _ _ _ ((k0.row A_3.out).cell 1)) ⟨upd vs 6 _, rfl, k0, inv_step hF (fun _ _ h => h) rfl⟩
    · refine step_yes (wanted_of_none rfl _) ?_
      exact wp_of_run (run_field1 (.tmp 3) rfl _ rfl) ⟨upd vs 7 _, rfl, k0, inv_step hF (fun _ _ h => h) rfl⟩
    · refine step_yes (wanted_of_none rfl _) ?_
      exact wp_of_run (run_load_slice_at (.tmp 22) rfl _ (by exact (hF 7 (he ⟨7, .data⟩ (by simp) rfl))) _ _ _ ((k0.row B_3.out).cell 1)) ⟨upd vs 8 _, rfl, k0, inv_step hF (fun _ _ h => h) rfl⟩
    · refine step_yes (wanted_of_none rfl _) ?_
      refine wp_of_callE (run_enter2 94 (.tmp 21) (.tmp 23) _ rfl _ _ (by exact (hF 6 (he ⟨6, .data⟩ (by simp) rfl))) (by exact (hF 8 (he ⟨8, .data⟩ (by simp) rfl))) ent_rtimes) (times_z _ _ X Y wz (US.ext US_A3.out k0) (US.ext US_B3.out k0) LA.out LB.out) ?_
      rintro e w' ⟨rr, rfl, hz, hx⟩
      exact ⟨_, rfl, upd vs 9 _, rfl, k0.trans hx, inv_step hF (fun j v h => muF_mono hx j v h) hz⟩
    · refine step_yes (wanted_of_none rfl _) ?_
      refine wp_of_callE (run_enter2 64 (.tmp 19) (.tmp 24) _ rfl _ _ (by exact (hF 4 (he ⟨4, .data⟩ (by simp) rfl))) rfl ent_rmade) (made_t (na != nb) _ (X * Y) z wz (hF 9 (he ⟨9, .data⟩ (by simp) rfl)) HL.out HM.out) ?_
      rintro e w' ⟨rr, rfl, hz, hx⟩
      exact ⟨_, rfl, upd vs 10 _, rfl, k0.trans hx, inv_step hF (fun j v h => muF_mono hx j v h) hz⟩
    · refine step_yes (wanted_of_none rfl _) ?_
      obtain ⟨rr, er, hz⟩ := (hF 10 (he ⟨10, .data⟩ (by simp) rfl))
      exact wp_of_run (run_extract (.tmp 25) 0 rfl _ (by exact er) rr rfl) ⟨upd vs 11 _, rfl, k0, inv_step hF (fun _ _ h => h) hz⟩
    · refine step_yes (wanted_of_none rfl _) ?_
      obtain ⟨rr, er, hz⟩ := (hF 10 (he ⟨10, .data⟩ (by simp) rfl))
      exact wp_of_run (run_extract (.tmp 25) 1 rfl _ (by exact er) (.bool true) rfl) ⟨upd vs 12 _, rfl, k0, inv_step hF (fun _ _ h => h) rfl⟩
  case fin3 =>
    rintro D ac wf3 hD ⟨vs, rfl, k0, hF⟩
    change wpList _ _ _ [_, _] _ _
    have h12 : vs 12 = .bool true := hF 12 (hD 12 (by decide))
    have h11 : IsN z (vs 11) wf3 := hF 11 (hD 11 (by decide))
    rw [h12]
    obtain ⟨vr, hvr⟩ : ∃ vr, vr = vs 11 := ⟨_, rfl⟩
    rw [← hvr] at h11 ⊢
    obtain ⟨nr, pr, lr, cr, rfl⟩ := IsN.parts h11
    have ZR := Lib.hid h11
    clear h11
    have NA4 := Lib.hid (k0.num NA3.out)
    have NB4 := Lib.hid (k0.num NB3.out)
    have E4 := Lib.hid (E3.out.trans k0)
    have US_A4 := Lib.hid (US.ext US_A3.out k0)
    have US_B4 := Lib.hid (US.ext US_B3.out k0)
    have A_4 := Lib.hid (k0.row A_3.out)
    have B_4 := Lib.hid (k0.row B_3.out)
    have P_4 := Lib.hid (k0.row P_3.out)
    clear NA3 NB3 E3 US_A3 US_B3 A_3 B_3 P_3
    clear hF hD h12 k0 hvr
    generalize vs = t3
    clear US_A4
    clear US_B4
    obtain ⟨W4c, hW4c⟩ : ∃ W4c, W4c = wf3.setRow (w.heap.size + 1 + 1) (numCells nr pr lr cr) := ⟨_, rfl⟩
    have NA5 := Lib.hid (show ZNum W4c.heap.size W4c _ _ from by rw [hW4c, setRow_size]; exact NA4.out.setNum P_4.out _)
    have NB5 := Lib.hid (show ZNum W4c.heap.size W4c _ _ from by rw [hW4c, setRow_size]; exact NB4.out.setNum P_4.out _)
    have E5 : Hid (Ext w W4c) := by rw [hW4c]; exact ext_setRow E4.out (by omega) _
    have A_5 := Lib.hid (show RowAt W4c (w.heap.size) _ _ from by rw [hW4c]; exact A_4.out.setRowOther _ (by omega))
    have B_5 := Lib.hid (show RowAt W4c (w.heap.size + 1) _ _ from by rw [hW4c]; exact B_4.out.setRowOther _ (by omega))
    have P_5 : Hid (RowAt W4c (w.heap.size + 1 + 1) 25 (numCells nr pr lr cr)) := by rw [hW4c]; exact P_4.out.setRow _
    have ZR5 := Lib.hid (show ZNum W4c.heap.size W4c _ _ from by rw [hW4c, setRow_size]; exact ZR.out.setNum P_4.out _)
    have HW4c := Lib.hid hW4c
    clear hW4c NA4 NB4 E4 A_4 B_4 ZR
    go_wp2_with (first | (refine store_num rfl (.tmp 4) (.tmp 26) rfl (w.heap.size + 1 + 1) rfl _ _ _ _ rfl _ _ P_4.out rfl ?_; rw [← HW4c.out]))
    exact ret_num rfl (w.heap.size + 1 + 1) rfl _ rfl _ _ _ _ _ P_5.out ⟨_, rfl, ZR5.out, E5.out⟩
end Go.Proofs.YtegjcikofmphjaaGreatDoor
/- The reference of layer 2: times. -/
namespace Go.Proofs.YtegjcikofmphjaaGreatDoor
open Go Go.RowKit Go.Shelf
theorem ent_r2times (args : Array Value) (w : World) : (callFunc 47 args).run Tryz.prog w = .ok (.enter 47 args) w := enters_of Tryz.func47 (by kernel_rfl) rfl args w
set_option maxRecDepth 100000 in
set_option maxHeartbeats 8000000 in
theorem r2times_n (va vb : Value) (za zb z : Int) (w : World) (ha : IsN za va w) (hb : IsN zb vb w) (hz : za * zb = z) (hl : z.natAbs < B32 ^ 64) : Calls Tryz.prog 47 #[va, vb] w fun e w' => ∃ v, e = .returned v ∧ IsN z v w' ∧ Ext w w' := by
  obtain ⟨na, p, n, c, rfl⟩ := IsN.parts ha
  obtain ⟨nb, q, m, c2, rfl⟩ := IsN.parts hb
  have NA := Lib.hid ha
  have NB := Lib.hid hb
  have HZ := Lib.hid hz
  have HL := Lib.hid hl
  have E := Lib.hid (Ext.refl w)
  clear ha hb hz hl
  obtain ⟨W0a, hW0a⟩ : ∃ W0a, W0a = (((w.alloc (.cells #[.bool na, .slice p n c] 25)).alloc (.cells #[.bool nb, .slice q m c2] 25)).alloc (.cells #[.bool false, .slice none 0 0] 25)) := ⟨_, rfl⟩
  have hx : Ext w W0a := by rw [hW0a]; exact (((Ext.alloc _ _).trans (Ext.alloc _ _)).trans (Ext.alloc _ _))
  have A_n : RowAt W0a (w.heap.size) 25 (numCells na p n c) := by rw [hW0a]; exact (((RowAt.new' _ _ (by simp)).alloc _).alloc _)
  have B_n : RowAt W0a (w.heap.size + 1) 25 (numCells nb q m c2) := by rw [hW0a]; exact ((RowAt.new' _ _ (by simp)).alloc _)
  have P_n : RowAt W0a (w.heap.size + 1 + 1) 25 (numCells false none 0 0) := by rw [hW0a]; exact (RowAt.new' _ _ (by simp))
  have NA1 := Lib.hid (hx.num NA.out)
  have NB1 := Lib.hid (hx.num NB.out)
  have E1 := Lib.hid (E.out.trans hx)
  clear NA NB E
  have A_1 := Lib.hid A_n
  have B_1 := Lib.hid B_n
  have P_1 := Lib.hid P_n
  have HW0a := Lib.hid hW0a
  clear hx hW0a A_n B_n P_n
  go_enter Tryz.func47, Tryz.ntmps47
  go_wp2_with fail
  rw [← HW0a.out]
  refine (rmul_n _ _ za zb z W0a NA1.out NB1.out HZ.out HL.out).mono ?_
  rintro e w2_ ⟨vr, rfl, hz, hx⟩
  have NA2 := Lib.hid (hx.num NA1.out)
  have NB2 := Lib.hid (hx.num NB1.out)
  have E2 := Lib.hid (E1.out.trans hx)
  have A_2 := Lib.hid (hx.row A_1.out)
  have B_2 := Lib.hid (hx.row B_1.out)
  have P_2 := Lib.hid (hx.row P_1.out)
  clear NA1 NB1 E1 A_1 B_1 P_1
  have ZR2 := Lib.hid hz
  clear hx hz
  have LP := Lib.hid (P_2.out.lt)
  obtain ⟨nr, pr, lr, cr, rfl⟩ := IsN.parts ZR2.out
  clear NA2
  clear NB2
  obtain ⟨W2b, hW2b⟩ : ∃ W2b, W2b = (w2_.alloc (.cells #[.bool false, .slice none 0 0] 25)).setRow w2_.heap.size (numCells nr pr lr cr) := ⟨_, rfl⟩
  have hx : Ext w2_ W2b := by rw [hW2b]; exact ext_setRow (Ext.alloc _ _) (Nat.le_refl _) _
  have N_n : RowAt W2b w2_.heap.size 25 (numCells nr pr lr cr) := by rw [hW2b]; exact (RowAt.new _ _ _).setRow _
  have E3 := Lib.hid (E2.out.trans hx)
  have A_3 := Lib.hid (hx.row A_2.out)
  have B_3 := Lib.hid (hx.row B_2.out)
  have P_3 := Lib.hid (hx.row P_2.out)
  have ZR3 := Lib.hid (hx.num ZR2.out)
  clear E2 A_2 B_2 P_2 ZR2
  have N_3 := Lib.hid N_n
  have HW2b := Lib.hid hW2b
  clear hx hW2b N_n
  have cN__num0_3 := N_3.out.num0
  have cN__num1_3 := N_3.out.num1
  obtain ⟨W3c, hW3c⟩ : ∃ W3c, W3c = W2b.setRow (w.heap.size + 1 + 1) (numCells nr pr lr cr) := ⟨_, rfl⟩
  have E4 : Hid (Ext w W3c) := by rw [hW3c]; exact ext_setRow E3.out (by omega) _
  have A_4 := Lib.hid (show RowAt W3c (w.heap.size) _ _ from by rw [hW3c]; exact A_3.out.setRowOther _ (by have := LP.out; omega))
  have B_4 := Lib.hid (show RowAt W3c (w.heap.size + 1) _ _ from by rw [hW3c]; exact B_3.out.setRowOther _ (by have := LP.out; omega))
  have P_4 : Hid (RowAt W3c (w.heap.size + 1 + 1) 25 (numCells nr pr lr cr)) := by rw [hW3c]; exact P_3.out.setRow _
  have ZR4 := Lib.hid (show ZNum W3c.heap.size W3c _ _ from by rw [hW3c, setRow_size]; exact ZR3.out.setNum P_3.out _)
  have N_4 := Lib.hid (show RowAt W3c w2_.heap.size _ _ from by rw [hW3c]; exact N_3.out.setRowOther _ (by have := LP.out; omega))
  have HW3c := Lib.hid hW3c
  clear hW3c E3 A_3 B_3 ZR3 N_3
  go_wp2_with (first | (refine store_num rfl (.tmp 5) (.tmp 11) rfl w2_.heap.size rfl _ _ _ _ rfl _ _ (RowAt.new' _ _ rfl) rfl ?_; rw [← HW2b.out]) | (refine store_num rfl (.tmp 4) (.tmp 13) rfl (w.heap.size + 1 + 1) rfl _ _ _ _ rfl _ _ P_3.out rfl ?_; rw [← HW3c.out]))
  exact ret_num1 rfl (w.heap.size + 1 + 1) rfl _ _ _ _ _ P_4.out ⟨_, rfl, ZR4.out, E4.out⟩
end Go.Proofs.YtegjcikofmphjaaGreatDoor

