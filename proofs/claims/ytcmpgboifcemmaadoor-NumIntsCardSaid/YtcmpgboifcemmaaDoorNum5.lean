/- Layer 1: combine, sum, difference. -/
import Derived.Test.YtcmpgboifcemmaaDoorNum4
set_option linter.all false
namespace Go.Proofs.YtcmpgboifcemmaaDoor
open Go Go.RowKit Go.Shelf

section
variable (lo hi : Nat → Nat → Nat → Nat) (xs ys : List Nat)
/-- What is carried to the k-th digit. -/
def carryTo : Nat → Nat
  | 0 => 0
  | k + 1 => hi (xs[k]?.getD 0) (ys[k]?.getD 0) (carryTo k)
def digitAt (k : Nat) : Nat := lo (xs[k]?.getD 0) (ys[k]?.getD 0) (carryTo hi xs ys k)
def rowTo : Nat → List Nat
  | 0 => List.replicate 65 0
  | k + 1 => (rowTo k).set k (digitAt lo hi xs ys k)
def combRow : List Nat := (rowTo lo hi xs ys xs.length).set xs.length (carryTo hi xs ys xs.length)
theorem rowTo_length (k : Nat) : (rowTo lo hi xs ys k).length = 65 := by
  induction k with
  | zero => simp [rowTo]
  | succ k ih => simp [rowTo, ih]
theorem combRow_length : (combRow lo hi xs ys).length = 65 := by simp [combRow, rowTo_length]
end

set_option maxRecDepth 100000 in
set_option maxHeartbeats 2000000 in
theorem combine_calls (J : Nat) (eg : ∀ args w, (callFunc J args).run Tryd.prog w = .ok (.enter J args) w) (lo hi : Nat → Nat → Nat → Nat)
    (hj : ∀ (x y c : Nat) (W : World), x < B32 → y < B32 → c ≤ 1 → Calls Tryd.prog J #[.int .u32 x, .int .u32 y, .int .u32 c] W fun e w' => e = .returned (.agg #[.int .u32 (lo x y c : Nat), .int .u32 (hi x y c : Nat)]) ∧ Below W.heap.size W w')
    (hhi : ∀ x y c, x < B32 → y < B32 → c ≤ 1 → hi x y c ≤ 1)
    (v u : Value) (xs ys : List Nat) (w : World) (hx : U32s w.heap.size w v xs) (hy : U32s w.heap.size w u ys) (hdx : Digits xs) (hdy : Digits ys) (h64 : xs.length ≤ 64) :
    Calls Tryd.prog 52 #[v, u, .func (.func J) #[] #[]] w fun e w' => e = .returned (.agg (arr (combRow lo hi xs ys))) ∧ Below w.heap.size w w' := by
  obtain ⟨p, cap, rfl, hl, hc⟩ := hx
  obtain ⟨q, cap2, rfl, hl2, hc2⟩ := hy
  have hlm2 := digs_lt_maxLen hl2
  have hcarry : ∀ k, carryTo hi xs ys k ≤ 1 := fun k => by
    induction k with
    | zero => simp [carryTo]
    | succ k ih => exact hhi _ _ _ (hdx.getD k) (hdy.getD k) ih
  have HC := Lib.hid hcarry
  have HJ := Lib.hid hj
  have Hc := Lib.hid hc
  have Hc2 := Lib.hid hc2
  obtain ⟨n, hn⟩ : ∃ n, n = xs.length := ⟨_, rfl⟩
  obtain ⟨m, hm⟩ : ∃ m, m = ys.length := ⟨_, rfl⟩
  rw [← hn] at h64
  rw [← hm] at hlm2
  have Hn := Lib.hid hn
  have Hm := Lib.hid hm
  rw [← hn, ← hm]
  clear hcarry hj hc hc2 hl hl2 hhi hn hm
  go_enter Tryd.func52, Tryd.ntmps52
  go_wp2
  go_loopw [8, 15] (fun c i wr => ∃ k : Nat, k ≤ n ∧ i = .int .i64 k ∧ c = .int .u32 (carryTo hi xs ys k : Nat) ∧ RowAt wr w.heap.size 52 Tryd.zeroCells52 ∧ RowAt wr (w.heap.size + 1) 52 (arr (rowTo lo hi xs ys k)) ∧ Below w.heap.size w wr)
    (fun _ i _ => n - (intOf i).toNat)
  case atStart => exact ⟨0, Nat.zero_le _, rfl, rfl, (RowAt.new w _ _).alloc _, by rw [rowTo, ← zero_row]; exact RowAt.new' _ _ (by simp), ((Below.refl _ w).alloc (Nat.le_refl _) _).alloc (by simp) _⟩
  case round =>
    obtain ⟨k, hk, rfl, rfl, hr6, hr7, hB⟩ := hrel
    by_cases hlt : k < n
    · obtain ⟨b, off, rfl, hbB, hcs⟩ := Hc.out (by rw [← Hn.out]; exact Nat.lt_of_le_of_lt (Nat.zero_le _) hlt)
      have hcx := (hB.cell (p := ⟨b, off + k, none⟩) hbB).trans (hcs k (by rw [← Hn.out]; exact hlt))
      clear hcs
      have hxk := hdx.getD k
      have hyk := hdy.getD k
      have hck := HC.out k
      have hs1 : carryTo hi xs ys (k + 1) = hi (xs[k]?.getD 0) (ys[k]?.getD 0) (carryTo hi xs ys k) := rfl
      have hs2 : rowTo lo hi xs ys (k + 1) = (rowTo lo hi xs ys k).set k (lo (xs[k]?.getD 0) (ys[k]?.getD 0) (carryTo hi xs ys k)) := rfl
      have hrl := rowTo_length lo hi xs ys k
      have hyz : ¬ k < m → ys[k]?.getD 0 = 0 := fun h => by rw [List.getElem?_eq_none (by rw [← Hm.out]; omega)]; rfl
      have hyc : k < m → ∃ b2 off2, q = some ⟨b2, off2, none⟩ ∧ wr.cell? ⟨b2, off2 + k, none⟩ = some (.int .u32 (ys[k]?.getD 0 : Nat)) := fun h => by
        obtain ⟨b2, off2, rfl, hb2, hcs⟩ := Hc2.out (by rw [← Hm.out]; exact Nat.lt_of_le_of_lt (Nat.zero_le _) h)
        exact ⟨b2, off2, rfl, (hB.cell (p := ⟨b2, off2 + k, none⟩) hb2).trans (hcs k (by rw [← Hm.out]; exact h))⟩
      generalize xs[k]?.getD 0 = x at *
      generalize ys[k]?.getD 0 = y at *
      generalize carryTo hi xs ys k = c at *
      generalize rowTo lo hi xs ys k = row at *
      have Hs1 := Lib.hid hs1
      have Hs2 := Lib.hid hs2
      have Hrl := Lib.hid hrl
      clear hs1 hs2 hrl
      have hsz := hr7.lt
      by_cases hkm : k < m
      · obtain ⟨b2, off2, rfl, hcy⟩ := hyc hkm
        have HX := Lib.hid (And.intro hxk (And.intro hyk hck))
        clear hyc hyz hxk hyk hck
        go_wp2_with fail
        refine (HJ.out x y c _ HX.out.1 HX.out.2.1 HX.out.2.2).mono ?_
        rintro e w1 ⟨rfl, hb1⟩
        have hr71 := hr7.below hb1 hsz
        have hc70 := (hr71.cell k).trans (arr_get row k (by rw [Hrl.out]; omega))
        have hk65 : (k : Int) < 65 := by omega
        have hf70 := hr71.frozen k
        have hsz1 := Nat.lt_of_lt_of_le hsz hb1.size
        have Hr61 := Lib.hid (hr6.below hb1 hr6.lt)
        have Hr71 := Lib.hid hr71
        clear hr71
        go_wp2
        go_region
        all_goals go_wp2
        all_goals go_roundw
        case rel => exact ⟨k + 1, by omega, by simp, by rw [Hs1.out], ((Hr61.out.setOther _ _ (by simp)).alloc _).drew, by rw [Hs2.out, ← arr_set]; exact ((Hr71.out.set k _).alloc _).drew, (((hB.trans (hb1.mono hB.size)).setCell (p := ⟨w.heap.size + 1, k, none⟩) (Nat.le_succ _) _).alloc (by simp [World.setCell]; have := hb1.size; have := hB.size; omega) _).drew⟩
        case measure => simp [intOf]; omega
      · obtain rfl : y = 0 := hyz hkm
        have HX := Lib.hid (And.intro hxk (And.intro hyk hck))
        clear hyc hyz hxk hyk hck
        have hcall : Calls Tryd.prog J #[.int .u32 x, .int .u32 0, .int .u32 c] wr _ := HJ.out x 0 c wr HX.out.1 HX.out.2.1 HX.out.2.2
        have Hcall := Lib.hid hcall
        clear hcall
        go_wp2_with fail
        refine Hcall.out.mono ?_
        rintro e w1 ⟨rfl, hb1⟩
        have hr71 := hr7.below hb1 hsz
        have hc70 := (hr71.cell k).trans (arr_get row k (by rw [Hrl.out]; omega))
        have hk65 : (k : Int) < 65 := by omega
        have hf70 := hr71.frozen k
        have hsz1 := Nat.lt_of_lt_of_le hsz hb1.size
        have Hr61 := Lib.hid (hr6.below hb1 hr6.lt)
        have Hr71 := Lib.hid hr71
        clear hr71
        go_wp2
        go_region
        all_goals go_wp2
        all_goals go_roundw
        case rel => exact ⟨k + 1, by omega, by simp, by rw [Hs1.out], ((Hr61.out.setOther _ _ (by simp)).alloc _).drew, by rw [Hs2.out, ← arr_set]; exact ((Hr71.out.set k _).alloc _).drew, (((hB.trans (hb1.mono hB.size)).setCell (p := ⟨w.heap.size + 1, k, none⟩) (Nat.le_succ _) _).alloc (by simp [World.setCell]; have := hb1.size; have := hB.size; omega) _).drew⟩
        case measure => simp [intOf]; omega
    · obtain rfl : k = n := by omega
      have hsz := hr7.lt
      have hrl := rowTo_length lo hi xs ys k
      have hcb : combRow lo hi xs ys = (rowTo lo hi xs ys k).set k (carryTo hi xs ys k) := by unfold combRow; rw [← Hn.out]
      have hcl := combRow_length lo hi xs ys
      have hc7 := (hr7.cell k).trans (arr_get _ k (by rw [hrl]; omega))
      have hf7 := hr7.frozen k
      have hk65 : (k : Int) < 65 := by omega
      have Hrow := Lib.hid (show RowAt (wr.setCell ⟨w.heap.size + 1, k, none⟩ (.int .u32 (carryTo hi xs ys k : Nat))) (w.heap.size + 1) 52 (arr (combRow lo hi xs ys)) by rw [hcb, ← arr_set]; exact hr7.set k _)
      have Hr6 := Lib.hid (hr6.setOther ⟨w.heap.size + 1, k, none⟩ (.int .u32 (carryTo hi xs ys k : Nat)) (by simp))
      have Hcl := Lib.hid hcl
      generalize carryTo hi xs ys k = c at *
      generalize rowTo lo hi xs ys k = row at *
      generalize hres : combRow lo hi xs ys = res at *
      have Hres := Lib.hid hres
      clear hres hrl hcb hcl hr6 hr7
      go_wp2_with (first
        | (refine load_row rfl (.tmp 7) rfl (w.heap.size + 1) rfl res Hcl.out 52 Hrow.out ?_)
        | (refine store_row rfl (.tmp 6) (.tmp 44) rfl w.heap.size rfl res Hcl.out rfl 52 Tryd.zeroCells52 Hr6.out (by kernel_rfl) ?_))
      refine ret_row rfl w.heap.size rfl res Hcl.out 52 (Hr6.out.setRow _) ⟨by rw [Hres.out], below_setRow2 (hB.setCell (p := ⟨w.heap.size + 1, k, none⟩) (Nat.le_succ _) _) (Nat.le_refl _) _⟩

set_option maxHeartbeats 1000000 in
theorem difference_calls (v u : Value) (xs ys : List Nat) (w : World) (hx : U32s w.heap.size w v xs) (hy : U32s w.heap.size w u ys) (hdx : Digits xs) (hdy : Digits ys) (h64 : xs.length ≤ 64) :
    Calls Tryd.prog 30 #[v, u] w fun e w' => e = .returned (.agg (arr (combRow subLo subHi xs ys))) ∧ Below w.heap.size w w' := by
  have hcall := combine_calls 54 (enters_of Tryd.func54 (by kernel_rfl) rfl) subLo subHi (fun x y c W h1 h2 h3 => difference1_calls x y c h1 h2 h3 W) (fun x y c _ _ _ => by unfold subHi; split <;> omega) v u xs ys (w.alloc (.cells Tryd.zeroCells52 52))
    ((hx.below ((Below.refl _ w).alloc (Nat.le_refl _) _)).mono (by simp)) ((hy.below ((Below.refl _ w).alloc (Nat.le_refl _) _)).mono (by simp)) hdx hdy h64
  have hcl := combRow_length subLo subHi xs ys
  have Hcall := Lib.hid hcall
  have Hcl := Lib.hid hcl
  generalize hres : combRow subLo subHi xs ys = res at *
  have Hres := Lib.hid hres
  have Hx := Lib.hid hx
  have Hy := Lib.hid hy
  clear hcall hcl hres hx hy
  go_enter Tryd.func30, Tryd.ntmps30
  go_wp2_with fail
  refine Hcall.out.mono ?_
  rintro e w1 ⟨rfl, hb1⟩
  have Hr := Lib.hid ((RowAt.new w 52 Tryd.zeroCells52).below hb1 (by simp))
  go_wp2_with (refine store_row rfl (.tmp 4) (.tmp 7) rfl w.heap.size rfl res Hcl.out rfl 52 Tryd.zeroCells52 Hr.out (by kernel_rfl) ?_)
  refine ret_row rfl w.heap.size rfl res Hcl.out 52 (Hr.out.setRow _) ⟨rfl, below_setRow2 (((Below.refl _ w).alloc (Nat.le_refl _) _).trans (hb1.mono (by simp))) (Nat.le_refl _) _⟩

def sumRow (xs ys : List Nat) : List Nat := if xs.length < ys.length then combRow addLo addHi ys xs else combRow addLo addHi xs ys
theorem sumRow_length (xs ys : List Nat) : (sumRow xs ys).length = 65 := by unfold sumRow; split <;> exact combRow_length _ _ _ _

theorem sumComb (v u : Value) (xs ys : List Nat) (w : World) (hx : U32s w.heap.size w v xs) (hy : U32s w.heap.size w u ys) (hdx : Digits xs) (hdy : Digits ys) (h64 : xs.length ≤ 64) :
    Calls Tryd.prog 52 #[v, u, .func (.func 53) #[] #[]] (w.alloc (.cells Tryd.zeroCells52 52)) fun e w' => e = .returned (.agg (arr (combRow addLo addHi xs ys))) ∧ Below (w.alloc (.cells Tryd.zeroCells52 52)).heap.size (w.alloc (.cells Tryd.zeroCells52 52)) w' :=
  combine_calls 53 (enters_of Tryd.func53 (by kernel_rfl) rfl) addLo addHi (fun x y c W h1 h2 h3 => sum1_calls x y c h1 h2 h3 W) (fun x y c h1 h2 h3 => by unfold addHi B32 at *; omega) v u xs ys (w.alloc (.cells Tryd.zeroCells52 52))
    ((hx.below ((Below.refl _ w).alloc (Nat.le_refl _) _)).mono (by simp)) ((hy.below ((Below.refl _ w).alloc (Nat.le_refl _) _)).mono (by simp)) hdx hdy h64

set_option maxHeartbeats 1000000 in
theorem sum_calls (v u : Value) (xs ys : List Nat) (w : World) (hx : U32s w.heap.size w v xs) (hy : U32s w.heap.size w u ys) (hdx : Digits xs) (hdy : Digits ys) (h64 : xs.length ≤ 64) (h64y : ys.length ≤ 64) :
    Calls Tryd.prog 29 #[v, u] w fun e w' => e = .returned (.agg (arr (sumRow xs ys))) ∧ Below w.heap.size w w' := by
  have hcl := sumRow_length xs ys
  by_cases hlt : xs.length < ys.length
  · have hcall := sumComb u v ys xs w hy hx hdy hdx h64y
    have hres : combRow addLo addHi ys xs = sumRow xs ys := by unfold sumRow; rw [if_pos hlt]
    rw [hres] at hcall
    generalize sumRow xs ys = res at *
    obtain ⟨p, cap, rfl, -, -⟩ := hx
    obtain ⟨q, cap2, rfl, -, -⟩ := hy
    have Hcall := Lib.hid hcall
    have Hcl := Lib.hid hcl
    clear hcall hcl hres
    go_enter Tryd.func29, Tryd.ntmps29
    go_wp2_with fail
    refine Hcall.out.mono ?_
    rintro e w1 ⟨rfl, hb1⟩
    have Hr := Lib.hid ((RowAt.new w 52 Tryd.zeroCells52).below hb1 (by simp))
    go_wp2_with (refine store_row rfl (.tmp 4) (.tmp 14) rfl w.heap.size rfl res Hcl.out rfl 52 Tryd.zeroCells52 Hr.out (by kernel_rfl) ?_)
    refine ret_row rfl w.heap.size rfl res Hcl.out 52 (Hr.out.setRow _) ⟨rfl, below_setRow2 (((Below.refl _ w).alloc (Nat.le_refl _) _).trans (hb1.mono (by simp))) (Nat.le_refl _) _⟩
  · have hcall := sumComb v u xs ys w hx hy hdx hdy h64
    have hres : combRow addLo addHi xs ys = sumRow xs ys := by unfold sumRow; rw [if_neg hlt]
    rw [hres] at hcall
    generalize sumRow xs ys = res at *
    obtain ⟨p, cap, rfl, -, -⟩ := hx
    obtain ⟨q, cap2, rfl, -, -⟩ := hy
    have Hcall := Lib.hid hcall
    have Hcl := Lib.hid hcl
    have hge : ys.length ≤ xs.length := by omega
    clear hcall hcl hres hlt
    go_enter Tryd.func29, Tryd.ntmps29
    go_wp2_with fail
    refine Hcall.out.mono ?_
    rintro e w1 ⟨rfl, hb1⟩
    have Hr := Lib.hid ((RowAt.new w 52 Tryd.zeroCells52).below hb1 (by simp))
    go_wp2_with (refine store_row rfl (.tmp 4) (.tmp 14) rfl w.heap.size rfl res Hcl.out rfl 52 Tryd.zeroCells52 Hr.out (by kernel_rfl) ?_)
    refine ret_row rfl w.heap.size rfl res Hcl.out 52 (Hr.out.setRow _) ⟨rfl, below_setRow2 (((Below.refl _ w).alloc (Nat.le_refl _) _).trans (hb1.mono (by simp))) (Nat.le_refl _) _⟩

end Go.Proofs.YtcmpgboifcemmaaDoor
