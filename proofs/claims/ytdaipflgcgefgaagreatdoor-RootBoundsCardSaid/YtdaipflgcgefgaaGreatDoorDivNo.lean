
/- Division of numbers that are not right, or by what is not positive: in num and in the reference. (Written by gen_divno.py.) -/
import Derived.Test.YtdaipflgcgefgaaGreatDoorRefA
import Derived.Test.YtdaipflgcgefgaaGreatDoorNum27
set_option linter.all false
namespace Go.Proofs.YtdaipflgcgefgaaGreatDoor
open Go Go.RowKit Go.Shelf

theorem znum_zero (B : Nat) (w : World) : ZNum B w (.agg #[.bool false, .slice none 0 0]) 0 := ⟨⟨.slice none 0 0, rfl, u32s_nil _ _⟩, Nat.pow_pos B32_pos⟩
theorem gives2_zero {w w' : World} (h : Below w.heap.size w w') : Gives2 w 0 0 false false false (.returned (.tuple #[.agg #[.bool false, .slice none 0 0], .agg #[.bool false, .slice none 0 0], .bool false])) w' :=
  ⟨none, 0, 0, none, 0, 0, rfl, znum_zero _ _, znum_zero _ _, h⟩

set_option maxRecDepth 100000 in
set_option maxHeartbeats 2000000 in
theorem div_no (na nb : Bool) (p q : Option Addr) (n c m c2 : Nat) (da db : List Nat) (w : World) (ha : U32s w.heap.size w (.slice p n c) da) (hb : U32s w.heap.size w (.slice q m c2) db) (hno : ¬ (rightB na da = true ∧ rightB nb db = true ∧ nb = false ∧ 0 < m)) :
    Calls Tryz.prog 68 #[.agg #[.bool na, .slice p n c], .agg #[.bool nb, .slice q m c2]] w (Gives2 w 0 0 false false false) := by
  obtain ⟨W4, hW4⟩ : ∃ W4, W4 = (((w.alloc (.cells #[.bool na, .slice p n c] 25)).alloc (.cells #[.bool nb, .slice q m c2] 25)).alloc (.cells #[.bool false, .slice none 0 0] 25)).alloc (.cells #[.bool false, .slice none 0 0] 25) := ⟨_, rfl⟩
  have HB4 : Hid (Below w.heap.size w W4) := by rw [hW4]; exact ((((Below.refl _ w).alloc (Nat.le_refl _) _).alloc (by simp) _).alloc (by simp; omega) _).alloc (by simp; omega) _
  have Hz4 : Hid (W4.heap.size = w.heap.size + 4) := by show W4.heap.size = _; rw [hW4]; simp
  have HD4 : Hid (Df w.heap.size na nb p n c q m c2 W4) := by
    rw [hW4]
    exact ⟨(((RowAt.new w _ _).alloc _).alloc _).alloc _, ((RowAt.new' _ _ (by simp)).alloc _).alloc _, (RowAt.new' _ _ (by simp)).alloc _, RowAt.new' _ _ (by simp)⟩
  have HA := Lib.hid ((ha.below HB4.out).mono (by rw [Hz4.out]; omega : w.heap.size ≤ W4.heap.size))
  have HBn := Lib.hid ((hb.below HB4.out).mono (by rw [Hz4.out]; omega : w.heap.size ≤ W4.heap.size))
  have HW4 := Lib.hid hW4
  have Hno := Lib.hid hno
  clear hW4 ha hb hno
  go_enter Tryz.func68, Tryz.ntmps68
  go_wp2_with fail
  rw [← HW4.out]
  refine (right_calls na _ da W4 HA.out).mono ?_
  rintro e w1 ⟨rfl, hb1⟩
  have HD1 := Lib.hid (HD4.out.below hb1)
  have HBn1 := Lib.hid ((HBn.out.below hb1).mono (Below.size hb1))
  have HB1 := Lib.hid (HB4.out.trans (Below.mono hb1 (by rw [Hz4.out]; omega : w.heap.size ≤ W4.heap.size)))
  have hz1 : w.heap.size + 4 ≤ w1.heap.size := by rw [← Hz4.out]; exact Below.size hb1
  have h10 := HD1.out.rb.num0
  have h11 := HD1.out.rb.num1
  clear hb1
  cases hra : rightB na da
  · have Hfin : Hid (Below w.heap.size w ((w1.setRow (w.heap.size + 1 + 1) (numCells false none 0 0)).setRow (w.heap.size + 1 + 1 + 1) (numCells false none 0 0))) := below_setRow2 (below_setRow2 HB1.out (by omega) _) (by omega) _
    have Hs5 := Lib.hid (HD1.out.r5.setRowOther (k := w.heap.size + 1 + 1) (numCells false none 0 0) (by omega))
    have Hs4 := Lib.hid ((HD1.out.r4.setRow (numCells false none 0 0)).setRowOther (k := w.heap.size + 1 + 1 + 1) (numCells false none 0 0) (by omega))
    have Hs5' := Lib.hid (Hs5.out.setRow (numCells false none 0 0))
    go_wp2_with (first
      | (refine store_num rfl (.tmp 4) (.tmp 31) rfl (w.heap.size + 1 + 1) rfl false none 0 0 rfl _ _ HD1.out.r4 rfl ?_)
      | (refine store_num rfl (.tmp 5) (.tmp 32) rfl (w.heap.size + 1 + 1 + 1) rfl false none 0 0 rfl _ _ Hs5.out rfl ?_))
    exact ret_num2 rfl (w.heap.size + 1 + 1) rfl (w.heap.size + 1 + 1 + 1) rfl _ rfl _ _ _ _ _ _ _ _ _ _ Hs4.out Hs5'.out (gives2_zero Hfin.out)
  · have Hra := Lib.hid hra
    clear hra
    go_wp2_with fail
    refine (right_calls nb _ db w1 HBn1.out).mono ?_
    rintro e w2 ⟨rfl, hb2⟩
    have HD2 := Lib.hid (HD1.out.below hb2)
    have HB2 := Lib.hid (HB1.out.trans (Below.mono hb2 (by omega : w.heap.size ≤ w1.heap.size)))
    have hz2 : w.heap.size + 4 ≤ w2.heap.size := Nat.le_trans hz1 (Below.size hb2)
    have h20 := HD2.out.rb.num0
    have h21 := HD2.out.rb.num1
    have h22 := HD2.out.ra.num0
    have h23 := HD2.out.ra.num1
    clear hb2 h10 h11 hz1
    have Hfin : Hid (Below w.heap.size w ((w2.setRow (w.heap.size + 1 + 1) (numCells false none 0 0)).setRow (w.heap.size + 1 + 1 + 1) (numCells false none 0 0))) := below_setRow2 (below_setRow2 HB2.out (by omega) _) (by omega) _
    have Hs5 := Lib.hid (HD2.out.r5.setRowOther (k := w.heap.size + 1 + 1) (numCells false none 0 0) (by omega))
    have Hs4 := Lib.hid ((HD2.out.r4.setRow (numCells false none 0 0)).setRowOther (k := w.heap.size + 1 + 1 + 1) (numCells false none 0 0) (by omega))
    have Hs5' := Lib.hid (Hs5.out.setRow (numCells false none 0 0))
    cases hrb : rightB nb db
    · go_wp2_with (first
        | (refine store_num rfl (.tmp 4) (.tmp 31) rfl (w.heap.size + 1 + 1) rfl false none 0 0 rfl _ _ HD2.out.r4 rfl ?_)
        | (refine store_num rfl (.tmp 5) (.tmp 32) rfl (w.heap.size + 1 + 1 + 1) rfl false none 0 0 rfl _ _ Hs5.out rfl ?_))
      exact ret_num2 rfl (w.heap.size + 1 + 1) rfl (w.heap.size + 1 + 1 + 1) rfl _ rfl _ _ _ _ _ _ _ _ _ _ Hs4.out Hs5'.out (gives2_zero Hfin.out)
    · cases hnb : nb
      · obtain rfl : m = 0 := by
          have := Hno.out
          rw [Hra.out, hrb, hnb] at this
          simp at this
          exact this
        subst hnb
        go_wp2_with (first
          | (refine store_num rfl (.tmp 4) (.tmp 31) rfl (w.heap.size + 1 + 1) rfl false none 0 0 rfl _ _ HD2.out.r4 rfl ?_)
          | (refine store_num rfl (.tmp 5) (.tmp 32) rfl (w.heap.size + 1 + 1 + 1) rfl false none 0 0 rfl _ _ Hs5.out rfl ?_))
        exact ret_num2 rfl (w.heap.size + 1 + 1) rfl (w.heap.size + 1 + 1 + 1) rfl _ rfl _ _ _ _ _ _ _ _ _ _ Hs4.out Hs5'.out (gives2_zero Hfin.out)
      · subst hnb
        go_wp2_with (first
          | (refine store_num rfl (.tmp 4) (.tmp 31) rfl (w.heap.size + 1 + 1) rfl false none 0 0 rfl _ _ HD2.out.r4 rfl ?_)
          | (refine store_num rfl (.tmp 5) (.tmp 32) rfl (w.heap.size + 1 + 1 + 1) rfl false none 0 0 rfl _ _ Hs5.out rfl ?_))
        exact ret_num2 rfl (w.heap.size + 1 + 1) rfl (w.heap.size + 1 + 1 + 1) rfl _ rfl _ _ _ _ _ _ _ _ _ _ Hs4.out Hs5'.out (gives2_zero Hfin.out)

set_option maxRecDepth 100000 in
set_option maxHeartbeats 2000000 in
theorem rdiv_no (na nb : Bool) (p q : Option Addr) (n c m c2 : Nat) (da db : List Nat) (w : World) (ha : U32s w.heap.size w (.slice p n c) da) (hb : U32s w.heap.size w (.slice q m c2) db) (hno : ¬ (rightB na da = true ∧ rightB nb db = true ∧ nb = false ∧ 0 < m)) :
    Calls Tryz.prog 44 #[.agg #[.bool na, .slice p n c], .agg #[.bool nb, .slice q m c2]] w (Gives2 w 0 0 false false false) := by
  obtain ⟨W4, hW4⟩ : ∃ W4, W4 = (((w.alloc (.cells #[.bool na, .slice p n c] 25)).alloc (.cells #[.bool nb, .slice q m c2] 25)).alloc (.cells #[.bool false, .slice none 0 0] 25)).alloc (.cells #[.bool false, .slice none 0 0] 25) := ⟨_, rfl⟩
  have HB4 : Hid (Below w.heap.size w W4) := by rw [hW4]; exact ((((Below.refl _ w).alloc (Nat.le_refl _) _).alloc (by simp) _).alloc (by simp; omega) _).alloc (by simp; omega) _
  have Hz4 : Hid (W4.heap.size = w.heap.size + 4) := by show W4.heap.size = _; rw [hW4]; simp
  have HD4 : Hid (Df w.heap.size na nb p n c q m c2 W4) := by
    rw [hW4]
    exact ⟨(((RowAt.new w _ _).alloc _).alloc _).alloc _, ((RowAt.new' _ _ (by simp)).alloc _).alloc _, (RowAt.new' _ _ (by simp)).alloc _, RowAt.new' _ _ (by simp)⟩
  have HA := Lib.hid ((ha.below HB4.out).mono (by rw [Hz4.out]; omega : w.heap.size ≤ W4.heap.size))
  have HBn := Lib.hid ((hb.below HB4.out).mono (by rw [Hz4.out]; omega : w.heap.size ≤ W4.heap.size))
  have HW4 := Lib.hid hW4
  have Hno := Lib.hid hno
  clear hW4 ha hb hno
  go_enter Tryz.func44, Tryz.ntmps44
  go_wp2_with fail
  rw [← HW4.out]
  refine (rright_calls na _ da W4 HA.out).mono ?_
  rintro e w1 ⟨rfl, hb1⟩
  have HD1 := Lib.hid (HD4.out.below hb1)
  have HBn1 := Lib.hid ((HBn.out.below hb1).mono (Below.size hb1))
  have HB1 := Lib.hid (HB4.out.trans (Below.mono hb1 (by rw [Hz4.out]; omega : w.heap.size ≤ W4.heap.size)))
  have hz1 : w.heap.size + 4 ≤ w1.heap.size := by rw [← Hz4.out]; exact Below.size hb1
  have h10 := HD1.out.rb.num0
  have h11 := HD1.out.rb.num1
  clear hb1
  cases hra : rightB na da
  · have Hfin : Hid (Below w.heap.size w ((w1.setRow (w.heap.size + 1 + 1) (numCells false none 0 0)).setRow (w.heap.size + 1 + 1 + 1) (numCells false none 0 0))) := below_setRow2 (below_setRow2 HB1.out (by omega) _) (by omega) _
    have Hs5 := Lib.hid (HD1.out.r5.setRowOther (k := w.heap.size + 1 + 1) (numCells false none 0 0) (by omega))
    have Hs4 := Lib.hid ((HD1.out.r4.setRow (numCells false none 0 0)).setRowOther (k := w.heap.size + 1 + 1 + 1) (numCells false none 0 0) (by omega))
    have Hs5' := Lib.hid (Hs5.out.setRow (numCells false none 0 0))
    go_wp2_with (first
      | (refine store_num rfl (.tmp 4) (.tmp 31) rfl (w.heap.size + 1 + 1) rfl false none 0 0 rfl _ _ HD1.out.r4 rfl ?_)
      | (refine store_num rfl (.tmp 5) (.tmp 32) rfl (w.heap.size + 1 + 1 + 1) rfl false none 0 0 rfl _ _ Hs5.out rfl ?_))
    exact ret_num2 rfl (w.heap.size + 1 + 1) rfl (w.heap.size + 1 + 1 + 1) rfl _ rfl _ _ _ _ _ _ _ _ _ _ Hs4.out Hs5'.out (gives2_zero Hfin.out)
  · have Hra := Lib.hid hra
    clear hra
    go_wp2_with fail
    refine (rright_calls nb _ db w1 HBn1.out).mono ?_
    rintro e w2 ⟨rfl, hb2⟩
    have HD2 := Lib.hid (HD1.out.below hb2)
    have HB2 := Lib.hid (HB1.out.trans (Below.mono hb2 (by omega : w.heap.size ≤ w1.heap.size)))
    have hz2 : w.heap.size + 4 ≤ w2.heap.size := Nat.le_trans hz1 (Below.size hb2)
    have h20 := HD2.out.rb.num0
    have h21 := HD2.out.rb.num1
    have h22 := HD2.out.ra.num0
    have h23 := HD2.out.ra.num1
    clear hb2 h10 h11 hz1
    have Hfin : Hid (Below w.heap.size w ((w2.setRow (w.heap.size + 1 + 1) (numCells false none 0 0)).setRow (w.heap.size + 1 + 1 + 1) (numCells false none 0 0))) := below_setRow2 (below_setRow2 HB2.out (by omega) _) (by omega) _
    have Hs5 := Lib.hid (HD2.out.r5.setRowOther (k := w.heap.size + 1 + 1) (numCells false none 0 0) (by omega))
    have Hs4 := Lib.hid ((HD2.out.r4.setRow (numCells false none 0 0)).setRowOther (k := w.heap.size + 1 + 1 + 1) (numCells false none 0 0) (by omega))
    have Hs5' := Lib.hid (Hs5.out.setRow (numCells false none 0 0))
    cases hrb : rightB nb db
    · go_wp2_with (first
        | (refine store_num rfl (.tmp 4) (.tmp 31) rfl (w.heap.size + 1 + 1) rfl false none 0 0 rfl _ _ HD2.out.r4 rfl ?_)
        | (refine store_num rfl (.tmp 5) (.tmp 32) rfl (w.heap.size + 1 + 1 + 1) rfl false none 0 0 rfl _ _ Hs5.out rfl ?_))
      exact ret_num2 rfl (w.heap.size + 1 + 1) rfl (w.heap.size + 1 + 1 + 1) rfl _ rfl _ _ _ _ _ _ _ _ _ _ Hs4.out Hs5'.out (gives2_zero Hfin.out)
    · cases hnb : nb
      · obtain rfl : m = 0 := by
          have := Hno.out
          rw [Hra.out, hrb, hnb] at this
          simp at this
          exact this
        subst hnb
        go_wp2_with (first
          | (refine store_num rfl (.tmp 4) (.tmp 31) rfl (w.heap.size + 1 + 1) rfl false none 0 0 rfl _ _ HD2.out.r4 rfl ?_)
          | (refine store_num rfl (.tmp 5) (.tmp 32) rfl (w.heap.size + 1 + 1 + 1) rfl false none 0 0 rfl _ _ Hs5.out rfl ?_))
        exact ret_num2 rfl (w.heap.size + 1 + 1) rfl (w.heap.size + 1 + 1 + 1) rfl _ rfl _ _ _ _ _ _ _ _ _ _ Hs4.out Hs5'.out (gives2_zero Hfin.out)
      · subst hnb
        go_wp2_with (first
          | (refine store_num rfl (.tmp 4) (.tmp 31) rfl (w.heap.size + 1 + 1) rfl false none 0 0 rfl _ _ HD2.out.r4 rfl ?_)
          | (refine store_num rfl (.tmp 5) (.tmp 32) rfl (w.heap.size + 1 + 1 + 1) rfl false none 0 0 rfl _ _ Hs5.out rfl ?_))
        exact ret_num2 rfl (w.heap.size + 1 + 1) rfl (w.heap.size + 1 + 1 + 1) rfl _ rfl _ _ _ _ _ _ _ _ _ _ Hs4.out Hs5'.out (gives2_zero Hfin.out)

end Go.Proofs.YtdaipflgcgefgaaGreatDoor
