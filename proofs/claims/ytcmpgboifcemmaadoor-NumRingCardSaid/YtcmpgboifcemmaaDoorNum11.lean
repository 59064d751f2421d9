/- Layer 1: Add, Sub, Mul, Cmp, at numbers that are right. -/
import Derived.Test.YtcmpgboifcemmaaDoorNum10
set_option linter.all false
namespace Go.Proofs.YtcmpgboifcemmaaDoor
open Go Go.RowKit Go.Shelf

/-- The value of a right number, taken apart. -/
theorem ZNum.parts {B : Nat} {w : World} {v : Value} {z : Int} (h : ZNum B w v z) : ∃ p c, v = .agg #[.bool (decide (z < 0)), .slice p (digs z.natAbs).length c] := by
  obtain ⟨⟨s, rfl, p, c, rfl, -, -⟩, -⟩ := h
  exact ⟨p, c, rfl⟩

set_option maxRecDepth 100000 in
set_option maxHeartbeats 2000000 in
theorem add_calls (va vb : Value) (za zb : Int) (w : World) (ha : ZNum w.heap.size w va za) (hb : ZNum w.heap.size w vb zb) :
    Calls Tryd.prog 20 #[va, vb] w (ZPost w (za + zb)) := by
  obtain ⟨p, c, rfl⟩ := ha.parts
  obtain ⟨q, c2, rfl⟩ := hb.parts
  generalize hna : decide (za < 0) = na at *
  generalize hnb : decide (zb < 0) = nb at *
  generalize hn : (digs za.natAbs).length = n at *
  generalize hm : (digs zb.natAbs).length = m at *
  obtain ⟨W3, hW3⟩ : ∃ W3, W3 = ((w.alloc (.cells #[.bool na, .slice p n c] 26)).alloc (.cells #[.bool nb, .slice q m c2] 26)).alloc (.cells #[.bool false, .slice none 0 0] 26) := ⟨_, rfl⟩
  have HB3 : Hid (Below w.heap.size w W3) := by rw [hW3]; exact (((Below.refl _ w).alloc (Nat.le_refl _) _).alloc (by simp) _).alloc (by simp; omega) _
  have Hz3 : Hid (W3.heap.size = w.heap.size + 3) := by show W3.heap.size = _; rw [hW3]; simp
  have Hra : Hid (RowAt W3 w.heap.size 26 (numCells na p n c)) := by rw [hW3]; exact ((RowAt.new w _ _).alloc _).alloc _
  have Hrb : Hid (RowAt W3 (w.heap.size + 1) 26 (numCells nb q m c2)) := by rw [hW3]; exact (RowAt.new' _ _ (by simp)).alloc _
  have Hrr : Hid (RowAt W3 (w.heap.size + 1 + 1) 26 (numCells false none 0 0)) := by rw [hW3]; exact RowAt.new' _ _ (by simp)
  have HA := Lib.hid ((ha.below HB3.out).mono (by rw [Hz3.out]; omega : w.heap.size ≤ W3.heap.size))
  have HBn := Lib.hid ((hb.below HB3.out).mono (by rw [Hz3.out]; omega : w.heap.size ≤ W3.heap.size))
  have HW3 := Lib.hid hW3
  have Hnb := Lib.hid hnb
  clear hW3 ha hb hna hnb hn hm
  go_enter Tryd.func20, Tryd.ntmps20
  go_wp2_with fail
  rw [← HW3.out]
  refine (right_calls_z _ za W3 HA.out).mono ?_
  rintro e w1 ⟨rfl, hb1⟩
  have Hra1 := Lib.hid (Hra.out.below hb1 (by rw [Hz3.out]; omega))
  have Hrb1 := Lib.hid (Hrb.out.below hb1 (by rw [Hz3.out]; omega))
  have Hrr1 := Lib.hid (Hrr.out.below hb1 (by rw [Hz3.out]; omega))
  have HA1 := Lib.hid ((HA.out.below hb1).mono hb1.size)
  have HBn1 := Lib.hid ((HBn.out.below hb1).mono hb1.size)
  have HB1 := Lib.hid (HB3.out.trans (hb1.mono (by rw [Hz3.out]; omega : w.heap.size ≤ W3.heap.size)))
  have hz1 : w.heap.size + 3 ≤ w1.heap.size := by rw [← Hz3.out]; exact hb1.size
  have h10 := Hrb1.out.num0
  have h11 := Hrb1.out.num1
  clear hb1
  go_wp2_with fail
  refine (right_calls_z _ zb w1 HBn1.out).mono ?_
  rintro e w2 ⟨rfl, hb2⟩
  have Hra2 := Lib.hid (Hra1.out.below hb2 (by omega))
  have Hrb2 := Lib.hid (Hrb1.out.below hb2 (by omega))
  have Hrr2 := Lib.hid (Hrr1.out.below hb2 (by omega))
  have HA2 := Lib.hid ((HA1.out.below hb2).mono hb2.size)
  have HBn2 := Lib.hid ((HBn1.out.below hb2).mono hb2.size)
  have HB2 := Lib.hid (HB1.out.trans (hb2.mono (by omega : w.heap.size ≤ w1.heap.size)))
  have hz2 : w.heap.size + 3 ≤ w2.heap.size := Nat.le_trans hz1 hb2.size
  have h20 := Hrb2.out.num0
  have h21 := Hrb2.out.num1
  have h22 := Hra2.out.num0
  have h23 := Hra2.out.num1
  clear hb2 h10 h11 hz1
  go_wp2_with fail
  refine (signedSum_z _ _ za zb nb zb w2 HA2.out HBn2.out rfl (fun _ => Hnb.out.symm)).mono ?_
  rintro e w3 ⟨s3, rfl, hu3, hb3⟩
  have hU3 := hu3
  obtain ⟨p3, c3, rfl, -, -⟩ := hU3
  have HR3 := Lib.hid (Hrr2.out.below hb3 (by omega))
  have Hfin := Lib.hid (finNum (g := w.heap.size + 1 + 1) HB2.out (by omega) (by omega) hu3 hb3 (turned_setRow w3 _ (numCells (zneg (za + zb)) p3 (zdigs (za + zb)).length c3)))
  clear hu3 hb3
  go_wp2_with (refine store_num rfl (.tmp 4) (.tmp 20) rfl (w.heap.size + 1 + 1) rfl _ _ _ _ rfl _ _ HR3.out rfl ?_)
  exact ret_num rfl (w.heap.size + 1 + 1) rfl _ rfl _ _ _ _ _ (HR3.out.setRow _) ⟨_, rfl, Hfin.out.1, Hfin.out.2⟩

set_option maxRecDepth 100000 in
set_option maxHeartbeats 2000000 in
theorem sub_calls (va vb : Value) (za zb : Int) (w : World) (ha : ZNum w.heap.size w va za) (hb : ZNum w.heap.size w vb zb) :
    Calls Tryd.prog 21 #[va, vb] w (ZPost w (za + -zb)) := by
  obtain ⟨p, c, rfl⟩ := ha.parts
  obtain ⟨q, c2, rfl⟩ := hb.parts
  generalize hna : decide (za < 0) = na at *
  generalize hnb : decide (zb < 0) = nb at *
  generalize hn : (digs za.natAbs).length = n at *
  generalize hm : (digs zb.natAbs).length = m at *
  obtain ⟨W3, hW3⟩ : ∃ W3, W3 = ((w.alloc (.cells #[.bool na, .slice p n c] 26)).alloc (.cells #[.bool nb, .slice q m c2] 26)).alloc (.cells #[.bool false, .slice none 0 0] 26) := ⟨_, rfl⟩
  have HB3 : Hid (Below w.heap.size w W3) := by rw [hW3]; exact (((Below.refl _ w).alloc (Nat.le_refl _) _).alloc (by simp) _).alloc (by simp; omega) _
  have Hz3 : Hid (W3.heap.size = w.heap.size + 3) := by show W3.heap.size = _; rw [hW3]; simp
  have Hra : Hid (RowAt W3 w.heap.size 26 (numCells na p n c)) := by rw [hW3]; exact ((RowAt.new w _ _).alloc _).alloc _
  have Hrb : Hid (RowAt W3 (w.heap.size + 1) 26 (numCells nb q m c2)) := by rw [hW3]; exact (RowAt.new' _ _ (by simp)).alloc _
  have Hrr : Hid (RowAt W3 (w.heap.size + 1 + 1) 26 (numCells false none 0 0)) := by rw [hW3]; exact RowAt.new' _ _ (by simp)
  have HA := Lib.hid ((ha.below HB3.out).mono (by rw [Hz3.out]; omega : w.heap.size ≤ W3.heap.size))
  have HBn := Lib.hid ((hb.below HB3.out).mono (by rw [Hz3.out]; omega : w.heap.size ≤ W3.heap.size))
  have HW3 := Lib.hid hW3
  have Hnb := Lib.hid hnb
  clear hW3 ha hb hna hnb hn hm
  go_enter Tryd.func21, Tryd.ntmps21
  go_wp2_with fail
  rw [← HW3.out]
  refine (right_calls_z _ za W3 HA.out).mono ?_
  rintro e w1 ⟨rfl, hb1⟩
  have Hra1 := Lib.hid (Hra.out.below hb1 (by rw [Hz3.out]; omega))
  have Hrb1 := Lib.hid (Hrb.out.below hb1 (by rw [Hz3.out]; omega))
  have Hrr1 := Lib.hid (Hrr.out.below hb1 (by rw [Hz3.out]; omega))
  have HA1 := Lib.hid ((HA.out.below hb1).mono hb1.size)
  have HBn1 := Lib.hid ((HBn.out.below hb1).mono hb1.size)
  have HB1 := Lib.hid (HB3.out.trans (hb1.mono (by rw [Hz3.out]; omega : w.heap.size ≤ W3.heap.size)))
  have hz1 : w.heap.size + 3 ≤ w1.heap.size := by rw [← Hz3.out]; exact hb1.size
  have h10 := Hrb1.out.num0
  have h11 := Hrb1.out.num1
  clear hb1
  go_wp2_with fail
  refine (right_calls_z _ zb w1 HBn1.out).mono ?_
  rintro e w2 ⟨rfl, hb2⟩
  have Hra2 := Lib.hid (Hra1.out.below hb2 (by omega))
  have Hrb2 := Lib.hid (Hrb1.out.below hb2 (by omega))
  have Hrr2 := Lib.hid (Hrr1.out.below hb2 (by omega))
  have HA2 := Lib.hid ((HA1.out.below hb2).mono hb2.size)
  have HBn2 := Lib.hid ((HBn1.out.below hb2).mono hb2.size)
  have HB2 := Lib.hid (HB1.out.trans (hb2.mono (by omega : w.heap.size ≤ w1.heap.size)))
  have hz2 : w.heap.size + 3 ≤ w2.heap.size := Nat.le_trans hz1 hb2.size
  have h20 := Hrb2.out.num0
  have h21 := Hrb2.out.num1
  have h22 := Hra2.out.num0
  have h23 := Hra2.out.num1
  clear hb2 h10 h11 hz1
  go_wp2_with fail
  refine (signedSum_z _ _ za zb (!nb) (-zb) w2 HA2.out HBn2.out (by omega) (fun h => by rw [← Hnb.out]; by_cases h1 : zb < 0 <;> simp [h1] <;> omega)).mono ?_
  rintro e w3 ⟨s3, rfl, hu3, hb3⟩
  have hU3 := hu3
  obtain ⟨p3, c3, rfl, -, -⟩ := hU3
  have HR3 := Lib.hid (Hrr2.out.below hb3 (by omega))
  have Hfin := Lib.hid (finNum (g := w.heap.size + 1 + 1) HB2.out (by omega) (by omega) hu3 hb3 (turned_setRow w3 _ (numCells (zneg (za + (-zb))) p3 (zdigs (za + (-zb))).length c3)))
  clear hu3 hb3
  go_wp2_with (refine store_num rfl (.tmp 4) (.tmp 21) rfl (w.heap.size + 1 + 1) rfl _ _ _ _ rfl _ _ HR3.out rfl ?_)
  exact ret_num rfl (w.heap.size + 1 + 1) rfl _ rfl _ _ _ _ _ (HR3.out.setRow _) ⟨_, rfl, Hfin.out.1, Hfin.out.2⟩

end Go.Proofs.YtcmpgboifcemmaaDoor
