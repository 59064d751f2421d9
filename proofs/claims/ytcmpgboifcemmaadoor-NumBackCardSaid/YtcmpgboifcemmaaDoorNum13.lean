/- Layer 1: Cmp, Int, Of. -/
import Derived.Test.YtcmpgboifcemmaaDoorNum11
import Derived.Test.YtcmpgboifcemmaaDoorNum2
set_option linter.all false
namespace Go.Proofs.YtcmpgboifcemmaaDoor
open Go Go.RowKit Go.Shelf

def zcmp (a b : Int) : Int := if a < b then -1 else if b < a then 1 else 0

theorem zcmp_of {a b : Int} (ha : a.natAbs < B32 ^ 64) (hb : b.natAbs < B32 ^ 64) :
    (a < 0 → b < 0 → cmpL (digs b.natAbs) (digs a.natAbs) = zcmp a b) ∧ (a < 0 → ¬ b < 0 → zcmp a b = -1) ∧ (¬ a < 0 → b < 0 → zcmp a b = 1) ∧ (¬ a < 0 → ¬ b < 0 → cmpL (digs a.natAbs) (digs b.natAbs) = zcmp a b) := by
  rw [cmpL_norm (norm_digs _) (norm_digs _), cmpL_norm (norm_digs _) (norm_digs _), val_digs, val_digs]
  unfold zcmp sgn
  refine ⟨fun h1 h2 => ?_, fun h1 h2 => ?_, fun h1 h2 => ?_, fun h1 h2 => ?_⟩ <;> (repeat' split) <;> omega

theorem znum_slice {B : Nat} {w : World} {b : Bool} {s : Value} {z : Int} (h : ZNum B w (.agg #[.bool b, s]) z) : U32s B w s (digs z.natAbs) := by
  obtain ⟨⟨s', e, hu⟩, -⟩ := h
  cases e
  exact hu

set_option maxRecDepth 100000 in
set_option maxHeartbeats 2000000 in
theorem cmp_nn (va vb : Value) (za zb : Int) (w : World) (ha : ZNum w.heap.size w va za) (hb : ZNum w.heap.size w vb zb) (hca : za < 0) (hcb : zb < 0) :
    Calls Tryd.prog 23 #[va, vb] w fun e w' => e = .returned (.int .i64 (zcmp za zb)) ∧ Below w.heap.size w w' := by
  have hz := zcmp_of ha.2 hb.2
  obtain ⟨p, c, rfl⟩ := ha.parts
  obtain ⟨q, c2, rfl⟩ := hb.parts
  rw [show decide (za < 0) = true by simp; omega] at *
  rw [show decide (zb < 0) = true by simp; omega] at *
  have hz := hz.1 hca hcb
  have Hz := Lib.hid hz
  clear hz hca hcb
  obtain ⟨W3, hW3⟩ : ∃ W3, W3 = (w.alloc (.cells #[.bool true, .slice p (digs za.natAbs).length c] 26)).alloc (.cells #[.bool true, .slice q (digs zb.natAbs).length c2] 26) := ⟨_, rfl⟩
  have HB3 : Hid (Below w.heap.size w W3) := by rw [hW3]; exact ((Below.refl _ w).alloc (Nat.le_refl _) _).alloc (by simp) _
  have Hz3 : Hid (W3.heap.size = w.heap.size + 2) := by show W3.heap.size = _; rw [hW3]; simp
  have Hra : Hid (RowAt W3 w.heap.size 26 (numCells true p (digs za.natAbs).length c)) := by rw [hW3]; exact (RowAt.new w _ _).alloc _
  have Hrb : Hid (RowAt W3 (w.heap.size + 1) 26 (numCells true q (digs zb.natAbs).length c2)) := by rw [hW3]; exact RowAt.new' _ _ (by simp)
  have HA := Lib.hid ((ha.below HB3.out).mono (by rw [Hz3.out]; omega : w.heap.size ≤ W3.heap.size))
  have HBn := Lib.hid ((hb.below HB3.out).mono (by rw [Hz3.out]; omega : w.heap.size ≤ W3.heap.size))
  have HW3 := Lib.hid hW3
  generalize (digs za.natAbs).length = n at *
  generalize (digs zb.natAbs).length = m at *
  clear hW3 ha hb
  go_enter Tryd.func23, Tryd.ntmps23
  go_wp2_with fail
  rw [← HW3.out]
  refine (right_calls_z _ za W3 HA.out).mono ?_
  rintro e w1 ⟨rfl, hb1⟩
  have Hra1 := Lib.hid (Hra.out.below hb1 (by rw [Hz3.out]; omega))
  have Hrb1 := Lib.hid (Hrb.out.below hb1 (by rw [Hz3.out]; omega))
  have HA1 := Lib.hid ((HA.out.below hb1).mono hb1.size)
  have HBn1 := Lib.hid ((HBn.out.below hb1).mono hb1.size)
  have HB1 := Lib.hid (HB3.out.trans (hb1.mono (by rw [Hz3.out]; omega : w.heap.size ≤ W3.heap.size)))
  have hz1 : w.heap.size + 2 ≤ w1.heap.size := by rw [← Hz3.out]; exact hb1.size
  have h10 := Hrb1.out.num0
  have h11 := Hrb1.out.num1
  clear hb1
  go_wp2_with fail
  refine (right_calls_z _ zb w1 HBn1.out).mono ?_
  rintro e w2 ⟨rfl, hb2⟩
  have Hra2 := Lib.hid (Hra1.out.below hb2 (by omega))
  have Hrb2 := Lib.hid (Hrb1.out.below hb2 (by omega))
  have HA2 := Lib.hid ((HA1.out.below hb2).mono hb2.size)
  have HBn2 := Lib.hid ((HBn1.out.below hb2).mono hb2.size)
  have HB2 := Lib.hid (HB1.out.trans (hb2.mono (by omega : w.heap.size ≤ w1.heap.size)))
  have hz2 : w.heap.size + 2 ≤ w2.heap.size := Nat.le_trans hz1 hb2.size
  have h20 := Hrb2.out.num0
  have h21 := Hrb2.out.num1
  have h22 := Hra2.out.num0
  have h23 := Hra2.out.num1
  clear hb2 h10 h11 hz1
  have hcall := order_calls _ _ (digs zb.natAbs) (digs za.natAbs) w2 (znum_slice HBn2.out) (znum_slice HA2.out) (digs_digits _) (digs_digits _)
  rw [Hz.out] at hcall
  have Hcall := Lib.hid hcall
  clear hcall
  go_wp2_with fail
  refine Hcall.out.mono ?_
  rintro e w3 ⟨rfl, hb3⟩
  go_wp2
  go_ret
  exact ⟨rfl, HB2.out.trans (hb3.mono (by omega))⟩

set_option maxRecDepth 100000 in
set_option maxHeartbeats 2000000 in
theorem cmp_np (va vb : Value) (za zb : Int) (w : World) (ha : ZNum w.heap.size w va za) (hb : ZNum w.heap.size w vb zb) (hca : za < 0) (hcb : ¬ zb < 0) :
    Calls Tryd.prog 23 #[va, vb] w fun e w' => e = .returned (.int .i64 (zcmp za zb)) ∧ Below w.heap.size w w' := by
  have hz := zcmp_of ha.2 hb.2
  obtain ⟨p, c, rfl⟩ := ha.parts
  obtain ⟨q, c2, rfl⟩ := hb.parts
  rw [show decide (za < 0) = true by simp; omega] at *
  rw [show decide (zb < 0) = false by simp; omega] at *
  have hz := hz.2.1 hca hcb
  have Hz := Lib.hid hz
  clear hz hca hcb
  obtain ⟨W3, hW3⟩ : ∃ W3, W3 = (w.alloc (.cells #[.bool true, .slice p (digs za.natAbs).length c] 26)).alloc (.cells #[.bool false, .slice q (digs zb.natAbs).length c2] 26) := ⟨_, rfl⟩
  have HB3 : Hid (Below w.heap.size w W3) := by rw [hW3]; exact ((Below.refl _ w).alloc (Nat.le_refl _) _).alloc (by simp) _
  have Hz3 : Hid (W3.heap.size = w.heap.size + 2) := by show W3.heap.size = _; rw [hW3]; simp
  have Hra : Hid (RowAt W3 w.heap.size 26 (numCells true p (digs za.natAbs).length c)) := by rw [hW3]; exact (RowAt.new w _ _).alloc _
  have Hrb : Hid (RowAt W3 (w.heap.size + 1) 26 (numCells false q (digs zb.natAbs).length c2)) := by rw [hW3]; exact RowAt.new' _ _ (by simp)
  have HA := Lib.hid ((ha.below HB3.out).mono (by rw [Hz3.out]; omega : w.heap.size ≤ W3.heap.size))
  have HBn := Lib.hid ((hb.below HB3.out).mono (by rw [Hz3.out]; omega : w.heap.size ≤ W3.heap.size))
  have HW3 := Lib.hid hW3
  generalize (digs za.natAbs).length = n at *
  generalize (digs zb.natAbs).length = m at *
  clear hW3 ha hb
  go_enter Tryd.func23, Tryd.ntmps23
  go_wp2_with fail
  rw [← HW3.out]
  refine (right_calls_z _ za W3 HA.out).mono ?_
  rintro e w1 ⟨rfl, hb1⟩
  have Hra1 := Lib.hid (Hra.out.below hb1 (by rw [Hz3.out]; omega))
  have Hrb1 := Lib.hid (Hrb.out.below hb1 (by rw [Hz3.out]; omega))
  have HA1 := Lib.hid ((HA.out.below hb1).mono hb1.size)
  have HBn1 := Lib.hid ((HBn.out.below hb1).mono hb1.size)
  have HB1 := Lib.hid (HB3.out.trans (hb1.mono (by rw [Hz3.out]; omega : w.heap.size ≤ W3.heap.size)))
  have hz1 : w.heap.size + 2 ≤ w1.heap.size := by rw [← Hz3.out]; exact hb1.size
  have h10 := Hrb1.out.num0
  have h11 := Hrb1.out.num1
  clear hb1
  go_wp2_with fail
  refine (right_calls_z _ zb w1 HBn1.out).mono ?_
  rintro e w2 ⟨rfl, hb2⟩
  have Hra2 := Lib.hid (Hra1.out.below hb2 (by omega))
  have Hrb2 := Lib.hid (Hrb1.out.below hb2 (by omega))
  have HA2 := Lib.hid ((HA1.out.below hb2).mono hb2.size)
  have HBn2 := Lib.hid ((HBn1.out.below hb2).mono hb2.size)
  have HB2 := Lib.hid (HB1.out.trans (hb2.mono (by omega : w.heap.size ≤ w1.heap.size)))
  have hz2 : w.heap.size + 2 ≤ w2.heap.size := Nat.le_trans hz1 hb2.size
  have h20 := Hrb2.out.num0
  have h21 := Hrb2.out.num1
  have h22 := Hra2.out.num0
  have h23 := Hra2.out.num1
  clear hb2 h10 h11 hz1
  go_wp2
  go_ret
  exact ⟨by rw [Hz.out]; rfl, HB2.out⟩

set_option maxRecDepth 100000 in
set_option maxHeartbeats 2000000 in
theorem cmp_pn (va vb : Value) (za zb : Int) (w : World) (ha : ZNum w.heap.size w va za) (hb : ZNum w.heap.size w vb zb) (hca : ¬ za < 0) (hcb : zb < 0) :
    Calls Tryd.prog 23 #[va, vb] w fun e w' => e = .returned (.int .i64 (zcmp za zb)) ∧ Below w.heap.size w w' := by
  have hz := zcmp_of ha.2 hb.2
  obtain ⟨p, c, rfl⟩ := ha.parts
  obtain ⟨q, c2, rfl⟩ := hb.parts
  rw [show decide (za < 0) = false by simp; omega] at *
  rw [show decide (zb < 0) = true by simp; omega] at *
  have hz := hz.2.2.1 hca hcb
  have Hz := Lib.hid hz
  clear hz hca hcb
  obtain ⟨W3, hW3⟩ : ∃ W3, W3 = (w.alloc (.cells #[.bool false, .slice p (digs za.natAbs).length c] 26)).alloc (.cells #[.bool true, .slice q (digs zb.natAbs).length c2] 26) := ⟨_, rfl⟩
  have HB3 : Hid (Below w.heap.size w W3) := by rw [hW3]; exact ((Below.refl _ w).alloc (Nat.le_refl _) _).alloc (by simp) _
  have Hz3 : Hid (W3.heap.size = w.heap.size + 2) := by show W3.heap.size = _; rw [hW3]; simp
  have Hra : Hid (RowAt W3 w.heap.size 26 (numCells false p (digs za.natAbs).length c)) := by rw [hW3]; exact (RowAt.new w _ _).alloc _
  have Hrb : Hid (RowAt W3 (w.heap.size + 1) 26 (numCells true q (digs zb.natAbs).length c2)) := by rw [hW3]; exact RowAt.new' _ _ (by simp)
  have HA := Lib.hid ((ha.below HB3.out).mono (by rw [Hz3.out]; omega : w.heap.size ≤ W3.heap.size))
  have HBn := Lib.hid ((hb.below HB3.out).mono (by rw [Hz3.out]; omega : w.heap.size ≤ W3.heap.size))
  have HW3 := Lib.hid hW3
  generalize (digs za.natAbs).length = n at *
  generalize (digs zb.natAbs).length = m at *
  clear hW3 ha hb
  go_enter Tryd.func23, Tryd.ntmps23
  go_wp2_with fail
  rw [← HW3.out]
  refine (right_calls_z _ za W3 HA.out).mono ?_
  rintro e w1 ⟨rfl, hb1⟩
  have Hra1 := Lib.hid (Hra.out.below hb1 (by rw [Hz3.out]; omega))
  have Hrb1 := Lib.hid (Hrb.out.below hb1 (by rw [Hz3.out]; omega))
  have HA1 := Lib.hid ((HA.out.below hb1).mono hb1.size)
  have HBn1 := Lib.hid ((HBn.out.below hb1).mono hb1.size)
  have HB1 := Lib.hid (HB3.out.trans (hb1.mono (by rw [Hz3.out]; omega : w.heap.size ≤ W3.heap.size)))
  have hz1 : w.heap.size + 2 ≤ w1.heap.size := by rw [← Hz3.out]; exact hb1.size
  have h10 := Hrb1.out.num0
  have h11 := Hrb1.out.num1
  clear hb1
  go_wp2_with fail
  refine (right_calls_z _ zb w1 HBn1.out).mono ?_
  rintro e w2 ⟨rfl, hb2⟩
  have Hra2 := Lib.hid (Hra1.out.below hb2 (by omega))
  have Hrb2 := Lib.hid (Hrb1.out.below hb2 (by omega))
  have HA2 := Lib.hid ((HA1.out.below hb2).mono hb2.size)
  have HBn2 := Lib.hid ((HBn1.out.below hb2).mono hb2.size)
  have HB2 := Lib.hid (HB1.out.trans (hb2.mono (by omega : w.heap.size ≤ w1.heap.size)))
  have hz2 : w.heap.size + 2 ≤ w2.heap.size := Nat.le_trans hz1 hb2.size
  have h20 := Hrb2.out.num0
  have h21 := Hrb2.out.num1
  have h22 := Hra2.out.num0
  have h23 := Hra2.out.num1
  clear hb2 h10 h11 hz1
  go_wp2
  go_ret
  exact ⟨by rw [Hz.out]; rfl, HB2.out⟩

set_option maxRecDepth 100000 in
set_option maxHeartbeats 2000000 in
theorem cmp_pp (va vb : Value) (za zb : Int) (w : World) (ha : ZNum w.heap.size w va za) (hb : ZNum w.heap.size w vb zb) (hca : ¬ za < 0) (hcb : ¬ zb < 0) :
    Calls Tryd.prog 23 #[va, vb] w fun e w' => e = .returned (.int .i64 (zcmp za zb)) ∧ Below w.heap.size w w' := by
  have hz := zcmp_of ha.2 hb.2
  obtain ⟨p, c, rfl⟩ := ha.parts
  obtain ⟨q, c2, rfl⟩ := hb.parts
  rw [show decide (za < 0) = false by simp; omega] at *
  rw [show decide (zb < 0) = false by simp; omega] at *
  have hz := hz.2.2.2 hca hcb
  have Hz := Lib.hid hz
  clear hz hca hcb
  obtain ⟨W3, hW3⟩ : ∃ W3, W3 = (w.alloc (.cells #[.bool false, .slice p (digs za.natAbs).length c] 26)).alloc (.cells #[.bool false, .slice q (digs zb.natAbs).length c2] 26) := ⟨_, rfl⟩
  have HB3 : Hid (Below w.heap.size w W3) := by rw [hW3]; exact ((Below.refl _ w).alloc (Nat.le_refl _) _).alloc (by simp) _
  have Hz3 : Hid (W3.heap.size = w.heap.size + 2) := by show W3.heap.size = _; rw [hW3]; simp
  have Hra : Hid (RowAt W3 w.heap.size 26 (numCells false p (digs za.natAbs).length c)) := by rw [hW3]; exact (RowAt.new w _ _).alloc _
  have Hrb : Hid (RowAt W3 (w.heap.size + 1) 26 (numCells false q (digs zb.natAbs).length c2)) := by rw [hW3]; exact RowAt.new' _ _ (by simp)
  have HA := Lib.hid ((ha.below HB3.out).mono (by rw [Hz3.out]; omega : w.heap.size ≤ W3.heap.size))
  have HBn := Lib.hid ((hb.below HB3.out).mono (by rw [Hz3.out]; omega : w.heap.size ≤ W3.heap.size))
  have HW3 := Lib.hid hW3
  generalize (digs za.natAbs).length = n at *
  generalize (digs zb.natAbs).length = m at *
  clear hW3 ha hb
  go_enter Tryd.func23, Tryd.ntmps23
  go_wp2_with fail
  rw [← HW3.out]
  refine (right_calls_z _ za W3 HA.out).mono ?_
  rintro e w1 ⟨rfl, hb1⟩
  have Hra1 := Lib.hid (Hra.out.below hb1 (by rw [Hz3.out]; omega))
  have Hrb1 := Lib.hid (Hrb.out.below hb1 (by rw [Hz3.out]; omega))
  have HA1 := Lib.hid ((HA.out.below hb1).mono hb1.size)
  have HBn1 := Lib.hid ((HBn.out.below hb1).mono hb1.size)
  have HB1 := Lib.hid (HB3.out.trans (hb1.mono (by rw [Hz3.out]; omega : w.heap.size ≤ W3.heap.size)))
  have hz1 : w.heap.size + 2 ≤ w1.heap.size := by rw [← Hz3.out]; exact hb1.size
  have h10 := Hrb1.out.num0
  have h11 := Hrb1.out.num1
  clear hb1
  go_wp2_with fail
  refine (right_calls_z _ zb w1 HBn1.out).mono ?_
  rintro e w2 ⟨rfl, hb2⟩
  have Hra2 := Lib.hid (Hra1.out.below hb2 (by omega))
  have Hrb2 := Lib.hid (Hrb1.out.below hb2 (by omega))
  have HA2 := Lib.hid ((HA1.out.below hb2).mono hb2.size)
  have HBn2 := Lib.hid ((HBn1.out.below hb2).mono hb2.size)
  have HB2 := Lib.hid (HB1.out.trans (hb2.mono (by omega : w.heap.size ≤ w1.heap.size)))
  have hz2 : w.heap.size + 2 ≤ w2.heap.size := Nat.le_trans hz1 hb2.size
  have h20 := Hrb2.out.num0
  have h21 := Hrb2.out.num1
  have h22 := Hra2.out.num0
  have h23 := Hra2.out.num1
  clear hb2 h10 h11 hz1
  have hcall := order_calls _ _ (digs za.natAbs) (digs zb.natAbs) w2 (znum_slice HA2.out) (znum_slice HBn2.out) (digs_digits _) (digs_digits _)
  rw [Hz.out] at hcall
  have Hcall := Lib.hid hcall
  clear hcall
  go_wp2_with fail
  refine Hcall.out.mono ?_
  rintro e w3 ⟨rfl, hb3⟩
  go_wp2
  go_ret
  exact ⟨rfl, HB2.out.trans (hb3.mono (by omega))⟩

theorem cmp_calls (va vb : Value) (za zb : Int) (w : World) (ha : ZNum w.heap.size w va za) (hb : ZNum w.heap.size w vb zb) :
    Calls Tryd.prog 23 #[va, vb] w fun e w' => e = .returned (.int .i64 (zcmp za zb)) ∧ Below w.heap.size w w' := by
  by_cases h1 : za < 0 <;> by_cases h2 : zb < 0
  · exact cmp_nn va vb za zb w ha hb h1 h2
  · exact cmp_np va vb za zb w ha hb h1 h2
  · exact cmp_pn va vb za zb w ha hb h1 h2
  · exact cmp_pp va vb za zb w ha hb h1 h2

end Go.Proofs.YtcmpgboifcemmaaDoor
