
/- Greatest common divisors and texts of numbers that are not right: in num and in the reference. (Written by gen_gcdno.py.) -/
import Derived.Test.YtdaipflgcgefgaaGreatDoorRGcd
import Derived.Test.YtdaipflgcgefgaaGreatDoorNum28
set_option linter.all false
namespace Go.Proofs.YtdaipflgcgefgaaGreatDoor
open Go Go.RowKit Go.Shelf

set_option maxRecDepth 100000 in
set_option maxHeartbeats 2000000 in
theorem gcd_no (na nb : Bool) (p q : Option Addr) (n c m c2 : Nat) (da db : List Nat) (w : World) (ha : U32s w.heap.size w (.slice p n c) da) (hb : U32s w.heap.size w (.slice q m c2) db) (hno : ¬ (rightB na da = true ∧ rightB nb db = true)) :
    Calls Tryz.prog 48 #[.agg #[.bool na, .slice p n c], .agg #[.bool nb, .slice q m c2]] w fun e w' => e = .returned (.tuple #[.agg #[.bool false, .slice none 0 0], .bool false]) ∧ Ext w w' := by
  obtain ⟨W3, hW3⟩ : ∃ W3, W3 = ((w.alloc (.cells #[.bool na, .slice p n c] 25)).alloc (.cells #[.bool nb, .slice q m c2] 25)).alloc (.cells #[.bool false, .slice none 0 0] 25) := ⟨_, rfl⟩
  have HB3 : Hid (Ext w W3) := by rw [hW3]; exact (((Below.refl _ w).alloc (Nat.le_refl _) _).alloc (by simp) _).alloc (by simp; omega) _
  have HG3 : Hid (Gf w.heap.size na nb p n c q m c2 W3) := by
    rw [hW3]
    exact ⟨((RowAt.new w _ _).alloc _).alloc _, (RowAt.new' _ _ (by simp)).alloc _, RowAt.new' _ _ (by simp)⟩
  have HA := Lib.hid (HB3.out.u32s ha)
  have HBn := Lib.hid (HB3.out.u32s hb)
  have HW3 := Lib.hid hW3
  have Hno := Lib.hid hno
  clear hW3 ha hb hno
  go_enter Tryz.func48, Tryz.ntmps48
  go_wp2_with fail
  rw [← HW3.out]
  refine (right_calls na _ da W3 HA.out).mono ?_
  rintro e w1 ⟨rfl, hb1⟩
  have HG1 := Lib.hid (HG3.out.ext hb1)
  have HBn1 := Lib.hid (Ext.u32s hb1 HBn.out)
  have HB1 := Lib.hid (HB3.out.trans hb1)
  have h10 := HG1.out.rb.num0
  have h11 := HG1.out.rb.num1
  clear hb1
  cases hra : rightB na da
  · go_wp2_with (refine store_num rfl (.tmp 4) (.tmp 15) rfl (w.heap.size + 1 + 1) rfl false none 0 0 rfl _ _ HG1.out.r4 rfl ?_)
    exact ret_num rfl (w.heap.size + 1 + 1) rfl _ rfl _ _ _ _ _ (HG1.out.r4.setRow _) ⟨rfl, ext_setRow HB1.out (by omega) _⟩
  · have hrb : rightB nb db = false := by
      have h1 := Hno.out
      rw [hra] at h1
      simpa using h1
    have HR := Lib.hid (right_calls nb _ db w1 HBn1.out)
    rw [hrb] at HR
    clear hra hrb
    go_wp2_with fail
    refine HR.out.mono ?_
    rintro e w2 ⟨rfl, hb2⟩
    have HG2 := Lib.hid (HG1.out.ext hb2)
    have HB2 : Hid (Ext w w2) := HB1.out.trans hb2
    clear hb2
    go_wp2_with (refine store_num rfl (.tmp 4) (.tmp 15) rfl (w.heap.size + 1 + 1) rfl false none 0 0 rfl _ _ HG2.out.r4 rfl ?_)
    exact ret_num rfl (w.heap.size + 1 + 1) rfl _ rfl _ _ _ _ _ (HG2.out.r4.setRow _) ⟨rfl, ext_setRow HB2.out (by omega) _⟩

set_option maxRecDepth 100000 in
set_option maxHeartbeats 2000000 in
theorem rgcd_no (na nb : Bool) (p q : Option Addr) (n c m c2 : Nat) (da db : List Nat) (w : World) (ha : U32s w.heap.size w (.slice p n c) da) (hb : U32s w.heap.size w (.slice q m c2) db) (hno : ¬ (rightB na da = true ∧ rightB nb db = true)) :
    Calls Tryz.prog 43 #[.agg #[.bool na, .slice p n c], .agg #[.bool nb, .slice q m c2]] w fun e w' => e = .returned (.tuple #[.agg #[.bool false, .slice none 0 0], .bool false]) ∧ Ext w w' := by
  obtain ⟨W3, hW3⟩ : ∃ W3, W3 = ((w.alloc (.cells #[.bool na, .slice p n c] 25)).alloc (.cells #[.bool nb, .slice q m c2] 25)).alloc (.cells #[.bool false, .slice none 0 0] 25) := ⟨_, rfl⟩
  have HB3 : Hid (Ext w W3) := by rw [hW3]; exact (((Below.refl _ w).alloc (Nat.le_refl _) _).alloc (by simp) _).alloc (by simp; omega) _
  have HG3 : Hid (Gf w.heap.size na nb p n c q m c2 W3) := by
    rw [hW3]
    exact ⟨((RowAt.new w _ _).alloc _).alloc _, (RowAt.new' _ _ (by simp)).alloc _, RowAt.new' _ _ (by simp)⟩
  have HA := Lib.hid (HB3.out.u32s ha)
  have HBn := Lib.hid (HB3.out.u32s hb)
  have HW3 := Lib.hid hW3
  have Hno := Lib.hid hno
  clear hW3 ha hb hno
  go_enter Tryz.func43, Tryz.ntmps43
  go_wp2_with fail
  rw [← HW3.out]
  refine (rright_calls na _ da W3 HA.out).mono ?_
  rintro e w1 ⟨rfl, hb1⟩
  have HG1 := Lib.hid (HG3.out.ext hb1)
  have HBn1 := Lib.hid (Ext.u32s hb1 HBn.out)
  have HB1 := Lib.hid (HB3.out.trans hb1)
  have h10 := HG1.out.rb.num0
  have h11 := HG1.out.rb.num1
  clear hb1
  cases hra : rightB na da
  · go_wp2_with (refine store_num rfl (.tmp 4) (.tmp 18) rfl (w.heap.size + 1 + 1) rfl false none 0 0 rfl _ _ HG1.out.r4 rfl ?_)
    exact ret_num rfl (w.heap.size + 1 + 1) rfl _ rfl _ _ _ _ _ (HG1.out.r4.setRow _) ⟨rfl, ext_setRow HB1.out (by omega) _⟩
  · have hrb : rightB nb db = false := by
      have h1 := Hno.out
      rw [hra] at h1
      simpa using h1
    have HR := Lib.hid (rright_calls nb _ db w1 HBn1.out)
    rw [hrb] at HR
    clear hra hrb
    go_wp2_with fail
    refine HR.out.mono ?_
    rintro e w2 ⟨rfl, hb2⟩
    have HG2 := Lib.hid (HG1.out.ext hb2)
    have HB2 : Hid (Ext w w2) := HB1.out.trans hb2
    clear hb2
    go_wp2_with (refine store_num rfl (.tmp 4) (.tmp 18) rfl (w.heap.size + 1 + 1) rfl false none 0 0 rfl _ _ HG2.out.r4 rfl ?_)
    exact ret_num rfl (w.heap.size + 1 + 1) rfl _ rfl _ _ _ _ _ (HG2.out.r4.setRow _) ⟨rfl, ext_setRow HB2.out (by omega) _⟩

set_option maxRecDepth 100000 in
set_option maxHeartbeats 2000000 in
theorem text_no (na : Bool) (p : Option Addr) (n c : Nat) (da : List Nat) (w : World) (ha : U32s w.heap.size w (.slice p n c) da) (hno : rightB na da = false) :
    Calls Tryz.prog 51 #[.agg #[.bool na, .slice p n c]] w fun e w' => e = .returned (.string ⟨#[]⟩) ∧ Ext w w' := by
  obtain ⟨W1, hW1⟩ : ∃ W1, W1 = w.alloc (.cells #[.bool na, .slice p n c] 25) := ⟨_, rfl⟩
  have HB1 : Hid (Ext w W1) := by rw [hW1]; exact Ext.alloc _ _
  have HR := Lib.hid (right_calls na _ da W1 (HB1.out.u32s ha))
  rw [hno] at HR
  have HW1 := Lib.hid hW1
  clear hW1 ha hno
  go_enter Tryz.func51, Tryz.ntmps51
  go_wp2_with fail
  rw [← HW1.out]
  refine HR.out.mono ?_
  rintro e w1 ⟨rfl, hb1⟩
  go_wp2_with fail
  go_ret
  exact ⟨rfl, HB1.out.trans hb1⟩

set_option maxRecDepth 100000 in
set_option maxHeartbeats 2000000 in
theorem rtext_no (na : Bool) (p : Option Addr) (n c : Nat) (da : List Nat) (w : World) (ha : U32s w.heap.size w (.slice p n c) da) (hno : rightB na da = false) :
    Calls Tryz.prog 52 #[.agg #[.bool na, .slice p n c]] w fun e w' => e = .returned (.string ⟨#[]⟩) ∧ Ext w w' := by
  obtain ⟨W1, hW1⟩ : ∃ W1, W1 = w.alloc (.cells #[.bool na, .slice p n c] 25) := ⟨_, rfl⟩
  have HB1 : Hid (Ext w W1) := by rw [hW1]; exact Ext.alloc _ _
  have HR := Lib.hid (rright_calls na _ da W1 (HB1.out.u32s ha))
  rw [hno] at HR
  have HW1 := Lib.hid hW1
  clear hW1 ha hno
  go_enter Tryz.func52, Tryz.ntmps52
  go_wp2_with fail
  rw [← HW1.out]
  refine HR.out.mono ?_
  rintro e w1 ⟨rfl, hb1⟩
  go_wp2_with fail
  go_ret
  exact ⟨rfl, HB1.out.trans hb1⟩

end Go.Proofs.YtdaipflgcgefgaaGreatDoor
