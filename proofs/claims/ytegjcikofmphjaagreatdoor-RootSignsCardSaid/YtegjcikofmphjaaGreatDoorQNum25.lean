/- Texts that belong together. -/
import Derived.Test.YtegjcikofmphjaaGreatDoorQNum24
import Derived.Test.YtegjcikofmphjaaGreatDoorQZs
set_option linter.all false
/- Layer 1: Gcd. -/
namespace Go.Proofs.YtegjcikofmphjaaGreatDoor
open Go Go.RowKit Go.Shelf
set_option maxRecDepth 100000 in
set_option maxHeartbeats 2000000 in
theorem gcd_calls (va vb : Value) (za zb : Int) (w : World) (ha : ZNum w.heap.size w va za) (hb : ZNum w.heap.size w vb zb) :
    Calls Tryz.prog 48 #[va, vb] w (ZPost w ((Nat.gcd za.natAbs zb.natAbs : Nat) : Int)) := by
  obtain ⟨p, c, rfl⟩ := ha.parts
  obtain ⟨q, c2, rfl⟩ := hb.parts
  generalize hna : decide (za < 0) = na at *
  generalize hnb : decide (zb < 0) = nb at *
  generalize hn : (digs za.natAbs).length = n at *
  generalize hm : (digs zb.natAbs).length = m at *
  obtain ⟨W3, hW3⟩ : ∃ W3, W3 = ((w.alloc (.cells #[.bool na, .slice p n c] 25)).alloc (.cells #[.bool nb, .slice q m c2] 25)).alloc (.cells #[.bool false, .slice none 0 0] 25) := ⟨_, rfl⟩
  have HB3 : Hid (Below w.heap.size w W3) := by rw [hW3]; exact (((Below.refl _ w).alloc (Nat.le_refl _) _).alloc (by simp) _).alloc (by simp; omega) _
  have Hz3 : Hid (W3.heap.size = w.heap.size + 3) := by show W3.heap.size = _; rw [hW3]; simp
  have Hra : Hid (RowAt W3 w.heap.size 25 (numCells na p n c)) := by rw [hW3]; exact ((RowAt.new w _ _).alloc _).alloc _
  have Hrb : Hid (RowAt W3 (w.heap.size + 1) 25 (numCells nb q m c2)) := by rw [hW3]; exact (RowAt.new' _ _ (by simp)).alloc _
  have Hrr : Hid (RowAt W3 (w.heap.size + 1 + 1) 25 (numCells false none 0 0)) := by rw [hW3]; exact RowAt.new' _ _ (by simp)
  have HA := Lib.hid ((ha.below HB3.out).mono (by rw [Hz3.out]; omega : w.heap.size ≤ W3.heap.size))
  have HBn := Lib.hid ((hb.below HB3.out).mono (by rw [Hz3.out]; omega : w.heap.size ≤ W3.heap.size))
  have HW3 := Lib.hid hW3
  have Hnb := Lib.hid hnb
  clear hW3 ha hb hna hnb hn hm
  go_enter Tryz.func48, Tryz.ntmps48
  go_wp2_with fail
  rw [← HW3.out]
  refine (right_calls_z _ za W3 HA.out).mono ?_
  rintro e w1 ⟨rfl, hb1⟩
  have Hra1 := Lib.hid (Hra.out.below hb1 (by rw [Hz3.out]; omega))
  have Hrb1 := Lib.hid (Hrb.out.below hb1 (by rw [Hz3.out]; omega))
  have Hrr1 := Lib.hid (Hrr.out.below hb1 (by rw [Hz3.out]; omega))
  have HA1 := Lib.hid ((HA.out.below hb1).mono hb1.size)
  have HBn1 := Lib.hid ((HBn.out.below hb1).mono hb1.size)
  have HB1 := Lib.hid (HB3.out.trans (hb1.mono (by rw [Hz3.out]; omega : w.heap.size ≤ W3.heap.size)))
  have hz1 : w.heap.size + 3 ≤ w1.heap.size := by rw [← Hz3.out]; exact hb1.size
  have h10 := Hrb1.out.num0
  have h11 := Hrb1.out.num1
  clear hb1
  go_wp2_with fail
  refine (right_calls_z _ zb w1 HBn1.out).mono ?_
  rintro e w2 ⟨rfl, hb2⟩
  have Hra2 := Lib.hid (Hra1.out.below hb2 (by omega))
  have Hrb2 := Lib.hid (Hrb1.out.below hb2 (by omega))
  have Hrr2 := Lib.hid (Hrr1.out.below hb2 (by omega))
  have HA2 := Lib.hid ((HA1.out.below hb2).mono hb2.size)
  have HBn2 := Lib.hid ((HBn1.out.below hb2).mono hb2.size)
  have HB2 := Lib.hid (HB1.out.trans (hb2.mono (by omega : w.heap.size ≤ w1.heap.size)))
  have hz2 : w.heap.size + 3 ≤ w2.heap.size := Nat.le_trans hz1 hb2.size
  have h20 := Hrb2.out.num0
  have h21 := Hrb2.out.num1
  have h22 := Hra2.out.num0
  have h23 := Hra2.out.num1
  have hua2 : U32s w2.heap.size w2 (.slice p n c) (digs za.natAbs) := by
    obtain ⟨⟨s, e, hu⟩, -⟩ := HA2.out; cases e; exact hu
  have hub2 : U32s w2.heap.size w2 (.slice q m c2) (digs zb.natAbs) := by
    obtain ⟨⟨s, e, hu⟩, -⟩ := HBn2.out; cases e; exact hu
  have Hcd := Lib.hid (commonDivisor_calls _ _ _ _ w2 hua2 hub2 (norm_digs _) (norm_digs _) (digs_len64 HA2.out.2) (digs_len64 HBn2.out.2))
  have Hrs := Lib.hid (res_of false (Nat.gcd za.natAbs zb.natAbs) ((Nat.gcd za.natAbs zb.natAbs : Nat) : Int) (Int.natAbs_natCast _) (fun _ => by simp))
  clear hb2 h10 h11 hz1 hua2 hub2
  go_wp2_with fail
  refine Hcd.out.mono ?_
  rintro e w3 ⟨r, rfl, hrl, hrd, hrv, hb3⟩
  rw [val_digs, val_digs] at hrv
  have hz3 : w.heap.size + 3 ≤ w3.heap.size := Nat.le_trans hz2 hb3.size
  obtain ⟨W4, hW4⟩ : ∃ W4, W4 = (w3.alloc (.cells Tryz.zeroCells89 89)).setRow w3.heap.size (arr r) := ⟨_, rfl⟩
  have Hz4 : Hid (W4.heap.size = w3.heap.size + 1) := by show W4.heap.size = _; rw [hW4]; simp
  have HB4 : Hid (Below w.heap.size w W4) := by rw [hW4]; exact below_setRow2 ((HB2.out.trans (hb3.mono (by omega))).alloc (by omega) _) (by omega) _
  have Hr4 : Hid (RowAt W4 w3.heap.size 89 (arr r)) := by rw [hW4]; exact (RowAt.new w3 _ _).setRow _
  have Hrr4 : Hid (RowAt W4 (w.heap.size + 1 + 1) 25 (numCells false none 0 0)) := by rw [hW4]; exact ((Hrr2.out.below hb3 (by omega)).alloc _).setRowOther _ (by omega)
  have Hnew := Lib.hid (RowAt.new w3 89 Tryz.zeroCells89)
  have hnum := number_calls false _ _ W4 (u32s_row (B := W4.heap.size) (w := W4) (cap := 65) (L := 65) Hr4.out (by rw [Hz4.out]; omega) (by omega) (by rw [hrl]; decide))
  rw [List.take_of_length_le (by omega), strip_digs hrd, hrv, Hrs.out.1, Hrs.out.2.1, Hrs.out.2.2] at hnum
  have Hnum := Lib.hid hnum
  have HW4 := Lib.hid hW4
  clear hW4 hb3 hnum hrd hrv h20 h21 h22 h23
  go_wp2_with (refine store_row rfl (.tmp 6) (.tmp 20) rfl w3.heap.size rfl r hrl rfl 89 Tryz.zeroCells89 Hnew.out (by kernel_rfl) ?_; rw [← HW4.out])
  refine Hnum.out.mono ?_
  rintro e w5 ⟨s5, rfl, hu5, hb5⟩
  have hU5 := hu5
  obtain ⟨p5, c5, rfl, -, -⟩ := hU5
  have HR5 := Lib.hid (Hrr4.out.below hb5 (by rw [Hz4.out]; omega))
  have Hfin := Lib.hid (finNum (g := w.heap.size + 1 + 1) HB4.out (by omega) (by rw [Hz4.out]; omega) hu5 hb5 (turned_setRow w5 _ (numCells (zneg ((Nat.gcd za.natAbs zb.natAbs : Nat) : Int)) p5 (zdigs ((Nat.gcd za.natAbs zb.natAbs : Nat) : Int)).length c5)))
  clear hu5 hb5
  go_wp2_with (refine store_num rfl (.tmp 4) (.tmp 23) rfl (w.heap.size + 1 + 1) rfl _ _ _ _ rfl _ _ HR5.out rfl ?_)
  exact ret_num rfl (w.heap.size + 1 + 1) rfl _ rfl _ _ _ _ _ (HR5.out.setRow _) ⟨_, rfl, Hfin.out.1, Hfin.out.2⟩
end Go.Proofs.YtegjcikofmphjaaGreatDoor

