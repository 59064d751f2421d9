/- Layer 1: Mul at numbers that are right. -/
import Derived.Test.YtcmpgboifcemmaaDoorNum11
import Derived.Test.YtcmpgboifcemmaaDoorNum7
import Derived.Deep.RegionHeld3
set_option linter.all false
namespace Go.Proofs.YtcmpgboifcemmaaDoor
open Go Go.RowKit Go.Shelf

theorem mul_natAbs_lt {za zb : Int} (ha : za.natAbs < B32 ^ 64) (hb : zb.natAbs < B32 ^ 64) (h : 65 < (digs za.natAbs).length + (digs zb.natAbs).length) : ¬ (za * zb).natAbs < B32 ^ 64 := by
  have h1 := digs_len64 ha
  have h2 := digs_len64 hb
  have ga := val_ge_of_noZero (norm_digs za.natAbs).2 (by intro e; rw [e] at h; simp at h; omega)
  have gb := val_ge_of_noZero (norm_digs zb.natAbs).2 (by intro e; rw [e] at h; simp at h; omega)
  rw [val_digs] at ga gb
  rw [Int.natAbs_mul]
  have hm := Nat.mul_le_mul ga gb
  rw [← Nat.pow_add] at hm
  have hp := Nat.pow_le_pow_right B32_pos (show 64 ≤ (digs za.natAbs).length - 1 + ((digs zb.natAbs).length - 1) by omega)
  omega

theorem zneg_big {z : Int} (h : ¬ z.natAbs < B32 ^ 64) : zneg z = false ∧ zdigs z = [] ∧ zok z = false := by
  unfold zneg zdigs zok; rw [if_neg h, if_neg h]; exact ⟨rfl, rfl, by simp [h]⟩

set_option maxRecDepth 100000 in
set_option maxHeartbeats 2000000 in
theorem mul_calls (va vb : Value) (za zb : Int) (w : World) (ha : ZNum w.heap.size w va za) (hb : ZNum w.heap.size w vb zb) :
    Calls Tryd.prog 22 #[va, vb] w (ZPost w (za * zb)) := by
  obtain ⟨p, c, rfl⟩ := ha.parts
  obtain ⟨q, c2, rfl⟩ := hb.parts
  generalize hna : decide (za < 0) = na at *
  generalize hnb : decide (zb < 0) = nb at *
  generalize hn : (digs za.natAbs).length = n at *
  generalize hm : (digs zb.natAbs).length = m at *
  have Hcase : Hid ((65 < n + m → zneg (za * zb) = false ∧ zdigs (za * zb) = [] ∧ zok (za * zb) = false) ∧ n ≤ 64 ∧ m ≤ 64) := by
    rw [← hn, ← hm]
    exact ⟨fun h => zneg_big (mul_natAbs_lt ha.2 hb.2 h), digs_len64 ha.2, digs_len64 hb.2⟩
  obtain ⟨hn64, hm64⟩ := Hcase.out.2
  have Hn := Lib.hid hn
  have Hm := Lib.hid hm
  have Hna := Lib.hid hna
  obtain ⟨W3, hW3⟩ : ∃ W3, W3 = ((w.alloc (.cells #[.bool na, .slice p n c] 26)).alloc (.cells #[.bool nb, .slice q m c2] 26)).alloc (.cells #[.bool false, .slice none 0 0] 26) := ⟨_, rfl⟩
  have HB3 : Hid (Below w.heap.size w W3) := by rw [hW3]; exact (((Below.refl _ w).alloc (Nat.le_refl _) _).alloc (by simp) _).alloc (by simp; omega) _
  have Hz3 : Hid (W3.heap.size = w.heap.size + 3) := by show W3.heap.size = _; rw [hW3]; simp
  have Hra : Hid (RowAt W3 w.heap.size 26 (numCells na p n c)) := by rw [hW3]; exact ((RowAt.new w _ _).alloc _).alloc _
  have Hrb : Hid (RowAt W3 (w.heap.size + 1) 26 (numCells nb q m c2)) := by rw [hW3]; exact (RowAt.new' _ _ (by simp)).alloc _
  have Hrr : Hid (RowAt W3 (w.heap.size + 1 + 1) 26 (numCells false none 0 0)) := by rw [hW3]; exact RowAt.new' _ _ (by simp)
  have HA := Lib.hid ((ha.below HB3.out).mono (by rw [Hz3.out]; omega : w.heap.size ≤ W3.heap.size))
  have HBn := Lib.hid ((hb.below HB3.out).mono (by rw [Hz3.out]; omega : w.heap.size ≤ W3.heap.size))
  have HW3 := Lib.hid hW3
  have Hnb := Lib.hid hnb
  clear hW3 ha hb hna hnb hn hm
  go_enter Tryd.func22, Tryd.ntmps22
  go_wp2_with fail
  rw [← HW3.out]
  refine (right_calls_z _ za W3 HA.out).mono ?_
  rintro e w1 ⟨rfl, hb1⟩
  have Hra1 := Lib.hid (Hra.out.below hb1 (by rw [Hz3.out]; omega))
  have Hrb1 := Lib.hid (Hrb.out.below hb1 (by rw [Hz3.out]; omega))
  have Hrr1 := Lib.hid (Hrr.out.below hb1 (by rw [Hz3.out]; omega))
  have HA1 := Lib.hid ((HA.out.below hb1).mono hb1.size)
  have HBn1 := Lib.hid ((HBn.out.below hb1).mono hb1.size)
  have HB1 := Lib.hid (HB3.out.trans (hb1.mono (by rw [Hz3.out]; omega : w.heap.size ≤ W3.heap.size)))
  have hz1 : w.heap.size + 3 ≤ w1.heap.size := by rw [← Hz3.out]; exact hb1.size
  have h10 := Hrb1.out.num0
  have h11 := Hrb1.out.num1
  clear hb1
  go_wp2_with fail
  refine (right_calls_z _ zb w1 HBn1.out).mono ?_
  rintro e w2 ⟨rfl, hb2⟩
  have Hra2 := Lib.hid (Hra1.out.below hb2 (by omega))
  have Hrb2 := Lib.hid (Hrb1.out.below hb2 (by omega))
  have Hrr2 := Lib.hid (Hrr1.out.below hb2 (by omega))
  have HA2 := Lib.hid ((HA1.out.below hb2).mono hb2.size)
  have HBn2 := Lib.hid ((HBn1.out.below hb2).mono hb2.size)
  have HB2 := Lib.hid (HB1.out.trans (hb2.mono (by omega : w.heap.size ≤ w1.heap.size)))
  have hz2 : w.heap.size + 3 ≤ w2.heap.size := Nat.le_trans hz1 hb2.size
  have h20 := Hrb2.out.num0
  have h21 := Hrb2.out.num1
  have h22 := Hra2.out.num0
  have h23 := Hra2.out.num1
  clear hb2 h10 h11 hz1
  by_cases hbig : 65 < n + m
  · obtain ⟨e1, e2, e3⟩ := Hcase.out.1 hbig
    have HE := Lib.hid (And.intro e1 (And.intro e2 e3))
    have hbigI : (65 : Int) < (n : Int) + (m : Int) := by omega
    have Hfin := Lib.hid ((Below.trans HB2.out (below_setRow2 (Below.refl _ w2) (by omega : w.heap.size ≤ w.heap.size + 1 + 1) (numCells false none 0 0))))
    clear e1 e2 e3 hbig
    go_wp2_with (refine store_num rfl (.tmp 4) (.tmp 24) rfl (w.heap.size + 1 + 1) rfl false none 0 0 rfl _ _ Hrr2.out rfl ?_)
    exact ret_num rfl (w.heap.size + 1 + 1) rfl _ rfl _ _ _ _ _ (Hrr2.out.setRow _) ⟨_, by rw [HE.out.1, HE.out.2.2], by rw [HE.out.2.1]; exact u32n_nil _ _ _, Hfin.out⟩
  · have hsmall : ¬ (65 : Int) < (n : Int) + (m : Int) := by omega
    have hnm : n + m ≤ 65 := by omega
    have hua2 : U32s w2.heap.size w2 (.slice p n c) (digs za.natAbs) := by
      obtain ⟨⟨s, e, hu⟩, -⟩ := HA2.out; cases e; exact hu
    have hub2 : U32s w2.heap.size w2 (.slice q m c2) (digs zb.natAbs) := by
      obtain ⟨⟨s, e, hu⟩, -⟩ := HBn2.out; cases e; exact hu
    have Hprod := Lib.hid (product_calls _ _ _ _ w2 hua2 hub2 (digs_digits _) (digs_digits _) (by rw [Hn.out, Hm.out]; exact hnm))
    have Hsl := Lib.hid (prodRow_length (digs za.natAbs) (digs zb.natAbs))
    have Hres : Hid (strip ((prodRow (digs za.natAbs) (digs zb.natAbs)).take (n + m)) = digs (za.natAbs * zb.natAbs)) := by
      show _ = _
      rw [strip_digs ((prod_digits (digs_digits _) (digs_digits _)).take _), ← Hn.out, ← Hm.out, prod_take _ _ (by rw [Hn.out, Hm.out]; exact hnm), val_digs, val_digs]
    have hrs := res_of (na != nb) (za.natAbs * zb.natAbs) (za * zb) (Int.natAbs_mul _ _) (fun h => by
      rw [← Hna.out, ← Hnb.out]
      have h1 : za ≠ 0 := by intro e; subst e; simp at h
      have h2 : zb ≠ 0 := by intro e; subst e; simp at h
      by_cases h3 : za < 0 <;> by_cases h4 : zb < 0 <;> simp only [h3, h4, decide_true, decide_false, bne_self_eq_false, Bool.true_bne, Bool.false_bne, Bool.not_false]
      · have := Int.mul_pos_of_neg_of_neg h3 h4; simp; omega
      · have := Int.mul_neg_of_neg_of_pos h3 (by omega : 0 < zb); simp; omega
      · have := Int.mul_neg_of_pos_of_neg (by omega : 0 < za) h4; simp; omega
      · have := Int.mul_pos (by omega : 0 < za) (by omega : 0 < zb); simp; omega)
    have Hrs := Lib.hid hrs
    generalize prodRow (digs za.natAbs) (digs zb.natAbs) = row at *
    clear hua2 hub2 hbig hrs
    go_wp2_with fail
    refine Hprod.out.mono ?_
    rintro e w3 ⟨rfl, hb3⟩
    have hz3 : w.heap.size + 3 ≤ w3.heap.size := Nat.le_trans hz2 hb3.size
    obtain ⟨W4, hW4⟩ : ∃ W4, W4 = (w3.alloc (.cells Tryd.zeroCells52 52)).setRow w3.heap.size (arr row) := ⟨_, rfl⟩
    have Hz4 : Hid (W4.heap.size = w3.heap.size + 1) := by show W4.heap.size = _; rw [hW4]; simp
    have HB4 : Hid (Below w.heap.size w W4) := by rw [hW4]; exact below_setRow2 ((HB2.out.trans (hb3.mono (by omega))).alloc (by omega) _) (by omega) _
    have Hr4 : Hid (RowAt W4 w3.heap.size 52 (arr row)) := by rw [hW4]; exact (RowAt.new w3 _ _).setRow _
    have hra4 : RowAt W4 w.heap.size 26 (numCells na p n c) := by rw [hW4]; exact ((Hra2.out.below hb3 (by omega)).alloc _).setRowOther _ (by omega)
    have hrb4 : RowAt W4 (w.heap.size + 1) 26 (numCells nb q m c2) := by rw [hW4]; exact ((Hrb2.out.below hb3 (by omega)).alloc _).setRowOther _ (by omega)
    have Hrr4 : Hid (RowAt W4 (w.heap.size + 1 + 1) 26 (numCells false none 0 0)) := by rw [hW4]; exact ((Hrr2.out.below hb3 (by omega)).alloc _).setRowOther _ (by omega)
    have h40 := hra4.num0
    have h41 := hra4.num1
    have h42 := hrb4.num0
    have h43 := hrb4.num1
    have Hnew := Lib.hid (RowAt.new w3 52 Tryd.zeroCells52)
    have HW4 := Lib.hid hW4
    have hnum := number_calls (na != nb) _ _ W4.drew (u32s_row (B := W4.drew.heap.size) (w := W4.drew) (cap := 65) (L := n + m) Hr4.out (by show _ < W4.heap.size; rw [Hz4.out]; omega) (by rw [Hsl.out]; omega) (by rw [Hsl.out]; decide))
    rw [Hres.out, Hrs.out.1, Hrs.out.2.1, Hrs.out.2.2] at hnum
    have Hnum := Lib.hid hnum
    have hw5 : (n : Int) + (m : Int) ≤ 65 := by omega
    have hw6 : IntKind.i64.wrap ((n : Int) + (m : Int)) = (n : Int) + (m : Int) := by rw [IntKind.wrap_i64]; omega
    have hw7 : (0 : Int) ≤ (n : Int) + (m : Int) := by omega
    have hw8 : ((n : Int) + (m : Int)).toNat = n + m := by omega
    clear hW4 hra4 hrb4 hb3 hnum h20 h21 h22 h23
    go_wp2_with (refine store_row rfl (.tmp 6) (.tmp 29) rfl w3.heap.size rfl row Hsl.out rfl 52 Tryd.zeroCells52 Hnew.out (by kernel_rfl) ?_; rw [← HW4.out])
    go_region_held3 (fun W => W.cell? ⟨w.heap.size, 0, none⟩ = some (.bool na) ∧ W.cell? ⟨w.heap.size, 1, none⟩ = some (.slice p n c) ∧ W.cell? ⟨w.heap.size + 1, 0, none⟩ = some (.bool nb) ∧ W.cell? ⟨w.heap.size + 1, 1, none⟩ = some (.slice q m c2)) (first | exact ⟨by assumption, by assumption, by assumption, by assumption⟩ | exact ⟨cell_set2 _ _ _ _ _ _ _ _ (by assumption) (by show w.heap.size ≠ _; omega), cell_set2 _ _ _ _ _ _ _ _ (by assumption) (by show w.heap.size ≠ _; omega), cell_set2 _ _ _ _ _ _ _ _ (by assumption) (by show w.heap.size + 1 ≠ _; omega), cell_set2 _ _ _ _ _ _ _ _ (by assumption) (by show w.heap.size + 1 ≠ _; omega)⟩)
      (first | (go_at_call 31; refine Hnum.out.mono ?_; rintro e w5 ⟨s5, rfl, hu5, hb5⟩; have hU5 := hu5; obtain ⟨p5, c5, rfl, -, -⟩ := hU5; have hr5 := (RowAt.drew Hrr4.out).below hb5 (by show _ < W4.heap.size; rw [Hz4.out]; omega); have hr50 := hr5.num0; have hr51 := hr5.num1; have hf50 := hr5.frozen 0; have hf51 := hr5.frozen 1; have HR5 := Lib.hid hr5; have HU5 := Lib.hid hu5; have HB5 := Lib.hid hb5; have hk1 : w5.cell? ⟨w.heap.size, 0, none⟩ = some (.bool na) := (hb5.cell (p := ⟨w.heap.size, 0, none⟩) (by show _ < W4.heap.size; rw [Hz4.out]; show w.heap.size < _; omega)).trans h40; have hk2 : w5.cell? ⟨w.heap.size, 1, none⟩ = some (.slice p n c) := (hb5.cell (p := ⟨w.heap.size, 1, none⟩) (by show _ < W4.heap.size; rw [Hz4.out]; show w.heap.size < _; omega)).trans h41; have hk3 : w5.cell? ⟨w.heap.size + 1, 0, none⟩ = some (.bool nb) := (hb5.cell (p := ⟨w.heap.size + 1, 0, none⟩) (by show _ < W4.heap.size; rw [Hz4.out]; show w.heap.size + 1 < _; omega)).trans h42; have hk4 : w5.cell? ⟨w.heap.size + 1, 1, none⟩ = some (.slice q m c2) := (hb5.cell (p := ⟨w.heap.size + 1, 1, none⟩) (by show _ < W4.heap.size; rw [Hz4.out]; show w.heap.size + 1 < _; omega)).trans h43; clear hr5 hu5 hb5))
    go_wp2
    have hfin := finNum (g := w.heap.size + 1 + 1) (Below.drew HB4.out) (by omega) (by show _ < W4.heap.size; rw [Hz4.out]; omega) HU5.out HB5.out (turned_set2 w5 _ (.bool (zneg (za * zb))) (.slice p5 (zdigs (za * zb)).length c5))
    exact ret_num rfl (w.heap.size + 1 + 1) rfl _ rfl _ _ _ _ _ (numCells_set HR5.out rfl _ _ _ _) ⟨_, rfl, hfin.1, hfin.2⟩

end Go.Proofs.YtcmpgboifcemmaaDoor
