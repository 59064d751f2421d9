/- Layer 1: signedSum, numbers of different signs. -/
import Derived.Test.YtcmpgboifcemmaaDoorNum3
import Derived.Test.YtcmpgboifcemmaaDoorNum5
import Derived.Test.YtcmpgboifcemmaaDoorNum6
import Derived.Test.YtcmpgboifcemmaaDoorNum8
import Derived.Lib.MinMax
import Derived.Deep.RegionWith
import Derived.BigRegion
import Derived.Deep.DeepMust
import Derived.Deep.RegionHeld3
set_option linter.all false
namespace Go.Proofs.YtcmpgboifcemmaaDoor
open Go Go.RowKit Go.Shelf

set_option maxRecDepth 100000 in
set_option maxHeartbeats 2000000 in
theorem signedSum_less (va vb : Value) (na nb neg : Bool) (hneg : na ≠ neg) (xs ys : List Nat) (w : World) (ha : NumV w.heap.size w va na xs) (hb : NumV w.heap.size w vb nb ys) (hdx : Digits xs) (hdy : Digits ys) (hx : xs.length ≤ 64) (hy : ys.length ≤ 64) (hcmp : cmpL xs ys < 0) :
    Calls Tryd.prog 45 #[va, vb, .bool neg] w (NumPost w (resNeg neg (strip ((combRow subLo subHi ys xs).take ys.length))) (resDs (strip ((combRow subLo subHi ys xs).take ys.length))) (resOk (strip ((combRow subLo subHi ys xs).take ys.length)))) := by
  obtain ⟨sa, rfl, hua⟩ := ha
  obtain ⟨sb, rfl, hub⟩ := hb
  obtain ⟨p, cap, rfl, hl, hc⟩ := id hua
  obtain ⟨q, cap2, rfl, hl2, hc2⟩ := id hub
  clear hc hc2
  have hnn : (na == neg) = false := by simp [hneg]
  obtain ⟨W3, hW3⟩ : ∃ W3, W3 = ((w.alloc (.cells #[.bool na, .slice p xs.length cap] 26)).alloc (.cells #[.bool nb, .slice q ys.length cap2] 26)).alloc (.cells #[.bool false, .slice none 0 0] 26) := ⟨_, rfl⟩
  have hB3 : Below w.heap.size w W3 := by rw [hW3]; exact (((Below.refl _ w).alloc (Nat.le_refl _) _).alloc (by simp) _).alloc (by simp; omega) _
  have hz3 : W3.heap.size = w.heap.size + 3 := by rw [hW3]; simp
  have hua3 : U32s W3.heap.size W3 (.slice p xs.length cap) xs := (hua.below hB3).mono (by omega)
  have hub3 : U32s W3.heap.size W3 (.slice q ys.length cap2) ys := (hub.below hB3).mono (by omega)
  have Hord := Lib.hid (order_calls _ _ xs ys W3 hua3 hub3 hdx hdy)
  have Hdif : Hid (∀ w1, Below W3.heap.size W3 w1 → Calls Tryd.prog 30 #[.slice q ys.length cap2, .slice p xs.length cap] w1 fun e w' => e = .returned (.agg (arr (combRow subLo subHi ys xs))) ∧ Below w1.heap.size w1 w') := fun w1 hb => difference_calls _ _ ys xs w1 ((hub3.below hb).mono hb.size) ((hua3.below hb).mono hb.size) hdy hdx hy
  have hsl := combRow_length subLo subHi ys xs
  generalize combRow subLo subHi ys xs = row at *
  obtain ⟨M, hM⟩ : ∃ M, M = ys.length := ⟨_, rfl⟩
  have hM64 : M ≤ 64 := by omega
  have hMl : (ys.length : Int) = (M : Int) := by omega
  have Hsl := Lib.hid hsl
  have HB3 := Lib.hid hB3
  have Hz3 := Lib.hid hz3
  have Hra : Hid (RowAt W3 w.heap.size 26 (numCells na p xs.length cap)) := by rw [hW3]; exact ((RowAt.new w _ _).alloc _).alloc _
  have Hrb : Hid (RowAt W3 (w.heap.size + 1) 26 (numCells nb q ys.length cap2)) := by rw [hW3]; exact (RowAt.new' _ _ (by simp)).alloc _
  have Hrr : Hid (RowAt W3 (w.heap.size + 1 + 1) 26 (numCells false none 0 0)) := by rw [hW3]; exact RowAt.new' _ _ (by simp)
  have HW3 := Lib.hid hW3
  have HM := Lib.hid hM
  clear hsl hB3 hz3 hua hub hdx hdy hW3 hneg hua3 hub3 hM hMl
  go_enter Tryd.func45, Tryd.ntmps45
  go_wp2_with fail
  rw [← HW3.out]
  refine Hord.out.mono ?_
  rintro e w1 ⟨rfl, hb1⟩
  have hra1 := Hra.out.below hb1 (by rw [Hz3.out]; omega)
  have hrb1 := Hrb.out.below hb1 (by rw [Hz3.out]; omega)
  have hca1 := hra1.cell 1
  have hcb1 := hrb1.cell 1
  simp only [numCells] at hca1 hcb1
  have Hra1 := Lib.hid hra1
  have Hrb1 := Lib.hid hrb1
  have Hb1 := Lib.hid hb1
  clear hra1 hrb1 hb1
  go_wp2_with fail
  refine (Hdif.out w1 Hb1.out).mono ?_
  rintro e w2 ⟨rfl, hb2⟩
  have hb12 : Below W3.heap.size W3 w2 := Hb1.out.trans (hb2.mono Hb1.out.size)
  have hz2 := hb12.size
  rw [Hz3.out] at hz2
  obtain ⟨W4, hW4⟩ : ∃ W4, W4 = (w2.alloc (.cells Tryd.zeroCells52 52)).setRow w2.heap.size (arr row) := ⟨_, rfl⟩
  have Hz4 : Hid (W4.heap.size = w2.heap.size + 1) := by show W4.heap.size = _; rw [hW4]; simp
  have HB4 : Hid (Below w.heap.size w W4) := by rw [hW4]; exact below_setRow2 ((HB3.out.trans (hb12.mono (by rw [Hz3.out]; omega))).alloc (by omega) _) (by omega) _
  have Hr4 : Hid (RowAt W4 w2.heap.size 52 (arr row)) := by rw [hW4]; exact (RowAt.new w2 _ _).setRow _
  have hra4 : RowAt W4 w.heap.size 26 (numCells na p xs.length cap) := by rw [hW4]; exact ((Hra.out.below hb12 (by rw [Hz3.out]; omega)).alloc _).setRowOther _ (by omega)
  have hrb4 : RowAt W4 (w.heap.size + 1) 26 (numCells nb q ys.length cap2) := by rw [hW4]; exact ((Hrb.out.below hb12 (by rw [Hz3.out]; omega)).alloc _).setRowOther _ (by omega)
  have Hrr4 : Hid (RowAt W4 (w.heap.size + 1 + 1) 26 (numCells false none 0 0)) := by rw [hW4]; exact ((Hrr.out.below hb12 (by rw [Hz3.out]; omega)).alloc _).setRowOther _ (by omega)
  have hca40 := hra4.cell 0
  have hca41 := hra4.cell 1
  have hcb41 := hrb4.cell 1
  simp only [numCells] at hca40 hca41 hcb41
  have Hnew := Lib.hid (RowAt.new w2 52 Tryd.zeroCells52)
  have HW4 := Lib.hid hW4
  have Hnum := Lib.hid (number_calls neg _ _ W4 (u32s_row (B := W4.heap.size) (w := W4) (cap := 65) (L := ys.length) Hr4.out (by show _ < W4.heap.size; rw [Hz4.out]; omega) (by rw [Hsl.out, ← HM.out]; omega) (by rw [Hsl.out]; decide)))
  have hw5 : (ys.length : Int) ≤ 65 := by rw [← HM.out]; omega
  clear hW4 hra4 hrb4 hb12 hb2
  go_wp2_with (refine store_row rfl (.tmp 9) (.tmp 44) rfl w2.heap.size rfl row Hsl.out rfl 52 Tryd.zeroCells52 Hnew.out (by kernel_rfl) ?_; rw [← HW4.out])
  refine Hnum.out.mono ?_
  rintro e w5 ⟨s5, rfl, hu5, hb5⟩
  have hU5 := hu5
  obtain ⟨p5, c5, rfl, -, -⟩ := hU5
  have HR5 := Lib.hid (Hrr4.out.below hb5 (by rw [Hz4.out]; omega))
  have hfin := finNum (g := w.heap.size + 1 + 1) HB4.out (by omega) (by rw [Hz4.out]; omega) hu5 hb5 (turned_setRow w5 _ (numCells (resNeg neg (strip (List.take ys.length row))) p5 (resDs (strip (List.take ys.length row))).length c5))
  have Hfin := Lib.hid hfin
  clear hu5 hb5 hfin
  go_wp2_with (refine store_num rfl (.tmp 6) (.tmp 51) rfl (w.heap.size + 1 + 1) rfl _ _ _ _ rfl _ _ HR5.out rfl ?_)
  exact ret_num rfl (w.heap.size + 1 + 1) rfl _ rfl _ _ _ _ _ (HR5.out.setRow _) ⟨_, rfl, Hfin.out.1, Hfin.out.2⟩

set_option maxRecDepth 100000 in
set_option maxHeartbeats 2000000 in
theorem signedSum_more (va vb : Value) (na nb neg : Bool) (hneg : na ≠ neg) (xs ys : List Nat) (w : World) (ha : NumV w.heap.size w va na xs) (hb : NumV w.heap.size w vb nb ys) (hdx : Digits xs) (hdy : Digits ys) (hx : xs.length ≤ 64) (hy : ys.length ≤ 64) (hcmp : ¬ cmpL xs ys < 0) :
    Calls Tryd.prog 45 #[va, vb, .bool neg] w (NumPost w (resNeg na (strip ((combRow subLo subHi xs ys).take xs.length))) (resDs (strip ((combRow subLo subHi xs ys).take xs.length))) (resOk (strip ((combRow subLo subHi xs ys).take xs.length)))) := by
  obtain ⟨sa, rfl, hua⟩ := ha
  obtain ⟨sb, rfl, hub⟩ := hb
  obtain ⟨p, cap, rfl, hl, hc⟩ := id hua
  obtain ⟨q, cap2, rfl, hl2, hc2⟩ := id hub
  clear hc hc2
  have hnn : (na == neg) = false := by simp [hneg]
  obtain ⟨W3, hW3⟩ : ∃ W3, W3 = ((w.alloc (.cells #[.bool na, .slice p xs.length cap] 26)).alloc (.cells #[.bool nb, .slice q ys.length cap2] 26)).alloc (.cells #[.bool false, .slice none 0 0] 26) := ⟨_, rfl⟩
  have hB3 : Below w.heap.size w W3 := by rw [hW3]; exact (((Below.refl _ w).alloc (Nat.le_refl _) _).alloc (by simp) _).alloc (by simp; omega) _
  have hz3 : W3.heap.size = w.heap.size + 3 := by rw [hW3]; simp
  have hua3 : U32s W3.heap.size W3 (.slice p xs.length cap) xs := (hua.below hB3).mono (by omega)
  have hub3 : U32s W3.heap.size W3 (.slice q ys.length cap2) ys := (hub.below hB3).mono (by omega)
  have Hord := Lib.hid (order_calls _ _ xs ys W3 hua3 hub3 hdx hdy)
  have Hdif : Hid (∀ w1, Below W3.heap.size W3 w1 → Calls Tryd.prog 30 #[.slice p xs.length cap, .slice q ys.length cap2] w1 fun e w' => e = .returned (.agg (arr (combRow subLo subHi xs ys))) ∧ Below w1.heap.size w1 w') := fun w1 hb => difference_calls _ _ xs ys w1 ((hua3.below hb).mono hb.size) ((hub3.below hb).mono hb.size) hdx hdy hx
  have hsl := combRow_length subLo subHi xs ys
  generalize combRow subLo subHi xs ys = row at *
  obtain ⟨M, hM⟩ : ∃ M, M = xs.length := ⟨_, rfl⟩
  have hM64 : M ≤ 64 := by omega
  have hMl : (xs.length : Int) = (M : Int) := by omega
  have Hsl := Lib.hid hsl
  have HB3 := Lib.hid hB3
  have Hz3 := Lib.hid hz3
  have Hra : Hid (RowAt W3 w.heap.size 26 (numCells na p xs.length cap)) := by rw [hW3]; exact ((RowAt.new w _ _).alloc _).alloc _
  have Hrb : Hid (RowAt W3 (w.heap.size + 1) 26 (numCells nb q ys.length cap2)) := by rw [hW3]; exact (RowAt.new' _ _ (by simp)).alloc _
  have Hrr : Hid (RowAt W3 (w.heap.size + 1 + 1) 26 (numCells false none 0 0)) := by rw [hW3]; exact RowAt.new' _ _ (by simp)
  have HW3 := Lib.hid hW3
  have HM := Lib.hid hM
  clear hsl hB3 hz3 hua hub hdx hdy hW3 hneg hua3 hub3 hM hMl
  go_enter Tryd.func45, Tryd.ntmps45
  go_wp2_with fail
  rw [← HW3.out]
  refine Hord.out.mono ?_
  rintro e w1 ⟨rfl, hb1⟩
  have hra1 := Hra.out.below hb1 (by rw [Hz3.out]; omega)
  have hrb1 := Hrb.out.below hb1 (by rw [Hz3.out]; omega)
  have hca1 := hra1.cell 1
  have hcb1 := hrb1.cell 1
  simp only [numCells] at hca1 hcb1
  have Hra1 := Lib.hid hra1
  have Hrb1 := Lib.hid hrb1
  have Hb1 := Lib.hid hb1
  clear hra1 hrb1 hb1
  go_wp2_with fail
  refine (Hdif.out w1 Hb1.out).mono ?_
  rintro e w2 ⟨rfl, hb2⟩
  have hb12 : Below W3.heap.size W3 w2 := Hb1.out.trans (hb2.mono Hb1.out.size)
  have hz2 := hb12.size
  rw [Hz3.out] at hz2
  obtain ⟨W4, hW4⟩ : ∃ W4, W4 = (w2.alloc (.cells Tryd.zeroCells52 52)).setRow w2.heap.size (arr row) := ⟨_, rfl⟩
  have Hz4 : Hid (W4.heap.size = w2.heap.size + 1) := by show W4.heap.size = _; rw [hW4]; simp
  have HB4 : Hid (Below w.heap.size w W4) := by rw [hW4]; exact below_setRow2 ((HB3.out.trans (hb12.mono (by rw [Hz3.out]; omega))).alloc (by omega) _) (by omega) _
  have Hr4 : Hid (RowAt W4 w2.heap.size 52 (arr row)) := by rw [hW4]; exact (RowAt.new w2 _ _).setRow _
  have hra4 : RowAt W4 w.heap.size 26 (numCells na p xs.length cap) := by rw [hW4]; exact ((Hra.out.below hb12 (by rw [Hz3.out]; omega)).alloc _).setRowOther _ (by omega)
  have hrb4 : RowAt W4 (w.heap.size + 1) 26 (numCells nb q ys.length cap2) := by rw [hW4]; exact ((Hrb.out.below hb12 (by rw [Hz3.out]; omega)).alloc _).setRowOther _ (by omega)
  have Hrr4 : Hid (RowAt W4 (w.heap.size + 1 + 1) 26 (numCells false none 0 0)) := by rw [hW4]; exact ((Hrr.out.below hb12 (by rw [Hz3.out]; omega)).alloc _).setRowOther _ (by omega)
  have hca40 := hra4.cell 0
  have hca41 := hra4.cell 1
  have hcb41 := hrb4.cell 1
  simp only [numCells] at hca40 hca41 hcb41
  have Hnew := Lib.hid (RowAt.new w2 52 Tryd.zeroCells52)
  have HW4 := Lib.hid hW4
  have Hnum := Lib.hid (number_calls na _ _ W4.drew (u32s_row (B := W4.drew.heap.size) (w := W4.drew) (cap := 65) (L := xs.length) Hr4.out (by show _ < W4.heap.size; rw [Hz4.out]; omega) (by rw [Hsl.out, ← HM.out]; omega) (by rw [Hsl.out]; decide)))
  have hw5 : (xs.length : Int) ≤ 65 := by rw [← HM.out]; omega
  clear hW4 hra4 hrb4 hb12 hb2
  go_wp2_with (refine store_row rfl (.tmp 10) (.tmp 57) rfl w2.heap.size rfl row Hsl.out rfl 52 Tryd.zeroCells52 Hnew.out (by kernel_rfl) ?_; rw [← HW4.out])
  go_region_held3 (fun W => W.cell? ⟨w.heap.size, 0, none⟩ = some (.bool na) ∧ W.cell? ⟨w.heap.size, 1, none⟩ = some (.slice p xs.length cap)) (first | exact ⟨by assumption, by assumption⟩ | exact ⟨cell_set2 _ _ _ _ _ _ _ _ (by assumption) (by show w.heap.size ≠ _; omega), cell_set2 _ _ _ _ _ _ _ _ (by assumption) (by show w.heap.size ≠ _; omega)⟩)
    (first | (go_at_call 31; refine Hnum.out.mono ?_; rintro e w5 ⟨s5, rfl, hu5, hb5⟩; have hU5 := hu5; obtain ⟨p5, c5, rfl, -, -⟩ := hU5; have hr5 := (RowAt.drew Hrr4.out).below hb5 (by show _ < W4.heap.size; rw [Hz4.out]; omega); have hr50 := hr5.cell 0; have hr51 := hr5.cell 1; have hf50 := hr5.frozen 0; have hf51 := hr5.frozen 1; simp only [numCells] at hr50 hr51; have HR5 := Lib.hid hr5; have HU5 := Lib.hid hu5; have HB5 := Lib.hid hb5; have hk1 : w5.cell? ⟨w.heap.size, 0, none⟩ = some (.bool na) := (hb5.cell (p := ⟨w.heap.size, 0, none⟩) (by show _ < W4.heap.size; rw [Hz4.out]; show w.heap.size < _; omega)).trans hca40; have hk2 : w5.cell? ⟨w.heap.size, 1, none⟩ = some (.slice p xs.length cap) := (hb5.cell (p := ⟨w.heap.size, 1, none⟩) (by show _ < W4.heap.size; rw [Hz4.out]; show w.heap.size < _; omega)).trans hca41; clear hr5 hu5 hb5))
  go_wp2
  have hfin := finNum (g := w.heap.size + 1 + 1) (Below.drew HB4.out) (by omega) (by show _ < W4.heap.size; rw [Hz4.out]; omega) HU5.out HB5.out (turned_set2 w5 _ (.bool (resNeg na (strip (List.take xs.length row)))) (.slice p5 (resDs (strip (List.take xs.length row))).length c5))
  exact ret_num rfl (w.heap.size + 1 + 1) rfl _ rfl _ _ _ _ _ (numCells_set HR5.out rfl _ _ _ _) ⟨_, rfl, hfin.1, hfin.2⟩

end Go.Proofs.YtcmpgboifcemmaaDoor
