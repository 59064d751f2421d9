import Derived.StillTailTactics
import Derived.Lib.MinMax
import Derived.Deep.RegionWith
import Derived.BigRegion
import Derived.Deep.DeepMust
import Derived.Deep.RegionHeld3
import Derived.Deep.DeepFit
import Derived.Test.YtgnogdncoljldaaGreatQNumBits
import Derived.Test.YtgnogdncoljldaaGreatQP1
set_option linter.all false
namespace Go.Proofs.YtgnogdncoljldaaGreat
open Go Go.RowKit Go.Shelf
theorem u32s_row {B : Nat} {w : World} {g L cap : Nat} {t : TypeId} {xs : List Nat} (hg : RowAt w g t (arr xs)) (hB : g < B) (hL : L ≤ xs.length) (hm : xs.length ≤ maxLen) : U32s B w (.slice (some ⟨g, 0, none⟩) L cap) (xs.take L) := by
 have e : (xs.take L).length = L := by simp; omega
 refine ⟨some ⟨g, 0, none⟩, cap, by rw [e], by rw [e]; omega, fun _ => ⟨g, 0, rfl, hB, fun j hj => ?_⟩⟩
 rw [e] at hj
 rw [Nat.zero_add, hg.cell j, arr_get xs j (by omega), List.getElem?_take_of_lt hj]
set_option maxRecDepth 100000 in
set_option maxHeartbeats 2000000 in
theorem signedSum_same (va vb : Value) (na nb : Bool) (xs ys : List Nat) (w : World) (ha : NumV w.heap.size w va na xs) (hb : NumV w.heap.size w vb nb ys) (hdx : Digits xs) (hdy : Digits ys) (hx : xs.length ≤ 64) (hy : ys.length ≤ 64) :
  Calls Tryz.prog 150 #[va, vb, .bool na] w (NumPost w (resNeg na (strip ((sumRow xs ys).take (max xs.length ys.length + 1)))) (resDs (strip ((sumRow xs ys).take (max xs.length ys.length + 1)))) (resOk (strip ((sumRow xs ys).take (max xs.length ys.length + 1))))) := by
 obtain ⟨sa, rfl, hua⟩ := ha
 obtain ⟨sb, rfl, hub⟩ := hb
 obtain ⟨p, cap, rfl, hl, hc⟩ := id hua
 obtain ⟨q, cap2, rfl, hl2, hc2⟩ := id hub
 clear hc hc2
 obtain ⟨W3, hW3⟩ : ∃ W3, W3 = ((w.alloc (.cells #[.bool na, .slice p xs.length cap] 36)).alloc (.cells #[.bool nb, .slice q ys.length cap2] 36)).alloc (.cells #[.bool false, .slice none 0 0] 36) := ⟨_, rfl⟩
 have hB3 : Below w.heap.size w W3 := by rw [hW3]; exact (((Below.refl _ w).alloc (Nat.le_refl _) _).alloc (by simp) _).alloc (by simp; omega) _
 have hz3 : W3.heap.size = w.heap.size + 3 := by rw [hW3]; simp
 have hsum := sum_calls _ _ xs ys W3 ((hua.below hB3).mono (by omega)) ((hub.below hB3).mono (by omega)) hdx hdy hx hy
 have hsl := sumRow_length xs ys
 generalize sumRow xs ys = row at *
 obtain ⟨M, hM⟩ : ∃ M, M = max xs.length ys.length := ⟨_, rfl⟩
 have hmaxI : max (xs.length : Int) (ys.length : Int) = (M : Int) := by rw [hM]; omega
 have hM64 : M ≤ 64 := by omega
 rw [← hM]
 clear hM
 have Hsum := Lib.hid hsum
 have Hsl := Lib.hid hsl
 have HB3 := Lib.hid hB3
 have Hz3 := Lib.hid hz3
 have Hra : Hid (RowAt W3 w.heap.size 36 (numCells na p xs.length cap)) := by rw [hW3]; exact ((RowAt.new w _ _).alloc _).alloc _
 have Hrb : Hid (RowAt W3 (w.heap.size + 1) 36 (numCells nb q ys.length cap2)) := by rw [hW3]; exact (RowAt.new' _ _ (by simp)).alloc _
 have Hrr : Hid (RowAt W3 (w.heap.size + 1 + 1) 36 (numCells false none 0 0)) := by rw [hW3]; exact RowAt.new' _ _ (by simp)
 have HW3 := Lib.hid hW3
 clear hsum hsl hB3 hz3 hua hub hdx hdy hW3
 go_enter Tryz.func150, Tryz.ntmps150
 go_wp2_with fail
 rw [← HW3.out]
 refine Hsum.out.mono ?_
 rintro e w1 ⟨rfl, hb1⟩
 have hz1 := hb1.size
 rw [Hz3.out] at hz1
 obtain ⟨W4, hW4⟩ : ∃ W4, W4 = (w1.alloc (.cells Tryz.zeroCells155 155)).setRow w1.heap.size (arr row) := ⟨_, rfl⟩
 have Hz4 : Hid (W4.heap.size = w1.heap.size + 1) := by show W4.heap.size = _; rw [hW4]; simp
 have HB4 : Hid (Below w.heap.size w W4) := by rw [hW4]; exact below_setRow2 ((HB3.out.trans (hb1.mono (by rw [Hz3.out]; omega))).alloc (by omega) _) (by omega) _
 have Hr4 : Hid (RowAt W4 w1.heap.size 155 (arr row)) := by rw [hW4]; exact (RowAt.new w1 _ _).setRow _
 have hra4 : RowAt W4 w.heap.size 36 (numCells na p xs.length cap) := by rw [hW4]; exact ((Hra.out.below hb1 (by rw [Hz3.out]; omega)).alloc _).setRowOther _ (by omega)
 have hrb4 : RowAt W4 (w.heap.size + 1) 36 (numCells nb q ys.length cap2) := by rw [hW4]; exact ((Hrb.out.below hb1 (by rw [Hz3.out]; omega)).alloc _).setRowOther _ (by omega)
 have Hrr4 : Hid (RowAt W4 (w.heap.size + 1 + 1) 36 (numCells false none 0 0)) := by rw [hW4]; exact ((Hrr.out.below hb1 (by rw [Hz3.out]; omega)).alloc _).setRowOther _ (by omega)
 have hca0 := hra4.cell 0
 have hca1 := hra4.cell 1
 have hcb1 := hrb4.cell 1
 simp only [numCells] at hca0 hca1 hcb1
 have Hnew := Lib.hid (RowAt.new w1 155 Tryz.zeroCells155)
 have HW4 := Lib.hid hW4
 have hnum := number_calls na _ _ W4.drew (u32s_row (B := W4.drew.heap.size) (w := W4.drew) (cap := 65) (L := M + 1) Hr4.out (by show _ < W4.heap.size; rw [Hz4.out]; omega) (by rw [Hsl.out]; omega) (by rw [Hsl.out]; decide))
 have Hnum := Lib.hid hnum
 clear hW4 hra4 hrb4 hnum
 go_wp2_with (refine store_row rfl (.tmp 8) (.tmp 19) rfl w1.heap.size rfl row Hsl.out rfl 155 Tryz.zeroCells155 Hnew.out (by kernel_rfl) ?_; rw [← HW4.out])
 have hw1 : IntKind.i64.wrap ((M : Int) + 1) = (M : Int) + 1 := by rw [IntKind.wrap_i64]; omega
 have hw2 : (0 : Int) ≤ (M : Int) + 1 := by omega
 have hw3 : (M : Int) + 1 ≤ 65 := by omega
 have hw4 : ((M : Int) + 1).toNat = M + 1 := by omega
 go_region_held3 (fun W => W.cell? ⟨w.heap.size, 0, none⟩ = some (.bool na) ∧ W.cell? ⟨w.heap.size, 1, none⟩ = some (.slice p xs.length cap) ∧ W.cell? ⟨w.heap.size + 1, 1, none⟩ = some (.slice q ys.length cap2)) (first | exact ⟨by assumption, by assumption, by assumption⟩ | exact ⟨cell_set2 _ _ _ _ _ _ _ _ (by assumption) (by show w.heap.size ≠ _; omega), cell_set2 _ _ _ _ _ _ _ _ (by assumption) (by show w.heap.size ≠ _; omega), cell_set2 _ _ _ _ _ _ _ _ (by assumption) (by show w.heap.size + 1 ≠ _; omega)⟩)
  (first | (go_at_call 120; refine Hnum.out.mono ?_; rintro e w5 ⟨s5, rfl, hu5, hb5⟩; have hU5 := hu5; obtain ⟨p5, c5, rfl, -, -⟩ := hU5; have hr5 := (RowAt.drew Hrr4.out).below hb5 (by show _ < W4.heap.size; rw [Hz4.out]; omega); have hr50 := hr5.cell 0; have hr51 := hr5.cell 1; have hf50 := hr5.frozen 0; have hf51 := hr5.frozen 1; simp only [numCells] at hr50 hr51; have HR5 := Lib.hid hr5; have HU5 := Lib.hid hu5; have HB5 := Lib.hid hb5; have hk1 : w5.cell? ⟨w.heap.size, 0, none⟩ = some (.bool na) := (hb5.cell (p := ⟨w.heap.size, 0, none⟩) (by show _ < W4.heap.size; rw [Hz4.out]; show w.heap.size < _; omega)).trans hca0; have hk2 : w5.cell? ⟨w.heap.size, 1, none⟩ = some (.slice p xs.length cap) := (hb5.cell (p := ⟨w.heap.size, 1, none⟩) (by show _ < W4.heap.size; rw [Hz4.out]; show w.heap.size < _; omega)).trans hca1; have hk3 : w5.cell? ⟨w.heap.size + 1, 1, none⟩ = some (.slice q ys.length cap2) := (hb5.cell (p := ⟨w.heap.size + 1, 1, none⟩) (by show _ < W4.heap.size; rw [Hz4.out]; show w.heap.size + 1 < _; omega)).trans hcb1; clear hr5 hu5 hb5))
 go_wp2
 have hfin := finNum (g := w.heap.size + 1 + 1) (Below.drew HB4.out) (by omega) (by show _ < W4.heap.size; rw [Hz4.out]; omega) HU5.out HB5.out (turned_set2 w5 _ (.bool (resNeg na (strip (List.take (M + 1) row)))) (.slice p5 (resDs (strip (List.take (M + 1) row))).length c5))
 exact ret_num rfl (w.heap.size + 1 + 1) rfl _ rfl _ _ _ _ _ (numCells_set HR5.out rfl _ _ _ _) ⟨_, rfl, hfin.1, hfin.2⟩
end Go.Proofs.YtgnogdncoljldaaGreat
namespace Go.Proofs.YtgnogdncoljldaaGreat
open Go Go.RowKit Go.Shelf
set_option maxRecDepth 100000 in
set_option maxHeartbeats 2000000 in
theorem signedSum_less (va vb : Value) (na nb neg : Bool) (hneg : na ≠ neg) (xs ys : List Nat) (w : World) (ha : NumV w.heap.size w va na xs) (hb : NumV w.heap.size w vb nb ys) (hdx : Digits xs) (hdy : Digits ys) (hx : xs.length ≤ 64) (hy : ys.length ≤ 64) (hcmp : cmpL xs ys < 0) :
  Calls Tryz.prog 150 #[va, vb, .bool neg] w (NumPost w (resNeg neg (strip ((combRow subLo subHi ys xs).take ys.length))) (resDs (strip ((combRow subLo subHi ys xs).take ys.length))) (resOk (strip ((combRow subLo subHi ys xs).take ys.length)))) := by
 obtain ⟨sa, rfl, hua⟩ := ha
 obtain ⟨sb, rfl, hub⟩ := hb
 obtain ⟨p, cap, rfl, hl, hc⟩ := id hua
 obtain ⟨q, cap2, rfl, hl2, hc2⟩ := id hub
 clear hc hc2
 have hnn : (na == neg) = false := by simp [hneg]
 obtain ⟨W3, hW3⟩ : ∃ W3, W3 = ((w.alloc (.cells #[.bool na, .slice p xs.length cap] 36)).alloc (.cells #[.bool nb, .slice q ys.length cap2] 36)).alloc (.cells #[.bool false, .slice none 0 0] 36) := ⟨_, rfl⟩
 have hB3 : Below w.heap.size w W3 := by rw [hW3]; exact (((Below.refl _ w).alloc (Nat.le_refl _) _).alloc (by simp) _).alloc (by simp; omega) _
 have hz3 : W3.heap.size = w.heap.size + 3 := by rw [hW3]; simp
 have hua3 : U32s W3.heap.size W3 (.slice p xs.length cap) xs := (hua.below hB3).mono (by omega)
 have hub3 : U32s W3.heap.size W3 (.slice q ys.length cap2) ys := (hub.below hB3).mono (by omega)
 have Hord := Lib.hid (order_calls _ _ xs ys W3 hua3 hub3 hdx hdy)
 have Hdif : Hid (∀ w1, Below W3.heap.size W3 w1 → Calls Tryz.prog 165 #[.slice q ys.length cap2, .slice p xs.length cap] w1 fun e w' => e = .returned (.agg (arr (combRow subLo subHi ys xs))) ∧ Below w1.heap.size w1 w') := fun w1 hb => difference_calls _ _ ys xs w1 ((hub3.below hb).mono hb.size) ((hua3.below hb).mono hb.size) hdy hdx hy
 have hsl := combRow_length subLo subHi ys xs
 generalize combRow subLo subHi ys xs = row at *
 obtain ⟨M, hM⟩ : ∃ M, M = ys.length := ⟨_, rfl⟩
 have hM64 : M ≤ 64 := by omega
 have hMl : (ys.length : Int) = (M : Int) := by omega
 have Hsl := Lib.hid hsl
 have HB3 := Lib.hid hB3
 have Hz3 := Lib.hid hz3
 have Hra : Hid (RowAt W3 w.heap.size 36 (numCells na p xs.length cap)) := by rw [hW3]; exact ((RowAt.new w _ _).alloc _).alloc _
 have Hrb : Hid (RowAt W3 (w.heap.size + 1) 36 (numCells nb q ys.length cap2)) := by rw [hW3]; exact (RowAt.new' _ _ (by simp)).alloc _
 have Hrr : Hid (RowAt W3 (w.heap.size + 1 + 1) 36 (numCells false none 0 0)) := by rw [hW3]; exact RowAt.new' _ _ (by simp)
 have HW3 := Lib.hid hW3
 have HM := Lib.hid hM
 clear hsl hB3 hz3 hua hub hdx hdy hW3 hneg hua3 hub3 hM hMl
 go_enter Tryz.func150, Tryz.ntmps150
 go_wp2_with fail
 rw [← HW3.out]
 refine Hord.out.mono ?_
 rintro e w1 ⟨rfl, hb1⟩
 have hra1 := Hra.out.below hb1 (by rw [Hz3.out]; omega)
 have hrb1 := Hrb.out.below hb1 (by rw [Hz3.out]; omega)
 have hca1 := hra1.cell 1
 have hcb1 := hrb1.cell 1
 simp only [numCells] at hca1 hcb1
 have Hra1 := Lib.hid hra1
 have Hrb1 := Lib.hid hrb1
 have Hb1 := Lib.hid hb1
 clear hra1 hrb1 hb1
 go_wp2_with fail
 refine (Hdif.out w1 Hb1.out).mono ?_
 rintro e w2 ⟨rfl, hb2⟩
 have hb12 : Below W3.heap.size W3 w2 := Hb1.out.trans (hb2.mono Hb1.out.size)
 have hz2 := hb12.size
 rw [Hz3.out] at hz2
 obtain ⟨W4, hW4⟩ : ∃ W4, W4 = (w2.alloc (.cells Tryz.zeroCells155 155)).setRow w2.heap.size (arr row) := ⟨_, rfl⟩
 have Hz4 : Hid (W4.heap.size = w2.heap.size + 1) := by show W4.heap.size = _; rw [hW4]; simp
 have HB4 : Hid (Below w.heap.size w W4) := by rw [hW4]; exact below_setRow2 ((HB3.out.trans (hb12.mono (by rw [Hz3.out]; omega))).alloc (by omega) _) (by omega) _
 have Hr4 : Hid (RowAt W4 w2.heap.size 155 (arr row)) := by rw [hW4]; exact (RowAt.new w2 _ _).setRow _
 have hra4 : RowAt W4 w.heap.size 36 (numCells na p xs.length cap) := by rw [hW4]; exact ((Hra.out.below hb12 (by rw [Hz3.out]; omega)).alloc _).setRowOther _ (by omega)
 have hrb4 : RowAt W4 (w.heap.size + 1) 36 (numCells nb q ys.length cap2) := by rw [hW4]; exact ((Hrb.out.below hb12 (by rw [Hz3.out]; omega)).alloc _).setRowOther _ (by omega)
 have Hrr4 : Hid (RowAt W4 (w.heap.size + 1 + 1) 36 (numCells false none 0 0)) := by rw [hW4]; exact ((Hrr.out.below hb12 (by rw [Hz3.out]; omega)).alloc _).setRowOther _ (by omega)
 have hca40 := hra4.cell 0
 have hca41 := hra4.cell 1
 have hcb41 := hrb4.cell 1
 simp only [numCells] at hca40 hca41 hcb41
 have Hnew := Lib.hid (RowAt.new w2 155 Tryz.zeroCells155)
 have HW4 := Lib.hid hW4
 have Hnum := Lib.hid (number_calls neg _ _ W4 (u32s_row (B := W4.heap.size) (w := W4) (cap := 65) (L := ys.length) Hr4.out (by show _ < W4.heap.size; rw [Hz4.out]; omega) (by rw [Hsl.out, ← HM.out]; omega) (by rw [Hsl.out]; decide)))
 have hw5 : (ys.length : Int) ≤ 65 := by rw [← HM.out]; omega
 clear hW4 hra4 hrb4 hb12 hb2
 go_wp2_with (refine store_row rfl (.tmp 9) (.tmp 44) rfl w2.heap.size rfl row Hsl.out rfl 155 Tryz.zeroCells155 Hnew.out (by kernel_rfl) ?_; rw [← HW4.out])
 refine Hnum.out.mono ?_
 rintro e w5 ⟨s5, rfl, hu5, hb5⟩
 have hU5 := hu5
 obtain ⟨p5, c5, rfl, -, -⟩ := hU5
 have HR5 := Lib.hid (Hrr4.out.below hb5 (by rw [Hz4.out]; omega))
 have hfin := finNum (g := w.heap.size + 1 + 1) HB4.out (by omega) (by rw [Hz4.out]; omega) hu5 hb5 (turned_setRow w5 _ (numCells (resNeg neg (strip (List.take ys.length row))) p5 (resDs (strip (List.take ys.length row))).length c5))
 have Hfin := Lib.hid hfin
 clear hu5 hb5 hfin
 go_wp2_with (refine store_num rfl (.tmp 6) (.tmp 51) rfl (w.heap.size + 1 + 1) rfl _ _ _ _ rfl _ _ HR5.out rfl ?_)
 exact ret_num rfl (w.heap.size + 1 + 1) rfl _ rfl _ _ _ _ _ (HR5.out.setRow _) ⟨_, rfl, Hfin.out.1, Hfin.out.2⟩
set_option maxRecDepth 100000 in
set_option maxHeartbeats 2000000 in
theorem signedSum_more (va vb : Value) (na nb neg : Bool) (hneg : na ≠ neg) (xs ys : List Nat) (w : World) (ha : NumV w.heap.size w va na xs) (hb : NumV w.heap.size w vb nb ys) (hdx : Digits xs) (hdy : Digits ys) (hx : xs.length ≤ 64) (hy : ys.length ≤ 64) (hcmp : ¬ cmpL xs ys < 0) :
  Calls Tryz.prog 150 #[va, vb, .bool neg] w (NumPost w (resNeg na (strip ((combRow subLo subHi xs ys).take xs.length))) (resDs (strip ((combRow subLo subHi xs ys).take xs.length))) (resOk (strip ((combRow subLo subHi xs ys).take xs.length)))) := by
 obtain ⟨sa, rfl, hua⟩ := ha
 obtain ⟨sb, rfl, hub⟩ := hb
 obtain ⟨p, cap, rfl, hl, hc⟩ := id hua
 obtain ⟨q, cap2, rfl, hl2, hc2⟩ := id hub
 clear hc hc2
 have hnn : (na == neg) = false := by simp [hneg]
 obtain ⟨W3, hW3⟩ : ∃ W3, W3 = ((w.alloc (.cells #[.bool na, .slice p xs.length cap] 36)).alloc (.cells #[.bool nb, .slice q ys.length cap2] 36)).alloc (.cells #[.bool false, .slice none 0 0] 36) := ⟨_, rfl⟩
 have hB3 : Below w.heap.size w W3 := by rw [hW3]; exact (((Below.refl _ w).alloc (Nat.le_refl _) _).alloc (by simp) _).alloc (by simp; omega) _
 have hz3 : W3.heap.size = w.heap.size + 3 := by rw [hW3]; simp
 have hua3 : U32s W3.heap.size W3 (.slice p xs.length cap) xs := (hua.below hB3).mono (by omega)
 have hub3 : U32s W3.heap.size W3 (.slice q ys.length cap2) ys := (hub.below hB3).mono (by omega)
 have Hord := Lib.hid (order_calls _ _ xs ys W3 hua3 hub3 hdx hdy)
 have Hdif : Hid (∀ w1, Below W3.heap.size W3 w1 → Calls Tryz.prog 165 #[.slice p xs.length cap, .slice q ys.length cap2] w1 fun e w' => e = .returned (.agg (arr (combRow subLo subHi xs ys))) ∧ Below w1.heap.size w1 w') := fun w1 hb => difference_calls _ _ xs ys w1 ((hua3.below hb).mono hb.size) ((hub3.below hb).mono hb.size) hdx hdy hx
 have hsl := combRow_length subLo subHi xs ys
 generalize combRow subLo subHi xs ys = row at *
 obtain ⟨M, hM⟩ : ∃ M, M = xs.length := ⟨_, rfl⟩
 have hM64 : M ≤ 64 := by omega
 have hMl : (xs.length : Int) = (M : Int) := by omega
 have Hsl := Lib.hid hsl
 have HB3 := Lib.hid hB3
 have Hz3 := Lib.hid hz3
 have Hra : Hid (RowAt W3 w.heap.size 36 (numCells na p xs.length cap)) := by rw [hW3]; exact ((RowAt.new w _ _).alloc _).alloc _
 have Hrb : Hid (RowAt W3 (w.heap.size + 1) 36 (numCells nb q ys.length cap2)) := by rw [hW3]; exact (RowAt.new' _ _ (by simp)).alloc _
 have Hrr : Hid (RowAt W3 (w.heap.size + 1 + 1) 36 (numCells false none 0 0)) := by rw [hW3]; exact RowAt.new' _ _ (by simp)
 have HW3 := Lib.hid hW3
 have HM := Lib.hid hM
 clear hsl hB3 hz3 hua hub hdx hdy hW3 hneg hua3 hub3 hM hMl
 go_enter Tryz.func150, Tryz.ntmps150
 go_wp2_with fail
 rw [← HW3.out]
 refine Hord.out.mono ?_
 rintro e w1 ⟨rfl, hb1⟩
 have hra1 := Hra.out.below hb1 (by rw [Hz3.out]; omega)
 have hrb1 := Hrb.out.below hb1 (by rw [Hz3.out]; omega)
 have hca1 := hra1.cell 1
 have hcb1 := hrb1.cell 1
 simp only [numCells] at hca1 hcb1
 have Hra1 := Lib.hid hra1
 have Hrb1 := Lib.hid hrb1
 have Hb1 := Lib.hid hb1
 clear hra1 hrb1 hb1
 go_wp2_with fail
 refine (Hdif.out w1 Hb1.out).mono ?_
 rintro e w2 ⟨rfl, hb2⟩
 have hb12 : Below W3.heap.size W3 w2 := Hb1.out.trans (hb2.mono Hb1.out.size)
 have hz2 := hb12.size
 rw [Hz3.out] at hz2
 obtain ⟨W4, hW4⟩ : ∃ W4, W4 = (w2.alloc (.cells Tryz.zeroCells155 155)).setRow w2.heap.size (arr row) := ⟨_, rfl⟩
 have Hz4 : Hid (W4.heap.size = w2.heap.size + 1) := by show W4.heap.size = _; rw [hW4]; simp
 have HB4 : Hid (Below w.heap.size w W4) := by rw [hW4]; exact below_setRow2 ((HB3.out.trans (hb12.mono (by rw [Hz3.out]; omega))).alloc (by omega) _) (by omega) _
 have Hr4 : Hid (RowAt W4 w2.heap.size 155 (arr row)) := by rw [hW4]; exact (RowAt.new w2 _ _).setRow _
 have hra4 : RowAt W4 w.heap.size 36 (numCells na p xs.length cap) := by rw [hW4]; exact ((Hra.out.below hb12 (by rw [Hz3.out]; omega)).alloc _).setRowOther _ (by omega)
 have hrb4 : RowAt W4 (w.heap.size + 1) 36 (numCells nb q ys.length cap2) := by rw [hW4]; exact ((Hrb.out.below hb12 (by rw [Hz3.out]; omega)).alloc _).setRowOther _ (by omega)
 have Hrr4 : Hid (RowAt W4 (w.heap.size + 1 + 1) 36 (numCells false none 0 0)) := by rw [hW4]; exact ((Hrr.out.below hb12 (by rw [Hz3.out]; omega)).alloc _).setRowOther _ (by omega)
 have hca40 := hra4.cell 0
 have hca41 := hra4.cell 1
 have hcb41 := hrb4.cell 1
 simp only [numCells] at hca40 hca41 hcb41
 have Hnew := Lib.hid (RowAt.new w2 155 Tryz.zeroCells155)
 have HW4 := Lib.hid hW4
 have Hnum := Lib.hid (number_calls na _ _ W4.drew (u32s_row (B := W4.drew.heap.size) (w := W4.drew) (cap := 65) (L := xs.length) Hr4.out (by show _ < W4.heap.size; rw [Hz4.out]; omega) (by rw [Hsl.out, ← HM.out]; omega) (by rw [Hsl.out]; decide)))
 have hw5 : (xs.length : Int) ≤ 65 := by rw [← HM.out]; omega
 clear hW4 hra4 hrb4 hb12 hb2
 go_wp2_with (refine store_row rfl (.tmp 10) (.tmp 57) rfl w2.heap.size rfl row Hsl.out rfl 155 Tryz.zeroCells155 Hnew.out (by kernel_rfl) ?_; rw [← HW4.out])
 go_region_held3 (fun W => W.cell? ⟨w.heap.size, 0, none⟩ = some (.bool na) ∧ W.cell? ⟨w.heap.size, 1, none⟩ = some (.slice p xs.length cap)) (first | exact ⟨by assumption, by assumption⟩ | exact ⟨cell_set2 _ _ _ _ _ _ _ _ (by assumption) (by show w.heap.size ≠ _; omega), cell_set2 _ _ _ _ _ _ _ _ (by assumption) (by show w.heap.size ≠ _; omega)⟩)
  (first | (go_at_call 120; refine Hnum.out.mono ?_; rintro e w5 ⟨s5, rfl, hu5, hb5⟩; have hU5 := hu5; obtain ⟨p5, c5, rfl, -, -⟩ := hU5; have hr5 := (RowAt.drew Hrr4.out).below hb5 (by show _ < W4.heap.size; rw [Hz4.out]; omega); have hr50 := hr5.cell 0; have hr51 := hr5.cell 1; have hf50 := hr5.frozen 0; have hf51 := hr5.frozen 1; simp only [numCells] at hr50 hr51; have HR5 := Lib.hid hr5; have HU5 := Lib.hid hu5; have HB5 := Lib.hid hb5; have hk1 : w5.cell? ⟨w.heap.size, 0, none⟩ = some (.bool na) := (hb5.cell (p := ⟨w.heap.size, 0, none⟩) (by show _ < W4.heap.size; rw [Hz4.out]; show w.heap.size < _; omega)).trans hca40; have hk2 : w5.cell? ⟨w.heap.size, 1, none⟩ = some (.slice p xs.length cap) := (hb5.cell (p := ⟨w.heap.size, 1, none⟩) (by show _ < W4.heap.size; rw [Hz4.out]; show w.heap.size < _; omega)).trans hca41; clear hr5 hu5 hb5))
 go_wp2
 have hfin := finNum (g := w.heap.size + 1 + 1) (Below.drew HB4.out) (by omega) (by show _ < W4.heap.size; rw [Hz4.out]; omega) HU5.out HB5.out (turned_set2 w5 _ (.bool (resNeg na (strip (List.take xs.length row)))) (.slice p5 (resDs (strip (List.take xs.length row))).length c5))
 exact ret_num rfl (w.heap.size + 1 + 1) rfl _ rfl _ _ _ _ _ (numCells_set HR5.out rfl _ _ _ _) ⟨_, rfl, hfin.1, hfin.2⟩
end Go.Proofs.YtgnogdncoljldaaGreat
namespace Go.Proofs.YtgnogdncoljldaaGreat
open Go Go.RowKit Go.Shelf
def ZNum (B : Nat) (w : World) (v : Value) (z : Int) : Prop := NumV B w v (decide (z < 0)) (digs z.natAbs) ∧ z.natAbs < B32 ^ 64
theorem ZNum.below {B : Nat} {w w' : World} {v : Value} {z : Int} (h : ZNum B w v z) (hb : Below B w w') : ZNum B w' v z := ⟨h.1.below hb, h.2⟩
theorem ZNum.mono {B B' : Nat} {w : World} {v : Value} {z : Int} (h : ZNum B w v z) (hb : B ≤ B') : ZNum B' w v z := ⟨h.1.mono hb, h.2⟩
def ZPost (w : World) (z : Int) (e : Ending) (w' : World) : Prop := NumPost w (zneg z) (zdigs z) (zok z) e w'
theorem digs_len64 {n : Nat} (h : n < B32 ^ 64) : (digs n).length ≤ 64 := digs_len.2 h
theorem right_z {n : Nat} (neg : Bool) (h : n < B32 ^ 64) (hn : n = 0 → neg = false) : rightB neg (digs n) = true := by
 unfold rightB
 by_cases h0 : n = 0
 ·subst h0; simp [digs_zero, hn rfl]
 ·have hne : digs n ≠ [] := by rw [Ne, digs_nil_iff]; exact h0
  have hl : 0 < (digs n).length := List.length_pos_iff.2 hne
  rw [if_neg (by omega)]
  have := (noZero_last hl).1 (norm_digs n).2
  simp [digs_len64 h, this]
theorem signedSum_z (va vb : Value) (za zb : Int) (neg : Bool) (zz : Int) (w : World) (ha : ZNum w.heap.size w va za) (hb : ZNum w.heap.size w vb zb)
  (hz : zz.natAbs = zb.natAbs) (hs : zb ≠ 0 → neg = decide (zz < 0)) :
  Calls Tryz.prog 150 #[va, vb, .bool neg] w (ZPost w (za + zz)) := by
 obtain ⟨ha1, ha2⟩ := ha
 obtain ⟨hb1, hb2⟩ := hb
 have hx := digs_len64 ha2
 have hy := digs_len64 hb2
 by_cases hn : decide (za < 0) = neg
 ·have hc := signedSum_same va vb (decide (za < 0)) _ _ _ w ha1 hb1 (digs_digits _) (digs_digits _) hx hy
  rw [strip_digs ((sum_digits (digs_digits _) (digs_digits _)).take _), sum_val _ _ hx hy, val_digs, val_digs] at hc
  subst hn
  have hr := res_of (decide (za < 0)) (za.natAbs + zb.natAbs) (za + zz) (by
    by_cases h0 : zb = 0
    ·subst h0; omega
    ·have := hs h0
     by_cases h1 : za < 0 <;> simp [h1] at this <;> omega) (fun h => by
    by_cases h0 : zb = 0
    ·subst h0; have : zz = 0 := by omega
     subst this; simp
    ·have := hs h0
     by_cases h1 : za < 0 <;> simp [h1] at this ⊢ <;> omega)
  rw [hr.1, hr.2.1, hr.2.2] at hc
  exact hc
 ·have hcm : cmpL (digs za.natAbs) (digs zb.natAbs) = sgn za.natAbs zb.natAbs := by rw [cmpL_norm (norm_digs _) (norm_digs _), val_digs, val_digs]
  by_cases hlt : za.natAbs < zb.natAbs
  ·have hc := signedSum_less va vb _ _ neg hn _ _ w ha1 hb1 (digs_digits _) (digs_digits _) hx hy (by rw [hcm, sgn_neg_iff]; exact hlt)
   rw [strip_digs ((dif_digits _ _).take _), dif_val (digs_digits _) (digs_digits _) (len_le_of_val (norm_digs _) (norm_digs _) (by rw [val_digs, val_digs]; omega)) hy (by rw [val_digs, val_digs]; omega), val_digs, val_digs] at hc
   have h0 : zb ≠ 0 := by omega
   have hsn := hs h0
   subst hsn
   have hr := res_of (decide (zz < 0)) (zb.natAbs - za.natAbs) (za + zz) (by
    by_cases h1 : za < 0 <;> by_cases h2 : zz < 0 <;> simp [h1, h2] at hn <;> omega) (fun h => by
    by_cases h1 : za < 0 <;> by_cases h2 : zz < 0 <;> simp [h1, h2] at hn ⊢ <;> omega)
   rw [hr.1, hr.2.1, hr.2.2] at hc
   exact hc
  ·have hc := signedSum_more va vb _ _ neg hn _ _ w ha1 hb1 (digs_digits _) (digs_digits _) hx hy (by rw [hcm, sgn_neg_iff]; exact hlt)
   rw [strip_digs ((dif_digits _ _).take _), dif_val (digs_digits _) (digs_digits _) (len_le_of_val (norm_digs _) (norm_digs _) (by rw [val_digs, val_digs]; omega)) hx (by rw [val_digs, val_digs]; omega), val_digs, val_digs] at hc
   have hr := res_of (decide (za < 0)) (za.natAbs - zb.natAbs) (za + zz) (by
    by_cases h0 : zb = 0
    ·subst h0; omega
    ·have hsn := hs h0
     subst hsn
     by_cases h1 : za < 0 <;> by_cases h2 : zz < 0 <;> simp [h1, h2] at hn <;> omega) (fun h => by
    by_cases h0 : zb = 0
    ·subst h0; have : zz = 0 := by omega
     subst this; simp
    ·have hsn := hs h0
     subst hsn
     by_cases h1 : za < 0 <;> by_cases h2 : zz < 0 <;> simp [h1, h2] at hn ⊢ <;> omega)
   rw [hr.1, hr.2.1, hr.2.2] at hc
   exact hc
theorem right_calls_z (v : Value) (z : Int) (w : World) (h : ZNum w.heap.size w v z) :
  Calls Tryz.prog 123 #[v] w fun e w' => e = .returned (.bool true) ∧ Below w.heap.size w w' := by
 obtain ⟨⟨s, rfl, hu⟩, hz⟩ := h
 have := right_calls (decide (z < 0)) s _ w hu
 rwa [right_z _ hz (fun h0 => by simp; omega)] at this
end Go.Proofs.YtgnogdncoljldaaGreat
namespace Go.Proofs.YtgnogdncoljldaaGreat
open Go Go.RowKit Go.Shelf
theorem ZNum.parts {B : Nat} {w : World} {v : Value} {z : Int} (h : ZNum B w v z) : ∃ p c, v = .agg #[.bool (decide (z < 0)), .slice p (digs z.natAbs).length c] := by
 obtain ⟨⟨s, rfl, p, c, rfl, -, -⟩, -⟩ := h
 exact ⟨p, c, rfl⟩
set_option maxRecDepth 100000 in
set_option maxHeartbeats 2000000 in
theorem add_calls (va vb : Value) (za zb : Int) (w : World) (ha : ZNum w.heap.size w va za) (hb : ZNum w.heap.size w vb zb) :
  Calls Tryz.prog 113 #[va, vb] w (ZPost w (za + zb)) := by
 obtain ⟨p, c, rfl⟩ := ha.parts
 obtain ⟨q, c2, rfl⟩ := hb.parts
 generalize hna : decide (za < 0) = na at *
 generalize hnb : decide (zb < 0) = nb at *
 generalize hn : (digs za.natAbs).length = n at *
 generalize hm : (digs zb.natAbs).length = m at *
 obtain ⟨W3, hW3⟩ : ∃ W3, W3 = ((w.alloc (.cells #[.bool na, .slice p n c] 36)).alloc (.cells #[.bool nb, .slice q m c2] 36)).alloc (.cells #[.bool false, .slice none 0 0] 36) := ⟨_, rfl⟩
 have HB3 : Hid (Below w.heap.size w W3) := by rw [hW3]; exact (((Below.refl _ w).alloc (Nat.le_refl _) _).alloc (by simp) _).alloc (by simp; omega) _
 have Hz3 : Hid (W3.heap.size = w.heap.size + 3) := by show W3.heap.size = _; rw [hW3]; simp
 have Hra : Hid (RowAt W3 w.heap.size 36 (numCells na p n c)) := by rw [hW3]; exact ((RowAt.new w _ _).alloc _).alloc _
 have Hrb : Hid (RowAt W3 (w.heap.size + 1) 36 (numCells nb q m c2)) := by rw [hW3]; exact (RowAt.new' _ _ (by simp)).alloc _
 have Hrr : Hid (RowAt W3 (w.heap.size + 1 + 1) 36 (numCells false none 0 0)) := by rw [hW3]; exact RowAt.new' _ _ (by simp)
 have HA := Lib.hid ((ha.below HB3.out).mono (by rw [Hz3.out]; omega : w.heap.size ≤ W3.heap.size))
 have HBn := Lib.hid ((hb.below HB3.out).mono (by rw [Hz3.out]; omega : w.heap.size ≤ W3.heap.size))
 have HW3 := Lib.hid hW3
 have Hnb := Lib.hid hnb
 clear hW3 ha hb hna hnb hn hm
 go_enter Tryz.func113, Tryz.ntmps113
 go_wp2_with fail
 rw [← HW3.out]
 refine (right_calls_z _ za W3 HA.out).mono ?_
 rintro e w1 ⟨rfl, hb1⟩
 have Hra1 := Lib.hid (Hra.out.below hb1 (by rw [Hz3.out]; omega))
 have Hrb1 := Lib.hid (Hrb.out.below hb1 (by rw [Hz3.out]; omega))
 have Hrr1 := Lib.hid (Hrr.out.below hb1 (by rw [Hz3.out]; omega))
 have HA1 := Lib.hid ((HA.out.below hb1).mono hb1.size)
 have HBn1 := Lib.hid ((HBn.out.below hb1).mono hb1.size)
 have HB1 := Lib.hid (HB3.out.trans (hb1.mono (by rw [Hz3.out]; omega : w.heap.size ≤ W3.heap.size)))
 have hz1 : w.heap.size + 3 ≤ w1.heap.size := by rw [← Hz3.out]; exact hb1.size
 have h10 := Hrb1.out.num0
 have h11 := Hrb1.out.num1
 clear hb1
 go_wp2_with fail
 refine (right_calls_z _ zb w1 HBn1.out).mono ?_
 rintro e w2 ⟨rfl, hb2⟩
 have Hra2 := Lib.hid (Hra1.out.below hb2 (by omega))
 have Hrb2 := Lib.hid (Hrb1.out.below hb2 (by omega))
 have Hrr2 := Lib.hid (Hrr1.out.below hb2 (by omega))
 have HA2 := Lib.hid ((HA1.out.below hb2).mono hb2.size)
 have HBn2 := Lib.hid ((HBn1.out.below hb2).mono hb2.size)
 have HB2 := Lib.hid (HB1.out.trans (hb2.mono (by omega : w.heap.size ≤ w1.heap.size)))
 have hz2 : w.heap.size + 3 ≤ w2.heap.size := Nat.le_trans hz1 hb2.size
 have h20 := Hrb2.out.num0
 have h21 := Hrb2.out.num1
 have h22 := Hra2.out.num0
 have h23 := Hra2.out.num1
 clear hb2 h10 h11 hz1
 go_wp2_with fail
 refine (signedSum_z _ _ za zb nb zb w2 HA2.out HBn2.out rfl (fun _ => Hnb.out.symm)).mono ?_
 rintro e w3 ⟨s3, rfl, hu3, hb3⟩
 have hU3 := hu3
 obtain ⟨p3, c3, rfl, -, -⟩ := hU3
 have HR3 := Lib.hid (Hrr2.out.below hb3 (by omega))
 have Hfin := Lib.hid (finNum (g := w.heap.size + 1 + 1) HB2.out (by omega) (by omega) hu3 hb3 (turned_setRow w3 _ (numCells (zneg (za + zb)) p3 (zdigs (za + zb)).length c3)))
 clear hu3 hb3
 go_wp2_with (refine store_num rfl (.tmp 4) (.tmp 20) rfl (w.heap.size + 1 + 1) rfl _ _ _ _ rfl _ _ HR3.out rfl ?_)
 exact ret_num rfl (w.heap.size + 1 + 1) rfl _ rfl _ _ _ _ _ (HR3.out.setRow _) ⟨_, rfl, Hfin.out.1, Hfin.out.2⟩
set_option maxRecDepth 100000 in
set_option maxHeartbeats 2000000 in
theorem sub_calls (va vb : Value) (za zb : Int) (w : World) (ha : ZNum w.heap.size w va za) (hb : ZNum w.heap.size w vb zb) :
  Calls Tryz.prog 110 #[va, vb] w (ZPost w (za + -zb)) := by
 obtain ⟨p, c, rfl⟩ := ha.parts
 obtain ⟨q, c2, rfl⟩ := hb.parts
 generalize hna : decide (za < 0) = na at *
 generalize hnb : decide (zb < 0) = nb at *
 generalize hn : (digs za.natAbs).length = n at *
 generalize hm : (digs zb.natAbs).length = m at *
 obtain ⟨W3, hW3⟩ : ∃ W3, W3 = ((w.alloc (.cells #[.bool na, .slice p n c] 36)).alloc (.cells #[.bool nb, .slice q m c2] 36)).alloc (.cells #[.bool false, .slice none 0 0] 36) := ⟨_, rfl⟩
 have HB3 : Hid (Below w.heap.size w W3) := by rw [hW3]; exact (((Below.refl _ w).alloc (Nat.le_refl _) _).alloc (by simp) _).alloc (by simp; omega) _
 have Hz3 : Hid (W3.heap.size = w.heap.size + 3) := by show W3.heap.size = _; rw [hW3]; simp
 have Hra : Hid (RowAt W3 w.heap.size 36 (numCells na p n c)) := by rw [hW3]; exact ((RowAt.new w _ _).alloc _).alloc _
 have Hrb : Hid (RowAt W3 (w.heap.size + 1) 36 (numCells nb q m c2)) := by rw [hW3]; exact (RowAt.new' _ _ (by simp)).alloc _
 have Hrr : Hid (RowAt W3 (w.heap.size + 1 + 1) 36 (numCells false none 0 0)) := by rw [hW3]; exact RowAt.new' _ _ (by simp)
 have HA := Lib.hid ((ha.below HB3.out).mono (by rw [Hz3.out]; omega : w.heap.size ≤ W3.heap.size))
 have HBn := Lib.hid ((hb.below HB3.out).mono (by rw [Hz3.out]; omega : w.heap.size ≤ W3.heap.size))
 have HW3 := Lib.hid hW3
 have Hnb := Lib.hid hnb
 clear hW3 ha hb hna hnb hn hm
 go_enter Tryz.func110, Tryz.ntmps110
 go_wp2_with fail
 rw [← HW3.out]
 refine (right_calls_z _ za W3 HA.out).mono ?_
 rintro e w1 ⟨rfl, hb1⟩
 have Hra1 := Lib.hid (Hra.out.below hb1 (by rw [Hz3.out]; omega))
 have Hrb1 := Lib.hid (Hrb.out.below hb1 (by rw [Hz3.out]; omega))
 have Hrr1 := Lib.hid (Hrr.out.below hb1 (by rw [Hz3.out]; omega))
 have HA1 := Lib.hid ((HA.out.below hb1).mono hb1.size)
 have HBn1 := Lib.hid ((HBn.out.below hb1).mono hb1.size)
 have HB1 := Lib.hid (HB3.out.trans (hb1.mono (by rw [Hz3.out]; omega : w.heap.size ≤ W3.heap.size)))
 have hz1 : w.heap.size + 3 ≤ w1.heap.size := by rw [← Hz3.out]; exact hb1.size
 have h10 := Hrb1.out.num0
 have h11 := Hrb1.out.num1
 clear hb1
 go_wp2_with fail
 refine (right_calls_z _ zb w1 HBn1.out).mono ?_
 rintro e w2 ⟨rfl, hb2⟩
 have Hra2 := Lib.hid (Hra1.out.below hb2 (by omega))
 have Hrb2 := Lib.hid (Hrb1.out.below hb2 (by omega))
 have Hrr2 := Lib.hid (Hrr1.out.below hb2 (by omega))
 have HA2 := Lib.hid ((HA1.out.below hb2).mono hb2.size)
 have HBn2 := Lib.hid ((HBn1.out.below hb2).mono hb2.size)
 have HB2 := Lib.hid (HB1.out.trans (hb2.mono (by omega : w.heap.size ≤ w1.heap.size)))
 have hz2 : w.heap.size + 3 ≤ w2.heap.size := Nat.le_trans hz1 hb2.size
 have h20 := Hrb2.out.num0
 have h21 := Hrb2.out.num1
 have h22 := Hra2.out.num0
 have h23 := Hra2.out.num1
 clear hb2 h10 h11 hz1
 go_wp2_with fail
 refine (signedSum_z _ _ za zb (!nb) (-zb) w2 HA2.out HBn2.out (by omega) (fun h => by rw [← Hnb.out]; by_cases h1 : zb < 0 <;> simp [h1] <;> omega)).mono ?_
 rintro e w3 ⟨s3, rfl, hu3, hb3⟩
 have hU3 := hu3
 obtain ⟨p3, c3, rfl, -, -⟩ := hU3
 have HR3 := Lib.hid (Hrr2.out.below hb3 (by omega))
 have Hfin := Lib.hid (finNum (g := w.heap.size + 1 + 1) HB2.out (by omega) (by omega) hu3 hb3 (turned_setRow w3 _ (numCells (zneg (za + (-zb))) p3 (zdigs (za + (-zb))).length c3)))
 clear hu3 hb3
 go_wp2_with (refine store_num rfl (.tmp 4) (.tmp 21) rfl (w.heap.size + 1 + 1) rfl _ _ _ _ rfl _ _ HR3.out rfl ?_)
 exact ret_num rfl (w.heap.size + 1 + 1) rfl _ rfl _ _ _ _ _ (HR3.out.setRow _) ⟨_, rfl, Hfin.out.1, Hfin.out.2⟩
end Go.Proofs.YtgnogdncoljldaaGreat
namespace Go.Proofs.YtgnogdncoljldaaGreat
open Go Go.RowKit Go.Shelf
attribute [local go_sem] Oper.semAt_some
set_option maxRecDepth 100000 in
set_option maxHeartbeats 2000000 in
theorem word_calls (v : Value) (ds : List Nat) (w : World) (hu : U32s w.heap.size w v ds) (hd : Digits ds) (h2 : ds.length ≤ 2) :
  Calls Tryz.prog 161 #[v] w fun e w' => e = .returned (.int .u64 (val ds : Nat)) ∧ Below w.heap.size w w' := by
 obtain ⟨p, cap, rfl, hl, hc⟩ := hu
 refine (callsIn_wide (n := 5)).1 ?_
 refine callsIn_of_wp_marks Tryz.func161 rfl trivial ?_ rfl
 simp only [Tryz.ntmps161, List.size_toArray, List.length_cons, List.length_nil, Nat.reduceAdd, Nat.reduceSub, Array.replicate_succ, Array.replicate_zero, List.push_toArray, List.append_toArray, List.nil_append, List.cons_append]
 gi_wp2_with (refine ⟨trivial, ?_⟩; gi_at_call 191; refine (callsIn_wide.2 (down_calls _ _ _ _)).mono ?_; rintro e w' ⟨rfl, rfl⟩)
 have bR := Boxed.new w 116 (.int .u64 0)
 have bN := Boxed.new (w.alloc (.cells #[.int .u64 0] 116)) 34 (.slice p ds.length cap)
 rw [World.size_alloc] at bN
 have hB0 : Below w.heap.size w ((w.alloc (.cells #[.int .u64 0] 116)).alloc (.cells #[.slice p ds.length cap] 34)) := ((Below.refl _ w).alloc (Nat.le_refl _) _).alloc (by simp) _
 have h1 : 1 ≤ 5 := by decide
 have hro : Fence.wide.round = none := rfl
 refine wpIn_rangeFunc_S (α := Nat × Nat) hro h1 (gf := 205) (lb := #[.pointer (some ⟨w.heap.size + 1, 0, none⟩)]) rfl trivial (enters_of Tryz.func205 (by kernel_rfl) rfl)
  (down1_seq 4 (by decide) (w.heap.size + 1) p ds.length cap hl) (fun _ => rfl)
  (fun s W => (s ≤ ds.length ∧ Boxed W w.heap.size 116 (.int .u64 (val (ds.drop s) : Nat)) ∧ Boxed W (w.heap.size + 1) 34 (.slice p ds.length cap)) ∧ Below w.heap.size w W)
  (fun _ _ => False)
  (OwnFrom.and (Own.from (fun s A B row hs hg hr => ⟨hs.1, boxed_own _ _ (fun _ => _) () _ _ _ hs.2.1 hg hr, boxed_own _ _ (fun _ => _) () _ _ _ hs.2.2 hg hr⟩) _) (ownFrom_below (Nat.le_refl _) (by simp; omega)))
  (fun _ _ _ _ _ hs _ _ => hs)
  (fun s x => Own.from (fun _ A B row hs hg hr => by obtain ⟨b, off, e, h⟩ := hs; exact ⟨b, off, e, cell_kept h hg hr⟩) _)
  ?wk ⟨⟨Nat.le_refl _, by simpa [val] using bR.alloc _, bN⟩, hB0⟩
  (fun x => { tmps := #[.slice p ds.length cap, undef, .int .u64 0, .pointer (some ⟨w.heap.size, 0, none⟩), undef, .int .u32 (x.2 : Int), .slice p ds.length cap, .func (.func 205) #[] #[.pointer (some ⟨w.heap.size + 1, 0, none⟩)], .int .i64 (x.1 : Int), .int .u32 (x.2 : Int), undef, undef, undef, undef, undef, undef], defers := [] }) ?assign ?body ?done ?stop
 case wk =>
  rintro s W ⟨⟨hs, _, hb⟩, hB⟩
  refine ⟨hs, hb.cell, fun k hk => ?_⟩
  obtain ⟨b, off, rfl, hlt, hcs⟩ := hc (by omega)
  exact ⟨b, off, _, rfl, (hB.cell (p := ⟨b, off + k, none⟩) hlt).trans (hcs k (by omega))⟩
 case assign =>
  intro l x W K hK
  gi_wp2
  exact hK
 case body =>
  rintro l s ⟨k, d⟩ s2 W ⟨⟨hs, hbr, hbn⟩, hB⟩ ⟨h1, h2⟩ ⟨b, off, rfl, hcell⟩
  dsimp only at h1 h2 hcell ⊢
  subst h2; subst h1
  obtain ⟨b', off', e, hlt, hcs⟩ := hc (by omega)
  cases e
  have hd0 : d = ds[s2]?.getD 0 := by
   have := (hB.cell (p := ⟨b, off + s2, none⟩) hlt).trans (hcs s2 (by omega))
   rw [hcell] at this; exact u32_inj this
  have hlm := digs_lt_maxLen hl
  have hcr := hbr.cell
  have hfr := hbr.frozen
  have hv := val_drop (ds := ds) (s := s2) (by omega)
  rw [← hd0] at hv
  have hv1 : val (ds.drop (s2 + 1)) < B32 := by have := val_drop_lt hd (s := s2 + 1) (k := 1) (by omega); rwa [Nat.pow_one] at this
  have hdl : d < B32 := by rw [hd0]; exact hd.getD _
  have ho := or_u64 _ d hv1 hdl
  rw [← hv] at ho
  have Ho := Lib.hid ho
  clear hc hcs hd0 hv ho hv1 hdl
  gi_wp2
  rw [Ho.out]
  exact ⟨(KeepsOthers.setCell _ _ _).from _, ⟨by omega, hbr.set _, hbn.other (by omega) _⟩, hB.setCell (p := ⟨w.heap.size, 0, none⟩) (Nat.le_refl _) _⟩
 case done =>
  rintro D s W hD rfl ⟨⟨hs, hbr, hbn⟩, hB⟩ hK
  have hcr := hbr.cell
  gi_wp2
  refine endM hK (v := .int .u64 (val ds : Nat)) (by simp [results, Tryz.f161, go_sem]) ⟨rfl, hB.trans (belowK_b (w := w) (Nat.le_refl _) W D _ _ (by simp at hD; omega) hK rfl rfl)⟩
 case stop =>
  rintro D c W hD h hK
  exact h.elim
end Go.Proofs.YtgnogdncoljldaaGreat
namespace Go.Proofs.YtgnogdncoljldaaGreat
open Go Go.RowKit Go.Shelf
def ZPost1 (w : World) (z : Int) (e : Ending) (w' : World) : Prop := ∃ s, e = .returned (.agg #[.bool (decide (z < 0)), s]) ∧ U32N w.heap.size w'.heap.size w' s (digs z.natAbs) ∧ Below w.heap.size w w'
theorem pow64 : (18446744073709551616 : Nat) < B32 ^ 64 := by decide
theorem of_wrap {n : Int} (h : n < 0) (h1 : -9223372036854775808 ≤ n) : IntKind.u64.wrap (-IntKind.u64.wrap n) = ((n.natAbs : Nat) : Int) := by
 rw [IntKind.wrap_u64, IntKind.wrap_u64]; omega
theorem of_wrap0 {n : Int} (h : 0 ≤ n) (h2 : n ≤ 9223372036854775807) : IntKind.u64.wrap n = ((n.natAbs : Nat) : Int) := by
 rw [IntKind.wrap_u64]; omega
theorem split2_val {n : Nat} (h : n < 18446744073709551616) : strip ((split2 n).take 2) = digs n := by
 have e : (split2 n).take 2 = [n % B32, n / B32] := rfl
 rw [e, strip_digs]
 ·congr 1
  simp only [val]
  have := Nat.mod_add_div n B32
  omega
 ·refine Digits.cons.2 ⟨Nat.mod_lt _ B32_pos, Digits.cons.2 ⟨?_, Digits.nil⟩⟩
  unfold B32; omega
set_option maxRecDepth 100000 in
set_option maxHeartbeats 2000000 in
theorem of_calls (n : Int) (h1 : -9223372036854775808 ≤ n) (h2 : n ≤ 9223372036854775807) (w : World) :
  Calls Tryz.prog 65 #[.int .i64 n] w (ZPost1 w n) := by
 obtain ⟨a, ha⟩ : ∃ a, a = n.natAbs := ⟨_, rfl⟩
 have hal : a < 18446744073709551616 := by omega
 have ha64 : n.natAbs < B32 ^ 64 := by have := pow64; omega
 have Hval := Lib.hid (split2_val hal)
 have hrs := res_of (decide (n < 0)) a n ha.symm (fun _ => rfl)
 have e1 : zneg n = decide (n < 0) := by unfold zneg; rw [if_pos ha64]
 have e2 : zdigs n = digs n.natAbs := by unfold zdigs; rw [if_pos ha64]
 have e3 : zok n = true := by unfold zok; simp [ha64]
 rw [e1, e2, e3] at hrs
 have Hrs := Lib.hid hrs
 have Hal := Lib.hid hal
 have H12 := Lib.hid (And.intro h1 h2)
 have Ha := Lib.hid ha
 clear e1 e2 e3 hrs ha64 hal h1 h2 ha
 by_cases hn : n < 0
 ·go_enter Tryz.func65, Tryz.ntmps65
  go_wp2_with fail
  rw [of_wrap hn H12.out.1, ← Ha.out]
  refine (split_calls a Hal.out _).mono ?_
  rintro e w1 ⟨rfl, hb1⟩
  have Hr1 := Lib.hid ((RowAt.new w 36 (numCells false none 0 0)).below hb1 (by simp [numCells]))
  have hz1 := hb1.size
  rw [World.size_alloc] at hz1
  obtain ⟨W4, hW4⟩ : ∃ W4, W4 = (w1.alloc (.cells Tryz.zeroCells155 155)).setRow w1.heap.size (arr (split2 a)) := ⟨_, rfl⟩
  have Hz4 : Hid (W4.heap.size = w1.heap.size + 1) := by show W4.heap.size = _; rw [hW4]; simp
  have HB4 : Hid (Below w.heap.size w W4) := by rw [hW4]; exact below_setRow2 ((((Below.refl _ w).alloc (Nat.le_refl _) _).trans (hb1.mono (by simp))).alloc (by omega) _) (by omega) _
  have Hr4 : Hid (RowAt W4 w1.heap.size 155 (arr (split2 a))) := by rw [hW4]; exact (RowAt.new w1 _ _).setRow _
  have Hrr4 : Hid (RowAt W4 w.heap.size 36 (numCells false none 0 0)) := by rw [hW4]; exact (Hr1.out.alloc _).setRowOther _ (by omega)
  have hnum := number_calls (decide (n < 0)) _ _ W4 (u32s_row (B := W4.heap.size) (w := W4) (cap := 65) (L := 2) Hr4.out (by rw [Hz4.out]; omega) (by rw [split2_length]; decide) (by rw [split2_length]; decide))
  rw [Hval.out, Hrs.out.1, Hrs.out.2.1, Hrs.out.2.2] at hnum
  rw [show decide (n < 0) = true by simp; omega] at hnum
  have Hnum := Lib.hid hnum
  have Hnew := Lib.hid (RowAt.new w1 155 Tryz.zeroCells155)
  have HW4 := Lib.hid hW4
  clear hb1 hW4 hnum
  go_wp2_with (refine store_row rfl (.tmp 4) (.tmp 14) rfl w1.heap.size rfl (split2 a) (split2_length a) rfl 155 Tryz.zeroCells155 Hnew.out (by kernel_rfl) ?_; rw [← HW4.out])
  go_fit Hnum.out
  rintro e w5 ⟨s5, rfl, hu5, hb5⟩
  have hU5 := hu5
  obtain ⟨p5, c5, rfl, -, -⟩ := hU5
  have hr5 := Hrr4.out.below hb5 (by rw [Hz4.out]; omega)
  obtain ⟨W6, hW6⟩ : ∃ W6, W6 = (w5.alloc (.cells #[.bool false, .slice none 0 0] 36)).setRow w5.heap.size (numCells true p5 (digs n.natAbs).length c5) := ⟨_, rfl⟩
  have hB6 : Below W4.heap.size W4 W6 := by rw [hW6]; exact below_setRow2 (hb5.alloc hb5.size _) hb5.size _
  have hu6 : U32N W4.heap.size W6.heap.size W6 (.slice p5 (digs n.natAbs).length c5) (digs n.natAbs) := by
   have hs6 : W6.heap.size = w5.heap.size + 1 := by rw [hW6]; simp
   obtain ⟨p, cap, e, hl, hc⟩ := hu5
   cases e
   refine ⟨_, _, rfl, hl, fun h0 => ?_⟩
   obtain ⟨b, off, rfl, hlo, hlt, hcs⟩ := hc h0
   refine ⟨b, off, rfl, hlo, by omega, fun j hj => ?_⟩
   rw [hW6, cell_setRow_other _ _ _ _ (by show b ≠ w5.heap.size; omega), World.cell?_alloc_past _ _ _ hlt]
   exact hcs j hj
  have Hr6 : Hid (RowAt W6 w.heap.size 36 (numCells false none 0 0)) := by rw [hW6]; exact (hr5.alloc _).setRowOther _ (by have := hr5.lt; omega)
  have Hr7 : Hid (RowAt W6 w5.heap.size 36 (numCells true p5 (digs n.natAbs).length c5)) := by rw [hW6]; exact (RowAt.new w5 _ _).setRow _
  have Hfin := Lib.hid (finNum (g := w.heap.size) HB4.out (Nat.le_refl _) (by rw [Hz4.out]; omega) hu6 hB6 (turned_setRow W6 _ (numCells true p5 (digs n.natAbs).length c5)))
  have Hnew5 := Lib.hid (RowAt.new w5 36 (numCells false none 0 0))
  have HW6 := Lib.hid hW6
  have Hneg : Hid (decide (n < 0) = true) := by show decide (n < 0) = _; simp; omega
  clear hu5 hb5 hr5 hB6 hu6 hW6
  go_wp2_with (first
   | (refine store_num rfl (.tmp 5) (.tmp 20) rfl w5.heap.size rfl _ _ _ _ rfl _ _ Hnew5.out rfl ?_; rw [← HW6.out])
   | (refine load_num rfl (.tmp 5) rfl w5.heap.size rfl _ _ _ _ _ Hr7.out ?_)
   | (refine store_num rfl (.tmp 2) (.tmp 22) rfl w.heap.size rfl _ _ _ _ rfl _ _ Hr6.out rfl ?_))
  exact ret_num1 rfl w.heap.size rfl _ _ _ _ _ (Hr6.out.setRow _) ⟨_, by rw [Hneg.out], Hfin.out.1, Hfin.out.2⟩
 ·have hn0 : 0 ≤ n := by omega
  have hnd : decide (n < 0) = false := by simp; omega
  go_enter Tryz.func65, Tryz.ntmps65
  go_wp2_with fail
  rw [of_wrap0 hn0 H12.out.2, ← Ha.out]
  refine (split_calls a Hal.out _).mono ?_
  rintro e w1 ⟨rfl, hb1⟩
  have Hr1 := Lib.hid ((RowAt.new w 36 (numCells false none 0 0)).below hb1 (by simp [numCells]))
  have hz1 := hb1.size
  rw [World.size_alloc] at hz1
  obtain ⟨W4, hW4⟩ : ∃ W4, W4 = (w1.alloc (.cells Tryz.zeroCells155 155)).setRow w1.heap.size (arr (split2 a)) := ⟨_, rfl⟩
  have Hz4 : Hid (W4.heap.size = w1.heap.size + 1) := by show W4.heap.size = _; rw [hW4]; simp
  have HB4 : Hid (Below w.heap.size w W4) := by rw [hW4]; exact below_setRow2 ((((Below.refl _ w).alloc (Nat.le_refl _) _).trans (hb1.mono (by simp))).alloc (by omega) _) (by omega) _
  have Hr4 : Hid (RowAt W4 w1.heap.size 155 (arr (split2 a))) := by rw [hW4]; exact (RowAt.new w1 _ _).setRow _
  have Hrr4 : Hid (RowAt W4 w.heap.size 36 (numCells false none 0 0)) := by rw [hW4]; exact (Hr1.out.alloc _).setRowOther _ (by omega)
  have hnum := number_calls (decide (n < 0)) _ _ W4 (u32s_row (B := W4.heap.size) (w := W4) (cap := 65) (L := 2) Hr4.out (by rw [Hz4.out]; omega) (by rw [split2_length]; decide) (by rw [split2_length]; decide))
  rw [Hval.out, Hrs.out.1, Hrs.out.2.1, Hrs.out.2.2] at hnum
  rw [hnd] at hnum
  have Hnum := Lib.hid hnum
  have Hnew := Lib.hid (RowAt.new w1 155 Tryz.zeroCells155)
  have HW4 := Lib.hid hW4
  clear hb1 hW4 hnum
  go_wp2_with (refine store_row rfl (.tmp 4) (.tmp 14) rfl w1.heap.size rfl (split2 a) (split2_length a) rfl 155 Tryz.zeroCells155 Hnew.out (by kernel_rfl) ?_; rw [← HW4.out])
  go_fit Hnum.out
  rintro e w5 ⟨s5, rfl, hu5, hb5⟩
  have hU5 := hu5
  obtain ⟨p5, c5, rfl, -, -⟩ := hU5
  have hr5 := Hrr4.out.below hb5 (by rw [Hz4.out]; omega)
  obtain ⟨W6, hW6⟩ : ∃ W6, W6 = (w5.alloc (.cells #[.bool false, .slice none 0 0] 36)).setRow w5.heap.size (numCells false p5 (digs n.natAbs).length c5) := ⟨_, rfl⟩
  have hB6 : Below W4.heap.size W4 W6 := by rw [hW6]; exact below_setRow2 (hb5.alloc hb5.size _) hb5.size _
  have hu6 : U32N W4.heap.size W6.heap.size W6 (.slice p5 (digs n.natAbs).length c5) (digs n.natAbs) := by
   have hs6 : W6.heap.size = w5.heap.size + 1 := by rw [hW6]; simp
   obtain ⟨p, cap, e, hl, hc⟩ := hu5
   cases e
   refine ⟨_, _, rfl, hl, fun h0 => ?_⟩
   obtain ⟨b, off, rfl, hlo, hlt, hcs⟩ := hc h0
   refine ⟨b, off, rfl, hlo, by omega, fun j hj => ?_⟩
   rw [hW6, cell_setRow_other _ _ _ _ (by show b ≠ w5.heap.size; omega), World.cell?_alloc_past _ _ _ hlt]
   exact hcs j hj
  have Hr6 : Hid (RowAt W6 w.heap.size 36 (numCells false none 0 0)) := by rw [hW6]; exact (hr5.alloc _).setRowOther _ (by have := hr5.lt; omega)
  have Hr7 : Hid (RowAt W6 w5.heap.size 36 (numCells false p5 (digs n.natAbs).length c5)) := by rw [hW6]; exact (RowAt.new w5 _ _).setRow _
  have Hfin := Lib.hid (finNum (g := w.heap.size) HB4.out (Nat.le_refl _) (by rw [Hz4.out]; omega) hu6 hB6 (turned_setRow W6 _ (numCells false p5 (digs n.natAbs).length c5)))
  have Hnew5 := Lib.hid (RowAt.new w5 36 (numCells false none 0 0))
  have HW6 := Lib.hid hW6
  have Hneg := Lib.hid hnd
  clear hu5 hb5 hr5 hB6 hu6 hW6
  go_wp2_with (first
   | (refine store_num rfl (.tmp 5) (.tmp 20) rfl w5.heap.size rfl _ _ _ _ rfl _ _ Hnew5.out rfl ?_; rw [← HW6.out])
   | (refine load_num rfl (.tmp 5) rfl w5.heap.size rfl _ _ _ _ _ Hr7.out ?_)
   | (refine store_num rfl (.tmp 2) (.tmp 22) rfl w.heap.size rfl _ _ _ _ rfl _ _ Hr6.out rfl ?_))
  exact ret_num1 rfl w.heap.size rfl _ _ _ _ _ (Hr6.out.setRow _) ⟨_, by rw [Hneg.out], Hfin.out.1, Hfin.out.2⟩
end Go.Proofs.YtgnogdncoljldaaGreat
namespace Go.Proofs.YtgnogdncoljldaaGreat
open Go Go.RowKit Go.Shelf
set_option maxRecDepth 100000 in
set_option maxHeartbeats 2000000 in
theorem add32_calls (x y c : Nat) (hx : x < B32) (hy : y < B32) (hc : c ≤ 1) (w : World) :
  Calls Tryz.prog 208 #[.int .u32 x, .int .u32 y, .int .u32 c] w fun e w' => e = .returned (.tuple #[.int .u32 (addLo x y c : Nat), .int .u32 (addHi x y c : Nat)]) ∧ w = w' := by
 have e1 : ((addLo x y c : Nat) : Int) = ((x : Int) + y + c) % 4294967296 := by unfold addLo B32; omega
 have e2 : ((addHi x y c : Nat) : Int) = ((x : Int) + y + c) / 4294967296 := by unfold addHi B32; omega
 rw [e1, e2]
 clear e1 e2
 unfold B32 at *
 go_enter Tryz.func208, Tryz.ntmps208
 go_wp2
 go_ret2
 exact ⟨rfl, rfl⟩
theorem u32_keep (n : Int) (h0 : 0 ≤ n) (h1 : n < 2 ^ 32) : IntKind.u32.wrap n = n := by
 rw [IntKind.wrap_u32]; omega
theorem u32_and (a b : Nat) (ha : a < 4294967296) (hb : b < 4294967296) : bits .and .u32 (a : Int) (b : Int) = ((a &&& b : Nat) : Int) := (bits_nat .u32 32 (by decide) u32_keep a b ha hb).1
theorem u32_or (a b : Nat) (ha : a < 4294967296) (hb : b < 4294967296) : bits .or .u32 (a : Int) (b : Int) = ((a ||| b : Nat) : Int) := (bits_nat .u32 32 (by decide) u32_keep a b ha hb).2
theorem u32_xor (a b : Nat) (ha : a < 4294967296) (hb : b < 4294967296) : bits .xor .u32 (a : Int) (b : Int) = ((a ^^^ b : Nat) : Int) := by
 have hx : a ^^^ b < 2 ^ 32 := Nat.xor_lt_two_pow (by omega) (by omega)
 have h1 : (BitVec.ofInt 32 (a : Int)).toNat = a := by
  rw [BitVec.ofInt_natCast, BitVec.toNat_ofNat]; exact Nat.mod_eq_of_lt (by omega)
 have h2 : (BitVec.ofInt 32 (b : Int)).toNat = b := by
  rw [BitVec.ofInt_natCast, BitVec.toNat_ofNat]; exact Nat.mod_eq_of_lt (by omega)
 show IntKind.u32.wrap ((BitVec.ofInt 32 (a : Int) ^^^ BitVec.ofInt 32 (b : Int)).toNat : Int) = _
 rw [BitVec.toNat_xor, h1, h2, IntKind.wrap_u32]
 omega
theorem top_bit {n : Nat} (h : n < 4294967296) : n / 2147483648 = if n.testBit 31 then 1 else 0 := by
 have e : n.testBit 31 = decide (n / 2147483648 % 2 = 1) := Nat.testBit_eq_decide_div_mod_eq
 rw [e]
 by_cases h1 : n / 2147483648 % 2 = 1 <;> simp [h1] <;> omega
theorem bit31 {n : Nat} (h : n < 4294967296) : n.testBit 31 = decide (2147483648 ≤ n) := by
 have e : n.testBit 31 = decide (n / 2147483648 % 2 = 1) := Nat.testBit_eq_decide_div_mod_eq
 rw [e]
 by_cases h1 : 2147483648 ≤ n <;> simp [h1] <;> omega
theorem sub_bits (x y c : Nat) (hx : x < 4294967296) (hy : y < 4294967296) (hc : c ≤ 1) :
  bits .or .u32 (bits .and .u32 (bits .xor .u32 IntKind.u32.max (x : Int)) (y : Int)) (bits .and .u32 (bits .xor .u32 IntKind.u32.max (bits .xor .u32 (x : Int) (y : Int))) (((x : Int) - y - c) % 4294967296)) / 2147483648 = ((subHi x y c : Nat) : Int) := by
 have hmax : IntKind.u32.max = ((4294967295 : Nat) : Int) := by decide
 have hd : (((x : Int) - y - c) % 4294967296) = (((x + 8589934592 - y - c) % 4294967296 : Nat) : Int) := by omega
 have hdl : (x + 8589934592 - y - c) % 4294967296 < 4294967296 := Nat.mod_lt _ (by decide)
 have hdv : (x + 8589934592 - y - c) % 4294967296 = if x < y + c then x + 4294967296 - y - c else x - y - c := by split <;> omega
 rw [hmax, hd]
 generalize (x + 8589934592 - y - c) % 4294967296 = d at *
 have l1 : 4294967295 ^^^ x < 4294967296 := Nat.xor_lt_two_pow (n := 32) (by decide) (by omega)
 have l2 : x ^^^ y < 4294967296 := Nat.xor_lt_two_pow (n := 32) (by omega) (by omega)
 have l3 : 4294967295 ^^^ (x ^^^ y) < 4294967296 := Nat.xor_lt_two_pow (n := 32) (by decide) (by omega)
 have l4 : (4294967295 ^^^ x) &&& y < 4294967296 := Nat.and_lt_two_pow (n := 32) _ (by omega)
 have l5 : (4294967295 ^^^ (x ^^^ y)) &&& d < 4294967296 := Nat.and_lt_two_pow (n := 32) _ (by omega)
 have l6 : ((4294967295 ^^^ x) &&& y) ||| ((4294967295 ^^^ (x ^^^ y)) &&& d) < 4294967296 := Nat.or_lt_two_pow (n := 32) (by omega) (by omega)
 rw [u32_xor _ _ (by decide) hx, u32_and _ _ l1 hy, u32_xor _ _ hx hy, u32_xor _ _ (by decide) l2, u32_and _ _ l3 hdl, u32_or _ _ l4 l5]
 have h31 : Nat.testBit 4294967295 31 = true := by decide
 have ht := top_bit l6
 rw [Nat.testBit_or, Nat.testBit_and, Nat.testBit_and, Nat.testBit_xor, Nat.testBit_xor, Nat.testBit_xor, h31, bit31 hx, bit31 hy, bit31 hdl] at ht
 have : (((((4294967295 ^^^ x) &&& y) ||| ((4294967295 ^^^ (x ^^^ y)) &&& d) : Nat) : Int)) / 2147483648 = ((((((4294967295 ^^^ x) &&& y) ||| ((4294967295 ^^^ (x ^^^ y)) &&& d)) / 2147483648 : Nat)) : Int) := by omega
 rw [this, ht]
 unfold subHi
 by_cases h1 : 2147483648 ≤ x <;> by_cases h2 : 2147483648 ≤ y <;> by_cases h3 : 2147483648 ≤ d <;> by_cases h4 : x < y + c <;> simp [h1, h2, h3, h4] at hdv ⊢ <;> omega
theorem sub_lo (x y c : Nat) (hx : x < 4294967296) (hy : y < 4294967296) (hc : c ≤ 1) : ((x : Int) - y - c) % 4294967296 = ((subLo x y c : Nat) : Int) := by
 unfold subLo B32; omega
set_option maxRecDepth 100000 in
set_option maxHeartbeats 2000000 in
theorem sub32_calls (x y c : Nat) (hx : x < B32) (hy : y < B32) (hc : c ≤ 1) (w : World) :
  Calls Tryz.prog 207 #[.int .u32 x, .int .u32 y, .int .u32 c] w fun e w' => e = .returned (.tuple #[.int .u32 (subLo x y c : Nat), .int .u32 (subHi x y c : Nat)]) ∧ w = w' := by
 unfold B32 at *
 go_enter Tryz.func207, Tryz.ntmps207
 go_wp2
 all_goals (go_ret2; refine ⟨?_, rfl⟩)
 all_goals
  have h1 := sub_bits x y c hx hy hc
  have h2 := sub_lo x y c hx hy hc
  show Ending.returned (.tuple #[.int .u32 (((x : Int) - y - c) % 4294967296), .int .u32 (bits .or .u32 (bits .and .u32 (bits .xor .u32 IntKind.u32.max (x : Int)) (y : Int)) (bits .and .u32 (bits .xor .u32 IntKind.u32.max (bits .xor .u32 (x : Int) (y : Int))) (((x : Int) - y - c) % 4294967296)) / 2147483648)]) = _
  rw [h1, h2]
def lz (x : Nat) : Nat := 32 - Lib.bitLen x
set_option maxHeartbeats 2000000 in
theorem lz_calls (x : Nat) (hx : x < B32) (w : World) :
  Calls Tryz.prog 192 #[.int .u32 x] w fun e w' => e = .returned (.int .i64 (lz x : Nat)) ∧ w = w' := by
 have hlen := len32_calls x w (by omega) (by unfold B32 at hx; omega)
 rw [Int.toNat_natCast] at hlen
 have hle : Lib.bitLen x ≤ 32 := Lib.bitLen_le x 32 (by decide) hx
 have hlz : ((lz x : Nat) : Int) = 32 - (Lib.bitLen x : Int) := by unfold lz; omega
 rw [hlz]
 generalize Lib.bitLen x = l at *
 have Hlen := Lib.hid hlen
 clear hlen hlz hx
 go_enter Tryz.func192, Tryz.ntmps192
 go_wp2_with fail
 refine Hlen.out.mono ?_
 rintro e w1 ⟨rfl, rfl⟩
 go_wp2
 go_ret
 exact ⟨rfl, rfl⟩
theorem bitLenAux_lt : ∀ (f x : Nat), x < 2 ^ f → x < 2 ^ Lib.bitLenAux f x
 | 0, x, h => by simpa [Lib.bitLenAux] using h
 | f + 1, x, h => by
   unfold Lib.bitLenAux
   split
   ·rename_i h0; subst h0; decide
   ·have := bitLenAux_lt f (x / 2) (by rw [Nat.pow_succ] at h; omega)
    rw [Nat.pow_add, Nat.pow_one]
    omega
theorem lz_bounds {x : Nat} (h0 : x ≠ 0) (hx : x < B32) : lz x ≤ 31 ∧ x * 2 ^ lz x < B32 := by
 have h1 := bitLenAux_lt 64 x (by unfold B32 at hx; omega)
 have h2 : Lib.bitLen x ≤ 32 := Lib.bitLen_le x 32 (by decide) hx
 have h3 : 0 < Lib.bitLen x := by
  rcases Nat.eq_zero_or_pos (Lib.bitLen x) with h | h
  ·have h1' : x < 2 ^ Lib.bitLen x := h1
   rw [h] at h1'; omega
  ·exact h
 have h1' : x < 2 ^ Lib.bitLen x := h1
 refine ⟨by unfold lz; omega, ?_⟩
 unfold lz
 calc x * 2 ^ (32 - Lib.bitLen x) < 2 ^ Lib.bitLen x * 2 ^ (32 - Lib.bitLen x) := Nat.mul_lt_mul_of_pos_right h1' (Nat.two_pow_pos _)
  _ = 2 ^ 32 := by rw [← Nat.pow_add]; congr 1; omega
end Go.Proofs.YtgnogdncoljldaaGreat
namespace Go.Proofs.YtgnogdncoljldaaGreat
open Go Go.RowKit Go.Shelf
structure Keeps (B g : Nat) (w w' : World) : Prop where
 os : w'.os = w.os
 tape : w'.tape = w.tape
 output : w'.output = w.output
 size : w.heap.size ≤ w'.heap.size
 block : ∀ k, k < B → k ≠ g → w'.heap[k]? = w.heap[k]?
theorem Keeps.refl (B g : Nat) (w : World) : Keeps B g w w := ⟨rfl, rfl, rfl, Nat.le_refl _, fun _ _ _ => rfl⟩
theorem Keeps.trans {B g : Nat} {a b c : World} (h : Keeps B g a b) (k : Keeps B g b c) : Keeps B g a c :=
 ⟨k.os.trans h.os, k.tape.trans h.tape, k.output.trans h.output, Nat.le_trans h.size k.size, fun i hi hg => (k.block i hi hg).trans (h.block i hi hg)⟩
theorem Keeps.below {B g : Nat} {a b c : World} (h : Keeps B g a b) (k : Below B b c) : Keeps B g a c :=
 ⟨k.os.trans h.os, k.tape.trans h.tape, k.output.trans h.output, Nat.le_trans h.size k.size, fun i hi hg => (k.block i hi).trans (h.block i hi hg)⟩
theorem Keeps.setCell {B g : Nat} {a w : World} (h : Keeps B g a w) {p : Addr} (hp : p.block = g ∨ B ≤ p.block) (u : Value) : Keeps B g a (w.setCell p u) :=
 ⟨h.os, h.tape, h.output, by simp [World.setCell]; exact h.size, fun k hk hg => (heap_setCell_other w p k u (by rcases hp with e | e <;> omega)).trans (h.block k hk hg)⟩
theorem Keeps.cell {B g : Nat} {w w' : World} (h : Keeps B g w w') {p : Addr} (hp : p.block < B) (hg : p.block ≠ g) : w'.cell? p = w.cell? p := World.cell?_of_block (h.block p.block hp hg)
theorem Keeps.row {B g : Nat} {w w' : World} (h : Keeps B g w w') {k : Nat} {t : TypeId} {cs : Array Value} (hr : RowAt w k t cs) (hp : k < B) (hg : k ≠ g) : RowAt w' k t cs := (h.block k hp hg).trans hr
theorem Keeps.mono {B B' g : Nat} {w w' : World} (h : Keeps B g w w') (hb : B' ≤ B) : Keeps B' g w w' := ⟨h.os, h.tape, h.output, h.size, fun k hk hg => h.block k (by omega) hg⟩
section
variable (g o : Nat) (Y R : List Nat)
def toSub : Nat → Nat × Nat × List Nat
 | 0 => (0, 0, R)
 | k + 1 =>
   (((toSub k).1 + g * Y[k]?.getD 0) / B32,
    subHi ((toSub k).2.2[o + k]?.getD 0) (((toSub k).1 + g * Y[k]?.getD 0) % B32) (toSub k).2.1,
    (toSub k).2.2.set (o + k) (subLo ((toSub k).2.2[o + k]?.getD 0) (((toSub k).1 + g * Y[k]?.getD 0) % B32) (toSub k).2.1))
def subB (m : Nat) : Nat := subHi ((toSub g o Y R m).2.2[o + m]?.getD 0) (toSub g o Y R m).1 (toSub g o Y R m).2.1
def subR (m : Nat) : List Nat := (toSub g o Y R m).2.2.set (o + m) (subLo ((toSub g o Y R m).2.2[o + m]?.getD 0) (toSub g o Y R m).1 (toSub g o Y R m).2.1)
def toAdd : Nat → Nat × List Nat
 | 0 => (0, R)
 | k + 1 =>
   (addHi ((toAdd k).2[o + k]?.getD 0) (Y[k]?.getD 0) (toAdd k).1,
    (toAdd k).2.set (o + k) (addLo ((toAdd k).2[o + k]?.getD 0) (Y[k]?.getD 0) (toAdd k).1))
def addB (m : Nat) : Nat := addHi ((toAdd o Y R m).2[o + m]?.getD 0) 0 (toAdd o Y R m).1
def addR (m : Nat) : List Nat := (toAdd o Y R m).2.set (o + m) (addLo ((toAdd o Y R m).2[o + m]?.getD 0) 0 (toAdd o Y R m).1)
end
theorem subHi_le (x y c : Nat) : subHi x y c ≤ 1 := by unfold subHi; split <;> omega
theorem addHi_le {x y c : Nat} (hx : x < B32) (hy : y < B32) (hc : c ≤ 1) : addHi x y c ≤ 1 := by unfold addHi B32 at *; omega
theorem toSub_length (g o : Nat) (Y R : List Nat) (k : Nat) : (toSub g o Y R k).2.2.length = R.length := by
 induction k with
 | zero => rfl
 | succ k ih => simp [toSub, ih]
theorem toSub_bounds {g o : Nat} {Y R : List Nat} (hg : g < B32) (hY : Digits Y) (hR : Digits R) (k : Nat) : (toSub g o Y R k).1 < B32 ∧ (toSub g o Y R k).2.1 ≤ 1 ∧ Digits (toSub g o Y R k).2.2 := by
 induction k with
 | zero => exact ⟨B32_pos, Nat.zero_le _, hR⟩
 | succ k ih =>
   obtain ⟨h1, h2, h3⟩ := ih
   have hm := mul_bound hg (hY.getD k)
   refine ⟨?_, subHi_le _ _ _, h3.set _ (subLo_lt _ _ _)⟩
   show (_ / B32) < B32
   unfold B32 at *
   omega
theorem toSub_get (g o : Nat) (Y R : List Nat) (k j : Nat) (hj : j < o ∨ o + k ≤ j) : (toSub g o Y R k).2.2[j]? = R[j]? := by
 induction k with
 | zero => rfl
 | succ k ih =>
   show ((toSub g o Y R k).2.2.set (o + k) _)[j]? = _
   rw [List.getElem?_set_ne (by omega), ih (by omega)]
theorem toSub_val {g o : Nat} {Y R : List Nat} (hg : g < B32) (hY : Digits Y) (hR : Digits R) (k : Nat) (hk : o + k ≤ R.length) :
  val (toSub g o Y R k).2.2 + B32 ^ o * (g * val (Y.take k)) = val R + B32 ^ (o + k) * ((toSub g o Y R k).1 + (toSub g o Y R k).2.1) := by
 induction k with
 | zero => simp [toSub, val]
 | succ k ih =>
   have ih := ih (by omega)
   obtain ⟨h1, h2, h3⟩ := toSub_bounds (o := o) hg hY hR k
   have hset := val_set (subLo ((toSub g o Y R k).2.2[o + k]?.getD 0) (((toSub g o Y R k).1 + g * Y[k]?.getD 0) % B32) (toSub g o Y R k).2.1) (l := (toSub g o Y R k).2.2) (j := o + k) (by rw [toSub_length]; omega)
   have hst := sub_step (h3.getD (o + k)) (Nat.mod_lt ((toSub g o Y R k).1 + g * Y[k]?.getD 0) B32_pos) h2
   have hdm := Nat.mod_add_div ((toSub g o Y R k).1 + g * Y[k]?.getD 0) B32
   show val ((toSub g o Y R k).2.2.set (o + k) _) + _ = _ + B32 ^ (o + (k + 1)) * ((_ / B32) + subHi _ _ _)
   rw [val_take_succ]
   generalize (toSub g o Y R k).2.2[o + k]?.getD 0 = r at *
   generalize (toSub g o Y R k).1 = c at *
   generalize (toSub g o Y R k).2.1 = b at *
   generalize subLo r ((c + g * Y[k]?.getD 0) % B32) b = lo at *
   generalize subHi r ((c + g * Y[k]?.getD 0) % B32) b = hi at *
   have e1 := congrArg (B32 ^ (o + k) * ·) hdm
   have e2 := congrArg (B32 ^ (o + k) * ·) hst
   simp only [Nat.mul_add] at e1 e2
   have e3 : B32 ^ (o + (k + 1)) * ((c + g * Y[k]?.getD 0) / B32 + hi) = B32 ^ (o + k) * (B32 * ((c + g * Y[k]?.getD 0) / B32)) + B32 ^ (o + k) * (B32 * hi) := by
    rw [← Nat.add_assoc, Nat.pow_succ, Nat.mul_assoc, Nat.mul_add, Nat.mul_add]
   have e4 : B32 ^ o * (g * (val (Y.take k) + B32 ^ k * Y[k]?.getD 0)) = B32 ^ o * (g * val (Y.take k)) + B32 ^ (o + k) * (g * Y[k]?.getD 0) := by
    rw [Nat.mul_add, Nat.mul_add, Nat.pow_add, Nat.mul_left_comm g, Nat.mul_assoc]
   rw [Nat.mul_add] at ih
   rw [e3, e4]
   omega
theorem subR_length (g o : Nat) (Y R : List Nat) (m : Nat) : (subR g o Y R m).length = R.length := by simp [subR, toSub_length]
theorem subR_digits {g o : Nat} {Y R : List Nat} (hg : g < B32) (hY : Digits Y) (hR : Digits R) (m : Nat) : Digits (subR g o Y R m) := (toSub_bounds hg hY hR m).2.2.set _ (subLo_lt _ _ _)
theorem subR_get (g o : Nat) (Y R : List Nat) (m j : Nat) (hj : j < o ∨ o + m < j) : (subR g o Y R m)[j]? = R[j]? := by
 unfold subR
 rw [List.getElem?_set_ne (show o + m ≠ j by omega)]
 exact toSub_get _ _ _ _ m j (by omega)
theorem subR_val {g o : Nat} {Y R : List Nat} (hg : g < B32) (hY : Digits Y) (hR : Digits R) (hk : o + Y.length < R.length) :
  val (subR g o Y R Y.length) + B32 ^ o * (g * val Y) = val R + B32 ^ (o + Y.length + 1) * subB g o Y R Y.length := by
 obtain ⟨h1, h2, h3⟩ := toSub_bounds (o := o) hg hY hR Y.length
 have hv := toSub_val (o := o) hg hY hR Y.length (by omega)
 rw [val_take_all (Nat.le_refl _)] at hv
 have hset := val_set (subLo ((toSub g o Y R Y.length).2.2[o + Y.length]?.getD 0) (toSub g o Y R Y.length).1 (toSub g o Y R Y.length).2.1) (l := (toSub g o Y R Y.length).2.2) (j := o + Y.length) (by rw [toSub_length]; omega)
 have hst := sub_step (h3.getD (o + Y.length)) h1 h2
 unfold subR subB
 generalize (toSub g o Y R Y.length).2.2[o + Y.length]?.getD 0 = r at *
 generalize (toSub g o Y R Y.length).1 = c at *
 generalize (toSub g o Y R Y.length).2.1 = b at *
 generalize subLo r c b = lo at *
 generalize subHi r c b = hi at *
 have e2 := congrArg (B32 ^ (o + Y.length) * ·) hst
 simp only [Nat.mul_add] at e2
 have e3 : B32 ^ (o + Y.length + 1) * hi = B32 ^ (o + Y.length) * (B32 * hi) := by rw [Nat.pow_succ, Nat.mul_assoc]
 rw [Nat.mul_add] at hv
 rw [e3]
 omega
theorem toAdd_length (o : Nat) (Y R : List Nat) (k : Nat) : (toAdd o Y R k).2.length = R.length := by
 induction k with
 | zero => rfl
 | succ k ih => simp [toAdd, ih]
theorem toAdd_bounds {o : Nat} {Y R : List Nat} (hY : Digits Y) (hR : Digits R) (k : Nat) : (toAdd o Y R k).1 ≤ 1 ∧ Digits (toAdd o Y R k).2 := by
 induction k with
 | zero => exact ⟨Nat.zero_le _, hR⟩
 | succ k ih => exact ⟨addHi_le (ih.2.getD _) (hY.getD _) ih.1, ih.2.set _ (addLo_lt _ _ _)⟩
theorem toAdd_get (o : Nat) (Y R : List Nat) (k j : Nat) (hj : j < o ∨ o + k ≤ j) : (toAdd o Y R k).2[j]? = R[j]? := by
 induction k with
 | zero => rfl
 | succ k ih =>
   show ((toAdd o Y R k).2.set (o + k) _)[j]? = _
   rw [List.getElem?_set_ne (by omega), ih (by omega)]
theorem toAdd_val {o : Nat} {Y R : List Nat} (hY : Digits Y) (hR : Digits R) (k : Nat) (hk : o + k ≤ R.length) :
  val (toAdd o Y R k).2 + B32 ^ (o + k) * (toAdd o Y R k).1 = val R + B32 ^ o * val (Y.take k) := by
 induction k with
 | zero => simp [toAdd, val]
 | succ k ih =>
   have ih := ih (by omega)
   have hset := val_set (addLo ((toAdd o Y R k).2[o + k]?.getD 0) (Y[k]?.getD 0) (toAdd o Y R k).1) (l := (toAdd o Y R k).2) (j := o + k) (by rw [toAdd_length]; omega)
   have hst := add_step ((toAdd o Y R k).2[o + k]?.getD 0) (Y[k]?.getD 0) (toAdd o Y R k).1
   show val ((toAdd o Y R k).2.set (o + k) _) + B32 ^ (o + (k + 1)) * addHi _ _ _ = _
   rw [val_take_succ]
   generalize (toAdd o Y R k).2[o + k]?.getD 0 = r at *
   generalize (toAdd o Y R k).1 = c at *
   generalize addLo r (Y[k]?.getD 0) c = lo at *
   generalize addHi r (Y[k]?.getD 0) c = hi at *
   have e2 := congrArg (B32 ^ (o + k) * ·) hst
   simp only [Nat.mul_add] at e2
   have e3 : B32 ^ (o + (k + 1)) * hi = B32 ^ (o + k) * (B32 * hi) := by rw [← Nat.add_assoc, Nat.pow_succ, Nat.mul_assoc]
   have e4 : B32 ^ o * (val (Y.take k) + B32 ^ k * Y[k]?.getD 0) = B32 ^ o * val (Y.take k) + B32 ^ (o + k) * Y[k]?.getD 0 := by
    rw [Nat.mul_add, Nat.pow_add, Nat.mul_assoc]
   rw [e3, e4]
   omega
theorem addR_length (o : Nat) (Y R : List Nat) (m : Nat) : (addR o Y R m).length = R.length := by simp [addR, toAdd_length]
theorem addR_digits {o : Nat} {Y R : List Nat} (hY : Digits Y) (hR : Digits R) (m : Nat) : Digits (addR o Y R m) := (toAdd_bounds hY hR m).2.set _ (addLo_lt _ _ _)
theorem addR_get (o : Nat) (Y R : List Nat) (m j : Nat) (hj : j < o ∨ o + m < j) : (addR o Y R m)[j]? = R[j]? := by
 unfold addR
 rw [List.getElem?_set_ne (show o + m ≠ j by omega)]
 exact toAdd_get _ _ _ m j (by omega)
theorem addB_le {o : Nat} {Y R : List Nat} (hY : Digits Y) (hR : Digits R) (m : Nat) : addB o Y R m ≤ 1 := addHi_le ((toAdd_bounds hY hR m).2.getD _) B32_pos (toAdd_bounds hY hR m).1
theorem addR_val {o : Nat} {Y R : List Nat} (hY : Digits Y) (hR : Digits R) (hk : o + Y.length < R.length) :
  val (addR o Y R Y.length) + B32 ^ (o + Y.length + 1) * addB o Y R Y.length = val R + B32 ^ o * val Y := by
 have hv := toAdd_val (o := o) hY hR Y.length (by omega)
 rw [val_take_all (Nat.le_refl _)] at hv
 have hset := val_set (addLo ((toAdd o Y R Y.length).2[o + Y.length]?.getD 0) 0 (toAdd o Y R Y.length).1) (l := (toAdd o Y R Y.length).2) (j := o + Y.length) (by rw [toAdd_length]; omega)
 have hst := add_step ((toAdd o Y R Y.length).2[o + Y.length]?.getD 0) 0 (toAdd o Y R Y.length).1
 unfold addR addB
 generalize (toAdd o Y R Y.length).2[o + Y.length]?.getD 0 = r at *
 generalize (toAdd o Y R Y.length).1 = c at *
 generalize addLo r 0 c = lo at *
 generalize addHi r 0 c = hi at *
 have e2 := congrArg (B32 ^ (o + Y.length) * ·) hst
 simp only [Nat.mul_add] at e2
 have e3 : B32 ^ (o + Y.length + 1) * hi = B32 ^ (o + Y.length) * (B32 * hi) := by rw [Nat.pow_succ, Nat.mul_assoc]
 rw [e3]
 omega
def guess0 (o : Nat) (Y R : List Nat) (m : Nat) : Nat := min ((R[o + m]?.getD 0 + B32 * R[o + m + 1]?.getD 0) / Y[m]?.getD 0) 4294967295
structure Out (o : Nat) (Y R : List Nat) (g b : Nat) (Z : List Nat) : Prop where
 hb : b ≤ 1
 hg : g < B32
 digits : Digits Z
 len : Z.length = R.length
 same : ∀ j, j < o ∨ o + Y.length < j → Z[j]? = R[j]?
 eq : val Z + B32 ^ o * (g * val Y) = val R + B32 ^ (o + Y.length + 1) * b
 big : val (R.drop o) / val Y ≤ g
theorem getD_congr {a b : List Nat} {j : Nat} (h : a[j]? = b[j]?) : a[j]?.getD 0 = b[j]?.getD 0 := by rw [h]
theorem take_congr {a b : List Nat} {o : Nat} (hl : a.length = b.length) (h : ∀ j, j < o → a[j]? = b[j]?) : a.take o = b.take o := by
 apply List.ext_getElem?
 intro j
 rw [List.getElem?_take, List.getElem?_take]
 split
 ·exact h j ‹_›
 ·rfl
theorem Out.seg {o g b : Nat} {Y R Z : List Nat} (h : Out o Y R g b Z) (hR : o + Y.length < R.length) (hz : ∀ j, o + Y.length < j → R[j]?.getD 0 = 0) :
  val (Z.drop o) + g * val Y = val (R.drop o) + B32 ^ (Y.length + 1) * b ∧ val (Z.drop o) < B32 ^ (Y.length + 1) := by
 constructor
 ·have h1 := val_take_drop Z (s := o) (by rw [h.len]; omega)
  have h2 := val_take_drop R (s := o) (by omega)
  have h3 : Z.take o = R.take o := take_congr h.len (fun j hj => h.same j (.inl hj))
  have h4 := h.eq
  rw [h1, h2, h3, show o + Y.length + 1 = o + (Y.length + 1) by omega, Nat.pow_add, Nat.mul_assoc (B32 ^ o)] at h4
  have h5 : B32 ^ o * (val (Z.drop o) + g * val Y) = B32 ^ o * (val (R.drop o) + B32 ^ (Y.length + 1) * b) := by
   rw [Nat.mul_add, Nat.mul_add]; omega
  exact Nat.eq_of_mul_eq_mul_left (Nat.pow_pos B32_pos) h5
 ·have hd : Digits ((Z.drop o).take (Y.length + 1)) := (h.digits.drop o).take _
  have h1 := val_lt hd
  rw [val_take_of_zero (ds := Z.drop o) (n := Y.length + 1) (fun j hj => by
   rw [List.getElem?_drop, getD_congr (h.same (o + j) (.inr (by omega)))]
   exact hz (o + j) (by omega))] at h1
  exact Nat.lt_of_lt_of_le h1 (Nat.pow_le_pow_right B32_pos (by simp; omega))
theorem Out.pos {o g : Nat} {Y R Z : List Nat} (h : Out o Y R g 1 Z) (hY : 0 < val Y) (hR : o + Y.length < R.length) (hz : ∀ j, o + Y.length < j → R[j]?.getD 0 = 0) : val (R.drop o) / val Y < g := by
 obtain ⟨h1, h2⟩ := h.seg hR hz
 rw [Nat.div_lt_iff_lt_mul hY]
 omega
theorem Out.step {o g : Nat} {Y R Z : List Nat} (h : Out o Y R g 1 Z) (hdY : Digits Y) (hY : 0 < val Y) (hR : o + Y.length < R.length) (hz : ∀ j, o + Y.length < j → R[j]?.getD 0 = 0) :
  Out o Y R (g - 1) (1 - addB o Y Z Y.length) (addR o Y Z Y.length) := by
 have hp := h.pos hY hR hz
 have hg1 : 1 ≤ g := Nat.lt_of_le_of_lt (Nat.zero_le _) hp
 have hv := addR_val (o := o) hdY h.digits (by rw [h.len]; exact hR)
 have ho := addB_le (o := o) hdY h.digits Y.length
 refine ⟨by omega, by have := h.hg; omega, addR_digits hdY h.digits _, by rw [addR_length, h.len], fun j hj => (addR_get _ _ _ _ _ hj).trans (h.same j hj), ?_, by omega⟩
 have he := h.eq
 rw [Nat.mul_one] at he
 have e1 : B32 ^ o * ((g - 1) * val Y) + B32 ^ o * val Y = B32 ^ o * (g * val Y) := by
  rw [← Nat.mul_add]; congr 1
  rw [Nat.sub_mul, Nat.one_mul]
  have : val Y ≤ g * val Y := Nat.le_mul_of_pos_left _ (by omega)
  omega
 generalize addB o Y Z Y.length = ov at *
 rcases Nat.lt_or_ge ov 1 with h1 | h1
 ·have : ov = 0 := by omega
  subst this
  rw [Nat.mul_zero] at hv
  rw [Nat.sub_zero, Nat.mul_one]
  omega
 ·have : ov = 1 := by omega
  subst this
  rw [Nat.mul_one] at hv
  rw [Nat.sub_self, Nat.mul_zero]
  omega
theorem Out.done {o g : Nat} {Y R Z : List Nat} (h : Out o Y R g 0 Z) (hY : 0 < val Y) (hR : o + Y.length < R.length) (hz : ∀ j, o + Y.length < j → R[j]?.getD 0 = 0) :
  g = val (R.drop o) / val Y ∧ val (Z.drop o) = val (R.drop o) % val Y := by
 obtain ⟨h1, -⟩ := h.seg hR hz
 rw [Nat.mul_zero, Nat.add_zero] at h1
 have h2 : g ≤ val (R.drop o) / val Y := by rw [Nat.le_div_iff_mul_le hY]; omega
 have h3 : g = val (R.drop o) / val Y := Nat.le_antisymm h2 h.big
 refine ⟨h3, ?_⟩
 have := Nat.mod_add_div (val (R.drop o)) (val Y)
 rw [← h3, Nat.mul_comm] at this
 omega
theorem out_start {o g : Nat} {Y R : List Nat} (hg : g < B32) (hdY : Digits Y) (hdR : Digits R) (hR : o + Y.length < R.length) (hbig : val (R.drop o) / val Y ≤ g) :
  Out o Y R g (subB g o Y R Y.length) (subR g o Y R Y.length) :=
 ⟨subHi_le _ _ _, hg, subR_digits hg hdY hdR _, subR_length _ _ _ _ _, fun j hj => subR_get _ _ _ _ _ _ hj, subR_val hg hdY hdR hR, hbig⟩
end Go.Proofs.YtgnogdncoljldaaGreat
namespace Go.Proofs.YtgnogdncoljldaaGreat
open Go Go.RowKit Go.Shelf
theorem below_of_drew {B : Nat} {w w' : World} (h : Below B w.drew w') : Below B w w' := ⟨h.os, h.tape, h.output, h.size, h.block⟩
theorem sub_cast (c g y : Nat) : ((c : Int) + (g : Int) * (y : Int)) % 4294967296 = (((c + g * y) % B32 : Nat) : Int) ∧ ((c : Int) + (g : Int) * (y : Int)) / 4294967296 = (((c + g * y) / B32 : Nat) : Int) := by
 unfold B32
 rw [← Int.natCast_mul]
 generalize g * y = t
 omega
theorem mul_boundI {g y : Nat} (hg : g < B32) (hy : y < B32) : 0 ≤ (g : Int) * (y : Int) ∧ (g : Int) * (y : Int) ≤ 18446744065119617025 := by
 have := mul_bound hg hy
 rw [← Int.natCast_mul]
 generalize g * y = t at *
 omega
set_option maxRecDepth 100000 in
set_option maxHeartbeats 4000000 in
theorem takeOut_walk (bx o cx by_ oy cy m1 : Nat) (t : TypeId) (Y R : List Nat) (w : World) (hrow : RowAt w bx t (arr R)) (hdR : Digits R) (hdY : Digits Y) (hY : Y.length = m1 + 1) (hR : R.length = 65) (ho : o + m1 + 1 < 65)
  (hcx : m1 + 2 ≤ cx) (hcx2 : cx ≤ 65) (hby : by_ < w.heap.size) (hne : by_ ≠ bx) (hcy : ∀ j, j < m1 + 1 → w.cell? ⟨by_, oy + j, none⟩ = some (.int .u32 ((Y[j]?.getD 0 : Nat) : Int))) (htop : Y[m1]?.getD 0 ≠ 0) (hvY : 0 < val Y) (hz : ∀ j, o + Y.length < j → R[j]?.getD 0 = 0) (hbig : val (R.drop o) / val Y ≤ guess0 o Y R m1) :
  Calls Tryz.prog 194 #[.slice (some ⟨bx, o, none⟩) (m1 + 1 + 1) cx, .slice (some ⟨by_, oy, none⟩) (m1 + 1) cy] w fun e w' => ∃ g Z, e = .returned (.int .u32 (g : Nat)) ∧ Out o Y R g 0 Z ∧ RowAt w' bx t (arr Z) ∧ Keeps w.heap.size bx w w' := by
 have hstart : guess0 o Y R m1 < B32 → Out o Y R (guess0 o Y R m1) (subB (guess0 o Y R m1) o Y R Y.length) (subR (guess0 o Y R m1) o Y R Y.length) := fun hg => out_start hg hdY hdR (by omega) hbig
 have hstep : ∀ g Z, Out o Y R g 1 Z → 1 ≤ g ∧ Out o Y R (g - 1) (1 - addB o Y Z Y.length) (addR o Y Z Y.length) := fun g Z h => ⟨Nat.lt_of_le_of_lt (Nat.zero_le _) (h.pos hvY (by omega) hz), h.step hdY hvY (by omega) hz⟩
 rw [hY] at hstart
 have Hstep := Lib.hid hstep
 have hbx := hrow.lt
 have htl := hdY.getD m1
 have hword := word_calls (.slice (some ⟨bx, o + m1, none⟩) 2 (cx - m1)) [R[o + m1]?.getD 0, R[o + m1 + 1]?.getD 0] w.drew
  ⟨_, _, rfl, by show 2 ≤ maxLen; decide, fun _ => ⟨bx, o + m1, rfl, hbx, fun j hj => by
   rw [show w.drew.cell? ⟨bx, o + m1 + j, none⟩ = w.cell? ⟨bx, o + m1 + j, none⟩ from rfl, hrow.cell, arr_get R _ (by simp at hj; omega)]
   match j, hj with
   | 0, _ => rfl
   | 1, _ => rfl⟩⟩ (Digits.cons.2 ⟨hdR.getD _, Digits.cons.2 ⟨hdR.getD _, Digits.nil⟩⟩) (Nat.le_refl 2)
 have hval : val [R[o + m1]?.getD 0, R[o + m1 + 1]?.getD 0] = R[o + m1]?.getD 0 + B32 * R[o + m1 + 1]?.getD 0 := by simp [val]
 rw [hval] at hword
 have Hg0 : Hid (guess0 o Y R m1 = min ((R[o + m1]?.getD 0 + B32 * R[o + m1 + 1]?.getD 0) / Y[m1]?.getD 0) 4294967295) := rfl
 have hcyt := hcy m1 (by omega)
 have htop64 : R[o + m1]?.getD 0 + B32 * R[o + m1 + 1]?.getD 0 < 18446744073709551616 := by
  have h1 := hdR.getD (o + m1)
  have h2 := hdR.getD (o + m1 + 1)
  unfold B32 at *; omega
 generalize R[o + m1]?.getD 0 + B32 * R[o + m1 + 1]?.getD 0 = top at *
 generalize Y[m1]?.getD 0 = yt at *
 have htopl : (top : Int) / (yt : Int) < 18446744073709551616 ∧ 0 ≤ (top : Int) / (yt : Int) := by
  have h1 := Nat.div_le_self top yt
  have : ((top / yt : Nat) : Int) = (top : Int) / (yt : Int) := Int.natCast_ediv _ _
  rw [← this]
  generalize top / yt = z at *
  omega
 have hmin : min (IntKind.u64.wrap ((top : Int) / (yt : Int))) 4294967295 = ((guess0 o Y R m1 : Nat) : Int) := by
  rw [IntKind.wrap_u64, Int.emod_eq_of_lt htopl.2 htopl.1, Hg0.out]
  have : ((top / yt : Nat) : Int) = (top : Int) / (yt : Int) := Int.natCast_ediv _ _
  rw [← this]
  generalize top / yt = z at *
  omega
 have hgB : guess0 o Y R m1 < B32 := by rw [Hg0.out]; unfold B32; omega
 generalize guess0 o Y R m1 = g0 at *
 have hyt : 1 ≤ (yt : Int) := by omega
 have Hstart := Lib.hid (hstart hgB)
 have Hword := Lib.hid hword
 have Hrow := Lib.hid hrow
 have HgB := Lib.hid hgB
 have Hcy := Lib.hid hcy
 unfold B32 at htl
 clear hword hval hrow hgB hcy htop htopl htop64 hstart hstep hz hbig hvY
 go_enter Tryz.func194, Tryz.ntmps194
 go_wp2_with fail
 have hw1 : IntKind.i64.wrap ((m1 : Int) + 1 - 1) = (m1 : Int) := by rw [IntKind.wrap_i64]; omega
 have hw2 : IntKind.i64.wrap (m1 : Int) = (m1 : Int) := by rw [IntKind.wrap_i64]; omega
 have hw3 : (0 : Int) ≤ (m1 : Int) := by omega
 have hq0 : IntKind.u64.wrap (yt : Int) = (yt : Int) := by rw [IntKind.wrap_u64]; omega
 have hq1 : ((yt : Int) == 0) = false := by simp; omega
 have hq2 : ¬ yt = 0 := by omega
 have hq3 : ¬ (yt : Int) = 0 := by omega
 have hs1 : (m1 : Int) ≤ (cx : Int) := by omega
 have hs2 : ¬ m1 = cx := by omega
 have hs3 : (m1 : Int) ≤ (m1 : Int) + 1 + 1 := by omega
 have hs4 : (m1 : Int) + 1 + 1 ≤ (cx : Int) := by omega
 have hs5 : ¬ cx = m1 := by omega
 have hs6 : ¬ cx ≤ m1 := by omega
 have hs7 : (m1 : Int) < (m1 : Int) + 1 := by omega
 have hs8 : ((m1 : Int) == (cx : Int)) = false := by simp; omega
 have hs9 : m1 + 1 + 1 - m1 = 2 := by omega
 go_region_held3 (fun W => W.cell? ⟨by_, oy + m1, none⟩ = some (.int .u32 yt)) (first | (show World.cell? _ _ = _; assumption))
  (first | (go_at_call 161; refine Hword.out.mono ?_; rintro e w5 ⟨rfl, hb5⟩; have hk1 : w5.cell? ⟨by_, oy + m1, none⟩ = some (.int .u32 yt) := (hb5.cell (p := ⟨by_, oy + m1, none⟩) hby).trans hcyt; have HB5 := Lib.hid hb5; clear hb5))
 have Hgb := HgB.out
 clear hw1 hw2 hw3 hq0 hq1 hq2 hq3 hs1 hs2 hs3 hs4 hs5 hs6 hs7 hs8 hs9 hcyt Hword
 go_wp2_with fail
 have HK5 : Hid (Keeps w.heap.size bx w w5) := (Keeps.refl _ _ _).below (below_of_drew HB5.out)
 have Hr5 : Hid (RowAt w5 bx t (arr R)) := Hrow.out.below (below_of_drew HB5.out) hbx
 clear hk1 hmin hyt
 go_loopw [7, 8, 31] (fun c b i wr => ∃ k : Nat, k ≤ m1 + 1 ∧ i = .int .i64 k ∧ c = .int .u64 ((toSub g0 o Y R k).1 : Nat) ∧ b = .int .u32 ((toSub g0 o Y R k).2.1 : Nat) ∧ RowAt wr bx t (arr (toSub g0 o Y R k).2.2) ∧ Keeps w.heap.size bx w wr)
  (fun _ _ i _ => m1 + 1 - (intOf i).toNat)
 case atStart => exact ⟨0, Nat.zero_le _, rfl, rfl, rfl, Hr5.out, HK5.out⟩
 case round =>
  obtain ⟨k, hk, rfl, rfl, rfl, hr, hK⟩ := hrel
  obtain ⟨b1, b2, b3⟩ := toSub_bounds (o := o) Hgb hdY hdR k
  have hl := toSub_length g0 o Y R k
  rw [hR] at hl
  by_cases hkm : k < m1 + 1
  ·have hcyk := (hK.cell (p := ⟨by_, oy + k, none⟩) hby hne).trans (Hcy.out k hkm)
   have hyk := hdY.getD k
   have hxk := b3.getD (o + k)
   have hcx0 := (hr.cell (o + k)).trans (arr_get _ (o + k) (by rw [hl]; omega))
   have hfx := hr.frozen (o + k)
   have hs1 : (toSub g0 o Y R (k + 1)).1 = ((toSub g0 o Y R k).1 + g0 * Y[k]?.getD 0) / B32 := rfl
   have hs2 : (toSub g0 o Y R (k + 1)).2.1 = subHi ((toSub g0 o Y R k).2.2[o + k]?.getD 0) (((toSub g0 o Y R k).1 + g0 * Y[k]?.getD 0) % B32) (toSub g0 o Y R k).2.1 := rfl
   have hs3 : (toSub g0 o Y R (k + 1)).2.2 = (toSub g0 o Y R k).2.2.set (o + k) (subLo ((toSub g0 o Y R k).2.2[o + k]?.getD 0) (((toSub g0 o Y R k).1 + g0 * Y[k]?.getD 0) % B32) (toSub g0 o Y R k).2.1) := rfl
   generalize (toSub g0 o Y R k).2.2[o + k]?.getD 0 = x at *
   generalize Y[k]?.getD 0 = y at *
   generalize toSub g0 o Y R k = st at *
   obtain ⟨c, b, Z⟩ := st
   dsimp only at *
   obtain ⟨hm0, hm1⟩ := mul_boundI Hgb hyk
   obtain ⟨hc1, hc2⟩ := sub_cast c g0 y
   have Hsub := Lib.hid (sub32_calls x ((c + g0 * y) % B32) b hxk (Nat.mod_lt _ B32_pos) b2 wr)
   have Hs1 := Lib.hid hs1
   have Hs2 := Lib.hid hs2
   have Hs3 := Lib.hid hs3
   have Hr := Lib.hid hr
   have hcb : c < 4294967296 := b1
   have hyb : y < 4294967296 := hyk
   have hgb : g0 < 4294967296 := Hgb
   generalize (c + g0 * y) % B32 = tm at *
   generalize (c + g0 * y) / B32 = td at *
   have Hc1 := Lib.hid hc1
   have Hc2 := Lib.hid hc2
   clear hs1 hs2 hs3 hr b1 b2 b3 hl hyk hxk hc1 hc2
   go_wp2_with fail
   rw [Hc1.out]
   refine Hsub.out.mono ?_
   rintro e w6 ⟨rfl, rfl⟩
   go_wp2
   go_roundw
   case rel =>
    rw [Hc2.out]
    exact ⟨k + 1, by omega, by rw [Int.natCast_add]; rfl, by rw [Hs1.out], by rw [Hs2.out], by rw [Hs3.out, ← arr_set]; exact Hr.out.set (o + k) _, hK.setCell (p := ⟨bx, o + k, none⟩) (.inl rfl) _⟩
   case measure => show m1 + 1 - ((k : Int) + 1).toNat < m1 + 1 - ((k : Int)).toNat; omega
  ·obtain rfl : k = m1 + 1 := by omega
   have hxk := b3.getD (o + (m1 + 1))
   have hcx0 := (hr.cell (o + (m1 + 1))).trans (arr_get _ (o + (m1 + 1)) (by rw [hl]; omega))
   have hfx := hr.frozen (o + (m1 + 1))
   have hB : subB g0 o Y R (m1 + 1) = subHi ((toSub g0 o Y R (m1 + 1)).2.2[o + (m1 + 1)]?.getD 0) (toSub g0 o Y R (m1 + 1)).1 (toSub g0 o Y R (m1 + 1)).2.1 := rfl
   have hRs : subR g0 o Y R (m1 + 1) = (toSub g0 o Y R (m1 + 1)).2.2.set (o + (m1 + 1)) (subLo ((toSub g0 o Y R (m1 + 1)).2.2[o + (m1 + 1)]?.getD 0) (toSub g0 o Y R (m1 + 1)).1 (toSub g0 o Y R (m1 + 1)).2.1) := rfl
   generalize (toSub g0 o Y R (m1 + 1)).2.2[o + (m1 + 1)]?.getD 0 = x at *
   generalize toSub g0 o Y R (m1 + 1) = st at *
   obtain ⟨c, b, Z⟩ := st
   dsimp only at *
   have Hsub := Lib.hid (sub32_calls x c b hxk b1 b2 wr)
   have HB := Lib.hid hB
   have HRs := Lib.hid hRs
   have Hr := Lib.hid hr
   have hcb : c < 4294967296 := b1
   generalize subB g0 o Y R (m1 + 1) = bo at *
   generalize subR g0 o Y R (m1 + 1) = Zo at *
   clear hB hRs hr b1 b2 b3 hl hxk
   go_wp2_with fail
   refine Hsub.out.mono ?_
   rintro e w6 ⟨rfl, rfl⟩
   go_wp2
   rw [← HB.out]
   have Hr6 : Hid (RowAt (wr.setCell ⟨bx, o + (m1 + 1), none⟩ (.int .u32 (subLo x c b : Nat))) bx t (arr Zo)) := by rw [HRs.out, ← arr_set]; exact Hr.out.set _ _
   have HK6 : Hid (Keeps w.heap.size bx w (wr.setCell ⟨bx, o + (m1 + 1), none⟩ (.int .u32 (subLo x c b : Nat)))) := hK.setCell (p := ⟨bx, o + (m1 + 1), none⟩) (.inl rfl) _
   generalize wr.setCell ⟨bx, o + (m1 + 1), none⟩ (.int .u32 (subLo x c b : Nat)) = W6 at *
   clear hcx0 hfx hK Hr HRs hcb
   go_loopw [6, 8] (fun gv bv wr => ∃ g b Z, gv = .int .u64 (g : Nat) ∧ bv = .int .u32 (b : Nat) ∧ Out o Y R g b Z ∧ RowAt wr bx t (arr Z) ∧ Keeps w.heap.size bx w wr)
    (fun gv _ _ => (intOf gv).toNat)
   case atStart => exact ⟨g0, bo, Zo, rfl, rfl, Hstart.out, Hr6.out, HK6.out⟩
   case round =>
    clear HK6 Hr6 HK5 Hr5 HB5
    obtain ⟨g, b, Z, rfl, rfl, ho2, hr, hK⟩ := hrel
    obtain ⟨wo, hwo⟩ : ∃ wo : World, wo = wr := ⟨_, rfl⟩
    rw [← hwo] at hr hK ⊢
    clear hwo wr
    have hgB : g < 4294967296 := ho2.hg
    have hb1 := ho2.hb
    by_cases hb0 : b = 0
    ·subst hb0
     have Hout := Lib.hid ho2
     have Hr := Lib.hid hr
     have HK := Lib.hid hK
     clear ho2 hr hK hb1
     go_wp2
     go_ret
     exact ⟨g, Z, rfl, Hout.out, Hr.out, HK.out⟩
    ·obtain rfl : b = 1 := by omega
     obtain ⟨hg1, hst⟩ := Hstep.out g Z ho2
     rw [hY] at hst
     have hdZ := ho2.digits
     have hlZ := ho2.len
     rw [hR] at hlZ
     have Hst := Lib.hid hst
     have HdZ := Lib.hid hdZ
     have HlZ := Lib.hid hlZ
     obtain ⟨g1, rfl⟩ : ∃ g1, g = g1 + 1 := ⟨g - 1, by omega⟩
     rw [Nat.add_sub_cancel] at Hst
     have hg1B : (g1 : Int) ≤ 4294967295 := by omega
     have hgm : ((g1 + 1 : Nat) : Int) - 1 = (g1 : Int) := by omega
     have Hr := Lib.hid hr
     have HK := Lib.hid hK
     have Hgm := Lib.hid hgm
     clear ho2 hst hdZ hlZ hr hK hb1 hb0 hg1 hgm
     rw [show ((1 : Nat) : Int) = 1 from rfl, show ((g1 + 1 : Nat) : Int) = (g1 : Int) + 1 from rfl]
     go_wp2_with fail
     go_loopw [11, 79] (fun ov i wr => ∃ k : Nat, k ≤ m1 + 1 ∧ i = .int .i64 k ∧ ov = .int .u32 ((toAdd o Y Z k).1 : Nat) ∧ RowAt wr bx t (arr (toAdd o Y Z k).2) ∧ Keeps w.heap.size bx w wr)
      (fun _ i _ => m1 + 1 - (intOf i).toNat)
     case atStart => exact ⟨0, Nat.zero_le _, rfl, rfl, Hr.out, HK.out⟩
     case round =>
      obtain ⟨k, hk, rfl, rfl, hr, hK⟩ := hrel
      obtain ⟨b1, b2⟩ := toAdd_bounds (o := o) hdY HdZ.out k
      have hl := toAdd_length o Y Z k
      rw [HlZ.out] at hl
      by_cases hkm : k < m1 + 1
      ·have hcyk := (hK.cell (p := ⟨by_, oy + k, none⟩) hby hne).trans (Hcy.out k hkm)
       have hyk := hdY.getD k
       have hxk := b2.getD (o + k)
       have hcx0 := (hr.cell (o + k)).trans (arr_get _ (o + k) (by rw [hl]; omega))
       have hfx := hr.frozen (o + k)
       have hs1 : (toAdd o Y Z (k + 1)).1 = addHi ((toAdd o Y Z k).2[o + k]?.getD 0) (Y[k]?.getD 0) (toAdd o Y Z k).1 := rfl
       have hs2 : (toAdd o Y Z (k + 1)).2 = (toAdd o Y Z k).2.set (o + k) (addLo ((toAdd o Y Z k).2[o + k]?.getD 0) (Y[k]?.getD 0) (toAdd o Y Z k).1) := rfl
       generalize (toAdd o Y Z k).2[o + k]?.getD 0 = x at *
       generalize Y[k]?.getD 0 = y at *
       generalize toAdd o Y Z k = st at *
       obtain ⟨c, Zk⟩ := st
       dsimp only at *
       have Hadd := Lib.hid (add32_calls x y c hxk hyk b1 wr)
       have Hs1 := Lib.hid hs1
       have Hs2 := Lib.hid hs2
       have Hr2 := Lib.hid hr
       clear hs1 hs2 hr b1 b2 hl hyk hxk
       go_wp2_with fail
       refine Hadd.out.mono ?_
       rintro e w6 ⟨rfl, rfl⟩
       go_wp2
       go_roundw
       case rel => exact ⟨k + 1, by omega, by rw [Int.natCast_add]; rfl, by rw [Hs1.out], by rw [Hs2.out, ← arr_set]; exact Hr2.out.set (o + k) _, hK.setCell (p := ⟨bx, o + k, none⟩) (.inl rfl) _⟩
       case measure => show m1 + 1 - ((k : Int) + 1).toNat < m1 + 1 - ((k : Int)).toNat; omega
      ·obtain rfl : k = m1 + 1 := by omega
       have hxk := b2.getD (o + (m1 + 1))
       have hcx0 := (hr.cell (o + (m1 + 1))).trans (arr_get _ (o + (m1 + 1)) (by rw [hl]; omega))
       have hfx := hr.frozen (o + (m1 + 1))
       have hB : addB o Y Z (m1 + 1) = addHi ((toAdd o Y Z (m1 + 1)).2[o + (m1 + 1)]?.getD 0) 0 (toAdd o Y Z (m1 + 1)).1 := rfl
       have hRs : addR o Y Z (m1 + 1) = (toAdd o Y Z (m1 + 1)).2.set (o + (m1 + 1)) (addLo ((toAdd o Y Z (m1 + 1)).2[o + (m1 + 1)]?.getD 0) 0 (toAdd o Y Z (m1 + 1)).1) := rfl
       have hov : addB o Y Z (m1 + 1) ≤ 1 := addB_le hdY HdZ.out _
       generalize (toAdd o Y Z (m1 + 1)).2[o + (m1 + 1)]?.getD 0 = x at *
       generalize toAdd o Y Z (m1 + 1) = st at *
       obtain ⟨c, Zk⟩ := st
       dsimp only at *
       have hadd : Calls Tryz.prog 208 #[.int .u32 x, .int .u32 0, .int .u32 c] wr _ := add32_calls x 0 c hxk B32_pos b1 wr
       rw [← hB] at hadd
       have Hadd := Lib.hid hadd
       have HB := Lib.hid hB
       have HRs := Lib.hid hRs
       have Hr2 := Lib.hid hr
       generalize addB o Y Z (m1 + 1) = ov at *
       generalize addR o Y Z (m1 + 1) = Zo at *
       clear hB hRs hr b1 b2 hl hxk hadd
       go_wp2_with fail
       refine Hadd.out.mono ?_
       rintro e w6 ⟨rfl, rfl⟩
       go_wp2
       go_roundw
       case rel => exact ⟨g1, 1 - ov, Zo, by first | rfl | rw [Hgm.out], by rw [Int.ofNat_sub hov]; rfl, Hst.out, by rw [HRs.out, ← arr_set]; exact Hr2.out.set _ _, hK.setCell (p := ⟨bx, o + (m1 + 1), none⟩) (.inl rfl) _⟩
       case measure => show ((g1 : Int)).toNat < (((g1 + 1 : Nat) : Int)).toNat; omega
end Go.Proofs.YtgnogdncoljldaaGreat
namespace Go.Proofs.YtgnogdncoljldaaGreat
open Go Go.RowKit Go.Shelf
section
variable (by_ : Nat) (xs : List Nat)
def shCarry : Nat → Nat
 | 0 => 0
 | k + 1 => xs[k]?.getD 0 / 2 ^ (32 - by_)
def shDigit (k : Nat) : Nat := xs[k]?.getD 0 * 2 ^ by_ % B32 + shCarry by_ xs k
def shTo : Nat → List Nat
 | 0 => List.replicate 65 0
 | k + 1 => (shTo k).set k (shDigit by_ xs k)
def shRow : List Nat := (shTo by_ xs xs.length).set xs.length (shCarry by_ xs xs.length)
end
theorem shTo_length (b : Nat) (xs : List Nat) (k : Nat) : (shTo b xs k).length = 65 := by
 induction k with
 | zero => simp [shTo]
 | succ k ih => simp [shTo, ih]
theorem shRow_length (b : Nat) (xs : List Nat) : (shRow b xs).length = 65 := by simp [shRow, shTo_length]
theorem pow_split {b : Nat} (hb : b ≤ 31) : 2 ^ b * 2 ^ (32 - b) = B32 := by
 rw [← Nat.pow_add, show b + (32 - b) = 32 by omega]; rfl
theorem shCarry_lt {b : Nat} (hb : b ≤ 31) {xs : List Nat} (hx : Digits xs) (k : Nat) : shCarry b xs k < 2 ^ b := by
 cases k with
 | zero => exact Nat.two_pow_pos _
 | succ k =>
   show _ / _ < _
   rw [Nat.div_lt_iff_lt_mul (Nat.two_pow_pos _), pow_split hb]
   exact hx.getD k
theorem sh_step {b : Nat} (hb : b ≤ 31) (x : Nat) : x * 2 ^ b % B32 + B32 * (x / 2 ^ (32 - b)) = x * 2 ^ b := by
 have h := pow_split hb
 have e : x / 2 ^ (32 - b) = x * 2 ^ b / B32 := by
  rw [← h, Nat.mul_comm (2 ^ b), Nat.mul_div_mul_right _ _ (Nat.two_pow_pos _)]
 rw [e, Nat.mod_add_div]
theorem shDigit_lt {b : Nat} (hb : b ≤ 31) {xs : List Nat} (hx : Digits xs) (k : Nat) : shDigit b xs k < B32 := by
 have h1 := shCarry_lt hb hx k
 have h2 : xs[k]?.getD 0 * 2 ^ b % B32 % 2 ^ b = 0 := by
  rw [← pow_split hb, Nat.mod_mul_right_mod, Nat.mul_mod_left]
 have h3 := Nat.mod_lt (xs[k]?.getD 0 * 2 ^ b) B32_pos
 unfold shDigit
 have h4 : xs[k]?.getD 0 * 2 ^ b % B32 = 2 ^ b * (xs[k]?.getD 0 * 2 ^ b % B32 / 2 ^ b) := by
  have := Nat.mod_add_div (xs[k]?.getD 0 * 2 ^ b % B32) (2 ^ b)
  omega
 rw [h4] at h3 ⊢
 generalize xs[k]?.getD 0 * 2 ^ b % B32 / 2 ^ b = z at *
 rw [← pow_split hb] at h3 ⊢
 have h5 : z < 2 ^ (32 - b) := Nat.lt_of_mul_lt_mul_left h3
 calc 2 ^ b * z + shCarry b xs k < 2 ^ b * z + 2 ^ b := by omega
  _ = 2 ^ b * (z + 1) := by rw [Nat.mul_add, Nat.mul_one]
  _ ≤ 2 ^ b * 2 ^ (32 - b) := Nat.mul_le_mul_left _ h5
theorem sh_inv {b : Nat} (hb : b ≤ 31) (xs : List Nat) (k : Nat) (hk : k ≤ 64) : val ((shTo b xs k).take k) + B32 ^ k * shCarry b xs k = val (xs.take k) * 2 ^ b := by
 induction k with
 | zero => simp [val, shCarry]
 | succ k ih =>
   have ih := ih (by omega)
   have e : (shTo b xs (k + 1)).take (k + 1) = (shTo b xs k).take k ++ [shDigit b xs k] := take_set_succ (by rw [shTo_length]; omega)
   rw [e, val_snoc, val_take_succ, List.length_take, shTo_length, show min k 65 = k by omega]
   have hs := congrArg (B32 ^ k * ·) (sh_step hb (xs[k]?.getD 0))
   simp only [Nat.mul_add] at hs
   show _ + B32 ^ k * (_ + shCarry b xs k) + B32 ^ (k + 1) * (xs[k]?.getD 0 / 2 ^ (32 - b)) = _
   rw [Nat.mul_add, Nat.add_mul, Nat.pow_succ, Nat.mul_assoc (B32 ^ k) B32, Nat.mul_assoc (B32 ^ k) (xs[k]?.getD 0)]
   omega
theorem shTo_zero (b : Nat) (xs : List Nat) (k j : Nat) (h : k ≤ j) : (shTo b xs k)[j]?.getD 0 = 0 := by
 induction k with
 | zero => show (List.replicate 65 0)[j]?.getD 0 = 0; rw [List.getElem?_replicate]; split <;> rfl
 | succ k ih =>
   show ((shTo b xs k).set k _)[j]?.getD 0 = 0
   rw [List.getElem?_set_ne (by omega)]
   exact ih (by omega)
theorem shRow_val {b : Nat} (hb : b ≤ 31) (xs : List Nat) (h : xs.length ≤ 64) : val (shRow b xs) = val xs * 2 ^ b := by
 have h1 := sh_inv hb xs xs.length h
 rw [val_take_all (Nat.le_refl _)] at h1
 have h2 := val_set (shCarry b xs xs.length) (l := shTo b xs xs.length) (j := xs.length) (by rw [shTo_length]; omega)
 rw [shTo_zero _ _ _ _ (Nat.le_refl _), Nat.mul_zero, Nat.add_zero] at h2
 rw [val_take_of_zero (ds := shTo b xs xs.length) (fun j hj => shTo_zero _ _ _ _ hj)] at h1
 unfold shRow
 omega
theorem shRow_digits {b : Nat} (hb : b ≤ 31) {xs : List Nat} (hx : Digits xs) : Digits (shRow b xs) := by
 refine Digits.set ?_ _ (Nat.lt_of_lt_of_le (shCarry_lt hb hx _) ?_)
 ·have : ∀ k, Digits (shTo b xs k) := fun k => by
   induction k with
   | zero => exact digits_replicate _
   | succ k ih => exact ih.set _ (shDigit_lt hb hx k)
  exact this _
 ·exact Nat.pow_le_pow_right (n := 2) (by decide) (by omega : b ≤ 32)
theorem sh_or {b : Nat} (hb : b ≤ 31) (x c : Nat) (hx : x < B32) (hc : c < 2 ^ b) :
  bits .or .u32 ((x : Int) * 2 ^ b % 4294967296) (c : Int) = ((x * 2 ^ b % B32 + c : Nat) : Int) := by
 have e1 : (x : Int) * 2 ^ b % 4294967296 = ((x * 2 ^ b % B32 : Nat) : Int) := by
  unfold B32
  rw [show (2 : Int) ^ b = ((2 ^ b : Nat) : Int) by simp, ← Int.natCast_mul]
  omega
 rw [e1]
 have h3 := Nat.mod_lt (x * 2 ^ b) B32_pos
 have h2 : x * 2 ^ b % B32 % 2 ^ b = 0 := by
  rw [← pow_split hb, Nat.mod_mul_right_mod, Nat.mul_mod_left]
 have hcB : c < B32 := Nat.lt_of_lt_of_le hc (Nat.pow_le_pow_right (n := 2) (by decide) (by omega : b ≤ 32))
 rw [bits_join .u32 32 (by decide) u32_keep b _ _ (by omega) (by exact_mod_cast h2) (by exact_mod_cast h3) (by omega) (by exact_mod_cast hc) (by exact_mod_cast hcB)]
 omega
theorem sh_shr (b : Nat) (x : Nat) : (x : Int) / 2 ^ (32 - b) = ((x / 2 ^ (32 - b) : Nat) : Int) := by
 rw [show (2 : Int) ^ (32 - b) = ((2 ^ (32 - b) : Nat) : Int) by simp]
 exact (Int.natCast_ediv _ _).symm
set_option maxRecDepth 100000 in
set_option maxHeartbeats 2000000 in
theorem shifted_calls (v : Value) (b : Nat) (hb : b ≤ 31) (xs : List Nat) (w : World) (hx : U32s w.heap.size w v xs) (hdx : Digits xs) (h64 : xs.length ≤ 64) :
  Calls Tryz.prog 193 #[v, .int .i64 b] w fun e w' => e = .returned (.agg (arr (shRow b xs))) ∧ Below w.heap.size w w' := by
 obtain ⟨p, cap, rfl, hl, hc⟩ := hx
 have Hc := Lib.hid hc
 obtain ⟨n, hn⟩ : ∃ n, n = xs.length := ⟨_, rfl⟩
 rw [← hn] at h64
 have Hn := Lib.hid hn
 rw [← hn]
 clear hc hl hn
 go_enter Tryz.func193, Tryz.ntmps193
 go_wp2
 go_loopw [6, 11] (fun c i wr => ∃ k : Nat, k ≤ n ∧ i = .int .i64 k ∧ c = .int .u32 (shCarry b xs k : Nat) ∧ RowAt wr w.heap.size 155 Tryz.zeroCells155 ∧ RowAt wr (w.heap.size + 1) 155 (arr (shTo b xs k)) ∧ Below w.heap.size w wr)
  (fun _ i _ => n - (intOf i).toNat)
 case atStart => exact ⟨0, Nat.zero_le _, rfl, rfl, (RowAt.new w _ _).alloc _, by rw [shTo, ← zero_row]; exact RowAt.new' _ _ (by simp), ((Below.refl _ w).alloc (Nat.le_refl _) _).alloc (by simp) _⟩
 case round =>
  obtain ⟨k, hk, rfl, rfl, hr4, hr5, hB⟩ := hrel
  have hsl := shTo_length b xs k
  by_cases hlt : k < n
  ·obtain ⟨bb, off, rfl, hbB, hcs⟩ := Hc.out (by rw [← Hn.out]; exact Nat.lt_of_le_of_lt (Nat.zero_le _) hlt)
   have hcx := (hB.cell (p := ⟨bb, off + k, none⟩) hbB).trans (hcs k (by rw [← Hn.out]; exact hlt))
   have hcr := (hr5.cell k).trans (arr_get _ k (by rw [hsl]; omega))
   have hfr := hr5.frozen k
   have hk65 : (k : Int) < 65 := by omega
   have Ho := Lib.hid (sh_or hb (xs[k]?.getD 0) (shCarry b xs k) (hdx.getD k) (shCarry_lt hb hdx k))
   have Hs := Lib.hid (sh_shr b (xs[k]?.getD 0))
   have Hs1 : Hid (shCarry b xs (k + 1) = xs[k]?.getD 0 / 2 ^ (32 - b)) := rfl
   have Hs2 : Hid (shTo b xs (k + 1) = (shTo b xs k).set k (xs[k]?.getD 0 * 2 ^ b % B32 + shCarry b xs k)) := rfl
   have Hr4 := Lib.hid hr4
   have Hr5 := Lib.hid hr5
   generalize xs[k]?.getD 0 = x at *
   generalize shCarry b xs k = c at *
   generalize shTo b xs k = row at *
   clear hcs hsl hr4 hr5
   go_wp2
   go_roundw
   case rel =>
    rw [Ho.out, Hs.out]
    exact ⟨k + 1, by omega, by rw [Int.natCast_add]; rfl, by rw [Hs1.out], Hr4.out.setOther _ _ (by simp), by rw [Hs2.out, ← arr_set]; exact Hr5.out.set k _, hB.setCell (p := ⟨w.heap.size + 1, k, none⟩) (Nat.le_succ _) _⟩
   case measure => show n - ((k : Int) + 1).toNat < n - ((k : Int)).toNat; omega
  ·obtain rfl : k = n := by omega
   have hcb : shRow b xs = (shTo b xs k).set k (shCarry b xs k) := by unfold shRow; rw [← Hn.out]
   have hcl := shRow_length b xs
   have hc7 := (hr5.cell k).trans (arr_get _ k (by rw [hsl]; omega))
   have hf7 := hr5.frozen k
   have hk65 : (k : Int) < 65 := by omega
   have Hrow := Lib.hid (show RowAt (wr.setCell ⟨w.heap.size + 1, k, none⟩ (.int .u32 (shCarry b xs k : Nat))) (w.heap.size + 1) 155 (arr (shRow b xs)) by rw [hcb, ← arr_set]; exact hr5.set k _)
   have Hr6 := Lib.hid (hr4.setOther ⟨w.heap.size + 1, k, none⟩ (.int .u32 (shCarry b xs k : Nat)) (by simp))
   have Hcl := Lib.hid hcl
   generalize shCarry b xs k = c at *
   generalize shTo b xs k = row at *
   generalize hres : shRow b xs = res at *
   have Hres := Lib.hid hres
   clear hres hsl hcb hcl hr4 hr5
   go_wp2_with (first
    | (refine load_row rfl (.tmp 5) rfl (w.heap.size + 1) rfl res Hcl.out 155 Hrow.out ?_)
    | (refine store_row rfl (.tmp 4) (.tmp 32) rfl w.heap.size rfl res Hcl.out rfl 155 Tryz.zeroCells155 Hr6.out (by kernel_rfl) ?_))
   refine ret_row rfl w.heap.size rfl res Hcl.out 155 (Hr6.out.setRow _) ⟨by rw [Hres.out], below_setRow2 (hB.setCell (p := ⟨w.heap.size + 1, k, none⟩) (Nat.le_succ _) _) (Nat.le_refl _) _⟩
end Go.Proofs.YtgnogdncoljldaaGreat
namespace Go.Proofs.YtgnogdncoljldaaGreat
open Go Go.RowKit Go.Shelf
theorem guess_big {o m1 : Nat} {Y R : List Nat} (hdR : Digits R) (hY : Y.length = m1 + 1) (hdY : Digits Y) (htop : Y[m1]?.getD 0 ≠ 0) (hR : o + Y.length < R.length) (hz : ∀ j, o + Y.length < j → R[j]?.getD 0 = 0)
  (hlt : val (R.drop o) < B32 * val Y) (hvY : 0 < val Y) : val (R.drop o) / val Y ≤ guess0 o Y R m1 := by
 have hq := Nat.div_mul_le_self (val (R.drop o)) (val Y)
 have hqB : val (R.drop o) / val Y < B32 := by rw [Nat.div_lt_iff_lt_mul hvY]; exact hlt
 have hV : Y[m1]?.getD 0 * B32 ^ m1 ≤ val Y := by
  have h1 := val_take_drop Y (s := m1) (by omega)
  have h2 := val_drop (ds := Y) (s := m1) (by omega)
  rw [List.drop_eq_nil_of_le (by omega : Y.length ≤ m1 + 1)] at h2
  rw [h2] at h1
  have e : Y[m1]?.getD 0 * B32 ^ m1 = B32 ^ m1 * Y[m1]?.getD 0 := Nat.mul_comm _ _
  rw [e, h1]
  simp only [val, Nat.mul_zero, Nat.add_zero]
  omega
 have hT : val (R.drop o) < (R[o + m1]?.getD 0 + B32 * R[o + m1 + 1]?.getD 0 + 1) * B32 ^ m1 := by
  have h1 := val_take_drop (R.drop o) (s := m1) (by simp; omega)
  have h2 := val_lt ((hdR.drop o).take m1)
  rw [List.length_take, List.length_drop, show min m1 (R.length - o) = m1 by omega] at h2
  have h3 : val ((R.drop o).drop m1) = R[o + m1]?.getD 0 + B32 * R[o + m1 + 1]?.getD 0 := by
   rw [List.drop_drop, val_drop (ds := R) (s := o + m1) (by omega), val_drop (ds := R) (s := o + m1 + 1) (by omega)]
   have h4 : val (R.drop (o + m1 + 1 + 1)) = 0 := val_zero_of_all fun d hd => by
    obtain ⟨i, hi, rfl⟩ := List.getElem_of_mem hd
    have hi' : o + m1 + 1 + 1 + i < R.length := by simp at hi; omega
    have := hz (o + m1 + 1 + 1 + i) (by omega)
    simpa [hi'] using this
   rw [h4]; simp
  rw [h3] at h1
  rw [Nat.add_mul _ 1, Nat.one_mul, Nat.mul_comm _ (B32 ^ m1)]
  omega
 unfold guess0
 generalize R[o + m1]?.getD 0 + B32 * R[o + m1 + 1]?.getD 0 = top at *
 generalize Y[m1]?.getD 0 = yt at *
 generalize val (R.drop o) / val Y = q at *
 have h1 : q * yt ≤ top := by
  apply Nat.le_of_lt_succ
  apply Nat.lt_of_mul_lt_mul_right (a := B32 ^ m1)
  calc q * yt * B32 ^ m1 = q * (yt * B32 ^ m1) := Nat.mul_assoc _ _ _
   _ ≤ q * val Y := Nat.mul_le_mul_left _ hV
   _ ≤ val (R.drop o) := hq
   _ < (top + 1) * B32 ^ m1 := hT
 have h2 : q ≤ top / yt := by rw [Nat.le_div_iff_mul_le (by omega)]; exact h1
 unfold B32 at hqB
 omega
theorem val_pos_of_top {Y : List Nat} {j : Nat} (hj : j < Y.length) (h : Y[j]?.getD 0 ≠ 0) : 0 < val Y := by
 have h1 := val_take_drop Y (s := j) (by omega)
 have h2 := val_drop (ds := Y) (s := j) hj
 have h3 : 0 < B32 ^ j * val (Y.drop j) := Nat.mul_pos (Nat.pow_pos B32_pos) (by omega)
 omega
theorem takeOut_calls (bx o cx by_ oy cy m1 : Nat) (t : TypeId) (Y R : List Nat) (w : World) (hrow : RowAt w bx t (arr R)) (hdR : Digits R) (hdY : Digits Y) (hY : Y.length = m1 + 1) (hR : R.length = 65) (ho : o + m1 + 1 < 65)
  (hcx : m1 + 2 ≤ cx) (hcx2 : cx ≤ 65) (hby : by_ < w.heap.size) (hne : by_ ≠ bx) (hcy : ∀ j, j < m1 + 1 → w.cell? ⟨by_, oy + j, none⟩ = some (.int .u32 ((Y[j]?.getD 0 : Nat) : Int))) (htop : Y[m1]?.getD 0 ≠ 0)
  (hz : ∀ j, o + Y.length < j → R[j]?.getD 0 = 0) (hlt : val (R.drop o) < B32 * val Y) :
  Calls Tryz.prog 194 #[.slice (some ⟨bx, o, none⟩) (m1 + 1 + 1) cx, .slice (some ⟨by_, oy, none⟩) (m1 + 1) cy] w fun e w' => e = .returned (.int .u32 (val (R.drop o) / val Y : Nat)) ∧
   (∃ Z, RowAt w' bx t (arr Z) ∧ Digits Z ∧ Z.length = 65 ∧ (∀ j, j < o ∨ o + Y.length < j → Z[j]? = R[j]?) ∧ val (Z.drop o) = val (R.drop o) % val Y) ∧ Keeps w.heap.size bx w w' := by
 have hvY := val_pos_of_top (Y := Y) (j := m1) (by omega) htop
 refine (takeOut_walk bx o cx by_ oy cy m1 t Y R w hrow hdR hdY hY hR ho hcx hcx2 hby hne hcy htop hvY hz (guess_big hdR hY hdY htop (by omega) hz hlt hvY)).mono ?_
 rintro e w' ⟨g, Z, rfl, hout, hr, hk⟩
 obtain ⟨h1, h2⟩ := hout.done hvY (by omega) hz
 exact ⟨by rw [h1], ⟨Z, hr, hout.digits, hout.len.trans hR, hout.same, h2⟩, hk⟩
end Go.Proofs.YtgnogdncoljldaaGreat

