/- Texts that belong together. -/
import Derived.StillTailTactics
import Derived.Lib.MinMax
import Derived.Deep.RegionWith
import Derived.BigRegion
import Derived.Deep.DeepMust
import Derived.Deep.RegionHeld3
import Derived.Deep.DeepFit
import Derived.Deep.QuietTactic
import Derived.BigQuiet
import Derived.WalkKit
import Derived.Test.YtmoclgpdcnjacaaChecked
import Derived.Lib.Strings
import Derived.Lib.Slices
import Derived.Lib.Small
import Derived.Lib.Walk
import Derived.Lib.BitFns
import Derived.OrdersIn
import Derived.Lib.EndianBits
import Derived.BigRegionIn
import Derived.RegionIn
import Derived.Stop.RegionWithIn
import Derived.Deep.CutRange
import Derived.Deep.LoopGhost
import Derived.Deep.Light
import Derived.Great.BuildSlice
import Derived.Laws.IdiomStrings
import Derived.Laws.Concat
import Derived.Test.YtmoclgpdcnjacaaP1
set_option linter.all false
namespace Go.Proofs.Ytmoclgpdcnjacaa
open Go Go.RowKit Go.Shelf
theorem u32s_row {B : Nat} {w : World} {g L cap : Nat} {t : TypeId} {xs : List Nat} (hg : RowAt w g t (arr xs)) (hB : g < B) (hL : L ≤ xs.length) (hm : xs.length ≤ maxLen) : U32s B w (.slice (some ⟨g, 0, none⟩) L cap) (xs.take L) := by
  have e : (xs.take L).length = L := by simp; omega
  refine ⟨some ⟨g, 0, none⟩, cap, by rw [e], by rw [e]; omega, fun _ => ⟨g, 0, rfl, hB, fun j hj => ?_⟩⟩
  rw [e] at hj
  rw [Nat.zero_add, hg.cell j, arr_get xs j (by omega), List.getElem?_take_of_lt hj]
set_option maxRecDepth 100000 in
set_option maxHeartbeats 2000000 in
theorem signedSum_same (va vb : Value) (na nb : Bool) (xs ys : List Nat) (w : World) (ha : NumV w.heap.size w va na xs) (hb : NumV w.heap.size w vb nb ys) (hdx : Digits xs) (hdy : Digits ys) (hx : xs.length ≤ 64) (hy : ys.length ≤ 64) :
    Calls Try.prog 70 #[va, vb, .bool na] w (NumPost w (resNeg na (strip ((sumRow xs ys).take (max xs.length ys.length + 1)))) (resDs (strip ((sumRow xs ys).take (max xs.length ys.length + 1)))) (resOk (strip ((sumRow xs ys).take (max xs.length ys.length + 1))))) := by
  obtain ⟨sa, rfl, hua⟩ := ha
  obtain ⟨sb, rfl, hub⟩ := hb
  obtain ⟨p, cap, rfl, hl, hc⟩ := id hua
  obtain ⟨q, cap2, rfl, hl2, hc2⟩ := id hub
  clear hc hc2
  obtain ⟨W3, hW3⟩ : ∃ W3, W3 = ((w.alloc (.cells #[.bool na, .slice p xs.length cap] 69)).alloc (.cells #[.bool nb, .slice q ys.length cap2] 69)).alloc (.cells #[.bool false, .slice none 0 0] 69) := ⟨_, rfl⟩
  have hB3 : Below w.heap.size w W3 := by rw [hW3]; exact (((Below.refl _ w).alloc (Nat.le_refl _) _).alloc (by simp) _).alloc (by simp; omega) _
  have hz3 : W3.heap.size = w.heap.size + 3 := by rw [hW3]; simp
  have hsum := sum_calls _ _ xs ys W3 ((hua.below hB3).mono (by omega)) ((hub.below hB3).mono (by omega)) hdx hdy hx hy
  have hsl := sumRow_length xs ys
  generalize sumRow xs ys = row at *
  obtain ⟨M, hM⟩ : ∃ M, M = max xs.length ys.length := ⟨_, rfl⟩
  have hmaxI : max (xs.length : Int) (ys.length : Int) = (M : Int) := by rw [hM]; omega
  have hM64 : M ≤ 64 := by omega
  rw [← hM]
  clear hM
  have Hsum := Lib.hid hsum
  have Hsl := Lib.hid hsl
  have HB3 := Lib.hid hB3
  have Hz3 := Lib.hid hz3
  have Hra : Hid (RowAt W3 w.heap.size 69 (numCells na p xs.length cap)) := by rw [hW3]; exact ((RowAt.new w _ _).alloc _).alloc _
  have Hrb : Hid (RowAt W3 (w.heap.size + 1) 69 (numCells nb q ys.length cap2)) := by rw [hW3]; exact (RowAt.new' _ _ (by simp)).alloc _
  have Hrr : Hid (RowAt W3 (w.heap.size + 1 + 1) 69 (numCells false none 0 0)) := by rw [hW3]; exact RowAt.new' _ _ (by simp)
  have HW3 := Lib.hid hW3
  clear hsum hsl hB3 hz3 hua hub hdx hdy hW3
  go_enter Try.func70, Try.ntmps70
  go_wp2_with fail
  rw [← HW3.out]
  refine Hsum.out.mono ?_
  rintro e w1 ⟨rfl, hb1⟩
  have hz1 := hb1.size
  rw [Hz3.out] at hz1
  obtain ⟨W4, hW4⟩ : ∃ W4, W4 = (w1.alloc (.cells Try.zeroCells114 114)).setRow w1.heap.size (arr row) := ⟨_, rfl⟩
  have Hz4 : Hid (W4.heap.size = w1.heap.size + 1) := by show W4.heap.size = _; rw [hW4]; simp
  have HB4 : Hid (Below w.heap.size w W4) := by rw [hW4]; exact below_setRow2 ((HB3.out.trans (hb1.mono (by rw [Hz3.out]; omega))).alloc (by omega) _) (by omega) _
  have Hr4 : Hid (RowAt W4 w1.heap.size 114 (arr row)) := by rw [hW4]; exact (RowAt.new w1 _ _).setRow _
  have hra4 : RowAt W4 w.heap.size 69 (numCells na p xs.length cap) := by rw [hW4]; exact ((Hra.out.below hb1 (by rw [Hz3.out]; omega)).alloc _).setRowOther _ (by omega)
  have hrb4 : RowAt W4 (w.heap.size + 1) 69 (numCells nb q ys.length cap2) := by rw [hW4]; exact ((Hrb.out.below hb1 (by rw [Hz3.out]; omega)).alloc _).setRowOther _ (by omega)
  have Hrr4 : Hid (RowAt W4 (w.heap.size + 1 + 1) 69 (numCells false none 0 0)) := by rw [hW4]; exact ((Hrr.out.below hb1 (by rw [Hz3.out]; omega)).alloc _).setRowOther _ (by omega)
  have hca0 := hra4.cell 0
  have hca1 := hra4.cell 1
  have hcb1 := hrb4.cell 1
  simp only [numCells] at hca0 hca1 hcb1
  have Hnew := Lib.hid (RowAt.new w1 114 Try.zeroCells114)
  have HW4 := Lib.hid hW4
  have hnum := number_calls na _ _ W4.drew (u32s_row (B := W4.drew.heap.size) (w := W4.drew) (cap := 65) (L := M + 1) Hr4.out (by show _ < W4.heap.size; rw [Hz4.out]; omega) (by rw [Hsl.out]; omega) (by rw [Hsl.out]; decide))
  have Hnum := Lib.hid hnum
  clear hW4 hra4 hrb4 hnum
  go_wp2_with (refine store_row rfl (.tmp 8) (.tmp 19) rfl w1.heap.size rfl row Hsl.out rfl 114 Try.zeroCells114 Hnew.out (by kernel_rfl) ?_; rw [← HW4.out])
  have hw1 : IntKind.i64.wrap ((M : Int) + 1) = (M : Int) + 1 := by rw [IntKind.wrap_i64]; omega
  have hw2 : (0 : Int) ≤ (M : Int) + 1 := by omega
  have hw3 : (M : Int) + 1 ≤ 65 := by omega
  have hw4 : ((M : Int) + 1).toNat = M + 1 := by omega
  go_region_held3 (fun W => W.cell? ⟨w.heap.size, 0, none⟩ = some (.bool na) ∧ W.cell? ⟨w.heap.size, 1, none⟩ = some (.slice p xs.length cap) ∧ W.cell? ⟨w.heap.size + 1, 1, none⟩ = some (.slice q ys.length cap2)) (first | exact ⟨by assumption, by assumption, by assumption⟩ | exact ⟨cell_set2 _ _ _ _ _ _ _ _ (by assumption) (by show w.heap.size ≠ _; omega), cell_set2 _ _ _ _ _ _ _ _ (by assumption) (by show w.heap.size ≠ _; omega), cell_set2 _ _ _ _ _ _ _ _ (by assumption) (by show w.heap.size + 1 ≠ _; omega)⟩)
    (first | (go_at_call 74; refine Hnum.out.mono ?_; rintro e w5 ⟨s5, rfl, hu5, hb5⟩; have hU5 := hu5; obtain ⟨p5, c5, rfl, -, -⟩ := hU5; have hr5 := (RowAt.drew Hrr4.out).below hb5 (by show _ < W4.heap.size; rw [Hz4.out]; omega); have hr50 := hr5.cell 0; have hr51 := hr5.cell 1; have hf50 := hr5.frozen 0; have hf51 := hr5.frozen 1; simp only [numCells] at hr50 hr51; have HR5 := Lib.hid hr5; have HU5 := Lib.hid hu5; have HB5 := Lib.hid hb5; have hk1 : w5.cell? ⟨w.heap.size, 0, none⟩ = some (.bool na) := (hb5.cell (p := ⟨w.heap.size, 0, none⟩) (by show _ < W4.heap.size; rw [Hz4.out]; show w.heap.size < _; omega)).trans hca0; have hk2 : w5.cell? ⟨w.heap.size, 1, none⟩ = some (.slice p xs.length cap) := (hb5.cell (p := ⟨w.heap.size, 1, none⟩) (by show _ < W4.heap.size; rw [Hz4.out]; show w.heap.size < _; omega)).trans hca1; have hk3 : w5.cell? ⟨w.heap.size + 1, 1, none⟩ = some (.slice q ys.length cap2) := (hb5.cell (p := ⟨w.heap.size + 1, 1, none⟩) (by show _ < W4.heap.size; rw [Hz4.out]; show w.heap.size + 1 < _; omega)).trans hcb1; clear hr5 hu5 hb5))
  go_wp2
  have hfin := finNum (g := w.heap.size + 1 + 1) (Below.drew HB4.out) (by omega) (by show _ < W4.heap.size; rw [Hz4.out]; omega) HU5.out HB5.out (turned_set2 w5 _ (.bool (resNeg na (strip (List.take (M + 1) row)))) (.slice p5 (resDs (strip (List.take (M + 1) row))).length c5))
  exact ret_num rfl (w.heap.size + 1 + 1) rfl _ rfl _ _ _ _ _ (numCells_set HR5.out rfl _ _ _ _) ⟨_, rfl, hfin.1, hfin.2⟩
end Go.Proofs.Ytmoclgpdcnjacaa
namespace Go.Proofs.Ytmoclgpdcnjacaa
open Go Go.RowKit Go.Shelf
set_option maxRecDepth 100000 in
set_option maxHeartbeats 2000000 in
theorem signedSum_less (va vb : Value) (na nb neg : Bool) (hneg : na ≠ neg) (xs ys : List Nat) (w : World) (ha : NumV w.heap.size w va na xs) (hb : NumV w.heap.size w vb nb ys) (hdx : Digits xs) (hdy : Digits ys) (hx : xs.length ≤ 64) (hy : ys.length ≤ 64) (hcmp : cmpL xs ys < 0) :
    Calls Try.prog 70 #[va, vb, .bool neg] w (NumPost w (resNeg neg (strip ((combRow subLo subHi ys xs).take ys.length))) (resDs (strip ((combRow subLo subHi ys xs).take ys.length))) (resOk (strip ((combRow subLo subHi ys xs).take ys.length)))) := by
  obtain ⟨sa, rfl, hua⟩ := ha
  obtain ⟨sb, rfl, hub⟩ := hb
  obtain ⟨p, cap, rfl, hl, hc⟩ := id hua
  obtain ⟨q, cap2, rfl, hl2, hc2⟩ := id hub
  clear hc hc2
  have hnn : (na == neg) = false := by simp [hneg]
  obtain ⟨W3, hW3⟩ : ∃ W3, W3 = ((w.alloc (.cells #[.bool na, .slice p xs.length cap] 69)).alloc (.cells #[.bool nb, .slice q ys.length cap2] 69)).alloc (.cells #[.bool false, .slice none 0 0] 69) := ⟨_, rfl⟩
  have hB3 : Below w.heap.size w W3 := by rw [hW3]; exact (((Below.refl _ w).alloc (Nat.le_refl _) _).alloc (by simp) _).alloc (by simp; omega) _
  have hz3 : W3.heap.size = w.heap.size + 3 := by rw [hW3]; simp
  have hua3 : U32s W3.heap.size W3 (.slice p xs.length cap) xs := (hua.below hB3).mono (by omega)
  have hub3 : U32s W3.heap.size W3 (.slice q ys.length cap2) ys := (hub.below hB3).mono (by omega)
  have Hord := Lib.hid (order_calls _ _ xs ys W3 hua3 hub3 hdx hdy)
  have Hdif : Hid (∀ w1, Below W3.heap.size W3 w1 → Calls Try.prog 82 #[.slice q ys.length cap2, .slice p xs.length cap] w1 fun e w' => e = .returned (.agg (arr (combRow subLo subHi ys xs))) ∧ Below w1.heap.size w1 w') := fun w1 hb => difference_calls _ _ ys xs w1 ((hub3.below hb).mono hb.size) ((hua3.below hb).mono hb.size) hdy hdx hy
  have hsl := combRow_length subLo subHi ys xs
  generalize combRow subLo subHi ys xs = row at *
  obtain ⟨M, hM⟩ : ∃ M, M = ys.length := ⟨_, rfl⟩
  have hM64 : M ≤ 64 := by omega
  have hMl : (ys.length : Int) = (M : Int) := by omega
  have Hsl := Lib.hid hsl
  have HB3 := Lib.hid hB3
  have Hz3 := Lib.hid hz3
  have Hra : Hid (RowAt W3 w.heap.size 69 (numCells na p xs.length cap)) := by rw [hW3]; exact ((RowAt.new w _ _).alloc _).alloc _
  have Hrb : Hid (RowAt W3 (w.heap.size + 1) 69 (numCells nb q ys.length cap2)) := by rw [hW3]; exact (RowAt.new' _ _ (by simp)).alloc _
  have Hrr : Hid (RowAt W3 (w.heap.size + 1 + 1) 69 (numCells false none 0 0)) := by rw [hW3]; exact RowAt.new' _ _ (by simp)
  have HW3 := Lib.hid hW3
  have HM := Lib.hid hM
  clear hsl hB3 hz3 hua hub hdx hdy hW3 hneg hua3 hub3 hM hMl
  go_enter Try.func70, Try.ntmps70
  go_wp2_with fail
  rw [← HW3.out]
  refine Hord.out.mono ?_
  rintro e w1 ⟨rfl, hb1⟩
  have hra1 := Hra.out.below hb1 (by rw [Hz3.out]; omega)
  have hrb1 := Hrb.out.below hb1 (by rw [Hz3.out]; omega)
  have hca1 := hra1.cell 1
  have hcb1 := hrb1.cell 1
  simp only [numCells] at hca1 hcb1
  have Hra1 := Lib.hid hra1
  have Hrb1 := Lib.hid hrb1
  have Hb1 := Lib.hid hb1
  clear hra1 hrb1 hb1
  go_wp2_with fail
  refine (Hdif.out w1 Hb1.out).mono ?_
  rintro e w2 ⟨rfl, hb2⟩
  have hb12 : Below W3.heap.size W3 w2 := Hb1.out.trans (hb2.mono Hb1.out.size)
  have hz2 := hb12.size
  rw [Hz3.out] at hz2
  obtain ⟨W4, hW4⟩ : ∃ W4, W4 = (w2.alloc (.cells Try.zeroCells114 114)).setRow w2.heap.size (arr row) := ⟨_, rfl⟩
  have Hz4 : Hid (W4.heap.size = w2.heap.size + 1) := by show W4.heap.size = _; rw [hW4]; simp
  have HB4 : Hid (Below w.heap.size w W4) := by rw [hW4]; exact below_setRow2 ((HB3.out.trans (hb12.mono (by rw [Hz3.out]; omega))).alloc (by omega) _) (by omega) _
  have Hr4 : Hid (RowAt W4 w2.heap.size 114 (arr row)) := by rw [hW4]; exact (RowAt.new w2 _ _).setRow _
  have hra4 : RowAt W4 w.heap.size 69 (numCells na p xs.length cap) := by rw [hW4]; exact ((Hra.out.below hb12 (by rw [Hz3.out]; omega)).alloc _).setRowOther _ (by omega)
  have hrb4 : RowAt W4 (w.heap.size + 1) 69 (numCells nb q ys.length cap2) := by rw [hW4]; exact ((Hrb.out.below hb12 (by rw [Hz3.out]; omega)).alloc _).setRowOther _ (by omega)
  have Hrr4 : Hid (RowAt W4 (w.heap.size + 1 + 1) 69 (numCells false none 0 0)) := by rw [hW4]; exact ((Hrr.out.below hb12 (by rw [Hz3.out]; omega)).alloc _).setRowOther _ (by omega)
  have hca40 := hra4.cell 0
  have hca41 := hra4.cell 1
  have hcb41 := hrb4.cell 1
  simp only [numCells] at hca40 hca41 hcb41
  have Hnew := Lib.hid (RowAt.new w2 114 Try.zeroCells114)
  have HW4 := Lib.hid hW4
  have Hnum := Lib.hid (number_calls neg _ _ W4 (u32s_row (B := W4.heap.size) (w := W4) (cap := 65) (L := ys.length) Hr4.out (by show _ < W4.heap.size; rw [Hz4.out]; omega) (by rw [Hsl.out, ← HM.out]; omega) (by rw [Hsl.out]; decide)))
  have hw5 : (ys.length : Int) ≤ 65 := by rw [← HM.out]; omega
  clear hW4 hra4 hrb4 hb12 hb2
  go_wp2_with (refine store_row rfl (.tmp 9) (.tmp 44) rfl w2.heap.size rfl row Hsl.out rfl 114 Try.zeroCells114 Hnew.out (by kernel_rfl) ?_; rw [← HW4.out])
  refine Hnum.out.mono ?_
  rintro e w5 ⟨s5, rfl, hu5, hb5⟩
  have hU5 := hu5
  obtain ⟨p5, c5, rfl, -, -⟩ := hU5
  have HR5 := Lib.hid (Hrr4.out.below hb5 (by rw [Hz4.out]; omega))
  have hfin := finNum (g := w.heap.size + 1 + 1) HB4.out (by omega) (by rw [Hz4.out]; omega) hu5 hb5 (turned_setRow w5 _ (numCells (resNeg neg (strip (List.take ys.length row))) p5 (resDs (strip (List.take ys.length row))).length c5))
  have Hfin := Lib.hid hfin
  clear hu5 hb5 hfin
  go_wp2_with (refine store_num rfl (.tmp 6) (.tmp 51) rfl (w.heap.size + 1 + 1) rfl _ _ _ _ rfl _ _ HR5.out rfl ?_)
  exact ret_num rfl (w.heap.size + 1 + 1) rfl _ rfl _ _ _ _ _ (HR5.out.setRow _) ⟨_, rfl, Hfin.out.1, Hfin.out.2⟩
set_option maxRecDepth 100000 in
set_option maxHeartbeats 2000000 in
theorem signedSum_more (va vb : Value) (na nb neg : Bool) (hneg : na ≠ neg) (xs ys : List Nat) (w : World) (ha : NumV w.heap.size w va na xs) (hb : NumV w.heap.size w vb nb ys) (hdx : Digits xs) (hdy : Digits ys) (hx : xs.length ≤ 64) (hy : ys.length ≤ 64) (hcmp : ¬ cmpL xs ys < 0) :
    Calls Try.prog 70 #[va, vb, .bool neg] w (NumPost w (resNeg na (strip ((combRow subLo subHi xs ys).take xs.length))) (resDs (strip ((combRow subLo subHi xs ys).take xs.length))) (resOk (strip ((combRow subLo subHi xs ys).take xs.length)))) := by
  obtain ⟨sa, rfl, hua⟩ := ha
  obtain ⟨sb, rfl, hub⟩ := hb
  obtain ⟨p, cap, rfl, hl, hc⟩ := id hua
  obtain ⟨q, cap2, rfl, hl2, hc2⟩ := id hub
  clear hc hc2
  have hnn : (na == neg) = false := by simp [hneg]
  obtain ⟨W3, hW3⟩ : ∃ W3, W3 = ((w.alloc (.cells #[.bool na, .slice p xs.length cap] 69)).alloc (.cells #[.bool nb, .slice q ys.length cap2] 69)).alloc (.cells #[.bool false, .slice none 0 0] 69) := ⟨_, rfl⟩
  have hB3 : Below w.heap.size w W3 := by rw [hW3]; exact (((Below.refl _ w).alloc (Nat.le_refl _) _).alloc (by simp) _).alloc (by simp; omega) _
  have hz3 : W3.heap.size = w.heap.size + 3 := by rw [hW3]; simp
  have hua3 : U32s W3.heap.size W3 (.slice p xs.length cap) xs := (hua.below hB3).mono (by omega)
  have hub3 : U32s W3.heap.size W3 (.slice q ys.length cap2) ys := (hub.below hB3).mono (by omega)
  have Hord := Lib.hid (order_calls _ _ xs ys W3 hua3 hub3 hdx hdy)
  have Hdif : Hid (∀ w1, Below W3.heap.size W3 w1 → Calls Try.prog 82 #[.slice p xs.length cap, .slice q ys.length cap2] w1 fun e w' => e = .returned (.agg (arr (combRow subLo subHi xs ys))) ∧ Below w1.heap.size w1 w') := fun w1 hb => difference_calls _ _ xs ys w1 ((hua3.below hb).mono hb.size) ((hub3.below hb).mono hb.size) hdx hdy hx
  have hsl := combRow_length subLo subHi xs ys
  generalize combRow subLo subHi xs ys = row at *
  obtain ⟨M, hM⟩ : ∃ M, M = xs.length := ⟨_, rfl⟩
  have hM64 : M ≤ 64 := by omega
  have hMl : (xs.length : Int) = (M : Int) := by omega
  have Hsl := Lib.hid hsl
  have HB3 := Lib.hid hB3
  have Hz3 := Lib.hid hz3
  have Hra : Hid (RowAt W3 w.heap.size 69 (numCells na p xs.length cap)) := by rw [hW3]; exact ((RowAt.new w _ _).alloc _).alloc _
  have Hrb : Hid (RowAt W3 (w.heap.size + 1) 69 (numCells nb q ys.length cap2)) := by rw [hW3]; exact (RowAt.new' _ _ (by simp)).alloc _
  have Hrr : Hid (RowAt W3 (w.heap.size + 1 + 1) 69 (numCells false none 0 0)) := by rw [hW3]; exact RowAt.new' _ _ (by simp)
  have HW3 := Lib.hid hW3
  have HM := Lib.hid hM
  clear hsl hB3 hz3 hua hub hdx hdy hW3 hneg hua3 hub3 hM hMl
  go_enter Try.func70, Try.ntmps70
  go_wp2_with fail
  rw [← HW3.out]
  refine Hord.out.mono ?_
  rintro e w1 ⟨rfl, hb1⟩
  have hra1 := Hra.out.below hb1 (by rw [Hz3.out]; omega)
  have hrb1 := Hrb.out.below hb1 (by rw [Hz3.out]; omega)
  have hca1 := hra1.cell 1
  have hcb1 := hrb1.cell 1
  simp only [numCells] at hca1 hcb1
  have Hra1 := Lib.hid hra1
  have Hrb1 := Lib.hid hrb1
  have Hb1 := Lib.hid hb1
  clear hra1 hrb1 hb1
  go_wp2_with fail
  refine (Hdif.out w1 Hb1.out).mono ?_
  rintro e w2 ⟨rfl, hb2⟩
  have hb12 : Below W3.heap.size W3 w2 := Hb1.out.trans (hb2.mono Hb1.out.size)
  have hz2 := hb12.size
  rw [Hz3.out] at hz2
  obtain ⟨W4, hW4⟩ : ∃ W4, W4 = (w2.alloc (.cells Try.zeroCells114 114)).setRow w2.heap.size (arr row) := ⟨_, rfl⟩
  have Hz4 : Hid (W4.heap.size = w2.heap.size + 1) := by show W4.heap.size = _; rw [hW4]; simp
  have HB4 : Hid (Below w.heap.size w W4) := by rw [hW4]; exact below_setRow2 ((HB3.out.trans (hb12.mono (by rw [Hz3.out]; omega))).alloc (by omega) _) (by omega) _
  have Hr4 : Hid (RowAt W4 w2.heap.size 114 (arr row)) := by rw [hW4]; exact (RowAt.new w2 _ _).setRow _
  have hra4 : RowAt W4 w.heap.size 69 (numCells na p xs.length cap) := by rw [hW4]; exact ((Hra.out.below hb12 (by rw [Hz3.out]; omega)).alloc _).setRowOther _ (by omega)
  have hrb4 : RowAt W4 (w.heap.size + 1) 69 (numCells nb q ys.length cap2) := by rw [hW4]; exact ((Hrb.out.below hb12 (by rw [Hz3.out]; omega)).alloc _).setRowOther _ (by omega)
  have Hrr4 : Hid (RowAt W4 (w.heap.size + 1 + 1) 69 (numCells false none 0 0)) := by rw [hW4]; exact ((Hrr.out.below hb12 (by rw [Hz3.out]; omega)).alloc _).setRowOther _ (by omega)
  have hca40 := hra4.cell 0
  have hca41 := hra4.cell 1
  have hcb41 := hrb4.cell 1
  simp only [numCells] at hca40 hca41 hcb41
  have Hnew := Lib.hid (RowAt.new w2 114 Try.zeroCells114)
  have HW4 := Lib.hid hW4
  have Hnum := Lib.hid (number_calls na _ _ W4.drew (u32s_row (B := W4.drew.heap.size) (w := W4.drew) (cap := 65) (L := xs.length) Hr4.out (by show _ < W4.heap.size; rw [Hz4.out]; omega) (by rw [Hsl.out, ← HM.out]; omega) (by rw [Hsl.out]; decide)))
  have hw5 : (xs.length : Int) ≤ 65 := by rw [← HM.out]; omega
  clear hW4 hra4 hrb4 hb12 hb2
  go_wp2_with (refine store_row rfl (.tmp 10) (.tmp 57) rfl w2.heap.size rfl row Hsl.out rfl 114 Try.zeroCells114 Hnew.out (by kernel_rfl) ?_; rw [← HW4.out])
  go_region_held3 (fun W => W.cell? ⟨w.heap.size, 0, none⟩ = some (.bool na) ∧ W.cell? ⟨w.heap.size, 1, none⟩ = some (.slice p xs.length cap)) (first | exact ⟨by assumption, by assumption⟩ | exact ⟨cell_set2 _ _ _ _ _ _ _ _ (by assumption) (by show w.heap.size ≠ _; omega), cell_set2 _ _ _ _ _ _ _ _ (by assumption) (by show w.heap.size ≠ _; omega)⟩)
    (first | (go_at_call 74; refine Hnum.out.mono ?_; rintro e w5 ⟨s5, rfl, hu5, hb5⟩; have hU5 := hu5; obtain ⟨p5, c5, rfl, -, -⟩ := hU5; have hr5 := (RowAt.drew Hrr4.out).below hb5 (by show _ < W4.heap.size; rw [Hz4.out]; omega); have hr50 := hr5.cell 0; have hr51 := hr5.cell 1; have hf50 := hr5.frozen 0; have hf51 := hr5.frozen 1; simp only [numCells] at hr50 hr51; have HR5 := Lib.hid hr5; have HU5 := Lib.hid hu5; have HB5 := Lib.hid hb5; have hk1 : w5.cell? ⟨w.heap.size, 0, none⟩ = some (.bool na) := (hb5.cell (p := ⟨w.heap.size, 0, none⟩) (by show _ < W4.heap.size; rw [Hz4.out]; show w.heap.size < _; omega)).trans hca40; have hk2 : w5.cell? ⟨w.heap.size, 1, none⟩ = some (.slice p xs.length cap) := (hb5.cell (p := ⟨w.heap.size, 1, none⟩) (by show _ < W4.heap.size; rw [Hz4.out]; show w.heap.size < _; omega)).trans hca41; clear hr5 hu5 hb5))
  go_wp2
  have hfin := finNum (g := w.heap.size + 1 + 1) (Below.drew HB4.out) (by omega) (by show _ < W4.heap.size; rw [Hz4.out]; omega) HU5.out HB5.out (turned_set2 w5 _ (.bool (resNeg na (strip (List.take xs.length row)))) (.slice p5 (resDs (strip (List.take xs.length row))).length c5))
  exact ret_num rfl (w.heap.size + 1 + 1) rfl _ rfl _ _ _ _ _ (numCells_set HR5.out rfl _ _ _ _) ⟨_, rfl, hfin.1, hfin.2⟩
end Go.Proofs.Ytmoclgpdcnjacaa
namespace Go.Proofs.Ytmoclgpdcnjacaa
open Go Go.RowKit Go.Shelf
def ZNum (B : Nat) (w : World) (v : Value) (z : Int) : Prop := NumV B w v (decide (z < 0)) (digs z.natAbs) ∧ z.natAbs < B32 ^ 64
theorem ZNum.below {B : Nat} {w w' : World} {v : Value} {z : Int} (h : ZNum B w v z) (hb : Below B w w') : ZNum B w' v z := ⟨h.1.below hb, h.2⟩
theorem ZNum.mono {B B' : Nat} {w : World} {v : Value} {z : Int} (h : ZNum B w v z) (hb : B ≤ B') : ZNum B' w v z := ⟨h.1.mono hb, h.2⟩
def ZPost (w : World) (z : Int) (e : Ending) (w' : World) : Prop := NumPost w (zneg z) (zdigs z) (zok z) e w'
theorem digs_len64 {n : Nat} (h : n < B32 ^ 64) : (digs n).length ≤ 64 := digs_len.2 h
theorem right_z {n : Nat} (neg : Bool) (h : n < B32 ^ 64) (hn : n = 0 → neg = false) : rightB neg (digs n) = true := by
  unfold rightB
  by_cases h0 : n = 0
  · subst h0; simp [digs_zero, hn rfl]
  · have hne : digs n ≠ [] := by rw [Ne, digs_nil_iff]; exact h0
    have hl : 0 < (digs n).length := List.length_pos_iff.2 hne
    rw [if_neg (by omega)]
    have := (noZero_last hl).1 (norm_digs n).2
    simp [digs_len64 h, this]
theorem signedSum_z (va vb : Value) (za zb : Int) (neg : Bool) (zz : Int) (w : World) (ha : ZNum w.heap.size w va za) (hb : ZNum w.heap.size w vb zb)
    (hz : zz.natAbs = zb.natAbs) (hs : zb ≠ 0 → neg = decide (zz < 0)) :
    Calls Try.prog 70 #[va, vb, .bool neg] w (ZPost w (za + zz)) := by
  obtain ⟨ha1, ha2⟩ := ha
  obtain ⟨hb1, hb2⟩ := hb
  have hx := digs_len64 ha2
  have hy := digs_len64 hb2
  by_cases hn : decide (za < 0) = neg
  · have hc := signedSum_same va vb (decide (za < 0)) _ _ _ w ha1 hb1 (digs_digits _) (digs_digits _) hx hy
    rw [strip_digs ((sum_digits (digs_digits _) (digs_digits _)).take _), sum_val _ _ hx hy, val_digs, val_digs] at hc
    subst hn
    have hr := res_of (decide (za < 0)) (za.natAbs + zb.natAbs) (za + zz) (by
        by_cases h0 : zb = 0
        · subst h0; omega
        · have := hs h0
          by_cases h1 : za < 0 <;> simp [h1] at this <;> omega) (fun h => by
        by_cases h0 : zb = 0
        · subst h0; have : zz = 0 := by omega
          subst this; simp
        · have := hs h0
          by_cases h1 : za < 0 <;> simp [h1] at this ⊢ <;> omega)
    rw [hr.1, hr.2.1, hr.2.2] at hc
    exact hc
  · have hcm : cmpL (digs za.natAbs) (digs zb.natAbs) = sgn za.natAbs zb.natAbs := by rw [cmpL_norm (norm_digs _) (norm_digs _), val_digs, val_digs]
    by_cases hlt : za.natAbs < zb.natAbs
    · have hc := signedSum_less va vb _ _ neg hn _ _ w ha1 hb1 (digs_digits _) (digs_digits _) hx hy (by rw [hcm, sgn_neg_iff]; exact hlt)
      rw [strip_digs ((dif_digits _ _).take _), dif_val (digs_digits _) (digs_digits _) (len_le_of_val (norm_digs _) (norm_digs _) (by rw [val_digs, val_digs]; omega)) hy (by rw [val_digs, val_digs]; omega), val_digs, val_digs] at hc
      have h0 : zb ≠ 0 := by omega
      have hsn := hs h0
      subst hsn
      have hr := res_of (decide (zz < 0)) (zb.natAbs - za.natAbs) (za + zz) (by
        by_cases h1 : za < 0 <;> by_cases h2 : zz < 0 <;> simp [h1, h2] at hn <;> omega) (fun h => by
        by_cases h1 : za < 0 <;> by_cases h2 : zz < 0 <;> simp [h1, h2] at hn ⊢ <;> omega)
      rw [hr.1, hr.2.1, hr.2.2] at hc
      exact hc
    · have hc := signedSum_more va vb _ _ neg hn _ _ w ha1 hb1 (digs_digits _) (digs_digits _) hx hy (by rw [hcm, sgn_neg_iff]; exact hlt)
      rw [strip_digs ((dif_digits _ _).take _), dif_val (digs_digits _) (digs_digits _) (len_le_of_val (norm_digs _) (norm_digs _) (by rw [val_digs, val_digs]; omega)) hx (by rw [val_digs, val_digs]; omega), val_digs, val_digs] at hc
      have hr := res_of (decide (za < 0)) (za.natAbs - zb.natAbs) (za + zz) (by
        by_cases h0 : zb = 0
        · subst h0; omega
        · have hsn := hs h0
          subst hsn
          by_cases h1 : za < 0 <;> by_cases h2 : zz < 0 <;> simp [h1, h2] at hn <;> omega) (fun h => by
        by_cases h0 : zb = 0
        · subst h0; have : zz = 0 := by omega
          subst this; simp
        · have hsn := hs h0
          subst hsn
          by_cases h1 : za < 0 <;> by_cases h2 : zz < 0 <;> simp [h1, h2] at hn ⊢ <;> omega)
      rw [hr.1, hr.2.1, hr.2.2] at hc
      exact hc
theorem right_calls_z (v : Value) (z : Int) (w : World) (h : ZNum w.heap.size w v z) :
    Calls Try.prog 69 #[v] w fun e w' => e = .returned (.bool true) ∧ Below w.heap.size w w' := by
  obtain ⟨⟨s, rfl, hu⟩, hz⟩ := h
  have := right_calls (decide (z < 0)) s _ w hu
  rwa [right_z _ hz (fun h0 => by simp; omega)] at this
end Go.Proofs.Ytmoclgpdcnjacaa
namespace Go.Proofs.Ytmoclgpdcnjacaa
open Go Go.RowKit Go.Shelf
theorem ZNum.parts {B : Nat} {w : World} {v : Value} {z : Int} (h : ZNum B w v z) : ∃ p c, v = .agg #[.bool (decide (z < 0)), .slice p (digs z.natAbs).length c] := by
  obtain ⟨⟨s, rfl, p, c, rfl, -, -⟩, -⟩ := h
  exact ⟨p, c, rfl⟩
set_option maxRecDepth 100000 in
set_option maxHeartbeats 2000000 in
theorem sub_calls (va vb : Value) (za zb : Int) (w : World) (ha : ZNum w.heap.size w va za) (hb : ZNum w.heap.size w vb zb) :
    Calls Try.prog 54 #[va, vb] w (ZPost w (za + -zb)) := by
  obtain ⟨p, c, rfl⟩ := ha.parts
  obtain ⟨q, c2, rfl⟩ := hb.parts
  generalize hna : decide (za < 0) = na at *
  generalize hnb : decide (zb < 0) = nb at *
  generalize hn : (digs za.natAbs).length = n at *
  generalize hm : (digs zb.natAbs).length = m at *
  obtain ⟨W3, hW3⟩ : ∃ W3, W3 = ((w.alloc (.cells #[.bool na, .slice p n c] 69)).alloc (.cells #[.bool nb, .slice q m c2] 69)).alloc (.cells #[.bool false, .slice none 0 0] 69) := ⟨_, rfl⟩
  have HB3 : Hid (Below w.heap.size w W3) := by rw [hW3]; exact (((Below.refl _ w).alloc (Nat.le_refl _) _).alloc (by simp) _).alloc (by simp; omega) _
  have Hz3 : Hid (W3.heap.size = w.heap.size + 3) := by show W3.heap.size = _; rw [hW3]; simp
  have Hra : Hid (RowAt W3 w.heap.size 69 (numCells na p n c)) := by rw [hW3]; exact ((RowAt.new w _ _).alloc _).alloc _
  have Hrb : Hid (RowAt W3 (w.heap.size + 1) 69 (numCells nb q m c2)) := by rw [hW3]; exact (RowAt.new' _ _ (by simp)).alloc _
  have Hrr : Hid (RowAt W3 (w.heap.size + 1 + 1) 69 (numCells false none 0 0)) := by rw [hW3]; exact RowAt.new' _ _ (by simp)
  have HA := Lib.hid ((ha.below HB3.out).mono (by rw [Hz3.out]; omega : w.heap.size ≤ W3.heap.size))
  have HBn := Lib.hid ((hb.below HB3.out).mono (by rw [Hz3.out]; omega : w.heap.size ≤ W3.heap.size))
  have HW3 := Lib.hid hW3
  have Hnb := Lib.hid hnb
  clear hW3 ha hb hna hnb hn hm
  go_enter Try.func54, Try.ntmps54
  go_wp2_with fail
  rw [← HW3.out]
  refine (right_calls_z _ za W3 HA.out).mono ?_
  rintro e w1 ⟨rfl, hb1⟩
  have Hra1 := Lib.hid (Hra.out.below hb1 (by rw [Hz3.out]; omega))
  have Hrb1 := Lib.hid (Hrb.out.below hb1 (by rw [Hz3.out]; omega))
  have Hrr1 := Lib.hid (Hrr.out.below hb1 (by rw [Hz3.out]; omega))
  have HA1 := Lib.hid ((HA.out.below hb1).mono hb1.size)
  have HBn1 := Lib.hid ((HBn.out.below hb1).mono hb1.size)
  have HB1 := Lib.hid (HB3.out.trans (hb1.mono (by rw [Hz3.out]; omega : w.heap.size ≤ W3.heap.size)))
  have hz1 : w.heap.size + 3 ≤ w1.heap.size := by rw [← Hz3.out]; exact hb1.size
  have h10 := Hrb1.out.num0
  have h11 := Hrb1.out.num1
  clear hb1
  go_wp2_with fail
  refine (right_calls_z _ zb w1 HBn1.out).mono ?_
  rintro e w2 ⟨rfl, hb2⟩
  have Hra2 := Lib.hid (Hra1.out.below hb2 (by omega))
  have Hrb2 := Lib.hid (Hrb1.out.below hb2 (by omega))
  have Hrr2 := Lib.hid (Hrr1.out.below hb2 (by omega))
  have HA2 := Lib.hid ((HA1.out.below hb2).mono hb2.size)
  have HBn2 := Lib.hid ((HBn1.out.below hb2).mono hb2.size)
  have HB2 := Lib.hid (HB1.out.trans (hb2.mono (by omega : w.heap.size ≤ w1.heap.size)))
  have hz2 : w.heap.size + 3 ≤ w2.heap.size := Nat.le_trans hz1 hb2.size
  have h20 := Hrb2.out.num0
  have h21 := Hrb2.out.num1
  have h22 := Hra2.out.num0
  have h23 := Hra2.out.num1
  clear hb2 h10 h11 hz1
  go_wp2_with fail
  refine (signedSum_z _ _ za zb (!nb) (-zb) w2 HA2.out HBn2.out (by omega) (fun h => by rw [← Hnb.out]; by_cases h1 : zb < 0 <;> simp [h1] <;> omega)).mono ?_
  rintro e w3 ⟨s3, rfl, hu3, hb3⟩
  have hU3 := hu3
  obtain ⟨p3, c3, rfl, -, -⟩ := hU3
  have HR3 := Lib.hid (Hrr2.out.below hb3 (by omega))
  have Hfin := Lib.hid (finNum (g := w.heap.size + 1 + 1) HB2.out (by omega) (by omega) hu3 hb3 (turned_setRow w3 _ (numCells (zneg (za + (-zb))) p3 (zdigs (za + (-zb))).length c3)))
  clear hu3 hb3
  go_wp2_with (refine store_num rfl (.tmp 4) (.tmp 21) rfl (w.heap.size + 1 + 1) rfl _ _ _ _ rfl _ _ HR3.out rfl ?_)
  exact ret_num rfl (w.heap.size + 1 + 1) rfl _ rfl _ _ _ _ _ (HR3.out.setRow _) ⟨_, rfl, Hfin.out.1, Hfin.out.2⟩
end Go.Proofs.Ytmoclgpdcnjacaa
namespace Go.Proofs.Ytmoclgpdcnjacaa
open Go Go.RowKit Go.Shelf
def ZPost1 (w : World) (z : Int) (e : Ending) (w' : World) : Prop := ∃ s, e = .returned (.agg #[.bool (decide (z < 0)), s]) ∧ U32N w.heap.size w'.heap.size w' s (digs z.natAbs) ∧ Below w.heap.size w w'
theorem pow64 : (18446744073709551616 : Nat) < B32 ^ 64 := by decide
theorem of_wrap {n : Int} (h : n < 0) (h1 : -9223372036854775808 ≤ n) : IntKind.u64.wrap (-IntKind.u64.wrap n) = ((n.natAbs : Nat) : Int) := by
  rw [IntKind.wrap_u64, IntKind.wrap_u64]; omega
theorem of_wrap0 {n : Int} (h : 0 ≤ n) (h2 : n ≤ 9223372036854775807) : IntKind.u64.wrap n = ((n.natAbs : Nat) : Int) := by
  rw [IntKind.wrap_u64]; omega
theorem split2_val {n : Nat} (h : n < 18446744073709551616) : strip ((split2 n).take 2) = digs n := by
  have e : (split2 n).take 2 = [n % B32, n / B32] := rfl
  rw [e, strip_digs]
  · congr 1
    simp only [val]
    have := Nat.mod_add_div n B32
    omega
  · refine Digits.cons.2 ⟨Nat.mod_lt _ B32_pos, Digits.cons.2 ⟨?_, Digits.nil⟩⟩
    unfold B32; omega
set_option maxRecDepth 100000 in
set_option maxHeartbeats 2000000 in
theorem of_calls (n : Int) (h1 : -9223372036854775808 ≤ n) (h2 : n ≤ 9223372036854775807) (w : World) :
    Calls Try.prog 57 #[.int .i64 n] w (ZPost1 w n) := by
  obtain ⟨a, ha⟩ : ∃ a, a = n.natAbs := ⟨_, rfl⟩
  have hal : a < 18446744073709551616 := by omega
  have ha64 : n.natAbs < B32 ^ 64 := by have := pow64; omega
  have Hval := Lib.hid (split2_val hal)
  have hrs := res_of (decide (n < 0)) a n ha.symm (fun _ => rfl)
  have e1 : zneg n = decide (n < 0) := by unfold zneg; rw [if_pos ha64]
  have e2 : zdigs n = digs n.natAbs := by unfold zdigs; rw [if_pos ha64]
  have e3 : zok n = true := by unfold zok; simp [ha64]
  rw [e1, e2, e3] at hrs
  have Hrs := Lib.hid hrs
  have Hal := Lib.hid hal
  have H12 := Lib.hid (And.intro h1 h2)
  have Ha := Lib.hid ha
  clear e1 e2 e3 hrs ha64 hal h1 h2 ha
  by_cases hn : n < 0
  · go_enter Try.func57, Try.ntmps57
    go_wp2_with fail
    rw [of_wrap hn H12.out.1, ← Ha.out]
    refine (split_calls a Hal.out _).mono ?_
    rintro e w1 ⟨rfl, hb1⟩
    have Hr1 := Lib.hid ((RowAt.new w 69 (numCells false none 0 0)).below hb1 (by simp [numCells]))
    have hz1 := hb1.size
    rw [World.size_alloc] at hz1
    obtain ⟨W4, hW4⟩ : ∃ W4, W4 = (w1.alloc (.cells Try.zeroCells114 114)).setRow w1.heap.size (arr (split2 a)) := ⟨_, rfl⟩
    have Hz4 : Hid (W4.heap.size = w1.heap.size + 1) := by show W4.heap.size = _; rw [hW4]; simp
    have HB4 : Hid (Below w.heap.size w W4) := by rw [hW4]; exact below_setRow2 ((((Below.refl _ w).alloc (Nat.le_refl _) _).trans (hb1.mono (by simp))).alloc (by omega) _) (by omega) _
    have Hr4 : Hid (RowAt W4 w1.heap.size 114 (arr (split2 a))) := by rw [hW4]; exact (RowAt.new w1 _ _).setRow _
    have Hrr4 : Hid (RowAt W4 w.heap.size 69 (numCells false none 0 0)) := by rw [hW4]; exact (Hr1.out.alloc _).setRowOther _ (by omega)
    have hnum := number_calls (decide (n < 0)) _ _ W4 (u32s_row (B := W4.heap.size) (w := W4) (cap := 65) (L := 2) Hr4.out (by rw [Hz4.out]; omega) (by rw [split2_length]; decide) (by rw [split2_length]; decide))
    rw [Hval.out, Hrs.out.1, Hrs.out.2.1, Hrs.out.2.2] at hnum
    rw [show decide (n < 0) = true by simp; omega] at hnum
    have Hnum := Lib.hid hnum
    have Hnew := Lib.hid (RowAt.new w1 114 Try.zeroCells114)
    have HW4 := Lib.hid hW4
    clear hb1 hW4 hnum
    go_wp2_with (refine store_row rfl (.tmp 4) (.tmp 14) rfl w1.heap.size rfl (split2 a) (split2_length a) rfl 114 Try.zeroCells114 Hnew.out (by kernel_rfl) ?_; rw [← HW4.out])
    go_fit Hnum.out
    rintro e w5 ⟨s5, rfl, hu5, hb5⟩
    have hU5 := hu5
    obtain ⟨p5, c5, rfl, -, -⟩ := hU5
    have hr5 := Hrr4.out.below hb5 (by rw [Hz4.out]; omega)
    obtain ⟨W6, hW6⟩ : ∃ W6, W6 = (w5.alloc (.cells #[.bool false, .slice none 0 0] 69)).setRow w5.heap.size (numCells true p5 (digs n.natAbs).length c5) := ⟨_, rfl⟩
    have hB6 : Below W4.heap.size W4 W6 := by rw [hW6]; exact below_setRow2 (hb5.alloc hb5.size _) hb5.size _
    have hu6 : U32N W4.heap.size W6.heap.size W6 (.slice p5 (digs n.natAbs).length c5) (digs n.natAbs) := by
      have hs6 : W6.heap.size = w5.heap.size + 1 := by rw [hW6]; simp
      obtain ⟨p, cap, e, hl, hc⟩ := hu5
      cases e
      refine ⟨_, _, rfl, hl, fun h0 => ?_⟩
      obtain ⟨b, off, rfl, hlo, hlt, hcs⟩ := hc h0
      refine ⟨b, off, rfl, hlo, by omega, fun j hj => ?_⟩
      rw [hW6, cell_setRow_other _ _ _ _ (by show b ≠ w5.heap.size; omega), World.cell?_alloc_past _ _ _ hlt]
      exact hcs j hj
    have Hr6 : Hid (RowAt W6 w.heap.size 69 (numCells false none 0 0)) := by rw [hW6]; exact (hr5.alloc _).setRowOther _ (by have := hr5.lt; omega)
    have Hr7 : Hid (RowAt W6 w5.heap.size 69 (numCells true p5 (digs n.natAbs).length c5)) := by rw [hW6]; exact (RowAt.new w5 _ _).setRow _
    have Hfin := Lib.hid (finNum (g := w.heap.size) HB4.out (Nat.le_refl _) (by rw [Hz4.out]; omega) hu6 hB6 (turned_setRow W6 _ (numCells true p5 (digs n.natAbs).length c5)))
    have Hnew5 := Lib.hid (RowAt.new w5 69 (numCells false none 0 0))
    have HW6 := Lib.hid hW6
    have Hneg : Hid (decide (n < 0) = true) := by show decide (n < 0) = _; simp; omega
    clear hu5 hb5 hr5 hB6 hu6 hW6
    go_wp2_with (first
      | (refine store_num rfl (.tmp 5) (.tmp 20) rfl w5.heap.size rfl _ _ _ _ rfl _ _ Hnew5.out rfl ?_; rw [← HW6.out])
      | (refine load_num rfl (.tmp 5) rfl w5.heap.size rfl _ _ _ _ _ Hr7.out ?_)
      | (refine store_num rfl (.tmp 2) (.tmp 22) rfl w.heap.size rfl _ _ _ _ rfl _ _ Hr6.out rfl ?_))
    exact ret_num1 rfl w.heap.size rfl _ _ _ _ _ (Hr6.out.setRow _) ⟨_, by rw [Hneg.out], Hfin.out.1, Hfin.out.2⟩
  · have hn0 : 0 ≤ n := by omega
    have hnd : decide (n < 0) = false := by simp; omega
    go_enter Try.func57, Try.ntmps57
    go_wp2_with fail
    rw [of_wrap0 hn0 H12.out.2, ← Ha.out]
    refine (split_calls a Hal.out _).mono ?_
    rintro e w1 ⟨rfl, hb1⟩
    have Hr1 := Lib.hid ((RowAt.new w 69 (numCells false none 0 0)).below hb1 (by simp [numCells]))
    have hz1 := hb1.size
    rw [World.size_alloc] at hz1
    obtain ⟨W4, hW4⟩ : ∃ W4, W4 = (w1.alloc (.cells Try.zeroCells114 114)).setRow w1.heap.size (arr (split2 a)) := ⟨_, rfl⟩
    have Hz4 : Hid (W4.heap.size = w1.heap.size + 1) := by show W4.heap.size = _; rw [hW4]; simp
    have HB4 : Hid (Below w.heap.size w W4) := by rw [hW4]; exact below_setRow2 ((((Below.refl _ w).alloc (Nat.le_refl _) _).trans (hb1.mono (by simp))).alloc (by omega) _) (by omega) _
    have Hr4 : Hid (RowAt W4 w1.heap.size 114 (arr (split2 a))) := by rw [hW4]; exact (RowAt.new w1 _ _).setRow _
    have Hrr4 : Hid (RowAt W4 w.heap.size 69 (numCells false none 0 0)) := by rw [hW4]; exact (Hr1.out.alloc _).setRowOther _ (by omega)
    have hnum := number_calls (decide (n < 0)) _ _ W4 (u32s_row (B := W4.heap.size) (w := W4) (cap := 65) (L := 2) Hr4.out (by rw [Hz4.out]; omega) (by rw [split2_length]; decide) (by rw [split2_length]; decide))
    rw [Hval.out, Hrs.out.1, Hrs.out.2.1, Hrs.out.2.2] at hnum
    rw [hnd] at hnum
    have Hnum := Lib.hid hnum
    have Hnew := Lib.hid (RowAt.new w1 114 Try.zeroCells114)
    have HW4 := Lib.hid hW4
    clear hb1 hW4 hnum
    go_wp2_with (refine store_row rfl (.tmp 4) (.tmp 14) rfl w1.heap.size rfl (split2 a) (split2_length a) rfl 114 Try.zeroCells114 Hnew.out (by kernel_rfl) ?_; rw [← HW4.out])
    go_fit Hnum.out
    rintro e w5 ⟨s5, rfl, hu5, hb5⟩
    have hU5 := hu5
    obtain ⟨p5, c5, rfl, -, -⟩ := hU5
    have hr5 := Hrr4.out.below hb5 (by rw [Hz4.out]; omega)
    obtain ⟨W6, hW6⟩ : ∃ W6, W6 = (w5.alloc (.cells #[.bool false, .slice none 0 0] 69)).setRow w5.heap.size (numCells false p5 (digs n.natAbs).length c5) := ⟨_, rfl⟩
    have hB6 : Below W4.heap.size W4 W6 := by rw [hW6]; exact below_setRow2 (hb5.alloc hb5.size _) hb5.size _
    have hu6 : U32N W4.heap.size W6.heap.size W6 (.slice p5 (digs n.natAbs).length c5) (digs n.natAbs) := by
      have hs6 : W6.heap.size = w5.heap.size + 1 := by rw [hW6]; simp
      obtain ⟨p, cap, e, hl, hc⟩ := hu5
      cases e
      refine ⟨_, _, rfl, hl, fun h0 => ?_⟩
      obtain ⟨b, off, rfl, hlo, hlt, hcs⟩ := hc h0
      refine ⟨b, off, rfl, hlo, by omega, fun j hj => ?_⟩
      rw [hW6, cell_setRow_other _ _ _ _ (by show b ≠ w5.heap.size; omega), World.cell?_alloc_past _ _ _ hlt]
      exact hcs j hj
    have Hr6 : Hid (RowAt W6 w.heap.size 69 (numCells false none 0 0)) := by rw [hW6]; exact (hr5.alloc _).setRowOther _ (by have := hr5.lt; omega)
    have Hr7 : Hid (RowAt W6 w5.heap.size 69 (numCells false p5 (digs n.natAbs).length c5)) := by rw [hW6]; exact (RowAt.new w5 _ _).setRow _
    have Hfin := Lib.hid (finNum (g := w.heap.size) HB4.out (Nat.le_refl _) (by rw [Hz4.out]; omega) hu6 hB6 (turned_setRow W6 _ (numCells false p5 (digs n.natAbs).length c5)))
    have Hnew5 := Lib.hid (RowAt.new w5 69 (numCells false none 0 0))
    have HW6 := Lib.hid hW6
    have Hneg := Lib.hid hnd
    clear hu5 hb5 hr5 hB6 hu6 hW6
    go_wp2_with (first
      | (refine store_num rfl (.tmp 5) (.tmp 20) rfl w5.heap.size rfl _ _ _ _ rfl _ _ Hnew5.out rfl ?_; rw [← HW6.out])
      | (refine load_num rfl (.tmp 5) rfl w5.heap.size rfl _ _ _ _ _ Hr7.out ?_)
      | (refine store_num rfl (.tmp 2) (.tmp 22) rfl w.heap.size rfl _ _ _ _ rfl _ _ Hr6.out rfl ?_))
    exact ret_num1 rfl w.heap.size rfl _ _ _ _ _ (Hr6.out.setRow _) ⟨_, by rw [Hneg.out], Hfin.out.1, Hfin.out.2⟩
end Go.Proofs.Ytmoclgpdcnjacaa
namespace Go.Proofs.Ytmoclgpdcnjacaa
open Go Go.RowKit Go.Shelf
def Ext (w w' : World) : Prop := Below w.heap.size w w'
theorem Ext.refl (w : World) : Ext w w := Below.refl _ w
theorem Ext.trans {a b c : World} (h : Ext a b) (k : Ext b c) : Ext a c := Below.trans h (Below.mono k (Below.size h))
theorem Ext.alloc (w : World) (o : Obj) : Ext w (w.alloc o) := (Below.refl _ w).alloc (Nat.le_refl _) o
theorem Ext.drew (w : World) : Ext w w.drew := (Below.refl _ w).drew
theorem Ext.num {w w' : World} {v : Value} {z : Int} (h : Ext w w') (hz : ZNum w.heap.size w v z) : ZNum w'.heap.size w' v z := (ZNum.below hz h).mono (Below.size h)
theorem Ext.row {w w' : World} {g : Nat} {t : TypeId} {cs : Array Value} (h : Ext w w') (hr : RowAt w g t cs) : RowAt w' g t cs := RowAt.below hr h hr.lt
theorem Ext.u32s {w w' : World} {v : Value} {ds : List Nat} (h : Ext w w') (hu : U32s w.heap.size w v ds) : U32s w'.heap.size w' v ds := (U32s.below hu h).mono (Below.size h)
end Go.Proofs.Ytmoclgpdcnjacaa
namespace Go.Proofs.Ytmoclgpdcnjacaa
open Go Go.RowKit Go.Shelf
def zcmp (a b : Int) : Int := if a < b then -1 else if b < a then 1 else 0
theorem zcmp_of {a b : Int} (ha : a.natAbs < B32 ^ 64) (hb : b.natAbs < B32 ^ 64) :
    (a < 0 → b < 0 → cmpL (digs b.natAbs) (digs a.natAbs) = zcmp a b) ∧ (a < 0 → ¬ b < 0 → zcmp a b = -1) ∧ (¬ a < 0 → b < 0 → zcmp a b = 1) ∧ (¬ a < 0 → ¬ b < 0 → cmpL (digs a.natAbs) (digs b.natAbs) = zcmp a b) := by
  rw [cmpL_norm (norm_digs _) (norm_digs _), cmpL_norm (norm_digs _) (norm_digs _), val_digs, val_digs]
  unfold zcmp sgn
  refine ⟨fun h1 h2 => ?_, fun h1 h2 => ?_, fun h1 h2 => ?_, fun h1 h2 => ?_⟩ <;> (repeat' split) <;> omega
theorem znum_slice {B : Nat} {w : World} {b : Bool} {s : Value} {z : Int} (h : ZNum B w (.agg #[.bool b, s]) z) : U32s B w s (digs z.natAbs) := by
  obtain ⟨⟨s', e, hu⟩, -⟩ := h
  cases e
  exact hu
set_option maxRecDepth 100000 in
set_option maxHeartbeats 2000000 in
theorem cmp_nn (va vb : Value) (za zb : Int) (w : World) (ha : ZNum w.heap.size w va za) (hb : ZNum w.heap.size w vb zb) (hca : za < 0) (hcb : zb < 0) :
    Calls Try.prog 56 #[va, vb] w fun e w' => e = .returned (.int .i64 (zcmp za zb)) ∧ Below w.heap.size w w' := by
  have hz := zcmp_of ha.2 hb.2
  obtain ⟨p, c, rfl⟩ := ha.parts
  obtain ⟨q, c2, rfl⟩ := hb.parts
  rw [show decide (za < 0) = true by simp; omega] at *
  rw [show decide (zb < 0) = true by simp; omega] at *
  have hz := hz.1 hca hcb
  have Hz := Lib.hid hz
  clear hz hca hcb
  obtain ⟨W3, hW3⟩ : ∃ W3, W3 = (w.alloc (.cells #[.bool true, .slice p (digs za.natAbs).length c] 69)).alloc (.cells #[.bool true, .slice q (digs zb.natAbs).length c2] 69) := ⟨_, rfl⟩
  have HB3 : Hid (Below w.heap.size w W3) := by rw [hW3]; exact ((Below.refl _ w).alloc (Nat.le_refl _) _).alloc (by simp) _
  have Hz3 : Hid (W3.heap.size = w.heap.size + 2) := by show W3.heap.size = _; rw [hW3]; simp
  have Hra : Hid (RowAt W3 w.heap.size 69 (numCells true p (digs za.natAbs).length c)) := by rw [hW3]; exact (RowAt.new w _ _).alloc _
  have Hrb : Hid (RowAt W3 (w.heap.size + 1) 69 (numCells true q (digs zb.natAbs).length c2)) := by rw [hW3]; exact RowAt.new' _ _ (by simp)
  have HA := Lib.hid ((ha.below HB3.out).mono (by rw [Hz3.out]; omega : w.heap.size ≤ W3.heap.size))
  have HBn := Lib.hid ((hb.below HB3.out).mono (by rw [Hz3.out]; omega : w.heap.size ≤ W3.heap.size))
  have HW3 := Lib.hid hW3
  generalize (digs za.natAbs).length = n at *
  generalize (digs zb.natAbs).length = m at *
  clear hW3 ha hb
  go_enter Try.func56, Try.ntmps56
  go_wp2_with fail
  rw [← HW3.out]
  refine (right_calls_z _ za W3 HA.out).mono ?_
  rintro e w1 ⟨rfl, hb1⟩
  have Hra1 := Lib.hid (Hra.out.below hb1 (by rw [Hz3.out]; omega))
  have Hrb1 := Lib.hid (Hrb.out.below hb1 (by rw [Hz3.out]; omega))
  have HA1 := Lib.hid ((HA.out.below hb1).mono hb1.size)
  have HBn1 := Lib.hid ((HBn.out.below hb1).mono hb1.size)
  have HB1 := Lib.hid (HB3.out.trans (hb1.mono (by rw [Hz3.out]; omega : w.heap.size ≤ W3.heap.size)))
  have hz1 : w.heap.size + 2 ≤ w1.heap.size := by rw [← Hz3.out]; exact hb1.size
  have h10 := Hrb1.out.num0
  have h11 := Hrb1.out.num1
  clear hb1
  go_wp2_with fail
  refine (right_calls_z _ zb w1 HBn1.out).mono ?_
  rintro e w2 ⟨rfl, hb2⟩
  have Hra2 := Lib.hid (Hra1.out.below hb2 (by omega))
  have Hrb2 := Lib.hid (Hrb1.out.below hb2 (by omega))
  have HA2 := Lib.hid ((HA1.out.below hb2).mono hb2.size)
  have HBn2 := Lib.hid ((HBn1.out.below hb2).mono hb2.size)
  have HB2 := Lib.hid (HB1.out.trans (hb2.mono (by omega : w.heap.size ≤ w1.heap.size)))
  have hz2 : w.heap.size + 2 ≤ w2.heap.size := Nat.le_trans hz1 hb2.size
  have h20 := Hrb2.out.num0
  have h21 := Hrb2.out.num1
  have h22 := Hra2.out.num0
  have h23 := Hra2.out.num1
  clear hb2 h10 h11 hz1
  have hcall := order_calls _ _ (digs zb.natAbs) (digs za.natAbs) w2 (znum_slice HBn2.out) (znum_slice HA2.out) (digs_digits _) (digs_digits _)
  rw [Hz.out] at hcall
  have Hcall := Lib.hid hcall
  clear hcall
  go_wp2_with fail
  refine Hcall.out.mono ?_
  rintro e w3 ⟨rfl, hb3⟩
  go_wp2
  go_ret
  exact ⟨rfl, HB2.out.trans (hb3.mono (by omega))⟩
set_option maxRecDepth 100000 in
set_option maxHeartbeats 2000000 in
theorem cmp_np (va vb : Value) (za zb : Int) (w : World) (ha : ZNum w.heap.size w va za) (hb : ZNum w.heap.size w vb zb) (hca : za < 0) (hcb : ¬ zb < 0) :
    Calls Try.prog 56 #[va, vb] w fun e w' => e = .returned (.int .i64 (zcmp za zb)) ∧ Below w.heap.size w w' := by
  have hz := zcmp_of ha.2 hb.2
  obtain ⟨p, c, rfl⟩ := ha.parts
  obtain ⟨q, c2, rfl⟩ := hb.parts
  rw [show decide (za < 0) = true by simp; omega] at *
  rw [show decide (zb < 0) = false by simp; omega] at *
  have hz := hz.2.1 hca hcb
  have Hz := Lib.hid hz
  clear hz hca hcb
  obtain ⟨W3, hW3⟩ : ∃ W3, W3 = (w.alloc (.cells #[.bool true, .slice p (digs za.natAbs).length c] 69)).alloc (.cells #[.bool false, .slice q (digs zb.natAbs).length c2] 69) := ⟨_, rfl⟩
  have HB3 : Hid (Below w.heap.size w W3) := by rw [hW3]; exact ((Below.refl _ w).alloc (Nat.le_refl _) _).alloc (by simp) _
  have Hz3 : Hid (W3.heap.size = w.heap.size + 2) := by show W3.heap.size = _; rw [hW3]; simp
  have Hra : Hid (RowAt W3 w.heap.size 69 (numCells true p (digs za.natAbs).length c)) := by rw [hW3]; exact (RowAt.new w _ _).alloc _
  have Hrb : Hid (RowAt W3 (w.heap.size + 1) 69 (numCells false q (digs zb.natAbs).length c2)) := by rw [hW3]; exact RowAt.new' _ _ (by simp)
  have HA := Lib.hid ((ha.below HB3.out).mono (by rw [Hz3.out]; omega : w.heap.size ≤ W3.heap.size))
  have HBn := Lib.hid ((hb.below HB3.out).mono (by rw [Hz3.out]; omega : w.heap.size ≤ W3.heap.size))
  have HW3 := Lib.hid hW3
  generalize (digs za.natAbs).length = n at *
  generalize (digs zb.natAbs).length = m at *
  clear hW3 ha hb
  go_enter Try.func56, Try.ntmps56
  go_wp2_with fail
  rw [← HW3.out]
  refine (right_calls_z _ za W3 HA.out).mono ?_
  rintro e w1 ⟨rfl, hb1⟩
  have Hra1 := Lib.hid (Hra.out.below hb1 (by rw [Hz3.out]; omega))
  have Hrb1 := Lib.hid (Hrb.out.below hb1 (by rw [Hz3.out]; omega))
  have HA1 := Lib.hid ((HA.out.below hb1).mono hb1.size)
  have HBn1 := Lib.hid ((HBn.out.below hb1).mono hb1.size)
  have HB1 := Lib.hid (HB3.out.trans (hb1.mono (by rw [Hz3.out]; omega : w.heap.size ≤ W3.heap.size)))
  have hz1 : w.heap.size + 2 ≤ w1.heap.size := by rw [← Hz3.out]; exact hb1.size
  have h10 := Hrb1.out.num0
  have h11 := Hrb1.out.num1
  clear hb1
  go_wp2_with fail
  refine (right_calls_z _ zb w1 HBn1.out).mono ?_
  rintro e w2 ⟨rfl, hb2⟩
  have Hra2 := Lib.hid (Hra1.out.below hb2 (by omega))
  have Hrb2 := Lib.hid (Hrb1.out.below hb2 (by omega))
  have HA2 := Lib.hid ((HA1.out.below hb2).mono hb2.size)
  have HBn2 := Lib.hid ((HBn1.out.below hb2).mono hb2.size)
  have HB2 := Lib.hid (HB1.out.trans (hb2.mono (by omega : w.heap.size ≤ w1.heap.size)))
  have hz2 : w.heap.size + 2 ≤ w2.heap.size := Nat.le_trans hz1 hb2.size
  have h20 := Hrb2.out.num0
  have h21 := Hrb2.out.num1
  have h22 := Hra2.out.num0
  have h23 := Hra2.out.num1
  clear hb2 h10 h11 hz1
  go_wp2
  go_ret
  exact ⟨by rw [Hz.out]; rfl, HB2.out⟩
set_option maxRecDepth 100000 in
set_option maxHeartbeats 2000000 in
theorem cmp_pn (va vb : Value) (za zb : Int) (w : World) (ha : ZNum w.heap.size w va za) (hb : ZNum w.heap.size w vb zb) (hca : ¬ za < 0) (hcb : zb < 0) :
    Calls Try.prog 56 #[va, vb] w fun e w' => e = .returned (.int .i64 (zcmp za zb)) ∧ Below w.heap.size w w' := by
  have hz := zcmp_of ha.2 hb.2
  obtain ⟨p, c, rfl⟩ := ha.parts
  obtain ⟨q, c2, rfl⟩ := hb.parts
  rw [show decide (za < 0) = false by simp; omega] at *
  rw [show decide (zb < 0) = true by simp; omega] at *
  have hz := hz.2.2.1 hca hcb
  have Hz := Lib.hid hz
  clear hz hca hcb
  obtain ⟨W3, hW3⟩ : ∃ W3, W3 = (w.alloc (.cells #[.bool false, .slice p (digs za.natAbs).length c] 69)).alloc (.cells #[.bool true, .slice q (digs zb.natAbs).length c2] 69) := ⟨_, rfl⟩
  have HB3 : Hid (Below w.heap.size w W3) := by rw [hW3]; exact ((Below.refl _ w).alloc (Nat.le_refl _) _).alloc (by simp) _
  have Hz3 : Hid (W3.heap.size = w.heap.size + 2) := by show W3.heap.size = _; rw [hW3]; simp
  have Hra : Hid (RowAt W3 w.heap.size 69 (numCells false p (digs za.natAbs).length c)) := by rw [hW3]; exact (RowAt.new w _ _).alloc _
  have Hrb : Hid (RowAt W3 (w.heap.size + 1) 69 (numCells true q (digs zb.natAbs).length c2)) := by rw [hW3]; exact RowAt.new' _ _ (by simp)
  have HA := Lib.hid ((ha.below HB3.out).mono (by rw [Hz3.out]; omega : w.heap.size ≤ W3.heap.size))
  have HBn := Lib.hid ((hb.below HB3.out).mono (by rw [Hz3.out]; omega : w.heap.size ≤ W3.heap.size))
  have HW3 := Lib.hid hW3
  generalize (digs za.natAbs).length = n at *
  generalize (digs zb.natAbs).length = m at *
  clear hW3 ha hb
  go_enter Try.func56, Try.ntmps56
  go_wp2_with fail
  rw [← HW3.out]
  refine (right_calls_z _ za W3 HA.out).mono ?_
  rintro e w1 ⟨rfl, hb1⟩
  have Hra1 := Lib.hid (Hra.out.below hb1 (by rw [Hz3.out]; omega))
  have Hrb1 := Lib.hid (Hrb.out.below hb1 (by rw [Hz3.out]; omega))
  have HA1 := Lib.hid ((HA.out.below hb1).mono hb1.size)
  have HBn1 := Lib.hid ((HBn.out.below hb1).mono hb1.size)
  have HB1 := Lib.hid (HB3.out.trans (hb1.mono (by rw [Hz3.out]; omega : w.heap.size ≤ W3.heap.size)))
  have hz1 : w.heap.size + 2 ≤ w1.heap.size := by rw [← Hz3.out]; exact hb1.size
  have h10 := Hrb1.out.num0
  have h11 := Hrb1.out.num1
  clear hb1
  go_wp2_with fail
  refine (right_calls_z _ zb w1 HBn1.out).mono ?_
  rintro e w2 ⟨rfl, hb2⟩
  have Hra2 := Lib.hid (Hra1.out.below hb2 (by omega))
  have Hrb2 := Lib.hid (Hrb1.out.below hb2 (by omega))
  have HA2 := Lib.hid ((HA1.out.below hb2).mono hb2.size)
  have HBn2 := Lib.hid ((HBn1.out.below hb2).mono hb2.size)
  have HB2 := Lib.hid (HB1.out.trans (hb2.mono (by omega : w.heap.size ≤ w1.heap.size)))
  have hz2 : w.heap.size + 2 ≤ w2.heap.size := Nat.le_trans hz1 hb2.size
  have h20 := Hrb2.out.num0
  have h21 := Hrb2.out.num1
  have h22 := Hra2.out.num0
  have h23 := Hra2.out.num1
  clear hb2 h10 h11 hz1
  go_wp2
  go_ret
  exact ⟨by rw [Hz.out]; rfl, HB2.out⟩
set_option maxRecDepth 100000 in
set_option maxHeartbeats 2000000 in
theorem cmp_pp (va vb : Value) (za zb : Int) (w : World) (ha : ZNum w.heap.size w va za) (hb : ZNum w.heap.size w vb zb) (hca : ¬ za < 0) (hcb : ¬ zb < 0) :
    Calls Try.prog 56 #[va, vb] w fun e w' => e = .returned (.int .i64 (zcmp za zb)) ∧ Below w.heap.size w w' := by
  have hz := zcmp_of ha.2 hb.2
  obtain ⟨p, c, rfl⟩ := ha.parts
  obtain ⟨q, c2, rfl⟩ := hb.parts
  rw [show decide (za < 0) = false by simp; omega] at *
  rw [show decide (zb < 0) = false by simp; omega] at *
  have hz := hz.2.2.2 hca hcb
  have Hz := Lib.hid hz
  clear hz hca hcb
  obtain ⟨W3, hW3⟩ : ∃ W3, W3 = (w.alloc (.cells #[.bool false, .slice p (digs za.natAbs).length c] 69)).alloc (.cells #[.bool false, .slice q (digs zb.natAbs).length c2] 69) := ⟨_, rfl⟩
  have HB3 : Hid (Below w.heap.size w W3) := by rw [hW3]; exact ((Below.refl _ w).alloc (Nat.le_refl _) _).alloc (by simp) _
  have Hz3 : Hid (W3.heap.size = w.heap.size + 2) := by show W3.heap.size = _; rw [hW3]; simp
  have Hra : Hid (RowAt W3 w.heap.size 69 (numCells false p (digs za.natAbs).length c)) := by rw [hW3]; exact (RowAt.new w _ _).alloc _
  have Hrb : Hid (RowAt W3 (w.heap.size + 1) 69 (numCells false q (digs zb.natAbs).length c2)) := by rw [hW3]; exact RowAt.new' _ _ (by simp)
  have HA := Lib.hid ((ha.below HB3.out).mono (by rw [Hz3.out]; omega : w.heap.size ≤ W3.heap.size))
  have HBn := Lib.hid ((hb.below HB3.out).mono (by rw [Hz3.out]; omega : w.heap.size ≤ W3.heap.size))
  have HW3 := Lib.hid hW3
  generalize (digs za.natAbs).length = n at *
  generalize (digs zb.natAbs).length = m at *
  clear hW3 ha hb
  go_enter Try.func56, Try.ntmps56
  go_wp2_with fail
  rw [← HW3.out]
  refine (right_calls_z _ za W3 HA.out).mono ?_
  rintro e w1 ⟨rfl, hb1⟩
  have Hra1 := Lib.hid (Hra.out.below hb1 (by rw [Hz3.out]; omega))
  have Hrb1 := Lib.hid (Hrb.out.below hb1 (by rw [Hz3.out]; omega))
  have HA1 := Lib.hid ((HA.out.below hb1).mono hb1.size)
  have HBn1 := Lib.hid ((HBn.out.below hb1).mono hb1.size)
  have HB1 := Lib.hid (HB3.out.trans (hb1.mono (by rw [Hz3.out]; omega : w.heap.size ≤ W3.heap.size)))
  have hz1 : w.heap.size + 2 ≤ w1.heap.size := by rw [← Hz3.out]; exact hb1.size
  have h10 := Hrb1.out.num0
  have h11 := Hrb1.out.num1
  clear hb1
  go_wp2_with fail
  refine (right_calls_z _ zb w1 HBn1.out).mono ?_
  rintro e w2 ⟨rfl, hb2⟩
  have Hra2 := Lib.hid (Hra1.out.below hb2 (by omega))
  have Hrb2 := Lib.hid (Hrb1.out.below hb2 (by omega))
  have HA2 := Lib.hid ((HA1.out.below hb2).mono hb2.size)
  have HBn2 := Lib.hid ((HBn1.out.below hb2).mono hb2.size)
  have HB2 := Lib.hid (HB1.out.trans (hb2.mono (by omega : w.heap.size ≤ w1.heap.size)))
  have hz2 : w.heap.size + 2 ≤ w2.heap.size := Nat.le_trans hz1 hb2.size
  have h20 := Hrb2.out.num0
  have h21 := Hrb2.out.num1
  have h22 := Hra2.out.num0
  have h23 := Hra2.out.num1
  clear hb2 h10 h11 hz1
  have hcall := order_calls _ _ (digs za.natAbs) (digs zb.natAbs) w2 (znum_slice HA2.out) (znum_slice HBn2.out) (digs_digits _) (digs_digits _)
  rw [Hz.out] at hcall
  have Hcall := Lib.hid hcall
  clear hcall
  go_wp2_with fail
  refine Hcall.out.mono ?_
  rintro e w3 ⟨rfl, hb3⟩
  go_wp2
  go_ret
  exact ⟨rfl, HB2.out.trans (hb3.mono (by omega))⟩
theorem cmp_calls (va vb : Value) (za zb : Int) (w : World) (ha : ZNum w.heap.size w va za) (hb : ZNum w.heap.size w vb zb) :
    Calls Try.prog 56 #[va, vb] w fun e w' => e = .returned (.int .i64 (zcmp za zb)) ∧ Below w.heap.size w w' := by
  by_cases h1 : za < 0 <;> by_cases h2 : zb < 0
  · exact cmp_nn va vb za zb w ha hb h1 h2
  · exact cmp_np va vb za zb w ha hb h1 h2
  · exact cmp_pn va vb za zb w ha hb h1 h2
  · exact cmp_pp va vb za zb w ha hb h1 h2
end Go.Proofs.Ytmoclgpdcnjacaa
namespace Go.Proofs.Ytmoclgpdcnjacaa
open Go Go.RowKit Go.Shelf
theorem mul_natAbs_lt {za zb : Int} (ha : za.natAbs < B32 ^ 64) (hb : zb.natAbs < B32 ^ 64) (h : 65 < (digs za.natAbs).length + (digs zb.natAbs).length) : ¬ (za * zb).natAbs < B32 ^ 64 := by
  have h1 := digs_len64 ha
  have h2 := digs_len64 hb
  have ga := val_ge_of_noZero (norm_digs za.natAbs).2 (by intro e; rw [e] at h; simp at h; omega)
  have gb := val_ge_of_noZero (norm_digs zb.natAbs).2 (by intro e; rw [e] at h; simp at h; omega)
  rw [val_digs] at ga gb
  rw [Int.natAbs_mul]
  have hm := Nat.mul_le_mul ga gb
  rw [← Nat.pow_add] at hm
  have hp := Nat.pow_le_pow_right B32_pos (show 64 ≤ (digs za.natAbs).length - 1 + ((digs zb.natAbs).length - 1) by omega)
  omega
theorem zneg_big {z : Int} (h : ¬ z.natAbs < B32 ^ 64) : zneg z = false ∧ zdigs z = [] ∧ zok z = false := by
  unfold zneg zdigs zok; rw [if_neg h, if_neg h]; exact ⟨rfl, rfl, by simp [h]⟩
set_option maxRecDepth 100000 in
set_option maxHeartbeats 2000000 in
theorem mul_calls (va vb : Value) (za zb : Int) (w : World) (ha : ZNum w.heap.size w va za) (hb : ZNum w.heap.size w vb zb) :
    Calls Try.prog 71 #[va, vb] w (ZPost w (za * zb)) := by
  obtain ⟨p, c, rfl⟩ := ha.parts
  obtain ⟨q, c2, rfl⟩ := hb.parts
  generalize hna : decide (za < 0) = na at *
  generalize hnb : decide (zb < 0) = nb at *
  generalize hn : (digs za.natAbs).length = n at *
  generalize hm : (digs zb.natAbs).length = m at *
  have Hcase : Hid ((65 < n + m → zneg (za * zb) = false ∧ zdigs (za * zb) = [] ∧ zok (za * zb) = false) ∧ n ≤ 64 ∧ m ≤ 64) := by
    rw [← hn, ← hm]
    exact ⟨fun h => zneg_big (mul_natAbs_lt ha.2 hb.2 h), digs_len64 ha.2, digs_len64 hb.2⟩
  obtain ⟨hn64, hm64⟩ := Hcase.out.2
  have Hn := Lib.hid hn
  have Hm := Lib.hid hm
  have Hna := Lib.hid hna
  obtain ⟨W3, hW3⟩ : ∃ W3, W3 = ((w.alloc (.cells #[.bool na, .slice p n c] 69)).alloc (.cells #[.bool nb, .slice q m c2] 69)).alloc (.cells #[.bool false, .slice none 0 0] 69) := ⟨_, rfl⟩
  have HB3 : Hid (Below w.heap.size w W3) := by rw [hW3]; exact (((Below.refl _ w).alloc (Nat.le_refl _) _).alloc (by simp) _).alloc (by simp; omega) _
  have Hz3 : Hid (W3.heap.size = w.heap.size + 3) := by show W3.heap.size = _; rw [hW3]; simp
  have Hra : Hid (RowAt W3 w.heap.size 69 (numCells na p n c)) := by rw [hW3]; exact ((RowAt.new w _ _).alloc _).alloc _
  have Hrb : Hid (RowAt W3 (w.heap.size + 1) 69 (numCells nb q m c2)) := by rw [hW3]; exact (RowAt.new' _ _ (by simp)).alloc _
  have Hrr : Hid (RowAt W3 (w.heap.size + 1 + 1) 69 (numCells false none 0 0)) := by rw [hW3]; exact RowAt.new' _ _ (by simp)
  have HA := Lib.hid ((ha.below HB3.out).mono (by rw [Hz3.out]; omega : w.heap.size ≤ W3.heap.size))
  have HBn := Lib.hid ((hb.below HB3.out).mono (by rw [Hz3.out]; omega : w.heap.size ≤ W3.heap.size))
  have HW3 := Lib.hid hW3
  have Hnb := Lib.hid hnb
  clear hW3 ha hb hna hnb hn hm
  go_enter Try.func71, Try.ntmps71
  go_wp2_with fail
  rw [← HW3.out]
  refine (right_calls_z _ za W3 HA.out).mono ?_
  rintro e w1 ⟨rfl, hb1⟩
  have Hra1 := Lib.hid (Hra.out.below hb1 (by rw [Hz3.out]; omega))
  have Hrb1 := Lib.hid (Hrb.out.below hb1 (by rw [Hz3.out]; omega))
  have Hrr1 := Lib.hid (Hrr.out.below hb1 (by rw [Hz3.out]; omega))
  have HA1 := Lib.hid ((HA.out.below hb1).mono hb1.size)
  have HBn1 := Lib.hid ((HBn.out.below hb1).mono hb1.size)
  have HB1 := Lib.hid (HB3.out.trans (hb1.mono (by rw [Hz3.out]; omega : w.heap.size ≤ W3.heap.size)))
  have hz1 : w.heap.size + 3 ≤ w1.heap.size := by rw [← Hz3.out]; exact hb1.size
  have h10 := Hrb1.out.num0
  have h11 := Hrb1.out.num1
  clear hb1
  go_wp2_with fail
  refine (right_calls_z _ zb w1 HBn1.out).mono ?_
  rintro e w2 ⟨rfl, hb2⟩
  have Hra2 := Lib.hid (Hra1.out.below hb2 (by omega))
  have Hrb2 := Lib.hid (Hrb1.out.below hb2 (by omega))
  have Hrr2 := Lib.hid (Hrr1.out.below hb2 (by omega))
  have HA2 := Lib.hid ((HA1.out.below hb2).mono hb2.size)
  have HBn2 := Lib.hid ((HBn1.out.below hb2).mono hb2.size)
  have HB2 := Lib.hid (HB1.out.trans (hb2.mono (by omega : w.heap.size ≤ w1.heap.size)))
  have hz2 : w.heap.size + 3 ≤ w2.heap.size := Nat.le_trans hz1 hb2.size
  have h20 := Hrb2.out.num0
  have h21 := Hrb2.out.num1
  have h22 := Hra2.out.num0
  have h23 := Hra2.out.num1
  clear hb2 h10 h11 hz1
  by_cases hbig : 65 < n + m
  · obtain ⟨e1, e2, e3⟩ := Hcase.out.1 hbig
    have HE := Lib.hid (And.intro e1 (And.intro e2 e3))
    have hbigI : (65 : Int) < (n : Int) + (m : Int) := by omega
    have Hfin := Lib.hid ((Below.trans HB2.out (below_setRow2 (Below.refl _ w2) (by omega : w.heap.size ≤ w.heap.size + 1 + 1) (numCells false none 0 0))))
    clear e1 e2 e3 hbig
    go_wp2_with (refine store_num rfl (.tmp 4) (.tmp 24) rfl (w.heap.size + 1 + 1) rfl false none 0 0 rfl _ _ Hrr2.out rfl ?_)
    exact ret_num rfl (w.heap.size + 1 + 1) rfl _ rfl _ _ _ _ _ (Hrr2.out.setRow _) ⟨_, by rw [HE.out.1, HE.out.2.2], by rw [HE.out.2.1]; exact u32n_nil _ _ _, Hfin.out⟩
  · have hsmall : ¬ (65 : Int) < (n : Int) + (m : Int) := by omega
    have hnm : n + m ≤ 65 := by omega
    have hua2 : U32s w2.heap.size w2 (.slice p n c) (digs za.natAbs) := by
      obtain ⟨⟨s, e, hu⟩, -⟩ := HA2.out; cases e; exact hu
    have hub2 : U32s w2.heap.size w2 (.slice q m c2) (digs zb.natAbs) := by
      obtain ⟨⟨s, e, hu⟩, -⟩ := HBn2.out; cases e; exact hu
    have Hprod := Lib.hid (product_calls _ _ _ _ w2 hua2 hub2 (digs_digits _) (digs_digits _) (by rw [Hn.out, Hm.out]; exact hnm))
    have Hsl := Lib.hid (prodRow_length (digs za.natAbs) (digs zb.natAbs))
    have Hres : Hid (strip ((prodRow (digs za.natAbs) (digs zb.natAbs)).take (n + m)) = digs (za.natAbs * zb.natAbs)) := by
      show _ = _
      rw [strip_digs ((prod_digits (digs_digits _) (digs_digits _)).take _), ← Hn.out, ← Hm.out, prod_take _ _ (by rw [Hn.out, Hm.out]; exact hnm), val_digs, val_digs]
    have hrs := res_of (na != nb) (za.natAbs * zb.natAbs) (za * zb) (Int.natAbs_mul _ _) (fun h => by
      rw [← Hna.out, ← Hnb.out]
      have h1 : za ≠ 0 := by intro e; subst e; simp at h
      have h2 : zb ≠ 0 := by intro e; subst e; simp at h
      by_cases h3 : za < 0 <;> by_cases h4 : zb < 0 <;> simp only [h3, h4, decide_true, decide_false, bne_self_eq_false, Bool.true_bne, Bool.false_bne, Bool.not_false]
      · have := Int.mul_pos_of_neg_of_neg h3 h4; simp; omega
      · have := Int.mul_neg_of_neg_of_pos h3 (by omega : 0 < zb); simp; omega
      · have := Int.mul_neg_of_pos_of_neg (by omega : 0 < za) h4; simp; omega
      · have := Int.mul_pos (by omega : 0 < za) (by omega : 0 < zb); simp; omega)
    have Hrs := Lib.hid hrs
    generalize prodRow (digs za.natAbs) (digs zb.natAbs) = row at *
    clear hua2 hub2 hbig hrs
    go_wp2_with fail
    refine Hprod.out.mono ?_
    rintro e w3 ⟨rfl, hb3⟩
    have hz3 : w.heap.size + 3 ≤ w3.heap.size := Nat.le_trans hz2 hb3.size
    obtain ⟨W4, hW4⟩ : ∃ W4, W4 = (w3.alloc (.cells Try.zeroCells114 114)).setRow w3.heap.size (arr row) := ⟨_, rfl⟩
    have Hz4 : Hid (W4.heap.size = w3.heap.size + 1) := by show W4.heap.size = _; rw [hW4]; simp
    have HB4 : Hid (Below w.heap.size w W4) := by rw [hW4]; exact below_setRow2 ((HB2.out.trans (hb3.mono (by omega))).alloc (by omega) _) (by omega) _
    have Hr4 : Hid (RowAt W4 w3.heap.size 114 (arr row)) := by rw [hW4]; exact (RowAt.new w3 _ _).setRow _
    have hra4 : RowAt W4 w.heap.size 69 (numCells na p n c) := by rw [hW4]; exact ((Hra2.out.below hb3 (by omega)).alloc _).setRowOther _ (by omega)
    have hrb4 : RowAt W4 (w.heap.size + 1) 69 (numCells nb q m c2) := by rw [hW4]; exact ((Hrb2.out.below hb3 (by omega)).alloc _).setRowOther _ (by omega)
    have Hrr4 : Hid (RowAt W4 (w.heap.size + 1 + 1) 69 (numCells false none 0 0)) := by rw [hW4]; exact ((Hrr2.out.below hb3 (by omega)).alloc _).setRowOther _ (by omega)
    have h40 := hra4.num0
    have h41 := hra4.num1
    have h42 := hrb4.num0
    have h43 := hrb4.num1
    have Hnew := Lib.hid (RowAt.new w3 114 Try.zeroCells114)
    have HW4 := Lib.hid hW4
    have hnum := number_calls (na != nb) _ _ W4.drew (u32s_row (B := W4.drew.heap.size) (w := W4.drew) (cap := 65) (L := n + m) Hr4.out (by show _ < W4.heap.size; rw [Hz4.out]; omega) (by rw [Hsl.out]; omega) (by rw [Hsl.out]; decide))
    rw [Hres.out, Hrs.out.1, Hrs.out.2.1, Hrs.out.2.2] at hnum
    have Hnum := Lib.hid hnum
    have hw5 : (n : Int) + (m : Int) ≤ 65 := by omega
    have hw6 : IntKind.i64.wrap ((n : Int) + (m : Int)) = (n : Int) + (m : Int) := by rw [IntKind.wrap_i64]; omega
    have hw7 : (0 : Int) ≤ (n : Int) + (m : Int) := by omega
    have hw8 : ((n : Int) + (m : Int)).toNat = n + m := by omega
    clear hW4 hra4 hrb4 hb3 hnum h20 h21 h22 h23
    go_wp2_with (refine store_row rfl (.tmp 6) (.tmp 29) rfl w3.heap.size rfl row Hsl.out rfl 114 Try.zeroCells114 Hnew.out (by kernel_rfl) ?_; rw [← HW4.out])
    go_region_held3 (fun W => W.cell? ⟨w.heap.size, 0, none⟩ = some (.bool na) ∧ W.cell? ⟨w.heap.size, 1, none⟩ = some (.slice p n c) ∧ W.cell? ⟨w.heap.size + 1, 0, none⟩ = some (.bool nb) ∧ W.cell? ⟨w.heap.size + 1, 1, none⟩ = some (.slice q m c2)) (first | exact ⟨by assumption, by assumption, by assumption, by assumption⟩ | exact ⟨cell_set2 _ _ _ _ _ _ _ _ (by assumption) (by show w.heap.size ≠ _; omega), cell_set2 _ _ _ _ _ _ _ _ (by assumption) (by show w.heap.size ≠ _; omega), cell_set2 _ _ _ _ _ _ _ _ (by assumption) (by show w.heap.size + 1 ≠ _; omega), cell_set2 _ _ _ _ _ _ _ _ (by assumption) (by show w.heap.size + 1 ≠ _; omega)⟩)
      (first | (go_at_call 74; refine Hnum.out.mono ?_; rintro e w5 ⟨s5, rfl, hu5, hb5⟩; have hU5 := hu5; obtain ⟨p5, c5, rfl, -, -⟩ := hU5; have hr5 := (RowAt.drew Hrr4.out).below hb5 (by show _ < W4.heap.size; rw [Hz4.out]; omega); have hr50 := hr5.num0; have hr51 := hr5.num1; have hf50 := hr5.frozen 0; have hf51 := hr5.frozen 1; have HR5 := Lib.hid hr5; have HU5 := Lib.hid hu5; have HB5 := Lib.hid hb5; have hk1 : w5.cell? ⟨w.heap.size, 0, none⟩ = some (.bool na) := (hb5.cell (p := ⟨w.heap.size, 0, none⟩) (by show _ < W4.heap.size; rw [Hz4.out]; show w.heap.size < _; omega)).trans h40; have hk2 : w5.cell? ⟨w.heap.size, 1, none⟩ = some (.slice p n c) := (hb5.cell (p := ⟨w.heap.size, 1, none⟩) (by show _ < W4.heap.size; rw [Hz4.out]; show w.heap.size < _; omega)).trans h41; have hk3 : w5.cell? ⟨w.heap.size + 1, 0, none⟩ = some (.bool nb) := (hb5.cell (p := ⟨w.heap.size + 1, 0, none⟩) (by show _ < W4.heap.size; rw [Hz4.out]; show w.heap.size + 1 < _; omega)).trans h42; have hk4 : w5.cell? ⟨w.heap.size + 1, 1, none⟩ = some (.slice q m c2) := (hb5.cell (p := ⟨w.heap.size + 1, 1, none⟩) (by show _ < W4.heap.size; rw [Hz4.out]; show w.heap.size + 1 < _; omega)).trans h43; clear hr5 hu5 hb5))
    go_wp2
    have hfin := finNum (g := w.heap.size + 1 + 1) (Below.drew HB4.out) (by omega) (by show _ < W4.heap.size; rw [Hz4.out]; omega) HU5.out HB5.out (turned_set2 w5 _ (.bool (zneg (za * zb))) (.slice p5 (zdigs (za * zb)).length c5))
    exact ret_num rfl (w.heap.size + 1 + 1) rfl _ rfl _ _ _ _ _ (numCells_set HR5.out rfl _ _ _ _) ⟨_, rfl, hfin.1, hfin.2⟩
end Go.Proofs.Ytmoclgpdcnjacaa
namespace Go.Proofs.Ytmoclgpdcnjacaa
open Go Go.RowKit Go.Shelf
def Gives (w : World) (z : Int) (neg : Bool) (e : Ending) (w' : World) : Prop :=
  ∃ p n c, e = .returned (.tuple #[.agg #[.bool neg, .slice p n c], .bool true]) ∧ ZNum w'.heap.size w' (.agg #[.bool neg, .slice p n c]) z ∧ Ext w w'
def Gives1 (w : World) (z : Int) (neg : Bool) (e : Ending) (w' : World) : Prop :=
  ∃ p n c, e = .returned (.agg #[.bool neg, .slice p n c]) ∧ ZNum w'.heap.size w' (.agg #[.bool neg, .slice p n c]) z ∧ Ext w w'
section
variable {w w' : World} {va vb v : Value} {za zb z : Int} {neg : Bool}
theorem ZPost.gives {e : Ending} (h : ZPost w z e w') (hn : decide (z < 0) = neg) (hl : z.natAbs < B32 ^ 64) : Gives w z neg e w' := by
  subst hn
  obtain ⟨s, rfl, hu, hb⟩ := h
  unfold zneg zdigs zok at *
  rw [if_pos hl] at hu ⊢
  have hu' := hu
  obtain ⟨p, c, rfl, -, -⟩ := hu'
  exact ⟨p, _, c, by simp [hl], ⟨⟨_, rfl, hu.u32s⟩, hl⟩, hb⟩
theorem sub_gives (ha : ZNum w.heap.size w va za) (hb : ZNum w.heap.size w vb zb) (hz : za - zb = z) (hn : decide (z < 0) = neg) (hl : z.natAbs < B32 ^ 64) : Calls Try.prog 54 #[va, vb] w (Gives w z neg) := by
  subst hz; exact (sub_calls va vb za zb w ha hb).mono fun _ _ h => ZPost.gives h hn hl
theorem mul_gives (ha : ZNum w.heap.size w va za) (hb : ZNum w.heap.size w vb zb) (hz : za * zb = z) (hn : decide (z < 0) = neg) (hl : z.natAbs < B32 ^ 64) : Calls Try.prog 71 #[va, vb] w (Gives w z neg) := by
  subst hz; exact (mul_calls va vb za zb w ha hb).mono fun _ _ h => ZPost.gives h hn hl
theorem of_gives (z : Int) (h1 : -9223372036854775808 ≤ z) (h2 : z ≤ 9223372036854775807) (hn : decide (z < 0) = neg) (w : World) : Calls Try.prog 57 #[.int .i64 z] w (Gives1 w z neg) :=
  (of_calls z h1 h2 w).mono fun e w' h => by
    subst hn
    obtain ⟨s, rfl, hu, hb⟩ := h
    have hu' := hu
    obtain ⟨p, c, rfl, -, -⟩ := hu'
    exact ⟨p, _, c, rfl, ⟨⟨_, rfl, hu.u32s⟩, by have := pow64; omega⟩, hb⟩
end
end Go.Proofs.Ytmoclgpdcnjacaa
namespace Go.Proofs.Ytmoclgpdcnjacaa
open Go Go.RowKit Go.Shelf
def u32l (ds : List Nat) : List Value := ds.map fun (d : Nat) => Value.int .u32 (d : Int)
theorem u32l_get {ds : List Nat} {j : Nat} (h : j < ds.length) : (u32l ds)[j]? = some (.int .u32 ((ds[j]?.getD 0 : Nat) : Int)) := by simp [u32l, h]
def Owns (w : World) (base : Nat) (v : Value) (ds : List Nat) : Prop := w.ownsRow base 112 1 v ds.length (u32l ds)
theorem Owns.u32s {w : World} {base : Nat} {v : Value} {ds : List Nat} (h : Owns w base v ds) (hm : ds.length ≤ maxLen) : U32s w.heap.size w v ds := by
  obtain ⟨hl, ⟨rfl, h0⟩ | ⟨g, cap, cur, rfl, hb, hc, hn, hcm, hcs, hx⟩⟩ := id h
  · obtain rfl : ds = [] := List.length_eq_zero_iff.1 h0
    exact ⟨none, 0, rfl, hm, fun hh => absurd hh (by simp)⟩
  · refine ⟨some ⟨g, 0, none⟩, cap, rfl, hm, fun _ => ⟨g, 0, rfl, (Array.getElem?_eq_some_iff.1 hc).1, fun j hj => ?_⟩⟩
    have := World.ownsRow.cellAt h j (by omega)
    rw [Nat.zero_add, this, u32l_get hj]
theorem Owns.nil (w : World) (base : Nat) : Owns w base (.slice none 0 0) [] := World.ownsRow_nil _ _ _ _
theorem Owns.alloc {w : World} {base : Nat} {v : Value} {ds : List Nat} (h : Owns w base v ds) (o : Obj) : Owns (w.alloc o) base v ds := World.ownsRow.alloc h o
theorem U32s.setNum {B : Nat} {w : World} {v : Value} {ds : List Nat} {g : Nat} {t : TypeId} {neg : Bool} {p : Option Addr} {n c : Nat} (h : U32s B w v ds) (hr : RowAt w g t (numCells neg p n c)) (cs : Array Value) : U32s B (w.setRow g cs) v ds := by
  obtain ⟨q, cap, rfl, hl, hc⟩ := h
  refine ⟨q, cap, rfl, hl, fun h0 => ?_⟩
  obtain ⟨b, off, rfl, hb, hcs⟩ := hc h0
  have hne : b ≠ g := fun e => by
    subst e
    have h1 := hcs 0 h0
    rw [hr.cell] at h1
    rcases off with _ | _ | k
    · cases h1
    · cases h1
    · rw [Nat.add_zero] at h1; cases h1
  exact ⟨b, off, rfl, hb, fun j hj => (World.cell?_of_block (setRow_other w g b cs hne)).trans (hcs j hj)⟩
theorem ZNum.setNum {B : Nat} {w : World} {v : Value} {z : Int} {g : Nat} {t : TypeId} {neg : Bool} {p : Option Addr} {n c : Nat} (h : ZNum B w v z) (hr : RowAt w g t (numCells neg p n c)) (cs : Array Value) : ZNum B (w.setRow g cs) v z := by
  obtain ⟨⟨s, rfl, hu⟩, hl⟩ := h
  exact ⟨⟨s, rfl, hu.setNum hr cs⟩, hl⟩
theorem setRow_size (w : World) (g : Nat) (cs : Array Value) : (w.setRow g cs).heap.size = w.heap.size := by simp [World.setRow]
theorem ext_setRow {w W : World} (h : Ext w W) {g : Nat} (hg : w.heap.size ≤ g) (cs : Array Value) : Ext w (W.setRow g cs) := below_setRow2 h hg cs
end Go.Proofs.Ytmoclgpdcnjacaa
namespace Go.Proofs.Ytmoclgpdcnjacaa
open Go Go.RowKit Go.Shelf
def I64s (B : Nat) (w : World) (v : Value) (zs : List Int) : Prop :=
  ∃ (p : Option Addr) (cap : Nat), v = .slice p zs.length cap ∧ zs.length ≤ maxLen ∧ (0 < zs.length → ∃ b off, p = some ⟨b, off, none⟩ ∧ b < B ∧ ∀ j, j < zs.length → w.cell? ⟨b, off + j, none⟩ = some (.int .i64 (zs[j]?.getD 0)))
theorem I64s.below {B : Nat} {w w' : World} {v : Value} {zs : List Int} (h : I64s B w v zs) (hb : Below B w w') : I64s B w' v zs := by
  obtain ⟨p, cap, rfl, hl, hc⟩ := h
  refine ⟨p, cap, rfl, hl, fun h0 => ?_⟩
  obtain ⟨b, off, rfl, hB, hc⟩ := hc h0
  exact ⟨b, off, rfl, hB, fun j hj => (hb.cell (p := ⟨b, off + j, none⟩) hB).trans (hc j hj)⟩
theorem I64s.mono {B B' : Nat} {w : World} {v : Value} {zs : List Int} (h : I64s B w v zs) (hb : B ≤ B') : I64s B' w v zs := by
  obtain ⟨p, cap, rfl, hl, hc⟩ := h
  refine ⟨p, cap, rfl, hl, fun h0 => ?_⟩
  obtain ⟨b, off, rfl, hB, hc⟩ := hc h0
  exact ⟨b, off, rfl, by omega, hc⟩
end Go.Proofs.Ytmoclgpdcnjacaa
namespace Go.Proofs.Ytmoclgpdcnjacaa
open Go Go.RowKit Go.Shelf
structure Keeps (B g : Nat) (w w' : World) : Prop where
  os : w'.os = w.os
  tape : w'.tape = w.tape
  output : w'.output = w.output
  size : w.heap.size ≤ w'.heap.size
  block : ∀ k, k < B → k ≠ g → w'.heap[k]? = w.heap[k]?
theorem Keeps.refl (B g : Nat) (w : World) : Keeps B g w w := ⟨rfl, rfl, rfl, Nat.le_refl _, fun _ _ _ => rfl⟩
theorem Keeps.trans {B g : Nat} {a b c : World} (h : Keeps B g a b) (k : Keeps B g b c) : Keeps B g a c :=
  ⟨k.os.trans h.os, k.tape.trans h.tape, k.output.trans h.output, Nat.le_trans h.size k.size, fun i hi hg => (k.block i hi hg).trans (h.block i hi hg)⟩
theorem Keeps.below {B g : Nat} {a b c : World} (h : Keeps B g a b) (k : Below B b c) : Keeps B g a c :=
  ⟨k.os.trans h.os, k.tape.trans h.tape, k.output.trans h.output, Nat.le_trans h.size k.size, fun i hi hg => (k.block i hi).trans (h.block i hi hg)⟩
theorem Keeps.setCell {B g : Nat} {a w : World} (h : Keeps B g a w) {p : Addr} (hp : p.block = g ∨ B ≤ p.block) (u : Value) : Keeps B g a (w.setCell p u) :=
  ⟨h.os, h.tape, h.output, by simp [World.setCell]; exact h.size, fun k hk hg => (heap_setCell_other w p k u (by rcases hp with e | e <;> omega)).trans (h.block k hk hg)⟩
theorem Keeps.cell {B g : Nat} {w w' : World} (h : Keeps B g w w') {p : Addr} (hp : p.block < B) (hg : p.block ≠ g) : w'.cell? p = w.cell? p := World.cell?_of_block (h.block p.block hp hg)
theorem Keeps.row {B g : Nat} {w w' : World} (h : Keeps B g w w') {k : Nat} {t : TypeId} {cs : Array Value} (hr : RowAt w k t cs) (hp : k < B) (hg : k ≠ g) : RowAt w' k t cs := (h.block k hp hg).trans hr
theorem Keeps.mono {B B' g : Nat} {w w' : World} (h : Keeps B g w w') (hb : B' ≤ B) : Keeps B' g w w' := ⟨h.os, h.tape, h.output, h.size, fun k hk hg => h.block k (by omega) hg⟩
section
variable (g o : Nat) (Y R : List Nat)
end
structure Out (o : Nat) (Y R : List Nat) (g b : Nat) (Z : List Nat) : Prop where
  hb : b ≤ 1
  hg : g < B32
  digits : Digits Z
  len : Z.length = R.length
  same : ∀ j, j < o ∨ o + Y.length < j → Z[j]? = R[j]?
  eq : val Z + B32 ^ o * (g * val Y) = val R + B32 ^ (o + Y.length + 1) * b
  big : val (R.drop o) / val Y ≤ g
theorem getD_congr {a b : List Nat} {j : Nat} (h : a[j]? = b[j]?) : a[j]?.getD 0 = b[j]?.getD 0 := by rw [h]
theorem take_congr {a b : List Nat} {o : Nat} (hl : a.length = b.length) (h : ∀ j, j < o → a[j]? = b[j]?) : a.take o = b.take o := by
  apply List.ext_getElem?
  intro j
  rw [List.getElem?_take, List.getElem?_take]
  split
  · exact h j ‹_›
  · rfl
theorem Out.seg {o g b : Nat} {Y R Z : List Nat} (h : Out o Y R g b Z) (hR : o + Y.length < R.length) (hz : ∀ j, o + Y.length < j → R[j]?.getD 0 = 0) :
    val (Z.drop o) + g * val Y = val (R.drop o) + B32 ^ (Y.length + 1) * b ∧ val (Z.drop o) < B32 ^ (Y.length + 1) := by
  constructor
  · have h1 := val_take_drop Z (s := o) (by rw [h.len]; omega)
    have h2 := val_take_drop R (s := o) (by omega)
    have h3 : Z.take o = R.take o := take_congr h.len (fun j hj => h.same j (.inl hj))
    have h4 := h.eq
    rw [h1, h2, h3, show o + Y.length + 1 = o + (Y.length + 1) by omega, Nat.pow_add, Nat.mul_assoc (B32 ^ o)] at h4
    have h5 : B32 ^ o * (val (Z.drop o) + g * val Y) = B32 ^ o * (val (R.drop o) + B32 ^ (Y.length + 1) * b) := by
      rw [Nat.mul_add, Nat.mul_add]; omega
    exact Nat.eq_of_mul_eq_mul_left (Nat.pow_pos B32_pos) h5
  · have hd : Digits ((Z.drop o).take (Y.length + 1)) := (h.digits.drop o).take _
    have h1 := val_lt hd
    rw [val_take_of_zero (ds := Z.drop o) (n := Y.length + 1) (fun j hj => by
      rw [List.getElem?_drop, getD_congr (h.same (o + j) (.inr (by omega)))]
      exact hz (o + j) (by omega))] at h1
    exact Nat.lt_of_lt_of_le h1 (Nat.pow_le_pow_right B32_pos (by simp; omega))
theorem Out.done {o g : Nat} {Y R Z : List Nat} (h : Out o Y R g 0 Z) (hY : 0 < val Y) (hR : o + Y.length < R.length) (hz : ∀ j, o + Y.length < j → R[j]?.getD 0 = 0) :
    g = val (R.drop o) / val Y ∧ val (Z.drop o) = val (R.drop o) % val Y := by
  obtain ⟨h1, -⟩ := h.seg hR hz
  rw [Nat.mul_zero, Nat.add_zero] at h1
  have h2 : g ≤ val (R.drop o) / val Y := by rw [Nat.le_div_iff_mul_le hY]; omega
  have h3 : g = val (R.drop o) / val Y := Nat.le_antisymm h2 h.big
  refine ⟨h3, ?_⟩
  have := Nat.mod_add_div (val (R.drop o)) (val Y)
  rw [← h3, Nat.mul_comm] at this
  omega
end Go.Proofs.Ytmoclgpdcnjacaa
namespace Go.Proofs.Ytmoclgpdcnjacaa
open Go Go.RowKit
def Done (listed : Array Bool) (j : Nat) : Prop := listed.getD j false = true
theorem done_set {listed : Array Bool} {i : Nat} (hi : i < listed.size) : Done (listed.setIfInBounds i true) = fun j => j = i ∨ Done listed j := by
  funext j
  apply propext
  unfold Done
  by_cases h : j = i
  · subst h; simp [hi]
  · have : i ≠ j := fun e => h e.symm
    simp [Array.getElem?_setIfInBounds, this, h]
theorem ready_mem {ops : Array Oper} {listed : Array Bool} {i : Nat} (h : i ∈ Region.ready .any ops listed) : ∃ o, ops[i]? = some o ∧ ¬ Done listed i ∧ listed.getD i true = false ∧ ∀ e ∈ o.after, Region.binds .any e = true → Done listed e.on := by
  unfold Region.ready at h
  rw [List.mem_filter] at h
  obtain ⟨h1, h2⟩ := h
  have hi : i < ops.size := List.mem_range.1 h1
  obtain ⟨o, ho⟩ : ∃ o, ops[i]? = some o := ⟨_, Array.getElem?_eq_getElem hi⟩
  rw [ho] at h2
  simp only [Bool.and_eq_true, Bool.not_eq_true', Option.map_some, Option.getD_some] at h2
  refine ⟨o, ho, ?_, h2.1, fun e he hb => ?_⟩
  · unfold Done
    intro hd
    have h3 := h2.1
    by_cases hl : i < listed.size
    · simp [hl] at h3 hd; rw [h3] at hd; cases hd
    · simp [hl] at h3
  · have := (Array.all_eq_true_iff_forall_mem.1 h2.2) e he
    simpa [hb, Done] using this
def left (listed : Array Bool) : Nat := (listed.toList.filter (· == false)).length
theorem left_set_aux : ∀ (l : List Bool) (i : Nat), l[i]? = some false → ((l.set i true).filter (· == false)).length + 1 = (l.filter (· == false)).length
  | [], i, h => by simp at h
  | b :: l, 0, h => by simp at h; subst h; simp
  | b :: l, i + 1, h => by
    have := left_set_aux l i (by simpa using h)
    cases b <;> simp at this ⊢ <;> omega
theorem left_set {listed : Array Bool} {i : Nat} (h : listed.getD i true = false) : left (listed.setIfInBounds i true) + 1 = left listed := by
  have hi : i < listed.size := by
    apply Classical.byContradiction
    intro hn
    simp [hn] at h
  unfold left
  rw [Array.toList_setIfInBounds]
  refine left_set_aux _ _ ?_
  simp [hi] at h
  simp [hi, h]
theorem wanted_of_none {o : Oper} (h : o.guard = none) (y : Nat → Option Bool) : Region.wanted o y = true := by simp [Region.wanted, h]
section
variable {P : Program} {ops : Array Oper} {Q : Exit → Act → World → Prop} (Inv : (Nat → Prop) → Act → World → Prop)
end
section
variable {F : Fence} {n : Nat} {P : Program} {ops : Array Oper} {Q : Exit → Act → World → Prop} (Inv : (Nat → Prop) → Act → World → Prop)
end
end Go.Proofs.Ytmoclgpdcnjacaa
namespace Go.Proofs.Ytmoclgpdcnjacaa
open Go Go.RowKit Go.Shelf
section
variable {o : Oper} {a : Act} {w : World} {K : Act → World → Prop} {Q : Exit → Act → World → Prop}
theorem wp_of_run {v : Value} {w' : World} (h : (execOp a.eval o).run Try.prog w = .ok (.value v) w') (hk : K (a.put o.dst v) w') : o.wp Try.prog a w K Q := by
  unfold Oper.wp; rw [h]; exact hk
theorem run_enter2 (f : FuncId) (x y : Operand) (ts : Array TypeId) (ho : o.op = .call { callee := .value (.func f), args := #[x, y], argTypes := ts }) (u1 u2 : Value) (h1 : a.eval x = u1) (h2 : a.eval y = u2) (hf : ∀ args w, (callFunc f args).run Try.prog w = .ok (.enter f args) w) :
    (execOp a.eval o).run Try.prog w = .ok (.enter f #[u1, u2]) w := by
  have ef : a.eval (.func f) = .func (.func f) #[] #[] := rfl
  have hm : Array.map a.eval #[x, y] = #[u1, u2] := by rw [← h1, ← h2]; simp
  unfold execOp
  simp only [ho, resolve, Deferred.ofValue, invoke, ef, hm]
  simp [hf]
end
end Go.Proofs.Ytmoclgpdcnjacaa
namespace Go.Proofs.Ytmoclgpdcnjacaa
open Go Go.RowKit Go.Shelf
attribute [local go_sem] Oper.semAt_some
section
variable {o : Oper} {a : Act} {w : World} {K : Act → World → Prop} {Q : Exit → Act → World → Prop}
end
def Slot (D6 D8 : Prop) (lo : Nat) (v : Value) (row : Array Value) (w : World) : Prop := D6 → ∃ g cs, v = .pointer (some ⟨g, 0, none⟩) ∧ lo ≤ g ∧ cs.size = 65 ∧ RowAt w g 114 cs ∧ (D8 → cs = row)
theorem Slot.move {D6 D8 D6' D8' : Prop} {lo : Nat} {v : Value} {row : Array Value} {w w' : World} (h : Slot D6 D8 lo v row w) (h6 : D6' → D6) (h8 : D8' → D8) (hw : ∀ g cs, v = .pointer (some ⟨g, 0, none⟩) → RowAt w g 114 cs → RowAt w' g 114 cs) : Slot D6' D8' lo v row w' := fun h6' => by
  obtain ⟨g, cs, h1, h2, h3, h4, h5⟩ := h (h6 h6')
  exact ⟨g, cs, h1, h2, h3, hw g cs h1 h4, fun h => h5 (h8 h)⟩
def Pick (D : Nat → Prop) (W4 : World) (X Y bv : Value) (sx sy : Array Value) (v22 v23 v24 v25 v26 v27 v7 v8 : Value) (w : World) : Prop :=
  Below W4.heap.size W4 w ∧ (D 0 → v22 = X) ∧ (D 1 → v23 = bv) ∧ (D 2 → v24 = .agg sx) ∧ (D 3 → v25 = Y) ∧ (D 4 → v26 = bv) ∧ (D 5 → v27 = .agg sy) ∧
    Slot (D 6) (D 8) W4.heap.size v7 sx w ∧ Slot (D 7) (D 9) W4.heap.size v8 sy w ∧ (D 6 → D 7 → v7 ≠ v8) ∧ (D 8 → D 6) ∧ (D 9 → D 7)
abbrev And' (i : Nat) (D : Nat → Prop) : Nat → Prop := fun j => j = i ∨ D j
section
variable {D : Nat → Prop} {W4 : World} {X Y bv : Value} {sx sy : Array Value} {v22 v23 v24 v25 v26 v27 v7 v8 : Value} {w w' : World}
theorem Pick.s0 (h : Pick D W4 X Y bv sx sy v22 v23 v24 v25 v26 v27 v7 v8 w) : Pick (And' 0 D) W4 X Y bv sx sy X v23 v24 v25 v26 v27 v7 v8 w := by
  simpa [Pick, And'] using ⟨h.1, h.2.2⟩
theorem Pick.s1 (h : Pick D W4 X Y bv sx sy v22 v23 v24 v25 v26 v27 v7 v8 w) : Pick (And' 1 D) W4 X Y bv sx sy v22 bv v24 v25 v26 v27 v7 v8 w := by
  simpa [Pick, And'] using ⟨h.1, h.2.1, h.2.2.2⟩
theorem Pick.s3 (h : Pick D W4 X Y bv sx sy v22 v23 v24 v25 v26 v27 v7 v8 w) : Pick (And' 3 D) W4 X Y bv sx sy v22 v23 v24 Y v26 v27 v7 v8 w := by
  simpa [Pick, And'] using ⟨h.1, h.2.1, h.2.2.1, h.2.2.2.1, h.2.2.2.2.2⟩
theorem Pick.world (h : Pick D W4 X Y bv sx sy v22 v23 v24 v25 v26 v27 v7 v8 w) (hb : Below w.heap.size w w') : Pick D W4 X Y bv sx sy v22 v23 v24 v25 v26 v27 v7 v8 w' := by
  obtain ⟨h1, h2, h3, h4, h5, h6, h7, h8, h9, h10⟩ := h
  exact ⟨h1.trans (hb.mono h1.size), h2, h3, h4, h5, h6, h7, h8.move id id (fun g cs _ h => h.below hb h.lt), h9.move id id (fun g cs _ h => h.below hb h.lt), h10⟩
theorem Pick.s2 (h : Pick D W4 X Y bv sx sy v22 v23 v24 v25 v26 v27 v7 v8 w) (hb : Below w.heap.size w w') : Pick (And' 2 D) W4 X Y bv sx sy v22 v23 (.agg sx) v25 v26 v27 v7 v8 w' := by
  have h := h.world hb
  simpa [Pick, And'] using ⟨h.1, h.2.1, h.2.2.1, h.2.2.2.2⟩
theorem Pick.s5 (h : Pick D W4 X Y bv sx sy v22 v23 v24 v25 v26 v27 v7 v8 w) (hb : Below w.heap.size w w') : Pick (And' 5 D) W4 X Y bv sx sy v22 v23 v24 v25 v26 (.agg sy) v7 v8 w' := by
  have h := h.world hb
  simpa [Pick, And'] using ⟨h.1, h.2.1, h.2.2.1, h.2.2.2.1, h.2.2.2.2.1, h.2.2.2.2.2.1, h.2.2.2.2.2.2.2⟩
end
structure BackFix (h0 h3 gq gc g7 D b n : Nat) (Qt : List Nat) (W : World) : Prop where
  q1 : RowAt W (h0 + 1) 114 Try.zeroCells114
  q2 : RowAt W (h0 + 1 + 1) 114 Try.zeroCells114
  by_ : Boxed W h3 3 (.int .i64 b)
  q : RowAt W gq 114 (arr Qt)
  it : Boxed W (gc + 1) 67 (.slice (some ⟨g7, 0, none⟩) (n + 1) 65)
  d : W.heap[D]? = some (.deferred (some []))
theorem BackFix.move {h0 h3 gq gc g7 D b n : Nat} {Qt : List Nat} {W W' : World} (h : BackFix h0 h3 gq gc g7 D b n Qt W) (hne : ∀ k, k = h0 + 1 ∨ k = h0 + 1 + 1 ∨ k = h3 ∨ k = gq ∨ k = gc + 1 ∨ k = D → k ≠ g7 ∧ k ≠ gc)
    (hk : ∀ k, k < W.heap.size → k ≠ g7 → k ≠ gc → W'.heap[k]? = W.heap[k]?) : BackFix h0 h3 gq gc g7 D b n Qt W' := by
  have go : ∀ k, k = h0 + 1 ∨ k = h0 + 1 + 1 ∨ k = h3 ∨ k = gq ∨ k = gc + 1 ∨ k = D → k < W.heap.size → W'.heap[k]? = W.heap[k]? := fun k hk' hl => hk k hl (hne k hk').1 (hne k hk').2
  exact ⟨(go _ (by simp) h.q1.lt).trans h.q1, (go _ (by simp) h.q2.lt).trans h.q2, (go _ (by simp) h.by_.lt).trans h.by_, (go _ (by simp) h.q.lt).trans h.q, (go _ (by simp) h.it.lt).trans h.it, (go _ (by simp) (Array.getElem?_eq_some_iff.1 h.d).1).trans h.d⟩
def Tk (D : Nat → Prop) (kv ysl mv k1 k2 s47 s50 qv ptr : Value) (W0 : World) (P1 P2 : World → Prop) (v40 v41 v42 v43 v44 v45 v46 v47 v48 v49 v50 v51 v52 : Value) (w : World) : Prop :=
  (D 0 → v40 = kv) ∧ (D 1 → v41 = kv) ∧ (D 2 → v42 = kv) ∧ (D 3 → v43 = ysl) ∧ (D 4 → v44 = mv) ∧ (D 5 → v45 = k1) ∧ (D 6 → v46 = k2) ∧ (D 7 → v47 = s47) ∧ (D 8 → v48 = ysl) ∧ (D 9 → v49 = mv) ∧ (D 10 → v50 = s50) ∧ (D 11 → v51 = qv) ∧ (D 12 → v52 = ptr) ∧ (¬ D 11 → w = W0) ∧ (D 11 → ¬ D 13 → P1 w) ∧ (D 13 → P2 w) ∧ (D 13 → D 11)
section
variable {D : Nat → Prop} {kv ysl mv k1 k2 s47 s50 qv ptr : Value} {W0 : World} {P1 P2 : World → Prop} {v40 v41 v42 v43 v44 v45 v46 v47 v48 v49 v50 v51 v52 : Value} {w : World}
theorem Tk.s0 (h : Tk D kv ysl mv k1 k2 s47 s50 qv ptr W0 P1 P2 v40 v41 v42 v43 v44 v45 v46 v47 v48 v49 v50 v51 v52 w) : Tk (And' 0 D) kv ysl mv k1 k2 s47 s50 qv ptr W0 P1 P2 kv v41 v42 v43 v44 v45 v46 v47 v48 v49 v50 v51 v52 w := by
  obtain ⟨c0, c1, c2, c3, c4, c5, c6, c7, c8, c9, c10, c11, c12, hw, hp, hq, hd⟩ := h
  refine ⟨?_, ?_, ?_, ?_, ?_, ?_, ?_, ?_, ?_, ?_, ?_, ?_, ?_, ?_, ?_, ?_, ?_⟩ <;> simp only [And'] <;> first | exact fun _ => rfl | (simp; assumption) | (simp; done)
theorem Tk.s1 (h : Tk D kv ysl mv k1 k2 s47 s50 qv ptr W0 P1 P2 v40 v41 v42 v43 v44 v45 v46 v47 v48 v49 v50 v51 v52 w) : Tk (And' 1 D) kv ysl mv k1 k2 s47 s50 qv ptr W0 P1 P2 v40 kv v42 v43 v44 v45 v46 v47 v48 v49 v50 v51 v52 w := by
  obtain ⟨c0, c1, c2, c3, c4, c5, c6, c7, c8, c9, c10, c11, c12, hw, hp, hq, hd⟩ := h
  refine ⟨?_, ?_, ?_, ?_, ?_, ?_, ?_, ?_, ?_, ?_, ?_, ?_, ?_, ?_, ?_, ?_, ?_⟩ <;> simp only [And'] <;> first | exact fun _ => rfl | (simp; assumption) | (simp; done)
theorem Tk.s2 (h : Tk D kv ysl mv k1 k2 s47 s50 qv ptr W0 P1 P2 v40 v41 v42 v43 v44 v45 v46 v47 v48 v49 v50 v51 v52 w) : Tk (And' 2 D) kv ysl mv k1 k2 s47 s50 qv ptr W0 P1 P2 v40 v41 kv v43 v44 v45 v46 v47 v48 v49 v50 v51 v52 w := by
  obtain ⟨c0, c1, c2, c3, c4, c5, c6, c7, c8, c9, c10, c11, c12, hw, hp, hq, hd⟩ := h
  refine ⟨?_, ?_, ?_, ?_, ?_, ?_, ?_, ?_, ?_, ?_, ?_, ?_, ?_, ?_, ?_, ?_, ?_⟩ <;> simp only [And'] <;> first | exact fun _ => rfl | (simp; assumption) | (simp; done)
theorem Tk.s3 (h : Tk D kv ysl mv k1 k2 s47 s50 qv ptr W0 P1 P2 v40 v41 v42 v43 v44 v45 v46 v47 v48 v49 v50 v51 v52 w) : Tk (And' 3 D) kv ysl mv k1 k2 s47 s50 qv ptr W0 P1 P2 v40 v41 v42 ysl v44 v45 v46 v47 v48 v49 v50 v51 v52 w := by
  obtain ⟨c0, c1, c2, c3, c4, c5, c6, c7, c8, c9, c10, c11, c12, hw, hp, hq, hd⟩ := h
  refine ⟨?_, ?_, ?_, ?_, ?_, ?_, ?_, ?_, ?_, ?_, ?_, ?_, ?_, ?_, ?_, ?_, ?_⟩ <;> simp only [And'] <;> first | exact fun _ => rfl | (simp; assumption) | (simp; done)
theorem Tk.s5 (h : Tk D kv ysl mv k1 k2 s47 s50 qv ptr W0 P1 P2 v40 v41 v42 v43 v44 v45 v46 v47 v48 v49 v50 v51 v52 w) : Tk (And' 5 D) kv ysl mv k1 k2 s47 s50 qv ptr W0 P1 P2 v40 v41 v42 v43 v44 k1 v46 v47 v48 v49 v50 v51 v52 w := by
  obtain ⟨c0, c1, c2, c3, c4, c5, c6, c7, c8, c9, c10, c11, c12, hw, hp, hq, hd⟩ := h
  refine ⟨?_, ?_, ?_, ?_, ?_, ?_, ?_, ?_, ?_, ?_, ?_, ?_, ?_, ?_, ?_, ?_, ?_⟩ <;> simp only [And'] <;> first | exact fun _ => rfl | (simp; assumption) | (simp; done)
end
structure DivFix (h0 h3 gq g8 pl b : Nat) (ysl : Value) (Y : List Nat) (W : World) : Prop where
  y : Boxed W h0 67 ysl
  q1 : RowAt W (h0 + 1) 114 Try.zeroCells114
  q2 : RowAt W (h0 + 1 + 1) 114 Try.zeroCells114
  by_ : Boxed W h3 3 (.int .i64 b)
  r8 : RowAt W g8 114 (arr Y)
  it : Boxed W (gq + 1) 67 (.slice (some ⟨gq, 0, none⟩) pl 65)
theorem DivFix.move {h0 h3 gq g8 pl b : Nat} {ysl : Value} {Y : List Nat} {W W' : World} (h : DivFix h0 h3 gq g8 pl b ysl Y W) (g7 : Nat) (hne : ∀ k, k = h0 ∨ k = h0 + 1 ∨ k = h0 + 1 + 1 ∨ k = h3 ∨ k = g8 ∨ k = gq + 1 → k ≠ g7 ∧ k ≠ gq)
    (hk : ∀ k, k < W.heap.size → k ≠ g7 → k ≠ gq → W'.heap[k]? = W.heap[k]?) : DivFix h0 h3 gq g8 pl b ysl Y W' := by
  have go : ∀ k, k = h0 ∨ k = h0 + 1 ∨ k = h0 + 1 + 1 ∨ k = h3 ∨ k = g8 ∨ k = gq + 1 → k < W.heap.size → W'.heap[k]? = W.heap[k]? := fun k hk' hl => hk k hl (hne k hk').1 (hne k hk').2
  exact ⟨(go _ (by simp) h.y.lt).trans h.y, (go _ (by simp) h.q1.lt).trans h.q1, (go _ (by simp) h.q2.lt).trans h.q2, (go _ (by simp) h.by_.lt).trans h.by_, (go _ (by simp) h.r8.lt).trans h.r8, (go _ (by simp) h.it.lt).trans h.it⟩
end Go.Proofs.Ytmoclgpdcnjacaa
namespace Go.Proofs.Ytmoclgpdcnjacaa
open Go Go.RowKit Go.Shelf
section
variable {o : Oper} {a : Act} {w : World}
theorem run_enter1 (f : FuncId) (x : Operand) (ts : Array TypeId) (ho : o.op = .call { callee := .value (.func f), args := #[x], argTypes := ts }) (u1 : Value) (h1 : a.eval x = u1) (hf : ∀ args w, (callFunc f args).run Try.prog w = .ok (.enter f args) w) :
    (execOp a.eval o).run Try.prog w = .ok (.enter f #[u1]) w := by
  have ef : a.eval (.func f) = .func (.func f) #[] #[] := rfl
  have hm : Array.map a.eval #[x] = #[u1] := by rw [← h1]; simp
  unfold execOp
  simp only [ho, resolve, Deferred.ofValue, invoke, ef, hm]
  simp [hf]
end
end Go.Proofs.Ytmoclgpdcnjacaa
namespace Go.Proofs.Ytmoclgpdcnjacaa
open Go Go.RowKit Go.Shelf
def Two (W0 : World) (sx sy : Array Value) (pA pS pB pT : Prop) (v7 v8 : Value) (w : World) : Prop :=
  Below W0.heap.size W0 w ∧ Slot pA pS W0.heap.size v7 sx w ∧ Slot pB pT W0.heap.size v8 sy w ∧ (pA → pB → v7 ≠ v8) ∧ (pS → pA) ∧ (pT → pB)
section
variable {W0 : World} {sx sy : Array Value} {pA pS pB pT pA' pS' pB' pT' : Prop} {v7 v8 : Value} {w w' : World}
theorem Two.same (h : Two W0 sx sy pA pS pB pT v7 v8 w) (eA : pA' ↔ pA) (eS : pS' ↔ pS) (eB : pB' ↔ pB) (eT : pT' ↔ pT) (hb : Below w.heap.size w w') : Two W0 sx sy pA' pS' pB' pT' v7 v8 w' := by
  obtain ⟨h1, h2, h3, h4, h5, h6⟩ := h
  exact ⟨h1.trans (hb.mono h1.size), h2.move eA.1 eS.1 (fun g cs _ h => h.below hb h.lt), h3.move eB.1 eT.1 (fun g cs _ h => h.below hb h.lt), fun a b => h4 (eA.1 a) (eB.1 b), fun s => eA.2 (h5 (eS.1 s)), fun s => eB.2 (h6 (eT.1 s))⟩
end
section
variable {o : Oper} {a : Act} {w : World}
end
end Go.Proofs.Ytmoclgpdcnjacaa
namespace Go.Proofs.Ytmoclgpdcnjacaa
open Go Go.RowKit Go.Shelf
attribute [local go_sem] Oper.semAt_some
section
variable {o : Oper} {a : Act} {w : World}
theorem run_assign (x : Operand) (ho : o.op = .assign x) : (execOp a.eval o).run Try.prog w = .ok (.value (a.eval x)) w := by
  unfold execOp; rw [ho]; rfl
end
structure CdSt (X Y m n : Nat) (ra rb : List Nat) : Prop where
  dA : Digits ra
  dB : Digits rb
  lA : ra.length = 65
  lB : rb.length = 65
  m64 : m ≤ 64
  n64 : n ≤ 64
  zA : ∀ j, m ≤ j → ra[j]?.getD 0 = 0
  zB : ∀ j, n ≤ j → rb[j]?.getD 0 = 0
  top : 0 < n → rb[n - 1]?.getD 0 ≠ 0
  gcd : Nat.gcd (val ra) (val rb) = Nat.gcd X Y
theorem CdSt.start {xs ys : List Nat} (hx : Norm xs) (hy : Norm ys) (h1 : xs.length ≤ 64) (h2 : ys.length ≤ 64) :
    CdSt (val xs) (val ys) xs.length ys.length (xs ++ (List.replicate 65 0).drop xs.length) (ys ++ (List.replicate 65 0).drop ys.length) := by
  have hz : ∀ (l : List Nat), l.length ≤ 64 → ∀ j, l.length ≤ j → (l ++ (List.replicate 65 0).drop l.length)[j]?.getD 0 = 0 := fun l hl j hj => by
    rw [List.getElem?_append_right hj, List.drop_replicate, List.getElem?_replicate]
    split <;> rfl
  have hd : ∀ (l : List Nat), Digits l → Digits (l ++ (List.replicate 65 0).drop l.length) := fun l h => h.append ((digits_replicate 65).drop _)
  have hv : ∀ (l : List Nat), val (l ++ (List.replicate 65 0).drop l.length) = val l := fun l => by rw [val_append, List.drop_replicate, val_zeros]; simp
  refine ⟨hd _ hx.1, hd _ hy.1, by simp; omega, by simp; omega, h1, h2, hz _ h1, hz _ h2, fun h0 => ?_, by rw [hv, hv]⟩
  rw [List.getElem?_append_left (by omega)]
  exact (noZero_last h0).1 hy.2
end Go.Proofs.Ytmoclgpdcnjacaa
namespace Go.Proofs.Ytmoclgpdcnjacaa
open Go Go.RowKit Go.Shelf
structure Df (b0 : Nat) (na nb : Bool) (p : Option Addr) (n c : Nat) (q : Option Addr) (m c2 : Nat) (W : World) : Prop where
  ra : RowAt W b0 69 (numCells na p n c)
  rb : RowAt W (b0 + 1) 69 (numCells nb q m c2)
  r4 : RowAt W (b0 + 1 + 1) 69 (numCells false none 0 0)
  r5 : RowAt W (b0 + 1 + 1 + 1) 69 (numCells false none 0 0)
theorem Df.below {b0 : Nat} {na nb : Bool} {p : Option Addr} {n c : Nat} {q : Option Addr} {m c2 : Nat} {W W' : World} (h : Df b0 na nb p n c q m c2 W) (hb : Below W.heap.size W W') : Df b0 na nb p n c q m c2 W' :=
  ⟨h.ra.below hb h.ra.lt, h.rb.below hb h.rb.lt, h.r4.below hb h.r4.lt, h.r5.below hb h.r5.lt⟩
theorem Df.set {b0 : Nat} {na nb : Bool} {p : Option Addr} {n c : Nat} {q : Option Addr} {m c2 : Nat} {W : World} (h : Df b0 na nb p n c q m c2 W) {g : Nat} (hg : b0 + 3 < g) (cs : Array Value) : Df b0 na nb p n c q m c2 (W.setRow g cs) :=
  ⟨h.ra.setRowOther _ (by omega), h.rb.setRowOther _ (by omega), h.r4.setRowOther _ (by omega), h.r5.setRowOther _ (by omega)⟩
theorem Df.alloc {b0 : Nat} {na nb : Bool} {p : Option Addr} {n c : Nat} {q : Option Addr} {m c2 : Nat} {W : World} (h : Df b0 na nb p n c q m c2 W) (o : Obj) : Df b0 na nb p n c q m c2 (W.alloc o) :=
  ⟨h.ra.alloc _, h.rb.alloc _, h.r4.alloc _, h.r5.alloc _⟩
section
variable {o : Oper} {a : Act} {w : World}
theorem run_load_num (x : Operand) (ho : o.op = .load 69 x) (g : Nat) (hx : a.eval x = .pointer (some ⟨g, 0, none⟩)) (neg : Bool) (p : Option Addr) (n c : Nat) (t : TypeId) (hg : RowAt w g t (numCells neg p n c)) : (execOp a.eval o).run Try.prog w = .ok (.value (.agg #[.bool neg, .slice p n c])) w := by
  unfold execOp
  simp only [ho, hx, Instr.loadAt, Instr.sureAddr, Sem.run_bind, Sem.run_pure, Result.andThen_ok, run_loadVar_row w g t 69 (numCells neg p n c) (0, 0) _ hg Try.underlying69 rfl num_info]
  rfl
theorem wp_of_callE {K : Act → World → Prop} {Q : Exit → Act → World → Prop} {f : FuncId} {args : Array Value} (h : (execOp a.eval o).run Try.prog w = .ok (.enter f args) w) {R : Ending → World → Prop}
    (hc : Calls Try.prog f args w R) (hk : ∀ e w', R e w' → ∃ v, e = .returned v ∧ K (a.put o.dst v) w') : o.wp Try.prog a w K Q := by
  unfold Oper.wp; rw [h]
  refine hc.mono ?_
  intro e w' hr
  obtain ⟨v, rfl, hk⟩ := hk e w' hr
  exact hk
end
end Go.Proofs.Ytmoclgpdcnjacaa
namespace Go.Proofs.Ytmoclgpdcnjacaa
open Go Go.RowKit Go.Shelf
theorem U32s.strip {B : Nat} {w : World} {p : Option Addr} {cap : Nat} {ds : List Nat} (h : U32s B w (.slice p ds.length cap) ds) : U32s B w (.slice p (strip ds).length cap) (strip ds) := by
  obtain ⟨q, cap2, he, hl, hc⟩ := h
  cases he
  have hle := strip_length_le ds
  refine ⟨p, cap, rfl, by omega, fun h0 => ?_⟩
  obtain ⟨b, off, rfl, hb, hcs⟩ := hc (by omega)
  refine ⟨b, off, rfl, hb, fun j hj => ?_⟩
  rw [hcs j (by omega)]
  congr 3
  have := strip_take ds
  rw [← this, List.getElem?_take_of_lt hj]
end Go.Proofs.Ytmoclgpdcnjacaa
namespace Go.Proofs.Ytmoclgpdcnjacaa
open Go Go.RowKit Go.Shelf
def upd (vs : Nat → Value) (i : Nat) (v : Value) : Nat → Value := fun k => if k = i then v else vs k
theorem inv_step {F : Nat → Value → World → Prop} {D : Nat → Prop} {vs : Nat → Value} {w w' : World} (hF : ∀ k, D k → F k (vs k) w) {i : Nat} {v : Value} (hm : ∀ k v, F k v w → F k v w') (hn : F i v w') : ∀ k, (k = i ∨ D k) → F k (upd vs i v k) w' := by
  intro k hk
  unfold upd
  by_cases h : k = i
  · rw [if_pos h, h]; exact hn
  · rw [if_neg h]; exact hm k _ (hF k (hk.resolve_left h))
section
variable {o : Oper} {a : Act} {w : World}
theorem run_mov (x : Operand) (ho : o.op = .move x) (v : Value) (hx : a.eval x = v) : (execOp a.eval o).run Try.prog w = .ok (.value v) w := by
  subst hx; unfold execOp; rw [ho]; rfl
end
end Go.Proofs.Ytmoclgpdcnjacaa
namespace Go.Proofs.Ytmoclgpdcnjacaa
open Go Go.RowKit Go.Shelf
structure Sto (D : Nat → Prop) (W W2 w : World) : Prop where
  st : (¬ D 13 ∧ w = W) ∨ (D 13 ∧ w = W2)
  c1 : D 11 → D 7
  c2 : D 13 → D 11
theorem Sto.none (W W2 : World) : Sto (fun _ => False) W W2 W := ⟨.inl ⟨fun h => h, rfl⟩, fun h => h.elim, fun h => h.elim⟩
theorem Sto.same {D : Nat → Prop} {W W2 w : World} (h : Sto D W W2 w) {i : Nat} (hi : i ≠ 13 ∧ i ≠ 11) : Sto (fun j => j = i ∨ D j) W W2 w := by
  refine ⟨?_, fun e => .inr (h.c1 (e.resolve_left (fun e => hi.2 e.symm))), fun e => .inr (h.c2 (e.resolve_left (fun e => hi.1 e.symm)))⟩
  rcases h.st with ⟨a, b⟩ | ⟨a, b⟩
  · exact .inl ⟨fun e => a (e.resolve_left (fun e => hi.1 e.symm)), b⟩
  · exact .inr ⟨.inr a, b⟩
theorem Sto.before {D : Nat → Prop} {W W2 w : World} (h : Sto D W W2 w) (hn : ¬ D 13) : w = W := h.st.elim (fun h => h.2) (fun h => absurd h.1 hn)
theorem Sto.store {D : Nat → Prop} {W w : World} {a : Addr} {v : Value} (h : Sto D W (W.setCell a v) w) (h11 : D 11) (hn : ¬ D 13) : Sto (fun j => j = 13 ∨ D j) W (W.setCell a v) (w.setCell a v) := by
  obtain rfl := h.before hn
  exact ⟨.inr ⟨.inl rfl, rfl⟩, fun e => .inr (h.c1 (e.resolve_left (by decide))), fun _ => .inr h11⟩
end Go.Proofs.Ytmoclgpdcnjacaa
namespace Go.Proofs.Ytmoclgpdcnjacaa
open Go Go.RowKit Go.Shelf
def regionOkG (ops : Array Oper) : Bool := (List.range ops.size).all fun i => match ops[i]? with
  | none => true
  | some o => o.after.all fun e => !Region.binds .any e || decide (e.on < i)
theorem regionOkG_spec {ops : Array Oper} (h : regionOkG ops = true) {i : Nat} {o : Oper} (ho : ops[i]? = some o) : ∀ e ∈ o.after, Region.binds .any e = true → e.on < i := by
  have hi : i < ops.size := (Array.getElem?_eq_some_iff.1 ho).1
  have h1 := List.all_eq_true.1 h i (List.mem_range.2 hi)
  rw [ho] at h1
  intro e he hb
  have := (Array.all_eq_true_iff_forall_mem.1 h1) e he
  simpa [hb] using this
theorem ready_nilG {ops : Array Oper} {listed : Array Bool} (hok : regionOkG ops = true) (hs : listed.size = ops.size) (h : Region.ready .any ops listed = []) : ∀ i, i < ops.size → Done listed i := by
  intro i
  induction i using Nat.strongRecOn with
  | _ i ih =>
    intro hi
    obtain ⟨o, ho⟩ : ∃ o, ops[i]? = some o := ⟨_, Array.getElem?_eq_getElem hi⟩
    apply Classical.byContradiction
    intro hn
    have hmem : i ∈ Region.ready .any ops listed := by
      unfold Region.ready
      rw [List.mem_filter]
      refine ⟨List.mem_range.2 hi, ?_⟩
      rw [ho]
      simp only [Option.map_some, Option.getD_some, Bool.and_eq_true, Bool.not_eq_true']
      refine ⟨?_, ?_⟩
      · have hl : i < listed.size := by omega
        unfold Done at hn
        simp [hl] at hn ⊢
        exact hn
      · refine Array.all_eq_true_iff_forall_mem.2 fun e he => ?_
        by_cases hb : Region.binds .any e = true
        · have hlt := regionOkG_spec hok ho e he hb
          have := ih e.on hlt (by omega)
          unfold Done at this
          simpa [hb] using this
        · simp [hb]
    rw [h] at hmem; cases hmem
section
variable {P : Program} {ops : Array Oper} {Q : Exit → Act → World → Prop} (Inv : (Nat → Prop) → Act → World → Prop)
def StepG (o : Oper) (a : Act) (w : World) (K : Act → World → Prop) : Prop := if Region.wanted o (yielded ops a.tmps) then o.wp P a w K Q else K (a.put o.dst undef) w
end
section
variable {P : Program} {ops : Array Oper} {Q : Exit → Act → World → Prop} {o : Oper} {a : Act} {w : World} {K : Act → World → Prop}
theorem step_yes (h : Region.wanted o (yielded ops a.tmps) = true) (hk : o.wp P a w K Q) : StepG (P := P) (ops := ops) (Q := Q) o a w K := by unfold StepG; rw [if_pos h]; exact hk
end
section
variable {o : Oper} {a : Act} {w : World}
end
end Go.Proofs.Ytmoclgpdcnjacaa
namespace Go.Proofs.Ytmoclgpdcnjacaa
open Go Go.RowKit Go.Shelf
def tailOk (ops : Array Oper) (n : Nat) : Bool := decide (n ≤ ops.size) && (List.range ops.size).all fun i => decide (i < n) || match ops[i]? with
  | none => true
  | some o => o.guard.isNone && (List.range i).all fun j => o.after.any fun e => Region.binds .any e && decide (e.on = j)
theorem tailOk_le {ops : Array Oper} {n : Nat} (h : tailOk ops n = true) : n ≤ ops.size := by
  unfold tailOk at h
  simp only [Bool.and_eq_true, decide_eq_true_eq] at h
  exact h.1
theorem tailOk_spec {ops : Array Oper} {n i : Nat} {o : Oper} (h : tailOk ops n = true) (ho : ops[i]? = some o) (hn : n ≤ i) : o.guard = none ∧ ∀ j, j < i → ∃ e ∈ o.after, Region.binds .any e = true ∧ e.on = j := by
  unfold tailOk at h
  simp only [Bool.and_eq_true, decide_eq_true_eq] at h
  have hi : i < ops.size := (Array.getElem?_eq_some_iff.1 ho).1
  have h1 := List.all_eq_true.1 h.2 i (List.mem_range.2 hi)
  rw [ho] at h1
  simp only [Bool.or_eq_true, decide_eq_true_eq, Bool.and_eq_true, Option.isNone_iff_eq_none] at h1
  have h2 := h1.resolve_left (by omega)
  refine ⟨h2.1, fun j hj => ?_⟩
  have h3 := List.all_eq_true.1 h2.2 j (List.mem_range.2 hj)
  rw [Array.any_eq_true] at h3
  obtain ⟨k, hk, h4⟩ := h3
  simp only [Bool.and_eq_true, decide_eq_true_eq] at h4
  exact ⟨o.after[k], Array.getElem_mem hk, h4.1, h4.2⟩
section
variable {P : Program} {ops : Array Oper} {Q : Exit → Act → World → Prop} (Inv : (Nat → Prop) → Act → World → Prop)
def StepH (o : Oper) (a : Act) (w : World) (K : Act → World → Prop) : Prop := if Region.wanted o (yielded ops a.tmps) then o.wp P a w K Q ∨ (o.asks P a w ∧ LetsOut Q) else K (a.put o.dst undef) w
theorem wpAny_invH (hok : regionOkG ops = true)
    (hstep : ∀ (i : Nat) (o : Oper) (D : Nat → Prop) (a : Act) (w : World), ops[i]? = some o → ¬ D i → (∀ e ∈ o.after, Region.binds .any e = true → D e.on) → Inv D a w → StepH (P := P) (ops := ops) (Q := Q) o a w (fun a' w' => Inv (fun j => j = i ∨ D j) a' w'))
    (hdone : ∀ (D : Nat → Prop) (a : Act) (w : World), (∀ i, i < ops.size → D i) → Inv D a w → Q .normal a w) :
    ∀ (fuel : Nat) (listed : Array Bool) (a : Act) (w : World), listed.size = ops.size → left listed ≤ fuel → Inv (Done listed) a w → wpAny P .any ops Q fuel listed a w
  | 0, listed, a, w, hs, hl, hi => by
    have hr : Region.ready .any ops listed = [] := by
      apply List.eq_nil_iff_forall_not_mem.2
      intro i hm
      obtain ⟨_, _, _, h3, _⟩ := ready_mem hm
      have := left_set h3
      omega
    exact ⟨hr, hdone _ a w (ready_nilG hok hs hr) hi⟩
  | fuel + 1, listed, a, w, hs, hl, hi => by
    refine ⟨fun hr => hdone _ a w (ready_nilG hok hs hr) hi, fun i hm => ?_⟩
    obtain ⟨o, ho, hn, h3, he⟩ := ready_mem hm
    have hil : i < listed.size := by rw [hs]; exact (Array.getElem?_eq_some_iff.1 ho).1
    have hnext : ∀ a' w', Inv (fun j => j = i ∨ Done listed j) a' w' → wpAny P .any ops Q fuel (listed.setIfInBounds i true) a' w' := fun a' w' h => by
      refine wpAny_invH hok hstep hdone fuel _ a' w' (by simpa using hs) (by have := left_set h3; omega) ?_
      rw [done_set hil]
      exact h
    have hst := hstep i o _ a w ho hn he hi
    unfold wpOp
    rw [ho]
    dsimp only
    unfold StepH at hst
    by_cases hw : Region.wanted o (yielded ops a.tmps) = true
    · rw [if_pos hw] at hst ⊢
      exact hst.imp (Oper.wp_mono (fun a' w' h => hnext a' w' h)) (fun h => h)
    · rw [if_neg hw] at hst ⊢
      exact hnext _ _ hst
theorem wp_region_invH {id : Nat} {a : Act} {w : World} (hm : P.follows .mixedOrders = true) (hok : regionOkG ops = true) (h0 : Inv (fun _ => False) a w.drew)
    (hstep : ∀ (i : Nat) (o : Oper) (D : Nat → Prop) (a : Act) (w : World), ops[i]? = some o → ¬ D i → (∀ e ∈ o.after, Region.binds .any e = true → D e.on) → Inv D a w → StepH (P := P) (ops := ops) (Q := Q) o a w (fun a' w' => Inv (fun j => j = i ∨ D j) a' w'))
    (hdone : ∀ (D : Nat → Prop) (a : Act) (w : World), (∀ i, i < ops.size → D i) → Inv D a w → Q .normal a w) : (Code.region id ops true).wp P Q a w := by
  refine wp_region_any hm (wpAny_invH Inv hok hstep hdone _ _ _ _ (by simp) ?_ ?_)
  · exact Nat.le_trans (List.length_filter_le _ _) (by simp)
  · have : Done (Array.replicate ops.size false) = fun _ => False := by
      funext j
      apply propext
      unfold Done
      by_cases h : j < ops.size <;> simp [h]
    rw [this]; exact h0
end
section
variable {P : Program} {ops : Array Oper} {Q : Exit → Act → World → Prop} (Inv : (Nat → Prop) → Act → World → Prop)
theorem wp_region_tail (n : Nat) {id : Nat} {a : Act} {w : World} (hm : P.follows .mixedOrders = true) (hok : regionOkG ops = true) (ht : tailOk ops n = true) (h0 : Inv (fun _ => False) a w.drew)
    (hstep : ∀ (i : Nat) (o : Oper) (D : Nat → Prop) (a : Act) (w : World), i < n → ops[i]? = some o → ¬ D i → (∀ e ∈ o.after, Region.binds .any e = true → D e.on) → Inv D a w → StepG (P := P) (ops := ops) (Q := Q) o a w (fun a' w' => Inv (fun j => j = i ∨ D j) a' w'))
    (hdone : ∀ (D : Nat → Prop) (a : Act) (w : World), (∀ i, i < n → D i) → Inv D a w → wpList P ops Q (ops.toList.drop n) a w) : (Code.region id ops true).wp P Q a w := by
  have hle := tailOk_le ht
  refine wp_region_invH (fun D a w => ((∀ j, n ≤ j → ¬ D j) ∧ Inv D a w) ∨ ∃ k, n < k ∧ (∀ j, D j ↔ j < k) ∧ wpList P ops Q (ops.toList.drop k) a w) hm hok (.inl ⟨fun _ _ h => h, h0⟩) ?_ ?_
  · intro i o D a w hio hnd he h
    have hi : i < ops.size := (Array.getElem?_eq_some_iff.1 hio).1
    have hl : ops.toList.drop i = o :: ops.toList.drop (i + 1) := by
      rw [List.drop_eq_getElem_cons (by simpa using hi)]
      congr 1
      have := (Array.getElem?_eq_some_iff.1 hio).2
      simpa using this
    have go : ∀ k, i = k → n ≤ k → (∀ j, D j ↔ j < k) → wpList P ops Q (ops.toList.drop k) a w → StepH (P := P) (ops := ops) (Q := Q) o a w (fun a' w' => ((∀ j, n ≤ j → ¬ (j = i ∨ D j)) ∧ Inv (fun j => j = i ∨ D j) a' w') ∨ ∃ k, n < k ∧ (∀ j, (j = i ∨ D j) ↔ j < k) ∧ wpList P ops Q (ops.toList.drop k) a' w') := by
      rintro k rfl hk hD hw
      obtain ⟨hg, -⟩ := tailOk_spec ht hio hk
      rw [hl] at hw
      unfold wpList at hw
      rw [if_pos (wanted_of_none hg _)] at hw
      have hnext : ∀ a' w', wpList P ops Q (ops.toList.drop (i + 1)) a' w' → ((∀ j, n ≤ j → ¬ (j = i ∨ D j)) ∧ Inv (fun j => j = i ∨ D j) a' w') ∨ ∃ k, n < k ∧ (∀ j, (j = i ∨ D j) ↔ j < k) ∧ wpList P ops Q (ops.toList.drop k) a' w' := fun a' w' h => .inr ⟨i + 1, by omega, fun j => by rw [hD j]; omega, h⟩
      unfold StepH
      rw [if_pos (wanted_of_none hg _)]
      exact hw.imp (Oper.wp_mono (fun a' w' h => hnext a' w' h)) (fun h => h)
    rcases h with ⟨hn, hi2⟩ | ⟨k, hk, hD, hw⟩
    · by_cases hin : i < n
      · unfold StepH
        have hs := hstep i o D a w hin hio hnd he hi2
        unfold StepG at hs
        have hnext : ∀ a' w', Inv (fun j => j = i ∨ D j) a' w' → ((∀ j, n ≤ j → ¬ (j = i ∨ D j)) ∧ Inv (fun j => j = i ∨ D j) a' w') ∨ ∃ k, n < k ∧ (∀ j, (j = i ∨ D j) ↔ j < k) ∧ wpList P ops Q (ops.toList.drop k) a' w' := fun a' w' h => .inl ⟨fun j hj h2 => h2.elim (fun e => by omega) (hn j hj), h⟩
        split
        · rename_i hw
          rw [if_pos hw] at hs
          exact .inl (Oper.wp_mono (fun a' w' h => hnext a' w' h) hs)
        · rename_i hw
          rw [if_neg hw] at hs
          exact hnext _ _ hs
      · obtain ⟨hg, hb⟩ := tailOk_spec ht hio (by omega)
        have hall : ∀ j, j < i → D j := fun j hj => by
          obtain ⟨e, hm1, hb1, rfl⟩ := hb j hj
          exact he e hm1 hb1
        obtain rfl : i = n := by
          apply Classical.byContradiction
          intro hne
          exact hn n (Nat.le_refl _) (hall n (by omega))
        exact go i rfl (Nat.le_refl _) (fun j => ⟨fun h => by
          apply Classical.byContradiction
          intro hj
          exact hn j (by omega) h, fun h => hall j h⟩) (hdone D a w hall hi2)
    · have hik : k ≤ i := by
        apply Classical.byContradiction
        intro h
        exact hnd ((hD i).2 (by omega))
      obtain ⟨hg, hb⟩ := tailOk_spec ht hio (by omega)
      have : i = k := by
        apply Classical.byContradiction
        intro hne
        obtain ⟨e, hm1, hb1, hek⟩ := hb k (by omega)
        have := he e hm1 hb1
        rw [hek] at this
        have := (hD k).1 this
        omega
      exact go k this (by omega) hD hw
  · intro D a w hall h
    rcases h with ⟨hn, hi2⟩ | ⟨k, hk, hD, hw⟩
    · have hns : n = ops.size := by
        apply Classical.byContradiction
        intro hne
        exact hn n (Nat.le_refl _) (hall n (by omega))
      have := hdone D a w (fun i hi => hall i (by omega)) hi2
      rw [hns, List.drop_eq_nil_of_le (by simp)] at this
      exact this
    · have hk2 : ops.size ≤ k := by
        apply Classical.byContradiction
        intro h
        have := (hD k).1 (hall k (by omega))
        omega
      rw [List.drop_eq_nil_of_le (by simpa using hk2)] at hw
      exact hw
end
end Go.Proofs.Ytmoclgpdcnjacaa
namespace Go.Proofs.Ytmoclgpdcnjacaa
open Go Go.RowKit Go.Shelf
theorem rightB_z {z : Int} (h : z.natAbs < B32 ^ 64) : rightB (decide (z < 0)) (digs z.natAbs) = true := right_z _ h (fun h0 => by simp; omega)
end Go.Proofs.Ytmoclgpdcnjacaa
