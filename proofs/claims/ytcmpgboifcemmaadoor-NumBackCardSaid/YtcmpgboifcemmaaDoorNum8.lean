/- Layer 1: signedSum. -/
import Derived.Test.YtcmpgboifcemmaaDoorNum3
import Derived.Test.YtcmpgboifcemmaaDoorNum5
import Derived.Test.YtcmpgboifcemmaaDoorNum6
import Derived.StillTailTactics
import Derived.Lib.MinMax
import Derived.Deep.RegionWith
import Derived.BigRegion
import Derived.Deep.DeepMust
import Derived.Deep.RegionHeld3
set_option linter.all false
namespace Go.Proofs.YtcmpgboifcemmaaDoor
open Go Go.RowKit Go.Shelf

theorem u32s_row {B : Nat} {w : World} {g L cap : Nat} {t : TypeId} {xs : List Nat} (hg : RowAt w g t (arr xs)) (hB : g < B) (hL : L ≤ xs.length) (hm : xs.length ≤ maxLen) : U32s B w (.slice (some ⟨g, 0, none⟩) L cap) (xs.take L) := by
  have e : (xs.take L).length = L := by simp; omega
  refine ⟨some ⟨g, 0, none⟩, cap, by rw [e], by rw [e]; omega, fun _ => ⟨g, 0, rfl, hB, fun j hj => ?_⟩⟩
  rw [e] at hj
  rw [Nat.zero_add, hg.cell j, arr_get xs j (by omega), List.getElem?_take_of_lt hj]

set_option maxRecDepth 100000 in
set_option maxHeartbeats 2000000 in
theorem signedSum_same (va vb : Value) (na nb : Bool) (xs ys : List Nat) (w : World) (ha : NumV w.heap.size w va na xs) (hb : NumV w.heap.size w vb nb ys) (hdx : Digits xs) (hdy : Digits ys) (hx : xs.length ≤ 64) (hy : ys.length ≤ 64) :
    Calls Tryd.prog 45 #[va, vb, .bool na] w (NumPost w (resNeg na (strip ((sumRow xs ys).take (max xs.length ys.length + 1)))) (resDs (strip ((sumRow xs ys).take (max xs.length ys.length + 1)))) (resOk (strip ((sumRow xs ys).take (max xs.length ys.length + 1))))) := by
  obtain ⟨sa, rfl, hua⟩ := ha
  obtain ⟨sb, rfl, hub⟩ := hb
  obtain ⟨p, cap, rfl, hl, hc⟩ := id hua
  obtain ⟨q, cap2, rfl, hl2, hc2⟩ := id hub
  clear hc hc2
  obtain ⟨W3, hW3⟩ : ∃ W3, W3 = ((w.alloc (.cells #[.bool na, .slice p xs.length cap] 26)).alloc (.cells #[.bool nb, .slice q ys.length cap2] 26)).alloc (.cells #[.bool false, .slice none 0 0] 26) := ⟨_, rfl⟩
  have hB3 : Below w.heap.size w W3 := by rw [hW3]; exact (((Below.refl _ w).alloc (Nat.le_refl _) _).alloc (by simp) _).alloc (by simp; omega) _
  have hz3 : W3.heap.size = w.heap.size + 3 := by rw [hW3]; simp
  have hsum := sum_calls _ _ xs ys W3 ((hua.below hB3).mono (by omega)) ((hub.below hB3).mono (by omega)) hdx hdy hx hy
  have hsl := sumRow_length xs ys
  generalize sumRow xs ys = row at *
  obtain ⟨M, hM⟩ : ∃ M, M = max xs.length ys.length := ⟨_, rfl⟩
  have hmaxI : max (xs.length : Int) (ys.length : Int) = (M : Int) := by rw [hM]; omega
  have hM64 : M ≤ 64 := by omega
  rw [← hM]
  clear hM
  have Hsum := Lib.hid hsum
  have Hsl := Lib.hid hsl
  have HB3 := Lib.hid hB3
  have Hz3 := Lib.hid hz3
  have Hra : Hid (RowAt W3 w.heap.size 26 (numCells na p xs.length cap)) := by rw [hW3]; exact ((RowAt.new w _ _).alloc _).alloc _
  have Hrb : Hid (RowAt W3 (w.heap.size + 1) 26 (numCells nb q ys.length cap2)) := by rw [hW3]; exact (RowAt.new' _ _ (by simp)).alloc _
  have Hrr : Hid (RowAt W3 (w.heap.size + 1 + 1) 26 (numCells false none 0 0)) := by rw [hW3]; exact RowAt.new' _ _ (by simp)
  have HW3 := Lib.hid hW3
  clear hsum hsl hB3 hz3 hua hub hdx hdy hW3
  go_enter Tryd.func45, Tryd.ntmps45
  go_wp2_with fail
  rw [← HW3.out]
  refine Hsum.out.mono ?_
  rintro e w1 ⟨rfl, hb1⟩
  have hz1 := hb1.size
  rw [Hz3.out] at hz1
  obtain ⟨W4, hW4⟩ : ∃ W4, W4 = (w1.alloc (.cells Tryd.zeroCells52 52)).setRow w1.heap.size (arr row) := ⟨_, rfl⟩
  have Hz4 : Hid (W4.heap.size = w1.heap.size + 1) := by show W4.heap.size = _; rw [hW4]; simp
  have HB4 : Hid (Below w.heap.size w W4) := by rw [hW4]; exact below_setRow2 ((HB3.out.trans (hb1.mono (by rw [Hz3.out]; omega))).alloc (by omega) _) (by omega) _
  have Hr4 : Hid (RowAt W4 w1.heap.size 52 (arr row)) := by rw [hW4]; exact (RowAt.new w1 _ _).setRow _
  have hra4 : RowAt W4 w.heap.size 26 (numCells na p xs.length cap) := by rw [hW4]; exact ((Hra.out.below hb1 (by rw [Hz3.out]; omega)).alloc _).setRowOther _ (by omega)
  have hrb4 : RowAt W4 (w.heap.size + 1) 26 (numCells nb q ys.length cap2) := by rw [hW4]; exact ((Hrb.out.below hb1 (by rw [Hz3.out]; omega)).alloc _).setRowOther _ (by omega)
  have Hrr4 : Hid (RowAt W4 (w.heap.size + 1 + 1) 26 (numCells false none 0 0)) := by rw [hW4]; exact ((Hrr.out.below hb1 (by rw [Hz3.out]; omega)).alloc _).setRowOther _ (by omega)
  have hca0 := hra4.cell 0
  have hca1 := hra4.cell 1
  have hcb1 := hrb4.cell 1
  simp only [numCells] at hca0 hca1 hcb1
  have Hnew := Lib.hid (RowAt.new w1 52 Tryd.zeroCells52)
  have HW4 := Lib.hid hW4
  have hnum := number_calls na _ _ W4.drew (u32s_row (B := W4.drew.heap.size) (w := W4.drew) (cap := 65) (L := M + 1) Hr4.out (by show _ < W4.heap.size; rw [Hz4.out]; omega) (by rw [Hsl.out]; omega) (by rw [Hsl.out]; decide))
  have Hnum := Lib.hid hnum
  clear hW4 hra4 hrb4 hnum
  go_wp2_with (refine store_row rfl (.tmp 8) (.tmp 19) rfl w1.heap.size rfl row Hsl.out rfl 52 Tryd.zeroCells52 Hnew.out (by kernel_rfl) ?_; rw [← HW4.out])
  have hw1 : IntKind.i64.wrap ((M : Int) + 1) = (M : Int) + 1 := by rw [IntKind.wrap_i64]; omega
  have hw2 : (0 : Int) ≤ (M : Int) + 1 := by omega
  have hw3 : (M : Int) + 1 ≤ 65 := by omega
  have hw4 : ((M : Int) + 1).toNat = M + 1 := by omega
  go_region_held3 (fun W => W.cell? ⟨w.heap.size, 0, none⟩ = some (.bool na) ∧ W.cell? ⟨w.heap.size, 1, none⟩ = some (.slice p xs.length cap) ∧ W.cell? ⟨w.heap.size + 1, 1, none⟩ = some (.slice q ys.length cap2)) (first | exact ⟨by assumption, by assumption, by assumption⟩ | exact ⟨cell_set2 _ _ _ _ _ _ _ _ (by assumption) (by show w.heap.size ≠ _; omega), cell_set2 _ _ _ _ _ _ _ _ (by assumption) (by show w.heap.size ≠ _; omega), cell_set2 _ _ _ _ _ _ _ _ (by assumption) (by show w.heap.size + 1 ≠ _; omega)⟩)
    (first | (go_at_call 31; refine Hnum.out.mono ?_; rintro e w5 ⟨s5, rfl, hu5, hb5⟩; have hU5 := hu5; obtain ⟨p5, c5, rfl, -, -⟩ := hU5; have hr5 := (RowAt.drew Hrr4.out).below hb5 (by show _ < W4.heap.size; rw [Hz4.out]; omega); have hr50 := hr5.cell 0; have hr51 := hr5.cell 1; have hf50 := hr5.frozen 0; have hf51 := hr5.frozen 1; simp only [numCells] at hr50 hr51; have HR5 := Lib.hid hr5; have HU5 := Lib.hid hu5; have HB5 := Lib.hid hb5; have hk1 : w5.cell? ⟨w.heap.size, 0, none⟩ = some (.bool na) := (hb5.cell (p := ⟨w.heap.size, 0, none⟩) (by show _ < W4.heap.size; rw [Hz4.out]; show w.heap.size < _; omega)).trans hca0; have hk2 : w5.cell? ⟨w.heap.size, 1, none⟩ = some (.slice p xs.length cap) := (hb5.cell (p := ⟨w.heap.size, 1, none⟩) (by show _ < W4.heap.size; rw [Hz4.out]; show w.heap.size < _; omega)).trans hca1; have hk3 : w5.cell? ⟨w.heap.size + 1, 1, none⟩ = some (.slice q ys.length cap2) := (hb5.cell (p := ⟨w.heap.size + 1, 1, none⟩) (by show _ < W4.heap.size; rw [Hz4.out]; show w.heap.size + 1 < _; omega)).trans hcb1; clear hr5 hu5 hb5))
  go_wp2
  have hfin := finNum (g := w.heap.size + 1 + 1) (Below.drew HB4.out) (by omega) (by show _ < W4.heap.size; rw [Hz4.out]; omega) HU5.out HB5.out (turned_set2 w5 _ (.bool (resNeg na (strip (List.take (M + 1) row)))) (.slice p5 (resDs (strip (List.take (M + 1) row))).length c5))
  exact ret_num rfl (w.heap.size + 1 + 1) rfl _ rfl _ _ _ _ _ (numCells_set HR5.out rfl _ _ _ _) ⟨_, rfl, hfin.1, hfin.2⟩

end Go.Proofs.YtcmpgboifcemmaaDoor
