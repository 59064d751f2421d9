import Derived.Test.YtgnogdncoljldaaGreatQRw
set_option linter.all false
namespace Go.Proofs.YtgnogdncoljldaaGreat.Sx
open Go Go.RowKit
section
variable {W : World} {l0 l1 : Ls} (h0 : l0.Ok W) (h1 : l1.Ok W) {mk m1 m2 m3 m4 m5 m6 qx qy : Int}
abbrev evS (mk m1 m2 m3 m4 m5 m6 qx qy : Int) : Env := envOf [mk, m1, m2, m3, m4, m5, m6, qx, qy] []
include h0 h1
theorem ctSp_ok {r : RT} (hm : ∀ w, Hyp (IL W l0 l1) w (fun _ => False) → Calls Tryz.prog 10 #[l0.v] w (fun e w' => e = .returned (.agg #[.int .i64 mk, .int .i64 m1, .int .i64 m2, .int .i64 m3, .int .i64 m4, .int .i64 m5, .int .i64 m6]) ∧ Below w.heap.size w w'))
  (ha : ∀ w, Hyp (IL W l0 l1) w (fun _ => False) → Calls Tryz.prog 11 #[.agg #[.int .i64 mk, .int .i64 m1, .int .i64 m2, .int .i64 m3, .int .i64 m4, .int .i64 m5, .int .i64 m6], l1.v] w (fun e w' => e = .returned (.agg #[.int .i64 qx, .int .i64 qy]) ∧ Below w.heap.size w w'))
  (hr : (fnCase r).Ok Tryz.prog (IL W l0 l1) (evS mk m1 m2 m3 m4 m5 m6 qx qy)) : CTOk Tryz.prog (IL W l0 l1) (evS mk m1 m2 m3 m4 m5 m6 qx qy) (ctSp r) := by
 refine ctOr_ok (ctL_ok fun e he => ?_) (ctOr_ok (ctFn_ok rfl fun e he => ?_) (ctOr_ok (ctM_ok h0 h1 _) (ctRt_ok _)))
 ·simp only [entX, List.mem_cons, List.not_mem_nil, or_false] at he
  rcases he with rfl | rfl | rfl
  ·exact sanE_ok _
  ·exact ⟨rfl, rfl, hm⟩
  ·exact ⟨rfl, rfl, ha⟩
 ·simp only [List.mem_cons, List.not_mem_nil, or_false] at he
  rcases he with rfl | rfl
  ·exact hr
  ·exact fnCmpS_ok
theorem spot_case {r : RT} {kk : List (B × Bool)} (hm : ∀ w, Hyp (IL W l0 l1) w (fun _ => False) → Calls Tryz.prog 10 #[l0.v] w (fun e w' => e = .returned (.agg #[.int .i64 mk, .int .i64 m1, .int .i64 m2, .int .i64 m3, .int .i64 m4, .int .i64 m5, .int .i64 m6]) ∧ Below w.heap.size w w'))
  (ha : ∀ w, Hyp (IL W l0 l1) w (fun _ => False) → Calls Tryz.prog 11 #[.agg #[.int .i64 mk, .int .i64 m1, .int .i64 m2, .int .i64 m3, .int .i64 m4, .int .i64 m5, .int .i64 m6], l1.v] w (fun e w' => e = .returned (.agg #[.int .i64 qx, .int .i64 qy]) ∧ Below w.heap.size w w'))
  (hr : (fnCase r).Ok Tryz.prog (IL W l0 l1) (evS mk m1 m2 m3 m4 m5 m6 qx qy)) (hk : ∀ p ∈ kk, p.1.den (IL W l0 l1) (evS mk m1 m2 m3 m4 m5 m6 qx qy) = p.2)
  (hc : leavesOk isYes (vals (execF Tryz.prog (ctSp r) 20 8 [.c (.abs 0 .nil), .c (.abs 1 .nil)] ⟨[], 0, ⟨kk, [0, 2], 0⟩⟩)) = true) :
  Calls Tryz.prog 8 #[l0.v, l1.v] W (fun e w' => e = .returned (.bool true) ∧ Below W.heap.size W w') :=
 calls_yes (n := 20) (g := 8) (args := [.c (.abs 0 .nil), .c (.abs 1 .nil)]) (k := ⟨kk, [0, 2], 0⟩) (ρ := evS mk m1 m2 m3 m4 m5 m6 qx qy) mixedR nocountR (ctSp_ok h0 h1 hm ha hr) (hyp_fixed rfl) (draws_ok (l := kk) (n := 0) hk (fun _ h => absurd h (Nat.not_lt_zero _))) rfl hc
omit h0 h1
theorem bdE_ok {m : Int} (hr : 0 ≤ radiusZ mk m1 m2 m3 m4 m5 m6 ∧ radiusZ mk m1 m2 m3 m4 m5 m6 ≤ 800) (hb : -200 ≤ m1 ∧ m1 ≤ 200 ∧ -200 ≤ m2 ∧ m2 ≤ 200 ∧ -200 ≤ m3 ∧ m3 ≤ 200 ∧ -200 ≤ m4 ∧ m4 ≤ 200 ∧ -200 ≤ m5 ∧ m5 ≤ 200 ∧ -200 ≤ m6 ∧ m6 ≤ 200) (hq : -m ≤ qx ∧ qx ≤ m ∧ -m ≤ qy ∧ qy ≤ m) :
  ∀ p ∈ bdE m, p.1.den (IL W l0 l1) (evS mk m1 m2 m3 m4 m5 m6 qx qy) = p.2 := by
 obtain ⟨b1, b2, b3, b4, b5, b6, b7, b8, b9, b10, b11, b12⟩ := hb
 refine fapp (fcons (B.lt_f.2 hr.1) (fcons (B.lt_f.2 hr.2) fnil)) (fapp (rg_ok b1 b2) (fapp (rg_ok b3 b4) (fapp (rg_ok b5 b6) (fapp (rg_ok b7 b8) (fapp (rg_ok b9 b10) (fapp (rg_ok b11 b12) (fapp (rg_ok hq.1 hq.2.1) (rg_ok hq.2.2.1 hq.2.2.2))))))))
theorem check_of_ok {k ax ay bx by' cx cy : Int} (h : okP k ax ay bx by' cx cy) : checkZ k ax ay bx by' cx cy = 0 := by
 obtain ⟨h1, h2, h3, h4, h5, h6⟩ := h
 unfold checkZ
 rw [if_neg (by omega), if_neg (by simp [h3, h4, h5]), if_pos h6]
include h0 h1
set_option maxRecDepth 100000 in
theorem spot_arc (hm : ∀ w, Hyp (IL W l0 l1) w (fun _ => False) → Calls Tryz.prog 10 #[l0.v] w (fun e w' => e = .returned (.agg #[.int .i64 mk, .int .i64 m1, .int .i64 m2, .int .i64 m3, .int .i64 m4, .int .i64 m5, .int .i64 m6]) ∧ Below w.heap.size w w'))
  (ha : ∀ w, Hyp (IL W l0 l1) w (fun _ => False) → Calls Tryz.prog 11 #[.agg #[.int .i64 mk, .int .i64 m1, .int .i64 m2, .int .i64 m3, .int .i64 m4, .int .i64 m5, .int .i64 m6], l1.v] w (fun e w' => e = .returned (.agg #[.int .i64 qx, .int .i64 qy]) ∧ Below w.heap.size w w'))
  (hk1 : mk ≠ 1) (hE : ∀ p ∈ bdE 200000, p.1.den (IL W l0 l1) (evS mk m1 m2 m3 m4 m5 m6 qx qy) = p.2) (hr0 : 0 ≤ radiusZ mk m1 m2 m3 m4 m5 m6) {q : Prop} [Decidable q] (hq : q → ¬ (qx - m5 = 0 ∧ qy - m6 = 0))
  (hz : ptZ mk m1 m2 m3 m4 m5 m6 qx qy = arcPt (radiusZ mk m1 m2 m3 m4 m5 m6) m1 m2 m3 m4 m5 m6 qx qy q) :
  Calls Tryz.prog 8 #[l0.v, l1.v] W (fun e w' => e = .returned (.bool true) ∧ Below W.heap.size W w') := by
 have hn : 0 ≤ (qx - m5) * (qx - m5) + (qy - m6) * (qy - m6) := by have := sq_nn (qx - m5); have := sq_nn (qy - m6); omega
 by_cases c : q
 ·have hv := hq c
  by_cases c2 : (qx - m5) * (qx - m5) + (qy - m6) * (qy - m6) < radiusZ mk m1 m2 m3 m4 m5 m6 * radiusZ mk m1 m2 m3 m4 m5 m6
  ·have hp : (fnCase rW1).Ok Tryz.prog (IL W l0 l1) (evS mk m1 m2 m3 m4 m5 m6 qx qy) := fnCase_ok (hz.trans (by unfold arcPt; rw [if_pos c]; unfold wayZ; rw [if_pos c2]; rfl))
   have hf := way1_nn _ _ hr0 hn c2
   by_cases hx : qx - m5 = 0
   ·exact spot_case (kk := kW1b) h0 h1 hm ha hp (fcons (B.eq_f.2 hk1) (fcons (B.lt_f.2 hf) (fcons (B.eq_t.2 hx) (fcons (B.eq_f.2 (fun g => hv ⟨hx, g⟩)) hE)))) spW1b_chk
   ·exact spot_case (kk := kW1a) h0 h1 hm ha hp (fcons (B.eq_f.2 hk1) (fcons (B.lt_f.2 hf) (fcons (B.eq_f.2 hx) hE))) spW1a_chk
  ·have hp : (fnCase rW2).Ok Tryz.prog (IL W l0 l1) (evS mk m1 m2 m3 m4 m5 m6 qx qy) := fnCase_ok (hz.trans (by unfold arcPt; rw [if_pos c]; unfold wayZ; rw [if_neg c2]; rfl))
   have hf := way2_nn _ _ hr0 (Int.not_lt.1 c2)
   by_cases hx : qx - m5 = 0
   ·exact spot_case (kk := kW2b) h0 h1 hm ha hp (fcons (B.eq_f.2 hk1) (fcons (B.lt_f.2 hf) (fcons (B.eq_t.2 hx) (fcons (B.eq_f.2 (fun g => hv ⟨hx, g⟩)) hE)))) spW2b_chk
   ·exact spot_case (kk := kW2a) h0 h1 hm ha hp (fcons (B.eq_f.2 hk1) (fcons (B.lt_f.2 hf) (fcons (B.eq_f.2 hx) hE))) spW2a_chk
 ·by_cases c2 : (qx - m3) * (qx - m3) + (qy - m4) * (qy - m4) < (qx - m1) * (qx - m1) + (qy - m2) * (qy - m2)
  ·have hp : (fnCase rB).Ok Tryz.prog (IL W l0 l1) (evS mk m1 m2 m3 m4 m5 m6 qx qy) := fnCase_ok (hz.trans (by unfold arcPt; rw [if_neg c, if_pos c2]; rfl))
   exact spot_case (kk := kB) h0 h1 hm ha hp (fcons (B.lt_f.2 (end_nn _ 1 (Int.add_nonneg (sq_nn (qx - m3)) (sq_nn (qy - m4))) (by decide))) hE) spB_chk
  ·have hp : (fnCase rA).Ok Tryz.prog (IL W l0 l1) (evS mk m1 m2 m3 m4 m5 m6 qx qy) := fnCase_ok (hz.trans (by unfold arcPt; rw [if_neg c, if_neg c2]; rfl))
   exact spot_case (kk := kA) h0 h1 hm ha hp (fcons (B.lt_f.2 (end_nn _ 1 (Int.add_nonneg (sq_nn (qx - m1)) (sq_nn (qy - m2))) (by decide))) hE) spA_chk
end
end Go.Proofs.YtgnogdncoljldaaGreat.Sx

