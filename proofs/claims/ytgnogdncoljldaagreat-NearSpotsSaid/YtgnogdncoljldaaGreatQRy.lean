import Derived.Test.YtgnogdncoljldaaGreatQRx
set_option linter.all false
namespace Go.Proofs.YtgnogdncoljldaaGreat.Sx
open Go Go.RowKit
set_option maxRecDepth 1000000 in
theorem cc_in : inR ⟨bdE 1100, [0, 2], 0⟩ ccT (-l256) l256 = true := by kernel_rfl
set_option maxRecDepth 1000000 in
theorem sq_in : inR ⟨bdE 1100, [0, 2], 0⟩ sqT (-l256) l256 = true := by kernel_rfl
section
variable {W : World} {l0 l1 : Ls} (h0 : l0.Ok W) (h1 : l1.Ok W) {mk m1 m2 m3 m4 m5 m6 qx qy : Int}
theorem rad_800 (hb : -200 ≤ m1 ∧ m1 ≤ 200 ∧ -200 ≤ m2 ∧ m2 ≤ 200 ∧ -200 ≤ m3 ∧ m3 ≤ 200 ∧ -200 ≤ m4 ∧ m4 ≤ 200 ∧ -200 ≤ m5 ∧ m5 ≤ 200 ∧ -200 ≤ m6 ∧ m6 ≤ 200) : 0 ≤ radiusZ mk m1 m2 m3 m4 m5 m6 ∧ radiusZ mk m1 m2 m3 m4 m5 m6 ≤ 800 := by
 unfold radiusZ
 split <;> omega
include h0 h1
set_option maxRecDepth 100000 in
theorem spot_line (hm : ∀ w, Hyp (IL W l0 l1) w (fun _ => False) → Calls Tryz.prog 10 #[l0.v] w (fun e w' => e = .returned (.agg #[.int .i64 1, .int .i64 m1, .int .i64 m2, .int .i64 m3, .int .i64 m4, .int .i64 m5, .int .i64 m6]) ∧ Below w.heap.size w w'))
  (ha : ∀ w, Hyp (IL W l0 l1) w (fun _ => False) → Calls Tryz.prog 11 #[.agg #[.int .i64 1, .int .i64 m1, .int .i64 m2, .int .i64 m3, .int .i64 m4, .int .i64 m5, .int .i64 m6], l1.v] w (fun e w' => e = .returned (.agg #[.int .i64 qx, .int .i64 qy]) ∧ Below w.heap.size w w'))
  (hc : checkZ 1 m1 m2 m3 m4 m5 m6 = 0) (hp : rightP qx qy) (hE : ∀ p ∈ bdE 1100, p.1.den (IL W l0 l1) (evS 1 m1 m2 m3 m4 m5 m6 qx qy) = p.2) (hE2 : ∀ p ∈ bdE 200000, p.1.den (IL W l0 l1) (evS 1 m1 m2 m3 m4 m5 m6 qx qy) = p.2) :
  Calls Tryz.prog 8 #[l0.v, l1.v] W (fun e w' => e = .returned (.bool true) ∧ Below W.heap.size W w') := by
 by_cases h : 0 < dotL m1 m2 m3 m4 qx qy
 ·by_cases h2 : dotL m1 m2 m3 m4 qx qy < sqL m1 m2 m3 m4
  ·have hr : (fnCase rF).Ok Tryz.prog (IL W l0 l1) (evS 1 m1 m2 m3 m4 m5 m6 qx qy) := fnCase_ok (pt1c hc hp h h2)
   have hK : (⟨bdE 1100, [0, 2], 0⟩ : Known).Ok (IL W l0 l1) (evS 1 m1 m2 m3 m4 m5 m6 qx qy) := draws_ok (n := 0) hE (fun _ h => absurd h (Nat.not_lt_zero _))
   have c2 : crL m1 m2 m3 m4 qx qy * crL m1 m2 m3 m4 qx qy ≤ l256 := (inR_ok hK cc_in).2
   have q2 : sqL m1 m2 m3 m4 ≤ l256 := (inR_ok hK sq_in).2
   have c1 := sq_nn (crL m1 m2 m3 m4 qx qy)
   have q1 : 1 ≤ sqL m1 m2 m3 m4 := by omega
   have qq : 1 ≤ sqL m1 m2 m3 m4 * sqL m1 m2 m3 m4 := by have := Int.mul_pos (show 0 < sqL m1 m2 m3 m4 by omega) (show 0 < sqL m1 m2 m3 m4 by omega); omega
   have hz := end_nn (crL m1 m2 m3 m4 qx qy * crL m1 m2 m3 m4 qx qy) (sqL m1 m2 m3 m4) c1 q1
   have hd : (sqL m1 m2 m3 m4 * (qx - m1) - dotL m1 m2 m3 m4 qx qy * (m3 - m1)) * (m3 - m1) + (sqL m1 m2 m3 m4 * (qy - m2) - dotL m1 m2 m3 m4 qx qy * (m4 - m2)) * (m4 - m2) = 0 := by unfold sqL dotL; grind
   have hl : (sqL m1 m2 m3 m4 * (qx - m1) - dotL m1 m2 m3 m4 qx qy * (m3 - m1)) * (sqL m1 m2 m3 m4 * (qx - m1) - dotL m1 m2 m3 m4 qx qy * (m3 - m1)) + (sqL m1 m2 m3 m4 * (qy - m2) - dotL m1 m2 m3 m4 qx qy * (m4 - m2)) * (sqL m1 m2 m3 m4 * (qy - m2) - dotL m1 m2 m3 m4 qx qy * (m4 - m2)) = sqL m1 m2 m3 m4 * (crL m1 m2 m3 m4 qx qy * crL m1 m2 m3 m4 qx qy) := by unfold sqL dotL crL; grind
   have hcm := cmp_scaled q1 q2 c1 c2 hl
   by_cases hx : m3 - m1 = 0
   ·have hy : m4 - m2 ≠ 0 := fun g => by
     have : sqL m1 m2 m3 m4 = 0 := by unfold sqL; rw [hx, g]; rfl
     omega
    exact spot_case (kk := kFb) h0 h1 hm ha hr (fcons (B.eq_t.2 rfl) (fcons (B.eq_t.2 hx) (fcons (B.eq_f.2 hy) (fcons (B.lt_t.2 h) (fcons (B.lt_t.2 h2) (fcons (B.lt_f.2 q1) (fcons (B.lt_f.2 qq) (fcons (B.lt_f.2 hz) (fcons (B.eq_t.2 hd) (fcons (B.eq_t.2 hcm) hE)))))))))) spFb_chk
   ·exact spot_case (kk := kFa) h0 h1 hm ha hr (fcons (B.eq_t.2 rfl) (fcons (B.eq_f.2 hx) (fcons (B.lt_t.2 h) (fcons (B.lt_t.2 h2) (fcons (B.lt_f.2 q1) (fcons (B.lt_f.2 qq) (fcons (B.lt_f.2 hz) (fcons (B.eq_t.2 hd) (fcons (B.eq_t.2 hcm) hE))))))))) spFa_chk
  ·have hr : (fnCase rB).Ok Tryz.prog (IL W l0 l1) (evS 1 m1 m2 m3 m4 m5 m6 qx qy) := fnCase_ok (pt1b hc hp h h2)
   exact spot_case (kk := kB) h0 h1 hm ha hr (fcons (B.lt_f.2 (end_nn _ 1 (Int.add_nonneg (sq_nn (qx - m3)) (sq_nn (qy - m4))) (by decide))) hE2) spB_chk
 ·have hr : (fnCase rA).Ok Tryz.prog (IL W l0 l1) (evS 1 m1 m2 m3 m4 m5 m6 qx qy) := fnCase_ok (pt1a hc hp h)
  exact spot_case (kk := kA) h0 h1 hm ha hr (fcons (B.lt_f.2 (end_nn _ 1 (Int.add_nonneg (sq_nn (qx - m1)) (sq_nn (qy - m2))) (by decide))) hE2) spA_chk
omit h0 h1
end
theorem nearSpots_law (l0 l1 : Ls) (W : World) (h0 : l0.Ok W) (h1 : l1.Ok W) :
  Calls Tryz.prog 8 #[l0.v, l1.v] W (fun e w' => e = .returned (.bool true) ∧ Below W.heap.size W w') := by
 obtain ⟨r, ⟨mk, m1, m2, m3, m4, m5, m6, rfl, hok, hb⟩, hm⟩ := made_ex h0 h1
 have hc := check_of_ok hok
 have hr := rad_800 (mk := mk) hb
 by_cases hk1 : mk = 1
 ·subst hk1
  obtain ⟨qx, qy, hq, ha⟩ := at_ex1 h0 h1 m1 m2 m3 m4 m5 m6 hb
  have hp : rightP qx qy := by unfold rightP; omega
  exact spot_line h0 h1 hm ha hc hp (bdE_ok hr hb hq) (bdE_ok hr hb (by omega))
 ·obtain ⟨qx, qy, hq, ha⟩ := at_ex h0 h1 mk m1 m2 m3 m4 m5 m6 (by omega)
  have hp : rightP qx qy := by unfold rightP; omega
  obtain ⟨k1, k2, _⟩ := check_ok hc
  obtain rfl | rfl : mk = 2 ∨ mk = 3 := by omega
  ·exact spot_arc h0 h1 hm ha hk1 (bdE_ok hr hb hq) hr.1 (fun g => g.1) (pt2 hc hp)
  ·exact spot_arc h0 h1 hm ha hk1 (bdE_ok hr hb hq) hr.1 (fun g => g.1) (pt3 hc hp)
end Go.Proofs.YtgnogdncoljldaaGreat.Sx

