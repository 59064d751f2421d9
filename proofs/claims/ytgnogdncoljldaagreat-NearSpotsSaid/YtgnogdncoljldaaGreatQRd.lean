import Derived.Test.YtgnogdncoljldaaGreatQRc
set_option linter.all false
set_option autoImplicit false
namespace Go.Proofs.YtgnogdncoljldaaGreat.Sx
open Go Go.RowKit
theorem absMul (a b : Int) : 0 ≤ max a (0 - a) * max b (0 - b) ∧ (a < 0 → b < 0 → max a (0 - a) * max b (0 - b) = a * b) ∧ (a < 0 → 0 ≤ b → max a (0 - a) * max b (0 - b) = -(a * b)) ∧
  (0 ≤ a → b < 0 → max a (0 - a) * max b (0 - b) = -(a * b)) ∧ (0 ≤ a → 0 ≤ b → max a (0 - a) * max b (0 - b) = a * b) := by
 refine ⟨Int.mul_nonneg (by omega) (by omega), fun h1 h2 => ?_, fun h1 h2 => ?_, fun h1 h2 => ?_, fun h1 h2 => ?_⟩
 ·rw [show max a (0 - a) = -a by omega, show max b (0 - b) = -b by omega, Int.neg_mul_neg]
 ·rw [show max a (0 - a) = -a by omega, show max b (0 - b) = b by omega, Int.neg_mul]
 ·rw [show max a (0 - a) = a by omega, show max b (0 - b) = -b by omega, Int.mul_neg]
 ·rw [show max a (0 - a) = a by omega, show max b (0 - b) = b by omega]
theorem nfB_pos : 0 < nfBound := by unfold nfBound; exact Int.pow_pos (Int.pow_pos (by decide))
theorem bnd2 {ρ : Env} {t : T} (h0 : 0 ≤ t.den IR ρ) (h : t.den IR ρ ≤ nfBound) : ∀ p ∈ [(B.lt (.lit nfBound) t, false), (B.lt t (.lit (-nfBound)), false)], p.1.den IR ρ = p.2 :=
 facts2 (B.lt_f.2 h) (B.lt_f.2 (by rw [T.den_lit]; have := nfB_pos; omega))
def raddT : Tree T :=
 (.node (.lt (.var 0) (.lit 0))
 (.node (.lt (.var 1) (.lit 0))
 (.leaf (.bin .sub (.lit 0) (.bin .max (.bin .add (.bin .max (.var 0) (.bin .sub (.lit 0) (.var 0))) (.bin .max (.var 1) (.bin .sub (.lit 0) (.var 1)))) (.bin .sub (.lit 0) (.bin .add (.bin .max (.var 0) (.bin .sub (.lit 0) (.var 0))) (.bin .max (.var 1) (.bin .sub (.lit 0) (.var 1))))))))
 (.node (.lt (.bin .max (.var 0) (.bin .sub (.lit 0) (.var 0))) (.bin .max (.var 1) (.bin .sub (.lit 0) (.var 1))))
 (.leaf (.bin .max (.bin .sub (.bin .max (.var 1) (.bin .sub (.lit 0) (.var 1))) (.bin .max (.var 0) (.bin .sub (.lit 0) (.var 0)))) (.bin .sub (.lit 0) (.bin .sub (.bin .max (.var 1) (.bin .sub (.lit 0) (.var 1))) (.bin .max (.var 0) (.bin .sub (.lit 0) (.var 0)))))))
 (.node (.lt (.bin .max (.var 1) (.bin .sub (.lit 0) (.var 1))) (.bin .max (.var 0) (.bin .sub (.lit 0) (.var 0))))
 (.leaf (.bin .sub (.lit 0) (.bin .max (.bin .sub (.bin .max (.var 0) (.bin .sub (.lit 0) (.var 0))) (.bin .max (.var 1) (.bin .sub (.lit 0) (.var 1)))) (.bin .sub (.lit 0) (.bin .sub (.bin .max (.var 0) (.bin .sub (.lit 0) (.var 0))) (.bin .max (.var 1) (.bin .sub (.lit 0) (.var 1))))))))
 (.leaf (.bin .sub (.lit 0) (.bin .max (.bin .sub (.bin .max (.var 0) (.bin .sub (.lit 0) (.var 0))) (.bin .max (.var 1) (.bin .sub (.lit 0) (.var 1)))) (.bin .sub (.lit 0) (.bin .sub (.bin .max (.var 0) (.bin .sub (.lit 0) (.var 0))) (.bin .max (.var 1) (.bin .sub (.lit 0) (.var 1)))))))))))
 (.node (.lt (.var 1) (.lit 0))
 (.node (.lt (.bin .max (.var 0) (.bin .sub (.lit 0) (.var 0))) (.bin .max (.var 1) (.bin .sub (.lit 0) (.var 1))))
 (.leaf (.bin .sub (.lit 0) (.bin .max (.bin .sub (.bin .max (.var 1) (.bin .sub (.lit 0) (.var 1))) (.bin .max (.var 0) (.bin .sub (.lit 0) (.var 0)))) (.bin .sub (.lit 0) (.bin .sub (.bin .max (.var 1) (.bin .sub (.lit 0) (.var 1))) (.bin .max (.var 0) (.bin .sub (.lit 0) (.var 0))))))))
 (.node (.lt (.bin .max (.var 1) (.bin .sub (.lit 0) (.var 1))) (.bin .max (.var 0) (.bin .sub (.lit 0) (.var 0))))
 (.leaf (.bin .max (.bin .sub (.bin .max (.var 0) (.bin .sub (.lit 0) (.var 0))) (.bin .max (.var 1) (.bin .sub (.lit 0) (.var 1)))) (.bin .sub (.lit 0) (.bin .sub (.bin .max (.var 0) (.bin .sub (.lit 0) (.var 0))) (.bin .max (.var 1) (.bin .sub (.lit 0) (.var 1)))))))
 (.leaf (.bin .max (.bin .sub (.bin .max (.var 0) (.bin .sub (.lit 0) (.var 0))) (.bin .max (.var 1) (.bin .sub (.lit 0) (.var 1)))) (.bin .sub (.lit 0) (.bin .sub (.bin .max (.var 0) (.bin .sub (.lit 0) (.var 0))) (.bin .max (.var 1) (.bin .sub (.lit 0) (.var 1)))))))))
 (.leaf (.bin .max (.bin .add (.bin .max (.var 0) (.bin .sub (.lit 0) (.var 0))) (.bin .max (.var 1) (.bin .sub (.lit 0) (.var 1)))) (.bin .sub (.lit 0) (.bin .add (.bin .max (.var 0) (.bin .sub (.lit 0) (.var 0))) (.bin .max (.var 1) (.bin .sub (.lit 0) (.var 1)))))))))
set_option maxRecDepth 1000000 in
theorem radd_tree : resT .two (execF Tryz.prog ctR0 20 149 A2 (startN 2 ⟨addF, [], 0⟩)) = raddT := by kernel_rfl
set_option maxRecDepth 100000 in
theorem radd_c (va vb : Value) (a b : Int) (w : World) (ha : ZNum w.heap.size w va a) (hb : ZNum w.heap.size w vb b) (hl : max a (0 - a) + max b (0 - b) ≤ nfBound) :
  Calls Tryz.prog 149 #[va, vb] w (fun x w' => GivesR .two (a + b) x w' ∧ Below w.heap.size w w') := by
 obtain ⟨⟨s0, rfl, u0⟩, z0⟩ := ha
 obtain ⟨⟨s1, rfl, u1⟩, z1⟩ := hb
 have key : raddT.vc IR (envOf [a, b] []) (fun t => t.den IR (envOf [a, b] []) = a + b) := ?key
 ·exact @calls_numT Tryz.prog IR (envOf [a, b] []) mixedR nocountR rfl ctR0 (ctR0_ok rfl) 20 149 A2 2 ⟨addF, [], 0⟩ [s0, s1] _ w .two (a + b) raddT (fun _ h => nomatch h)
   ⟨bnd2 (by rw [T.den_bin, absT_den, absT_den]; simp only [T.den_var, ev_add]; omega) (by rw [T.den_bin]; simp only [absT, T.den_mkBin, T.den_var, T.den_lit, ev_add, ev_max, ev_sub]; exact hl), (fun _ h => nomatch h), fun _ h => absurd h (Nat.not_lt_zero _)⟩ rfl (two_u u0 z0 u1 z1) rfl (two_v rfl) radd_tree key
 obtain ⟨p0, p1, p2, p3, p4⟩ := absMul a b
 clear hl
 unfold raddT
 repeat' (first | refine And.intro ?_ ?_ | intro _)
 all_goals
  simp only [B.lt_t, B.lt_f, B.eq_t, B.eq_f, B.den_var, B.den_lit, B.den_not, B.den_and, B.den_iff, T.den_lit, T.den_var, T.den_wrap, T.den_bin, ev_add, ev_sub, ev_mul, ev_quo, ev_rem, ev_max, ev_min, envOf, List.getD_cons_zero, List.getD_cons_succ, w64, T.den_app, T.dens_cons, T.dens_nil, ir_len, Tree.vc] at *
  (try have hz := len0 b (by omega))
  omega
def rsubT : Tree T :=
 (.node (.lt (.lit 0) (.app 999 (.cons (.var 1) .nil)))
 (.node (.lt (.var 0) (.lit 0))
 (.node (.lt (.var 1) (.lit 0))
 (.node (.lt (.bin .max (.var 0) (.bin .sub (.lit 0) (.var 0))) (.bin .max (.var 1) (.bin .sub (.lit 0) (.var 1))))
 (.leaf (.bin .max (.bin .sub (.bin .max (.var 1) (.bin .sub (.lit 0) (.var 1))) (.bin .max (.var 0) (.bin .sub (.lit 0) (.var 0)))) (.bin .sub (.lit 0) (.bin .sub (.bin .max (.var 1) (.bin .sub (.lit 0) (.var 1))) (.bin .max (.var 0) (.bin .sub (.lit 0) (.var 0)))))))
 (.node (.lt (.bin .max (.var 1) (.bin .sub (.lit 0) (.var 1))) (.bin .max (.var 0) (.bin .sub (.lit 0) (.var 0))))
 (.leaf (.bin .sub (.lit 0) (.bin .max (.bin .sub (.bin .max (.var 0) (.bin .sub (.lit 0) (.var 0))) (.bin .max (.var 1) (.bin .sub (.lit 0) (.var 1)))) (.bin .sub (.lit 0) (.bin .sub (.bin .max (.var 0) (.bin .sub (.lit 0) (.var 0))) (.bin .max (.var 1) (.bin .sub (.lit 0) (.var 1))))))))
 (.leaf (.bin .sub (.lit 0) (.bin .max (.bin .sub (.bin .max (.var 0) (.bin .sub (.lit 0) (.var 0))) (.bin .max (.var 1) (.bin .sub (.lit 0) (.var 1)))) (.bin .sub (.lit 0) (.bin .sub (.bin .max (.var 0) (.bin .sub (.lit 0) (.var 0))) (.bin .max (.var 1) (.bin .sub (.lit 0) (.var 1))))))))))
 (.leaf (.bin .sub (.lit 0) (.bin .max (.bin .add (.bin .max (.var 0) (.bin .sub (.lit 0) (.var 0))) (.bin .max (.var 1) (.bin .sub (.lit 0) (.var 1)))) (.bin .sub (.lit 0) (.bin .add (.bin .max (.var 0) (.bin .sub (.lit 0) (.var 0))) (.bin .max (.var 1) (.bin .sub (.lit 0) (.var 1)))))))))
 (.node (.lt (.var 1) (.lit 0))
 (.leaf (.bin .max (.bin .add (.bin .max (.var 0) (.bin .sub (.lit 0) (.var 0))) (.bin .max (.var 1) (.bin .sub (.lit 0) (.var 1)))) (.bin .sub (.lit 0) (.bin .add (.bin .max (.var 0) (.bin .sub (.lit 0) (.var 0))) (.bin .max (.var 1) (.bin .sub (.lit 0) (.var 1)))))))
 (.node (.lt (.bin .max (.var 0) (.bin .sub (.lit 0) (.var 0))) (.bin .max (.var 1) (.bin .sub (.lit 0) (.var 1))))
 (.leaf (.bin .sub (.lit 0) (.bin .max (.bin .sub (.bin .max (.var 1) (.bin .sub (.lit 0) (.var 1))) (.bin .max (.var 0) (.bin .sub (.lit 0) (.var 0)))) (.bin .sub (.lit 0) (.bin .sub (.bin .max (.var 1) (.bin .sub (.lit 0) (.var 1))) (.bin .max (.var 0) (.bin .sub (.lit 0) (.var 0))))))))
 (.node (.lt (.bin .max (.var 1) (.bin .sub (.lit 0) (.var 1))) (.bin .max (.var 0) (.bin .sub (.lit 0) (.var 0))))
 (.leaf (.bin .max (.bin .sub (.bin .max (.var 0) (.bin .sub (.lit 0) (.var 0))) (.bin .max (.var 1) (.bin .sub (.lit 0) (.var 1)))) (.bin .sub (.lit 0) (.bin .sub (.bin .max (.var 0) (.bin .sub (.lit 0) (.var 0))) (.bin .max (.var 1) (.bin .sub (.lit 0) (.var 1)))))))
 (.leaf (.bin .max (.bin .sub (.bin .max (.var 0) (.bin .sub (.lit 0) (.var 0))) (.bin .max (.var 1) (.bin .sub (.lit 0) (.var 1)))) (.bin .sub (.lit 0) (.bin .sub (.bin .max (.var 0) (.bin .sub (.lit 0) (.var 0))) (.bin .max (.var 1) (.bin .sub (.lit 0) (.var 1)))))))))))
 (.node (.lt (.var 0) (.lit 0))
 (.node (.lt (.var 1) (.lit 0))
 (.leaf (.bin .sub (.lit 0) (.bin .max (.bin .add (.bin .max (.var 0) (.bin .sub (.lit 0) (.var 0))) (.bin .max (.var 1) (.bin .sub (.lit 0) (.var 1)))) (.bin .sub (.lit 0) (.bin .add (.bin .max (.var 0) (.bin .sub (.lit 0) (.var 0))) (.bin .max (.var 1) (.bin .sub (.lit 0) (.var 1))))))))
 (.node (.lt (.bin .max (.var 0) (.bin .sub (.lit 0) (.var 0))) (.bin .max (.var 1) (.bin .sub (.lit 0) (.var 1))))
 (.leaf (.bin .max (.bin .sub (.bin .max (.var 1) (.bin .sub (.lit 0) (.var 1))) (.bin .max (.var 0) (.bin .sub (.lit 0) (.var 0)))) (.bin .sub (.lit 0) (.bin .sub (.bin .max (.var 1) (.bin .sub (.lit 0) (.var 1))) (.bin .max (.var 0) (.bin .sub (.lit 0) (.var 0)))))))
 (.node (.lt (.bin .max (.var 1) (.bin .sub (.lit 0) (.var 1))) (.bin .max (.var 0) (.bin .sub (.lit 0) (.var 0))))
 (.leaf (.bin .sub (.lit 0) (.bin .max (.bin .sub (.bin .max (.var 0) (.bin .sub (.lit 0) (.var 0))) (.bin .max (.var 1) (.bin .sub (.lit 0) (.var 1)))) (.bin .sub (.lit 0) (.bin .sub (.bin .max (.var 0) (.bin .sub (.lit 0) (.var 0))) (.bin .max (.var 1) (.bin .sub (.lit 0) (.var 1))))))))
 (.leaf (.bin .sub (.lit 0) (.bin .max (.bin .sub (.bin .max (.var 0) (.bin .sub (.lit 0) (.var 0))) (.bin .max (.var 1) (.bin .sub (.lit 0) (.var 1)))) (.bin .sub (.lit 0) (.bin .sub (.bin .max (.var 0) (.bin .sub (.lit 0) (.var 0))) (.bin .max (.var 1) (.bin .sub (.lit 0) (.var 1)))))))))))
 (.node (.lt (.var 1) (.lit 0))
 (.node (.lt (.bin .max (.var 0) (.bin .sub (.lit 0) (.var 0))) (.bin .max (.var 1) (.bin .sub (.lit 0) (.var 1))))
 (.leaf (.bin .sub (.lit 0) (.bin .max (.bin .sub (.bin .max (.var 1) (.bin .sub (.lit 0) (.var 1))) (.bin .max (.var 0) (.bin .sub (.lit 0) (.var 0)))) (.bin .sub (.lit 0) (.bin .sub (.bin .max (.var 1) (.bin .sub (.lit 0) (.var 1))) (.bin .max (.var 0) (.bin .sub (.lit 0) (.var 0))))))))
 (.node (.lt (.bin .max (.var 1) (.bin .sub (.lit 0) (.var 1))) (.bin .max (.var 0) (.bin .sub (.lit 0) (.var 0))))
 (.leaf (.bin .max (.bin .sub (.bin .max (.var 0) (.bin .sub (.lit 0) (.var 0))) (.bin .max (.var 1) (.bin .sub (.lit 0) (.var 1)))) (.bin .sub (.lit 0) (.bin .sub (.bin .max (.var 0) (.bin .sub (.lit 0) (.var 0))) (.bin .max (.var 1) (.bin .sub (.lit 0) (.var 1)))))))
 (.leaf (.bin .max (.bin .sub (.bin .max (.var 0) (.bin .sub (.lit 0) (.var 0))) (.bin .max (.var 1) (.bin .sub (.lit 0) (.var 1)))) (.bin .sub (.lit 0) (.bin .sub (.bin .max (.var 0) (.bin .sub (.lit 0) (.var 0))) (.bin .max (.var 1) (.bin .sub (.lit 0) (.var 1)))))))))
 (.leaf (.bin .max (.bin .add (.bin .max (.var 0) (.bin .sub (.lit 0) (.var 0))) (.bin .max (.var 1) (.bin .sub (.lit 0) (.var 1)))) (.bin .sub (.lit 0) (.bin .add (.bin .max (.var 0) (.bin .sub (.lit 0) (.var 0))) (.bin .max (.var 1) (.bin .sub (.lit 0) (.var 1))))))))))
set_option maxRecDepth 1000000 in
theorem rsub_tree : resT .two (execF Tryz.prog ctR0 20 148 A2 (startN 2 ⟨addF, [], 0⟩)) = rsubT := by kernel_rfl
set_option maxRecDepth 100000 in
theorem rsub_c (va vb : Value) (a b : Int) (w : World) (ha : ZNum w.heap.size w va a) (hb : ZNum w.heap.size w vb b) (hl : max a (0 - a) + max b (0 - b) ≤ nfBound) :
  Calls Tryz.prog 148 #[va, vb] w (fun x w' => GivesR .two (a - b) x w' ∧ Below w.heap.size w w') := by
 obtain ⟨⟨s0, rfl, u0⟩, z0⟩ := ha
 obtain ⟨⟨s1, rfl, u1⟩, z1⟩ := hb
 have key : rsubT.vc IR (envOf [a, b] []) (fun t => t.den IR (envOf [a, b] []) = a - b) := ?key
 ·exact @calls_numT Tryz.prog IR (envOf [a, b] []) mixedR nocountR rfl ctR0 (ctR0_ok rfl) 20 148 A2 2 ⟨addF, [], 0⟩ [s0, s1] _ w .two (a - b) rsubT (fun _ h => nomatch h)
   ⟨bnd2 (by rw [T.den_bin, absT_den, absT_den]; simp only [T.den_var, ev_add]; omega) (by rw [T.den_bin]; simp only [absT, T.den_mkBin, T.den_var, T.den_lit, ev_add, ev_max, ev_sub]; exact hl), (fun _ h => nomatch h), fun _ h => absurd h (Nat.not_lt_zero _)⟩ rfl (two_u u0 z0 u1 z1) rfl (two_v rfl) rsub_tree key
 obtain ⟨p0, p1, p2, p3, p4⟩ := absMul a b
 clear hl
 unfold rsubT
 repeat' (first | refine And.intro ?_ ?_ | intro _)
 all_goals
  simp only [B.lt_t, B.lt_f, B.eq_t, B.eq_f, B.den_var, B.den_lit, B.den_not, B.den_and, B.den_iff, T.den_lit, T.den_var, T.den_wrap, T.den_bin, ev_add, ev_sub, ev_mul, ev_quo, ev_rem, ev_max, ev_min, envOf, List.getD_cons_zero, List.getD_cons_succ, w64, T.den_app, T.dens_cons, T.dens_nil, ir_len, Tree.vc] at *
  (try have hz := len0 b (by omega))
  omega
def rmulT : Tree T :=
 (.node (.lt (.var 0) (.lit 0))
 (.node (.lt (.var 1) (.lit 0))
 (.leaf (.bin .max (.bin .mul (.bin .max (.var 0) (.bin .sub (.lit 0) (.var 0))) (.bin .max (.var 1) (.bin .sub (.lit 0) (.var 1)))) (.bin .sub (.lit 0) (.bin .mul (.bin .max (.var 0) (.bin .sub (.lit 0) (.var 0))) (.bin .max (.var 1) (.bin .sub (.lit 0) (.var 1)))))))
 (.leaf (.bin .sub (.lit 0) (.bin .max (.bin .mul (.bin .max (.var 0) (.bin .sub (.lit 0) (.var 0))) (.bin .max (.var 1) (.bin .sub (.lit 0) (.var 1)))) (.bin .sub (.lit 0) (.bin .mul (.bin .max (.var 0) (.bin .sub (.lit 0) (.var 0))) (.bin .max (.var 1) (.bin .sub (.lit 0) (.var 1)))))))))
 (.node (.lt (.var 1) (.lit 0))
 (.leaf (.bin .sub (.lit 0) (.bin .max (.bin .mul (.bin .max (.var 0) (.bin .sub (.lit 0) (.var 0))) (.bin .max (.var 1) (.bin .sub (.lit 0) (.var 1)))) (.bin .sub (.lit 0) (.bin .mul (.bin .max (.var 0) (.bin .sub (.lit 0) (.var 0))) (.bin .max (.var 1) (.bin .sub (.lit 0) (.var 1))))))))
 (.leaf (.bin .max (.bin .mul (.bin .max (.var 0) (.bin .sub (.lit 0) (.var 0))) (.bin .max (.var 1) (.bin .sub (.lit 0) (.var 1)))) (.bin .sub (.lit 0) (.bin .mul (.bin .max (.var 0) (.bin .sub (.lit 0) (.var 0))) (.bin .max (.var 1) (.bin .sub (.lit 0) (.var 1)))))))))
set_option maxRecDepth 1000000 in
theorem rmul_tree : resT .two (execF Tryz.prog ctR1 20 137 A2 (startN 2 ⟨mulF, [], 0⟩)) = rmulT := by kernel_rfl
set_option maxRecDepth 100000 in
theorem rmul_c (va vb : Value) (a b : Int) (w : World) (ha : ZNum w.heap.size w va a) (hb : ZNum w.heap.size w vb b) (hl : max a (0 - a) * max b (0 - b) ≤ nfBound) :
  Calls Tryz.prog 137 #[va, vb] w (fun x w' => GivesR .two (a * b) x w' ∧ Below w.heap.size w w') := by
 obtain ⟨⟨s0, rfl, u0⟩, z0⟩ := ha
 obtain ⟨⟨s1, rfl, u1⟩, z1⟩ := hb
 have key : rmulT.vc IR (envOf [a, b] []) (fun t => t.den IR (envOf [a, b] []) = a * b) := ?key
 ·exact @calls_numT Tryz.prog IR (envOf [a, b] []) mixedR nocountR rfl ctR1 (ctR1_ok rfl) 20 137 A2 2 ⟨mulF, [], 0⟩ [s0, s1] _ w .two (a * b) rmulT (fun _ h => nomatch h)
   ⟨bnd2 (by rw [T.den_bin, absT_den, absT_den]; simp only [T.den_var, ev_mul]; exact Int.mul_nonneg (by omega) (by omega)) (by rw [T.den_bin]; simp only [absT, T.den_mkBin, T.den_var, T.den_lit, ev_mul, ev_max, ev_sub]; exact hl), (fun _ h => nomatch h), fun _ h => absurd h (Nat.not_lt_zero _)⟩ rfl (two_u u0 z0 u1 z1) rfl (two_v rfl) rmul_tree key
 obtain ⟨p0, p1, p2, p3, p4⟩ := absMul a b
 clear hl
 unfold rmulT
 repeat' (first | refine And.intro ?_ ?_ | intro _)
 all_goals
  simp only [B.lt_t, B.lt_f, B.eq_t, B.eq_f, B.den_var, B.den_lit, B.den_not, B.den_and, B.den_iff, T.den_lit, T.den_var, T.den_wrap, T.den_bin, ev_add, ev_sub, ev_mul, ev_quo, ev_rem, ev_max, ev_min, envOf, List.getD_cons_zero, List.getD_cons_succ, w64, T.den_app, T.dens_cons, T.dens_nil, ir_len, Tree.vc] at *
  (try have hz := len0 b (by omega))
  omega
def rsameT : Tree V :=
 (.node (.lt (.var 0) (.lit 0))
 (.node (.lt (.var 1) (.lit 0))
 (.node (.lt (.bin .max (.var 0) (.bin .sub (.lit 0) (.var 0))) (.bin .max (.var 1) (.bin .sub (.lit 0) (.var 1))))
 (.leaf (.c (.bool (.lit false))))
 (.node (.lt (.bin .max (.var 1) (.bin .sub (.lit 0) (.var 1))) (.bin .max (.var 0) (.bin .sub (.lit 0) (.var 0))))
 (.leaf (.c (.bool (.lit false))))
 (.leaf (.c (.bool (.lit true))))))
 (.leaf (.c (.bool (.lit false)))))
 (.node (.lt (.var 1) (.lit 0))
 (.leaf (.c (.bool (.lit false))))
 (.node (.lt (.bin .max (.var 0) (.bin .sub (.lit 0) (.var 0))) (.bin .max (.var 1) (.bin .sub (.lit 0) (.var 1))))
 (.leaf (.c (.bool (.lit false))))
 (.node (.lt (.bin .max (.var 1) (.bin .sub (.lit 0) (.var 1))) (.bin .max (.var 0) (.bin .sub (.lit 0) (.var 0))))
 (.leaf (.c (.bool (.lit false))))
 (.leaf (.c (.bool (.lit true))))))))
set_option maxRecDepth 1000000 in
theorem rsame_tree : vals (execF Tryz.prog ctR0 20 49 A2 (startN 2 ⟨[], [], 0⟩)) = rsameT := by kernel_rfl
theorem rsame_c (va vb : Value) (a b : Int) (w : World) (ha : ZNum w.heap.size w va a) (hb : ZNum w.heap.size w vb b) :
  Calls Tryz.prog 49 #[va, vb] w (fun x w' => x = .returned (.bool (decide (a = b))) ∧ Below w.heap.size w w') := by
 obtain ⟨⟨s0, rfl, u0⟩, z0⟩ := ha
 obtain ⟨⟨s1, rfl, u1⟩, z1⟩ := hb
 have key : rsameT.vc IR (envOf [a, b] []) (fun v => v.wf 0 = true ∧ v.den IR (envOf [a, b] []) id = .bool (decide (a = b))) := ?key
 ·exact @calls_numV Tryz.prog IR (envOf [a, b] []) mixedR nocountR rfl ctR0 (ctR0_ok rfl) 20 49 A2 2 ⟨[], [], 0⟩ [s0, s1] _ w _ rsameT (fun _ h => nomatch h)
   ⟨(fun _ h => nomatch h), (fun _ h => nomatch h), fun _ h => absurd h (Nat.not_lt_zero _)⟩ rfl (two_u u0 z0 u1 z1) rfl (two_v rfl) rsame_tree key
 unfold rsameT
 repeat' (first | refine And.intro ?_ ?_ | intro _)
 all_goals first | rfl | skip
 all_goals
  simp only [B.lt_t, B.lt_f, B.eq_t, B.eq_f, B.den_var, B.den_lit, B.den_not, B.den_and, B.den_iff, T.den_lit, T.den_var, T.den_wrap, T.den_bin, ev_add, ev_sub, ev_mul, ev_quo, ev_rem, ev_max, ev_min, envOf, List.getD_cons_zero, List.getD_cons_succ, w64, Tree.vc] at *
  first
  | (refine bool_t ?_; omega)
  | (refine bool_f ?_; omega)
def rcmpT : Tree V :=
 (.node (.lt (.var 0) (.lit 0))
 (.node (.lt (.var 1) (.lit 0))
 (.node (.lt (.bin .max (.var 1) (.bin .sub (.lit 0) (.var 1))) (.bin .max (.var 0) (.bin .sub (.lit 0) (.var 0))))
 (.leaf (.c (.int .i64 (.lit (-1)))))
 (.node (.lt (.bin .max (.var 0) (.bin .sub (.lit 0) (.var 0))) (.bin .max (.var 1) (.bin .sub (.lit 0) (.var 1))))
 (.leaf (.c (.int .i64 (.lit 1))))
 (.leaf (.c (.int .i64 (.lit 0))))))
 (.leaf (.c (.int .i64 (.lit (-1))))))
 (.node (.lt (.var 1) (.lit 0))
 (.leaf (.c (.int .i64 (.lit 1))))
 (.node (.lt (.bin .max (.var 0) (.bin .sub (.lit 0) (.var 0))) (.bin .max (.var 1) (.bin .sub (.lit 0) (.var 1))))
 (.leaf (.c (.int .i64 (.lit (-1)))))
 (.node (.lt (.bin .max (.var 1) (.bin .sub (.lit 0) (.var 1))) (.bin .max (.var 0) (.bin .sub (.lit 0) (.var 0))))
 (.leaf (.c (.int .i64 (.lit 1))))
 (.leaf (.c (.int .i64 (.lit 0))))))))
set_option maxRecDepth 1000000 in
theorem rcmp_tree : vals (execF Tryz.prog ctR0 20 131 A2 (startN 2 ⟨[], [], 0⟩)) = rcmpT := by kernel_rfl
theorem zc_spec (a b : Int) : (a < b → zc a b = -1) ∧ (b < a → zc a b = 1) ∧ (a = b → zc a b = 0) := by
 unfold zc
 refine ⟨fun h => if_pos h, fun h => ?_, fun h => ?_⟩
 ·rw [if_neg (by omega), if_pos h]
 ·rw [if_neg (by omega), if_neg (by omega)]
theorem rcmpz_c (va vb : Value) (a b : Int) (w : World) (ha : ZNum w.heap.size w va a) (hb : ZNum w.heap.size w vb b) :
  Calls Tryz.prog 131 #[va, vb] w (fun x w' => x = .returned (.int .i64 (zc a b)) ∧ Below w.heap.size w w') := by
 obtain ⟨⟨s0, rfl, u0⟩, z0⟩ := ha
 obtain ⟨⟨s1, rfl, u1⟩, z1⟩ := hb
 have key : rcmpT.vc IR (envOf [a, b] []) (fun v => v.wf 0 = true ∧ v.den IR (envOf [a, b] []) id = .int .i64 (zc a b)) := ?key
 ·exact @calls_numV Tryz.prog IR (envOf [a, b] []) mixedR nocountR rfl ctR0 (ctR0_ok rfl) 20 131 A2 2 ⟨[], [], 0⟩ [s0, s1] _ w _ rcmpT (fun _ h => nomatch h)
   ⟨(fun _ h => nomatch h), (fun _ h => nomatch h), fun _ h => absurd h (Nat.not_lt_zero _)⟩ rfl (two_u u0 z0 u1 z1) rfl (two_v rfl) rcmp_tree key
 have hz := zc_spec a b
 generalize zc a b = Z at *
 unfold rcmpT
 repeat' (first | refine And.intro ?_ ?_ | intro _)
 all_goals first | rfl | skip
 all_goals
  simp only [B.lt_t, B.lt_f, B.eq_t, B.eq_f, B.den_var, B.den_lit, B.den_not, B.den_and, B.den_iff, T.den_lit, T.den_var, T.den_wrap, T.den_bin, ev_add, ev_sub, ev_mul, ev_quo, ev_rem, ev_max, ev_min, envOf, List.getD_cons_zero, List.getD_cons_succ, w64, Tree.vc, V.den, C.den] at *
  first
  | omega
  | (congr 1; omega)
set_option maxRecDepth 1000000 in
theorem short_tree : vals (execF Tryz.prog (ctInt [niRightR 123]) 20 68 [.agg (numV (.var 0) 0), .c (.int .i64 (.var 1))] (startN 1 ⟨[(.lt (.var 1) (.app 999 (.cons (.var 0) .nil)), false)], [], 0⟩)) = .leaf (.c (.bool (.lit true))) := by kernel_rfl
theorem vright_c {I : Interp} {ρ : Env} : (niRightR 123).Ok Tryz.prog I ρ := by
 intro k ts c hk hv w vs ha
 injection hv with hv
 subst hv
 obtain ⟨v, z, rfl, e, h⟩ := rzero_of ha
 obtain ⟨⟨s, rfl, hu⟩, hz⟩ := h
 refine (right_calls _ s _ w hu).mono fun x w' ⟨hx, hb⟩ => ⟨?_, hb⟩
 rw [hx, right_z _ hz (fun h0 => by simp; omega)]
 rfl
def l256 : Int := 2 ^ 256 - 1
theorem few8 {z : Int} (h1 : -l256 ≤ z) (h2 : z ≤ l256) : (digs z.natAbs).length ≤ 8 := by
 refine digs_len.2 ?_
 have : (B32 ^ 8 : Nat) = 2 ^ 256 := by decide
 rw [this]
 unfold l256 at h1 h2
 omega
theorem short_c (v : Value) (z k : Int) (w : World) (h : ZNum w.heap.size w v z) (h1 : -l256 ≤ z) (h2 : z ≤ l256) (hk : 7 < k) : Calls Tryz.prog 68 #[v, .int .i64 k] w (fun x w' => x = .returned (.bool true) ∧ Below w.heap.size w w') := by
 obtain ⟨⟨s0, rfl, u0⟩, z0⟩ := h
 have h8 := few8 h1 h2
 refine @calls_numV Tryz.prog IR (envOf [z, k] []) mixedR nocountR rfl _ (ctInt_ok rfl fun e he => ?_) 20 68 [.agg (numV (.var 0) 0), .c (.int .i64 (.var 1))] 1 ⟨[(.lt (.var 1) (.app 999 (.cons (.var 0) .nil)), false)], [], 0⟩ [s0] _ w _ _ (fun _ h => nomatch h)
   ⟨fun p hp => ?_, (fun _ h => nomatch h), fun _ h => absurd h (Nat.not_lt_zero _)⟩ rfl (fun i v h => ?_) rfl (fun β hβ => ?_) short_tree ⟨rfl, rfl⟩
 ·simp only [List.mem_cons, List.not_mem_nil, or_false] at he; subst he; exact vright_c
 ·simp only [List.mem_cons, List.not_mem_nil, or_false] at hp
  subst hp
  refine B.lt_f.2 ?_
  rw [T.den_app, T.dens_cons, T.dens_nil, ir_len]
  show ((digs z.natAbs).length : Int) ≤ k
  omega
 ·match i, h with
  | 0, h => injection h with h; subst h; exact ⟨u0, z0⟩
 ·have h0 := hβ 0 s0 rfl
  simp only [List.map_cons, List.map_nil, V.den, cellsOf, numV, C.den, h0]
  rfl
def niShort (g : FuncId) : NI := ⟨g, [.num, .int], fun k ts => match ts with
 | [a, .lit n] => bif inR k a (-l256) l256 && intLt 7 n then some (.bool (.lit true)) else none
 | _ => none⟩
def niSame (g : FuncId) : NI := ⟨g, [.num, .num], fun k ts => match ts with
 | [a, b] => some (.bool (.mkEq a b))
 | _ => none⟩
def nfMulR (g : FuncId) : NF := ⟨g, [.num, .num], fun k ts => match ts with
 | [a, b] => bif inR k (.mkBin .mul (absT a) (absT b)) (-nfBound) nfBound then some (.mkBin .mul a b) else none
 | _ => none, .two⟩
def nfSumR (g : FuncId) (o : IOp) : NF := ⟨g, [.num, .num], fun k ts => match ts with
 | [a, b] => bif inR k (.mkBin .add (absT a) (absT b)) (-nfBound) nfBound then some (.mkBin o a b) else none
 | _ => none, .two⟩
section
variable {I : Interp} {ρ : Env}
theorem vshort_c : (niShort 68).Ok Tryz.prog I ρ := by
 intro k ts c hk hv w vs ha
 unfold niShort at hv
 simp only at hv
 split at hv
 ·rename_i a n
  cases hb : (inR k a (-l256) l256 && intLt 7 n) with
  | false => rw [hb] at hv; cases hv
  | true =>
    rw [hb] at hv
    injection hv with hv
    subst hv
    simp only [Bool.and_eq_true, intLt_eq, decide_eq_true_eq] at hb
    obtain ⟨h1, h2⟩ := inR_ok hk hb.1
    match vs, ha with
    | [v, u], ⟨h3, h4, _⟩ =>
      have h3 : ZNum w.heap.size w v (a.den I ρ) := h3
      have h4 : u = .int .i64 n := h4
      subst h4
      exact short_c v _ n w h3 h1 h2 hb.2
 ·cases hv
theorem rSame_c : (niSame 49).Ok Tryz.prog I ρ := by
 intro k ts c hk hv w vs ha
 unfold niSame at hv
 simp only at hv
 split at hv
 ·rename_i a b
  injection hv with hv
  subst hv
  obtain ⟨v, z, v2, z2, rfl, e, h1, h2⟩ := two_nums ha
  injection e with e1 e2
  injection e2 with e2 _
  subst e1 e2
  refine (rsame_c _ _ _ _ w h1 h2).mono fun x w' ⟨hx, hb⟩ => ⟨?_, hb⟩
  rw [hx]
  simp only [C.den, B.den_mkEq]
 ·cases hv
theorem rMulR_c : (nfMulR 137).Ok Tryz.prog I ρ := by
 intro k ts t hk hv w vs ha
 unfold nfMulR at hv
 simp only at hv
 split at hv
 ·rename_i a b
  cases hb : inR k (.mkBin .mul (absT a) (absT b)) (-nfBound) nfBound with
  | false => rw [hb] at hv; cases hv
  | true =>
    rw [hb] at hv
    injection hv with hv
    subst hv
    obtain ⟨h1, h2⟩ := inR_ok hk hb
    obtain ⟨v, z, v2, z2, rfl, e, h3, h4⟩ := two_nums ha
    injection e with e1 e2
    injection e2 with e2 _
    subst e1 e2
    rw [T.den_mkBin]
    refine rmul_c _ _ _ _ w h3 h4 ?_
    simp only [absT, T.den_mkBin, T.den_lit, ev_mul, ev_max, ev_sub] at h2
    exact h2
 ·cases hv
theorem rSumR_c {g : FuncId} {o : IOp} (hc : ∀ (va vb : Value) (a b : Int) (w : World), ZNum w.heap.size w va a → ZNum w.heap.size w vb b → max a (0 - a) + max b (0 - b) ≤ nfBound → Calls Tryz.prog g #[va, vb] w (fun x w' => GivesR .two (o.ev a b) x w' ∧ Below w.heap.size w w')) : (nfSumR g o).Ok Tryz.prog I ρ := by
 intro k ts t hk hv w vs ha
 unfold nfSumR at hv
 simp only at hv
 split at hv
 ·rename_i a b
  cases hb : inR k (.mkBin .add (absT a) (absT b)) (-nfBound) nfBound with
  | false => rw [hb] at hv; cases hv
  | true =>
    rw [hb] at hv
    injection hv with hv
    subst hv
    obtain ⟨h1, h2⟩ := inR_ok hk hb
    obtain ⟨v, z, v2, z2, rfl, e, h3, h4⟩ := two_nums ha
    injection e with e1 e2
    injection e2 with e2 _
    subst e1 e2
    rw [T.den_mkBin]
    refine hc _ _ _ _ w h3 h4 ?_
    simp only [absT, T.den_mkBin, T.den_lit, ev_add, ev_max, ev_sub] at h2
    exact h2
 ·cases hv
theorem vOfN_c : (nfOf 65).Ok Tryz.prog I ρ := nfOf_ok fun z w h1 h2 => (of_gives z h1 h2 rfl w).mono fun _ _ h => one_of h
theorem vAdd_c : (nf2 113 .add .two).Ok Tryz.prog I ρ := nf2_ok fun va vb a b w ha hb hl => (add_gives ha hb rfl rfl hl).mono fun _ _ h => two_of h
theorem vSub_c : (nf2 110 .sub .two).Ok Tryz.prog I ρ := nf2_ok fun va vb a b w ha hb hl => (sub_gives ha hb rfl rfl hl).mono fun _ _ h => two_of h
theorem vMul_c : (nf2 86 .mul .two).Ok Tryz.prog I ρ := nf2_ok fun va vb a b w ha hb hl => (mul_gives ha hb rfl rfl hl).mono fun _ _ h => two_of h
theorem gcd_small {a b : Int} (ha : a.natAbs < B32 ^ 64) (hb : b.natAbs < B32 ^ 64) : (gz a b).natAbs < B32 ^ 64 := by unfold gz; rw [Int.natAbs_natCast]; exact gcd_lim ha hb
theorem vGcd_c (h9 : ∀ a b, I.fi 900 [a, b] = gz a b) : (nfGcd 70).Ok Tryz.prog I ρ := nfGcd_ok h9 fun va vb a b w ha hb =>
 (gcd_calls va vb a b w ha hb).mono fun x w' h => two_of (ZPost.gives h rfl (gcd_small ha.2 hb.2))
theorem rGcd_c (h9 : ∀ a b, I.fi 900 [a, b] = gz a b) : (nfGcd 133).Ok Tryz.prog I ρ := nfGcd_ok h9 fun va vb a b w ha hb =>
 (rgcd_ok va vb a b w ha hb).mono fun x w' h => two_of h
theorem vDiv_c (hI : I.opq = numOpq) : CTOk Tryz.prog I ρ (ctDiv 128) := ctDiv_ok hI fun va vb a b w ha hb h0 h1 =>
 (div_ok va vb a b w ha hb h1).mono fun x w' ⟨s, t, hx, hs, ht, hbl⟩ => ⟨⟨_, _, hx, ⟨⟨_, rfl, hs.u32s⟩, (div_lim ha.2 hb.2 h1).1⟩, ⟨⟨_, rfl, ht.u32s⟩, (div_lim ha.2 hb.2 h1).2.1⟩⟩, hbl⟩
theorem rDiv_c (hI : I.opq = numOpq) : CTOk Tryz.prog I ρ (ctDiv 134) := ctDiv_ok hI fun va vb a b w ha hb h0 h1 =>
 (rdiv_ok va vb a b _ _ w ha hb h1 rfl rfl).mono fun x w' ⟨p, n, c, p2, n2, c2, hx, hq, hr, hbl⟩ => ⟨⟨_, _, hx, hq, hr⟩, hbl⟩
theorem vCmp_c (hI : I.opq = numOpq) : CTOk Tryz.prog I ρ (ctZc 125) := ctZc_ok hI fun va vb a b w ha hb => (cmp_calls va vb a b w ha hb).mono fun _ _ ⟨h, k⟩ => ⟨by rw [h]; rfl, k⟩
theorem rCmp0_c (hI : I.opq = numOpq) : CTOk Tryz.prog I ρ (ctZc 131) := ctZc_ok hI fun va vb a b w ha hb => rcmpz_c va vb a b w ha hb
def ctV0 : CT := ctOr (ctNum [nfOf 65, nf2 86 .mul .two, nf2 113 .add .two, nf2 110 .sub .two, nfGcd 70]) (ctOr (ctZc 125) (ctOr (ctDiv 128) (ctInt [niRightR 123, niShort 68])))
def ctW0 : CT := ctOr (ctNum [nfOf 30, nfMulR 137, nfSumR 149 .add, nfSumR 148 .sub, nfGcd 133]) (ctOr (ctZc 131) (ctOr (ctDiv 134) (ctInt [niRightR 130, niSame 49])))
theorem ctV0_ok (hI : I.opq = numOpq) (h9 : ∀ a b, I.fi 900 [a, b] = gz a b) : CTOk Tryz.prog I ρ ctV0 := by
 refine ctOr_ok (ctNum_ok hI fun e he => ?_) (ctOr_ok (vCmp_c hI) (ctOr_ok (vDiv_c hI) (ctInt_ok hI fun e he => ?_)))
 ·simp only [List.mem_cons, List.not_mem_nil, or_false] at he
  rcases he with rfl | rfl | rfl | rfl | rfl
  ·exact vOfN_c
  ·exact vMul_c
  ·exact vAdd_c
  ·exact vSub_c
  ·exact vGcd_c h9
 ·simp only [List.mem_cons, List.not_mem_nil, or_false] at he
  rcases he with rfl | rfl
  ·exact vright_c
  ·exact vshort_c
theorem ctW0_ok (hI : I.opq = numOpq) (h9 : ∀ a b, I.fi 900 [a, b] = gz a b) : CTOk Tryz.prog I ρ ctW0 := by
 refine ctOr_ok (ctNum_ok hI fun e he => ?_) (ctOr_ok (rCmp0_c hI) (ctOr_ok (rDiv_c hI) (ctInt_ok hI fun e he => ?_)))
 ·simp only [List.mem_cons, List.not_mem_nil, or_false] at he
  rcases he with rfl | rfl | rfl | rfl | rfl
  ·exact rOf_c
  ·exact rMulR_c
  ·exact rSumR_c radd_c
  ·exact rSumR_c rsub_c
  ·exact rGcd_c h9
 ·simp only [List.mem_cons, List.not_mem_nil, or_false] at he
  rcases he with rfl | rfl
  ·exact rright_c
  ·exact rSame_c
end
end Go.Proofs.YtgnogdncoljldaaGreat.Sx

