import Derived.Test.YthkkipkhofkpmaaQSi
set_option linter.all false
set_option autoImplicit false
namespace Go.Proofs.Ythkkipkhofkpmaa.Sx
open Go Go.RowKit
def lexZ (a b c d : Int) : Int := if a < c then -1 else if c < a then 1 else if b < d then -1 else if d < b then 1 else 0
def wcmpT : Tree V :=
 (.node (.lt (.var 0) (.var 2))
 (.leaf (.c (.int .i64 (.lit (-1)))))
 (.node (.lt (.var 2) (.var 0))
 (.leaf (.c (.int .i64 (.lit 1))))
 (.node (.lt (.var 1) (.var 3))
 (.leaf (.c (.int .i64 (.lit (-1)))))
 (.node (.lt (.var 3) (.var 1))
 (.leaf (.c (.int .i64 (.lit 1))))
 (.leaf (.c (.int .i64 (.lit 0))))))))
set_option maxRecDepth 1000000 in
theorem wcmp_tree : vals (execF Try.prog CT.none 20 74 [.agg [.int .u64 (.var 0), .int .u64 (.var 1)], .agg [.int .u64 (.var 2), .int .u64 (.var 3)]] sNone) = wcmpT := by kernel_rfl
set_option maxHeartbeats 20000000 in
theorem wcmp_c (a b c d : Int) (w : World) : Calls Try.prog 74 #[.agg #[.int .u64 a, .int .u64 b], .agg #[.int .u64 c, .int .u64 d]] w
    (fun e w' => e = .returned (.int .i64 (lexZ a b c d)) ∧ Below w.heap.size w w') := by
  have key : (wcmpT).vc I0 (envOf [a, b, c, d] []) (fun v => v.wf 0 = true ∧ v.den I0 (envOf [a, b, c, d] []) id = .int .i64 (lexZ a b c d)) := ?key
  · have h := @calls_lit Try.prog I0 (envOf [a, b, c, d] []) mixed nocount CT.none (CT.none_ok _ _ _) 20 74 [.agg [.int .u64 (.var 0), .int .u64 (.var 1)], .agg [.int .u64 (.var 2), .int .u64 (.var 3)]] wcmpT w (.int .i64 (lexZ a b c d)) (fun _ h => nomatch h) rfl wcmp_tree key
    exact h
  unfold wcmpT
  repeat' (first | refine And.intro ?_ ?_ | intro _)
  all_goals first | rfl | skip
  all_goals (simp only [B.lt_t, B.lt_f, B.eq_t, B.eq_f, B.den_var, B.den_lit, B.den_not, B.den_and, B.den_iff, T.den_lit, T.den_var, T.den_wrap, T.den_bin, ev_add, ev_sub, ev_mul, ev_quo, ev_rem, ev_max, ev_min, envOf, List.getD_cons_zero, List.getD_cons_succ, w64] at *)
  all_goals (show Value.int .i64 _ = _; refine congrArg _ ?_; show (_ : Int) = lexZ a b c d; unfold lexZ; simp only [T.den_lit]; repeat' split; all_goals first | rfl | omega)
theorem lex_cmp (a b c d : Int) : lexZ (hiZ a b) (loZ a b) (hiZ c d) (loZ c d) = cmp3 (a * b) (c * d) := by
  unfold hiZ loZ cmp3 lexZ
  generalize a * b = x
  generalize c * d = y
  repeat' split
  all_goals first | rfl | omega
theorem ctCmpW_ok {I : Interp} (hI : MulI I) (ρ : Env) : CTOk Try.prog I ρ ctCmpW := by
  intro g args s t h w0 X n0 β0 β w R ht hw ha
  unfold ctCmpW at h
  split at h
  · rename_i a b
    cases hc : Nat.beq g 74 with
    | false => rw [hc] at h; cases h
    | true =>
      rw [hc] at h
      have := Nat.eq_of_beq_eq_true hc
      subst this
      simp only [cond_true] at h
      split at h
      · rename_i t' hcm
        injection h with h
        subst h
        unfold cmpW at hcm
        split at hcm
        · rename_i f x g y h' z k u
          split at hcm
          · rename_i p q p2 q2
            cases hb : (Nat.beq f 21 && (Nat.beq g 22 && (Nat.beq h' 21 && (Nat.beq k 22 && ((T.cons p (.cons q .nil)).same y && (T.cons p2 (.cons q2 .nil)).same u))))) with
            | false => rw [hb] at hcm; cases hcm
            | true =>
              rw [hb] at hcm
              injection hcm with hcm
              subst hcm
              simp only [Bool.and_eq_true] at hb
              obtain ⟨h1, h2, h3, h4, h5, h6⟩ := hb
              have := Nat.eq_of_beq_eq_true h1; subst this
              have := Nat.eq_of_beq_eq_true h2; subst this
              have := Nat.eq_of_beq_eq_true h3; subst this
              have := Nat.eq_of_beq_eq_true h4; subst this
              have := T.same_eq h5; subst this
              have := T.same_eq h6; subst this
              refine ct_leaf1 ?_ rfl ht hw
              have hc2 := wcmp_c (hiZ (p.den I ρ) (q.den I ρ)) (loZ (p.den I ρ) (q.den I ρ)) (hiZ (p2.den I ρ) (q2.den I ρ)) (loZ (p2.den I ρ) (q2.den I ρ)) w
              rw [lex_cmp] at hc2
              have e1 : ([V.agg [.int .u64 (.app 21 (.cons p (.cons q .nil))), .int .u64 (.app 22 (.cons p (.cons q .nil)))], V.agg [.int .u64 (.app 21 (.cons p2 (.cons q2 .nil))), .int .u64 (.app 22 (.cons p2 (.cons q2 .nil)))]].map (V.den I ρ β)).toArray = #[.agg #[.int .u64 (hiZ (p.den I ρ) (q.den I ρ)), .int .u64 (loZ (p.den I ρ) (q.den I ρ))], .agg #[.int .u64 (hiZ (p2.den I ρ) (q2.den I ρ)), .int .u64 (loZ (p2.den I ρ) (q2.den I ρ))]] := by
                simp only [List.map_cons, List.map_nil, V.den, cellsOf, C.den, T.den_app, T.dens_cons, T.dens_nil, hI.hi, hI.lo]
              have e2 : V.den I ρ β (.c (.int .i64 (.app 23 (tL [p, q, p2, q2])))) = .int .i64 (cmp3 (p.den I ρ * q.den I ρ) (p2.den I ρ * q2.den I ρ)) := by
                simp only [V.den, C.den, T.den_app, tL_dens, List.map_cons, List.map_nil, hI.cmp]
              rw [e1, e2]
              exact hc2
          · cases hcm
        · cases hcm
      · cases h
  · cases h
end Go.Proofs.Ythkkipkhofkpmaa.Sx

