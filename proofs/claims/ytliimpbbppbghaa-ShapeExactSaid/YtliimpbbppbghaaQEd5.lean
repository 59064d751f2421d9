import Derived.Test.YtliimpbbppbghaaQEd4
set_option linter.all false
namespace Go.Proofs.Ytliimpbbppbghaa.Sx
open Go Go.RowKit
def I1 : Interp := ⟨fun _ _ => 0, fun _ l => match l with | [k, ax, ay, bx, by', cx, cy, px, py] => decide (beyondP k ax ay bx by' cx cy px py) | _ => false, fun _ _ => .slice none 0 0, [], noOpq, fun _ => rfl, fun _ _ => ⟨(fun _ h => nomatch h), (fun _ h => nomatch h)⟩, ⟨none, 0, 0, rfl, rfl, fun k => by simp [cutV]⟩⟩
def isT (k : Known) (b : B) (v : Bool) : Bool := match b.under k with
  | .lit w => w == v
  | _ => false
theorem isT_ok {I : Interp} {ρ : Env} {k : Known} (hk : k.Ok I ρ) {b : B} {v : Bool} (h : isT k b v = true) : b.den I ρ = v := by
  have := B.den_under hk b
  unfold isT at h
  split at h
  · rename_i w e
    rw [e] at this
    rw [← this]
    simpa [B.den] using h
  · cases h
def tl : List T → T
  | [] => .nil
  | t :: r => .cons t (tl r)
def ctB : CT := fun g args s => bif Nat.beq g 82 then
    match args with
    | [.agg [.int .i64 k, .int .i64 ax, .int .i64 ay, .int .i64 bx, .int .i64 by', .int .i64 cx, .int .i64 cy], .agg [.int .i64 px, .int .i64 py]] =>
      bif (isT s.known (.lt py ay) false && isT s.known (.lt py by') true) || (isT s.known (.lt py ay) true && isT s.known (.lt py by') false) then
        some (.leaf (.c (.bool (.app 0 (tl [k, ax, ay, bx, by', cx, cy, px, py]))), s)) else none
    | _ => none
  else none
theorem ctB_ok (ρ : Env) : CTOk Try.prog I1 ρ ctB := by
  intro g args s t h w0 X n0 β0 β w R ht hw ha
  unfold ctB at h
  cases hg : Nat.beq g 82 with
  | false => rw [hg] at h; cases h
  | true =>
    have := Nat.eq_of_beq_eq_true hg
    subst this
    rw [hg] at h
    simp only [cond_true] at h
    split at h
    · rename_i k ax ay bx by' cx cy px py
      cases hb : ((isT s.known (.lt py ay) false && isT s.known (.lt py by') true) || (isT s.known (.lt py ay) true && isT s.known (.lt py by') false)) with
      | false => rw [hb] at h; cases h
      | true =>
        rw [hb] at h
        simp only [cond_true, Option.some.injEq] at h
        subst h
        have hk := hw.known
        have key : (ay.den I1 ρ ≤ py.den I1 ρ ∧ py.den I1 ρ < by'.den I1 ρ) ∨ (py.den I1 ρ < ay.den I1 ρ ∧ by'.den I1 ρ ≤ py.den I1 ρ) := by
          simp only [Bool.or_eq_true, Bool.and_eq_true] at hb
          rcases hb with ⟨h1, h2⟩ | ⟨h1, h2⟩
          · exact .inl ⟨B.lt_f.1 (isT_ok hk h1), B.lt_t.1 (isT_ok hk h2)⟩
          · exact .inr ⟨B.lt_t.1 (isT_ok hk h1), B.lt_f.1 (isT_ok hk h2)⟩
        refine ct_leaf (fun w => ?_) rfl ht hw
        rcases key with ⟨h1, h2⟩ | ⟨h1, h2⟩
        · exact vbup_c _ _ _ _ _ _ _ _ _ h1 h2 w
        · exact vbdn_c _ _ _ _ _ _ _ _ _ h1 h2 w
    · cases h
def rayZ (k ax ay bx by' cx cy px py : Int) : Int :=
  if ay ≤ py ∧ py < by' ∧ beyondP k ax ay bx by' cx cy px py then 1
  else if by' ≤ py ∧ py < ay ∧ beyondP k ax ay bx by' cx cy px py then -1 else 0
def vrayT : Tree V :=
 (.node (.lt (.var 8) (.var 2))
 (.node (.lt (.var 8) (.var 4))
 (.leaf (.c (.int .i64 (.lit 0))))
 (.node (.app 0 (.cons (.var 0) (.cons (.var 1) (.cons (.var 2) (.cons (.var 3) (.cons (.var 4) (.cons (.var 5) (.cons (.var 6) (.cons (.var 7) (.cons (.var 8) .nil))))))))))
 (.leaf (.c (.int .i64 (.lit (-1)))))
 (.leaf (.c (.int .i64 (.lit 0))))))
 (.node (.lt (.var 8) (.var 4))
 (.node (.app 0 (.cons (.var 0) (.cons (.var 1) (.cons (.var 2) (.cons (.var 3) (.cons (.var 4) (.cons (.var 5) (.cons (.var 6) (.cons (.var 7) (.cons (.var 8) .nil))))))))))
 (.leaf (.c (.int .i64 (.lit 1))))
 (.leaf (.c (.int .i64 (.lit 0)))))
 (.leaf (.c (.int .i64 (.lit 0))))))
set_option maxRecDepth 1000000 in
theorem vray_tree : vals (execF Try.prog ctB 20 64 [.agg [iv 0, iv 1, iv 2, iv 3, iv 4, iv 5, iv 6], .agg [iv 7, iv 8]] sNone) = vrayT := by kernel_rfl
set_option maxHeartbeats 20000000 in
theorem vray_c (k ax ay bx by' cx cy px py : Int) (w : World) : Calls Try.prog 64 #[.agg #[.int .i64 k, .int .i64 ax, .int .i64 ay, .int .i64 bx, .int .i64 by', .int .i64 cx, .int .i64 cy], .agg #[.int .i64 px, .int .i64 py]] w
    (fun e w' => e = .returned (.int .i64 (rayZ k ax ay bx by' cx cy px py)) ∧ Below w.heap.size w w') := by
  have key : (vrayT).vc I1 (envOf [k, ax, ay, bx, by', cx, cy, px, py] []) (fun v => v.wf 0 = true ∧ v.den I1 (envOf [k, ax, ay, bx, by', cx, cy, px, py] []) id = .int .i64 (rayZ k ax ay bx by' cx cy px py)) := ?key
  · have h := @calls_lit Try.prog I1 (envOf [k, ax, ay, bx, by', cx, cy, px, py] []) mixed nocount ctB (ctB_ok _) 20 64 [.agg [iv 0, iv 1, iv 2, iv 3, iv 4, iv 5, iv 6], .agg [iv 7, iv 8]] vrayT w (.int .i64 (rayZ k ax ay bx by' cx cy px py)) (fun _ h => nomatch h) rfl vray_tree key
    exact h
  unfold vrayT
  repeat' (first | refine And.intro ?_ ?_ | intro _)
  all_goals first | rfl | skip
  all_goals
    refine int_eq ?_
    simp only [B.lt_t, B.lt_f, B.eq_t, B.eq_f, B.den_var, B.den_lit, B.den_not, B.den_and, B.den_iff, T.den_lit, T.den_var, T.den_wrap, T.den_bin, ev_add, ev_sub, ev_mul, ev_quo, ev_rem, ev_max, ev_min, envOf, List.getD_cons_zero, List.getD_cons_succ, w64, B.den_app, T.dens_cons, T.dens_nil, tl, I1, decide_eq_true_eq, decide_eq_false_iff_not] at *
    unfold rayZ
    by_cases hB : beyondP k ax ay bx by' cx cy px py
    all_goals (simp only [hB, and_true, and_false, not_true_eq_false, not_false_eq_true, if_false, ite_self] at *)
    all_goals ((repeat' split) <;> omega)
end Go.Proofs.Ytliimpbbppbghaa.Sx

