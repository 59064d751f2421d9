import Derived.Test.YtliimpbbppbghaaUEd2
set_option linter.all false
set_option autoImplicit false
namespace Go.Proofs.Ytliimpbbppbghaa.Sx
open Go Go.RowKit
def opp (k : Int) : Int := if k = 2 then 3 else if k = 3 then 2 else k
def hasP (x0 y0 x1 y1 px py : Int) : Prop := x0 ≤ px ∧ px ≤ x1 ∧ y0 ≤ py ∧ py ≤ y1
instance (x0 y0 x1 y1 px py : Int) : Decidable (hasP x0 y0 x1 y1 px py) := by unfold hasP; infer_instance
def famT : Tree V :=
 (.node (.eq (.var 0) (.lit 1))
 (.leaf (.tup [(true, [.int .i64 (.lit 1), .bool (.lit false), .int .i64 (.lit 4194304)]), (false, [.bool (.lit true)])]))
 (.node (.eq (.var 0) (.lit 2))
 (.leaf (.tup [(true, [.int .i64 (.lit 2), .bool (.lit true), .int .i64 (.lit 0)]), (false, [.bool (.lit true)])]))
 (.leaf (.tup [(true, [.int .i64 (.lit 0), .bool (.lit false), .int .i64 (.lit 0)]), (false, [.bool (.lit false)])]))))
set_option maxRecDepth 1000000 in
theorem fam_tree : vals (execF Try.prog CT.none 20 36 [.c (iv 0)] sNone) = famT := by kernel_rfl
set_option maxHeartbeats 20000000 in
theorem fam_c (K : Int) (w : World) : Calls Try.prog 36 #[.int .i64 K] w
    (fun e w' => e = .returned (.tuple #[.agg #[.int .i64 (if K = 1 then 1 else if K = 2 then 2 else 0), .bool (decide (K = 2)), .int .i64 (if K = 1 then 4194304 else 0)], .bool (decide (K = 1 ∨ K = 2))]) ∧ Below w.heap.size w w') := by
  have key : (famT).vc I0 (envOf [K] []) (fun v => v.wf 0 = true ∧ v.den I0 (envOf [K] []) id = .tuple #[.agg #[.int .i64 (if K = 1 then 1 else if K = 2 then 2 else 0), .bool (decide (K = 2)), .int .i64 (if K = 1 then 4194304 else 0)], .bool (decide (K = 1 ∨ K = 2))]) := ?key
  · have h := @calls_lit Try.prog I0 (envOf [K] []) mixed nocount CT.none (CT.none_ok _ _ _) 20 36 [.c (iv 0)] famT w (.tuple #[.agg #[.int .i64 (if K = 1 then 1 else if K = 2 then 2 else 0), .bool (decide (K = 2)), .int .i64 (if K = 1 then 4194304 else 0)], .bool (decide (K = 1 ∨ K = 2))]) (fun _ h => nomatch h) rfl fam_tree key
    exact h
  unfold famT
  repeat' (first | refine And.intro ?_ ?_ | intro _)
  all_goals first | rfl | skip
  all_goals (simp only [B.lt_t, B.lt_f, B.eq_t, B.eq_f, B.den_var, B.den_lit, B.den_not, B.den_and, B.den_iff, T.den_lit, T.den_var, T.den_wrap, T.den_bin, ev_add, ev_sub, ev_mul, ev_quo, ev_rem, ev_max, ev_min, envOf, List.getD_cons_zero, List.getD_cons_succ, w64] at *)
  · subst_vars; rfl
  · rename_i h1 h2; subst h2; rfl
  · rename_i h1 h2; rw [if_neg h1, if_neg h2, if_neg h1, decide_eq_false h2, decide_eq_false (by omega)]; rfl
def vboxT : Tree V :=
 (.leaf (.agg [.int .i64 (.bin .min (.var 1) (.var 3)), .int .i64 (.bin .min (.var 2) (.var 4)), .int .i64 (.bin .max (.var 1) (.var 3)), .int .i64 (.bin .max (.var 2) (.var 4))]))
set_option maxRecDepth 1000000 in
theorem vbox_tree : vals (execF Try.prog CT.none 20 47 [.agg [iv 0, iv 1, iv 2, iv 3, iv 4, iv 5, iv 6]] sNone) = vboxT := by kernel_rfl
set_option maxHeartbeats 20000000 in
theorem vbox_c (k ax ay bx by' cx cy : Int) (w : World) : Calls Try.prog 47 #[.agg #[.int .i64 k, .int .i64 ax, .int .i64 ay, .int .i64 bx, .int .i64 by', .int .i64 cx, .int .i64 cy]] w
    (fun e w' => e = .returned (.agg #[.int .i64 (min ax bx), .int .i64 (min ay by'), .int .i64 (max ax bx), .int .i64 (max ay by')]) ∧ Below w.heap.size w w') := by
  have key : (vboxT).vc I0 (envOf [k, ax, ay, bx, by', cx, cy] []) (fun v => v.wf 0 = true ∧ v.den I0 (envOf [k, ax, ay, bx, by', cx, cy] []) id = .agg #[.int .i64 (min ax bx), .int .i64 (min ay by'), .int .i64 (max ax bx), .int .i64 (max ay by')]) := ?key
  · have h := @calls_lit Try.prog I0 (envOf [k, ax, ay, bx, by', cx, cy] []) mixed nocount CT.none (CT.none_ok _ _ _) 20 47 [.agg [iv 0, iv 1, iv 2, iv 3, iv 4, iv 5, iv 6]] vboxT w (.agg #[.int .i64 (min ax bx), .int .i64 (min ay by'), .int .i64 (max ax bx), .int .i64 (max ay by')]) (fun _ h => nomatch h) rfl vbox_tree key
    exact h
  unfold vboxT
  repeat' (first | refine And.intro ?_ ?_ | intro _)
  all_goals first | rfl | skip
  all_goals (show Value.agg #[.int .i64 _, .int .i64 _, .int .i64 _, .int .i64 _] = _; simp only [B.lt_t, B.lt_f, B.eq_t, B.eq_f, B.den_var, B.den_lit, B.den_not, B.den_and, B.den_iff, T.den_lit, T.den_var, T.den_wrap, T.den_bin, ev_add, ev_sub, ev_mul, ev_quo, ev_rem, ev_max, ev_min, envOf, List.getD_cons_zero, List.getD_cons_succ, w64])
def hasT : Tree V :=
 (.node (.lt (.var 4) (.var 0))
 (.leaf (.c (.bool (.lit false))))
 (.node (.lt (.var 2) (.var 4))
 (.leaf (.c (.bool (.lit false))))
 (.node (.lt (.var 5) (.var 1))
 (.leaf (.c (.bool (.lit false))))
 (.leaf (.c (.bool (.not (.lt (.var 3) (.var 5)))))))))
set_option maxRecDepth 1000000 in
theorem has_tree : vals (execF Try.prog CT.none 20 39 [.agg [iv 0, iv 1, iv 2, iv 3], .agg [iv 4, iv 5]] sNone) = hasT := by kernel_rfl
set_option maxHeartbeats 20000000 in
theorem has_c (x0 y0 x1 y1 px py : Int) (w : World) : Calls Try.prog 39 #[.agg #[.int .i64 x0, .int .i64 y0, .int .i64 x1, .int .i64 y1], .agg #[.int .i64 px, .int .i64 py]] w
    (fun e w' => e = .returned (.bool (decide (hasP x0 y0 x1 y1 px py))) ∧ Below w.heap.size w w') := by
  have key : (hasT).vc I0 (envOf [x0, y0, x1, y1, px, py] []) (fun v => v.wf 0 = true ∧ v.den I0 (envOf [x0, y0, x1, y1, px, py] []) id = .bool (decide (hasP x0 y0 x1 y1 px py))) := ?key
  · have h := @calls_lit Try.prog I0 (envOf [x0, y0, x1, y1, px, py] []) mixed nocount CT.none (CT.none_ok _ _ _) 20 39 [.agg [iv 0, iv 1, iv 2, iv 3], .agg [iv 4, iv 5]] hasT w (.bool (decide (hasP x0 y0 x1 y1 px py))) (fun _ h => nomatch h) rfl has_tree key
    exact h
  unfold hasT
  repeat' (first | refine And.intro ?_ ?_ | intro _)
  all_goals first | rfl | skip
  all_goals (simp only [B.lt_t, B.lt_f, B.eq_t, B.eq_f, B.den_var, B.den_lit, B.den_not, B.den_and, B.den_iff, T.den_lit, T.den_var, T.den_wrap, T.den_bin, ev_add, ev_sub, ev_mul, ev_quo, ev_rem, ev_max, ev_min, envOf, List.getD_cons_zero, List.getD_cons_succ, w64] at *)
  all_goals first | exact bool_f (by unfold hasP; omega) | (refine bool_n ?_; simp only [B.lt_t, B.lt_f, B.eq_t, B.eq_f, B.den_var, B.den_lit, B.den_not, B.den_and, B.den_iff, T.den_lit, T.den_var, T.den_wrap, T.den_bin, ev_add, ev_sub, ev_mul, ev_quo, ev_rem, ev_max, ev_min, envOf, List.getD_cons_zero, List.getD_cons_succ, w64]; unfold hasP; omega)
def vrevT : Tree V :=
 (.node (.eq (.var 0) (.lit 2))
 (.leaf (.agg [.int .i64 (.lit 3), .int .i64 (.var 3), .int .i64 (.var 4), .int .i64 (.var 1), .int .i64 (.var 2), .int .i64 (.var 5), .int .i64 (.var 6)]))
 (.node (.eq (.var 0) (.lit 3))
 (.leaf (.agg [.int .i64 (.lit 2), .int .i64 (.var 3), .int .i64 (.var 4), .int .i64 (.var 1), .int .i64 (.var 2), .int .i64 (.var 5), .int .i64 (.var 6)]))
 (.leaf (.agg [.int .i64 (.var 0), .int .i64 (.var 3), .int .i64 (.var 4), .int .i64 (.var 1), .int .i64 (.var 2), .int .i64 (.var 5), .int .i64 (.var 6)]))))
set_option maxRecDepth 1000000 in
theorem vrev_tree : vals (execF Try.prog CT.none 20 16 [.agg [iv 0, iv 1, iv 2, iv 3, iv 4, iv 5, iv 6]] sNone) = vrevT := by kernel_rfl
set_option maxHeartbeats 20000000 in
theorem vrev_c (k ax ay bx by' cx cy : Int) (w : World) : Calls Try.prog 16 #[.agg #[.int .i64 k, .int .i64 ax, .int .i64 ay, .int .i64 bx, .int .i64 by', .int .i64 cx, .int .i64 cy]] w
    (fun e w' => e = .returned (.agg #[.int .i64 (opp k), .int .i64 bx, .int .i64 by', .int .i64 ax, .int .i64 ay, .int .i64 cx, .int .i64 cy]) ∧ Below w.heap.size w w') := by
  have key : (vrevT).vc I0 (envOf [k, ax, ay, bx, by', cx, cy] []) (fun v => v.wf 0 = true ∧ v.den I0 (envOf [k, ax, ay, bx, by', cx, cy] []) id = .agg #[.int .i64 (opp k), .int .i64 bx, .int .i64 by', .int .i64 ax, .int .i64 ay, .int .i64 cx, .int .i64 cy]) := ?key
  · have h := @calls_lit Try.prog I0 (envOf [k, ax, ay, bx, by', cx, cy] []) mixed nocount CT.none (CT.none_ok _ _ _) 20 16 [.agg [iv 0, iv 1, iv 2, iv 3, iv 4, iv 5, iv 6]] vrevT w (.agg #[.int .i64 (opp k), .int .i64 bx, .int .i64 by', .int .i64 ax, .int .i64 ay, .int .i64 cx, .int .i64 cy]) (fun _ h => nomatch h) rfl vrev_tree key
    exact h
  unfold vrevT
  repeat' (first | refine And.intro ?_ ?_ | intro _)
  all_goals first | rfl | skip
  all_goals (simp only [B.lt_t, B.lt_f, B.eq_t, B.eq_f, B.den_var, B.den_lit, B.den_not, B.den_and, B.den_iff, T.den_lit, T.den_var, T.den_wrap, T.den_bin, ev_add, ev_sub, ev_mul, ev_quo, ev_rem, ev_max, ev_min, envOf, List.getD_cons_zero, List.getD_cons_succ, w64] at *)
  · subst_vars; rfl
  · rename_i h1 h2; subst h2; rfl
  · rename_i h1 h2; rw [show opp k = k by unfold opp; rw [if_neg h1, if_neg h2]]; rfl
end Go.Proofs.Ytliimpbbppbghaa.Sx

