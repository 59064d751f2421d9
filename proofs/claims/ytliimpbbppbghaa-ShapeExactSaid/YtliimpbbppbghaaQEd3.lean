import Derived.Test.YtliimpbbppbghaaQEd2
set_option linter.all false
namespace Go.Proofs.Ytliimpbbppbghaa.Sx
open Go Go.RowKit
def okP (k ax ay bx by' cx cy : Int) : Prop := 1 ≤ k ∧ k ≤ 3 ∧ rightP ax ay ∧ rightP bx by' ∧ rightP cx cy ∧ (lineP k ax ay bx by' cx cy ∨ arcP k ax ay bx by' cx cy)
instance (k ax ay bx by' cx cy : Int) : Decidable (okP k ax ay bx by' cx cy) := by unfold okP; infer_instance
def boxP (ax ay bx by' px py : Int) : Prop := min ax bx ≤ px ∧ px ≤ max ax bx ∧ min ay by' ≤ py ∧ py ≤ max ay by'
instance (ax ay bx by' px py : Int) : Decidable (boxP ax ay bx by' px py) := by unfold boxP; infer_instance
def crossP (ax ay bx by' px py : Int) : Int := (bx - ax) * (py - ay) - (by' - ay) * (px - ax)
def dist2 (x y u v : Int) : Int := (x - u) * (x - u) + (y - v) * (y - v)
def onP (k ax ay bx by' cx cy px py : Int) : Prop := okP k ax ay bx by' cx cy ∧ boxP ax ay bx by' px py ∧ ((k = 1 ∧ crossP ax ay bx by' px py = 0) ∨ (k ≠ 1 ∧ dist2 px py cx cy = dist2 ax ay cx cy))
instance (k ax ay bx by' cx cy px py : Int) : Decidable (onP k ax ay bx by' cx cy px py) := by unfold onP; infer_instance
theorem rmax (u v : Int) (h : u = 0 ∨ v = 0) : max (max (max u (0 - u)) v) (0 - v) * max (max (max u (0 - u)) v) (0 - v) = u * u + v * v := by
  rcases h with h | h <;> subst h
  · rcases Int.le_total 0 v with hv | hv
    · rw [show max (max (max 0 (0 - 0)) v) (0 - v) = v by omega]; simp
    · rw [show max (max (max 0 (0 - 0)) v) (0 - v) = -v by omega]; simp [Int.neg_mul_neg]
  · rcases Int.le_total 0 u with hu | hu
    · rw [show max (max (max u (0 - u)) 0) (0 - 0) = u by omega]; simp
    · rw [show max (max (max u (0 - u)) 0) (0 - 0) = -u by omega]; simp [Int.neg_mul_neg]
theorem rsum (u v : Int) (h : u = 0 ∨ v = 0) : (max u (0 - u) + max v (0 - v)) * (max u (0 - u) + max v (0 - v)) = u * u + v * v := by
  rcases h with h | h <;> subst h
  · rcases Int.le_total 0 v with hv | hv
    · rw [show max (0 : Int) (0 - 0) + max v (0 - v) = v by omega]; simp
    · rw [show max (0 : Int) (0 - 0) + max v (0 - v) = -v by omega]; simp [Int.neg_mul_neg]
  · rcases Int.le_total 0 u with hu | hu
    · rw [show max u (0 - u) + max (0 : Int) (0 - 0) = u by omega]; simp
    · rw [show max u (0 - u) + max (0 : Int) (0 - 0) = -u by omega]; simp [Int.neg_mul_neg]
def vonT : Tree V :=
 (.node (.lt (.var 0) (.lit 1))
 (.leaf (.c (.bool (.lit false))))
 (.node (.lt (.lit 1) (.var 0))
 (.node (.lt (.lit 3) (.var 0))
 (.leaf (.c (.bool (.lit false))))
 (.node (.lt (.var 1) (.lit (-67108864)))
 (.leaf (.c (.bool (.lit false))))
 (.node (.lt (.lit 67108864) (.var 1))
 (.leaf (.c (.bool (.lit false))))
 (.node (.lt (.var 2) (.lit (-67108864)))
 (.leaf (.c (.bool (.lit false))))
 (.node (.lt (.lit 67108864) (.var 2))
 (.leaf (.c (.bool (.lit false))))
 (.node (.lt (.var 3) (.lit (-67108864)))
 (.leaf (.c (.bool (.lit false))))
 (.node (.lt (.lit 67108864) (.var 3))
 (.leaf (.c (.bool (.lit false))))
 (.node (.lt (.var 4) (.lit (-67108864)))
 (.leaf (.c (.bool (.lit false))))
 (.node (.lt (.lit 67108864) (.var 4))
 (.leaf (.c (.bool (.lit false))))
 (.node (.lt (.var 5) (.lit (-67108864)))
 (.leaf (.c (.bool (.lit false))))
 (.node (.lt (.lit 67108864) (.var 5))
 (.leaf (.c (.bool (.lit false))))
 (.node (.lt (.var 6) (.lit (-67108864)))
 (.leaf (.c (.bool (.lit false))))
 (.node (.lt (.lit 67108864) (.var 6))
 (.leaf (.c (.bool (.lit false))))
 (.node (.eq (.var 0) (.lit 3))
 (.node (.eq (.bin .sub (.var 1) (.var 5)) (.lit 0))
 (.node (.eq (.bin .sub (.var 2) (.var 6)) (.lit 0))
 (.leaf (.c (.bool (.lit false))))
 (.node (.eq (.bin .sub (.var 3) (.var 5)) (.bin .add (.bin .sub (.lit 0) (.bin .sub (.lit 0) (.bin .sub (.var 2) (.var 6)))) (.lit 0)))
 (.node (.eq (.bin .sub (.var 4) (.var 6)) (.bin .add (.bin .sub (.lit 0) (.bin .sub (.var 1) (.var 5))) (.lit 0)))
 (.node (.lt (.var 7) (.bin .min (.var 1) (.var 3)))
 (.leaf (.c (.bool (.lit false))))
 (.node (.lt (.bin .max (.var 1) (.var 3)) (.var 7))
 (.leaf (.c (.bool (.lit false))))
 (.node (.lt (.var 8) (.bin .min (.var 2) (.var 4)))
 (.leaf (.c (.bool (.lit false))))
 (.node (.lt (.bin .max (.var 2) (.var 4)) (.var 8))
 (.leaf (.c (.bool (.lit false))))
 (.leaf (.c (.bool (.eq (.bin .sub (.bin .add (.bin .mul (.bin .sub (.var 7) (.var 5)) (.bin .sub (.var 7) (.var 5))) (.bin .mul (.bin .sub (.var 8) (.var 6)) (.bin .sub (.var 8) (.var 6)))) (.bin .mul (.bin .max (.bin .max (.bin .max (.bin .sub (.var 1) (.var 5)) (.bin .sub (.lit 0) (.bin .sub (.var 1) (.var 5)))) (.bin .sub (.var 2) (.var 6))) (.bin .sub (.lit 0) (.bin .sub (.var 2) (.var 6)))) (.bin .max (.bin .max (.bin .max (.bin .sub (.var 1) (.var 5)) (.bin .sub (.lit 0) (.bin .sub (.var 1) (.var 5)))) (.bin .sub (.var 2) (.var 6))) (.bin .sub (.lit 0) (.bin .sub (.var 2) (.var 6)))))) (.lit 0)))))))))
 (.leaf (.c (.bool (.lit false)))))
 (.leaf (.c (.bool (.lit false))))))
 (.node (.eq (.bin .sub (.var 2) (.var 6)) (.lit 0))
 (.node (.eq (.bin .sub (.var 3) (.var 5)) (.bin .add (.bin .sub (.lit 0) (.bin .sub (.lit 0) (.bin .sub (.var 2) (.var 6)))) (.lit 0)))
 (.node (.eq (.bin .sub (.var 4) (.var 6)) (.bin .add (.bin .sub (.lit 0) (.bin .sub (.var 1) (.var 5))) (.lit 0)))
 (.node (.lt (.var 7) (.bin .min (.var 1) (.var 3)))
 (.leaf (.c (.bool (.lit false))))
 (.node (.lt (.bin .max (.var 1) (.var 3)) (.var 7))
 (.leaf (.c (.bool (.lit false))))
 (.node (.lt (.var 8) (.bin .min (.var 2) (.var 4)))
 (.leaf (.c (.bool (.lit false))))
 (.node (.lt (.bin .max (.var 2) (.var 4)) (.var 8))
 (.leaf (.c (.bool (.lit false))))
 (.leaf (.c (.bool (.eq (.bin .sub (.bin .add (.bin .mul (.bin .sub (.var 7) (.var 5)) (.bin .sub (.var 7) (.var 5))) (.bin .mul (.bin .sub (.var 8) (.var 6)) (.bin .sub (.var 8) (.var 6)))) (.bin .mul (.bin .max (.bin .max (.bin .max (.bin .sub (.var 1) (.var 5)) (.bin .sub (.lit 0) (.bin .sub (.var 1) (.var 5)))) (.bin .sub (.var 2) (.var 6))) (.bin .sub (.lit 0) (.bin .sub (.var 2) (.var 6)))) (.bin .max (.bin .max (.bin .max (.bin .sub (.var 1) (.var 5)) (.bin .sub (.lit 0) (.bin .sub (.var 1) (.var 5)))) (.bin .sub (.var 2) (.var 6))) (.bin .sub (.lit 0) (.bin .sub (.var 2) (.var 6)))))) (.lit 0)))))))))
 (.leaf (.c (.bool (.lit false)))))
 (.leaf (.c (.bool (.lit false)))))
 (.leaf (.c (.bool (.lit false))))))
 (.node (.eq (.bin .sub (.var 1) (.var 5)) (.lit 0))
 (.node (.eq (.bin .sub (.var 2) (.var 6)) (.lit 0))
 (.leaf (.c (.bool (.lit false))))
 (.node (.eq (.bin .sub (.var 3) (.var 5)) (.bin .add (.bin .sub (.lit 0) (.bin .sub (.var 2) (.var 6))) (.lit 0)))
 (.node (.eq (.bin .sub (.var 4) (.var 6)) (.bin .add (.bin .sub (.var 1) (.var 5)) (.lit 0)))
 (.node (.lt (.var 7) (.bin .min (.var 1) (.var 3)))
 (.leaf (.c (.bool (.lit false))))
 (.node (.lt (.bin .max (.var 1) (.var 3)) (.var 7))
 (.leaf (.c (.bool (.lit false))))
 (.node (.lt (.var 8) (.bin .min (.var 2) (.var 4)))
 (.leaf (.c (.bool (.lit false))))
 (.node (.lt (.bin .max (.var 2) (.var 4)) (.var 8))
 (.leaf (.c (.bool (.lit false))))
 (.leaf (.c (.bool (.eq (.bin .sub (.bin .add (.bin .mul (.bin .sub (.var 7) (.var 5)) (.bin .sub (.var 7) (.var 5))) (.bin .mul (.bin .sub (.var 8) (.var 6)) (.bin .sub (.var 8) (.var 6)))) (.bin .mul (.bin .max (.bin .max (.bin .max (.bin .sub (.var 1) (.var 5)) (.bin .sub (.lit 0) (.bin .sub (.var 1) (.var 5)))) (.bin .sub (.var 2) (.var 6))) (.bin .sub (.lit 0) (.bin .sub (.var 2) (.var 6)))) (.bin .max (.bin .max (.bin .max (.bin .sub (.var 1) (.var 5)) (.bin .sub (.lit 0) (.bin .sub (.var 1) (.var 5)))) (.bin .sub (.var 2) (.var 6))) (.bin .sub (.lit 0) (.bin .sub (.var 2) (.var 6)))))) (.lit 0)))))))))
 (.leaf (.c (.bool (.lit false)))))
 (.leaf (.c (.bool (.lit false))))))
 (.node (.eq (.bin .sub (.var 2) (.var 6)) (.lit 0))
 (.node (.eq (.bin .sub (.var 3) (.var 5)) (.bin .add (.bin .sub (.lit 0) (.bin .sub (.var 2) (.var 6))) (.lit 0)))
 (.node (.eq (.bin .sub (.var 4) (.var 6)) (.bin .add (.bin .sub (.var 1) (.var 5)) (.lit 0)))
 (.node (.lt (.var 7) (.bin .min (.var 1) (.var 3)))
 (.leaf (.c (.bool (.lit false))))
 (.node (.lt (.bin .max (.var 1) (.var 3)) (.var 7))
 (.leaf (.c (.bool (.lit false))))
 (.node (.lt (.var 8) (.bin .min (.var 2) (.var 4)))
 (.leaf (.c (.bool (.lit false))))
 (.node (.lt (.bin .max (.var 2) (.var 4)) (.var 8))
 (.leaf (.c (.bool (.lit false))))
 (.leaf (.c (.bool (.eq (.bin .sub (.bin .add (.bin .mul (.bin .sub (.var 7) (.var 5)) (.bin .sub (.var 7) (.var 5))) (.bin .mul (.bin .sub (.var 8) (.var 6)) (.bin .sub (.var 8) (.var 6)))) (.bin .mul (.bin .max (.bin .max (.bin .max (.bin .sub (.var 1) (.var 5)) (.bin .sub (.lit 0) (.bin .sub (.var 1) (.var 5)))) (.bin .sub (.var 2) (.var 6))) (.bin .sub (.lit 0) (.bin .sub (.var 2) (.var 6)))) (.bin .max (.bin .max (.bin .max (.bin .sub (.var 1) (.var 5)) (.bin .sub (.lit 0) (.bin .sub (.var 1) (.var 5)))) (.bin .sub (.var 2) (.var 6))) (.bin .sub (.lit 0) (.bin .sub (.var 2) (.var 6)))))) (.lit 0)))))))))
 (.leaf (.c (.bool (.lit false)))))
 (.leaf (.c (.bool (.lit false)))))
 (.leaf (.c (.bool (.lit false))))))))))))))))))))
 (.node (.lt (.var 1) (.lit (-67108864)))
 (.leaf (.c (.bool (.lit false))))
 (.node (.lt (.lit 67108864) (.var 1))
 (.leaf (.c (.bool (.lit false))))
 (.node (.lt (.var 2) (.lit (-67108864)))
 (.leaf (.c (.bool (.lit false))))
 (.node (.lt (.lit 67108864) (.var 2))
 (.leaf (.c (.bool (.lit false))))
 (.node (.lt (.var 3) (.lit (-67108864)))
 (.leaf (.c (.bool (.lit false))))
 (.node (.lt (.lit 67108864) (.var 3))
 (.leaf (.c (.bool (.lit false))))
 (.node (.lt (.var 4) (.lit (-67108864)))
 (.leaf (.c (.bool (.lit false))))
 (.node (.lt (.lit 67108864) (.var 4))
 (.leaf (.c (.bool (.lit false))))
 (.node (.lt (.var 5) (.lit (-67108864)))
 (.leaf (.c (.bool (.lit false))))
 (.node (.lt (.lit 67108864) (.var 5))
 (.leaf (.c (.bool (.lit false))))
 (.node (.lt (.var 6) (.lit (-67108864)))
 (.leaf (.c (.bool (.lit false))))
 (.node (.lt (.lit 67108864) (.var 6))
 (.leaf (.c (.bool (.lit false))))
 (.node (.eq (.var 5) (.lit 0))
 (.node (.eq (.var 6) (.lit 0))
 (.node (.lt (.var 7) (.bin .min (.var 1) (.var 3)))
 (.leaf (.c (.bool (.lit false))))
 (.node (.lt (.bin .max (.var 1) (.var 3)) (.var 7))
 (.leaf (.c (.bool (.lit false))))
 (.node (.lt (.var 8) (.bin .min (.var 2) (.var 4)))
 (.leaf (.c (.bool (.lit false))))
 (.node (.lt (.bin .max (.var 2) (.var 4)) (.var 8))
 (.leaf (.c (.bool (.lit false))))
 (.node (.lt (.bin .sub (.bin .mul (.bin .sub (.var 3) (.var 1)) (.bin .sub (.var 8) (.var 2))) (.bin .mul (.bin .sub (.var 4) (.var 2)) (.bin .sub (.var 7) (.var 1)))) (.lit 0))
 (.leaf (.c (.bool (.lit false))))
 (.node (.lt (.lit 0) (.bin .sub (.bin .mul (.bin .sub (.var 3) (.var 1)) (.bin .sub (.var 8) (.var 2))) (.bin .mul (.bin .sub (.var 4) (.var 2)) (.bin .sub (.var 7) (.var 1)))))
 (.leaf (.c (.bool (.lit false))))
 (.leaf (.c (.bool (.lit true))))))))))
 (.leaf (.c (.bool (.lit false)))))
 (.leaf (.c (.bool (.lit false)))))))))))))))))))
set_option maxRecDepth 1000000 in
theorem von_tree : vals (execF Try.prog CT.none 20 63 [.agg [iv 0, iv 1, iv 2, iv 3, iv 4, iv 5, iv 6], .agg [iv 7, iv 8]] sNone) = vonT := by kernel_rfl
set_option maxHeartbeats 20000000 in
theorem von_c (k ax ay bx by' cx cy px py : Int) (w : World) : Calls Try.prog 63 #[.agg #[.int .i64 k, .int .i64 ax, .int .i64 ay, .int .i64 bx, .int .i64 by', .int .i64 cx, .int .i64 cy], .agg #[.int .i64 px, .int .i64 py]] w
    (fun e w' => e = .returned (.bool (decide (onP k ax ay bx by' cx cy px py))) ∧ Below w.heap.size w w') := by
  have key : (vonT).vc I0 (envOf [k, ax, ay, bx, by', cx, cy, px, py] []) (fun v => v.wf 0 = true ∧ v.den I0 (envOf [k, ax, ay, bx, by', cx, cy, px, py] []) id = .bool (decide (onP k ax ay bx by' cx cy px py))) := ?key
  · have h := @calls_lit Try.prog I0 (envOf [k, ax, ay, bx, by', cx, cy, px, py] []) mixed nocount CT.none (CT.none_ok _ _ _) 20 63 [.agg [iv 0, iv 1, iv 2, iv 3, iv 4, iv 5, iv 6], .agg [iv 7, iv 8]] vonT w (.bool (decide (onP k ax ay bx by' cx cy px py))) (fun _ h => nomatch h) rfl von_tree key
    exact h
  unfold vonT
  repeat' (first | refine And.intro ?_ ?_ | intro _)
  all_goals first | rfl | skip
  all_goals
    first | refine bool_t ?_ | refine bool_f ?_ | refine bool_e ?_ | refine bool_n ?_ | refine bool_l ?_
    all_goals
      simp only [B.lt_t, B.lt_f, B.eq_t, B.eq_f, B.den_var, B.den_lit, B.den_not, B.den_and, B.den_iff, T.den_lit, T.den_var, T.den_wrap, T.den_bin, ev_add, ev_sub, ev_mul, ev_quo, ev_rem, ev_max, ev_min, envOf, List.getD_cons_zero, List.getD_cons_succ, w64] at *
      (try rw [rmax _ _ (by omega)])
      (try rw [rsum _ _ (by omega)])
      unfold onP okP boxP rightP lineP arcP crossP dist2
      omega
end Go.Proofs.Ytliimpbbppbghaa.Sx

