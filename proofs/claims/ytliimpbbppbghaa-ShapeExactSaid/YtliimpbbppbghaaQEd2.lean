import Derived.Test.YtliimpbbppbghaaQEd1
set_option linter.all false
namespace Go.Proofs.Ytliimpbbppbghaa.Sx
open Go Go.RowKit
def rightP (x y : Int) : Prop := -67108864 ≤ x ∧ x ≤ 67108864 ∧ -67108864 ≤ y ∧ y ≤ 67108864
instance (x y : Int) : Decidable (rightP x y) := by unfold rightP; infer_instance
def lineP (k ax ay bx by' cx cy : Int) : Prop := k = 1 ∧ cx = 0 ∧ cy = 0
def arcP (k ax ay bx by' cx cy : Int) : Prop := ¬ (ax = cx ↔ ay = cy) ∧ ((k = 2 ∧ bx - cx = -(ay - cy) ∧ by' - cy = ax - cx) ∨ (k = 3 ∧ bx - cx = ay - cy ∧ by' - cy = -(ax - cx)))
instance (k ax ay bx by' cx cy : Int) : Decidable (lineP k ax ay bx by' cx cy) := by unfold lineP; infer_instance
instance (k ax ay bx by' cx cy : Int) : Decidable (arcP k ax ay bx by' cx cy) := by unfold arcP; infer_instance
def checkZ (k ax ay bx by' cx cy : Int) : Int :=
  if k < 1 ∨ 3 < k then 11
  else if ¬ (rightP ax ay ∧ rightP bx by' ∧ rightP cx cy) then 10
  else if lineP k ax ay bx by' cx cy ∨ arcP k ax ay bx by' cx cy then 0 else 11
theorem int_eq {a b : Int} (h : a = b) : Value.int .i64 a = .int .i64 b := by rw [h]
def vcheckT : Tree V :=
 (.node (.lt (.var 0) (.lit 1))
 (.leaf (.c (.int .i64 (.lit 11))))
 (.node (.lt (.lit 1) (.var 0))
 (.node (.lt (.lit 3) (.var 0))
 (.leaf (.c (.int .i64 (.lit 11))))
 (.node (.lt (.var 1) (.lit (-67108864)))
 (.leaf (.c (.int .i64 (.lit 10))))
 (.node (.lt (.lit 67108864) (.var 1))
 (.leaf (.c (.int .i64 (.lit 10))))
 (.node (.lt (.var 2) (.lit (-67108864)))
 (.leaf (.c (.int .i64 (.lit 10))))
 (.node (.lt (.lit 67108864) (.var 2))
 (.leaf (.c (.int .i64 (.lit 10))))
 (.node (.lt (.var 3) (.lit (-67108864)))
 (.leaf (.c (.int .i64 (.lit 10))))
 (.node (.lt (.lit 67108864) (.var 3))
 (.leaf (.c (.int .i64 (.lit 10))))
 (.node (.lt (.var 4) (.lit (-67108864)))
 (.leaf (.c (.int .i64 (.lit 10))))
 (.node (.lt (.lit 67108864) (.var 4))
 (.leaf (.c (.int .i64 (.lit 10))))
 (.node (.lt (.var 5) (.lit (-67108864)))
 (.leaf (.c (.int .i64 (.lit 10))))
 (.node (.lt (.lit 67108864) (.var 5))
 (.leaf (.c (.int .i64 (.lit 10))))
 (.node (.lt (.var 6) (.lit (-67108864)))
 (.leaf (.c (.int .i64 (.lit 10))))
 (.node (.lt (.lit 67108864) (.var 6))
 (.leaf (.c (.int .i64 (.lit 10))))
 (.node (.eq (.var 0) (.lit 3))
 (.node (.eq (.bin .sub (.var 1) (.var 5)) (.lit 0))
 (.node (.eq (.bin .sub (.var 2) (.var 6)) (.lit 0))
 (.leaf (.c (.int .i64 (.lit 11))))
 (.node (.eq (.bin .sub (.var 3) (.var 5)) (.bin .add (.bin .sub (.lit 0) (.bin .sub (.lit 0) (.bin .sub (.var 2) (.var 6)))) (.lit 0)))
 (.node (.eq (.bin .sub (.var 4) (.var 6)) (.bin .add (.bin .sub (.lit 0) (.bin .sub (.var 1) (.var 5))) (.lit 0)))
 (.leaf (.c (.int .i64 (.lit 0))))
 (.leaf (.c (.int .i64 (.lit 11)))))
 (.leaf (.c (.int .i64 (.lit 11))))))
 (.node (.eq (.bin .sub (.var 2) (.var 6)) (.lit 0))
 (.node (.eq (.bin .sub (.var 3) (.var 5)) (.bin .add (.bin .sub (.lit 0) (.bin .sub (.lit 0) (.bin .sub (.var 2) (.var 6)))) (.lit 0)))
 (.node (.eq (.bin .sub (.var 4) (.var 6)) (.bin .add (.bin .sub (.lit 0) (.bin .sub (.var 1) (.var 5))) (.lit 0)))
 (.leaf (.c (.int .i64 (.lit 0))))
 (.leaf (.c (.int .i64 (.lit 11)))))
 (.leaf (.c (.int .i64 (.lit 11)))))
 (.leaf (.c (.int .i64 (.lit 11))))))
 (.node (.eq (.bin .sub (.var 1) (.var 5)) (.lit 0))
 (.node (.eq (.bin .sub (.var 2) (.var 6)) (.lit 0))
 (.leaf (.c (.int .i64 (.lit 11))))
 (.node (.eq (.bin .sub (.var 3) (.var 5)) (.bin .add (.bin .sub (.lit 0) (.bin .sub (.var 2) (.var 6))) (.lit 0)))
 (.node (.eq (.bin .sub (.var 4) (.var 6)) (.bin .add (.bin .sub (.var 1) (.var 5)) (.lit 0)))
 (.leaf (.c (.int .i64 (.lit 0))))
 (.leaf (.c (.int .i64 (.lit 11)))))
 (.leaf (.c (.int .i64 (.lit 11))))))
 (.node (.eq (.bin .sub (.var 2) (.var 6)) (.lit 0))
 (.node (.eq (.bin .sub (.var 3) (.var 5)) (.bin .add (.bin .sub (.lit 0) (.bin .sub (.var 2) (.var 6))) (.lit 0)))
 (.node (.eq (.bin .sub (.var 4) (.var 6)) (.bin .add (.bin .sub (.var 1) (.var 5)) (.lit 0)))
 (.leaf (.c (.int .i64 (.lit 0))))
 (.leaf (.c (.int .i64 (.lit 11)))))
 (.leaf (.c (.int .i64 (.lit 11)))))
 (.leaf (.c (.int .i64 (.lit 11))))))))))))))))))))
 (.node (.lt (.var 1) (.lit (-67108864)))
 (.leaf (.c (.int .i64 (.lit 10))))
 (.node (.lt (.lit 67108864) (.var 1))
 (.leaf (.c (.int .i64 (.lit 10))))
 (.node (.lt (.var 2) (.lit (-67108864)))
 (.leaf (.c (.int .i64 (.lit 10))))
 (.node (.lt (.lit 67108864) (.var 2))
 (.leaf (.c (.int .i64 (.lit 10))))
 (.node (.lt (.var 3) (.lit (-67108864)))
 (.leaf (.c (.int .i64 (.lit 10))))
 (.node (.lt (.lit 67108864) (.var 3))
 (.leaf (.c (.int .i64 (.lit 10))))
 (.node (.lt (.var 4) (.lit (-67108864)))
 (.leaf (.c (.int .i64 (.lit 10))))
 (.node (.lt (.lit 67108864) (.var 4))
 (.leaf (.c (.int .i64 (.lit 10))))
 (.node (.lt (.var 5) (.lit (-67108864)))
 (.leaf (.c (.int .i64 (.lit 10))))
 (.node (.lt (.lit 67108864) (.var 5))
 (.leaf (.c (.int .i64 (.lit 10))))
 (.node (.lt (.var 6) (.lit (-67108864)))
 (.leaf (.c (.int .i64 (.lit 10))))
 (.node (.lt (.lit 67108864) (.var 6))
 (.leaf (.c (.int .i64 (.lit 10))))
 (.node (.eq (.var 5) (.lit 0))
 (.node (.eq (.var 6) (.lit 0))
 (.leaf (.c (.int .i64 (.lit 0))))
 (.leaf (.c (.int .i64 (.lit 11)))))
 (.leaf (.c (.int .i64 (.lit 11)))))))))))))))))))
set_option maxRecDepth 1000000 in
theorem vcheck_tree : vals (execF Try.prog CT.none 20 37 [.agg [iv 0, iv 1, iv 2, iv 3, iv 4, iv 5, iv 6]] sNone) = vcheckT := by kernel_rfl
theorem vcheck_c (k ax ay bx by' cx cy : Int) (w : World) : Calls Try.prog 37 #[.agg #[.int .i64 k, .int .i64 ax, .int .i64 ay, .int .i64 bx, .int .i64 by', .int .i64 cx, .int .i64 cy]] w
    (fun e w' => e = .returned (.int .i64 (checkZ k ax ay bx by' cx cy)) ∧ Below w.heap.size w w') := by
  have key : (vcheckT).vc I0 (envOf [k, ax, ay, bx, by', cx, cy] []) (fun v => v.wf 0 = true ∧ v.den I0 (envOf [k, ax, ay, bx, by', cx, cy] []) id = .int .i64 (checkZ k ax ay bx by' cx cy)) := ?key
  · have h := @calls_lit Try.prog I0 (envOf [k, ax, ay, bx, by', cx, cy] []) mixed nocount CT.none (CT.none_ok _ _ _) 20 37 [.agg [iv 0, iv 1, iv 2, iv 3, iv 4, iv 5, iv 6]] vcheckT w (.int .i64 (checkZ k ax ay bx by' cx cy)) (fun _ h => nomatch h) rfl vcheck_tree key
    exact h
  unfold vcheckT
  repeat' (first | refine And.intro ?_ ?_ | intro _)
  all_goals first | rfl | skip
  all_goals
    refine int_eq ?_ <;> simp only [B.lt_t, B.lt_f, B.eq_t, B.eq_f, B.den_var, B.den_lit, B.den_not, B.den_and, B.den_iff, T.den_lit, T.den_var, T.den_wrap, T.den_bin, IOp.ev, envOf, List.getD_cons_zero, List.getD_cons_succ, w64] at * <;> unfold checkZ rightP lineP arcP <;> (repeat' split) <;> omega
end Go.Proofs.Ytliimpbbppbghaa.Sx

