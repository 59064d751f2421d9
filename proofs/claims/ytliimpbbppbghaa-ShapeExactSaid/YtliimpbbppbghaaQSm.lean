import Derived.Test.YtliimpbbppbghaaQSxk
import Derived.Test.YtliimpbbppbghaaQEd9
set_option linter.all false
set_option autoImplicit false
namespace Go.Proofs.Ytliimpbbppbghaa.Sx
open Go Go.RowKit
def ctRad : CT := fun g args s => match args with
  | [.agg [.int .i64 k, .int .i64 ax, .int .i64 ay, .int .i64 bx, .int .i64 by', .int .i64 cx, .int .i64 cy]] =>
    bif Nat.beq g 78 then some (.leaf (.c (.int .i64 (.app 5 (tL [k, ax, ay, bx, by', cx, cy]))), s)) else none
  | _ => none
def rgV (i : Nat) (l h : Int) : List (B × Bool) := [(.lt (.lit (l - 1)) (.var i), true), (.lt (.var i) (.lit (h + 1)), true)]
def rgT (t : T) (l h : Int) : List (B × Bool) := [(.lt (.lit (l - 1)) t, true), (.lt t (.lit (h + 1)), true)]
def raA : T := .app 5 (tL [.var 0, .var 1, .var 2, .var 3, .var 4, .var 5, .var 6])
def raB : T := .app 5 (tL [.lit 2, .var 3, .var 4, .var 1, .var 2, .var 5, .var 6])
def bdC : List (B × Bool) := rgT raA 0 268435456 ++ (rgT raB 0 268435456 ++ (rgV 0 1 3 ++ (rgV 1 (-67108864) 67108864 ++ (rgV 2 (-67108864) 67108864 ++ (rgV 3 (-67108864) 67108864 ++ (rgV 4 (-67108864) 67108864 ++ (rgV 5 (-67108864) 67108864 ++ (rgV 6 (-67108864) 67108864 ++ (rgV 7 0 4194304 ++ (rgV 8 (-71303168) 71303168 ++ rgV 9 (-71303168) 71303168))))))))))
def ctCov : CT := ctOr ctMul (ctOr ctCmpW ctRad)
def covT : Tree V :=
 (.node (.lt (.lit 0) (.app 23 (.cons (.wrap .u64 (.bin .add (.bin .mul (.bin .sub (.var 8) (.var 1)) (.bin .sub (.var 8) (.var 1))) (.bin .mul (.bin .sub (.var 9) (.var 2)) (.bin .sub (.var 9) (.var 2))))) (.cons (.lit 1) (.cons (.var 7) (.cons (.var 7) .nil))))))
 (.node (.lt (.lit 0) (.app 23 (.cons (.wrap .u64 (.bin .add (.bin .mul (.bin .sub (.var 8) (.var 3)) (.bin .sub (.var 8) (.var 3))) (.bin .mul (.bin .sub (.var 9) (.var 4)) (.bin .sub (.var 9) (.var 4))))) (.cons (.lit 1) (.cons (.var 7) (.cons (.var 7) .nil))))))
 (.node (.eq (.var 0) (.lit 1))
 (.node (.lt (.lit 0) (.bin .add (.bin .mul (.bin .sub (.var 8) (.var 1)) (.bin .sub (.var 3) (.var 1))) (.bin .mul (.bin .sub (.var 9) (.var 2)) (.bin .sub (.var 4) (.var 2)))))
 (.node (.lt (.bin .add (.bin .mul (.bin .sub (.var 8) (.var 1)) (.bin .sub (.var 3) (.var 1))) (.bin .mul (.bin .sub (.var 9) (.var 2)) (.bin .sub (.var 4) (.var 2)))) (.bin .add (.bin .mul (.bin .sub (.var 3) (.var 1)) (.bin .sub (.var 3) (.var 1))) (.bin .mul (.bin .sub (.var 4) (.var 2)) (.bin .sub (.var 4) (.var 2)))))
 (.leaf (.c (.bool (.not (.lt (.lit 0) (.app 23 (.cons (.wrap .u64 (.bin .max (.bin .sub (.bin .mul (.bin .sub (.var 3) (.var 1)) (.bin .sub (.var 9) (.var 2))) (.bin .mul (.bin .sub (.var 4) (.var 2)) (.bin .sub (.var 8) (.var 1)))) (.bin .sub (.lit 0) (.bin .sub (.bin .mul (.bin .sub (.var 3) (.var 1)) (.bin .sub (.var 9) (.var 2))) (.bin .mul (.bin .sub (.var 4) (.var 2)) (.bin .sub (.var 8) (.var 1))))))) (.cons (.wrap .u64 (.bin .max (.bin .sub (.bin .mul (.bin .sub (.var 3) (.var 1)) (.bin .sub (.var 9) (.var 2))) (.bin .mul (.bin .sub (.var 4) (.var 2)) (.bin .sub (.var 8) (.var 1)))) (.bin .sub (.lit 0) (.bin .sub (.bin .mul (.bin .sub (.var 3) (.var 1)) (.bin .sub (.var 9) (.var 2))) (.bin .mul (.bin .sub (.var 4) (.var 2)) (.bin .sub (.var 8) (.var 1))))))) (.cons (.bin .mul (.var 7) (.var 7)) (.cons (.wrap .u64 (.bin .add (.bin .mul (.bin .sub (.var 3) (.var 1)) (.bin .sub (.var 3) (.var 1))) (.bin .mul (.bin .sub (.var 4) (.var 2)) (.bin .sub (.var 4) (.var 2))))) .nil))))))))))
 (.leaf (.c (.bool (.lit false)))))
 (.leaf (.c (.bool (.lit false)))))
 (.node (.eq (.var 0) (.lit 3))
 (.node (.lt (.bin .sub (.bin .mul (.bin .sub (.var 3) (.var 5)) (.bin .sub (.var 9) (.var 6))) (.bin .mul (.bin .sub (.var 4) (.var 6)) (.bin .sub (.var 8) (.var 5)))) (.lit 0))
 (.leaf (.c (.bool (.lit false))))
 (.node (.lt (.bin .sub (.bin .mul (.bin .sub (.var 8) (.var 5)) (.bin .sub (.var 2) (.var 6))) (.bin .mul (.bin .sub (.var 9) (.var 6)) (.bin .sub (.var 1) (.var 5)))) (.lit 0))
 (.leaf (.c (.bool (.lit false))))
 (.node (.lt (.lit 0) (.app 23 (.cons (.wrap .u64 (.bin .add (.bin .mul (.bin .sub (.var 8) (.var 5)) (.bin .sub (.var 8) (.var 5))) (.bin .mul (.bin .sub (.var 9) (.var 6)) (.bin .sub (.var 9) (.var 6))))) (.cons (.lit 1) (.cons (.bin .add (.app 5 (.cons (.lit 2) (.cons (.var 3) (.cons (.var 4) (.cons (.var 1) (.cons (.var 2) (.cons (.var 5) (.cons (.var 6) .nil)))))))) (.var 7)) (.cons (.bin .add (.app 5 (.cons (.lit 2) (.cons (.var 3) (.cons (.var 4) (.cons (.var 1) (.cons (.var 2) (.cons (.var 5) (.cons (.var 6) .nil)))))))) (.var 7)) .nil))))))
 (.leaf (.c (.bool (.lit false))))
 (.leaf (.c (.bool (.not (.lt (.app 23 (.cons (.wrap .u64 (.bin .add (.bin .mul (.bin .sub (.var 8) (.var 5)) (.bin .sub (.var 8) (.var 5))) (.bin .mul (.bin .sub (.var 9) (.var 6)) (.bin .sub (.var 9) (.var 6))))) (.cons (.lit 1) (.cons (.bin .max (.bin .sub (.app 5 (.cons (.lit 2) (.cons (.var 3) (.cons (.var 4) (.cons (.var 1) (.cons (.var 2) (.cons (.var 5) (.cons (.var 6) .nil)))))))) (.var 7)) (.lit 0)) (.cons (.bin .max (.bin .sub (.app 5 (.cons (.lit 2) (.cons (.var 3) (.cons (.var 4) (.cons (.var 1) (.cons (.var 2) (.cons (.var 5) (.cons (.var 6) .nil)))))))) (.var 7)) (.lit 0)) .nil))))) (.lit 0)))))))))
 (.node (.lt (.bin .sub (.bin .mul (.bin .sub (.var 1) (.var 5)) (.bin .sub (.var 9) (.var 6))) (.bin .mul (.bin .sub (.var 2) (.var 6)) (.bin .sub (.var 8) (.var 5)))) (.lit 0))
 (.leaf (.c (.bool (.lit false))))
 (.node (.lt (.bin .sub (.bin .mul (.bin .sub (.var 8) (.var 5)) (.bin .sub (.var 4) (.var 6))) (.bin .mul (.bin .sub (.var 9) (.var 6)) (.bin .sub (.var 3) (.var 5)))) (.lit 0))
 (.leaf (.c (.bool (.lit false))))
 (.node (.lt (.lit 0) (.app 23 (.cons (.wrap .u64 (.bin .add (.bin .mul (.bin .sub (.var 8) (.var 5)) (.bin .sub (.var 8) (.var 5))) (.bin .mul (.bin .sub (.var 9) (.var 6)) (.bin .sub (.var 9) (.var 6))))) (.cons (.lit 1) (.cons (.bin .add (.app 5 (.cons (.var 0) (.cons (.var 1) (.cons (.var 2) (.cons (.var 3) (.cons (.var 4) (.cons (.var 5) (.cons (.var 6) .nil)))))))) (.var 7)) (.cons (.bin .add (.app 5 (.cons (.var 0) (.cons (.var 1) (.cons (.var 2) (.cons (.var 3) (.cons (.var 4) (.cons (.var 5) (.cons (.var 6) .nil)))))))) (.var 7)) .nil))))))
 (.leaf (.c (.bool (.lit false))))
 (.leaf (.c (.bool (.not (.lt (.app 23 (.cons (.wrap .u64 (.bin .add (.bin .mul (.bin .sub (.var 8) (.var 5)) (.bin .sub (.var 8) (.var 5))) (.bin .mul (.bin .sub (.var 9) (.var 6)) (.bin .sub (.var 9) (.var 6))))) (.cons (.lit 1) (.cons (.bin .max (.bin .sub (.app 5 (.cons (.var 0) (.cons (.var 1) (.cons (.var 2) (.cons (.var 3) (.cons (.var 4) (.cons (.var 5) (.cons (.var 6) .nil)))))))) (.var 7)) (.lit 0)) (.cons (.bin .max (.bin .sub (.app 5 (.cons (.var 0) (.cons (.var 1) (.cons (.var 2) (.cons (.var 3) (.cons (.var 4) (.cons (.var 5) (.cons (.var 6) .nil)))))))) (.var 7)) (.lit 0)) .nil))))) (.lit 0)))))))))))
 (.leaf (.c (.bool (.lit true)))))
 (.leaf (.c (.bool (.lit true)))))
set_option maxRecDepth 1000000 in
theorem cov_tree : vals (execF Try.prog ctCov 20 42 [.agg [iv 0, iv 1, iv 2, iv 3, iv 4, iv 5, iv 6], .c (iv 7), .agg [iv 8, iv 9]] ⟨[], 0, ⟨bdC, [], 0⟩⟩) = covT := by kernel_rfl
end Go.Proofs.Ytliimpbbppbghaa.Sx

