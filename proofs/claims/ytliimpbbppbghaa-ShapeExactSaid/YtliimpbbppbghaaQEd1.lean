import Derived.Test.YtliimpbbppbghaaProg
import Derived.Test.YtliimpbbppbghaaQXc
set_option linter.all false
namespace Go.Proofs.Ytliimpbbppbghaa.Sx
open Go Go.RowKit
def iv (k : Nat) : C := .int .i64 (.var k)
theorem nocount : NoCount Try.prog := by unfold NoCount; kernel_rfl
theorem mixed : Try.prog.follows .mixedOrders = true := by kernel_rfl
def I0 : Interp := ⟨fun _ _ => 0, fun _ _ => false, fun _ _ => .slice none 0 0, [], noOpq, fun _ => rfl, fun _ _ => ⟨(fun _ h => nomatch h), (fun _ h => nomatch h)⟩, ⟨none, 0, 0, rfl, rfl, fun k => by simp [cutV]⟩⟩
def miX (m : Bool) (x : Int) : Int := if m then wrap64 (-x) else x
def tuX (t x y : Int) : Int := if t % 4 = 1 then wrap64 (-y) else if t % 4 = 2 then wrap64 (-x) else if t % 4 = 3 then y else x
def tuY (t x y : Int) : Int := if t % 4 = 1 then x else if t % 4 = 2 then wrap64 (-y) else if t % 4 = 3 then wrap64 (-x) else y
def apX (a t : Int) (m : Bool) (x y : Int) : Int := wrap64 (tuX t (miX m x) y + a)
def apY (a t : Int) (m : Bool) (x y : Int) : Int := wrap64 (tuY t (miX m x) y + a)
theorem turn4 (t : Int) : (t.tmod 4 + 4).tmod 4 = t % 4 := by
  have h1 : t.tmod 4 = if 0 ≤ t then t % 4 else -((-t) % 4) := by
    split
    · exact Int.tmod_eq_emod_of_nonneg (by assumption)
    · rw [show t.tmod 4 = -((-t).tmod 4) by rw [Int.neg_tmod, Int.neg_neg], Int.tmod_eq_emod_of_nonneg (by omega)]
  have h2 : 0 ≤ t.tmod 4 + 4 := by rw [h1]; split <;> omega
  rw [Int.tmod_eq_emod_of_nonneg h2, h1]
  split <;> omega
theorem pt_eq {a b c d : Int} (h : a = b) (k : c = d) : Value.agg #[.int .i64 a, .int .i64 c] = .agg #[.int .i64 b, .int .i64 d] := by rw [h, k]
def rapplyT : Tree V :=
 (.node (.var 0)
 (.node (.eq (.bin .rem (.bin .add (.bin .rem (.var 2) (.lit 4)) (.lit 4)) (.lit 4)) (.lit 1))
 (.leaf (.agg [.int .i64 (.wrap .i64 (.bin .add (.wrap .i64 (.bin .sub (.lit 0) (.var 4))) (.var 0))), .int .i64 (.wrap .i64 (.bin .add (.wrap .i64 (.bin .sub (.lit 0) (.var 3))) (.var 1)))]))
 (.node (.eq (.bin .rem (.bin .add (.bin .rem (.var 2) (.lit 4)) (.lit 4)) (.lit 4)) (.lit 2))
 (.leaf (.agg [.int .i64 (.wrap .i64 (.bin .add (.wrap .i64 (.bin .sub (.lit 0) (.wrap .i64 (.bin .sub (.lit 0) (.var 3))))) (.var 0))), .int .i64 (.wrap .i64 (.bin .add (.wrap .i64 (.bin .sub (.lit 0) (.var 4))) (.var 1)))]))
 (.node (.eq (.bin .rem (.bin .add (.bin .rem (.var 2) (.lit 4)) (.lit 4)) (.lit 4)) (.lit 3))
 (.leaf (.agg [.int .i64 (.wrap .i64 (.bin .add (.var 4) (.var 0))), .int .i64 (.wrap .i64 (.bin .add (.wrap .i64 (.bin .sub (.lit 0) (.wrap .i64 (.bin .sub (.lit 0) (.var 3))))) (.var 1)))]))
 (.leaf (.agg [.int .i64 (.wrap .i64 (.bin .add (.wrap .i64 (.bin .sub (.lit 0) (.var 3))) (.var 0))), .int .i64 (.wrap .i64 (.bin .add (.var 4) (.var 1)))])))))
 (.node (.eq (.bin .rem (.bin .add (.bin .rem (.var 2) (.lit 4)) (.lit 4)) (.lit 4)) (.lit 1))
 (.leaf (.agg [.int .i64 (.wrap .i64 (.bin .add (.wrap .i64 (.bin .sub (.lit 0) (.var 4))) (.var 0))), .int .i64 (.wrap .i64 (.bin .add (.var 3) (.var 1)))]))
 (.node (.eq (.bin .rem (.bin .add (.bin .rem (.var 2) (.lit 4)) (.lit 4)) (.lit 4)) (.lit 2))
 (.leaf (.agg [.int .i64 (.wrap .i64 (.bin .add (.wrap .i64 (.bin .sub (.lit 0) (.var 3))) (.var 0))), .int .i64 (.wrap .i64 (.bin .add (.wrap .i64 (.bin .sub (.lit 0) (.var 4))) (.var 1)))]))
 (.node (.eq (.bin .rem (.bin .add (.bin .rem (.var 2) (.lit 4)) (.lit 4)) (.lit 4)) (.lit 3))
 (.leaf (.agg [.int .i64 (.wrap .i64 (.bin .add (.var 4) (.var 0))), .int .i64 (.wrap .i64 (.bin .add (.wrap .i64 (.bin .sub (.lit 0) (.var 3))) (.var 1)))]))
 (.leaf (.agg [.int .i64 (.wrap .i64 (.bin .add (.var 3) (.var 0))), .int .i64 (.wrap .i64 (.bin .add (.var 4) (.var 1)))]))))))
set_option maxRecDepth 1000000 in
theorem rapply_tree : vals (execF Try.prog CT.none 20 15 [.agg [iv 0, iv 1, iv 2, .bool (.var 0)], .agg [iv 3, iv 4]] sNone) = rapplyT := by kernel_rfl
theorem rapply_c (x y t : Int) (m : Bool) (a b : Int) (w : World) : Calls Try.prog 15 #[.agg #[.int .i64 x, .int .i64 y, .int .i64 t, .bool m], .agg #[.int .i64 a, .int .i64 b]] w
    (fun e w' => e = .returned (.agg #[.int .i64 (apX x t m a b), .int .i64 (apY y t m a b)]) ∧ Below w.heap.size w w') := by
  have key : (rapplyT).vc I0 (envOf [x, y, t, a, b] [m]) (fun v => v.wf 0 = true ∧ v.den I0 (envOf [x, y, t, a, b] [m]) id = .agg #[.int .i64 (apX x t m a b), .int .i64 (apY y t m a b)]) := ?key
  · have h := @calls_lit Try.prog I0 (envOf [x, y, t, a, b] [m]) mixed nocount CT.none (CT.none_ok _ _ _) 20 15 [.agg [iv 0, iv 1, iv 2, .bool (.var 0)], .agg [iv 3, iv 4]] rapplyT w (.agg #[.int .i64 (apX x t m a b), .int .i64 (apY y t m a b)]) (fun _ h => nomatch h) rfl rapply_tree key
    exact h
  unfold rapplyT
  repeat' (first | refine And.intro ?_ ?_ | intro _)
  all_goals first | rfl | skip
  all_goals
    refine pt_eq ?_ ?_ <;> simp only [B.lt_t, B.lt_f, B.eq_t, B.eq_f, B.den_var, T.den_lit, T.den_var, T.den_wrap, T.den_bin, IOp.ev, envOf, List.getD_cons_zero, List.getD_cons_succ, w64, turn4] at * <;> subst_vars <;> simp only [apX, apY, tuX, tuY, miX, wrap64, if_true, if_false, Bool.false_eq_true] <;> (repeat' split) <;> omega
end Go.Proofs.Ytliimpbbppbghaa.Sx

