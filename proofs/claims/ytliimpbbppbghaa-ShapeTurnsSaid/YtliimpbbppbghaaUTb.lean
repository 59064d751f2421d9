import Derived.Test.YtliimpbbppbghaaUTa
set_option linter.all false
set_option autoImplicit false
namespace Go.Proofs.Ytliimpbbppbghaa.Sx
open Go Go.RowKit
def drX (r t : Int) : Int := if t % 4 = 1 then 0 else if t % 4 = 2 then -r else if t % 4 = 3 then 0 else r
def drY (r t : Int) : Int := if t % 4 = 1 then r else if t % 4 = 2 then 0 else if t % 4 = 3 then -r else 0
def arcF : List (B × Bool) := [(.lt (.lit (-2001)) (.var 0), true), (.lt (.var 0) (.lit (2001)), true), (.lt (.lit (-2001)) (.var 1), true), (.lt (.var 1) (.lit (2001)), true), (.lt (.lit (-1)) (.var 2), true), (.lt (.var 2) (.lit (1001)), true), (.lt (.lit (-1)) (.var 3), true), (.lt (.var 3) (.lit (8)), true), (.lt (.lit (1)) (.var 4), true), (.lt (.var 4) (.lit (4)), true)]
def rarcT : Tree V :=
 (.node (.eq (.bin .rem (.bin .add (.bin .rem (.var 3) (.lit 4)) (.lit 4)) (.lit 4)) (.lit 1))
 (.node (.eq (.var 4) (.lit 3))
 (.node (.eq (.bin .rem (.bin .add (.bin .rem (.bin .add (.var 3) (.lit 3)) (.lit 4)) (.lit 4)) (.lit 4)) (.lit 1))
 (.leaf (.agg [.int .i64 (.var 4), .int .i64 (.bin .add (.var 0) (.lit 0)), .int .i64 (.bin .add (.var 1) (.bin .add (.var 2) (.lit 0))), .int .i64 (.bin .add (.var 0) (.lit 0)), .int .i64 (.bin .add (.var 1) (.bin .add (.var 2) (.lit 0))), .int .i64 (.var 0), .int .i64 (.var 1)]))
 (.node (.eq (.bin .rem (.bin .add (.bin .rem (.bin .add (.var 3) (.lit 3)) (.lit 4)) (.lit 4)) (.lit 4)) (.lit 2))
 (.leaf (.agg [.int .i64 (.var 4), .int .i64 (.bin .add (.var 0) (.lit 0)), .int .i64 (.bin .add (.var 1) (.bin .add (.var 2) (.lit 0))), .int .i64 (.bin .add (.var 0) (.bin .add (.bin .sub (.lit 0) (.var 2)) (.lit 0))), .int .i64 (.bin .add (.var 1) (.lit 0)), .int .i64 (.var 0), .int .i64 (.var 1)]))
 (.node (.eq (.bin .rem (.bin .add (.bin .rem (.bin .add (.var 3) (.lit 3)) (.lit 4)) (.lit 4)) (.lit 4)) (.lit 3))
 (.leaf (.agg [.int .i64 (.var 4), .int .i64 (.bin .add (.var 0) (.lit 0)), .int .i64 (.bin .add (.var 1) (.bin .add (.var 2) (.lit 0))), .int .i64 (.bin .add (.var 0) (.lit 0)), .int .i64 (.bin .add (.var 1) (.bin .add (.bin .sub (.lit 0) (.var 2)) (.lit 0))), .int .i64 (.var 0), .int .i64 (.var 1)]))
 (.leaf (.agg [.int .i64 (.var 4), .int .i64 (.bin .add (.var 0) (.lit 0)), .int .i64 (.bin .add (.var 1) (.bin .add (.var 2) (.lit 0))), .int .i64 (.bin .add (.var 0) (.bin .add (.var 2) (.lit 0))), .int .i64 (.bin .add (.var 1) (.lit 0)), .int .i64 (.var 0), .int .i64 (.var 1)])))))
 (.node (.eq (.bin .rem (.bin .add (.bin .rem (.bin .add (.var 3) (.lit 1)) (.lit 4)) (.lit 4)) (.lit 4)) (.lit 1))
 (.leaf (.agg [.int .i64 (.var 4), .int .i64 (.bin .add (.var 0) (.lit 0)), .int .i64 (.bin .add (.var 1) (.bin .add (.var 2) (.lit 0))), .int .i64 (.bin .add (.var 0) (.lit 0)), .int .i64 (.bin .add (.var 1) (.bin .add (.var 2) (.lit 0))), .int .i64 (.var 0), .int .i64 (.var 1)]))
 (.node (.eq (.bin .rem (.bin .add (.bin .rem (.bin .add (.var 3) (.lit 1)) (.lit 4)) (.lit 4)) (.lit 4)) (.lit 2))
 (.leaf (.agg [.int .i64 (.var 4), .int .i64 (.bin .add (.var 0) (.lit 0)), .int .i64 (.bin .add (.var 1) (.bin .add (.var 2) (.lit 0))), .int .i64 (.bin .add (.var 0) (.bin .add (.bin .sub (.lit 0) (.var 2)) (.lit 0))), .int .i64 (.bin .add (.var 1) (.lit 0)), .int .i64 (.var 0), .int .i64 (.var 1)]))
 (.node (.eq (.bin .rem (.bin .add (.bin .rem (.bin .add (.var 3) (.lit 1)) (.lit 4)) (.lit 4)) (.lit 4)) (.lit 3))
 (.leaf (.agg [.int .i64 (.var 4), .int .i64 (.bin .add (.var 0) (.lit 0)), .int .i64 (.bin .add (.var 1) (.bin .add (.var 2) (.lit 0))), .int .i64 (.bin .add (.var 0) (.lit 0)), .int .i64 (.bin .add (.var 1) (.bin .add (.bin .sub (.lit 0) (.var 2)) (.lit 0))), .int .i64 (.var 0), .int .i64 (.var 1)]))
 (.leaf (.agg [.int .i64 (.var 4), .int .i64 (.bin .add (.var 0) (.lit 0)), .int .i64 (.bin .add (.var 1) (.bin .add (.var 2) (.lit 0))), .int .i64 (.bin .add (.var 0) (.bin .add (.var 2) (.lit 0))), .int .i64 (.bin .add (.var 1) (.lit 0)), .int .i64 (.var 0), .int .i64 (.var 1)]))))))
 (.node (.eq (.bin .rem (.bin .add (.bin .rem (.var 3) (.lit 4)) (.lit 4)) (.lit 4)) (.lit 2))
 (.node (.eq (.var 4) (.lit 3))
 (.node (.eq (.bin .rem (.bin .add (.bin .rem (.bin .add (.var 3) (.lit 3)) (.lit 4)) (.lit 4)) (.lit 4)) (.lit 1))
 (.leaf (.agg [.int .i64 (.var 4), .int .i64 (.bin .add (.var 0) (.bin .add (.bin .sub (.lit 0) (.var 2)) (.lit 0))), .int .i64 (.bin .add (.var 1) (.lit 0)), .int .i64 (.bin .add (.var 0) (.lit 0)), .int .i64 (.bin .add (.var 1) (.bin .add (.var 2) (.lit 0))), .int .i64 (.var 0), .int .i64 (.var 1)]))
 (.node (.eq (.bin .rem (.bin .add (.bin .rem (.bin .add (.var 3) (.lit 3)) (.lit 4)) (.lit 4)) (.lit 4)) (.lit 2))
 (.leaf (.agg [.int .i64 (.var 4), .int .i64 (.bin .add (.var 0) (.bin .add (.bin .sub (.lit 0) (.var 2)) (.lit 0))), .int .i64 (.bin .add (.var 1) (.lit 0)), .int .i64 (.bin .add (.var 0) (.bin .add (.bin .sub (.lit 0) (.var 2)) (.lit 0))), .int .i64 (.bin .add (.var 1) (.lit 0)), .int .i64 (.var 0), .int .i64 (.var 1)]))
 (.node (.eq (.bin .rem (.bin .add (.bin .rem (.bin .add (.var 3) (.lit 3)) (.lit 4)) (.lit 4)) (.lit 4)) (.lit 3))
 (.leaf (.agg [.int .i64 (.var 4), .int .i64 (.bin .add (.var 0) (.bin .add (.bin .sub (.lit 0) (.var 2)) (.lit 0))), .int .i64 (.bin .add (.var 1) (.lit 0)), .int .i64 (.bin .add (.var 0) (.lit 0)), .int .i64 (.bin .add (.var 1) (.bin .add (.bin .sub (.lit 0) (.var 2)) (.lit 0))), .int .i64 (.var 0), .int .i64 (.var 1)]))
 (.leaf (.agg [.int .i64 (.var 4), .int .i64 (.bin .add (.var 0) (.bin .add (.bin .sub (.lit 0) (.var 2)) (.lit 0))), .int .i64 (.bin .add (.var 1) (.lit 0)), .int .i64 (.bin .add (.var 0) (.bin .add (.var 2) (.lit 0))), .int .i64 (.bin .add (.var 1) (.lit 0)), .int .i64 (.var 0), .int .i64 (.var 1)])))))
 (.node (.eq (.bin .rem (.bin .add (.bin .rem (.bin .add (.var 3) (.lit 1)) (.lit 4)) (.lit 4)) (.lit 4)) (.lit 1))
 (.leaf (.agg [.int .i64 (.var 4), .int .i64 (.bin .add (.var 0) (.bin .add (.bin .sub (.lit 0) (.var 2)) (.lit 0))), .int .i64 (.bin .add (.var 1) (.lit 0)), .int .i64 (.bin .add (.var 0) (.lit 0)), .int .i64 (.bin .add (.var 1) (.bin .add (.var 2) (.lit 0))), .int .i64 (.var 0), .int .i64 (.var 1)]))
 (.node (.eq (.bin .rem (.bin .add (.bin .rem (.bin .add (.var 3) (.lit 1)) (.lit 4)) (.lit 4)) (.lit 4)) (.lit 2))
 (.leaf (.agg [.int .i64 (.var 4), .int .i64 (.bin .add (.var 0) (.bin .add (.bin .sub (.lit 0) (.var 2)) (.lit 0))), .int .i64 (.bin .add (.var 1) (.lit 0)), .int .i64 (.bin .add (.var 0) (.bin .add (.bin .sub (.lit 0) (.var 2)) (.lit 0))), .int .i64 (.bin .add (.var 1) (.lit 0)), .int .i64 (.var 0), .int .i64 (.var 1)]))
 (.node (.eq (.bin .rem (.bin .add (.bin .rem (.bin .add (.var 3) (.lit 1)) (.lit 4)) (.lit 4)) (.lit 4)) (.lit 3))
 (.leaf (.agg [.int .i64 (.var 4), .int .i64 (.bin .add (.var 0) (.bin .add (.bin .sub (.lit 0) (.var 2)) (.lit 0))), .int .i64 (.bin .add (.var 1) (.lit 0)), .int .i64 (.bin .add (.var 0) (.lit 0)), .int .i64 (.bin .add (.var 1) (.bin .add (.bin .sub (.lit 0) (.var 2)) (.lit 0))), .int .i64 (.var 0), .int .i64 (.var 1)]))
 (.leaf (.agg [.int .i64 (.var 4), .int .i64 (.bin .add (.var 0) (.bin .add (.bin .sub (.lit 0) (.var 2)) (.lit 0))), .int .i64 (.bin .add (.var 1) (.lit 0)), .int .i64 (.bin .add (.var 0) (.bin .add (.var 2) (.lit 0))), .int .i64 (.bin .add (.var 1) (.lit 0)), .int .i64 (.var 0), .int .i64 (.var 1)]))))))
 (.node (.eq (.bin .rem (.bin .add (.bin .rem (.var 3) (.lit 4)) (.lit 4)) (.lit 4)) (.lit 3))
 (.node (.eq (.var 4) (.lit 3))
 (.node (.eq (.bin .rem (.bin .add (.bin .rem (.bin .add (.var 3) (.lit 3)) (.lit 4)) (.lit 4)) (.lit 4)) (.lit 1))
 (.leaf (.agg [.int .i64 (.var 4), .int .i64 (.bin .add (.var 0) (.lit 0)), .int .i64 (.bin .add (.var 1) (.bin .add (.bin .sub (.lit 0) (.var 2)) (.lit 0))), .int .i64 (.bin .add (.var 0) (.lit 0)), .int .i64 (.bin .add (.var 1) (.bin .add (.var 2) (.lit 0))), .int .i64 (.var 0), .int .i64 (.var 1)]))
 (.node (.eq (.bin .rem (.bin .add (.bin .rem (.bin .add (.var 3) (.lit 3)) (.lit 4)) (.lit 4)) (.lit 4)) (.lit 2))
 (.leaf (.agg [.int .i64 (.var 4), .int .i64 (.bin .add (.var 0) (.lit 0)), .int .i64 (.bin .add (.var 1) (.bin .add (.bin .sub (.lit 0) (.var 2)) (.lit 0))), .int .i64 (.bin .add (.var 0) (.bin .add (.bin .sub (.lit 0) (.var 2)) (.lit 0))), .int .i64 (.bin .add (.var 1) (.lit 0)), .int .i64 (.var 0), .int .i64 (.var 1)]))
 (.node (.eq (.bin .rem (.bin .add (.bin .rem (.bin .add (.var 3) (.lit 3)) (.lit 4)) (.lit 4)) (.lit 4)) (.lit 3))
 (.leaf (.agg [.int .i64 (.var 4), .int .i64 (.bin .add (.var 0) (.lit 0)), .int .i64 (.bin .add (.var 1) (.bin .add (.bin .sub (.lit 0) (.var 2)) (.lit 0))), .int .i64 (.bin .add (.var 0) (.lit 0)), .int .i64 (.bin .add (.var 1) (.bin .add (.bin .sub (.lit 0) (.var 2)) (.lit 0))), .int .i64 (.var 0), .int .i64 (.var 1)]))
 (.leaf (.agg [.int .i64 (.var 4), .int .i64 (.bin .add (.var 0) (.lit 0)), .int .i64 (.bin .add (.var 1) (.bin .add (.bin .sub (.lit 0) (.var 2)) (.lit 0))), .int .i64 (.bin .add (.var 0) (.bin .add (.var 2) (.lit 0))), .int .i64 (.bin .add (.var 1) (.lit 0)), .int .i64 (.var 0), .int .i64 (.var 1)])))))
 (.node (.eq (.bin .rem (.bin .add (.bin .rem (.bin .add (.var 3) (.lit 1)) (.lit 4)) (.lit 4)) (.lit 4)) (.lit 1))
 (.leaf (.agg [.int .i64 (.var 4), .int .i64 (.bin .add (.var 0) (.lit 0)), .int .i64 (.bin .add (.var 1) (.bin .add (.bin .sub (.lit 0) (.var 2)) (.lit 0))), .int .i64 (.bin .add (.var 0) (.lit 0)), .int .i64 (.bin .add (.var 1) (.bin .add (.var 2) (.lit 0))), .int .i64 (.var 0), .int .i64 (.var 1)]))
 (.node (.eq (.bin .rem (.bin .add (.bin .rem (.bin .add (.var 3) (.lit 1)) (.lit 4)) (.lit 4)) (.lit 4)) (.lit 2))
 (.leaf (.agg [.int .i64 (.var 4), .int .i64 (.bin .add (.var 0) (.lit 0)), .int .i64 (.bin .add (.var 1) (.bin .add (.bin .sub (.lit 0) (.var 2)) (.lit 0))), .int .i64 (.bin .add (.var 0) (.bin .add (.bin .sub (.lit 0) (.var 2)) (.lit 0))), .int .i64 (.bin .add (.var 1) (.lit 0)), .int .i64 (.var 0), .int .i64 (.var 1)]))
 (.node (.eq (.bin .rem (.bin .add (.bin .rem (.bin .add (.var 3) (.lit 1)) (.lit 4)) (.lit 4)) (.lit 4)) (.lit 3))
 (.leaf (.agg [.int .i64 (.var 4), .int .i64 (.bin .add (.var 0) (.lit 0)), .int .i64 (.bin .add (.var 1) (.bin .add (.bin .sub (.lit 0) (.var 2)) (.lit 0))), .int .i64 (.bin .add (.var 0) (.lit 0)), .int .i64 (.bin .add (.var 1) (.bin .add (.bin .sub (.lit 0) (.var 2)) (.lit 0))), .int .i64 (.var 0), .int .i64 (.var 1)]))
 (.leaf (.agg [.int .i64 (.var 4), .int .i64 (.bin .add (.var 0) (.lit 0)), .int .i64 (.bin .add (.var 1) (.bin .add (.bin .sub (.lit 0) (.var 2)) (.lit 0))), .int .i64 (.bin .add (.var 0) (.bin .add (.var 2) (.lit 0))), .int .i64 (.bin .add (.var 1) (.lit 0)), .int .i64 (.var 0), .int .i64 (.var 1)]))))))
 (.node (.eq (.var 4) (.lit 3))
 (.node (.eq (.bin .rem (.bin .add (.bin .rem (.bin .add (.var 3) (.lit 3)) (.lit 4)) (.lit 4)) (.lit 4)) (.lit 1))
 (.leaf (.agg [.int .i64 (.var 4), .int .i64 (.bin .add (.var 0) (.bin .add (.var 2) (.lit 0))), .int .i64 (.bin .add (.var 1) (.lit 0)), .int .i64 (.bin .add (.var 0) (.lit 0)), .int .i64 (.bin .add (.var 1) (.bin .add (.var 2) (.lit 0))), .int .i64 (.var 0), .int .i64 (.var 1)]))
 (.node (.eq (.bin .rem (.bin .add (.bin .rem (.bin .add (.var 3) (.lit 3)) (.lit 4)) (.lit 4)) (.lit 4)) (.lit 2))
 (.leaf (.agg [.int .i64 (.var 4), .int .i64 (.bin .add (.var 0) (.bin .add (.var 2) (.lit 0))), .int .i64 (.bin .add (.var 1) (.lit 0)), .int .i64 (.bin .add (.var 0) (.bin .add (.bin .sub (.lit 0) (.var 2)) (.lit 0))), .int .i64 (.bin .add (.var 1) (.lit 0)), .int .i64 (.var 0), .int .i64 (.var 1)]))
 (.node (.eq (.bin .rem (.bin .add (.bin .rem (.bin .add (.var 3) (.lit 3)) (.lit 4)) (.lit 4)) (.lit 4)) (.lit 3))
 (.leaf (.agg [.int .i64 (.var 4), .int .i64 (.bin .add (.var 0) (.bin .add (.var 2) (.lit 0))), .int .i64 (.bin .add (.var 1) (.lit 0)), .int .i64 (.bin .add (.var 0) (.lit 0)), .int .i64 (.bin .add (.var 1) (.bin .add (.bin .sub (.lit 0) (.var 2)) (.lit 0))), .int .i64 (.var 0), .int .i64 (.var 1)]))
 (.leaf (.agg [.int .i64 (.var 4), .int .i64 (.bin .add (.var 0) (.bin .add (.var 2) (.lit 0))), .int .i64 (.bin .add (.var 1) (.lit 0)), .int .i64 (.bin .add (.var 0) (.bin .add (.var 2) (.lit 0))), .int .i64 (.bin .add (.var 1) (.lit 0)), .int .i64 (.var 0), .int .i64 (.var 1)])))))
 (.node (.eq (.bin .rem (.bin .add (.bin .rem (.bin .add (.var 3) (.lit 1)) (.lit 4)) (.lit 4)) (.lit 4)) (.lit 1))
 (.leaf (.agg [.int .i64 (.var 4), .int .i64 (.bin .add (.var 0) (.bin .add (.var 2) (.lit 0))), .int .i64 (.bin .add (.var 1) (.lit 0)), .int .i64 (.bin .add (.var 0) (.lit 0)), .int .i64 (.bin .add (.var 1) (.bin .add (.var 2) (.lit 0))), .int .i64 (.var 0), .int .i64 (.var 1)]))
 (.node (.eq (.bin .rem (.bin .add (.bin .rem (.bin .add (.var 3) (.lit 1)) (.lit 4)) (.lit 4)) (.lit 4)) (.lit 2))
 (.leaf (.agg [.int .i64 (.var 4), .int .i64 (.bin .add (.var 0) (.bin .add (.var 2) (.lit 0))), .int .i64 (.bin .add (.var 1) (.lit 0)), .int .i64 (.bin .add (.var 0) (.bin .add (.bin .sub (.lit 0) (.var 2)) (.lit 0))), .int .i64 (.bin .add (.var 1) (.lit 0)), .int .i64 (.var 0), .int .i64 (.var 1)]))
 (.node (.eq (.bin .rem (.bin .add (.bin .rem (.bin .add (.var 3) (.lit 1)) (.lit 4)) (.lit 4)) (.lit 4)) (.lit 3))
 (.leaf (.agg [.int .i64 (.var 4), .int .i64 (.bin .add (.var 0) (.bin .add (.var 2) (.lit 0))), .int .i64 (.bin .add (.var 1) (.lit 0)), .int .i64 (.bin .add (.var 0) (.lit 0)), .int .i64 (.bin .add (.var 1) (.bin .add (.bin .sub (.lit 0) (.var 2)) (.lit 0))), .int .i64 (.var 0), .int .i64 (.var 1)]))
 (.leaf (.agg [.int .i64 (.var 4), .int .i64 (.bin .add (.var 0) (.bin .add (.var 2) (.lit 0))), .int .i64 (.bin .add (.var 1) (.lit 0)), .int .i64 (.bin .add (.var 0) (.bin .add (.var 2) (.lit 0))), .int .i64 (.bin .add (.var 1) (.lit 0)), .int .i64 (.var 0), .int .i64 (.var 1)])))))))))
set_option maxRecDepth 1000000 in
theorem rarc_tree : vals (execF Try.prog CT.none 20 54 [.agg [iv 0, iv 1], .c (iv 2), .c (iv 3), .c (iv 4)] (sFacts arcF)) = rarcT := by kernel_rfl
def arcE (cx cy r t k : Int) : E7 := ⟨k, cx + drX r t, cy + drY r t, cx + drX r (if k = 3 then t + 3 else t + 1), cy + drY r (if k = 3 then t + 3 else t + 1), cx, cy⟩
theorem ag7 {a b c d e f g : Int} {x : E7} (h1 : a = x.k) (h2 : b = x.ax) (h3 : c = x.ay) (h4 : d = x.bx) (h5 : e = x.by') (h6 : f = x.cx) (h7 : g = x.cy) : Value.agg #[.int .i64 a, .int .i64 b, .int .i64 c, .int .i64 d, .int .i64 e, .int .i64 f, .int .i64 g] = x.val := by subst h1 h2 h3 h4 h5 h6 h7; rfl
section
variable {cx cy r t k : Int} (h0 : -2000 ≤ cx ∧ cx ≤ 2000) (h1 : -2000 ≤ cy ∧ cy ≤ 2000) (h2 : 0 ≤ r ∧ r ≤ 1000) (h3 : 0 ≤ t ∧ t ≤ 7) (h4 : k = 2 ∨ k = 3)
include h0 h1 h2 h3 h4
theorem arcF_ok : ∀ p ∈ arcF, p.1.den I0 (envOf [cx, cy, r, t, k] []) = p.2 := by
  intro p hp
  simp only [arcF, List.mem_cons, List.not_mem_nil, or_false] at hp
  rcases hp with rfl | rfl | rfl | rfl | rfl | rfl | rfl | rfl | rfl | rfl <;> refine B.lt_t.2 ?_ <;> simp only [T.den_lit, T.den_var, envOf, List.getD_cons_zero, List.getD_cons_succ] <;> omega
set_option maxHeartbeats 20000000 in
theorem arc_c (w : World) : Calls Try.prog 54 #[.agg #[.int .i64 cx, .int .i64 cy], .int .i64 r, .int .i64 t, .int .i64 k] w
    (fun e w' => e = .returned (arcE cx cy r t k).val ∧ Below w.heap.size w w') := by
  have hf := arcF_ok h0 h1 h2 h3 h4
  have key : rarcT.vc I0 (envOf [cx, cy, r, t, k] []) (fun v => v.wf 0 = true ∧ v.den I0 (envOf [cx, cy, r, t, k] []) id = (arcE cx cy r t k).val) := ?key
  · exact @calls_litK Try.prog I0 (envOf [cx, cy, r, t, k] []) mixed nocount CT.none (CT.none_ok _ _ _) 20 54 [.agg [iv 0, iv 1], .c (iv 2), .c (iv 3), .c (iv 4)] arcF rarcT w _ (fun _ h => nomatch h) hf rfl rarc_tree key
  clear hf
  unfold rarcT
  repeat' (first | refine And.intro ?_ ?_ | intro _)
  all_goals first | rfl | skip
  all_goals (show Value.agg #[.int .i64 _, .int .i64 _, .int .i64 _, .int .i64 _, .int .i64 _, .int .i64 _, .int .i64 _] = _)
  all_goals (simp only [B.lt_t, B.lt_f, B.eq_t, B.eq_f, B.den_var, B.den_lit, B.den_not, B.den_and, B.den_iff, T.den_lit, T.den_var, T.den_wrap, T.den_bin, ev_add, ev_sub, ev_mul, ev_quo, ev_rem, ev_max, ev_min, envOf, List.getD_cons_zero, List.getD_cons_succ, w64, turn4] at *)
  all_goals (refine ag7 rfl ?_ ?_ ?_ ?_ rfl rfl <;> unfold arcE drX drY <;> simp only <;> (repeat' split) <;> omega)
theorem arc_ok (hr : 1 ≤ r) : (arcE cx cy r t k).okE := by
  have hx : ∀ u, (-r ≤ drX r u ∧ drX r u ≤ r) ∧ (-r ≤ drY r u ∧ drY r u ≤ r) := fun u => by unfold drX drY; constructor <;> constructor <;> (repeat' split) <;> omega
  have ha := hx t
  have hb := hx (if k = 3 then t + 3 else t + 1)
  refine ⟨by show 1 ≤ k; omega, by show k ≤ 3; omega, ?_, ?_, ?_, .inr ⟨?_, ?_⟩⟩
  · show rightP (cx + drX r t) (cy + drY r t); unfold rightP; omega
  · show rightP (cx + drX r _) (cy + drY r _); unfold rightP; omega
  · show rightP cx cy; unfold rightP; omega
  · show ¬ (cx + drX r t = cx ↔ cy + drY r t = cy)
    unfold drX drY; (repeat' split) <;> omega
  · rcases h4 with rfl | rfl
    · refine .inl ⟨rfl, ?_, ?_⟩
      · show cx + drX r (t + 1) - cx = -(cy + drY r t - cy); unfold drX drY; (repeat' split) <;> omega
      · show cy + drY r (t + 1) - cy = cx + drX r t - cx; unfold drX drY; (repeat' split) <;> omega
    · refine .inr ⟨rfl, ?_, ?_⟩
      · show cx + drX r (t + 3) - cx = cy + drY r t - cy; unfold drX drY; (repeat' split) <;> omega
      · show cy + drY r (t + 3) - cy = -(cx + drX r t - cx); unfold drX drY; (repeat' split) <;> omega
end
end Go.Proofs.Ytliimpbbppbghaa.Sx

