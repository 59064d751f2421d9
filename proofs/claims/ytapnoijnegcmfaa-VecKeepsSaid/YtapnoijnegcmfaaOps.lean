/- Laws of single operations: points, motions. -/
import Derived.Test.YtapnoijnegcmfaaPts
set_option linter.all false
namespace Go.Proofs.Ytapnoijnegcmfaa
open Go Go.RowKit Go.Shelf

theorem ext_of {f : FuncId} {args : Array Value} {w : World} {v : Value} (h : Calls Try.prog f args w fun e w' => e = .returned v ∧ w = w') : Calls Try.prog f args w fun e w' => e = .returned v ∧ Ext w w' :=
  h.mono fun _ _ ⟨a, b⟩ => ⟨a, b ▸ Ext.refl _⟩
section
variable {o : Oper} {a : Act} {w : World}
theorem run_ld_pt (x : Operand) (ho : o.op = .load 23 x) (g j : Nat) (hx : a.eval x = .pointer (some ⟨g, j, none⟩)) (u v : Int) (h0 : w.cell? ⟨g, j, none⟩ = some (.int .i64 u)) (h1 : w.cell? ⟨g, j + 1, none⟩ = some (.int .i64 v)) : (execOp a.eval o).run Try.prog w = .ok (.value (.agg #[.int .i64 u, .int .i64 v])) w := by
  unfold execOp
  simp only [ho, hx, Instr.loadAt, Instr.sureAddr, Sem.run_bind, Sem.run_pure, Result.andThen_ok]
  simp [h0, h1, go_sem]
theorem run_ld_mo (x : Operand) (ho : o.op = .load 34 x) (g j : Nat) (hx : a.eval x = .pointer (some ⟨g, j, none⟩)) (u v z : Int) (b : Bool) (h0 : w.cell? ⟨g, j, none⟩ = some (.int .i64 u)) (h1 : w.cell? ⟨g, j + 1, none⟩ = some (.int .i64 v)) (h2 : w.cell? ⟨g, j + 2, none⟩ = some (.int .i64 z)) (h3 : w.cell? ⟨g, j + 3, none⟩ = some (.bool b)) : (execOp a.eval o).run Try.prog w = .ok (.value (.agg #[.int .i64 u, .int .i64 v, .int .i64 z, .bool b])) w := by
  unfold execOp
  simp only [ho, hx, Instr.loadAt, Instr.sureAddr, Sem.run_bind, Sem.run_pure, Result.andThen_ok]
  simp [h0, h1, h2, h3, go_sem]
theorem run_fld_pt0 (x : Operand) (ho : o.op = .fieldAddr 23 x 0) (g j : Nat) (hx : a.eval x = .pointer (some ⟨g, j, none⟩)) : (execOp a.eval o).run Try.prog w = .ok (.value (.pointer (some ⟨g, j + 0, none⟩))) w := by
  unfold execOp
  simp only [ho, hx]; simp [go_sem]
theorem run_fld_pt1 (x : Operand) (ho : o.op = .fieldAddr 23 x 1) (g j : Nat) (hx : a.eval x = .pointer (some ⟨g, j, none⟩)) : (execOp a.eval o).run Try.prog w = .ok (.value (.pointer (some ⟨g, j + 1, none⟩))) w := by
  unfold execOp
  simp only [ho, hx]; simp [go_sem]
theorem run_fld_mo0 (x : Operand) (ho : o.op = .fieldAddr 34 x 0) (g j : Nat) (hx : a.eval x = .pointer (some ⟨g, j, none⟩)) : (execOp a.eval o).run Try.prog w = .ok (.value (.pointer (some ⟨g, j + 0, none⟩))) w := by
  unfold execOp
  simp only [ho, hx]; simp [go_sem]
theorem run_fld_mo1 (x : Operand) (ho : o.op = .fieldAddr 34 x 1) (g j : Nat) (hx : a.eval x = .pointer (some ⟨g, j, none⟩)) : (execOp a.eval o).run Try.prog w = .ok (.value (.pointer (some ⟨g, j + 2, none⟩))) w := by
  unfold execOp
  simp only [ho, hx]; simp [go_sem]
theorem run_fld_mo2 (x : Operand) (ho : o.op = .fieldAddr 34 x 2) (g j : Nat) (hx : a.eval x = .pointer (some ⟨g, j, none⟩)) : (execOp a.eval o).run Try.prog w = .ok (.value (.pointer (some ⟨g, j + 3, none⟩))) w := by
  unfold execOp
  simp only [ho, hx]; simp [go_sem]
theorem run_fld_mv0 (x : Operand) (ho : o.op = .fieldAddr 40 x 0) (g j : Nat) (hx : a.eval x = .pointer (some ⟨g, j, none⟩)) : (execOp a.eval o).run Try.prog w = .ok (.value (.pointer (some ⟨g, j + 0, none⟩))) w := by
  unfold execOp
  simp only [ho, hx]; simp [go_sem]
theorem run_fld_mv1 (x : Operand) (ho : o.op = .fieldAddr 40 x 1) (g j : Nat) (hx : a.eval x = .pointer (some ⟨g, j, none⟩)) : (execOp a.eval o).run Try.prog w = .ok (.value (.pointer (some ⟨g, j + 4, none⟩))) w := by
  unfold execOp
  simp only [ho, hx]; simp [go_sem]
theorem run_ixa3_2 (x y : Operand) (ho : o.op = .indexAddr 24 x y) (g j : Nat) (hx : a.eval x = .pointer (some ⟨g, j, none⟩)) (k : Nat) (hy : a.eval y = .int .i64 (k : Int)) (hk : k < 3) : (execOp a.eval o).run Try.prog w = .ok (.value (.pointer (some ⟨g, j + k * 2, none⟩))) w := by
  have h2 : (k : Int) < 3 := by omega
  unfold execOp
  simp only [ho, hx, hy]
  simp [go_sem, h2]
theorem run_eq_pt (x y : Operand) (ho : o.op = .binOp .eql 23 x y 23) (u v u2 v2 : Int) (hx : a.eval x = .agg #[.int .i64 u, .int .i64 v]) (hy : a.eval y = .agg #[.int .i64 u2, .int .i64 v2]) (b : Bool) (hb : (decide (u = u2) && decide (v = v2)) = b) : (execOp a.eval o).run Try.prog w = .ok (.value (.bool b)) w := by
  subst hb
  unfold execOp
  simp only [ho, hx, hy]
  by_cases e1 : u = u2 <;> by_cases e2 : v = v2 <;> simp [go_sem, e1, e2]
theorem run_eq_mo (x y : Operand) (ho : o.op = .binOp .eql 34 x y 34) (u v z : Int) (m : Bool) (hx : a.eval x = .agg #[.int .i64 u, .int .i64 v, .int .i64 z, .bool m]) (hy : a.eval y = .agg #[.int .i64 u, .int .i64 v, .int .i64 z, .bool m]) : (execOp a.eval o).run Try.prog w = .ok (.value (.bool true)) w := by
  unfold execOp
  simp only [ho, hx, hy]
  simp [go_sem]
theorem run_negi (x : Operand) (ho : o.op = .unOp .neg 3 x) (ht : o.type = 3) (u : Int) (hx : a.eval x = .int .i64 u) : (execOp a.eval o).run Try.prog w = .ok (.value (.int .i64 (wrap64 (-u)))) w := by
  unfold execOp
  simp only [ho, hx, ht]
  simp [go_sem, IntKind.wrap_i64, wrap64]
theorem run_notb (x : Operand) (ho : o.op = .unOp .not 4 x) (u : Bool) (hx : a.eval x = .bool u) : (execOp a.eval o).run Try.prog w = .ok (.value (.bool !u)) w := by
  unfold execOp
  simp only [ho, hx]
  simp [go_sem]
theorem run_remi (x y : Operand) (ho : o.op = .binOp .rem 3 x y 3) (ht : o.type = 3) (u k : Int) (h1 : 2 ≤ k) (h2 : k ≤ 9223372036854775807) (hx : a.eval x = .int .i64 u) (hy : a.eval y = .int .i64 k) : (execOp a.eval o).run Try.prog w = .ok (.value (.int .i64 (u.tmod k))) w := by
  have h3 : wrap64 (u.tmod k) = u.tmod k := by
    have h4 : u.tmod k = if 0 ≤ u then u % k else -((-u) % k) := by
      split
      · exact Int.tmod_eq_emod_of_nonneg (by assumption)
      · rw [show u.tmod k = -((-u).tmod k) by rw [Int.neg_tmod, Int.neg_neg], Int.tmod_eq_emod_of_nonneg (by omega)]
    have h5 := Int.emod_lt_of_pos u (show 0 < k by omega)
    have h6 := Int.emod_lt_of_pos (-u) (show 0 < k by omega)
    have h7 := Int.emod_nonneg u (show k ≠ 0 by omega)
    have h8 := Int.emod_nonneg (-u) (show k ≠ 0 by omega)
    unfold wrap64; rw [h4]; split <;> omega
  have h9 : k ≠ 0 := by omega
  unfold execOp
  simp only [ho, hx, hy, ht]
  simp [go_sem, h9]
end
end Go.Proofs.Ytapnoijnegcmfaa
