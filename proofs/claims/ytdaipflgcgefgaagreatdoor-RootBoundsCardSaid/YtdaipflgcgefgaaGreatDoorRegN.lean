
/- Operations of a region that draws its order: digits of the reference. -/
import Derived.Test.YtdaipflgcgefgaaGreatDoorRefMath
import Derived.Test.YtdaipflgcgefgaaGreatDoorRegion
import Derived.Test.YtdaipflgcgefgaaGreatDoorCuts
set_option linter.all false
namespace Go.Proofs.YtdaipflgcgefgaaGreatDoor
open Go Go.RowKit Go.Shelf

/-- What the slots of the operations that have come up hold. -/
def upd (vs : Nat → Value) (i : Nat) (v : Value) : Nat → Value := fun k => if k = i then v else vs k
theorem inv_step {F : Nat → Value → World → Prop} {D : Nat → Prop} {vs : Nat → Value} {w w' : World} (hF : ∀ k, D k → F k (vs k) w) {i : Nat} {v : Value} (hm : ∀ k v, F k v w → F k v w') (hn : F i v w') : ∀ k, (k = i ∨ D k) → F k (upd vs i v k) w' := by
  intro k hk
  unfold upd
  by_cases h : k = i
  · rw [if_pos h, h]; exact hn
  · rw [if_neg h]; exact hm k _ (hF k (hk.resolve_left h))
theorem inv_same {F : Nat → Value → Prop} {D : Nat → Prop} {vs : Nat → Value} (hF : ∀ k, D k → F k (vs k)) {i : Nat} {v : Value} (hn : F i v) : ∀ k, (k = i ∨ D k) → F k (upd vs i v k) := by
  intro k hk
  unfold upd
  by_cases h : k = i
  · rw [if_pos h, h]; exact hn
  · rw [if_neg h]; exact hF k (hk.resolve_left h)

section
variable {o : Oper} {a : Act} {w : World}
theorem run_mov (x : Operand) (ho : o.op = .move x) (v : Value) (hx : a.eval x = v) : (execOp a.eval o).run Tryz.prog w = .ok (.value v) w := by
  subst hx; unfold execOp; rw [ho]; rfl
theorem run_quo32 (x : Operand) (ho : o.op = .binOp .quo 3 x (.const (.int .i64 32)) 3) (ht : o.type = 3) (k j : Nat) (hk : k < 4611686018427387904) (hj : j = k / 32) (hx : a.eval x = .int .i64 (k : Int)) : (execOp a.eval o).run Tryz.prog w = .ok (.value (.int .i64 (j : Int))) w := by
  have ek : a.eval (.const (.int .i64 32)) = .int .i64 32 := rfl
  have h1 : (k : Int).tdiv 32 = (j : Int) := by rw [Int.tdiv_eq_ediv_of_nonneg (by omega)]; omega
  have h2 : IntKind.i64.wrap (j : Int) = (j : Int) := by rw [IntKind.wrap_i64]; omega
  have h3 : wrap64 (j : Int) = (j : Int) := by unfold wrap64; omega
  have h4 : (k : Int) / 32 = (j : Int) := by omega
  unfold execOp
  simp only [ho, hx, ht, ek]
  simp [go_sem, h1, h2, h3, h4]
theorem run_rem32 (x : Operand) (ho : o.op = .binOp .rem 3 x (.const (.int .i64 32)) 3) (ht : o.type = 3) (k j : Nat) (hk : k < 4611686018427387904) (hj : j = k % 32) (hx : a.eval x = .int .i64 (k : Int)) : (execOp a.eval o).run Tryz.prog w = .ok (.value (.int .i64 (j : Int))) w := by
  have ek : a.eval (.const (.int .i64 32)) = .int .i64 32 := rfl
  have h1 : (k : Int).tmod 32 = (j : Int) := by rw [Int.tmod_eq_emod_of_nonneg (by omega)]; omega
  have h2 : IntKind.i64.wrap (j : Int) = (j : Int) := by rw [IntKind.wrap_i64]; omega
  have h3 : wrap64 (j : Int) = (j : Int) := by unfold wrap64; omega
  have h4 : (k : Int) % 32 = (j : Int) := by omega
  unfold execOp
  simp only [ho, hx, ht, ek]
  simp [go_sem, h1, h2, h3, h4]
theorem run_shl1 (x : Operand) (ho : o.op = .binOp .shl 87 (.const (.int .u32 1)) x 3) (ht : o.type = 87) (i : Nat) (hi : i ≤ 31) (hx : a.eval x = .int .i64 (i : Int)) : (execOp a.eval o).run Tryz.prog w = .ok (.value (.int .u32 ((2 ^ i : Nat) : Int))) w := by
  have ek : a.eval (.const (.int .u32 1)) = .int .u32 1 := rfl
  have h2 : 2 ^ i < 4294967296 := Nat.lt_of_le_of_lt (Nat.pow_le_pow_right (by decide) hi) (by decide)
  have h1 : IntKind.u32.wrap (2 ^ i) = ((2 ^ i : Nat) : Int) := by
    rw [IntKind.wrap_u32]
    have : ((2 : Int) ^ i) = ((2 ^ i : Nat) : Int) := by simp
    rw [this]
    generalize 2 ^ i = q at *
    omega
  unfold execOp
  simp only [ho, hx, ht, ek]
  simp [go_sem, h1]
theorem run_or (x y : Operand) (ho : o.op = .binOp .or 87 x y 87) (ht : o.type = 87) (f g h : Nat) (hf : f < 4294967296) (hg : g < 4294967296) (hh : h = f ||| g) (hx : a.eval x = .int .u32 (f : Int)) (hy : a.eval y = .int .u32 (g : Int)) : (execOp a.eval o).run Tryz.prog w = .ok (.value (.int .u32 (h : Int))) w := by
  have h1 := u32_or f g hf hg
  rw [← hh] at h1
  unfold execOp
  simp only [ho, hx, hy, ht]
  simp [go_sem, h1]
theorem run_idx (x y : Operand) (ho : o.op = .indexAddr 23 x y) (g n c u : Nat) (hx : a.eval x = .slice (some ⟨g, 0, none⟩) n c) (hy : a.eval y = .int .i64 (u : Int)) (hu : u < n) : (execOp a.eval o).run Tryz.prog w = .ok (.value (.pointer (some ⟨g, u, none⟩))) w := run_index_slice x y ho g n c u hx hy hu
theorem run_ld_u32 (x : Operand) (ho : o.op = .load 87 x) (ad : Addr) (hx : a.eval x = .pointer (some ad)) (v : Int) (hc : w.cell? ad = some (.int .u32 v)) : (execOp a.eval o).run Tryz.prog w = .ok (.value (.int .u32 v)) w := by
  unfold execOp
  simp only [ho, hx, Instr.loadAt, Instr.sureAddr, Sem.run_bind, Sem.run_pure, Result.andThen_ok]
  simp [hc, go_sem]
end

end Go.Proofs.YtdaipflgcgefgaaGreatDoor
