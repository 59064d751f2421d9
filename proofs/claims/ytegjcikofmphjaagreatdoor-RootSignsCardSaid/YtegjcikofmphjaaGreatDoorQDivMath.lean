/- Texts that belong together. -/
import Derived.Test.YtegjcikofmphjaaGreatDoorQNum25
set_option linter.all false
/- Layer 1: what Div does, in numbers. -/
namespace Go.Proofs.YtegjcikofmphjaaGreatDoor
open Go Go.RowKit Go.Shelf
theorem div_neg_rest {a b : Int} (ha : a < 0) (hb : 0 < b) (h : a.natAbs % b.natAbs ≠ 0) : a / b = -((a.natAbs / b.natAbs + 1 : Nat) : Int) ∧ a % b = ((b.natAbs - a.natAbs % b.natAbs : Nat) : Int) := by
  obtain ⟨x, rfl⟩ : ∃ x : Nat, a = -(x : Int) := ⟨a.natAbs, by omega⟩
  obtain ⟨y, rfl⟩ : ∃ y : Nat, b = (y : Int) := ⟨b.natAbs, by omega⟩
  simp only [Int.natAbs_neg, Int.natAbs_natCast] at h ⊢
  have hy : 0 < y := by omega
  have h1 := Nat.div_add_mod x y
  have h2 := Nat.mod_lt x hy
  have e : -(x : Int) = (y : Int) * (-((x / y + 1 : Nat) : Int)) + ((y - x % y : Nat) : Int) := by
    rw [Int.mul_neg, ← Int.natCast_mul, Nat.mul_add, Nat.mul_one]
    omega
  refine ⟨?_, ?_⟩
  · rw [e, Int.add_comm, Int.add_mul_ediv_left _ _ (by omega)]
    rw [Int.ediv_eq_zero_of_lt (by omega) (by omega)]
    omega
  · rw [e, Int.add_comm, Int.add_mul_emod_self_left]
    exact Int.emod_eq_of_lt (by omega) (by omega)
theorem div_neg_none {a b : Int} (ha : a < 0) (hb : 0 < b) (h : a.natAbs % b.natAbs = 0) : a / b = -((a.natAbs / b.natAbs : Nat) : Int) ∧ a % b = 0 := by
  obtain ⟨x, rfl⟩ : ∃ x : Nat, a = -(x : Int) := ⟨a.natAbs, by omega⟩
  obtain ⟨y, rfl⟩ : ∃ y : Nat, b = (y : Int) := ⟨b.natAbs, by omega⟩
  simp only [Int.natAbs_neg, Int.natAbs_natCast] at h ⊢
  have hy : 0 < y := by omega
  have h1 := Nat.div_add_mod x y
  have e : -(x : Int) = (y : Int) * (-((x / y : Nat) : Int)) := by
    rw [Int.mul_neg, ← Int.natCast_mul]
    omega
  refine ⟨?_, ?_⟩
  · rw [e, Int.mul_ediv_cancel_left _ (by omega)]
  · rw [e]; exact Int.mul_emod_right _ _
theorem div_pos_rest {a b : Int} (ha : 0 ≤ a) (hb : 0 < b) : a / b = ((a.natAbs / b.natAbs : Nat) : Int) ∧ a % b = ((a.natAbs % b.natAbs : Nat) : Int) := by
  obtain ⟨x, rfl⟩ : ∃ x : Nat, a = (x : Int) := ⟨a.natAbs, by omega⟩
  obtain ⟨y, rfl⟩ : ∃ y : Nat, b = (y : Int) := ⟨b.natAbs, by omega⟩
  simp only [Int.natAbs_natCast]
  exact ⟨(Int.natCast_ediv _ _).symm, (Int.natCast_emod _ _).symm⟩
theorem quo_succ_le {x y : Nat} (hy : 0 < y) (h : x % y ≠ 0) : x / y + 1 ≤ x := by
  have h1 := Nat.div_add_mod x y
  have h2 := Nat.mod_lt x hy
  have h3 : 2 * (x / y) ≤ y * (x / y) := Nat.mul_le_mul_right _ (by omega)
  omega
def DivPost (w : World) (q r : Int) (ok : Bool) (e : Ending) (w' : World) : Prop :=
  ∃ s t, e = .returned (.tuple #[.agg #[.bool (decide (q < 0)), s], .agg #[.bool (decide (r < 0)), t], .bool ok]) ∧ U32N w.heap.size w'.heap.size w' s (digs q.natAbs) ∧ U32N w.heap.size w'.heap.size w' t (digs r.natAbs) ∧ Below w.heap.size w w'
structure Df (b0 : Nat) (na nb : Bool) (p : Option Addr) (n c : Nat) (q : Option Addr) (m c2 : Nat) (W : World) : Prop where
  ra : RowAt W b0 25 (numCells na p n c)
  rb : RowAt W (b0 + 1) 25 (numCells nb q m c2)
  r4 : RowAt W (b0 + 1 + 1) 25 (numCells false none 0 0)
  r5 : RowAt W (b0 + 1 + 1 + 1) 25 (numCells false none 0 0)
theorem Df.below {b0 : Nat} {na nb : Bool} {p : Option Addr} {n c : Nat} {q : Option Addr} {m c2 : Nat} {W W' : World} (h : Df b0 na nb p n c q m c2 W) (hb : Below W.heap.size W W') : Df b0 na nb p n c q m c2 W' :=
  ⟨h.ra.below hb h.ra.lt, h.rb.below hb h.rb.lt, h.r4.below hb h.r4.lt, h.r5.below hb h.r5.lt⟩
theorem Df.set {b0 : Nat} {na nb : Bool} {p : Option Addr} {n c : Nat} {q : Option Addr} {m c2 : Nat} {W : World} (h : Df b0 na nb p n c q m c2 W) {g : Nat} (hg : b0 + 3 < g) (cs : Array Value) : Df b0 na nb p n c q m c2 (W.setRow g cs) :=
  ⟨h.ra.setRowOther _ (by omega), h.rb.setRowOther _ (by omega), h.r4.setRowOther _ (by omega), h.r5.setRowOther _ (by omega)⟩
theorem Df.alloc {b0 : Nat} {na nb : Bool} {p : Option Addr} {n c : Nat} {q : Option Addr} {m c2 : Nat} {W : World} (h : Df b0 na nb p n c q m c2 W) (o : Obj) : Df b0 na nb p n c q m c2 (W.alloc o) :=
  ⟨h.ra.alloc _, h.rb.alloc _, h.r4.alloc _, h.r5.alloc _⟩
section
variable {o : Oper} {a : Act} {w : World}
theorem run_field0 (x : Operand) (ho : o.op = .fieldAddr 25 x 0) (g : Nat) (hx : a.eval x = .pointer (some ⟨g, 0, none⟩)) : (execOp a.eval o).run Tryz.prog w = .ok (.value (.pointer (some ⟨g, 0, none⟩))) w := by
  unfold execOp
  simp only [ho, hx]
  simp [go_sem]
theorem run_field1 (x : Operand) (ho : o.op = .fieldAddr 25 x 1) (g : Nat) (hx : a.eval x = .pointer (some ⟨g, 0, none⟩)) : (execOp a.eval o).run Tryz.prog w = .ok (.value (.pointer (some ⟨g, 1, none⟩))) w := by
  unfold execOp
  simp only [ho, hx]
  simp [go_sem]
theorem run_load_slice_at (x : Operand) (ho : o.op = .load 23 x) (ad : Addr) (hx : a.eval x = .pointer (some ad)) (p : Option Addr) (n c : Nat) (hc : w.cell? ad = some (.slice p n c)) : (execOp a.eval o).run Tryz.prog w = .ok (.value (.slice p n c)) w := by
  unfold execOp
  simp only [ho, hx, Instr.loadAt, Instr.sureAddr, Sem.run_bind, Sem.run_pure, Result.andThen_ok]
  simp [hc, go_sem]
theorem run_load_bool_at (x : Operand) (ho : o.op = .load 4 x) (ad : Addr) (hx : a.eval x = .pointer (some ad)) (v : Bool) (hc : w.cell? ad = some (.bool v)) : (execOp a.eval o).run Tryz.prog w = .ok (.value (.bool v)) w := by
  unfold execOp
  simp only [ho, hx, Instr.loadAt, Instr.sureAddr, Sem.run_bind, Sem.run_pure, Result.andThen_ok]
  simp [hc, go_sem]
theorem run_load_num (x : Operand) (ho : o.op = .load 25 x) (g : Nat) (hx : a.eval x = .pointer (some ⟨g, 0, none⟩)) (neg : Bool) (p : Option Addr) (n c : Nat) (t : TypeId) (hg : RowAt w g t (numCells neg p n c)) : (execOp a.eval o).run Tryz.prog w = .ok (.value (.agg #[.bool neg, .slice p n c])) w := by
  unfold execOp
  simp only [ho, hx, Instr.loadAt, Instr.sureAddr, Sem.run_bind, Sem.run_pure, Result.andThen_ok, run_loadVar_row w g t 25 (numCells neg p n c) (0, 0) _ hg Tryz.underlying25 rfl num_info]
  rfl
theorem run_alloc_num (ho : o.op = .alloc 25) : (execOp a.eval o).run Tryz.prog w = .ok (.value (.pointer (some ⟨w.heap.size, 0, none⟩))) (w.alloc (.cells (numCells false none 0 0) 25)) := by
  unfold execOp
  simp [ho, go_sem]
  rfl
theorem wp_of_callE {K : Act → World → Prop} {Q : Exit → Act → World → Prop} {f : FuncId} {args : Array Value} (h : (execOp a.eval o).run Tryz.prog w = .ok (.enter f args) w) {R : Ending → World → Prop}
    (hc : Calls Tryz.prog f args w R) (hk : ∀ e w', R e w' → ∃ v, e = .returned v ∧ K (a.put o.dst v) w') : o.wp Tryz.prog a w K Q := by
  unfold Oper.wp; rw [h]
  refine hc.mono ?_
  intro e w' hr
  obtain ⟨v, rfl, hk⟩ := hk e w' hr
  exact hk
theorem ent_difference (args : Array Value) (w : World) : (callFunc 92 args).run Tryz.prog w = .ok (.enter 92 args) w := enters_of Tryz.func92 (by kernel_rfl) rfl args w
theorem ent_number (args : Array Value) (w : World) : (callFunc 67 args).run Tryz.prog w = .ok (.enter 67 args) w := enters_of Tryz.func67 (by kernel_rfl) rfl args w
end
end Go.Proofs.YtegjcikofmphjaaGreatDoor

