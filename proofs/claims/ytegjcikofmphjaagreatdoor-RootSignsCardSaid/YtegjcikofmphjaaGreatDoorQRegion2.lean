/- Texts that belong together. -/
import Derived.Test.YtegjcikofmphjaaGreatDoorQRegion
import Derived.Test.YtegjcikofmphjaaGreatDoorQCuts
import Derived.Test.YtegjcikofmphjaaGreatDoorQDivMath
import Derived.Great.BuildSlice
import Derived.Laws.IdiomStrings
import Derived.Laws.Concat
set_option linter.all false
/- A region whose order is open, with guarded operations: as XRegion; and laws for operations on small texts. -/
namespace Go.Proofs.YtegjcikofmphjaaGreatDoor
open Go Go.RowKit Go.Shelf
def regionOkG (ops : Array Oper) : Bool := (List.range ops.size).all fun i => match ops[i]? with
  | none => true
  | some o => o.after.all fun e => !Region.binds .any e || decide (e.on < i)
theorem regionOkG_spec {ops : Array Oper} (h : regionOkG ops = true) {i : Nat} {o : Oper} (ho : ops[i]? = some o) : ∀ e ∈ o.after, Region.binds .any e = true → e.on < i := by
  have hi : i < ops.size := (Array.getElem?_eq_some_iff.1 ho).1
  have h1 := List.all_eq_true.1 h i (List.mem_range.2 hi)
  rw [ho] at h1
  intro e he hb
  have := (Array.all_eq_true_iff_forall_mem.1 h1) e he
  simpa [hb] using this
theorem ready_nilG {ops : Array Oper} {listed : Array Bool} (hok : regionOkG ops = true) (hs : listed.size = ops.size) (h : Region.ready .any ops listed = []) : ∀ i, i < ops.size → Done listed i := by
  intro i
  induction i using Nat.strongRecOn with
  | _ i ih =>
    intro hi
    obtain ⟨o, ho⟩ : ∃ o, ops[i]? = some o := ⟨_, Array.getElem?_eq_getElem hi⟩
    apply Classical.byContradiction
    intro hn
    have hmem : i ∈ Region.ready .any ops listed := by
      unfold Region.ready
      rw [List.mem_filter]
      refine ⟨List.mem_range.2 hi, ?_⟩
      rw [ho]
      simp only [Option.map_some, Option.getD_some, Bool.and_eq_true, Bool.not_eq_true']
      refine ⟨?_, ?_⟩
      · have hl : i < listed.size := by omega
        unfold Done at hn
        simp [hl] at hn ⊢
        exact hn
      · refine Array.all_eq_true_iff_forall_mem.2 fun e he => ?_
        by_cases hb : Region.binds .any e = true
        · have hlt := regionOkG_spec hok ho e he hb
          have := ih e.on hlt (by omega)
          unfold Done at this
          simpa [hb] using this
        · simp [hb]
    rw [h] at hmem; cases hmem
section
variable {P : Program} {ops : Array Oper} {Q : Exit → Act → World → Prop} (Inv : (Nat → Prop) → Act → World → Prop)
def StepG (o : Oper) (a : Act) (w : World) (K : Act → World → Prop) : Prop := if Region.wanted o (yielded ops a.tmps) then o.wp P a w K Q else K (a.put o.dst undef) w
end
section
variable {P : Program} {ops : Array Oper} {Q : Exit → Act → World → Prop} {o : Oper} {a : Act} {w : World} {K : Act → World → Prop}
theorem step_yes (h : Region.wanted o (yielded ops a.tmps) = true) (hk : o.wp P a w K Q) : StepG (P := P) (ops := ops) (Q := Q) o a w K := by unfold StepG; rw [if_pos h]; exact hk
theorem step_no (h : Region.wanted o (yielded ops a.tmps) = false) (hk : K (a.put o.dst undef) w) : StepG (P := P) (ops := ops) (Q := Q) o a w K := by unfold StepG; rw [if_neg (by rw [h]; simp)]; exact hk
end
section
variable {o : Oper} {a : Act} {w : World}
theorem run_pick_t (x y z : Operand) (ho : o.op = .pick x y z) (hx : a.eval x = .bool true) : (execOp a.eval o).run Tryz.prog w = .ok (.value (a.eval y)) w := by
  unfold execOp
  simp only [ho, hx]
  simp [go_sem]
theorem run_pick_f (x y z : Operand) (ho : o.op = .pick x y z) (hx : a.eval x = .bool false) : (execOp a.eval o).run Tryz.prog w = .ok (.value (a.eval z)) w := by
  unfold execOp
  simp only [ho, hx]
  simp [go_sem]
end
end Go.Proofs.YtegjcikofmphjaaGreatDoor

