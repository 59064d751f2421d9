
/- A region whose order is open, with guarded operations: as XRegion; and laws for operations on small texts. -/
import Derived.Test.YtdaipflgcgefgaaGreatDoorRegion
import Derived.Test.YtdaipflgcgefgaaGreatDoorCuts
import Derived.Test.YtdaipflgcgefgaaGreatDoorDivMath
import Derived.Great.BuildSlice
import Derived.Laws.IdiomStrings
import Derived.Laws.Concat
set_option linter.all false
namespace Go.Proofs.YtdaipflgcgefgaaGreatDoor
open Go Go.RowKit Go.Shelf

/-- Each operation waits for earlier ones alone (where a wait binds at all). -/
def regionOkG (ops : Array Oper) : Bool := (List.range ops.size).all fun i => match ops[i]? with
  | none => true
  | some o => o.after.all fun e => !Region.binds .any e || decide (e.on < i)
theorem regionOkG_spec {ops : Array Oper} (h : regionOkG ops = true) {i : Nat} {o : Oper} (ho : ops[i]? = some o) : ∀ e ∈ o.after, Region.binds .any e = true → e.on < i := by
  have hi : i < ops.size := (Array.getElem?_eq_some_iff.1 ho).1
  have h1 := List.all_eq_true.1 h i (List.mem_range.2 hi)
  rw [ho] at h1
  intro e he hb
  have := (Array.all_eq_true_iff_forall_mem.1 h1) e he
  simpa [hb] using this
theorem ready_nilG {ops : Array Oper} {listed : Array Bool} (hok : regionOkG ops = true) (hs : listed.size = ops.size) (h : Region.ready .any ops listed = []) : ∀ i, i < ops.size → Done listed i := by
  intro i
  induction i using Nat.strongRecOn with
  | _ i ih =>
    intro hi
    obtain ⟨o, ho⟩ : ∃ o, ops[i]? = some o := ⟨_, Array.getElem?_eq_getElem hi⟩
    apply Classical.byContradiction
    intro hn
    have hmem : i ∈ Region.ready .any ops listed := by
      unfold Region.ready
      rw [List.mem_filter]
      refine ⟨List.mem_range.2 hi, ?_⟩
      rw [ho]
      simp only [Option.map_some, Option.getD_some, Bool.and_eq_true, Bool.not_eq_true']
      refine ⟨?_, ?_⟩
      · have hl : i < listed.size := by omega
        unfold Done at hn
        simp [hl] at hn ⊢
        exact hn
      · refine Array.all_eq_true_iff_forall_mem.2 fun e he => ?_
        by_cases hb : Region.binds .any e = true
        · have hlt := regionOkG_spec hok ho e he hb
          have := ih e.on hlt (by omega)
          unfold Done at this
          simpa [hb] using this
        · simp [hb]
    rw [h] at hmem; cases hmem

section
variable {P : Program} {ops : Array Oper} {Q : Exit → Act → World → Prop} (Inv : (Nat → Prop) → Act → World → Prop)
/-- An operation whose guard has said no leaves its slot empty. -/
def StepG (o : Oper) (a : Act) (w : World) (K : Act → World → Prop) : Prop := if Region.wanted o (yielded ops a.tmps) then o.wp P a w K Q else K (a.put o.dst undef) w
theorem wpAny_invG (hok : regionOkG ops = true)
    (hstep : ∀ (i : Nat) (o : Oper) (D : Nat → Prop) (a : Act) (w : World), ops[i]? = some o → ¬ D i → (∀ e ∈ o.after, Region.binds .any e = true → D e.on) → Inv D a w → StepG (P := P) (ops := ops) (Q := Q) o a w (fun a' w' => Inv (fun j => j = i ∨ D j) a' w'))
    (hdone : ∀ (D : Nat → Prop) (a : Act) (w : World), (∀ i, i < ops.size → D i) → Inv D a w → Q .normal a w) :
    ∀ (fuel : Nat) (listed : Array Bool) (a : Act) (w : World), listed.size = ops.size → left listed ≤ fuel → Inv (Done listed) a w → wpAny P .any ops Q fuel listed a w
  | 0, listed, a, w, hs, hl, hi => by
    have hr : Region.ready .any ops listed = [] := by
      apply List.eq_nil_iff_forall_not_mem.2
      intro i hm
      obtain ⟨_, _, _, h3, _⟩ := ready_mem hm
      have := left_set h3
      omega
    exact ⟨hr, hdone _ a w (ready_nilG hok hs hr) hi⟩
  | fuel + 1, listed, a, w, hs, hl, hi => by
    refine ⟨fun hr => hdone _ a w (ready_nilG hok hs hr) hi, fun i hm => ?_⟩
    obtain ⟨o, ho, hn, h3, he⟩ := ready_mem hm
    have hil : i < listed.size := by rw [hs]; exact (Array.getElem?_eq_some_iff.1 ho).1
    have hnext : ∀ a' w', Inv (fun j => j = i ∨ Done listed j) a' w' → wpAny P .any ops Q fuel (listed.setIfInBounds i true) a' w' := fun a' w' h => by
      refine wpAny_invG hok hstep hdone fuel _ a' w' (by simpa using hs) (by have := left_set h3; omega) ?_
      rw [done_set hil]
      exact h
    have hst := hstep i o _ a w ho hn he hi
    unfold wpOp
    rw [ho]
    dsimp only
    unfold StepG at hst
    by_cases hw : Region.wanted o (yielded ops a.tmps) = true
    · rw [if_pos hw] at hst ⊢
      exact .inl (Oper.wp_mono (fun a' w' h => hnext a' w' h) hst)
    · rw [if_neg hw] at hst ⊢
      exact hnext _ _ hst
theorem wp_region_invG {id : Nat} {a : Act} {w : World} (hm : P.follows .mixedOrders = true) (hok : regionOkG ops = true) (h0 : Inv (fun _ => False) a w.drew)
    (hstep : ∀ (i : Nat) (o : Oper) (D : Nat → Prop) (a : Act) (w : World), ops[i]? = some o → ¬ D i → (∀ e ∈ o.after, Region.binds .any e = true → D e.on) → Inv D a w → StepG (P := P) (ops := ops) (Q := Q) o a w (fun a' w' => Inv (fun j => j = i ∨ D j) a' w'))
    (hdone : ∀ (D : Nat → Prop) (a : Act) (w : World), (∀ i, i < ops.size → D i) → Inv D a w → Q .normal a w) : (Code.region id ops true).wp P Q a w := by
  refine wp_region_any hm (wpAny_invG Inv hok hstep hdone _ _ _ _ (by simp) ?_ ?_)
  · exact Nat.le_trans (List.length_filter_le _ _) (by simp)
  · have : Done (Array.replicate ops.size false) = fun _ => False := by
      funext j
      apply propext
      unfold Done
      by_cases h : j < ops.size <;> simp [h]
    rw [this]; exact h0
end
section
variable {P : Program} {ops : Array Oper} {Q : Exit → Act → World → Prop} {o : Oper} {a : Act} {w : World} {K : Act → World → Prop}
theorem step_yes (h : Region.wanted o (yielded ops a.tmps) = true) (hk : o.wp P a w K Q) : StepG (P := P) (ops := ops) (Q := Q) o a w K := by unfold StepG; rw [if_pos h]; exact hk
theorem step_no (h : Region.wanted o (yielded ops a.tmps) = false) (hk : K (a.put o.dst undef) w) : StepG (P := P) (ops := ops) (Q := Q) o a w K := by unfold StepG; rw [if_neg (by rw [h]; simp)]; exact hk
end

section
variable {o : Oper} {a : Act} {w : World}
theorem run_conv_u8 (x : Operand) (ho : o.op = .convert 3 5 x) (u : Int) (hx : a.eval x = .int .i64 u) (h0 : 0 ≤ u) (h1 : u < 256) : (execOp a.eval o).run Tryz.prog w = .ok (.value (.int .u8 u)) w := by
  have hw : IntKind.u8.wrap u = u := by rw [IntKind.wrap_u8]; omega
  unfold execOp
  simp only [ho, hx]
  simp [go_sem, hw]
theorem run_conv_u8' (x : Operand) (ho : o.op = .convert 3 5 x) (u : Int) (hx : a.eval x = .int .i64 u) (b : UInt8) (hb : (b.toNat : Int) = u) : (execOp a.eval o).run Tryz.prog w = .ok (.value (.int .u8 (b.toNat : Int))) w := by
  have h1 := UInt8.toNat_lt b
  rw [hb]; exact run_conv_u8 x ho u hx (by omega) (by omega)
theorem run_gtr_true (x y : Operand) (ho : o.op = .binOp .gtr 3 x y 3) (u v : Int) (hx : a.eval x = .int .i64 u) (hy : a.eval y = .int .i64 v) (h : v < u) : (execOp a.eval o).run Tryz.prog w = .ok (.value (.bool true)) w := by
  unfold execOp
  simp only [ho, hx, hy]
  simp [go_sem, h]
theorem run_gtr_false (x y : Operand) (ho : o.op = .binOp .gtr 3 x y 3) (u v : Int) (hx : a.eval x = .int .i64 u) (hy : a.eval y = .int .i64 v) (h : ¬ v < u) : (execOp a.eval o).run Tryz.prog w = .ok (.value (.bool false)) w := by
  unfold execOp
  simp only [ho, hx, hy]
  simp [go_sem, h]
theorem run_neq_same (x y : Operand) (ho : o.op = .binOp .neq 9 x y 9) (s : ByteArray) (hx : a.eval x = .string s) (hy : a.eval y = .string s) : (execOp a.eval o).run Tryz.prog w = .ok (.value (.bool false)) w := by
  unfold execOp
  simp only [ho, hx, hy]
  simp [go_sem]
theorem run_pick_t (x y z : Operand) (ho : o.op = .pick x y z) (hx : a.eval x = .bool true) : (execOp a.eval o).run Tryz.prog w = .ok (.value (a.eval y)) w := by
  unfold execOp
  simp only [ho, hx]
  simp [go_sem]
theorem run_pick_f (x y z : Operand) (ho : o.op = .pick x y z) (hx : a.eval x = .bool false) : (execOp a.eval o).run Tryz.prog w = .ok (.value (a.eval z)) w := by
  unfold execOp
  simp only [ho, hx]
  simp [go_sem]
theorem run_add_str (x y : Operand) (ho : o.op = .binOp .add 9 x y 9) (ht : o.type = 9) (l m : List UInt8) (hx : a.eval x = .string ⟨l.toArray⟩) (hy : a.eval y = .string ⟨m.toArray⟩) (hl : l.length ≤ 8388608) (hm : m.length ≤ 8388608) :
    (execOp a.eval o).run Tryz.prog w = .ok (.value (.string ⟨(l ++ m).toArray⟩)) w := by
  have hr := run_string_add_lists (P := Tryz.prog) (w := w) l m (by omega) (by omega)
  unfold execOp
  simp only [ho, hx, hy, ht]
  simp [go_sem, hr]
theorem info_u8 : (Tryz.prog.info? 5).map (fun i => (i.zero, i.size, i.bytes)) = some (some (.int .u8 0), 1, 1) := by kernel_rfl
theorem run_build_u8 (x : Operand) (ho : o.op = .buildSlice 100 1 #[(0, x)]) (u : Int) (hx : a.eval x = .int .u8 u) : (execOp a.eval o).run Tryz.prog w = .ok (.value (.slice (some ⟨w.heap.size, 0, none⟩) 1 1)) (w.alloc (.cells #[.int .u8 u] 5)) := by
  obtain ⟨i, hi, hz, hs, hb⟩ := info_parts info_u8
  have hr := run_buildSlice (P := Tryz.prog) w 100 5 1 #[(0, Value.int .u8 u)] #[.int .u8 u] i (.int .u8 0) Tryz.underlying100 hi hz (by rw [hs]; decide) (by rw [hs]; decide) (by rw [hs]; simp [Instr.fill, Value.cells, Array.range_succ, show Array.range 0 = #[] from rfl])
  unfold execOp
  simp only [ho, List.map_toArray, List.map_cons, List.map_nil, hx, Sem.run_bind]
  rw [hr]
  rfl
theorem run_conv_str (x : Operand) (ho : o.op = .convert 100 9 x) (g : Nat) (b : UInt8) (hx : a.eval x = .slice (some ⟨g, 0, none⟩) 1 1) (hr : RowAt w g 5 #[.int .u8 (b.toNat : Int)]) :
    (execOp a.eval o).run Tryz.prog w = .ok (.value (.string ⟨[b].toArray⟩)) w := by
  have h := run_convert_bytes_back (P := Tryz.prog) w 100 9 5 ⟨g, 0, none⟩ 1 [b] Tryz.underlying100 Tryz.underlying5 Tryz.underlying9 (fun j hj => by
    match j, hj with
    | 0, _ => rw [show Addr.add ⟨g, 0, none⟩ 0 = ⟨g, 0, none⟩ by simp [Addr.add]]; exact hr.cell 0)
  unfold execOp
  simp only [ho, hx, Sem.run_bind]
  rw [show ([b] : List UInt8).length = 1 from rfl] at h
  rw [h]
  rfl
end

end Go.Proofs.YtdaipflgcgefgaaGreatDoor
