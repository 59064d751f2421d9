/- A law for a statement whose order of evaluation is open: an invariant over the operations that have come up, one proof for each operation; and laws for single operations. -/
import Derived.Test.YtblpalhnjkfjoaaFour
import Derived.OrdersIn
import Derived.Great.BuildSlice
import Derived.Laws.Concat
import Derived.Lib.MinMax
import Derived.BigFrame
import Derived.Shelf.Abstract
set_option linter.all false
namespace Go.Proofs.Ytblpalhnjkfjoaa
open Go Go.RowKit Go.Shelf

/-- Each operation waits for earlier ones alone (where a wait binds at all), and none is guarded. -/
def regionOk (ops : Array Oper) : Bool := (List.range ops.size).all fun i => match ops[i]? with
  | none => true
  | some o => o.guard.isNone && o.after.all fun e => !Region.binds .any e || decide (e.on < i)

theorem regionOk_spec {ops : Array Oper} (h : regionOk ops = true) {i : Nat} {o : Oper} (ho : ops[i]? = some o) : o.guard = none ∧ ∀ e ∈ o.after, Region.binds .any e = true → e.on < i := by
  have hi : i < ops.size := (Array.getElem?_eq_some_iff.1 ho).1
  have h1 := List.all_eq_true.1 h i (List.mem_range.2 hi)
  rw [ho] at h1
  simp only [Bool.and_eq_true, Option.isNone_iff_eq_none] at h1
  refine ⟨h1.1, fun e he hb => ?_⟩
  have := (Array.all_eq_true_iff_forall_mem.1 h1.2) e he
  simpa [hb] using this

def Done (listed : Array Bool) (j : Nat) : Prop := listed.getD j false = true

theorem done_set {listed : Array Bool} {i : Nat} (hi : i < listed.size) : Done (listed.setIfInBounds i true) = fun j => j = i ∨ Done listed j := by
  funext j
  apply propext
  unfold Done
  by_cases h : j = i
  · subst h; simp [hi]
  · have : i ≠ j := fun e => h e.symm
    simp [Array.getElem?_setIfInBounds, this, h]

theorem ready_mem {ops : Array Oper} {listed : Array Bool} {i : Nat} (h : i ∈ Region.ready .any ops listed) : ∃ o, ops[i]? = some o ∧ ¬ Done listed i ∧ listed.getD i true = false ∧ ∀ e ∈ o.after, Region.binds .any e = true → Done listed e.on := by
  unfold Region.ready at h
  rw [List.mem_filter] at h
  obtain ⟨h1, h2⟩ := h
  have hi : i < ops.size := List.mem_range.1 h1
  obtain ⟨o, ho⟩ : ∃ o, ops[i]? = some o := ⟨_, Array.getElem?_eq_getElem hi⟩
  rw [ho] at h2
  simp only [Bool.and_eq_true, Bool.not_eq_true', Option.map_some, Option.getD_some] at h2
  refine ⟨o, ho, ?_, h2.1, fun e he hb => ?_⟩
  · unfold Done
    intro hd
    have h3 := h2.1
    by_cases hl : i < listed.size
    · simp [hl] at h3 hd; rw [h3] at hd; cases hd
    · simp [hl] at h3
  · have := (Array.all_eq_true_iff_forall_mem.1 h2.2) e he
    simpa [hb, Done] using this

theorem ready_nil {ops : Array Oper} {listed : Array Bool} (hok : regionOk ops = true) (hs : listed.size = ops.size) (h : Region.ready .any ops listed = []) : ∀ i, i < ops.size → Done listed i := by
  intro i
  induction i using Nat.strongRecOn with
  | _ i ih =>
    intro hi
    obtain ⟨o, ho⟩ : ∃ o, ops[i]? = some o := ⟨_, Array.getElem?_eq_getElem hi⟩
    apply Classical.byContradiction
    intro hn
    have hmem : i ∈ Region.ready .any ops listed := by
      unfold Region.ready
      rw [List.mem_filter]
      refine ⟨List.mem_range.2 hi, ?_⟩
      rw [ho]
      simp only [Bool.and_eq_true, Bool.not_eq_true', Option.map_some, Option.getD_some]
      constructor
      · unfold Done at hn
        have hl : i < listed.size := by omega
        simpa [hl] using hn
      · refine Array.all_eq_true_iff_forall_mem.2 fun e he => ?_
        cases hb : Region.binds .any e with
        | false => simp
        | true =>
          have hlt := (regionOk_spec hok ho).2 e he hb
          have := ih e.on hlt (by omega)
          unfold Done at this
          rw [this]; simp
    rw [h] at hmem
    cases hmem

def left (listed : Array Bool) : Nat := (listed.toList.filter (· == false)).length
theorem left_set_aux : ∀ (l : List Bool) (i : Nat), l[i]? = some false → ((l.set i true).filter (· == false)).length + 1 = (l.filter (· == false)).length
  | [], i, h => by simp at h
  | b :: l, 0, h => by simp at h; subst h; simp
  | b :: l, i + 1, h => by
    have := left_set_aux l i (by simpa using h)
    cases b <;> simp at this ⊢ <;> omega
theorem left_set {listed : Array Bool} {i : Nat} (h : listed.getD i true = false) : left (listed.setIfInBounds i true) + 1 = left listed := by
  have hi : i < listed.size := by
    apply Classical.byContradiction
    intro hn
    simp [hn] at h
  unfold left
  rw [Array.toList_setIfInBounds]
  refine left_set_aux _ _ ?_
  simp [hi] at h
  simp [hi, h]

theorem wanted_of_none {o : Oper} (h : o.guard = none) (y : Nat → Option Bool) : Region.wanted o y = true := by simp [Region.wanted, h]

section
variable {P : Program} {ops : Array Oper} {Q : Exit → Act → World → Prop} (Inv : (Nat → Prop) → Act → World → Prop)

theorem wpAny_inv (hok : regionOk ops = true)
    (hstep : ∀ (i : Nat) (o : Oper) (D : Nat → Prop) (a : Act) (w : World), ops[i]? = some o → ¬ D i → (∀ e ∈ o.after, Region.binds .any e = true → D e.on) → Inv D a w → o.wp P a w (fun a' w' => Inv (fun j => j = i ∨ D j) a' w') Q)
    (hdone : ∀ (D : Nat → Prop) (a : Act) (w : World), (∀ i, i < ops.size → D i) → Inv D a w → Q .normal a w) :
    ∀ (fuel : Nat) (listed : Array Bool) (a : Act) (w : World), listed.size = ops.size → left listed ≤ fuel → Inv (Done listed) a w → wpAny P .any ops Q fuel listed a w
  | 0, listed, a, w, hs, hl, hi => by
    have hr : Region.ready .any ops listed = [] := by
      apply List.eq_nil_iff_forall_not_mem.2
      intro i hm
      obtain ⟨_, _, _, h3, _⟩ := ready_mem hm
      have := left_set h3
      omega
    exact ⟨hr, hdone _ a w (ready_nil hok hs hr) hi⟩
  | fuel + 1, listed, a, w, hs, hl, hi => by
    refine ⟨fun hr => hdone _ a w (ready_nil hok hs hr) hi, fun i hm => ?_⟩
    obtain ⟨o, ho, hn, h3, he⟩ := ready_mem hm
    have hil : i < listed.size := by rw [hs]; exact (Array.getElem?_eq_some_iff.1 ho).1
    unfold wpOp
    rw [ho]
    dsimp only
    rw [if_pos (wanted_of_none (regionOk_spec hok ho).1 _)]
    refine .inl (Oper.wp_mono (fun a' w' h => ?_) (hstep i o _ a w ho hn he hi))
    refine wpAny_inv hok hstep hdone fuel _ a' w' (by simpa using hs) (by have := left_set h3; omega) ?_
    rw [done_set hil]
    exact h

theorem wp_region_inv {id : Nat} {a : Act} {w : World} (hm : P.follows .mixedOrders = true) (hok : regionOk ops = true) (h0 : Inv (fun _ => False) a w.drew)
    (hstep : ∀ (i : Nat) (o : Oper) (D : Nat → Prop) (a : Act) (w : World), ops[i]? = some o → ¬ D i → (∀ e ∈ o.after, Region.binds .any e = true → D e.on) → Inv D a w → o.wp P a w (fun a' w' => Inv (fun j => j = i ∨ D j) a' w') Q)
    (hdone : ∀ (D : Nat → Prop) (a : Act) (w : World), (∀ i, i < ops.size → D i) → Inv D a w → Q .normal a w) : (Code.region id ops true).wp P Q a w := by
  refine wp_region_any hm (wpAny_inv Inv hok hstep hdone _ _ _ _ (by simp) ?_ ?_)
  · exact Nat.le_trans (List.length_filter_le _ _) (by simp)
  · have : Done (Array.replicate ops.size false) = fun _ => False := by
      funext j
      apply propext
      unfold Done
      by_cases h : j < ops.size <;> simp [h]
    rw [this]; exact h0
end


section
variable {o : Oper} {a : Act} {w : World}
theorem wp_of_run {K : Act → World → Prop} {Q : Exit → Act → World → Prop} {v : Value} {w' : World} (h : (execOp a.eval o).run Try.prog w = .ok (.value v) w') (hk : K (a.put o.dst v) w') : o.wp Try.prog a w K Q := by
  unfold Oper.wp; rw [h]; exact hk
theorem wp_of_callE {K : Act → World → Prop} {Q : Exit → Act → World → Prop} {f : FuncId} {args : Array Value} (h : (execOp a.eval o).run Try.prog w = .ok (.enter f args) w) {R : Ending → World → Prop}
    (hc : Calls Try.prog f args w R) (hk : ∀ e w', R e w' → ∃ v, e = .returned v ∧ K (a.put o.dst v) w') : o.wp Try.prog a w K Q := by
  unfold Oper.wp; rw [h]
  refine hc.mono ?_
  intro e w' hr
  obtain ⟨v, rfl, hk⟩ := hk e w' hr
  exact hk
theorem run_enter1 (f : FuncId) (x : Operand) (ts : Array TypeId) (ho : o.op = .call { callee := .value (.func f), args := #[x], argTypes := ts }) (u1 : Value) (h1 : a.eval x = u1) (hf : ∀ args w, (callFunc f args).run Try.prog w = .ok (.enter f args) w) :
    (execOp a.eval o).run Try.prog w = .ok (.enter f #[u1]) w := by
  have ef : a.eval (.func f) = .func (.func f) #[] #[] := rfl
  have hm : Array.map a.eval #[x] = #[u1] := by rw [← h1]; simp
  unfold execOp
  simp only [ho, resolve, Deferred.ofValue, invoke, ef, hm]
  simp [hf]
theorem run_assign (x : Operand) (ho : o.op = .assign x) (v : Value) (hx : a.eval x = v) : (execOp a.eval o).run Try.prog w = .ok (.value v) w := by
  subst hx; unfold execOp; rw [ho]; rfl
theorem run_move (x : Operand) (ho : o.op = .move x) (v : Value) (hx : a.eval x = v) : (execOp a.eval o).run Try.prog w = .ok (.value v) w := by
  subst hx; unfold execOp; rw [ho]; rfl
theorem run_slice_lo (x : Operand) (ho : o.op = .slice 36 x none (some (.const (.int .i64 4))) none) (g : Nat) (hx : a.eval x = .pointer (some ⟨g, 0, none⟩)) : (execOp a.eval o).run Try.prog w = .ok (.value (.slice (some ⟨g, 0, none⟩) 4 8)) w := by
  have ek : a.eval (.const (.int .i64 4)) = .int .i64 4 := rfl
  unfold execOp
  simp only [ho, hx, Option.map_some, Option.map_none, ek]
  simp [go_sem]
theorem run_slice_hi (x : Operand) (ho : o.op = .slice 36 x (some (.const (.int .i64 4))) none none) (g : Nat) (hx : a.eval x = .pointer (some ⟨g, 0, none⟩)) : (execOp a.eval o).run Try.prog w = .ok (.value (.slice (some ⟨g, 4, none⟩) 4 4)) w := by
  have ek : a.eval (.const (.int .i64 4)) = .int .i64 4 := rfl
  unfold execOp
  simp only [ho, hx, Option.map_some, Option.map_none, ek]
  simp [go_sem]
theorem run_u32 (x : Operand) (ho : o.op = .convert 41 43 x) (n : Nat) (hn : n < 4294967296) (hx : a.eval x = .int .u64 (n : Int)) : (execOp a.eval o).run Try.prog w = .ok (.value (.int .u32 (n : Int))) w := by
  have h1 : IntKind.u32.wrap (n : Int) = (n : Int) := by simp [IntKind.wrap, IntKind.bits, IntKind.signed]; omega
  have h2 : (n : Int) % 4294967296 = (n : Int) := by omega
  unfold execOp
  simp only [ho, hx]
  simp [go_sem, h1, h2]
theorem info_byte : (Try.prog.info? 5).map (·.size) = some 1 := by kernel_rfl
theorem run_copy (x y : Operand) (ho : o.op = .call { callee := .builtin Builtin.copy, args := #[x, y], argTypes := #[29, 9] }) (g off dl dc : Nat) (s : Bs) (hs : s.length ≤ dl) (cur : Array Value) (hx : a.eval x = .slice (some ⟨g, off, none⟩) dl dc) (hy : a.eval y = .string ⟨s.toArray⟩)
    (hg : w.heap[g]? = some (.cells cur 36 (0, 0))) (hfit : off + s.length ≤ cur.size) :
    (execOp a.eval o).run Try.prog w = .ok (.value (.int .i64 s.length)) (w.setRow g (cur.toList.take off ++ Lib.byteCells s ++ cur.toList.drop (off + s.length)).toArray) := by
  obtain ⟨dst, op, type, pos, after, guard⟩ := o
  obtain rfl : op = _ := ho
  have e : Array.map a.eval #[x, y] = #[.slice (some ⟨g, off, none⟩) dl dc, .string ⟨s.toArray⟩] := by simp only [List.map_toArray, List.map_cons, List.map_nil, hx, hy]
  have hsz := bytes_size s
  have hr := Lib.run_copy_row_string (P := Try.prog) w 29 9 type 5 g off dl dc ⟨s.toArray⟩ cur 36 Try.underlying29 info_byte hg (by rw [hsz]; exact hs) (by rw [hsz]; exact hfit)
  rw [hsz] at hr
  rw [BigFrame.execOp_builtin, e]
  show Sem.run Try.prog (do pure (Next.value (← Builtin.copy_ _ _ _))) w = _
  rw [Sem.run_bind, hr]
  rfl
theorem ent_four (args : Array Value) (w : World) : (callFunc 24 args).run Try.prog w = .ok (.enter 24 args) w := enters_of Try.func24 (by kernel_rfl) rfl args w
end

/-- What the slots of the operations that have come up hold. -/
def upd (vs : Nat → Value) (i : Nat) (v : Value) : Nat → Value := fun k => if k = i then v else vs k
theorem inv_step {F : Nat → Value → World → Prop} {D : Nat → Prop} {vs : Nat → Value} {w w' : World} (hF : ∀ k, D k → F k (vs k) w) {i : Nat} {v : Value} (hm : ∀ k v, F k v w → F k v w') (hn : F i v w') : ∀ k, (k = i ∨ D k) → F k (upd vs i v k) w' := by
  intro k hk
  unfold upd
  by_cases h : k = i
  · rw [if_pos h, h]; exact hn
  · rw [if_neg h]; exact hm k _ (hF k (hk.resolve_left h))
theorem inv_same {F : Nat → Value → World → Prop} {D : Nat → Prop} {vs : Nat → Value} {w : World} (hF : ∀ k, D k → F k (vs k) w) {i : Nat} {v : Value} (hn : F i v w) : ∀ k, (k = i ∨ D k) → F k (upd vs i v k) w := inv_step hF (fun _ _ h => h) hn

end Go.Proofs.Ytblpalhnjkfjoaa
