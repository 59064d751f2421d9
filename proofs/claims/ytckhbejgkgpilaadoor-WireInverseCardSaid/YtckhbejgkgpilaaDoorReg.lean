/- A law for a statement whose order of evaluation is open: an invariant over the operations that have come up, one proof for each operation; and laws for single operations. -/
import Derived.Test.YtckhbejgkgpilaaDoorVal
import Derived.OrdersIn
import Derived.Great.BuildSlice
import Derived.Laws.Concat
import Derived.Lib.MinMax
import Derived.BigFrame
set_option linter.all false
namespace Go.Proofs.YtckhbejgkgpilaaDoor
open Go Go.RowKit Go.Shelf

/-- Each operation waits for earlier ones alone (where a wait binds at all), and none is guarded. -/
def regionOk (ops : Array Oper) : Bool := (List.range ops.size).all fun i => match ops[i]? with
  | none => true
  | some o => o.guard.isNone && o.after.all fun e => !Region.binds .any e || decide (e.on < i)

theorem regionOk_spec {ops : Array Oper} (h : regionOk ops = true) {i : Nat} {o : Oper} (ho : ops[i]? = some o) : o.guard = none ∧ ∀ e ∈ o.after, Region.binds .any e = true → e.on < i := by
  have hi : i < ops.size := (Array.getElem?_eq_some_iff.1 ho).1
  have h1 := List.all_eq_true.1 h i (List.mem_range.2 hi)
  rw [ho] at h1
  simp only [Bool.and_eq_true, Option.isNone_iff_eq_none] at h1
  refine ⟨h1.1, fun e he hb => ?_⟩
  have := (Array.all_eq_true_iff_forall_mem.1 h1.2) e he
  simpa [hb] using this

def Done (listed : Array Bool) (j : Nat) : Prop := listed.getD j false = true

theorem done_set {listed : Array Bool} {i : Nat} (hi : i < listed.size) : Done (listed.setIfInBounds i true) = fun j => j = i ∨ Done listed j := by
  funext j
  apply propext
  unfold Done
  by_cases h : j = i
  · subst h; simp [hi]
  · have : i ≠ j := fun e => h e.symm
    simp [Array.getElem?_setIfInBounds, this, h]

theorem ready_mem {ops : Array Oper} {listed : Array Bool} {i : Nat} (h : i ∈ Region.ready .any ops listed) : ∃ o, ops[i]? = some o ∧ ¬ Done listed i ∧ listed.getD i true = false ∧ ∀ e ∈ o.after, Region.binds .any e = true → Done listed e.on := by
  unfold Region.ready at h
  rw [List.mem_filter] at h
  obtain ⟨h1, h2⟩ := h
  have hi : i < ops.size := List.mem_range.1 h1
  obtain ⟨o, ho⟩ : ∃ o, ops[i]? = some o := ⟨_, Array.getElem?_eq_getElem hi⟩
  rw [ho] at h2
  simp only [Bool.and_eq_true, Bool.not_eq_true', Option.map_some, Option.getD_some] at h2
  refine ⟨o, ho, ?_, h2.1, fun e he hb => ?_⟩
  · unfold Done
    intro hd
    have h3 := h2.1
    by_cases hl : i < listed.size
    · simp [hl] at h3 hd; rw [h3] at hd; cases hd
    · simp [hl] at h3
  · have := (Array.all_eq_true_iff_forall_mem.1 h2.2) e he
    simpa [hb, Done] using this

theorem ready_nil {ops : Array Oper} {listed : Array Bool} (hok : regionOk ops = true) (hs : listed.size = ops.size) (h : Region.ready .any ops listed = []) : ∀ i, i < ops.size → Done listed i := by
  intro i
  induction i using Nat.strongRecOn with
  | _ i ih =>
    intro hi
    obtain ⟨o, ho⟩ : ∃ o, ops[i]? = some o := ⟨_, Array.getElem?_eq_getElem hi⟩
    apply Classical.byContradiction
    intro hn
    have hmem : i ∈ Region.ready .any ops listed := by
      unfold Region.ready
      rw [List.mem_filter]
      refine ⟨List.mem_range.2 hi, ?_⟩
      rw [ho]
      simp only [Bool.and_eq_true, Bool.not_eq_true', Option.map_some, Option.getD_some]
      constructor
      · unfold Done at hn
        have hl : i < listed.size := by omega
        simpa [hl] using hn
      · refine Array.all_eq_true_iff_forall_mem.2 fun e he => ?_
        cases hb : Region.binds .any e with
        | false => simp
        | true =>
          have hlt := (regionOk_spec hok ho).2 e he hb
          have := ih e.on hlt (by omega)
          unfold Done at this
          rw [this]; simp
    rw [h] at hmem
    cases hmem

def left (listed : Array Bool) : Nat := (listed.toList.filter (· == false)).length
theorem left_set_aux : ∀ (l : List Bool) (i : Nat), l[i]? = some false → ((l.set i true).filter (· == false)).length + 1 = (l.filter (· == false)).length
  | [], i, h => by simp at h
  | b :: l, 0, h => by simp at h; subst h; simp
  | b :: l, i + 1, h => by
    have := left_set_aux l i (by simpa using h)
    cases b <;> simp at this ⊢ <;> omega
theorem left_set {listed : Array Bool} {i : Nat} (h : listed.getD i true = false) : left (listed.setIfInBounds i true) + 1 = left listed := by
  have hi : i < listed.size := by
    apply Classical.byContradiction
    intro hn
    simp [hn] at h
  unfold left
  rw [Array.toList_setIfInBounds]
  refine left_set_aux _ _ ?_
  simp [hi] at h
  simp [hi, h]

theorem wanted_of_none {o : Oper} (h : o.guard = none) (y : Nat → Option Bool) : Region.wanted o y = true := by simp [Region.wanted, h]

section
variable {P : Program} {ops : Array Oper} {Q : Exit → Act → World → Prop} (Inv : (Nat → Prop) → Act → World → Prop)

theorem wpAny_inv (hok : regionOk ops = true)
    (hstep : ∀ (i : Nat) (o : Oper) (D : Nat → Prop) (a : Act) (w : World), ops[i]? = some o → ¬ D i → (∀ e ∈ o.after, Region.binds .any e = true → D e.on) → Inv D a w → o.wp P a w (fun a' w' => Inv (fun j => j = i ∨ D j) a' w') Q)
    (hdone : ∀ (D : Nat → Prop) (a : Act) (w : World), (∀ i, i < ops.size → D i) → Inv D a w → Q .normal a w) :
    ∀ (fuel : Nat) (listed : Array Bool) (a : Act) (w : World), listed.size = ops.size → left listed ≤ fuel → Inv (Done listed) a w → wpAny P .any ops Q fuel listed a w
  | 0, listed, a, w, hs, hl, hi => by
    have hr : Region.ready .any ops listed = [] := by
      apply List.eq_nil_iff_forall_not_mem.2
      intro i hm
      obtain ⟨_, _, _, h3, _⟩ := ready_mem hm
      have := left_set h3
      omega
    exact ⟨hr, hdone _ a w (ready_nil hok hs hr) hi⟩
  | fuel + 1, listed, a, w, hs, hl, hi => by
    refine ⟨fun hr => hdone _ a w (ready_nil hok hs hr) hi, fun i hm => ?_⟩
    obtain ⟨o, ho, hn, h3, he⟩ := ready_mem hm
    have hil : i < listed.size := by rw [hs]; exact (Array.getElem?_eq_some_iff.1 ho).1
    unfold wpOp
    rw [ho]
    dsimp only
    rw [if_pos (wanted_of_none (regionOk_spec hok ho).1 _)]
    refine .inl (Oper.wp_mono (fun a' w' h => ?_) (hstep i o _ a w ho hn he hi))
    refine wpAny_inv hok hstep hdone fuel _ a' w' (by simpa using hs) (by have := left_set h3; omega) ?_
    rw [done_set hil]
    exact h

theorem wp_region_inv {id : Nat} {a : Act} {w : World} (hm : P.follows .mixedOrders = true) (hok : regionOk ops = true) (h0 : Inv (fun _ => False) a w.drew)
    (hstep : ∀ (i : Nat) (o : Oper) (D : Nat → Prop) (a : Act) (w : World), ops[i]? = some o → ¬ D i → (∀ e ∈ o.after, Region.binds .any e = true → D e.on) → Inv D a w → o.wp P a w (fun a' w' => Inv (fun j => j = i ∨ D j) a' w') Q)
    (hdone : ∀ (D : Nat → Prop) (a : Act) (w : World), (∀ i, i < ops.size → D i) → Inv D a w → Q .normal a w) : (Code.region id ops true).wp P Q a w := by
  refine wp_region_any hm (wpAny_inv Inv hok hstep hdone _ _ _ _ (by simp) ?_ ?_)
  · exact Nat.le_trans (List.length_filter_le _ _) (by simp)
  · have : Done (Array.replicate ops.size false) = fun _ => False := by
      funext j
      apply propext
      unfold Done
      by_cases h : j < ops.size <;> simp [h]
    rw [this]; exact h0
end


section
variable {o : Oper} {a : Act} {w : World}
theorem wp_of_run {K : Act → World → Prop} {Q : Exit → Act → World → Prop} {v : Value} {w' : World} (h : (execOp a.eval o).run Tryd.prog w = .ok (.value v) w') (hk : K (a.put o.dst v) w') : o.wp Tryd.prog a w K Q := by
  unfold Oper.wp; rw [h]; exact hk
theorem wp_of_callE {K : Act → World → Prop} {Q : Exit → Act → World → Prop} {f : FuncId} {args : Array Value} (h : (execOp a.eval o).run Tryd.prog w = .ok (.enter f args) w) {R : Ending → World → Prop}
    (hc : Calls Tryd.prog f args w R) (hk : ∀ e w', R e w' → ∃ v, e = .returned v ∧ K (a.put o.dst v) w') : o.wp Tryd.prog a w K Q := by
  unfold Oper.wp; rw [h]
  refine hc.mono ?_
  intro e w' hr
  obtain ⟨v, rfl, hk⟩ := hk e w' hr
  exact hk
theorem run_enter1 (f : FuncId) (x : Operand) (ts : Array TypeId) (ho : o.op = .call { callee := .value (.func f), args := #[x], argTypes := ts }) (u1 : Value) (h1 : a.eval x = u1) (hf : ∀ args w, (callFunc f args).run Tryd.prog w = .ok (.enter f args) w) :
    (execOp a.eval o).run Tryd.prog w = .ok (.enter f #[u1]) w := by
  have ef : a.eval (.func f) = .func (.func f) #[] #[] := rfl
  have hm : Array.map a.eval #[x] = #[u1] := by rw [← h1]; simp
  unfold execOp
  simp only [ho, resolve, Deferred.ofValue, invoke, ef, hm]
  simp [hf]
theorem run_assign (x : Operand) (ho : o.op = .assign x) (v : Value) (hx : a.eval x = v) : (execOp a.eval o).run Tryd.prog w = .ok (.value v) w := by
  subst hx; unfold execOp; rw [ho]; rfl
theorem run_move (x : Operand) (ho : o.op = .move x) (v : Value) (hx : a.eval x = v) : (execOp a.eval o).run Tryd.prog w = .ok (.value v) w := by
  subst hx; unfold execOp; rw [ho]; rfl
theorem run_field0 (x : Operand) (ho : o.op = .fieldAddr 45 x 0) (g : Nat) (hx : a.eval x = .pointer (some ⟨g, 0, none⟩)) : (execOp a.eval o).run Tryd.prog w = .ok (.value (.pointer (some ⟨g, 0, none⟩))) w := by
  unfold execOp
  simp only [ho, hx]
  simp [go_sem]
theorem run_field1 (x : Operand) (ho : o.op = .fieldAddr 45 x 1) (g : Nat) (hx : a.eval x = .pointer (some ⟨g, 0, none⟩)) : (execOp a.eval o).run Tryd.prog w = .ok (.value (.pointer (some ⟨g, 1, none⟩))) w := by
  unfold execOp
  simp only [ho, hx]
  simp [go_sem]
theorem run_field2 (x : Operand) (ho : o.op = .fieldAddr 45 x 2) (g : Nat) (hx : a.eval x = .pointer (some ⟨g, 0, none⟩)) : (execOp a.eval o).run Tryd.prog w = .ok (.value (.pointer (some ⟨g, 2, none⟩))) w := by
  unfold execOp
  simp only [ho, hx]
  simp [go_sem]
theorem run_field3 (x : Operand) (ho : o.op = .fieldAddr 45 x 3) (g : Nat) (hx : a.eval x = .pointer (some ⟨g, 0, none⟩)) : (execOp a.eval o).run Tryd.prog w = .ok (.value (.pointer (some ⟨g, 3, none⟩))) w := by
  unfold execOp
  simp only [ho, hx]
  simp [go_sem]
theorem run_field4 (x : Operand) (ho : o.op = .fieldAddr 45 x 4) (g : Nat) (hx : a.eval x = .pointer (some ⟨g, 0, none⟩)) : (execOp a.eval o).run Tryd.prog w = .ok (.value (.pointer (some ⟨g, 4, none⟩))) w := by
  unfold execOp
  simp only [ho, hx]
  simp [go_sem]
theorem run_load_i (x : Operand) (ho : o.op = .load 3 x) (ad : Addr) (hx : a.eval x = .pointer (some ad)) (v : Int) (hc : w.cell? ad = some (.int .i64 v)) : (execOp a.eval o).run Tryd.prog w = .ok (.value (.int .i64 v)) w := by
  unfold execOp
  simp only [ho, hx, Instr.loadAt, Instr.sureAddr, Sem.run_bind, Sem.run_pure, Result.andThen_ok]
  simp [hc, go_sem]
theorem run_load_s (x : Operand) (ho : o.op = .load 9 x) (ad : Addr) (hx : a.eval x = .pointer (some ad)) (v : ByteArray) (hc : w.cell? ad = some (.string v)) : (execOp a.eval o).run Tryd.prog w = .ok (.value (.string v)) w := by
  unfold execOp
  simp only [ho, hx, Instr.loadAt, Instr.sureAddr, Sem.run_bind, Sem.run_pure, Result.andThen_ok]
  simp [hc, go_sem]
theorem run_load_u8 (x : Operand) (ho : o.op = .load 5 x) (ad : Addr) (hx : a.eval x = .pointer (some ad)) (v : Int) (hc : w.cell? ad = some (.int .u8 v)) : (execOp a.eval o).run Tryd.prog w = .ok (.value (.int .u8 v)) w := by
  unfold execOp
  simp only [ho, hx, Instr.loadAt, Instr.sureAddr, Sem.run_bind, Sem.run_pure, Result.andThen_ok]
  simp [hc, go_sem]
theorem run_load_si (x : Operand) (ho : o.op = .load 22 x) (ad : Addr) (hx : a.eval x = .pointer (some ad)) (p : Option Addr) (n c : Nat) (hc : w.cell? ad = some (.slice p n c)) : (execOp a.eval o).run Tryd.prog w = .ok (.value (.slice p n c)) w := by
  unfold execOp
  simp only [ho, hx, Instr.loadAt, Instr.sureAddr, Sem.run_bind, Sem.run_pure, Result.andThen_ok]
  simp [hc, go_sem]
theorem run_load_ss (x : Operand) (ho : o.op = .load 23 x) (ad : Addr) (hx : a.eval x = .pointer (some ad)) (p : Option Addr) (n c : Nat) (hc : w.cell? ad = some (.slice p n c)) : (execOp a.eval o).run Tryd.prog w = .ok (.value (.slice p n c)) w := by
  unfold execOp
  simp only [ho, hx, Instr.loadAt, Instr.sureAddr, Sem.run_bind, Sem.run_pure, Result.andThen_ok]
  simp [hc, go_sem]
theorem run_len_s (x : Operand) (ts : Array TypeId) (ho : o.op = .call { callee := .builtin .len, args := #[x], argTypes := ts }) (hts : ts = #[9]) (s : Bs) (hx : a.eval x = .string ⟨s.toArray⟩) : (execOp a.eval o).run Tryd.prog w = .ok (.value (.int .i64 s.length)) w := by
  subst hts
  obtain ⟨dst, op, type, pos, after, guard⟩ := o
  obtain rfl : op = _ := ho
  have e : Array.map a.eval #[x] = #[.string ⟨s.toArray⟩] := by simp only [List.map_toArray, List.map_cons, List.map_nil, hx]
  rw [BigFrame.execOp_builtin, e]
  simp [go_sem, bytes_size]
theorem run_len_si (x : Operand) (ts : Array TypeId) (ho : o.op = .call { callee := .builtin .len, args := #[x], argTypes := ts }) (hts : ts = #[22]) (p : Option Addr) (n c : Nat) (hx : a.eval x = .slice p n c) : (execOp a.eval o).run Tryd.prog w = .ok (.value (.int .i64 n)) w := by
  subst hts
  obtain ⟨dst, op, type, pos, after, guard⟩ := o
  obtain rfl : op = _ := ho
  have e : Array.map a.eval #[x] = #[.slice p n c] := by simp only [List.map_toArray, List.map_cons, List.map_nil, hx]
  rw [BigFrame.execOp_builtin, e]
  simp [go_sem]
theorem run_min (x : Operand) (k : Int) (ts : Array TypeId) (ho : o.op = .call { callee := .builtin .min, args := #[x, .const (.int .i64 k)], argTypes := ts }) (hts : ts = #[3, 3]) (hty : o.type = 3) (u m : Int) (hx : a.eval x = .int .i64 u) (hm : min u k = m) : (execOp a.eval o).run Tryd.prog w = .ok (.value (.int .i64 m)) w := by
  subst hts
  subst hm
  obtain ⟨dst, op, type, pos, after, guard⟩ := o
  obtain rfl : op = _ := ho
  obtain rfl : type = _ := hty
  have e : Array.map a.eval #[x, .const (.int .i64 k)] = #[.int .i64 u, .int .i64 k] := by simp only [List.map_toArray, List.map_cons, List.map_nil, hx]; rfl
  rw [BigFrame.execOp_builtin, e]
  simp [go_sem]
theorem run_slice_s (x y : Operand) (ho : o.op = .slice 9 x none (some y) none) (s t : Bs) (m : Nat) (hx : a.eval x = .string ⟨s.toArray⟩) (hy : a.eval y = .int .i64 (m : Int)) (hm : m ≤ s.length) (hc : (⟨s.toArray⟩ : ByteArray).extract 0 m = ⟨t.toArray⟩) : (execOp a.eval o).run Tryd.prog w = .ok (.value (.string ⟨t.toArray⟩)) w := by
  have hsz := bytes_size s
  have h1 : (m : Int) ≤ (s.length : Int) := by omega
  unfold execOp
  simp only [ho, hx, hy, Option.map_some, Option.map_none]
  simp [go_sem, hsz, h1, hc]
theorem run_slice_i (x y : Operand) (ho : o.op = .slice 22 x none (some y) none) (p : Option Addr) (n c m : Nat) (hx : a.eval x = .slice p n c) (hy : a.eval y = .int .i64 (m : Int)) (hm : m ≤ c) : (execOp a.eval o).run Tryd.prog w = .ok (.value (.slice p m c)) w := by
  have h1 : (m : Int) ≤ (c : Int) := by omega
  unfold execOp
  simp only [ho, hx, hy, Option.map_some, Option.map_none]
  simp [go_sem, h1]
theorem run_rem4 (x : Operand) (ho : o.op = .binOp .rem 5 x (.const (.int .u8 4)) 5) (ht : o.type = 5) (c j : Nat) (hc : c < 256) (hj : j = c % 4) (hx : a.eval x = .int .u8 (c : Int)) : (execOp a.eval o).run Tryd.prog w = .ok (.value (.int .u8 (j : Int))) w := by
  have h1 : (c : Int).tmod 4 = (j : Int) := by rw [Int.tmod_eq_emod_of_nonneg (by omega)]; omega
  have h2 : (c : Int) % 4 = (j : Int) := by omega
  have ek : a.eval (.const (.int .u8 4)) = .int .u8 4 := rfl
  unfold execOp
  simp only [ho, hx, ht, ek]
  simp [go_sem, h1, h2]
theorem run_index4 (x y : Operand) (ho : o.op = .indexAddr 23 x y) (g j : Nat) (hx : a.eval x = .slice (some ⟨g, 0, none⟩) 4 4) (hy : a.eval y = .int .u8 (j : Int)) (hj : j < 4) : (execOp a.eval o).run Tryd.prog w = .ok (.value (.pointer (some ⟨g, j, none⟩))) w := by
  have h2 : (j : Int) < 4 := by omega
  unfold execOp
  simp only [ho, hx, hy]
  simp [go_sem, h2]
theorem info_str : (Tryd.prog.info? 9).map (fun i => (i.zero, i.size, i.bytes)) = some (some (.string ⟨#[]⟩), 1, 16) := by kernel_rfl
theorem run_build4 (x y z u : Operand) (ho : o.op = .buildSlice 23 4 #[(0, x), (1, y), (2, z), (3, u)]) (s1 s2 s3 s4 : ByteArray) (hx : a.eval x = .string s1) (hy : a.eval y = .string s2) (hz' : a.eval z = .string s3) (hu : a.eval u = .string s4) :
    (execOp a.eval o).run Tryd.prog w = .ok (.value (.slice (some ⟨w.heap.size, 0, none⟩) 4 4)) (w.alloc (.cells #[.string s1, .string s2, .string s3, .string s4] 9)) := by
  obtain ⟨i, hi, hz, hs, hb⟩ : ∃ i, Tryd.prog.info? 9 = some i ∧ i.zero = some (.string ⟨#[]⟩) ∧ i.size = 1 ∧ i.bytes = 16 := by
    obtain ⟨i, hi, e⟩ := Option.map_eq_some_iff.1 info_str
    simp only [Prod.mk.injEq] at e
    exact ⟨i, hi, e.1, e.2.1, e.2.2⟩
  have hr := run_buildSlice (P := Tryd.prog) w 23 9 4 #[(0, Value.string s1), (1, Value.string s2), (2, Value.string s3), (3, Value.string s4)] #[.string s1, .string s2, .string s3, .string s4] i (.string ⟨#[]⟩) Tryd.underlying23 hi hz (by rw [hs]; decide) (by rw [hs]; decide) (by rw [hs]; simp [Instr.fill, Value.cells, Array.range_succ, show Array.range 0 = #[] from rfl])
  unfold execOp
  simp only [ho, List.map_toArray, List.map_cons, List.map_nil, hx, hy, hz', hu, Sem.run_bind]
  rw [hr]
  rfl
theorem run_add_s (x y : Operand) (ho : o.op = .binOp .add 9 x y 9) (ht : o.type = 9) (l m : Bs) (hx : a.eval x = .string ⟨l.toArray⟩) (hy : a.eval y = .string ⟨m.toArray⟩) (hl : l.length ≤ 8388608) (hm : m.length ≤ 8388608) :
    (execOp a.eval o).run Tryd.prog w = .ok (.value (.string ⟨(l ++ m).toArray⟩)) w := by
  have hr := run_string_add_lists (P := Tryd.prog) (w := w) l m (by omega) (by omega)
  unfold execOp
  simp only [ho, hx, hy, ht]
  simp [go_sem, hr]
theorem ent_int (args : Array Value) (w : World) : (callFunc 12 args).run Tryd.prog w = .ok (.enter 12 args) w := enters_of Tryd.func12 (by kernel_rfl) rfl args w
theorem ent_text (args : Array Value) (w : World) : (callFunc 14 args).run Tryd.prog w = .ok (.enter 14 args) w := enters_of Tryd.func14 (by kernel_rfl) rfl args w
theorem ent_ints (args : Array Value) (w : World) : (callFunc 16 args).run Tryd.prog w = .ok (.enter 16 args) w := enters_of Tryd.func16 (by kernel_rfl) rfl args w
theorem ent_texts (args : Array Value) (w : World) : (callFunc 18 args).run Tryd.prog w = .ok (.enter 18 args) w := enters_of Tryd.func18 (by kernel_rfl) rfl args w
theorem ent_cut (args : Array Value) (w : World) : (callFunc 11 args).run Tryd.prog w = .ok (.enter 11 args) w := enters_of Tryd.func11 (by kernel_rfl) rfl args w
end

/-- What the slots of the operations that have come up hold. -/
def upd (vs : Nat → Value) (i : Nat) (v : Value) : Nat → Value := fun k => if k = i then v else vs k
theorem inv_step {F : Nat → Value → World → Prop} {D : Nat → Prop} {vs : Nat → Value} {w w' : World} (hF : ∀ k, D k → F k (vs k) w) {i : Nat} {v : Value} (hm : ∀ k v, F k v w → F k v w') (hn : F i v w') : ∀ k, (k = i ∨ D k) → F k (upd vs i v k) w' := by
  intro k hk
  unfold upd
  by_cases h : k = i
  · rw [if_pos h, h]; exact hn
  · rw [if_neg h]; exact hm k _ (hF k (hk.resolve_left h))
theorem inv_same {F : Nat → Value → World → Prop} {D : Nat → Prop} {vs : Nat → Value} {w : World} (hF : ∀ k, D k → F k (vs k) w) {i : Nat} {v : Value} (hn : F i v w) : ∀ k, (k = i ∨ D k) → F k (upd vs i v k) w := inv_step hF (fun _ _ h => h) hn

end Go.Proofs.YtckhbejgkgpilaaDoor
