/- What walks share, whatever the program: blocks, worlds that only grow, regions whose order of evaluation is open. -/
import Derived.Test.YtapnoijnegcmfaaProg
import Derived.OrdersIn
import Derived.BigQuiet
import Derived.BigFrame
import Derived.IntWalk
import Derived.Outline
import Derived.Lib.Hide
import Derived.Lib.Walk
import Derived.WalkKit
import Derived.OwnWalk
import Derived.Deep.DeepMust
import Derived.Deep.WholeRow
import Derived.Deep.MidRow
import Derived.Laws.BitsLemmas
import Derived.Laws.Rows
import Derived.Shelf.Abstract
import Derived.Laws.CopyOwn
import Derived.Laws.ResultCell
set_option linter.all false
namespace Go.Proofs.Ytapnoijnegcmfaa
open Go Go.RowKit Go.Shelf

def RowAt (W : World) (g : Nat) (t : TypeId) (cs : Array Value) : Prop := W.heap[g]? = some (.cells cs t (0, 0))
theorem RowAt.lt {W : World} {g : Nat} {t : TypeId} {cs : Array Value} (h : RowAt W g t cs) : g < W.heap.size := (Array.getElem?_eq_some_iff.1 h).1
theorem RowAt.cell {W : World} {g : Nat} {t : TypeId} {cs : Array Value} (h : RowAt W g t cs) (j : Nat) : W.cell? ⟨g, j, none⟩ = cs[j]? := cell_of_row W g j cs t (0, 0) h
theorem RowAt.frozen {W : World} {g : Nat} {t : TypeId} {cs : Array Value} (h : RowAt W g t cs) (j : Nat) : W.frozen? ⟨g, j, none⟩ = false := frozen_of_row W g j cs t h
theorem RowAt.new (W : World) (t : TypeId) (cs : Array Value) : RowAt (W.alloc (.cells cs t)) W.heap.size t cs := heap_alloc_new W _
theorem RowAt.new' {W : World} {g : Nat} (t : TypeId) (cs : Array Value) (hg : g = W.heap.size) : RowAt (W.alloc (.cells cs t)) g t cs := by subst hg; exact RowAt.new W t cs
theorem RowAt.below {B : Nat} {W W' : World} {g : Nat} {t : TypeId} {cs : Array Value} (h : RowAt W g t cs) (hb : Below B W W') (hg : g < B) : RowAt W' g t cs := (hb.block g hg).trans h
theorem RowAt.alloc {W : World} {g : Nat} {t : TypeId} {cs : Array Value} (h : RowAt W g t cs) (o : Obj) : RowAt (W.alloc o) g t cs := h.below ((Below.refl _ W).alloc (Nat.le_refl _) o) h.lt
theorem RowAt.set {W : World} {g : Nat} {t : TypeId} {cs : Array Value} (h : RowAt W g t cs) (i : Nat) (v : Value) : RowAt (W.setCell ⟨g, i, none⟩ v) g t (cs.setIfInBounds i v) := heap_setCell_same W g i cs t v h
theorem RowAt.setOther {W : World} {g : Nat} {t : TypeId} {cs : Array Value} (h : RowAt W g t cs) (a : Addr) (v : Value) (hne : g ≠ a.block) : RowAt (W.setCell a v) g t cs := (heap_setCell_other W a g v hne).trans h
theorem RowAt.setRow {W : World} {g : Nat} {t : TypeId} {cs : Array Value} (h : RowAt W g t cs) (cs' : Array Value) : RowAt (W.setRow g cs') g t cs' := setRow_heap W g cs cs' t _ h
theorem RowAt.setRowOther {W : World} {g k : Nat} {t : TypeId} {cs : Array Value} (h : RowAt W g t cs) (cs' : Array Value) (hne : g ≠ k) : RowAt (W.setRow k cs') g t cs := (setRow_other W k g cs' hne).trans h
theorem RowAt.drew {W : World} {g : Nat} {t : TypeId} {cs : Array Value} (h : RowAt W g t cs) : RowAt W.drew g t cs := h
theorem below_setRow2 {B g : Nat} {w0 w : World} (hb : Below B w0 w) (hBg : B ≤ g) (cs : Array Value) : Below B w0 (w.setRow g cs) :=
  hb.trans ⟨rfl, rfl, rfl, by simp [World.setRow], fun k hk => setRow_other w g k cs (by omega)⟩

/-- Nothing that was there has changed. -/
def Ext (w w' : World) : Prop := Below w.heap.size w w'
theorem Ext.refl (w : World) : Ext w w := Below.refl _ w
theorem Ext.trans {a b c : World} (h : Ext a b) (k : Ext b c) : Ext a c := Below.trans h (Below.mono k (Below.size h))
theorem Ext.alloc (w : World) (o : Obj) : Ext w (w.alloc o) := (Below.refl _ w).alloc (Nat.le_refl _) o
theorem Ext.drew (w : World) : Ext w w.drew := (Below.refl _ w).drew
theorem Ext.drewN (w : World) (k : Nat) : Ext w (w.drewN k) := ⟨rfl, rfl, rfl, Nat.le_refl _, fun _ _ => rfl⟩
theorem Ext.row {w w' : World} {g : Nat} {t : TypeId} {cs : Array Value} (h : Ext w w') (hr : RowAt w g t cs) : RowAt w' g t cs := RowAt.below hr h hr.lt
theorem ext_setRow {w0 w : World} (hb : Ext w0 w) {g : Nat} (hg : w0.heap.size ≤ g) (cs : Array Value) : Ext w0 (w.setRow g cs) := below_setRow2 hb hg cs
def Done (listed : Array Bool) (j : Nat) : Prop := listed.getD j false = true

theorem done_set {listed : Array Bool} {i : Nat} (hi : i < listed.size) : Done (listed.setIfInBounds i true) = fun j => j = i ∨ Done listed j := by
  funext j
  apply propext
  unfold Done
  by_cases h : j = i
  · subst h; simp [hi]
  · have : i ≠ j := fun e => h e.symm
    simp [Array.getElem?_setIfInBounds, this, h]

theorem ready_mem {ops : Array Oper} {listed : Array Bool} {i : Nat} (h : i ∈ Region.ready .any ops listed) : ∃ o, ops[i]? = some o ∧ ¬ Done listed i ∧ listed.getD i true = false ∧ ∀ e ∈ o.after, Region.binds .any e = true → Done listed e.on := by
  unfold Region.ready at h
  rw [List.mem_filter] at h
  obtain ⟨h1, h2⟩ := h
  have hi : i < ops.size := List.mem_range.1 h1
  obtain ⟨o, ho⟩ : ∃ o, ops[i]? = some o := ⟨_, Array.getElem?_eq_getElem hi⟩
  rw [ho] at h2
  simp only [Bool.and_eq_true, Bool.not_eq_true', Option.map_some, Option.getD_some] at h2
  refine ⟨o, ho, ?_, h2.1, fun e he hb => ?_⟩
  · unfold Done
    intro hd
    have h3 := h2.1
    by_cases hl : i < listed.size
    · simp [hl] at h3 hd; rw [h3] at hd; cases hd
    · simp [hl] at h3
  · have := (Array.all_eq_true_iff_forall_mem.1 h2.2) e he
    simpa [hb, Done] using this

def left (listed : Array Bool) : Nat := (listed.toList.filter (· == false)).length
theorem left_set_aux : ∀ (l : List Bool) (i : Nat), l[i]? = some false → ((l.set i true).filter (· == false)).length + 1 = (l.filter (· == false)).length
  | [], i, h => by simp at h
  | b :: l, 0, h => by simp at h; subst h; simp
  | b :: l, i + 1, h => by
    have := left_set_aux l i (by simpa using h)
    cases b <;> simp at this ⊢ <;> omega
theorem left_set {listed : Array Bool} {i : Nat} (h : listed.getD i true = false) : left (listed.setIfInBounds i true) + 1 = left listed := by
  have hi : i < listed.size := by
    apply Classical.byContradiction
    intro hn
    simp [hn] at h
  unfold left
  rw [Array.toList_setIfInBounds]
  refine left_set_aux _ _ ?_
  simp [hi] at h
  simp [hi, h]

theorem wanted_of_none {o : Oper} (h : o.guard = none) (y : Nat → Option Bool) : Region.wanted o y = true := by simp [Region.wanted, h]

/-- Each operation waits for earlier ones alone (where a wait binds at all). -/
def regionOkG (ops : Array Oper) : Bool := (List.range ops.size).all fun i => match ops[i]? with
  | none => true
  | some o => o.after.all fun e => !Region.binds .any e || decide (e.on < i)
theorem regionOkG_spec {ops : Array Oper} (h : regionOkG ops = true) {i : Nat} {o : Oper} (ho : ops[i]? = some o) : ∀ e ∈ o.after, Region.binds .any e = true → e.on < i := by
  have hi : i < ops.size := (Array.getElem?_eq_some_iff.1 ho).1
  have h1 := List.all_eq_true.1 h i (List.mem_range.2 hi)
  rw [ho] at h1
  intro e he hb
  have := (Array.all_eq_true_iff_forall_mem.1 h1) e he
  simpa [hb] using this
theorem ready_nilG {ops : Array Oper} {listed : Array Bool} (hok : regionOkG ops = true) (hs : listed.size = ops.size) (h : Region.ready .any ops listed = []) : ∀ i, i < ops.size → Done listed i := by
  intro i
  induction i using Nat.strongRecOn with
  | _ i ih =>
    intro hi
    obtain ⟨o, ho⟩ : ∃ o, ops[i]? = some o := ⟨_, Array.getElem?_eq_getElem hi⟩
    apply Classical.byContradiction
    intro hn
    have hmem : i ∈ Region.ready .any ops listed := by
      unfold Region.ready
      rw [List.mem_filter]
      refine ⟨List.mem_range.2 hi, ?_⟩
      rw [ho]
      simp only [Option.map_some, Option.getD_some, Bool.and_eq_true, Bool.not_eq_true']
      refine ⟨?_, ?_⟩
      · have hl : i < listed.size := by omega
        unfold Done at hn
        simp [hl] at hn ⊢
        exact hn
      · refine Array.all_eq_true_iff_forall_mem.2 fun e he => ?_
        by_cases hb : Region.binds .any e = true
        · have hlt := regionOkG_spec hok ho e he hb
          have := ih e.on hlt (by omega)
          unfold Done at this
          simpa [hb] using this
        · simp [hb]
    rw [h] at hmem; cases hmem

section
variable {P : Program} {ops : Array Oper} {Q : Exit → Act → World → Prop} (Inv : (Nat → Prop) → Act → World → Prop)
/-- An operation whose guard has said no leaves its slot empty. -/
def StepG (o : Oper) (a : Act) (w : World) (K : Act → World → Prop) : Prop := if Region.wanted o (yielded ops a.tmps) then o.wp P a w K Q else K (a.put o.dst undef) w
theorem wpAny_invG (hok : regionOkG ops = true)
    (hstep : ∀ (i : Nat) (o : Oper) (D : Nat → Prop) (a : Act) (w : World), ops[i]? = some o → ¬ D i → (∀ e ∈ o.after, Region.binds .any e = true → D e.on) → Inv D a w → StepG (P := P) (ops := ops) (Q := Q) o a w (fun a' w' => Inv (fun j => j = i ∨ D j) a' w'))
    (hdone : ∀ (D : Nat → Prop) (a : Act) (w : World), (∀ i, i < ops.size → D i) → Inv D a w → Q .normal a w) :
    ∀ (fuel : Nat) (listed : Array Bool) (a : Act) (w : World), listed.size = ops.size → left listed ≤ fuel → Inv (Done listed) a w → wpAny P .any ops Q fuel listed a w
  | 0, listed, a, w, hs, hl, hi => by
    have hr : Region.ready .any ops listed = [] := by
      apply List.eq_nil_iff_forall_not_mem.2
      intro i hm
      obtain ⟨_, _, _, h3, _⟩ := ready_mem hm
      have := left_set h3
      omega
    exact ⟨hr, hdone _ a w (ready_nilG hok hs hr) hi⟩
  | fuel + 1, listed, a, w, hs, hl, hi => by
    refine ⟨fun hr => hdone _ a w (ready_nilG hok hs hr) hi, fun i hm => ?_⟩
    obtain ⟨o, ho, hn, h3, he⟩ := ready_mem hm
    have hil : i < listed.size := by rw [hs]; exact (Array.getElem?_eq_some_iff.1 ho).1
    have hnext : ∀ a' w', Inv (fun j => j = i ∨ Done listed j) a' w' → wpAny P .any ops Q fuel (listed.setIfInBounds i true) a' w' := fun a' w' h => by
      refine wpAny_invG hok hstep hdone fuel _ a' w' (by simpa using hs) (by have := left_set h3; omega) ?_
      rw [done_set hil]
      exact h
    have hst := hstep i o _ a w ho hn he hi
    unfold wpOp
    rw [ho]
    dsimp only
    unfold StepG at hst
    by_cases hw : Region.wanted o (yielded ops a.tmps) = true
    · rw [if_pos hw] at hst ⊢
      exact .inl (Oper.wp_mono (fun a' w' h => hnext a' w' h) hst)
    · rw [if_neg hw] at hst ⊢
      exact hnext _ _ hst
theorem wp_region_invG {id : Nat} {a : Act} {w : World} (hm : P.follows .mixedOrders = true) (hok : regionOkG ops = true) (h0 : Inv (fun _ => False) a w.drew)
    (hstep : ∀ (i : Nat) (o : Oper) (D : Nat → Prop) (a : Act) (w : World), ops[i]? = some o → ¬ D i → (∀ e ∈ o.after, Region.binds .any e = true → D e.on) → Inv D a w → StepG (P := P) (ops := ops) (Q := Q) o a w (fun a' w' => Inv (fun j => j = i ∨ D j) a' w'))
    (hdone : ∀ (D : Nat → Prop) (a : Act) (w : World), (∀ i, i < ops.size → D i) → Inv D a w → Q .normal a w) : (Code.region id ops true).wp P Q a w := by
  refine wp_region_any hm (wpAny_invG Inv hok hstep hdone _ _ _ _ (by simp) ?_ ?_)
  · exact Nat.le_trans (List.length_filter_le _ _) (by simp)
  · have : Done (Array.replicate ops.size false) = fun _ => False := by
      funext j
      apply propext
      unfold Done
      by_cases h : j < ops.size <;> simp [h]
    rw [this]; exact h0
end
section
variable {P : Program} {ops : Array Oper} {Q : Exit → Act → World → Prop} {o : Oper} {a : Act} {w : World} {K : Act → World → Prop}
theorem step_yes (h : Region.wanted o (yielded ops a.tmps) = true) (hk : o.wp P a w K Q) : StepG (P := P) (ops := ops) (Q := Q) o a w K := by unfold StepG; rw [if_pos h]; exact hk
theorem step_no (h : Region.wanted o (yielded ops a.tmps) = false) (hk : K (a.put o.dst undef) w) : StepG (P := P) (ops := ops) (Q := Q) o a w K := by unfold StepG; rw [if_neg (by rw [h]; simp)]; exact hk
end
/-- From the n-th on, each operation waits for all that stand before it, and has no guard. -/
def tailOk (ops : Array Oper) (n : Nat) : Bool := decide (n ≤ ops.size) && (List.range ops.size).all fun i => decide (i < n) || match ops[i]? with
  | none => true
  | some o => o.guard.isNone && (List.range i).all fun j => o.after.any fun e => Region.binds .any e && decide (e.on = j)
theorem tailOk_le {ops : Array Oper} {n : Nat} (h : tailOk ops n = true) : n ≤ ops.size := by
  unfold tailOk at h
  simp only [Bool.and_eq_true, decide_eq_true_eq] at h
  exact h.1
theorem tailOk_spec {ops : Array Oper} {n i : Nat} {o : Oper} (h : tailOk ops n = true) (ho : ops[i]? = some o) (hn : n ≤ i) : o.guard = none ∧ ∀ j, j < i → ∃ e ∈ o.after, Region.binds .any e = true ∧ e.on = j := by
  unfold tailOk at h
  simp only [Bool.and_eq_true, decide_eq_true_eq] at h
  have hi : i < ops.size := (Array.getElem?_eq_some_iff.1 ho).1
  have h1 := List.all_eq_true.1 h.2 i (List.mem_range.2 hi)
  rw [ho] at h1
  simp only [Bool.or_eq_true, decide_eq_true_eq, Bool.and_eq_true, Option.isNone_iff_eq_none] at h1
  have h2 := h1.resolve_left (by omega)
  refine ⟨h2.1, fun j hj => ?_⟩
  have h3 := List.all_eq_true.1 h2.2 j (List.mem_range.2 hj)
  rw [Array.any_eq_true] at h3
  obtain ⟨k, hk, h4⟩ := h3
  simp only [Bool.and_eq_true, decide_eq_true_eq] at h4
  exact ⟨o.after[k], Array.getElem_mem hk, h4.1, h4.2⟩

section
variable {P : Program} {ops : Array Oper} {Q : Exit → Act → World → Prop} (Inv : (Nat → Prop) → Act → World → Prop)
/-- As StepG; a call that asks to be let out is let out. -/
def StepH (o : Oper) (a : Act) (w : World) (K : Act → World → Prop) : Prop := if Region.wanted o (yielded ops a.tmps) then o.wp P a w K Q ∨ (o.asks P a w ∧ LetsOut Q) else K (a.put o.dst undef) w
theorem wpAny_invH (hok : regionOkG ops = true)
    (hstep : ∀ (i : Nat) (o : Oper) (D : Nat → Prop) (a : Act) (w : World), ops[i]? = some o → ¬ D i → (∀ e ∈ o.after, Region.binds .any e = true → D e.on) → Inv D a w → StepH (P := P) (ops := ops) (Q := Q) o a w (fun a' w' => Inv (fun j => j = i ∨ D j) a' w'))
    (hdone : ∀ (D : Nat → Prop) (a : Act) (w : World), (∀ i, i < ops.size → D i) → Inv D a w → Q .normal a w) :
    ∀ (fuel : Nat) (listed : Array Bool) (a : Act) (w : World), listed.size = ops.size → left listed ≤ fuel → Inv (Done listed) a w → wpAny P .any ops Q fuel listed a w
  | 0, listed, a, w, hs, hl, hi => by
    have hr : Region.ready .any ops listed = [] := by
      apply List.eq_nil_iff_forall_not_mem.2
      intro i hm
      obtain ⟨_, _, _, h3, _⟩ := ready_mem hm
      have := left_set h3
      omega
    exact ⟨hr, hdone _ a w (ready_nilG hok hs hr) hi⟩
  | fuel + 1, listed, a, w, hs, hl, hi => by
    refine ⟨fun hr => hdone _ a w (ready_nilG hok hs hr) hi, fun i hm => ?_⟩
    obtain ⟨o, ho, hn, h3, he⟩ := ready_mem hm
    have hil : i < listed.size := by rw [hs]; exact (Array.getElem?_eq_some_iff.1 ho).1
    have hnext : ∀ a' w', Inv (fun j => j = i ∨ Done listed j) a' w' → wpAny P .any ops Q fuel (listed.setIfInBounds i true) a' w' := fun a' w' h => by
      refine wpAny_invH hok hstep hdone fuel _ a' w' (by simpa using hs) (by have := left_set h3; omega) ?_
      rw [done_set hil]
      exact h
    have hst := hstep i o _ a w ho hn he hi
    unfold wpOp
    rw [ho]
    dsimp only
    unfold StepH at hst
    by_cases hw : Region.wanted o (yielded ops a.tmps) = true
    · rw [if_pos hw] at hst ⊢
      exact hst.imp (Oper.wp_mono (fun a' w' h => hnext a' w' h)) (fun h => h)
    · rw [if_neg hw] at hst ⊢
      exact hnext _ _ hst
theorem wp_region_invH {id : Nat} {a : Act} {w : World} (hm : P.follows .mixedOrders = true) (hok : regionOkG ops = true) (h0 : Inv (fun _ => False) a w.drew)
    (hstep : ∀ (i : Nat) (o : Oper) (D : Nat → Prop) (a : Act) (w : World), ops[i]? = some o → ¬ D i → (∀ e ∈ o.after, Region.binds .any e = true → D e.on) → Inv D a w → StepH (P := P) (ops := ops) (Q := Q) o a w (fun a' w' => Inv (fun j => j = i ∨ D j) a' w'))
    (hdone : ∀ (D : Nat → Prop) (a : Act) (w : World), (∀ i, i < ops.size → D i) → Inv D a w → Q .normal a w) : (Code.region id ops true).wp P Q a w := by
  refine wp_region_any hm (wpAny_invH Inv hok hstep hdone _ _ _ _ (by simp) ?_ ?_)
  · exact Nat.le_trans (List.length_filter_le _ _) (by simp)
  · have : Done (Array.replicate ops.size false) = fun _ => False := by
      funext j
      apply propext
      unfold Done
      by_cases h : j < ops.size <;> simp [h]
    rw [this]; exact h0
end

section
variable {P : Program} {ops : Array Oper} {Q : Exit → Act → World → Prop} (Inv : (Nat → Prop) → Act → World → Prop)
theorem wp_region_tail (n : Nat) {id : Nat} {a : Act} {w : World} (hm : P.follows .mixedOrders = true) (hok : regionOkG ops = true) (ht : tailOk ops n = true) (h0 : Inv (fun _ => False) a w.drew)
    (hstep : ∀ (i : Nat) (o : Oper) (D : Nat → Prop) (a : Act) (w : World), i < n → ops[i]? = some o → ¬ D i → (∀ e ∈ o.after, Region.binds .any e = true → D e.on) → Inv D a w → StepG (P := P) (ops := ops) (Q := Q) o a w (fun a' w' => Inv (fun j => j = i ∨ D j) a' w'))
    (hdone : ∀ (D : Nat → Prop) (a : Act) (w : World), (∀ i, i < n → D i) → Inv D a w → wpList P ops Q (ops.toList.drop n) a w) : (Code.region id ops true).wp P Q a w := by
  have hle := tailOk_le ht
  refine wp_region_invH (fun D a w => ((∀ j, n ≤ j → ¬ D j) ∧ Inv D a w) ∨ ∃ k, n < k ∧ (∀ j, D j ↔ j < k) ∧ wpList P ops Q (ops.toList.drop k) a w) hm hok (.inl ⟨fun _ _ h => h, h0⟩) ?_ ?_
  · intro i o D a w hio hnd he h
    have hi : i < ops.size := (Array.getElem?_eq_some_iff.1 hio).1
    have hl : ops.toList.drop i = o :: ops.toList.drop (i + 1) := by
      rw [List.drop_eq_getElem_cons (by simpa using hi)]
      congr 1
      have := (Array.getElem?_eq_some_iff.1 hio).2
      simpa using this
    have go : ∀ k, i = k → n ≤ k → (∀ j, D j ↔ j < k) → wpList P ops Q (ops.toList.drop k) a w → StepH (P := P) (ops := ops) (Q := Q) o a w (fun a' w' => ((∀ j, n ≤ j → ¬ (j = i ∨ D j)) ∧ Inv (fun j => j = i ∨ D j) a' w') ∨ ∃ k, n < k ∧ (∀ j, (j = i ∨ D j) ↔ j < k) ∧ wpList P ops Q (ops.toList.drop k) a' w') := by
      rintro k rfl hk hD hw
      obtain ⟨hg, -⟩ := tailOk_spec ht hio hk
      rw [hl] at hw
      unfold wpList at hw
      rw [if_pos (wanted_of_none hg _)] at hw
      have hnext : ∀ a' w', wpList P ops Q (ops.toList.drop (i + 1)) a' w' → ((∀ j, n ≤ j → ¬ (j = i ∨ D j)) ∧ Inv (fun j => j = i ∨ D j) a' w') ∨ ∃ k, n < k ∧ (∀ j, (j = i ∨ D j) ↔ j < k) ∧ wpList P ops Q (ops.toList.drop k) a' w' := fun a' w' h => .inr ⟨i + 1, by omega, fun j => by rw [hD j]; omega, h⟩
      unfold StepH
      rw [if_pos (wanted_of_none hg _)]
      exact hw.imp (Oper.wp_mono (fun a' w' h => hnext a' w' h)) (fun h => h)
    rcases h with ⟨hn, hi2⟩ | ⟨k, hk, hD, hw⟩
    · by_cases hin : i < n
      · unfold StepH
        have hs := hstep i o D a w hin hio hnd he hi2
        unfold StepG at hs
        have hnext : ∀ a' w', Inv (fun j => j = i ∨ D j) a' w' → ((∀ j, n ≤ j → ¬ (j = i ∨ D j)) ∧ Inv (fun j => j = i ∨ D j) a' w') ∨ ∃ k, n < k ∧ (∀ j, (j = i ∨ D j) ↔ j < k) ∧ wpList P ops Q (ops.toList.drop k) a' w' := fun a' w' h => .inl ⟨fun j hj h2 => h2.elim (fun e => by omega) (hn j hj), h⟩
        split
        · rename_i hw
          rw [if_pos hw] at hs
          exact .inl (Oper.wp_mono (fun a' w' h => hnext a' w' h) hs)
        · rename_i hw
          rw [if_neg hw] at hs
          exact hnext _ _ hs
      · obtain ⟨hg, hb⟩ := tailOk_spec ht hio (by omega)
        have hall : ∀ j, j < i → D j := fun j hj => by
          obtain ⟨e, hm1, hb1, rfl⟩ := hb j hj
          exact he e hm1 hb1
        obtain rfl : i = n := by
          apply Classical.byContradiction
          intro hne
          exact hn n (Nat.le_refl _) (hall n (by omega))
        exact go i rfl (Nat.le_refl _) (fun j => ⟨fun h => by
          apply Classical.byContradiction
          intro hj
          exact hn j (by omega) h, fun h => hall j h⟩) (hdone D a w hall hi2)
    · have hik : k ≤ i := by
        apply Classical.byContradiction
        intro h
        exact hnd ((hD i).2 (by omega))
      obtain ⟨hg, hb⟩ := tailOk_spec ht hio (by omega)
      have : i = k := by
        apply Classical.byContradiction
        intro hne
        obtain ⟨e, hm1, hb1, hek⟩ := hb k (by omega)
        have := he e hm1 hb1
        rw [hek] at this
        have := (hD k).1 this
        omega
      exact go k this (by omega) hD hw
  · intro D a w hall h
    rcases h with ⟨hn, hi2⟩ | ⟨k, hk, hD, hw⟩
    · have hns : n = ops.size := by
        apply Classical.byContradiction
        intro hne
        exact hn n (Nat.le_refl _) (hall n (by omega))
      have := hdone D a w (fun i hi => hall i (by omega)) hi2
      rw [hns, List.drop_eq_nil_of_le (by simp)] at this
      exact this
    · have hk2 : ops.size ≤ k := by
        apply Classical.byContradiction
        intro h
        have := (hD k).1 (hall k (by omega))
        omega
      rw [List.drop_eq_nil_of_le (by simpa using hk2)] at hw
      exact hw
end
/-- A guard that holds what is wanted, and one that does not. -/
theorem wanted_g {ops : Array Oper} {o : Oper} {a : Act} {j d : Nat} {b : Bool} {v : Value} (hg : o.guard = some (j, b)) (hd : (ops[j]?).bind (·.dst) = some d) (hv : a.tmps[d]? = some v) (h : v = .bool b) : Region.wanted o (yielded ops a.tmps) = true := by
  subst h
  unfold Region.wanted
  rw [hg]
  simp only [yielded, hd, Option.bind_some, hv]
  simp
theorem wanted_n {ops : Array Oper} {o : Oper} {a : Act} {j d : Nat} {b c : Bool} {v : Value} (hg : o.guard = some (j, b)) (hd : (ops[j]?).bind (·.dst) = some d) (hv : a.tmps[d]? = some v) (h : v = .bool c) (hc : c ≠ b) : Region.wanted o (yielded ops a.tmps) = false := by
  subst h
  unfold Region.wanted
  rw [hg]
  simp only [yielded, hd, Option.bind_some, hv]
  simpa using hc

/-- What the slots of the operations that have come up hold. -/
def upd (vs : Nat → Value) (i : Nat) (v : Value) : Nat → Value := fun k => if k = i then v else vs k
theorem inv_step {F : Nat → Value → World → Prop} {D : Nat → Prop} {vs : Nat → Value} {w w' : World} (hF : ∀ k, D k → F k (vs k) w) {i : Nat} {v : Value} (hm : ∀ k v, F k v w → F k v w') (hn : F i v w') : ∀ k, (k = i ∨ D k) → F k (upd vs i v k) w' := by
  intro k hk
  unfold upd
  by_cases h : k = i
  · rw [if_pos h, h]; exact hn
  · rw [if_neg h]; exact hm k _ (hF k (hk.resolve_left h))
theorem inv_same {F : Nat → Value → Prop} {D : Nat → Prop} {vs : Nat → Value} (hF : ∀ k, D k → F k (vs k)) {i : Nat} {v : Value} (hn : F i v) : ∀ k, (k = i ∨ D k) → F k (upd vs i v k) := by
  intro k hk
  unfold upd
  by_cases h : k = i
  · rw [if_pos h, h]; exact hn
  · rw [if_neg h]; exact hF k (hk.resolve_left h)

section
variable {o : Oper} {a : Act} {w : World}
theorem wp_of_run {K : Act → World → Prop} {Q : Exit → Act → World → Prop} {v : Value} {w' : World} (h : (execOp a.eval o).run Try.prog w = .ok (.value v) w') (hk : K (a.put o.dst v) w') : o.wp Try.prog a w K Q := by
  unfold Oper.wp; rw [h]; exact hk
theorem wp_of_skip {K : Act → World → Prop} {Q : Exit → Act → World → Prop} {w' : World} (h : (execOp a.eval o).run Try.prog w = .ok .skip w') (hk : K (a.put o.dst undef) w') : o.wp Try.prog a w K Q := by
  unfold Oper.wp; rw [h]; exact hk
theorem wp_of_callE {K : Act → World → Prop} {Q : Exit → Act → World → Prop} {f : FuncId} {args : Array Value} (h : (execOp a.eval o).run Try.prog w = .ok (.enter f args) w) {R : Ending → World → Prop}
    (hc : Calls Try.prog f args w R) (hk : ∀ e w', R e w' → ∃ v, e = .returned v ∧ K (a.put o.dst v) w') : o.wp Try.prog a w K Q := by
  unfold Oper.wp; rw [h]
  refine hc.mono ?_
  intro e w' hr
  obtain ⟨v, rfl, hk⟩ := hk e w' hr
  exact hk
theorem run_mov (x : Operand) (ho : o.op = .move x) (v : Value) (hx : a.eval x = v) : (execOp a.eval o).run Try.prog w = .ok (.value v) w := by
  subst hx; unfold execOp; rw [ho]; rfl
theorem run_asg (x : Operand) (ho : o.op = .assign x) (v : Value) (hx : a.eval x = v) : (execOp a.eval o).run Try.prog w = .ok (.value v) w := by
  subst hx; unfold execOp; rw [ho]; rfl
theorem run_pick_t (x y z : Operand) (ho : o.op = .pick x y z) (hx : a.eval x = .bool true) (v : Value) (hy : a.eval y = v) : (execOp a.eval o).run Try.prog w = .ok (.value v) w := by
  subst hy; unfold execOp; simp only [ho, hx]; simp [go_sem]
theorem run_pick_f (x y z : Operand) (ho : o.op = .pick x y z) (hx : a.eval x = .bool false) (v : Value) (hz : a.eval z = v) : (execOp a.eval o).run Try.prog w = .ok (.value v) w := by
  subst hz; unfold execOp; simp only [ho, hx]; simp [go_sem]
theorem run_enter0 (f : FuncId) (ts : Array TypeId) (ho : o.op = .call { callee := .value (.func f), args := #[], argTypes := ts }) (hf : ∀ args w, (callFunc f args).run Try.prog w = .ok (.enter f args) w) :
    (execOp a.eval o).run Try.prog w = .ok (.enter f #[]) w := by
  have ef : a.eval (.func f) = .func (.func f) #[] #[] := rfl
  unfold execOp
  simp only [ho, resolve, Deferred.ofValue, invoke, ef]
  simp [hf]
theorem run_enter1 (f : FuncId) (x : Operand) (ts : Array TypeId) (ho : o.op = .call { callee := .value (.func f), args := #[x], argTypes := ts }) (u1 : Value) (h1 : a.eval x = u1) (hf : ∀ args w, (callFunc f args).run Try.prog w = .ok (.enter f args) w) :
    (execOp a.eval o).run Try.prog w = .ok (.enter f #[u1]) w := by
  have ef : a.eval (.func f) = .func (.func f) #[] #[] := rfl
  have hm : Array.map a.eval #[x] = #[u1] := by rw [← h1]; simp
  unfold execOp
  simp only [ho, resolve, Deferred.ofValue, invoke, ef, hm]
  simp [hf]
theorem run_enter2 (f : FuncId) (x y : Operand) (ts : Array TypeId) (ho : o.op = .call { callee := .value (.func f), args := #[x, y], argTypes := ts }) (u1 u2 : Value) (h1 : a.eval x = u1) (h2 : a.eval y = u2) (hf : ∀ args w, (callFunc f args).run Try.prog w = .ok (.enter f args) w) :
    (execOp a.eval o).run Try.prog w = .ok (.enter f #[u1, u2]) w := by
  have ef : a.eval (.func f) = .func (.func f) #[] #[] := rfl
  have hm : Array.map a.eval #[x, y] = #[u1, u2] := by rw [← h1, ← h2]; simp
  unfold execOp
  simp only [ho, resolve, Deferred.ofValue, invoke, ef, hm]
  simp [hf]
theorem run_enter3 (f : FuncId) (x y z : Operand) (ts : Array TypeId) (ho : o.op = .call { callee := .value (.func f), args := #[x, y, z], argTypes := ts }) (u1 u2 u3 : Value) (h1 : a.eval x = u1) (h2 : a.eval y = u2) (h3 : a.eval z = u3) (hf : ∀ args w, (callFunc f args).run Try.prog w = .ok (.enter f args) w) :
    (execOp a.eval o).run Try.prog w = .ok (.enter f #[u1, u2, u3]) w := by
  have ef : a.eval (.func f) = .func (.func f) #[] #[] := rfl
  have hm : Array.map a.eval #[x, y, z] = #[u1, u2, u3] := by rw [← h1, ← h2, ← h3]; simp
  unfold execOp
  simp only [ho, resolve, Deferred.ofValue, invoke, ef, hm]
  simp [hf]
theorem run_ldi (x : Operand) (ho : o.op = .load 3 x) (g j : Nat) (hx : a.eval x = .pointer (some ⟨g, j, none⟩)) (v : Int) (hc : w.cell? ⟨g, j, none⟩ = some (.int .i64 v)) : (execOp a.eval o).run Try.prog w = .ok (.value (.int .i64 v)) w := by
  unfold execOp
  simp only [ho, hx, Instr.loadAt, Instr.sureAddr, Sem.run_bind, Sem.run_pure, Result.andThen_ok]
  simp [hc, go_sem]
theorem run_ldb (x : Operand) (ho : o.op = .load 4 x) (g j : Nat) (hx : a.eval x = .pointer (some ⟨g, j, none⟩)) (v : Bool) (hc : w.cell? ⟨g, j, none⟩ = some (.bool v)) : (execOp a.eval o).run Try.prog w = .ok (.value (.bool v)) w := by
  unfold execOp
  simp only [ho, hx, Instr.loadAt, Instr.sureAddr, Sem.run_bind, Sem.run_pure, Result.andThen_ok]
  simp [hc, go_sem]
theorem run_addi (x y : Operand) (ho : o.op = .binOp .add 3 x y 3) (ht : o.type = 3) (u v : Int) (hx : a.eval x = .int .i64 u) (hy : a.eval y = .int .i64 v) : (execOp a.eval o).run Try.prog w = .ok (.value (.int .i64 (wrap64 (u + v)))) w := by
  unfold execOp
  simp only [ho, hx, hy, ht]
  simp [go_sem, IntKind.wrap_i64, wrap64]
theorem run_subi (x y : Operand) (ho : o.op = .binOp .sub 3 x y 3) (ht : o.type = 3) (u v : Int) (hx : a.eval x = .int .i64 u) (hy : a.eval y = .int .i64 v) : (execOp a.eval o).run Try.prog w = .ok (.value (.int .i64 (wrap64 (u - v)))) w := by
  unfold execOp
  simp only [ho, hx, hy, ht]
  simp [go_sem, IntKind.wrap_i64, wrap64]
theorem run_muli (x y : Operand) (ho : o.op = .binOp .mul 3 x y 3) (ht : o.type = 3) (u v : Int) (hx : a.eval x = .int .i64 u) (hy : a.eval y = .int .i64 v) : (execOp a.eval o).run Try.prog w = .ok (.value (.int .i64 (wrap64 (u * v)))) w := by
  unfold execOp
  simp only [ho, hx, hy, ht]
  simp [go_sem, IntKind.wrap_i64, wrap64]
theorem run_eqi (x y : Operand) (ho : o.op = .binOp .eql 3 x y 3) (u v : Int) (hx : a.eval x = .int .i64 u) (hy : a.eval y = .int .i64 v) (b : Bool) (hb : decide (u = v) = b) : (execOp a.eval o).run Try.prog w = .ok (.value (.bool b)) w := by
  subst hb
  unfold execOp
  simp only [ho, hx, hy]
  simp [go_sem]
  rfl
theorem run_eqb (x y : Operand) (ho : o.op = .binOp .eql 4 x y 4) (u v : Bool) (hx : a.eval x = .bool u) (hy : a.eval y = .bool v) (b : Bool) (hb : (u == v) = b) : (execOp a.eval o).run Try.prog w = .ok (.value (.bool b)) w := by
  subst hb
  unfold execOp
  simp only [ho, hx, hy]
  simp [go_sem]
end

end Go.Proofs.Ytapnoijnegcmfaa
