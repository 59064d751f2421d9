/- Two rows that a statement allots and fills, in whatever order. -/
import Derived.Test.YtcmpgboifcemmaaDoorOps2
import Derived.Test.YtcmpgboifcemmaaDoorNumMath4
set_option linter.all false
namespace Go.Proofs.YtcmpgboifcemmaaDoor
open Go Go.RowKit Go.Shelf

def Two (W0 : World) (sx sy : Array Value) (pA pS pB pT : Prop) (v7 v8 : Value) (w : World) : Prop :=
  Below W0.heap.size W0 w ∧ Slot pA pS W0.heap.size v7 sx w ∧ Slot pB pT W0.heap.size v8 sy w ∧ (pA → pB → v7 ≠ v8) ∧ (pS → pA) ∧ (pT → pB)
section
variable {W0 : World} {sx sy : Array Value} {pA pS pB pT pA' pS' pB' pT' : Prop} {v7 v8 : Value} {w w' : World}
theorem Two.same (h : Two W0 sx sy pA pS pB pT v7 v8 w) (eA : pA' ↔ pA) (eS : pS' ↔ pS) (eB : pB' ↔ pB) (eT : pT' ↔ pT) (hb : Below w.heap.size w w') : Two W0 sx sy pA' pS' pB' pT' v7 v8 w' := by
  obtain ⟨h1, h2, h3, h4, h5, h6⟩ := h
  exact ⟨h1.trans (hb.mono h1.size), h2.move eA.1 eS.1 (fun g cs _ h => h.below hb h.lt), h3.move eB.1 eT.1 (fun g cs _ h => h.below hb h.lt), fun a b => h4 (eA.1 a) (eB.1 b), fun s => eA.2 (h5 (eS.1 s)), fun s => eB.2 (h6 (eT.1 s))⟩
theorem Two.allocA (h : Two W0 sx sy pA pS pB pT v7 v8 w) (hn : ¬ pA) (hA : pA') (eS : pS' ↔ pS) (eB : pB' ↔ pB) (eT : pT' ↔ pT) : Two W0 sx sy pA' pS' pB' pT' (.pointer (some ⟨w.heap.size, 0, none⟩)) v8 (w.alloc (.cells Tryd.zeroCells52 52)) := by
  obtain ⟨h1, h2, h3, h4, h5, h6⟩ := h
  refine ⟨h1.alloc h1.size _, fun _ => ⟨_, _, rfl, h1.size, by kernel_rfl, RowAt.new _ _ _, fun s => absurd (h5 (eS.1 s)) hn⟩, h3.move eB.1 eT.1 (fun g cs _ h => h.alloc _), fun _ b he => ?_, fun _ => hA, fun s => eB.2 (h6 (eT.1 s))⟩
  obtain ⟨g, cs, e, _, _, hr, _⟩ := h3 (eB.1 b)
  have := hr.lt
  rw [e] at he
  cases he
  omega
theorem Two.allocB (h : Two W0 sx sy pA pS pB pT v7 v8 w) (hn : ¬ pB) (eA : pA' ↔ pA) (eS : pS' ↔ pS) (hB : pB') (eT : pT' ↔ pT) : Two W0 sx sy pA' pS' pB' pT' v7 (.pointer (some ⟨w.heap.size, 0, none⟩)) (w.alloc (.cells Tryd.zeroCells52 52)) := by
  obtain ⟨h1, h2, h3, h4, h5, h6⟩ := h
  refine ⟨h1.alloc h1.size _, h2.move eA.1 eS.1 (fun g cs _ h => h.alloc _), fun _ => ⟨_, _, rfl, h1.size, by kernel_rfl, RowAt.new _ _ _, fun s => absurd (h6 (eT.1 s)) hn⟩, fun a _ he => ?_, fun s => eA.2 (h5 (eS.1 s)), fun _ => hB⟩
  obtain ⟨g, cs, e, _, _, hr, _⟩ := h2 (eA.1 a)
  have := hr.lt
  rw [e] at he
  cases he
  omega
theorem Two.storeA (h : Two W0 sx sy pA pS pB pT v7 v8 w) (hA : pA) (hsx : sx.size = 65) (eA : pA' ↔ pA) (eB : pB' ↔ pB) (eT : pT' ↔ pT) : ∃ g cs, v7 = .pointer (some ⟨g, 0, none⟩) ∧ RowAt w g 52 cs ∧ cs.size = 65 ∧ Two W0 sx sy pA' pS' pB' pT' v7 v8 (w.setRow g sx) := by
  obtain ⟨h1, h2, h3, h4, h5, h6⟩ := h
  obtain ⟨g, cs, e, hg, hs, hr, _⟩ := h2 hA
  refine ⟨g, cs, e, hr, hs, below_setRow2 h1 hg _, fun _ => ⟨g, sx, e, hg, hsx, hr.setRow _, fun _ => rfl⟩, fun b => ?_, fun a b => h4 (eA.1 a) (eB.1 b), fun _ => eA.2 hA, fun s => eB.2 (h6 (eT.1 s))⟩
  have hne := h4 hA (eB.1 b)
  refine h3.move (D6' := True) (D8' := pT') (fun _ => eB.1 b) eT.1 (fun g' cs' e' h => h.setRowOther _ fun he => hne ?_) trivial
  rw [e, e', he]
theorem Two.storeB (h : Two W0 sx sy pA pS pB pT v7 v8 w) (hB : pB) (hsy : sy.size = 65) (eA : pA' ↔ pA) (eS : pS' ↔ pS) (eB : pB' ↔ pB) : ∃ g cs, v8 = .pointer (some ⟨g, 0, none⟩) ∧ RowAt w g 52 cs ∧ cs.size = 65 ∧ Two W0 sx sy pA' pS' pB' pT' v7 v8 (w.setRow g sy) := by
  obtain ⟨h1, h2, h3, h4, h5, h6⟩ := h
  obtain ⟨g, cs, e, hg, hs, hr, _⟩ := h3 hB
  refine ⟨g, cs, e, hr, hs, below_setRow2 h1 hg _, fun a => ?_, fun _ => ⟨g, sy, e, hg, hsy, hr.setRow _, fun _ => rfl⟩, fun a b => h4 (eA.1 a) (eB.1 b), fun s => eA.2 (h5 (eS.1 s)), fun _ => eB.2 hB⟩
  have hne := h4 (eA.1 a) hB
  refine h2.move (D6' := True) (D8' := pS') (fun _ => eA.1 a) eS.1 (fun g' cs' e' h => h.setRowOther _ fun he => hne ?_) trivial
  rw [e, e', he]
theorem And'.iff {D : Nat → Prop} {i j : Nat} (h : j ≠ i) : And' i D j ↔ D j := ⟨And'.ne h, .inr⟩
end

section
variable {o : Oper} {a : Act} {w : World}
theorem run_alloc_row (ho : o.op = .alloc 52) : (execOp a.eval o).run Tryd.prog w = .ok (.value (.pointer (some ⟨w.heap.size, 0, none⟩))) (w.alloc (.cells Tryd.zeroCells52 52)) := by
  unfold execOp
  simp [ho, go_sem]
theorem ent_divide (args : Array Value) (w : World) : (callFunc 27 args).run Tryd.prog w = .ok (.enter 27 args) w := enters_of Tryd.func27 (by kernel_rfl) rfl args w
theorem ent_word (args : Array Value) (w : World) : (callFunc 43 args).run Tryd.prog w = .ok (.enter 43 args) w := enters_of Tryd.func43 (by kernel_rfl) rfl args w
theorem ent_commonWord (args : Array Value) (w : World) : (callFunc 55 args).run Tryd.prog w = .ok (.enter 55 args) w := enters_of Tryd.func55 (by kernel_rfl) rfl args w
theorem ent_split (args : Array Value) (w : World) : (callFunc 44 args).run Tryd.prog w = .ok (.enter 44 args) w := enters_of Tryd.func44 (by kernel_rfl) rfl args w
end
end Go.Proofs.YtcmpgboifcemmaaDoor
