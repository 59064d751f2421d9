/- Regions that make blocks and fill them, in an order that is open. -/
import Derived.Test.YtapnoijnegcmfaaMath
set_option linter.all false
namespace Go.Proofs.Ytapnoijnegcmfaa
open Go Go.RowKit Go.Shelf

/-- Pairs of operations: one that makes a block, and one that fills it. -/
def okL (L : List (Nat × Nat)) : Bool := L.all fun x => L.all fun y => (decide (x.1 = y.1) == decide (x.2 = y.2)) && decide (x.1 ≠ y.2)
theorem okL_spec {L : List (Nat × Nat)} (h : okL L = true) {x y : Nat × Nat} (hx : x ∈ L) (hy : y ∈ L) : (x.1 = y.1 ↔ x.2 = y.2) ∧ x.1 ≠ y.2 := by
  have h1 := List.all_eq_true.1 (List.all_eq_true.1 h x hx) y hy
  simp only [Bool.and_eq_true, decide_eq_true_eq, beq_iff_eq] at h1
  exact ⟨by have := h1.1; rw [decide_eq_decide] at this; exact this, h1.2⟩
/-- What lies in the blocks that the region's operations have made. -/
def Ows (b : Nat) (L : List (Nat × Nat)) (t : Nat → TypeId) (z c : Nat → Array Value) (D : Nat → Prop) (vs : Nat → Value) (w : World) : Prop :=
  (∀ x ∈ L, D x.1 → ∃ g, vs x.1 = .pointer (some ⟨g, 0, none⟩) ∧ b ≤ g ∧ (D x.2 → RowAt w g (t x.1) (c x.1)) ∧ (¬ D x.2 → RowAt w g (t x.1) (z x.1))) ∧ (∀ x ∈ L, D x.2 → D x.1) ∧ ∀ x ∈ L, ∀ y ∈ L, x.1 ≠ y.1 → D x.1 → D y.1 → vs x.1 ≠ vs y.1
section
variable {b : Nat} {L : List (Nat × Nat)} {t : Nat → TypeId} {z c : Nat → Array Value} {D : Nat → Prop} {vs : Nat → Value} {w w' : World}
theorem ows_none : Ows b L t z c (fun _ => False) vs w := ⟨fun _ _ h => h.elim, fun _ _ h => h.elim, fun _ _ _ _ _ h => h.elim⟩
theorem Ows.lt (h : Ows b L t z c D vs w) {x : Nat × Nat} (hx : x ∈ L) (hd : D x.1) : ∃ g, vs x.1 = .pointer (some ⟨g, 0, none⟩) ∧ b ≤ g ∧ g < w.heap.size := by
  obtain ⟨g, e, l, r1, r2⟩ := h.1 x hx hd
  refine ⟨g, e, l, ?_⟩
  by_cases hs : D x.2
  · exact (r1 hs).lt
  · exact (r2 hs).lt
def freeL (L : List (Nat × Nat)) (i : Nat) : Bool := L.all fun x => decide (x.1 ≠ i) && decide (x.2 ≠ i)
theorem freeL_spec {i : Nat} (h : freeL L i = true) {x : Nat × Nat} (hx : x ∈ L) : x.1 ≠ i ∧ x.2 ≠ i := by
  have := List.all_eq_true.1 h x hx
  simpa using this
theorem ows_pure {i : Nat} {v : Value} (h : Ows b L t z c D vs w) (hx : Ext w w') (hi : freeL L i = true) : Ows b L t z c (fun j => j = i ∨ D j) (upd vs i v) w' := by
  refine ⟨fun x hm hd => ?_, fun x hm hd => .inr (h.2.1 x hm (hd.resolve_left (freeL_spec hi hm).2)), fun x hm y hm2 hne hd hd2 => ?_⟩
  · have hf := freeL_spec hi hm
    obtain ⟨g, e, l, r1, r2⟩ := h.1 x hm (hd.resolve_left hf.1)
    refine ⟨g, by unfold upd; rw [if_neg hf.1]; exact e, l, fun hs => hx.row (r1 (hs.resolve_left hf.2)), fun hs => hx.row (r2 fun q => hs (.inr q))⟩
  · have hf := freeL_spec hi hm
    have hf2 := freeL_spec hi hm2
    unfold upd
    rw [if_neg hf.1, if_neg hf2.1]
    exact h.2.2 x hm y hm2 hne (hd.resolve_left hf.1) (hd2.resolve_left hf2.1)
theorem ows_alloc (hL : okL L = true) {a s : Nat} (hm : (a, s) ∈ L) (h : Ows b L t z c D vs w) (hb : b ≤ w.heap.size) (hn : ¬ D a) : Ows b L t z c (fun j => j = a ∨ D j) (upd vs a (.pointer (some ⟨w.heap.size, 0, none⟩))) (w.alloc (.cells (z a) (t a))) := by
  have hx : Ext w (w.alloc (.cells (z a) (t a))) := Ext.alloc _ _
  have hns : ¬ D s := fun e => hn (h.2.1 _ hm e)
  refine ⟨fun x hxm hd => ?_, fun x hxm hd => ?_, fun x hxm y hym hne hd hd2 => ?_⟩
  · by_cases e : x.1 = a
    · have e2 : x.2 = s := ((okL_spec hL hxm hm).1).1 e
      refine ⟨w.heap.size, by unfold upd; rw [if_pos e], hb, fun q => ?_, fun _ => by rw [e]; exact RowAt.new _ _ _⟩
      rcases q with q | q
      · exact absurd q.symm (okL_spec hL hm hxm).2
      · rw [e2] at q; exact absurd q hns
    · obtain ⟨g, e1, l, r1, r2⟩ := h.1 x hxm (hd.resolve_left e)
      refine ⟨g, by unfold upd; rw [if_neg e]; exact e1, l, fun q => ?_, fun q => hx.row (r2 fun k => q (.inr k))⟩
      rcases q with q | q
      · exact absurd q.symm (okL_spec hL hm hxm).2
      · exact hx.row (r1 q)
  · rcases hd with q | q
    · exact absurd q.symm (okL_spec hL hm hxm).2
    · exact .inr (h.2.1 x hxm q)
  · unfold upd
    by_cases e : x.1 = a
    · have e2 : y.1 ≠ a := fun q => hne (e.trans q.symm)
      rw [if_pos e, if_neg e2]
      obtain ⟨g, e1, _, l⟩ := h.lt hym (hd2.resolve_left e2)
      rw [e1]
      intro q
      have : w.heap.size = g := by simpa using q
      omega
    · rw [if_neg e]
      by_cases e2 : y.1 = a
      · rw [if_pos e2]
        obtain ⟨g, e1, _, l⟩ := h.lt hxm (hd.resolve_left e)
        rw [e1]
        intro q
        have : g = w.heap.size := by simpa using q
        omega
      · rw [if_neg e2]
        exact h.2.2 x hxm y hym hne (hd.resolve_left e) (hd2.resolve_left e2)
theorem ows_store (hL : okL L = true) {a s : Nat} (hm : (a, s) ∈ L) (h : Ows b L t z c D vs w) (ha : D a) (hn : ¬ D s) : ∃ g, vs a = .pointer (some ⟨g, 0, none⟩) ∧ b ≤ g ∧ RowAt w g (t a) (z a) ∧ Ows b L t z c (fun j => j = s ∨ D j) vs (w.setRow g (c a)) := by
  obtain ⟨g, e1, l, _, r2⟩ := h.1 _ hm ha
  have hr := r2 hn
  refine ⟨g, e1, l, hr, fun x hxm hd => ?_, fun x hxm hd => ?_, fun x hxm y hym hne hd hd2 => ?_⟩
  · have hd' : D x.1 := hd.resolve_left fun q => (okL_spec hL hxm hm).2 q
    by_cases e : x.1 = a
    · have e2 : x.2 = s := ((okL_spec hL hxm hm).1).1 e
      refine ⟨g, by rw [e]; exact e1, l, fun _ => by rw [e]; exact hr.setRow _, fun q => absurd (.inl e2) q⟩
    · obtain ⟨k, e3, l3, r3, r4⟩ := h.1 x hxm hd'
      have hne : k ≠ g := by
        have := h.2.2 x hxm _ hm e hd' ha
        rw [e3] at this
        intro q; subst q
        exact this e1.symm
      have e4 : x.2 ≠ s := fun q => e (((okL_spec hL hxm hm).1).2 q)
      exact ⟨k, e3, l3, fun q => (r3 (q.resolve_left e4)).setRowOther _ hne, fun q => (r4 fun k => q (.inr k)).setRowOther _ hne⟩
  · by_cases e : x.2 = s
    · have : x.1 = a := ((okL_spec hL hxm hm).1).2 e
      exact .inr (by rw [this]; exact ha)
    · exact .inr (h.2.1 x hxm (hd.resolve_left e))
  · exact h.2.2 x hxm y hym hne (hd.resolve_left fun q => (okL_spec hL hxm hm).2 q) (hd2.resolve_left fun q => (okL_spec hL hym hm).2 q)
theorem ows_get (h : Ows b L t z c D vs w) {a s : Nat} (hm : (a, s) ∈ L) (ha : D a) (hs : D s) : ∃ g, vs a = .pointer (some ⟨g, 0, none⟩) ∧ b ≤ g ∧ RowAt w g (t a) (c a) := by
  obtain ⟨g, e1, l, r1, _⟩ := h.1 _ hm ha
  exact ⟨g, e1, l, r1 hs⟩
theorem ows_get0 (h : Ows b L t z c D vs w) {a s : Nat} (hm : (a, s) ∈ L) (ha : D a) (hs : ¬ D s) : ∃ g, vs a = .pointer (some ⟨g, 0, none⟩) ∧ b ≤ g ∧ RowAt w g (t a) (z a) := by
  obtain ⟨g, e1, l, _, r1⟩ := h.1 _ hm ha
  exact ⟨g, e1, l, r1 hs⟩
theorem ows_ne (h : Ows b L t z c D vs w) {a s a' s' g g' : Nat} (hm : (a, s) ∈ L) (hm2 : (a', s') ∈ L) (hne : a ≠ a') (ha : D a) (ha' : D a') (e : vs a = .pointer (some ⟨g, 0, none⟩)) (e' : vs a' = .pointer (some ⟨g', 0, none⟩)) : g ≠ g' := by
  have := h.2.2 _ hm _ hm2 hne ha ha'
  intro q; subst q
  exact this (e.trans e'.symm)
end
theorem inv_skip {F : Nat → Value → Prop} {D : Nat → Prop} {vs : Nat → Value} (hF : ∀ k, D k → F k (vs k)) {i : Nat} (hn : F i (vs i)) : ∀ k, (k = i ∨ D k) → F k (vs k) := fun k hk => hk.elim (fun e => e ▸ hn) (hF k)
end Go.Proofs.Ytapnoijnegcmfaa
