
/- A region that draws its order, but whose last operations wait for all others: an invariant for the first ones, and then the rest in order. -/
import Derived.Test.YtdaipflgcgefgaaGreatDoorRegN
import Derived.Test.YtdaipflgcgefgaaGreatDoorRegion2
set_option linter.all false
namespace Go.Proofs.YtdaipflgcgefgaaGreatDoor
open Go Go.RowKit Go.Shelf

/-- From the n-th on, each operation waits for all that stand before it, and has no guard. -/
def tailOk (ops : Array Oper) (n : Nat) : Bool := decide (n ≤ ops.size) && (List.range ops.size).all fun i => decide (i < n) || match ops[i]? with
  | none => true
  | some o => o.guard.isNone && (List.range i).all fun j => o.after.any fun e => Region.binds .any e && decide (e.on = j)
theorem tailOk_le {ops : Array Oper} {n : Nat} (h : tailOk ops n = true) : n ≤ ops.size := by
  unfold tailOk at h
  simp only [Bool.and_eq_true, decide_eq_true_eq] at h
  exact h.1
theorem tailOk_spec {ops : Array Oper} {n i : Nat} {o : Oper} (h : tailOk ops n = true) (ho : ops[i]? = some o) (hn : n ≤ i) : o.guard = none ∧ ∀ j, j < i → ∃ e ∈ o.after, Region.binds .any e = true ∧ e.on = j := by
  unfold tailOk at h
  simp only [Bool.and_eq_true, decide_eq_true_eq] at h
  have hi : i < ops.size := (Array.getElem?_eq_some_iff.1 ho).1
  have h1 := List.all_eq_true.1 h.2 i (List.mem_range.2 hi)
  rw [ho] at h1
  simp only [Bool.or_eq_true, decide_eq_true_eq, Bool.and_eq_true, Option.isNone_iff_eq_none] at h1
  have h2 := h1.resolve_left (by omega)
  refine ⟨h2.1, fun j hj => ?_⟩
  have h3 := List.all_eq_true.1 h2.2 j (List.mem_range.2 hj)
  rw [Array.any_eq_true] at h3
  obtain ⟨k, hk, h4⟩ := h3
  simp only [Bool.and_eq_true, decide_eq_true_eq] at h4
  exact ⟨o.after[k], Array.getElem_mem hk, h4.1, h4.2⟩

section
variable {P : Program} {ops : Array Oper} {Q : Exit → Act → World → Prop} (Inv : (Nat → Prop) → Act → World → Prop)
/-- As StepG; a call that asks to be let out is let out. -/
def StepH (o : Oper) (a : Act) (w : World) (K : Act → World → Prop) : Prop := if Region.wanted o (yielded ops a.tmps) then o.wp P a w K Q ∨ (o.asks P a w ∧ LetsOut Q) else K (a.put o.dst undef) w
theorem wpAny_invH (hok : regionOkG ops = true)
    (hstep : ∀ (i : Nat) (o : Oper) (D : Nat → Prop) (a : Act) (w : World), ops[i]? = some o → ¬ D i → (∀ e ∈ o.after, Region.binds .any e = true → D e.on) → Inv D a w → StepH (P := P) (ops := ops) (Q := Q) o a w (fun a' w' => Inv (fun j => j = i ∨ D j) a' w'))
    (hdone : ∀ (D : Nat → Prop) (a : Act) (w : World), (∀ i, i < ops.size → D i) → Inv D a w → Q .normal a w) :
    ∀ (fuel : Nat) (listed : Array Bool) (a : Act) (w : World), listed.size = ops.size → left listed ≤ fuel → Inv (Done listed) a w → wpAny P .any ops Q fuel listed a w
  | 0, listed, a, w, hs, hl, hi => by
    have hr : Region.ready .any ops listed = [] := by
      apply List.eq_nil_iff_forall_not_mem.2
      intro i hm
      obtain ⟨_, _, _, h3, _⟩ := ready_mem hm
      have := left_set h3
      omega
    exact ⟨hr, hdone _ a w (ready_nilG hok hs hr) hi⟩
  | fuel + 1, listed, a, w, hs, hl, hi => by
    refine ⟨fun hr => hdone _ a w (ready_nilG hok hs hr) hi, fun i hm => ?_⟩
    obtain ⟨o, ho, hn, h3, he⟩ := ready_mem hm
    have hil : i < listed.size := by rw [hs]; exact (Array.getElem?_eq_some_iff.1 ho).1
    have hnext : ∀ a' w', Inv (fun j => j = i ∨ Done listed j) a' w' → wpAny P .any ops Q fuel (listed.setIfInBounds i true) a' w' := fun a' w' h => by
      refine wpAny_invH hok hstep hdone fuel _ a' w' (by simpa using hs) (by have := left_set h3; omega) ?_
      rw [done_set hil]
      exact h
    have hst := hstep i o _ a w ho hn he hi
    unfold wpOp
    rw [ho]
    dsimp only
    unfold StepH at hst
    by_cases hw : Region.wanted o (yielded ops a.tmps) = true
    · rw [if_pos hw] at hst ⊢
      exact hst.imp (Oper.wp_mono (fun a' w' h => hnext a' w' h)) (fun h => h)
    · rw [if_neg hw] at hst ⊢
      exact hnext _ _ hst
theorem wp_region_invH {id : Nat} {a : Act} {w : World} (hm : P.follows .mixedOrders = true) (hok : regionOkG ops = true) (h0 : Inv (fun _ => False) a w.drew)
    (hstep : ∀ (i : Nat) (o : Oper) (D : Nat → Prop) (a : Act) (w : World), ops[i]? = some o → ¬ D i → (∀ e ∈ o.after, Region.binds .any e = true → D e.on) → Inv D a w → StepH (P := P) (ops := ops) (Q := Q) o a w (fun a' w' => Inv (fun j => j = i ∨ D j) a' w'))
    (hdone : ∀ (D : Nat → Prop) (a : Act) (w : World), (∀ i, i < ops.size → D i) → Inv D a w → Q .normal a w) : (Code.region id ops true).wp P Q a w := by
  refine wp_region_any hm (wpAny_invH Inv hok hstep hdone _ _ _ _ (by simp) ?_ ?_)
  · exact Nat.le_trans (List.length_filter_le _ _) (by simp)
  · have : Done (Array.replicate ops.size false) = fun _ => False := by
      funext j
      apply propext
      unfold Done
      by_cases h : j < ops.size <;> simp [h]
    rw [this]; exact h0
end

section
variable {P : Program} {ops : Array Oper} {Q : Exit → Act → World → Prop} (Inv : (Nat → Prop) → Act → World → Prop)
theorem wp_region_tail (n : Nat) {id : Nat} {a : Act} {w : World} (hm : P.follows .mixedOrders = true) (hok : regionOkG ops = true) (ht : tailOk ops n = true) (h0 : Inv (fun _ => False) a w.drew)
    (hstep : ∀ (i : Nat) (o : Oper) (D : Nat → Prop) (a : Act) (w : World), i < n → ops[i]? = some o → ¬ D i → (∀ e ∈ o.after, Region.binds .any e = true → D e.on) → Inv D a w → StepG (P := P) (ops := ops) (Q := Q) o a w (fun a' w' => Inv (fun j => j = i ∨ D j) a' w'))
    (hdone : ∀ (D : Nat → Prop) (a : Act) (w : World), (∀ i, i < n → D i) → Inv D a w → wpList P ops Q (ops.toList.drop n) a w) : (Code.region id ops true).wp P Q a w := by
  have hle := tailOk_le ht
  refine wp_region_invH (fun D a w => ((∀ j, n ≤ j → ¬ D j) ∧ Inv D a w) ∨ ∃ k, n < k ∧ (∀ j, D j ↔ j < k) ∧ wpList P ops Q (ops.toList.drop k) a w) hm hok (.inl ⟨fun _ _ h => h, h0⟩) ?_ ?_
  · intro i o D a w hio hnd he h
    have hi : i < ops.size := (Array.getElem?_eq_some_iff.1 hio).1
    have hl : ops.toList.drop i = o :: ops.toList.drop (i + 1) := by
      rw [List.drop_eq_getElem_cons (by simpa using hi)]
      congr 1
      have := (Array.getElem?_eq_some_iff.1 hio).2
      simpa using this
    have go : ∀ k, i = k → n ≤ k → (∀ j, D j ↔ j < k) → wpList P ops Q (ops.toList.drop k) a w → StepH (P := P) (ops := ops) (Q := Q) o a w (fun a' w' => ((∀ j, n ≤ j → ¬ (j = i ∨ D j)) ∧ Inv (fun j => j = i ∨ D j) a' w') ∨ ∃ k, n < k ∧ (∀ j, (j = i ∨ D j) ↔ j < k) ∧ wpList P ops Q (ops.toList.drop k) a' w') := by
      rintro k rfl hk hD hw
      obtain ⟨hg, -⟩ := tailOk_spec ht hio hk
      rw [hl] at hw
      unfold wpList at hw
      rw [if_pos (wanted_of_none hg _)] at hw
      have hnext : ∀ a' w', wpList P ops Q (ops.toList.drop (i + 1)) a' w' → ((∀ j, n ≤ j → ¬ (j = i ∨ D j)) ∧ Inv (fun j => j = i ∨ D j) a' w') ∨ ∃ k, n < k ∧ (∀ j, (j = i ∨ D j) ↔ j < k) ∧ wpList P ops Q (ops.toList.drop k) a' w' := fun a' w' h => .inr ⟨i + 1, by omega, fun j => by rw [hD j]; omega, h⟩
      unfold StepH
      rw [if_pos (wanted_of_none hg _)]
      exact hw.imp (Oper.wp_mono (fun a' w' h => hnext a' w' h)) (fun h => h)
    rcases h with ⟨hn, hi2⟩ | ⟨k, hk, hD, hw⟩
    · by_cases hin : i < n
      · unfold StepH
        have hs := hstep i o D a w hin hio hnd he hi2
        unfold StepG at hs
        have hnext : ∀ a' w', Inv (fun j => j = i ∨ D j) a' w' → ((∀ j, n ≤ j → ¬ (j = i ∨ D j)) ∧ Inv (fun j => j = i ∨ D j) a' w') ∨ ∃ k, n < k ∧ (∀ j, (j = i ∨ D j) ↔ j < k) ∧ wpList P ops Q (ops.toList.drop k) a' w' := fun a' w' h => .inl ⟨fun j hj h2 => h2.elim (fun e => by omega) (hn j hj), h⟩
        split
        · rename_i hw
          rw [if_pos hw] at hs
          exact .inl (Oper.wp_mono (fun a' w' h => hnext a' w' h) hs)
        · rename_i hw
          rw [if_neg hw] at hs
          exact hnext _ _ hs
      · obtain ⟨hg, hb⟩ := tailOk_spec ht hio (by omega)
        have hall : ∀ j, j < i → D j := fun j hj => by
          obtain ⟨e, hm1, hb1, rfl⟩ := hb j hj
          exact he e hm1 hb1
        obtain rfl : i = n := by
          apply Classical.byContradiction
          intro hne
          exact hn n (Nat.le_refl _) (hall n (by omega))
        exact go i rfl (Nat.le_refl _) (fun j => ⟨fun h => by
          apply Classical.byContradiction
          intro hj
          exact hn j (by omega) h, fun h => hall j h⟩) (hdone D a w hall hi2)
    · have hik : k ≤ i := by
        apply Classical.byContradiction
        intro h
        exact hnd ((hD i).2 (by omega))
      obtain ⟨hg, hb⟩ := tailOk_spec ht hio (by omega)
      have : i = k := by
        apply Classical.byContradiction
        intro hne
        obtain ⟨e, hm1, hb1, hek⟩ := hb k (by omega)
        have := he e hm1 hb1
        rw [hek] at this
        have := (hD k).1 this
        omega
      exact go k this (by omega) hD hw
  · intro D a w hall h
    rcases h with ⟨hn, hi2⟩ | ⟨k, hk, hD, hw⟩
    · have hns : n = ops.size := by
        apply Classical.byContradiction
        intro hne
        exact hn n (Nat.le_refl _) (hall n (by omega))
      have := hdone D a w (fun i hi => hall i (by omega)) hi2
      rw [hns, List.drop_eq_nil_of_le (by simp)] at this
      exact this
    · have hk2 : ops.size ≤ k := by
        apply Classical.byContradiction
        intro h
        have := (hD k).1 (hall k (by omega))
        omega
      rw [List.drop_eq_nil_of_le (by simpa using hk2)] at hw
      exact hw
end
/-- A guard that holds what is wanted, and one that does not. -/
theorem wanted_g {ops : Array Oper} {o : Oper} {a : Act} {j d : Nat} {b : Bool} {v : Value} (hg : o.guard = some (j, b)) (hd : (ops[j]?).bind (·.dst) = some d) (hv : a.tmps[d]? = some v) (h : v = .bool b) : Region.wanted o (yielded ops a.tmps) = true := by
  subst h
  unfold Region.wanted
  rw [hg]
  simp only [yielded, hd, Option.bind_some, hv]
  simp
theorem wanted_n {ops : Array Oper} {o : Oper} {a : Act} {j d : Nat} {b c : Bool} {v : Value} (hg : o.guard = some (j, b)) (hd : (ops[j]?).bind (·.dst) = some d) (hv : a.tmps[d]? = some v) (h : v = .bool c) (hc : c ≠ b) : Region.wanted o (yielded ops a.tmps) = false := by
  subst h
  unfold Region.wanted
  rw [hg]
  simp only [yielded, hd, Option.bind_some, hv]
  simpa using hc

end Go.Proofs.YtdaipflgcgefgaaGreatDoor
