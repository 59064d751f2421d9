import Derived.Test.YthkkipkhofkpmaaQSxB
set_option linter.all false
set_option autoImplicit false
namespace Go.Proofs.Ythkkipkhofkpmaa.Sx
open Go Go.RowKit
def ctOr (a b : CT) : CT := fun g args s => match a g args s with
  | some t => some t
  | none => b g args s
theorem ctOr_ok {P : Program} {I : Interp} {ρ : Env} {a b : CT} (ha : CTOk P I ρ a) (hb : CTOk P I ρ b) : CTOk P I ρ (ctOr a b) := by
  intro g args s t h
  unfold ctOr at h
  split at h
  · rename_i t' h'
    injection h with h
    subst h
    exact ha g args s _ h'
  · exact hb g args s t h
def V.same : V → V → Bool
  | .c a, .c b => a.same b
  | .agg a, .agg b => cellsSame a b
  | _, _ => false
def vsSame : List V → List V → Bool
  | [], [] => true
  | a :: r, b :: q => a.same b && vsSame r q
  | _, _ => false
theorem V.same_eq {a b : V} (h : a.same b = true) : a = b := by
  cases a <;> cases b <;> simp only [V.same, Bool.false_eq_true] at h
  · rw [C.same_eq h]
  · rw [cellsSame_eq h]
theorem vsSame_eq : ∀ {a b : List V}, vsSame a b = true → a = b
  | [], [], _ => rfl
  | a :: r, b :: q, h => by
    simp only [vsSame, Bool.and_eq_true] at h
    rw [V.same_eq h.1, vsSame_eq h.2]
  | [], _ :: _, h => by cases h
  | _ :: _, [], h => by cases h
structure Ent where
  g : FuncId
  args : List V
  v : V
def entFor (g : FuncId) (args : List V) : List Ent → Option V
  | [] => none
  | e :: r => bif Nat.beq g e.g && vsSame args e.args then some e.v else entFor g args r
theorem entFor_mem {g : FuncId} {args : List V} {v : V} : ∀ {l : List Ent}, entFor g args l = some v → ∃ e ∈ l, e.g = g ∧ e.args = args ∧ e.v = v
  | [], h => by cases h
  | e :: r, h => by
    unfold entFor at h
    cases hb : (Nat.beq g e.g && vsSame args e.args) with
    | true =>
      rw [hb] at h
      injection h with h
      simp only [Bool.and_eq_true] at hb
      exact ⟨e, .head _, (Nat.eq_of_beq_eq_true hb.1).symm, (vsSame_eq hb.2).symm, h⟩
    | false =>
      rw [hb] at h
      obtain ⟨e', h1, h2⟩ := entFor_mem h
      exact ⟨e', .tail _ h1, h2⟩
def ctL (l : List Ent) : CT := fun g args s => match entFor g args l with
  | some v => some (.leaf (v, s))
  | none => none
theorem ctL_ok {P : Program} {I : Interp} {ρ : Env} {l : List Ent} (hl : ∀ e ∈ l, e.v.wf 0 = true ∧ e.args.all (V.wf 0) = true ∧ ∀ w, Hyp I w (fun _ => False) → Calls P e.g (e.args.map (V.den I ρ id)).toArray w (fun x w' => x = .returned (e.v.den I ρ id) ∧ Below w.heap.size w w')) : CTOk P I ρ (ctL l) := by
  intro g args s t h w0 X n0 β0 β w R ht hw ha
  unfold ctL at h
  split at h
  · rename_i v hv
    injection h with h
    subst h
    obtain ⟨e, he, rfl, rfl, rfl⟩ := entFor_mem hv
    obtain ⟨h1, h2, h3⟩ := hl e he
    have hy : Hyp I w (fun _ => False) := fun p hp => by
      obtain ⟨a1, a2⟩ := hw.hyp p hp
      exact ⟨(hw.keeps.block _ (Array.getElem?_eq_some_iff.1 a1).1 a2).trans a1, id⟩
    have ea : e.args.map (V.den I ρ β) = e.args.map (V.den I ρ id) := List.map_congr_left fun v hv => V.den_none (List.all_eq_true.1 h2 v hv) _ _
    rw [ea]
    refine (h3 w hy).mono fun x w' ⟨hx, hb⟩ => ?_
    subst hx
    rw [V.den_none h1 id β]
    exact ht β w' (hw.below hb) (V.wf_mono (Nat.zero_le _) h1) (Nat.le_refl _) (fun _ _ => rfl)
  · cases h
section
variable {P : Program} {I : Interp} {ρ : Env} {w0 w : World} {X : Nat → Prop} {n0 : Nat} {β0 β : Nat → Nat} {s : S}
theorem ct_leaf1 {g : FuncId} {args : List V} {v : V} {R : Ending → World → Prop}
    (hc : Calls P g (args.map (V.den I ρ β)).toArray w (fun e w' => e = .returned (v.den I ρ β) ∧ Below w.heap.size w w')) (hv : v.wf s.nb = true)
    (ht : ∀ β' w', WR I ρ w0 X n0 β0 β' s w' → v.wf s.nb = true → s.nb ≤ s.nb → (∀ id, id < s.nb → β' id = β id) → R (.returned (v.den I ρ β')) w') (h : WR I ρ w0 X n0 β0 β s w) :
    Calls P g (args.map (V.den I ρ β)).toArray w R :=
  hc.mono fun e w' ⟨he, hb⟩ => by subst he; exact ht β w' (h.below hb) hv (Nat.le_refl _) (fun _ _ => rfl)
end
def leavesOk (p : V → Bool) : Tree V → Bool
  | .leaf v => p v
  | .node _ x y => leavesOk p x && leavesOk p y
  | .bad => false
theorem leavesOk_vc {I : Interp} {ρ : Env} {p : V → Bool} : ∀ {t : Tree V}, leavesOk p t = true → t.vc I ρ (fun v => p v = true)
  | .leaf v, h => h
  | .node _ x y, h => by
    simp only [leavesOk, Bool.and_eq_true] at h
    exact ⟨fun _ => leavesOk_vc h.1, fun _ => leavesOk_vc h.2⟩
  | .bad, h => by cases h
theorem Tree.vc_ex {α : Type} {I : Interp} {ρ : Env} {Φ : α → Prop} : ∀ {t : Tree α}, t.vc I ρ Φ → ∃ a, t.sel I ρ = some a ∧ Φ a
  | .leaf a, h => ⟨a, rfl, h⟩
  | .node b x y, h => by
    cases hb : b.den I ρ with
    | true =>
      obtain ⟨a, h1, h2⟩ := Tree.vc_ex (h.1 hb)
      exact ⟨a, by simp [Tree.sel, hb, h1], h2⟩
    | false =>
      obtain ⟨a, h1, h2⟩ := Tree.vc_ex (h.2 hb)
      exact ⟨a, by simp [Tree.sel, hb, h1], h2⟩
  | .bad, h => h.elim
theorem calls_ex {P : Program} {I : Interp} {ρ : Env} (hm : P.follows .mixedOrders = true) (hN : NoCount P) {ct : CT} (hct : CTOk P I ρ ct) {n : Nat} {g : FuncId} {args : List V} {k : Known} {L : Tree V} {G : Value → Prop}
    (hk : k.Ok I ρ) (hwf : (args.all (V.wf 0)) = true) (hL : vals (execF P ct n g args ⟨[], 0, k⟩) = L) (hv : L.vc I ρ (fun v => v.wf 0 = true ∧ G (v.den I ρ id))) :
    ∃ r, G r ∧ ∀ w, Hyp I w (fun _ => False) → Calls P g (args.map (V.den I ρ id)).toArray w (fun e w' => e = .returned r ∧ Below w.heap.size w w') := by
  rw [← hL, vals_vc] at hv
  obtain ⟨⟨v, s⟩, h1, h2, h3⟩ := Tree.vc_ex hv
  refine ⟨_, h3, fun w hh => ?_⟩
  refine execF_ok hm hN hct n g args ⟨[], 0, k⟩ w (fun _ => False) 0 id id w _ (Tree.vc_sel h1 ?_) ⟨(fun _ h => nomatch h), (fun _ h => nomatch h), (fun _ h => nomatch h), (fun _ h => nomatch h), (fun _ h => nomatch h), (fun _ h => nomatch h), (fun _ h => nomatch h), hk, Nat.le_refl _, fun _ _ => rfl, Keeps.refl _ _, hh⟩ (fun v hv => List.all_eq_true.1 hwf v hv)
  intro β' w' hb _ _ _
  exact ⟨congrArg _ (V.den_none h2 _ _), hb.keeps.below⟩
theorem calls_litD {P : Program} {I : Interp} {ρ : Env} (hm : P.follows .mixedOrders = true) (hN : NoCount P) {ct : CT} (hct : CTOk P I ρ ct) {n : Nat} {g : FuncId} {args : List V} {k : Known} {L : Tree V} {w : World} {r : Value}
    (hh : Hyp I w fun _ => False) (hk : k.Ok I ρ) (hwf : (args.all (V.wf 0)) = true) (hL : vals (execF P ct n g args ⟨[], 0, k⟩) = L) (hv : L.vc I ρ (fun v => v.wf 0 = true ∧ v.den I ρ id = r)) :
    Calls P g (args.map (V.den I ρ id)).toArray w (fun e w' => e = .returned r ∧ Below w.heap.size w w') := by
  obtain ⟨r', e, h⟩ := calls_ex (G := fun x => x = r) hm hN hct hk hwf hL hv
  subst e
  exact h w hh
def inB (k : Known) (t : T) (lo hi : Int) : Bool := t.ivK k fun i => leO (some lo) i.lo && leO i.hi (some hi)
theorem inB_ok {I : Interp} {ρ : Env} {k : Known} (hk : k.Ok I ρ) {t : T} {lo hi : Int} (h : inB k t lo hi = true) : lo ≤ t.den I ρ ∧ t.den I ρ ≤ hi := by
  unfold inB at h
  rw [T.ivK_eq] at h
  simp only [Bool.and_eq_true] at h
  obtain ⟨a, b, e1, e2, h1⟩ := leO_ok h.1
  obtain ⟨c, d, e3, e4, h2⟩ := leO_ok h.2
  have := T.iv_ok hk t
  injection e1 with e1
  injection e4 with e4
  have := this.1 b e2
  have := (T.iv_ok hk t).2 c e3
  omega
end Go.Proofs.Ythkkipkhofkpmaa.Sx

