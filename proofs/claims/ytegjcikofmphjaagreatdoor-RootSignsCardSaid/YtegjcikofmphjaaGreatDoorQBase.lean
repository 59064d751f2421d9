/- Texts that belong together. -/
import Derived.RangeFuncNested
import Derived.RangeFuncBound
import Derived.RangeFuncCalls
import Derived.RangeFuncLeaves
import Derived.Shelf.Abstract
import Derived.Shelf.RegionOpen
import Derived.WalkKit
import Derived.OwnWalkIn
import Derived.TacticsInMore
import Derived.LoopNIn
import Derived.LoopIn
import Derived.Test.YtegjcikofmphjaaGreatDoorProg
import Derived.IntWalk
import Derived.Outline
import Derived.Lib.Hide
import Derived.Deep.WholeRow
import Derived.Deep.MidRow
import Derived.Laws.CopyOwn
import Derived.Laws.ResultCell
set_option linter.all false
/- Texts that belong together. -/
/-
  A law for 'for .. := range f(..) { .. }' whose body may write what the iterator reads: the invariant goes by a state (for instance how many rounds are left), and each round is told what the iterator read. After the kit's own laws for a range over a function (its texts RangeFunc..); no program is named.
-/
namespace Go.Proofs.YtegjcikofmphjaaGreatDoor
open Go Go.RowKit Go.Shelf
def SeqS {σ α : Type} (F : Fence) (n : Nat) (P : Program) (g : Nat) (lb : Array Value) (encs : α → Array Value) (Wk : σ → World → Prop) (Nx : σ → α → σ → Prop) (Gd : σ → α → World → Prop) (s0 : σ) (Dn : σ → Prop) : Prop :=
  ∀ (l : Nat) (J : σ → World → Prop) (Jx : World → Prop) (W : World),
    (∀ s W1, J s W1 → Wk s W1) →
    (∀ s x s2 W1, J s W1 → Nx s x s2 → Gd s x W1 → YieldAt F (n - 1) P l (encs x) W1 fun e W2 =>
      (e = .returned (.bool true) ∧ J s2 W2) ∨ (e = .returned (.bool false) ∧ Jx W2)) →
    J s0 W →
    CallsIn F n P g (#[.func (.yield l) #[] #[]] ++ lb) W fun e W2 => (∃ v, e = .returned v) ∧ ((∃ s, Dn s ∧ J s W2) ∨ Jx W2)
def ownPostS (B : Nat) (I : World → Prop) (Ix : Code → World → Prop) (W : World) : Exit → Act → World → Prop
  | .normal, _, W2 => KeepsFrom B W W2 ∧ I W2
  | .ret, _, W2 => KeepsFrom B W W2 ∧ Ix .ret W2
  | .exit id, _, W2 => KeepsFrom B W W2 ∧ Ix (.exit id) W2
  | .goto t, _, W2 => KeepsFrom B W W2 ∧ Ix (.goto t) W2
  | .panic _, _, _ => False
  | .outgrown, _, _ => False
theorem wpIn_rangeFunc_S {F : Fence} {n : Nat} {P : Program} {σ α : Type} {g : Operand} {ps : Array Tmp} {assign body : Code} {Q : Exit → Act → World → Prop} {a : Act} {w : World}
    (hro : F.round = none) (h1 : 1 ≤ n) {gf : Nat} {lb : Array Value} (hg : a.eval g = .func (.func gf) #[] lb) (hFg : F.fn gf) (eg : ∀ args w, (callFunc gf args).run P w = .ok (.enter gf args) w)
    {encs : α → Array Value} {Wk : σ → World → Prop} {Nx : σ → α → σ → Prop} {Gd : σ → α → World → Prop} {s0 : σ} {Dn : σ → Prop}
    (hseq : SeqS F (n - 1) P gf lb encs Wk Nx Gd s0 Dn) (hps : ∀ x, (encs x).size = ps.size)
    (I : σ → World → Prop) (Ix : Code → World → Prop) (hI : OwnFrom w.heap.size I) (hIx : ∀ c, OwnFrom w.heap.size (fun (_ : Unit) W => Ix c W)) (hGd : ∀ s x, OwnFrom w.heap.size (fun (_ : Unit) W => Gd s x W))
    (hWk : ∀ s W, I s W → Wk s W) (h0 : I s0 w) (a₁ : α → Act)
    (hassign : ∀ (l : Nat) (x : α) (W : World) (K : Act → World → Prop), K (a₁ x) W →
      assign.wpIn (F.inRound l) (n - 1 - 1) P (Exit.then K (fun _ _ _ => False)) { tmps := (ps.zip (encs x)).foldl (fun t (p, v) => t.setIfInBounds p v) a.tmps, defers := [] } W)
    (hbody : ∀ (l : Nat) (s : σ) (x : α) (s2 : σ) (W : World), I s W → Nx s x s2 → Gd s x W → body.wpIn (F.inRound l) (n - 1 - 1) P (ownPostS w.heap.size (I s2) Ix W) (a₁ x) W)
    (hdone : ∀ (D : Nat) (s : σ) (W : World), w.heap.size ≤ D → Dn s → I s W → W.heap[D]? = some (.deferred (some [])) → Q .normal { a with defers := { target := .collected D, args := #[] } :: a.defers } W)
    (hstop : ∀ (D : Nat) (c : Code) (W : World), w.heap.size ≤ D → Ix c W → W.heap[D]? = some (.deferred (some [])) → c.wpIn F n P Q { a with defers := { target := .collected D, args := #[] } :: a.defers } W) :
    (Code.rangeFunc g ps assign body).wpIn F n P Q a w := by
  refine wpIn_rangeFunc ?_
  intro fn hfn
  rw [hro]
  obtain ⟨rec, hrec⟩ : ∃ rec : LoopState → Option Code → Loop, rec = fun st pe => { state := st, pending := pe, fn, tmps := a.tmps, params := ps, assign, body, defers := w.heap.size } := ⟨_, rfl⟩
  obtain ⟨W1, hW1⟩ : ∃ W1, (w.alloc (.deferred (some []))).alloc (.loop (rec .ready none)) = W1 := ⟨_, rfl⟩
  have hL1 : W1.heap[w.heap.size + 1]? = some (.loop (rec .ready none)) := by
    rw [← hW1]; have := World.alloc_heap_new (w.alloc (.deferred (some []))) (.loop (rec .ready none)); rwa [World.size_alloc] at this
  have hK1 : W1.heap[w.heap.size]? = some (.deferred (some [])) := by
    rw [← hW1]; exact (Below.heap_alloc _ _ _ (by simp)).trans (World.alloc_heap_new w _)
  have hI1 : I s0 W1 := by rw [← hW1]; exact hI.alloc _ (hI.alloc _ h0)
  refine ⟨w.heap.size + 1, [{ target := .collected w.heap.size, args := #[] }], W1, { target := .fn (.func gf) lb, args := #[.func (.yield (w.heap.size + 1)) #[] #[]] }, W1, gf,
    #[.func (.yield (w.heap.size + 1)) #[] #[]] ++ lb, W1, ?_, ?_, ?_, ?_, fun _ => h1, ?_⟩
  · rw [← hW1, hrec]; exact run_enterLoop_outer _ _ _ _ _
  · simp only [resolve, hg]
    simp [go_sem]
  · intro f' hf'; simp [Target.leads] at hf'; subst hf'; exact hFg
  · simp [invoke, go_sem, eg]
  · refine (hseq (w.heap.size + 1)
      (fun s W => I s W ∧ W.heap[w.heap.size + 1]? = some (.loop (rec .ready none)) ∧ W.heap[w.heap.size]? = some (.deferred (some [])))
      (fun W => ∃ c, Ix c W ∧ W.heap[w.heap.size + 1]? = some (.loop (rec .done (some c))) ∧ W.heap[w.heap.size]? = some (.deferred (some [])))
      W1 (fun s W h => hWk s W h.1) ?_ ⟨hI1, hL1, hK1⟩).mono ?_
    · rintro s x s2 W ⟨hi, hl, hk⟩ hnx hgd
      have hlt : w.heap.size + 1 < W.heap.size := (Array.getElem?_eq_some_iff.1 hl).1
      have hy := run_yield (P := P) (args := encs x) hl (by rw [hrec]; exact hps x)
      rw [hrec] at hy
      refine ⟨fn, _, assign, body, hy, roundIn_of_wpIn hfn (hassign _ x W _ ⟨_, run_beginRound hl (by rw [hrec]), ?_⟩)⟩
      have hl2 : (W.putObj (w.heap.size + 1) (.loop { rec .ready none with state := .busy })).heap[w.heap.size + 1]? = some (.loop { rec .ready none with state := .busy }) := World.putObj_heap_same hlt
      have hk2 : (W.putObj (w.heap.size + 1) (.loop { rec .ready none with state := .busy })).heap[w.heap.size]? = some (.deferred (some [])) := (World.putObj_heap_other (by omega)).trans hk
      refine wpIn_mono (hbody _ s x s2 _ (hI.putObj _ hi (by omega) hl rfl) hnx ((hGd s x).putObj (s := ()) _ hgd (by omega) hl rfl)) ?_
      have fin : ∀ (jump : Option Code) (W3 : World), KeepsFrom w.heap.size (W.putObj (w.heap.size + 1) (.loop { rec .ready none with state := .busy })) W3 →
          (Instr.endRound (w.heap.size + 1) jump).run P W3 = .ok (.bool jump.isNone) (W3.putObj (w.heap.size + 1) (.loop (rec (if jump.isNone then .ready else .done) jump))) ∧
          W3.heap[w.heap.size + 1]? = some (.loop { rec .ready none with state := .busy }) ∧
          (W3.putObj (w.heap.size + 1) (.loop (rec (if jump.isNone then .ready else .done) jump))).heap[w.heap.size + 1]? = some (.loop (rec (if jump.isNone then .ready else .done) jump)) ∧
          (W3.putObj (w.heap.size + 1) (.loop (rec (if jump.isNone then .ready else .done) jump))).heap[w.heap.size]? = some (.deferred (some [])) := fun jump W3 hk3 => by
        have hl3 := hk3.same _ _ (by omega) hl2 rfl
        have := run_endRound (P := P) jump hl3
        rw [hrec] at this ⊢
        exact ⟨this, by rw [hrec] at hl3; exact hl3, World.putObj_heap_same (Array.getElem?_eq_some_iff.1 hl3).1, (World.putObj_heap_other (by omega)).trans (hk3.same _ _ (Nat.le_refl _) hk2 rfl)⟩
      rintro e a3 W3 hp
      cases e with
      | normal =>
        obtain ⟨hk3, hi3⟩ := hp
        obtain ⟨hr, hl3, hl4, hk4⟩ := fin none W3 hk3
        exact ⟨_, _, hr, .inl ⟨rfl, ⟨hI.putObj _ hi3 (by omega) hl3 rfl, hl4, hk4⟩⟩⟩
      | ret =>
        obtain ⟨hk3, hi3⟩ := hp
        obtain ⟨hr, hl3, hl4, hk4⟩ := fin (some .ret) W3 hk3
        exact ⟨_, _, hr, .inr ⟨rfl, .ret, (hIx _).putObj (s := ()) _ hi3 (by omega) hl3 rfl, hl4, hk4⟩⟩
      | exit id =>
        obtain ⟨hk3, hi3⟩ := hp
        obtain ⟨hr, hl3, hl4, hk4⟩ := fin (some (.exit id)) W3 hk3
        exact ⟨_, _, hr, .inr ⟨rfl, .exit id, (hIx _).putObj (s := ()) _ hi3 (by omega) hl3 rfl, hl4, hk4⟩⟩
      | goto t =>
        obtain ⟨hk3, hi3⟩ := hp
        obtain ⟨hr, hl3, hl4, hk4⟩ := fin (some (.goto t)) W3 hk3
        exact ⟨_, _, hr, .inr ⟨rfl, .goto t, (hIx _).putObj (s := ()) _ hi3 (by omega) hl3 rfl, hl4, hk4⟩⟩
      | panic ch => exact hp.elim
      | outgrown => exact hp.elim
    · rintro e W2 ⟨⟨v, rfl⟩, (⟨s, hS, hi, hl, hk⟩ | ⟨c, hi, hl, hk⟩)⟩
      · exact ⟨none, _, by have := run_endLoop (P := P) hl (by rw [hrec]; simp); rw [hrec] at this; exact this, hdone _ s _ (Nat.le_refl _) hS (hI.putObj _ hi (by omega) hl rfl) ((World.putObj_heap_other (by omega)).trans hk)⟩
      · exact ⟨some c, _, by have := run_endLoop (P := P) hl (by rw [hrec]; simp); rw [hrec] at this; exact this, hstop _ c _ (Nat.le_refl _) ((hIx c).putObj (s := ()) _ hi (by omega) hl rfl) ((World.putObj_heap_other (by omega)).trans hk)⟩
theorem endM {F : Fence} {n : Nat} {P : Program} {fn : Func} {R : Ending → World → Prop} {tmps : Array Value} {W : World} {D : Nat} {v : Value}
    (hK : W.heap[D]? = some (.deferred (some []))) (hr : (results fn tmps).run P (W.putObj D (.deferred none)) = .ok v (W.putObj D (.deferred none)))
    (hR : R (.returned v) (W.putObj D (.deferred none))) :
    bodyPostM F n P fn R .ret { tmps, defers := [{ target := .collected D, args := #[] }] } W :=
  ⟨by simp, .inl ⟨_, _, rfl, run_takeDeferred hK, ⟨v, hr, hR⟩⟩⟩
theorem endM0 {F : Fence} {n : Nat} {P : Program} {fn : Func} {R : Ending → World → Prop} {tmps : Array Value} {W : World} {v : Value}
    (hr : (results fn tmps).run P W = .ok v W) (hR : R (.returned v) W) : bodyPostM F n P fn R .ret { tmps, defers := [] } W := ⟨v, hr, hR⟩
end Go.Proofs.YtegjcikofmphjaaGreatDoor
/- Plain mathematics of digit lists (the lowest digit first, to the base 2^32). No program is named. -/
namespace Go.Proofs.YtegjcikofmphjaaGreatDoor
def B32 : Nat := 4294967296
theorem B32_pos : 0 < B32 := by decide
def val : List Nat → Nat
  | [] => 0
  | d :: ds => d + B32 * val ds
def strip : List Nat → List Nat
  | [] => []
  | d :: ds => if strip ds = [] ∧ d = 0 then [] else d :: strip ds
def Digits (ds : List Nat) : Prop := ∀ d ∈ ds, d < B32
def NoZero (ds : List Nat) : Prop := strip ds = ds
def Norm (ds : List Nat) : Prop := Digits ds ∧ NoZero ds
theorem val_nil : val [] = 0 := rfl
theorem val_cons (d : Nat) (ds : List Nat) : val (d :: ds) = d + B32 * val ds := rfl
theorem val_strip (ds : List Nat) : val (strip ds) = val ds := by
  induction ds with
  | nil => rfl
  | cons d ds ih =>
    unfold strip
    split
    · rename_i h
      rw [val_cons, ← ih, h.1, h.2]; simp [val]
    · rw [val_cons, val_cons, ih]
theorem strip_strip (ds : List Nat) : strip (strip ds) = strip ds := by
  induction ds with
  | nil => rfl
  | cons d ds ih =>
    by_cases h : strip ds = [] ∧ d = 0
    · simp [strip, h]
    · have e : strip (d :: ds) = d :: strip ds := by rw [strip, if_neg h]
      rw [e, strip, ih, if_neg h]
theorem strip_mem {ds : List Nat} {d : Nat} (h : d ∈ strip ds) : d ∈ ds := by
  induction ds with
  | nil => exact h
  | cons e ds ih =>
    unfold strip at h
    split at h
    · simp at h
    · rcases List.mem_cons.1 h with rfl | h
      · simp
      · exact List.mem_cons_of_mem _ (ih h)
theorem strip_length_le (ds : List Nat) : (strip ds).length ≤ ds.length := by
  induction ds with
  | nil => simp [strip]
  | cons d ds ih => unfold strip; split <;> simp <;> omega
theorem Digits.strip {ds : List Nat} (h : Digits ds) : Digits (strip ds) := fun d hd => h d (strip_mem hd)
theorem norm_strip {ds : List Nat} (h : Digits ds) : Norm (strip ds) := ⟨h.strip, strip_strip ds⟩
theorem Digits.cons {d : Nat} {ds : List Nat} : Digits (d :: ds) ↔ d < B32 ∧ Digits ds := by simp [Digits]
theorem Digits.nil : Digits [] := by simp [Digits]
theorem Digits.append {a b : List Nat} (ha : Digits a) (hb : Digits b) : Digits (a ++ b) := by
  intro d hd; exact (List.mem_append.1 hd).elim (ha d) (hb d)
theorem Digits.take {a : List Nat} (ha : Digits a) (n : Nat) : Digits (a.take n) := fun d hd => ha d (List.mem_of_mem_take hd)
theorem Digits.drop {a : List Nat} (ha : Digits a) (n : Nat) : Digits (a.drop n) := fun d hd => ha d (List.mem_of_mem_drop hd)
theorem Digits.getD {ds : List Nat} (h : Digits ds) (j : Nat) : ds[j]?.getD 0 < B32 := by
  by_cases hj : j < ds.length
  · simp [hj]; exact h _ (List.getElem_mem hj)
  · simp [List.getElem?_eq_none (by omega : ds.length ≤ j)]; decide
theorem val_lt {ds : List Nat} (h : Digits ds) : val ds < B32 ^ ds.length := by
  induction ds with
  | nil => simp [val]
  | cons d ds ih =>
    obtain ⟨h1, h2⟩ := Digits.cons.1 h
    have := ih h2
    rw [val_cons, List.length_cons, Nat.pow_succ]
    calc d + B32 * val ds < B32 + B32 * val ds := by omega
      _ = B32 * (val ds + 1) := by rw [Nat.mul_add, Nat.mul_one, Nat.add_comm]
      _ ≤ B32 * B32 ^ ds.length := Nat.mul_le_mul_left _ this
      _ = B32 ^ ds.length * B32 := Nat.mul_comm _ _
theorem val_append (a b : List Nat) : val (a ++ b) = val a + B32 ^ a.length * val b := by
  induction a with
  | nil => simp [val]
  | cons d a ih =>
    rw [List.cons_append, val_cons, val_cons, ih, List.length_cons, Nat.pow_succ, Nat.mul_add, Nat.add_assoc, ← Nat.mul_assoc B32, Nat.mul_comm B32 (B32 ^ a.length)]
theorem noZero_cons {d : Nat} {ds : List Nat} (h : NoZero (d :: ds)) : NoZero ds ∧ (ds = [] → d ≠ 0) := by
  unfold NoZero at *
  unfold strip at h
  split at h
  · simp at h
  · rename_i hn
    have e : strip ds = ds := by simpa using h
    refine ⟨e, ?_⟩
    rintro rfl h0
    exact hn ⟨by simp [strip], h0⟩
theorem val_pos_of_noZero {ds : List Nat} (h : NoZero ds) (hne : ds ≠ []) : 0 < val ds := by
  induction ds with
  | nil => exact absurd rfl hne
  | cons d ds ih =>
    obtain ⟨h1, h2⟩ := noZero_cons h
    rw [val_cons]
    by_cases e : ds = []
    · have := h2 e; omega
    · have := ih h1 e
      have := Nat.mul_pos B32_pos this
      omega
theorem norm_ext : ∀ {a b : List Nat}, Norm a → Norm b → val a = val b → a = b
  | [], [], _, _, _ => rfl
  | [], e :: b, _, hb, h => by have := val_pos_of_noZero hb.2 (by simp); rw [← h] at this; simp [val] at this
  | d :: a, [], ha, _, h => by have := val_pos_of_noZero ha.2 (by simp); rw [h] at this; simp [val] at this
  | d :: a, e :: b, ha, hb, h => by
    obtain ⟨h1, h2⟩ := Digits.cons.1 ha.1
    obtain ⟨h3, h4⟩ := Digits.cons.1 hb.1
    rw [val_cons, val_cons] at h
    have hd : d = e := by
      have := congrArg (· % B32) h
      simpa [Nat.add_mul_mod_self_left, Nat.mod_eq_of_lt h1, Nat.mod_eq_of_lt h3] using this
    subst hd
    have hv : val a = val b := Nat.eq_of_mul_eq_mul_left B32_pos (Nat.add_left_cancel h)
    rw [norm_ext ⟨h2, (noZero_cons ha.2).1⟩ ⟨h4, (noZero_cons hb.2).1⟩ hv]
theorem val_zero_of_all {ds : List Nat} (h : ∀ d ∈ ds, d = 0) : val ds = 0 := by
  induction ds with
  | nil => rfl
  | cons d ds ih =>
    rw [val_cons, ih (fun e he => h e (List.mem_cons_of_mem _ he)), h d (by simp), Nat.mul_zero]
theorem strip_nil_of_all {ds : List Nat} (h : ∀ d ∈ ds, d = 0) : strip ds = [] := by
  induction ds with
  | nil => rfl
  | cons d ds ih => rw [strip, if_pos ⟨ih (fun e he => h e (List.mem_cons_of_mem _ he)), h d (by simp)⟩]
theorem strip_append_zero {a b : List Nat} (h : ∀ d ∈ b, d = 0) : strip (a ++ b) = strip a := by
  induction a with
  | nil => simp [strip, strip_nil_of_all h]
  | cons d a ih => rw [List.cons_append, strip, strip, ih]
theorem strip_snoc {a : List Nat} {d : Nat} (h : d ≠ 0) : strip (a ++ [d]) = a ++ [d] := by
  induction a with
  | nil => simp [strip, h]
  | cons e a ih => rw [List.cons_append, strip, ih, if_neg (by simp)]
theorem strip_length_of {ds : List Nat} {k : Nat} (hk : k < ds.length) (h : ds[k]?.getD 0 ≠ 0) (hz : ∀ j, k < j → j < ds.length → ds[j]?.getD 0 = 0) : (strip ds).length = k + 1 := by
  have e : ds = (ds.take k ++ [ds[k]]) ++ ds.drop (k + 1) := by
    rw [List.append_assoc, List.singleton_append, List.getElem_cons_drop, List.take_append_drop]
  rw [e, strip_append_zero, strip_snoc]
  · simp; omega
  · simpa [hk] using h
  · intro d hd
    obtain ⟨i, hi, rfl⟩ := List.getElem_of_mem hd
    have hi' : k + 1 + i < ds.length := by simp at hi; omega
    have := hz (k + 1 + i) (by omega) hi'
    simpa [hi'] using this
theorem strip_length_zero {ds : List Nat} (hz : ∀ j, j < ds.length → ds[j]?.getD 0 = 0) : strip ds = [] := by
  refine strip_nil_of_all fun d hd => ?_
  obtain ⟨i, hi, rfl⟩ := List.getElem_of_mem hd
  simpa [hi] using hz i hi
theorem strip_take (ds : List Nat) : ds.take (strip ds).length = strip ds := by
  induction ds with
  | nil => rfl
  | cons d ds ih =>
    by_cases h : strip ds = [] ∧ d = 0
    · simp [strip, h]
    · have e : strip (d :: ds) = d :: strip ds := by rw [strip, if_neg h]
      rw [e, List.length_cons, List.take_succ_cons, ih]
theorem noZero_last {ds : List Nat} (hne : 0 < ds.length) : NoZero ds ↔ ds[ds.length - 1]?.getD 0 ≠ 0 := by
  constructor
  · intro h h0
    have h1 : (strip ds).length = ds.length := by rw [h]
    have e : ds = ds.take (ds.length - 1) ++ [ds[ds.length - 1]] := by
      rw [List.take_append_getElem (by omega)]; exact (List.take_of_length_le (by omega)).symm
    have hl : ds[ds.length - 1] = 0 := by simpa [show ds.length - 1 < ds.length by omega] using h0
    have h2 := congrArg strip e
    rw [strip_append_zero (by simp [hl])] at h2
    have := strip_length_le (ds.take (ds.length - 1))
    rw [← h2, h1] at this
    simp at this; omega
  · intro h
    have := strip_length_of (k := ds.length - 1) (by omega) h (fun j a b => by omega)
    have e := strip_take ds
    rw [this, List.take_of_length_le (by omega)] at e
    exact e.symm
theorem val_drop {ds : List Nat} {s : Nat} (h : s < ds.length) : val (ds.drop s) = ds[s]?.getD 0 + B32 * val (ds.drop (s + 1)) := by
  rw [List.drop_eq_getElem_cons h, val_cons]; simp [h]
theorem val_drop_lt {ds : List Nat} (hd : Digits ds) {s k : Nat} (h : ds.length ≤ s + k) : val (ds.drop s) < B32 ^ k := by
  refine Nat.lt_of_lt_of_le (val_lt (hd.drop s)) (Nat.pow_le_pow_right B32_pos (by simp; omega))
def sgn (a b : Nat) : Int := if a < b then -1 else if b < a then 1 else 0
def cmpL (xs ys : List Nat) : Int := if xs.length < ys.length then -1 else if ys.length < xs.length then 1 else sgn (val xs) (val ys)
theorem val_take_drop (ds : List Nat) {s : Nat} (h : s ≤ ds.length) : val ds = val (ds.take s) + B32 ^ s * val (ds.drop s) := by
  have := val_append (ds.take s) (ds.drop s)
  rwa [List.take_append_drop, List.length_take, Nat.min_eq_left h] at this
theorem val_lt_of_digit {xs ys : List Nat} {s : Nat} (hl : xs.length = ys.length) (hx : Digits xs) (hs : s < xs.length)
    (he : xs.drop (s + 1) = ys.drop (s + 1)) (hlt : xs[s]?.getD 0 < ys[s]?.getD 0) : val xs < val ys := by
  rw [val_take_drop xs (Nat.le_of_lt hs), val_take_drop ys (s := s) (by omega), val_drop hs, val_drop (ds := ys) (by omega), he]
  have h1 := val_lt (hx.take s)
  rw [List.length_take, Nat.min_eq_left (Nat.le_of_lt hs)] at h1
  have h2 : B32 ^ s * (xs[s]?.getD 0 + B32 * val (ys.drop (s + 1)) + 1) ≤ B32 ^ s * (ys[s]?.getD 0 + B32 * val (ys.drop (s + 1))) := Nat.mul_le_mul_left _ (by omega)
  rw [Nat.mul_add _ _ 1, Nat.mul_one] at h2
  omega
theorem drop_eq_cons {xs ys : List Nat} {s : Nat} (hx : s < xs.length) (hy : s < ys.length) (he : xs.drop (s + 1) = ys.drop (s + 1)) (hd : xs[s]?.getD 0 = ys[s]?.getD 0) : xs.drop s = ys.drop s := by
  rw [List.drop_eq_getElem_cons hx, List.drop_eq_getElem_cons hy, he]
  simp [hx, hy] at hd
  rw [hd]
theorem cmpL_len {xs ys : List Nat} (h : xs.length = ys.length) : cmpL xs ys = sgn (val xs) (val ys) := by
  unfold cmpL; rw [if_neg (by omega), if_neg (by omega)]
theorem sgn_lt {a b : Nat} (h : a < b) : sgn a b = -1 := by unfold sgn; rw [if_pos h]
theorem sgn_gt {a b : Nat} (h : b < a) : sgn a b = 1 := by unfold sgn; rw [if_neg (by omega), if_pos h]
theorem sgn_eq (a : Nat) : sgn a a = 0 := by unfold sgn; simp
theorem sgn_neg_iff {a b : Nat} : sgn a b < 0 ↔ a < b := by unfold sgn; split <;> (try split) <;> omega
theorem val_ge_of_noZero {ds : List Nat} (h : NoZero ds) (hne : ds ≠ []) : B32 ^ (ds.length - 1) ≤ val ds := by
  induction ds with
  | nil => exact absurd rfl hne
  | cons d ds ih =>
    obtain ⟨h1, h2⟩ := noZero_cons h
    rw [val_cons, List.length_cons, Nat.add_sub_cancel]
    by_cases e : ds = []
    · subst e; have := h2 rfl; simp; omega
    · have := ih h1 e
      have hl : 0 < ds.length := by cases ds <;> simp_all
      have := Nat.mul_le_mul_left B32 this
      rw [← Nat.pow_succ', show (ds.length - 1).succ = ds.length by omega] at this
      omega
theorem cmpL_norm {xs ys : List Nat} (hx : Norm xs) (hy : Norm ys) : cmpL xs ys = sgn (val xs) (val ys) := by
  unfold cmpL
  split
  · rename_i h
    have h1 := val_lt hx.1
    have h2 := val_ge_of_noZero hy.2 (by intro e; simp [e] at h)
    have h3 := Nat.pow_le_pow_right B32_pos (show xs.length ≤ ys.length - 1 by omega)
    rw [sgn_lt (by omega)]
  · split
    · rename_i h
      have h1 := val_lt hy.1
      have h2 := val_ge_of_noZero hx.2 (by intro e; simp [e] at h)
      have h3 := Nat.pow_le_pow_right B32_pos (show ys.length ≤ xs.length - 1 by omega)
      rw [sgn_gt (by omega)]
    · rfl
end Go.Proofs.YtegjcikofmphjaaGreatDoor
/- Numbers of many digits: the iterator 'down' and the small functions of layer 1. -/
namespace Go.Proofs.YtegjcikofmphjaaGreatDoor
open Go Go.RowKit Go.Shelf
attribute [local go_sem] Oper.semAt_some
def DownWk (Bs : Nat) (p : Option Addr) (len cap : Nat) (s : Nat) (W : World) : Prop :=
  s ≤ len ∧ W.cell? ⟨Bs, 0, none⟩ = some (.slice p len cap) ∧ ∀ k, k < s → ∃ (b off d : Nat), p = some ⟨b, off, none⟩ ∧ W.cell? ⟨b, off + k, none⟩ = some (.int .u32 d)
def DownNx (s : Nat) (x : Nat × Nat) (s2 : Nat) : Prop := s = x.1 + 1 ∧ s2 = x.1
def DownGd (p : Option Addr) (_ : Nat) (x : Nat × Nat) (W : World) : Prop := ∃ (b off : Nat), p = some ⟨b, off, none⟩ ∧ W.cell? ⟨b, off + x.1, none⟩ = some (.int .u32 x.2)
set_option maxRecDepth 100000 in
set_option maxHeartbeats 1000000 in
theorem down1_seq (n : Nat) (hn : 1 ≤ n) (Bs : Nat) (p : Option Addr) (len cap : Nat) (hlen : len ≤ maxLen) :
    SeqS Fence.wide n Tryz.prog 119 #[.pointer (some ⟨Bs, 0, none⟩)] (fun x : Nat × Nat => #[Value.int .i64 (x.1 : Int), Value.int .u32 (x.2 : Int)]) (DownWk Bs p len cap) DownNx (DownGd p) len (· = 0) := by
  intro l J Jx W hWk hY h0
  unfold maxLen at hlen
  refine callsIn_of_wp Tryz.func119 rfl trivial ?_ rfl
  simp only [Tryz.ntmps119, List.size_toArray, List.length_cons, List.length_nil, Nat.reduceAdd, Nat.reduceSub, Array.replicate_succ, Array.replicate_zero, List.push_toArray, List.append_toArray, List.nil_append, List.cons_append]
  have hbox := (hWk _ _ h0).2.1
  gi_wp2
  gi_loopw [3] (fun i wr => ∃ s : Nat, i = .int .i64 ((s : Int) - 1) ∧ J s wr) (fun i _ => (intOf i + 1).toNat)
  case atStart => exact ⟨len, rfl, h0⟩
  case round =>
    obtain ⟨s, rfl, hJ⟩ := hrel
    obtain ⟨hs, hb, hc⟩ := hWk _ _ hJ
    cases s with
    | zero =>
      gi_wp2
      go_end0
      exact ⟨⟨_, rfl⟩, .inl ⟨0, rfl, hJ⟩⟩
    | succ k =>
      obtain ⟨b, off, d, rfl, hcell⟩ := hc k (by omega)
      obtain ⟨fn, tmps, assign, body, hy, hR⟩ := hY _ (k, d) k wr hJ ⟨rfl, rfl⟩ ⟨b, off, rfl, hcell⟩
      dsimp only at hy
      clear hc
      rw [show ((k + 1 : Nat) : Int) - 1 = (k : Int) from by omega]
      gi_wp2
      refine hR.mono ?_
      rintro e W3 (⟨rfl, hJ3⟩ | ⟨rfl, hJx3⟩)
      · gi_wp2
        go_roundw
        case rel => exact ⟨k, rfl, hJ3⟩
        case measure => simp [intOf]
      · gi_wp2
        refine bodyPost_ret (results_none rfl _ _ _) rfl ?_
        exact ⟨⟨_, rfl⟩, .inr hJx3⟩
set_option maxHeartbeats 1000000 in
theorem down_calls (p : Option Addr) (len cap : Nat) (w : World) :
    Calls Tryz.prog 98 #[.slice p len cap] w fun e w' => e = .returned (.func (.func 119) #[] #[.pointer (some ⟨w.heap.size, 0, none⟩)]) ∧ w' = w.alloc (.cells #[.slice p len cap] 23) := by
  go_enter Tryz.func98, Tryz.ntmps98
  go_wp2
  go_ret
  exact ⟨rfl, rfl⟩
def U32s (B : Nat) (w : World) (v : Value) (ds : List Nat) : Prop :=
  ∃ (p : Option Addr) (cap : Nat), v = .slice p ds.length cap ∧ ds.length ≤ maxLen ∧ (0 < ds.length → ∃ b off, p = some ⟨b, off, none⟩ ∧ b < B ∧ ∀ j, j < ds.length → w.cell? ⟨b, off + j, none⟩ = some (.int .u32 ((ds[j]?.getD 0 : Nat) : Int)))
theorem U32s.below {B : Nat} {w w' : World} {v : Value} {ds : List Nat} (h : U32s B w v ds) (hb : Below B w w') : U32s B w' v ds := by
  obtain ⟨p, cap, rfl, hl, hc⟩ := h
  refine ⟨p, cap, rfl, hl, fun h0 => ?_⟩
  obtain ⟨b, off, rfl, hB, hc⟩ := hc h0
  exact ⟨b, off, rfl, hB, fun j hj => (hb.cell (p := ⟨b, off + j, none⟩) hB).trans (hc j hj)⟩
theorem U32s.mono {B B' : Nat} {w : World} {v : Value} {ds : List Nat} (h : U32s B w v ds) (hb : B ≤ B') : U32s B' w v ds := by
  obtain ⟨p, cap, rfl, hl, hc⟩ := h
  refine ⟨p, cap, rfl, hl, fun h0 => ?_⟩
  obtain ⟨b, off, rfl, hB, hc⟩ := hc h0
  exact ⟨b, off, rfl, by omega, hc⟩
theorem or_u64 (n d : Nat) (hn : n < B32) (hd : d < B32) : bits .or .u64 (IntKind.u64.wrap ((n : Int) * 4294967296)) (IntKind.u64.wrap (d : Int)) = ((d + B32 * n : Nat) : Int) := by
  unfold B32 at *
  rw [IntKind.wrap_u64, IntKind.wrap_u64]
  rw [show ((n : Int) * 4294967296) % 18446744073709551616 = (n : Int) * 4294967296 by omega, show (d : Int) % 18446744073709551616 = d by omega]
  rw [bits_join .u64 64 (by decide) (fun n h0 h1 => by rw [IntKind.wrap_u64]; omega) 32 _ _ (by omega) (by omega) (by omega) (by omega) (by omega) (by omega)]
  omega
theorem u32_inj {a b : Nat} (h : some (Value.int .u32 (a : Int)) = some (Value.int .u32 (b : Int))) : a = b := by
  simp only [Option.some.injEq, Value.int.injEq, true_and] at h; omega
theorem digs_lt_maxLen {n : Nat} (h : n ≤ maxLen) : n ≤ 9223372036854775807 := by unfold maxLen at h; exact h
set_option maxRecDepth 100000 in
set_option maxHeartbeats 2000000 in
theorem length_calls (v : Value) (ds : List Nat) (w : World) (hu : U32s w.heap.size w v ds) :
    Calls Tryz.prog 79 #[v] w fun e w' => e = .returned (.int .i64 ((strip ds).length : Nat)) ∧ Below w.heap.size w w' := by
  obtain ⟨p, cap, rfl, hl, hc⟩ := hu
  refine (callsIn_wide (n := 5)).1 ?_
  refine callsIn_of_wp_marks Tryz.func79 rfl trivial ?_ rfl
  simp only [Tryz.ntmps79, List.size_toArray, List.length_cons, List.length_nil, Nat.reduceAdd, Nat.reduceSub, Array.replicate_succ, Array.replicate_zero, List.push_toArray, List.append_toArray, List.nil_append, List.cons_append]
  gi_wp2_with (refine ⟨trivial, ?_⟩; gi_at_call 98; refine (callsIn_wide.2 (down_calls _ _ _ _)).mono ?_; rintro e w' ⟨rfl, rfl⟩)
  have bR := Boxed.new w 3 (.int .i64 0)
  have bN := Boxed.new (w.alloc (.cells #[.int .i64 0] 3)) 23 (.slice p ds.length cap)
  rw [World.size_alloc] at bN
  have hB0 : Below w.heap.size w ((w.alloc (.cells #[.int .i64 0] 3)).alloc (.cells #[.slice p ds.length cap] 23)) := ((Below.refl _ w).alloc (Nat.le_refl _) _).alloc (by simp) _
  have h1 : 1 ≤ 5 := by decide
  have hro : Fence.wide.round = none := rfl
  refine wpIn_rangeFunc_S (α := Nat × Nat) hro h1 (gf := 119) (lb := #[.pointer (some ⟨w.heap.size + 1, 0, none⟩)]) rfl trivial (enters_of Tryz.func119 (by kernel_rfl) rfl)
    (down1_seq 4 (by decide) (w.heap.size + 1) p ds.length cap hl) (fun _ => rfl)
    (fun s W => (s ≤ ds.length ∧ (∀ j, s ≤ j → j < ds.length → ds[j]?.getD 0 = 0) ∧ Boxed W w.heap.size 3 (.int .i64 0) ∧ Boxed W (w.heap.size + 1) 23 (.slice p ds.length cap)) ∧ Below w.heap.size w W)
    (fun c W => (c = .ret ∧ Boxed W w.heap.size 3 (.int .i64 ((strip ds).length : Nat))) ∧ Below w.heap.size w W)
    (OwnFrom.and (Own.from (fun s A B row hs hg hr => ⟨hs.1, hs.2.1, boxed_own _ _ (fun _ => _) () _ _ _ hs.2.2.1 hg hr, boxed_own _ _ (fun _ => _) () _ _ _ hs.2.2.2 hg hr⟩) _) (ownFrom_below (Nat.le_refl _) (by simp; omega)))
    (fun c => OwnFrom.and (Own.from (fun s A B row hs hg hr => ⟨hs.1, boxed_own _ _ (fun _ => _) () _ _ _ hs.2 hg hr⟩) _) (ownFrom_below (Nat.le_refl _) (by simp; omega)))
    (fun s x => Own.from (fun _ A B row hs hg hr => by obtain ⟨b, off, e, h⟩ := hs; exact ⟨b, off, e, cell_kept h hg hr⟩) _)
    ?wk ⟨⟨Nat.le_refl _, fun j a b => by omega, bR.alloc _, bN⟩, hB0⟩
    (fun x => { tmps := #[.slice p ds.length cap, undef, .pointer (some ⟨w.heap.size, 0, none⟩), .int .i64 (x.1 : Int), .int .u32 (x.2 : Int), .slice p ds.length cap, .func (.func 119) #[] #[.pointer (some ⟨w.heap.size + 1, 0, none⟩)], .int .i64 (x.1 : Int), .int .u32 (x.2 : Int), undef, undef, undef, undef], defers := [] }) ?assign ?body ?done ?stop
  case wk =>
    rintro s W ⟨⟨hs, _, _, hb⟩, hB⟩
    refine ⟨hs, hb.cell, fun k hk => ?_⟩
    obtain ⟨b, off, rfl, hlt, hcs⟩ := hc (by omega)
    exact ⟨b, off, _, rfl, (hB.cell (p := ⟨b, off + k, none⟩) hlt).trans (hcs k (by omega))⟩
  case assign =>
    intro l x W K hK
    gi_wp2
    exact hK
  case body =>
    rintro l s ⟨k, d⟩ s2 W ⟨⟨hs, hz, hbr, hbn⟩, hB⟩ ⟨h1, h2⟩ ⟨b, off, rfl, hcell⟩
    dsimp only at h1 h2 hcell ⊢
    subst h2; subst h1
    obtain ⟨b', off', e, hlt, hcs⟩ := hc (by omega)
    cases e
    have hd : d = ds[s2]?.getD 0 := by
      have := (hB.cell (p := ⟨b, off + s2, none⟩) hlt).trans (hcs s2 (by omega))
      rw [hcell] at this; exact u32_inj this
    have hlm := digs_lt_maxLen hl
    have hcr := hbr.cell
    have hfr := hbr.frozen
    clear hc hcs
    by_cases h0 : d = 0
    · subst h0
      have hz2 : ∀ j, s2 ≤ j → j < ds.length → ds[j]?.getD 0 = 0 := fun j a b => by
        by_cases e : j = s2
        · subst e; exact hd.symm
        · exact hz j (by omega) b
      have Hz2 := Lib.hid hz2
      clear hd hz hz2
      gi_wp2
      exact ⟨(KeepsOthers.refl _).from _, ⟨by omega, Hz2.out, hbr, hbn⟩, hB⟩
    · have ht : ((d : Int) != 0) = true := by simp [h0]
      have hst := strip_length_of (ds := ds) (k := s2) (by omega) (by omega) (fun j a b => hz j (by omega) b)
      have Hst := Lib.hid hst
      have Hd := Lib.hid hd
      clear hst hd hz
      gi_wp2
      exact ⟨(KeepsOthers.setCell _ _ _).from _, ⟨rfl, by rw [Hst.out]; exact hbr.set _⟩, hB.setCell (p := ⟨w.heap.size, 0, none⟩) (Nat.le_refl _) _⟩
  case done =>
    rintro D s W hD rfl ⟨⟨hs, hz, hbr, hbn⟩, hB⟩ hK
    have hcr := hbr.cell
    have hfr := hbr.frozen
    have hst := strip_length_zero (fun j hj => hz j (Nat.zero_le _) hj)
    have hK2 := (KeepsOthers.setCell W ⟨w.heap.size, 0, none⟩ (.int .i64 0)).same D _ hK rfl
    have hc5 := cell_kept (hbr.set (.int .i64 0)).cell (grownBy_putObj' _ D (.deferred none)) (fun r e => by cases e; exact ⟨_, hK2, rfl⟩)
    have Hst := Lib.hid hst
    clear hz hst
    gi_wp2
    refine endM hK2 (v := .int .i64 0) (by simp [results, Tryz.f79, go_sem, hc5]) ⟨by rw [Hst.out]; rfl, (hB.setCell (p := ⟨w.heap.size, 0, none⟩) (Nat.le_refl _) _).trans (belowK_b (w := w) (Nat.le_refl _) _ D _ _ (by simp at hD; omega) hK2 rfl rfl)⟩
  case stop =>
    rintro D c W hD ⟨⟨rfl, hbr⟩, hB⟩ hK
    have hc5 := cell_kept hbr.cell (grownBy_putObj' _ D (.deferred none)) (fun r e => by cases e; exact ⟨_, hK, rfl⟩)
    gi_wp2
    refine endM hK (v := .int .i64 ((strip ds).length : Nat)) (by simp [results, Tryz.f79, go_sem, hc5]) ⟨rfl, hB.trans (belowK_b (w := w) (Nat.le_refl _) W D _ _ (by simp at hD; omega) hK rfl rfl)⟩
end Go.Proofs.YtegjcikofmphjaaGreatDoor
/- Arrays of 65 digits: their blocks, and the laws that load and store them whole. -/
namespace Go.Proofs.YtegjcikofmphjaaGreatDoor
open Go Go.RowKit Go.Shelf
def arr (xs : List Nat) : Array Value := (xs.map fun (d : Nat) => Value.int .u32 (d : Int)).toArray
theorem arr_size (xs : List Nat) : (arr xs).size = xs.length := by simp [arr]
theorem arr_get (xs : List Nat) (j : Nat) (h : j < xs.length) : (arr xs)[j]? = some (.int .u32 ((xs[j]?.getD 0 : Nat) : Int)) := by simp [arr, h]
theorem arr_set (xs : List Nat) (j d : Nat) : (arr xs).setIfInBounds j (.int .u32 (d : Int)) = arr (xs.set j d) := by
  simp [arr, List.map_set]
theorem arr_one (xs : List Nat) : (arr xs).all (·.oneCell') = true := by
  simp [arr, Value.oneCell']
def RowAt (W : World) (g : Nat) (t : TypeId) (cs : Array Value) : Prop := W.heap[g]? = some (.cells cs t (0, 0))
theorem RowAt.lt {W : World} {g : Nat} {t : TypeId} {cs : Array Value} (h : RowAt W g t cs) : g < W.heap.size := (Array.getElem?_eq_some_iff.1 h).1
theorem RowAt.cell {W : World} {g : Nat} {t : TypeId} {cs : Array Value} (h : RowAt W g t cs) (j : Nat) : W.cell? ⟨g, j, none⟩ = cs[j]? := cell_of_row W g j cs t (0, 0) h
theorem RowAt.frozen {W : World} {g : Nat} {t : TypeId} {cs : Array Value} (h : RowAt W g t cs) (j : Nat) : W.frozen? ⟨g, j, none⟩ = false := frozen_of_row W g j cs t h
theorem RowAt.new (W : World) (t : TypeId) (cs : Array Value) : RowAt (W.alloc (.cells cs t)) W.heap.size t cs := World.alloc_heap_new W _
theorem RowAt.new' {W : World} {g : Nat} (t : TypeId) (cs : Array Value) (hg : g = W.heap.size) : RowAt (W.alloc (.cells cs t)) g t cs := by subst hg; exact RowAt.new W t cs
theorem RowAt.alloc {W : World} {g : Nat} {t : TypeId} {cs : Array Value} (h : RowAt W g t cs) (o : Obj) : RowAt (W.alloc o) g t cs := (heap_alloc_old W o g h.lt).trans h
theorem RowAt.below {B : Nat} {W W' : World} {g : Nat} {t : TypeId} {cs : Array Value} (h : RowAt W g t cs) (hb : Below B W W') (hg : g < B) : RowAt W' g t cs := (hb.block g hg).trans h
theorem RowAt.set {W : World} {g : Nat} {t : TypeId} {cs : Array Value} (h : RowAt W g t cs) (i : Nat) (v : Value) : RowAt (W.setCell ⟨g, i, none⟩ v) g t (cs.setIfInBounds i v) := heap_setCell_same W g i cs t v h
theorem RowAt.setOther {W : World} {g : Nat} {t : TypeId} {cs : Array Value} (h : RowAt W g t cs) (a : Addr) (v : Value) (hne : g ≠ a.block) : RowAt (W.setCell a v) g t cs := (heap_setCell_other W a g v hne).trans h
theorem RowAt.setRow {W : World} {g : Nat} {t : TypeId} {cs : Array Value} (h : RowAt W g t cs) (cs' : Array Value) : RowAt (W.setRow g cs') g t cs' := setRow_heap W g cs cs' t _ h
theorem RowAt.setRowOther {W : World} {g k : Nat} {t : TypeId} {cs : Array Value} (h : RowAt W g t cs) (cs' : Array Value) (hne : g ≠ k) : RowAt (W.setRow k cs') g t cs := (setRow_other W k g cs' hne).trans h
theorem RowAt.drew {W : World} {g : Nat} {t : TypeId} {cs : Array Value} (h : RowAt W g t cs) : RowAt W.drew g t cs := h
theorem RowAt.boxed {W : World} {g : Nat} {t : TypeId} {v : Value} (h : RowAt W g t #[v]) : Boxed W g t v := h
theorem RowAt.ofBoxed {W : World} {g : Nat} {t : TypeId} {v : Value} (h : Boxed W g t v) : RowAt W g t #[v] := h
theorem RowAt.own {β : Type} (g : Nat) (t : TypeId) (f : β → Array Value) : Own (fun s W => RowAt W g t (f s)) := fun s X Y row hs hg hrow => by
  have hne : some g ≠ row := fun e => by obtain ⟨o, ho, hc⟩ := hrow g e.symm; rw [show X.heap[g]? = _ from hs] at ho; cases ho; cases hc
  exact (hg.block g (RowAt.lt hs) (fun e => hne e)).trans hs
theorem below_setRow2 {B g : Nat} {w0 w : World} (hb : Below B w0 w) (hBg : B ≤ g) (cs : Array Value) : Below B w0 (w.setRow g cs) :=
  hb.trans ⟨rfl, rfl, rfl, by simp [World.setRow], fun k hk => setRow_other w g k cs (by omega)⟩
theorem row_info : (Tryz.prog.info? 89).map (·.size) = some 65 := by kernel_rfl
theorem zero_row : Tryz.zeroCells89 = arr (List.replicate 65 0) := by kernel_rfl
theorem store_row {ops : Array Oper} {rest : List Oper} {o : Oper} {a : Act} {w : World} {Q : Exit → Act → World → Prop} (hgd : o.guard = none) (x y : Operand) (ho : o.op = .store 89 x y)
    (g : Nat) (hx : a.eval x = .pointer (some ⟨g, 0, none⟩)) (xs : List Nat) (hxs : xs.length = 65) (hy : a.eval y = .agg (arr xs)) (t : TypeId) (old : Array Value) (hg : RowAt w g t old) (hold : old.size = 65)
    (h : wpList Tryz.prog ops Q rest (a.put o.dst undef) (w.setRow g (arr xs))) : wpList Tryz.prog ops Q (o :: rest) a w :=
  wpList_plain hgd fun _ hK => wp_store_row 89 x y ho g (arr xs) hx hy t old hg (by rw [row_info, arr_size, hxs]) (by rw [arr_size, hold, hxs]) (arr_one xs) (hK _ _ h)
theorem load_row {ops : Array Oper} {rest : List Oper} {o : Oper} {a : Act} {w : World} {Q : Exit → Act → World → Prop} (hgd : o.guard = none) (x : Operand) (ho : o.op = .load 89 x)
    (g : Nat) (hx : a.eval x = .pointer (some ⟨g, 0, none⟩)) (xs : List Nat) (hxs : xs.length = 65) (t : TypeId) (hg : RowAt w g t (arr xs))
    (h : wpList Tryz.prog ops Q rest (a.put o.dst (.agg (arr xs))) w) : wpList Tryz.prog ops Q (o :: rest) a w :=
  wpList_load_row hgd 89 x ho g hx t (arr xs) (0, 0) _ hg Tryz.underlying89 rfl (by rw [row_info, arr_size, hxs]) h
theorem ret_row {fn : Func} {R : Ending → World → Prop} {tmps : Array Value} {w : World} {p : Tmp} (hres : fn.results = #[.cell p 89]) (g : Nat) (hp : tmps.getD p undef = .pointer (some ⟨g, 0, none⟩)) (xs : List Nat) (hxs : xs.length = 65)
    (t : TypeId) (hg : RowAt w g t (arr xs)) (hR : R (.returned (.agg (arr xs))) w) : bodyPost Tryz.prog fn R .ret { tmps, defers := [] } w :=
  bodyPost_ret (results_cell_row hres _ _ _ _ _ _ _ hp hg Tryz.underlying89 rfl (by rw [row_info, arr_size, hxs])) rfl hR
theorem info_u32 : (Tryz.prog.info? 87).map (fun i => (i.zero, i.size, i.bytes)) = some (some (.int .u32 0), 1, 4) := by kernel_rfl
theorem size_u32 : (Tryz.prog.info? 87).map (·.size) = some 1 := by kernel_rfl
theorem madeCells_u32 (n : Nat) : madeCells #[Value.int .u32 0] n = arr (List.replicate n 0) := by
  apply Array.ext
  · simp [madeCells, arr]
  · intro i h1 h2
    simp [madeCells, arr, Nat.mod_one]
theorem make_row {ops : Array Oper} {rest : List Oper} {o : Oper} {a : Act} {w : World} {Q : Exit → Act → World → Prop} (hgd : o.guard = none) (l c : Operand) (ho : o.op = .makeSlice 23 l c)
    (n : Nat) (hl : a.eval l = .int .i64 n) (hc : a.eval c = .int .i64 n) (hn : n ≤ 70368744177664)
    (h : wpList Tryz.prog ops Q rest (a.put o.dst (.slice (some ⟨w.heap.size, 0, none⟩) n n)) (w.alloc (.cells (arr (List.replicate n 0)) 87))) : wpList Tryz.prog ops Q (o :: rest) a w := by
  refine wpList_plain hgd fun K hK => ?_
  obtain ⟨i, hi, hz, hs, hb⟩ := info_parts info_u32
  have hr := run_make (P := Tryz.prog) w 23 87 i (.int .u32 0) Tryz.underlying23 hi hz .i64 .i64 n n (by omega) (Int.le_refl _) (by rw [hb]; omega) (by omega)
  rw [hs] at hr
  simp only [Int.toNat_natCast, Nat.mul_one] at hr
  rw [show (Value.int .u32 0).cells = #[Value.int .u32 0] from rfl, madeCells_u32] at hr
  unfold Oper.wp
  simp [execOp, ho, hl, hc, hr, Result.andThen]
  exact hK _ _ h
theorem copy_row {ops : Array Oper} {rest : List Oper} {o : Oper} {a : Act} {w : World} {Q : Exit → Act → World → Prop} (hgd : o.guard = none) (d s : Operand)
    (ho : o.op = .call { callee := .builtin .copy, args := #[d, s], argTypes := #[23, 23] })
    (g n : Nat) (old xs : List Nat) (ad : Addr) (sLen sCap : Nat) (hd : a.eval d = .slice (some ⟨g, 0, none⟩) n n) (hs : a.eval s = .slice (some ad) sLen sCap)
    (hg : RowAt w g 87 (arr old)) (hold : old.length = n) (hxs : xs.length = n) (hle : n ≤ sLen) (hsrc : ∀ j, j < n → w.cell? (ad.add j) = some (.int .u32 ((xs[j]?.getD 0 : Nat) : Int)))
    (h : wpList Tryz.prog ops Q rest (a.put o.dst (goInt n)) (w.setRow g (arr xs))) : wpList Tryz.prog ops Q (o :: rest) a w := by
  refine wpList_copy_own hgd d s 23 23 ho 87 Tryz.underlying23 size_u32 g 0 n n ad sLen sCap hd hs (arr old) 87 hg (arr xs).toList (by rw [show Nat.min sLen n = n from Nat.min_eq_right hle]; simp [arr_size, hxs]) ?_ (by simp [arr_size, hxs, hold]) ?_ ?_
  · intro j v hv
    have hj : j < xs.length := by
      have := (List.getElem?_eq_some_iff.1 hv).1; simpa [arr_size] using this
    rw [hsrc j (by omega)]
    have := arr_get xs j hj
    rw [← Array.getElem?_toList, hv] at this
    exact this.symm
  · intro v hv
    have := Array.all_eq_true_iff_forall_mem.1 (arr_one xs) v (by simpa using hv)
    exact this
  · have e : ((arr old).toList.take 0 ++ ((arr xs).toList ++ (arr old).toList.drop (0 + (arr xs).toList.length))).toArray = arr xs := by
      rw [List.take_zero, List.nil_append, List.drop_eq_nil_of_le (by simp [arr_size, hxs, hold]), List.append_nil, Array.toArray_toList]
    rw [e]
    simpa [arr_size, hxs] using h
/-! Numbers in their blocks: two cells, the sign and the slice. -/
def numCells (neg : Bool) (p : Option Addr) (n c : Nat) : Array Value := #[.bool neg, .slice p n c]
theorem num_info : (Tryz.prog.info? 25).map (·.size) = some 2 := by kernel_rfl
theorem numCells_one (neg : Bool) (p : Option Addr) (n c : Nat) : (numCells neg p n c).all (·.oneCell') = true := by simp [numCells, Value.oneCell']
theorem store_num {ops : Array Oper} {rest : List Oper} {o : Oper} {a : Act} {w : World} {Q : Exit → Act → World → Prop} (hgd : o.guard = none) (x y : Operand) (ho : o.op = .store 25 x y)
    (g : Nat) (hx : a.eval x = .pointer (some ⟨g, 0, none⟩)) (neg : Bool) (p : Option Addr) (n c : Nat) (hy : a.eval y = .agg #[.bool neg, .slice p n c]) (t : TypeId) (old : Array Value) (hg : RowAt w g t old) (hold : old.size = 2)
    (h : wpList Tryz.prog ops Q rest (a.put o.dst undef) (w.setRow g (numCells neg p n c))) : wpList Tryz.prog ops Q (o :: rest) a w :=
  wpList_plain hgd fun _ hK => wp_store_row 25 x y ho g (numCells neg p n c) hx hy t old hg num_info hold (numCells_one ..) (hK _ _ h)
theorem load_num {ops : Array Oper} {rest : List Oper} {o : Oper} {a : Act} {w : World} {Q : Exit → Act → World → Prop} (hgd : o.guard = none) (x : Operand) (ho : o.op = .load 25 x)
    (g : Nat) (hx : a.eval x = .pointer (some ⟨g, 0, none⟩)) (neg : Bool) (p : Option Addr) (n c : Nat) (t : TypeId) (hg : RowAt w g t (numCells neg p n c))
    (h : wpList Tryz.prog ops Q rest (a.put o.dst (.agg #[.bool neg, .slice p n c])) w) : wpList Tryz.prog ops Q (o :: rest) a w :=
  wpList_load_row hgd 25 x ho g hx t (numCells neg p n c) (0, 0) _ hg Tryz.underlying25 rfl num_info h
theorem ret_num {fn : Func} {R : Ending → World → Prop} {tmps : Array Value} {w : World} {r u : Tmp} (hres : fn.results = #[.cell r 25, .tmp u]) (g : Nat) (hp : tmps.getD r undef = .pointer (some ⟨g, 0, none⟩)) (ok : Bool) (hu : tmps.getD u undef = .bool ok)
    (neg : Bool) (p : Option Addr) (n c : Nat) (t : TypeId) (hg : RowAt w g t (numCells neg p n c)) (hR : R (.returned (.tuple #[.agg #[.bool neg, .slice p n c], .bool ok])) w) : bodyPost Tryz.prog fn R .ret { tmps, defers := [] } w := by
  refine bodyPost_ret (v := .tuple #[.agg #[.bool neg, .slice p n c], .bool ok]) ?_ rfl hR
  have h1 := results_cell_tmp hres tmps Tryz.prog w
  rw [hp, hu] at h1
  have h2 := run_loadVar_row (P := Tryz.prog) w g t 25 (numCells neg p n c) (0, 0) _ hg Tryz.underlying25 rfl num_info
  rw [h1]
  simp only [asAddr, Sem.run_pure, Result.andThen]
  rw [h2]; rfl
theorem ret_num1 {fn : Func} {R : Ending → World → Prop} {tmps : Array Value} {w : World} {r : Tmp} (hres : fn.results = #[.cell r 25]) (g : Nat) (hp : tmps.getD r undef = .pointer (some ⟨g, 0, none⟩))
    (neg : Bool) (p : Option Addr) (n c : Nat) (t : TypeId) (hg : RowAt w g t (numCells neg p n c)) (hR : R (.returned (.agg #[.bool neg, .slice p n c])) w) : bodyPost Tryz.prog fn R .ret { tmps, defers := [] } w :=
  bodyPost_ret (results_cell_row hres _ _ _ _ _ _ _ hp hg Tryz.underlying25 rfl num_info) rfl hR
theorem cell_set2 (W : World) (g i j : Nat) (u v : Value) (a : Addr) (x : Option Value) (h : W.cell? a = x) (hne : a.block ≠ g) : ((W.setCell ⟨g, i, none⟩ u).setCell ⟨g, j, none⟩ v).cell? a = x :=
  (World.cell?_of_block ((heap_setCell_other _ ⟨g, j, none⟩ a.block v hne).trans (heap_setCell_other _ ⟨g, i, none⟩ a.block u hne))).trans h
theorem numCells_set {W : World} {g : Nat} {t : TypeId} {cs : Array Value} (h : RowAt W g t cs) (hs : cs.size = 2) (neg : Bool) (p : Option Addr) (n c : Nat) :
    RowAt ((W.setCell ⟨g, 0, none⟩ (.bool neg)).setCell ⟨g, 1, none⟩ (.slice p n c)) g t (numCells neg p n c) := by
  have h2 := (h.set 0 (.bool neg)).set 1 (.slice p n c)
  have e : (cs.setIfInBounds 0 (Value.bool neg)).setIfInBounds 1 (.slice p n c) = numCells neg p n c := by
    obtain ⟨l⟩ := cs
    match l, hs with
    | [x, y], _ => rfl
  rwa [e] at h2
theorem RowAt.num0 {W : World} {g : Nat} {t : TypeId} {neg : Bool} {p : Option Addr} {n c : Nat} (h : RowAt W g t (numCells neg p n c)) : W.cell? ⟨g, 0, none⟩ = some (.bool neg) := h.cell 0
theorem RowAt.num1 {W : World} {g : Nat} {t : TypeId} {neg : Bool} {p : Option Addr} {n c : Nat} (h : RowAt W g t (numCells neg p n c)) : W.cell? ⟨g, 1, none⟩ = some (.slice p n c) := h.cell 1
end Go.Proofs.YtegjcikofmphjaaGreatDoor
/- Layer 1: word, order. -/
namespace Go.Proofs.YtegjcikofmphjaaGreatDoor
open Go Go.RowKit Go.Shelf
attribute [local go_sem] Oper.semAt_some
set_option maxRecDepth 100000 in
set_option maxHeartbeats 2000000 in
theorem word_calls (v : Value) (ds : List Nat) (w : World) (hu : U32s w.heap.size w v ds) (hd : Digits ds) (h2 : ds.length ≤ 2) :
    Calls Tryz.prog 96 #[v] w fun e w' => e = .returned (.int .u64 (val ds : Nat)) ∧ Below w.heap.size w w' := by
  obtain ⟨p, cap, rfl, hl, hc⟩ := hu
  refine (callsIn_wide (n := 5)).1 ?_
  refine callsIn_of_wp_marks Tryz.func96 rfl trivial ?_ rfl
  simp only [Tryz.ntmps96, List.size_toArray, List.length_cons, List.length_nil, Nat.reduceAdd, Nat.reduceSub, Array.replicate_succ, Array.replicate_zero, List.push_toArray, List.append_toArray, List.nil_append, List.cons_append]
  gi_wp2_with (refine ⟨trivial, ?_⟩; gi_at_call 98; refine (callsIn_wide.2 (down_calls _ _ _ _)).mono ?_; rintro e w' ⟨rfl, rfl⟩)
  have bR := Boxed.new w 85 (.int .u64 0)
  have bN := Boxed.new (w.alloc (.cells #[.int .u64 0] 85)) 23 (.slice p ds.length cap)
  rw [World.size_alloc] at bN
  have hB0 : Below w.heap.size w ((w.alloc (.cells #[.int .u64 0] 85)).alloc (.cells #[.slice p ds.length cap] 23)) := ((Below.refl _ w).alloc (Nat.le_refl _) _).alloc (by simp) _
  have h1 : 1 ≤ 5 := by decide
  have hro : Fence.wide.round = none := rfl
  refine wpIn_rangeFunc_S (α := Nat × Nat) hro h1 (gf := 119) (lb := #[.pointer (some ⟨w.heap.size + 1, 0, none⟩)]) rfl trivial (enters_of Tryz.func119 (by kernel_rfl) rfl)
    (down1_seq 4 (by decide) (w.heap.size + 1) p ds.length cap hl) (fun _ => rfl)
    (fun s W => (s ≤ ds.length ∧ Boxed W w.heap.size 85 (.int .u64 (val (ds.drop s) : Nat)) ∧ Boxed W (w.heap.size + 1) 23 (.slice p ds.length cap)) ∧ Below w.heap.size w W)
    (fun _ _ => False)
    (OwnFrom.and (Own.from (fun s A B row hs hg hr => ⟨hs.1, boxed_own _ _ (fun _ => _) () _ _ _ hs.2.1 hg hr, boxed_own _ _ (fun _ => _) () _ _ _ hs.2.2 hg hr⟩) _) (ownFrom_below (Nat.le_refl _) (by simp; omega)))
    (fun _ _ _ _ _ hs _ _ => hs)
    (fun s x => Own.from (fun _ A B row hs hg hr => by obtain ⟨b, off, e, h⟩ := hs; exact ⟨b, off, e, cell_kept h hg hr⟩) _)
    ?wk ⟨⟨Nat.le_refl _, by simpa [val] using bR.alloc _, bN⟩, hB0⟩
    (fun x => { tmps := #[.slice p ds.length cap, undef, .int .u64 0, .pointer (some ⟨w.heap.size, 0, none⟩), undef, .int .u32 (x.2 : Int), .slice p ds.length cap, .func (.func 119) #[] #[.pointer (some ⟨w.heap.size + 1, 0, none⟩)], .int .i64 (x.1 : Int), .int .u32 (x.2 : Int), undef, undef, undef, undef, undef, undef], defers := [] }) ?assign ?body ?done ?stop
  case wk =>
    rintro s W ⟨⟨hs, _, hb⟩, hB⟩
    refine ⟨hs, hb.cell, fun k hk => ?_⟩
    obtain ⟨b, off, rfl, hlt, hcs⟩ := hc (by omega)
    exact ⟨b, off, _, rfl, (hB.cell (p := ⟨b, off + k, none⟩) hlt).trans (hcs k (by omega))⟩
  case assign =>
    intro l x W K hK
    gi_wp2
    exact hK
  case body =>
    rintro l s ⟨k, d⟩ s2 W ⟨⟨hs, hbr, hbn⟩, hB⟩ ⟨h1, h2⟩ ⟨b, off, rfl, hcell⟩
    dsimp only at h1 h2 hcell ⊢
    subst h2; subst h1
    obtain ⟨b', off', e, hlt, hcs⟩ := hc (by omega)
    cases e
    have hd0 : d = ds[s2]?.getD 0 := by
      have := (hB.cell (p := ⟨b, off + s2, none⟩) hlt).trans (hcs s2 (by omega))
      rw [hcell] at this; exact u32_inj this
    have hlm := digs_lt_maxLen hl
    have hcr := hbr.cell
    have hfr := hbr.frozen
    have hv := val_drop (ds := ds) (s := s2) (by omega)
    rw [← hd0] at hv
    have hv1 : val (ds.drop (s2 + 1)) < B32 := by have := val_drop_lt hd (s := s2 + 1) (k := 1) (by omega); rwa [Nat.pow_one] at this
    have hdl : d < B32 := by rw [hd0]; exact hd.getD _
    have ho := or_u64 _ d hv1 hdl
    rw [← hv] at ho
    have Ho := Lib.hid ho
    clear hc hcs hd0 hv ho hv1 hdl
    gi_wp2
    rw [Ho.out]
    exact ⟨(KeepsOthers.setCell _ _ _).from _, ⟨by omega, hbr.set _, hbn.other (by omega) _⟩, hB.setCell (p := ⟨w.heap.size, 0, none⟩) (Nat.le_refl _) _⟩
  case done =>
    rintro D s W hD rfl ⟨⟨hs, hbr, hbn⟩, hB⟩ hK
    have hcr := hbr.cell
    gi_wp2
    refine endM hK (v := .int .u64 (val ds : Nat)) (by simp [results, Tryz.f96, go_sem]) ⟨rfl, hB.trans (belowK_b (w := w) (Nat.le_refl _) W D _ _ (by simp at hD; omega) hK rfl rfl)⟩
  case stop =>
    rintro D c W hD h hK
    exact h.elim
end Go.Proofs.YtegjcikofmphjaaGreatDoor
/- Layer 1: order. -/
namespace Go.Proofs.YtegjcikofmphjaaGreatDoor
open Go Go.RowKit Go.Shelf
attribute [local go_sem] Oper.semAt_some
set_option maxRecDepth 100000 in
set_option maxHeartbeats 2000000 in
theorem order_len (v u : Value) (xs ys : List Nat) (w : World) (hx : U32s w.heap.size w v xs) (hy : U32s w.heap.size w u ys) (hne : xs.length ≠ ys.length) :
    Calls Tryz.prog 93 #[v, u] w fun e w' => e = .returned (.int .i64 (cmpL xs ys)) ∧ Below w.heap.size w w' := by
  obtain ⟨p, cap, rfl, hl, hc⟩ := hx
  obtain ⟨q, cap2, rfl, hl2, hc2⟩ := hy
  have h1 := digs_lt_maxLen hl
  have h2 := digs_lt_maxLen hl2
  clear hc hc2 hl hl2
  have hcmp : (xs.length < ys.length ∧ cmpL xs ys = -1) ∨ (ys.length < xs.length ∧ cmpL xs ys = 1) := by
    unfold cmpL
    by_cases h : xs.length < ys.length
    · exact .inl ⟨h, by rw [if_pos h]⟩
    · exact .inr ⟨by omega, by rw [if_neg h, if_pos (by omega)]⟩
  refine (callsIn_wide (n := 5)).1 ?_
  refine callsIn_of_wp_marks Tryz.func93 rfl trivial ?_ rfl
  simp only [Tryz.ntmps93, List.size_toArray, List.length_cons, List.length_nil, Nat.reduceAdd, Nat.reduceSub, Array.replicate_succ, Array.replicate_zero, List.push_toArray, List.append_toArray, List.nil_append, List.cons_append]
  rcases hcmp with ⟨hlt, hcmp⟩ | ⟨hlt, hcmp⟩
  · rw [hcmp]
    clear hcmp
    gi_wp2
    exact endM0 (v := .int .i64 (-1)) (by simp [results, Tryz.f93, go_sem]) ⟨rfl, ((Below.refl _ w).alloc (Nat.le_refl _) _).alloc (by simp) _⟩
  · rw [hcmp]
    clear hcmp
    have hnl : ((xs.length : Int) < (ys.length : Int)) = False := by simp; omega
    gi_wp2
    exact endM0 (v := .int .i64 1) (by simp [results, Tryz.f93, go_sem]) ⟨rfl, ((Below.refl _ w).alloc (Nat.le_refl _) _).alloc (by simp) _⟩
set_option maxRecDepth 100000 in
set_option maxHeartbeats 2000000 in
theorem order_eq (v u : Value) (xs ys : List Nat) (w : World) (hx : U32s w.heap.size w v xs) (hy : U32s w.heap.size w u ys) (he : xs.length = ys.length) (hdx : Digits xs) (hdy : Digits ys) :
    Calls Tryz.prog 93 #[v, u] w fun e w' => e = .returned (.int .i64 (sgn (val xs) (val ys))) ∧ Below w.heap.size w w' := by
  obtain ⟨p, cap, rfl, hl, hc⟩ := hx
  obtain ⟨q, cap2, rfl, hl2, hc2⟩ := hy
  have hlm := digs_lt_maxLen hl
  rw [← he] at hc2 ⊢
  obtain ⟨n, hn⟩ : ∃ n, n = xs.length := ⟨_, rfl⟩
  have Hn := Lib.hid hn
  have He := Lib.hid he
  clear hn he
  rw [← Hn.out] at hlm hc hc2 ⊢
  have hnn : ((n : Int) != n) = false := by simp
  refine (callsIn_wide (n := 5)).1 ?_
  refine callsIn_of_wp_marks Tryz.func93 rfl trivial ?_ rfl
  simp only [Tryz.ntmps93, List.size_toArray, List.length_cons, List.length_nil, Nat.reduceAdd, Nat.reduceSub, Array.replicate_succ, Array.replicate_zero, List.push_toArray, List.append_toArray, List.nil_append, List.cons_append]
  gi_wp2_with (refine ⟨trivial, ?_⟩; gi_at_call 98; refine (callsIn_wide.2 (down_calls _ _ _ _)).mono ?_; rintro e w' ⟨rfl, rfl⟩)
  have bY := Boxed.new w 23 (.slice q n cap2)
  have bR := Boxed.new (w.alloc (.cells #[.slice q n cap2] 23)) 3 (.int .i64 0)
  have bN := Boxed.new ((w.alloc (.cells #[.slice q n cap2] 23)).alloc (.cells #[.int .i64 0] 3)) 23 (.slice p n cap)
  simp only [World.size_alloc] at bN bR
  have hB0 : Below w.heap.size w (((w.alloc (.cells #[.slice q n cap2] 23)).alloc (.cells #[.int .i64 0] 3)).alloc (.cells #[.slice p n cap] 23)) := (((Below.refl _ w).alloc (Nat.le_refl _) _).alloc (by simp) _).alloc (by simp; omega) _
  have h1 : 1 ≤ 5 := by decide
  have hro : Fence.wide.round = none := rfl
  refine wpIn_rangeFunc_S (α := Nat × Nat) hro h1 (gf := 119) (lb := #[.pointer (some ⟨w.heap.size + 1 + 1, 0, none⟩)]) rfl trivial (enters_of Tryz.func119 (by kernel_rfl) rfl)
    (down1_seq 4 (by decide) (w.heap.size + 1 + 1) p n cap (by rw [Hn.out]; exact hl)) (fun _ => rfl)
    (fun s W => (s ≤ n ∧ xs.drop s = ys.drop s ∧ Boxed W w.heap.size 23 (.slice q n cap2) ∧ Boxed W (w.heap.size + 1) 3 (.int .i64 0) ∧ Boxed W (w.heap.size + 1 + 1) 23 (.slice p n cap)) ∧ Below w.heap.size w W)
    (fun c W => (c = .ret ∧ Boxed W (w.heap.size + 1) 3 (.int .i64 (sgn (val xs) (val ys)))) ∧ Below w.heap.size w W)
    (OwnFrom.and (Own.from (fun s A B row hs hg hr => ⟨hs.1, hs.2.1, boxed_own _ _ (fun _ => _) () _ _ _ hs.2.2.1 hg hr, boxed_own _ _ (fun _ => _) () _ _ _ hs.2.2.2.1 hg hr, boxed_own _ _ (fun _ => _) () _ _ _ hs.2.2.2.2 hg hr⟩) _) (ownFrom_below (Nat.le_refl _) (by simp; omega)))
    (fun c => OwnFrom.and (Own.from (fun s A B row hs hg hr => ⟨hs.1, boxed_own _ _ (fun _ => _) () _ _ _ hs.2 hg hr⟩) _) (ownFrom_below (Nat.le_refl _) (by simp; omega)))
    (fun s x => Own.from (fun _ A B row hs hg hr => by obtain ⟨b, off, e, h⟩ := hs; exact ⟨b, off, e, cell_kept h hg hr⟩) _)
    ?wk ⟨⟨Nat.le_refl _, ?start, (bY.alloc _).alloc _, bR.alloc _, bN⟩, hB0⟩
    (fun x => { tmps := #[.slice p n cap, .slice q n cap2, undef, .pointer (some ⟨w.heap.size, 0, none⟩), .pointer (some ⟨w.heap.size + 1, 0, none⟩), .int .i64 (x.1 : Int), .int .u32 (x.2 : Int), .slice p n cap, .int .i64 n, .slice q n cap2, .int .i64 n, .bool false, undef, undef, undef, undef, undef, .slice p n cap, .func (.func 119) #[] #[.pointer (some ⟨w.heap.size + 1 + 1, 0, none⟩)], .int .i64 (x.1 : Int), .int .u32 (x.2 : Int), undef, undef, undef, undef, undef, undef, undef, undef, undef, undef, undef, undef], defers := [] }) ?assign ?body ?done ?stop
  case start => rw [List.drop_eq_nil_of_le (by rw [Hn.out]; exact Nat.le_refl _), List.drop_eq_nil_of_le (by rw [Hn.out, He.out]; exact Nat.le_refl _)]
  case wk =>
    rintro s W ⟨⟨hs, _, _, _, hb⟩, hB⟩
    refine ⟨hs, hb.cell, fun k hk => ?_⟩
    obtain ⟨b, off, rfl, hlt, hcs⟩ := hc (by omega)
    exact ⟨b, off, _, rfl, (hB.cell (p := ⟨b, off + k, none⟩) hlt).trans (hcs k (by omega))⟩
  case assign =>
    intro l x W K hK
    gi_wp2
    exact hK
  case body =>
    rintro l s ⟨k, d⟩ s2 W ⟨⟨hs, hz, hby, hbr, hbn⟩, hB⟩ ⟨h1, h2⟩ ⟨b, off, rfl, hcell⟩
    dsimp only at h1 h2 hcell ⊢
    subst h2; subst h1
    have hs2 : s2 < n := hs
    obtain ⟨b', off', e, hlt, hcs⟩ := hc (Nat.lt_of_le_of_lt (Nat.zero_le _) hs2)
    obtain ⟨b2, off2, rfl, hlt2, hcs2⟩ := hc2 (Nat.lt_of_le_of_lt (Nat.zero_le _) hs2)
    cases e
    have hd0 : d = xs[s2]?.getD 0 := by
      have := (hB.cell (p := ⟨b, off + s2, none⟩) hlt).trans (hcs s2 hs2)
      rw [hcell] at this; exact u32_inj this
    have hcy := (hB.cell (p := ⟨b2, off2 + s2, none⟩) hlt2).trans (hcs2 s2 hs2)
    obtain ⟨e, he0⟩ : ∃ e, e = ys[s2]?.getD 0 := ⟨_, rfl⟩
    rw [← he0] at hcy
    have hcr := hbr.cell
    have hfr := hbr.frozen
    have hcb := hby.cell
    have Hd := Lib.hid hd0
    have He0 := Lib.hid he0
    have Hz := Lib.hid hz
    clear hc hcs hc2 hcs2 hd0 he0 hz hl hl2
    have hlx : s2 < xs.length := by rw [← Hn.out]; exact hs2
    have hly : s2 < ys.length := by rw [← He.out, ← Hn.out]; exact hs2
    rcases Nat.lt_trichotomy d e with hlt3 | heq | hgt
    · have hr : sgn (val xs) (val ys) = -1 := sgn_lt (val_lt_of_digit He.out hdx hlx Hz.out (by rw [← Hd.out, ← He0.out]; exact hlt3))
      have Hr := Lib.hid hr
      clear hr hlx hly
      gi_wp2
      exact ⟨(KeepsOthers.setCell _ _ _).from _, ⟨rfl, by rw [Hr.out]; exact hbr.set _⟩, hB.setCell (p := ⟨w.heap.size + 1, 0, none⟩) (Nat.le_succ _) _⟩
    · subst heq
      have hz2 := drop_eq_cons hlx hly Hz.out (by rw [← Hd.out, ← He0.out])
      have Hz2 := Lib.hid hz2
      clear hz2 hlx hly
      gi_wp2
      exact ⟨(KeepsOthers.refl _).from _, ⟨by omega, Hz2.out, hby, hbr, hbn⟩, hB⟩
    · have hr : sgn (val xs) (val ys) = 1 := sgn_gt (val_lt_of_digit He.out.symm hdy hly Hz.out.symm (by rw [← Hd.out, ← He0.out]; exact hgt))
      have Hr := Lib.hid hr
      clear hr hlx hly
      gi_wp2
      exact ⟨(KeepsOthers.setCell _ _ _).from _, ⟨rfl, by rw [Hr.out]; exact hbr.set _⟩, hB.setCell (p := ⟨w.heap.size + 1, 0, none⟩) (Nat.le_succ _) _⟩
  case done =>
    rintro D s W hD rfl ⟨⟨hs, hz, hby, hbr, hbn⟩, hB⟩ hK
    have hcr := hbr.cell
    have hfr := hbr.frozen
    have hst : sgn (val xs) (val ys) = 0 := by
      have : xs = ys := by simpa using hz
      rw [this]; exact sgn_eq _
    have hK2 := (KeepsOthers.setCell W ⟨w.heap.size + 1, 0, none⟩ (.int .i64 0)).same D _ hK rfl
    have hc5 := cell_kept (hbr.set (.int .i64 0)).cell (grownBy_putObj' _ D (.deferred none)) (fun r e => by cases e; exact ⟨_, hK2, rfl⟩)
    have Hst := Lib.hid hst
    clear hz hst
    gi_wp2
    refine endM hK2 (v := .int .i64 0) (by simp [results, Tryz.f93, go_sem, hc5]) ⟨by rw [Hst.out], (hB.setCell (p := ⟨w.heap.size + 1, 0, none⟩) (Nat.le_succ _) _).trans (belowK_b (w := w) (Nat.le_refl _) _ D _ _ (by simp at hD; omega) hK2 rfl rfl)⟩
  case stop =>
    rintro D c W hD ⟨⟨rfl, hbr⟩, hB⟩ hK
    have hc5 := cell_kept hbr.cell (grownBy_putObj' _ D (.deferred none)) (fun r e => by cases e; exact ⟨_, hK, rfl⟩)
    gi_wp2
    refine endM hK (v := .int .i64 (sgn (val xs) (val ys))) (by simp [results, Tryz.f93, go_sem, hc5]) ⟨rfl, hB.trans (belowK_b (w := w) (Nat.le_refl _) W D _ _ (by simp at hD; omega) hK rfl rfl)⟩
theorem order_calls (v u : Value) (xs ys : List Nat) (w : World) (hx : U32s w.heap.size w v xs) (hy : U32s w.heap.size w u ys) (hdx : Digits xs) (hdy : Digits ys) :
    Calls Tryz.prog 93 #[v, u] w fun e w' => e = .returned (.int .i64 (cmpL xs ys)) ∧ Below w.heap.size w w' := by
  by_cases he : xs.length = ys.length
  · rw [cmpL_len he]; exact order_eq v u xs ys w hx hy he hdx hdy
  · exact order_len v u xs ys w hx hy he
end Go.Proofs.YtegjcikofmphjaaGreatDoor
/- Layer 1: Right, split, the two closures of sums. -/
namespace Go.Proofs.YtegjcikofmphjaaGreatDoor
open Go Go.RowKit Go.Shelf
attribute [local go_sem] Oper.semAt_some
def rightB (neg : Bool) (ds : List Nat) : Bool := if ds.length = 0 then !neg else (decide (ds.length ≤ 64) && (ds[ds.length - 1]?.getD 0 != 0))
set_option maxRecDepth 100000 in
set_option maxHeartbeats 2000000 in
theorem right_calls (neg : Bool) (v : Value) (ds : List Nat) (w : World) (hu : U32s w.heap.size w v ds) :
    Calls Tryz.prog 65 #[.agg #[.bool neg, v]] w fun e w' => e = .returned (.bool (rightB neg ds)) ∧ Below w.heap.size w w' := by
  obtain ⟨p, cap, rfl, hl, hc⟩ := hu
  have hlm := digs_lt_maxLen hl
  clear hl
  by_cases h0 : ds.length = 0
  · have hr : rightB neg ds = !neg := by simp [rightB, h0]
    rw [hr, h0]
    clear hr hc hlm h0
    go_enter Tryz.func65, Tryz.ntmps65
    go_wp2
    go_ret
    exact ⟨rfl, (Below.refl _ w).alloc (Nat.le_refl _) _⟩
  · obtain ⟨b, off, rfl, hB, hc⟩ := hc (by omega)
    have hlast := hc (ds.length - 1) (by omega)
    obtain ⟨n, hn⟩ : ∃ n, ds.length = n + 1 := ⟨ds.length - 1, by omega⟩
    rw [hn, Nat.add_sub_cancel] at hlast
    obtain ⟨d, hd⟩ : ∃ d, d = ds[n]?.getD 0 := ⟨_, rfl⟩
    rw [← hd] at hlast
    have hr : rightB neg ds = (decide (n + 1 ≤ 64) && (d != 0)) := by simp [rightB, hn, hd]
    rw [hr, hn]
    clear hr hd hc h0
    rw [hn] at hlm
    clear hn
    by_cases h64 : n + 1 ≤ 64
    · by_cases hz : d = 0
      · subst hz
        go_enter Tryz.func65, Tryz.ntmps65
        go_wp2
        go_ret
        exact ⟨by simp, (Below.refl _ w).alloc (Nat.le_refl _) _⟩
      · have hz2 : ((d : Int) != 0) = true := by simp [hz]
        go_enter Tryz.func65, Tryz.ntmps65
        go_wp2
        go_ret
        exact ⟨by simp [h64, hz], (Below.refl _ w).alloc (Nat.le_refl _) _⟩
    · go_enter Tryz.func65, Tryz.ntmps65
      go_wp2
      go_ret
      exact ⟨by simp [h64], (Below.refl _ w).alloc (Nat.le_refl _) _⟩
def subLo (x y c : Nat) : Nat := (x + B32 - y - c) % B32
def subHi (x y c : Nat) : Nat := if x < y + c then 1 else 0
def addLo (x y c : Nat) : Nat := (x + y + c) % B32
def addHi (x y c : Nat) : Nat := (x + y + c) / B32
set_option maxRecDepth 100000 in
set_option maxHeartbeats 2000000 in
theorem sum1_calls (x y c : Nat) (hx : x < B32) (hy : y < B32) (hc : c ≤ 1) (w : World) :
    Calls Tryz.prog 113 #[.int .u32 x, .int .u32 y, .int .u32 c] w fun e w' => e = .returned (.agg #[.int .u32 (addLo x y c : Nat), .int .u32 (addHi x y c : Nat)]) ∧ Below w.heap.size w w' := by
  have e1 : ((addLo x y c : Nat) : Int) = ((x : Int) + y + c) % 4294967296 := by unfold addLo B32; omega
  have e2 : ((addHi x y c : Nat) : Int) = ((x : Int) + y + c) / 4294967296 := by unfold addHi B32; omega
  rw [e1, e2]
  clear e1 e2
  unfold B32 at *
  go_enter Tryz.func113, Tryz.ntmps113
  go_wp2
  refine bodyPost_ret (v := .agg #[.int .u32 (((x : Int) + y + c) % 4294967296), .int .u32 (((x : Int) + y + c) / 4294967296)]) (by simp [results, Tryz.f113, go_sem]) rfl ⟨rfl, (Below.refl _ w).alloc (Nat.le_refl _) _⟩
theorem sub_wrap (x y c : Nat) (hx : x < B32) (hy : y < B32) (hc : c ≤ 1) :
    IntKind.u64.wrap (IntKind.u64.wrap ((x : Int) - y) - c) % 4294967296 = ((subLo x y c : Nat) : Int) ∧ IntKind.u64.wrap (IntKind.u64.wrap ((x : Int) - y) - c) / 9223372036854775808 % 4294967296 = ((subHi x y c : Nat) : Int) := by
  unfold subLo subHi B32 at *
  rw [IntKind.wrap_u64, IntKind.wrap_u64]
  constructor
  · omega
  · split <;> omega
set_option maxRecDepth 100000 in
set_option maxHeartbeats 2000000 in
theorem difference1_calls (x y c : Nat) (hx : x < B32) (hy : y < B32) (hc : c ≤ 1) (w : World) :
    Calls Tryz.prog 114 #[.int .u32 x, .int .u32 y, .int .u32 c] w fun e w' => e = .returned (.agg #[.int .u32 (subLo x y c : Nat), .int .u32 (subHi x y c : Nat)]) ∧ Below w.heap.size w w' := by
  obtain ⟨e1, e2⟩ := sub_wrap x y c hx hy hc
  rw [← e1, ← e2]
  clear e1 e2
  unfold B32 at *
  go_enter Tryz.func114, Tryz.ntmps114
  go_wp2
  refine bodyPost_ret (v := .agg #[.int .u32 (IntKind.u64.wrap (IntKind.u64.wrap ((x : Int) - y) - c) % 4294967296), .int .u32 (IntKind.u64.wrap (IntKind.u64.wrap ((x : Int) - y) - c) / 9223372036854775808 % 4294967296)]) (by simp [results, Tryz.f114, go_sem]) rfl ⟨rfl, (Below.refl _ w).alloc (Nat.le_refl _) _⟩
def split2 (n : Nat) : List Nat := n % B32 :: n / B32 :: List.replicate 63 0
theorem split2_length (n : Nat) : (split2 n).length = 65 := by simp [split2]
theorem split2_set (n : Nat) : ((List.replicate 65 0).set 0 (n % B32)).set 1 (n / B32) = split2 n := by
  rfl
set_option maxRecDepth 100000 in
set_option maxHeartbeats 2000000 in
theorem split_calls (n : Nat) (hn : n < 18446744073709551616) (w : World) :
    Calls Tryz.prog 66 #[.int .u64 n] w fun e w' => e = .returned (.agg (arr (split2 n))) ∧ Below w.heap.size w w' := by
  have hy : (Tryz.zeroCells89.setIfInBounds 0 (Value.int .u32 ((n : Int) % 4294967296))).setIfInBounds 1 (Value.int .u32 ((n : Int) / 4294967296)) = arr (split2 n) := by
    rw [zero_row, show ((n : Int) % 4294967296) = ((n % B32 : Nat) : Int) by unfold B32; omega, show ((n : Int) / 4294967296) = ((n / B32 : Nat) : Int) by unfold B32; omega, arr_set, arr_set, split2_set]
  have Hy := Lib.hid hy
  clear hy
  go_enter Tryz.func66, Tryz.ntmps66
  go_wp2_with (refine store_row rfl (.tmp 2) (.tmp 8) rfl w.heap.size rfl (split2 n) (split2_length n) (by rw [← Hy.out]; rfl) 89 Tryz.zeroCells89 (RowAt.new w _ _) (by kernel_rfl) ?_)
  refine bodyPost_ret (results_cell_row rfl _ _ _ _ _ _ _ rfl (RowAt.setRow (RowAt.new w _ _) _) Tryz.underlying89 rfl (by rw [row_info, arr_size, split2_length])) rfl ⟨rfl, below_setRow2 ((Below.refl _ w).alloc (Nat.le_refl _) _) (Nat.le_refl _) _⟩
end Go.Proofs.YtegjcikofmphjaaGreatDoor

