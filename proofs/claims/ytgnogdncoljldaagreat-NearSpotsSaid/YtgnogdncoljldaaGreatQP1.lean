import Derived.RangeFuncNested
import Derived.RangeFuncBound
import Derived.RangeFuncCalls
import Derived.RangeFuncLeaves
import Derived.Shelf.Abstract
import Derived.Shelf.RegionOpen
import Derived.WalkKit
import Derived.OwnWalkIn
import Derived.TacticsInMore
import Derived.LoopNIn
import Derived.LoopIn
import Derived.Test.YtgnogdncoljldaaGreatProg
import Derived.IntWalk
import Derived.Outline
import Derived.Lib.Hide
import Derived.Deep.WholeRow
import Derived.Deep.MidRow
import Derived.Laws.CopyOwn
import Derived.Laws.ResultCell
set_option linter.all false
namespace Go.Proofs.YtgnogdncoljldaaGreat
open Go Go.RowKit Go.Shelf
def SeqS {σ α : Type} (F : Fence) (n : Nat) (P : Program) (g : Nat) (lb : Array Value) (encs : α → Array Value) (Wk : σ → World → Prop) (Nx : σ → α → σ → Prop) (Gd : σ → α → World → Prop) (s0 : σ) (Dn : σ → Prop) : Prop :=
 ∀ (l : Nat) (J : σ → World → Prop) (Jx : World → Prop) (W : World),
   (∀ s W1, J s W1 → Wk s W1) →
   (∀ s x s2 W1, J s W1 → Nx s x s2 → Gd s x W1 → YieldAt F (n - 1) P l (encs x) W1 fun e W2 =>
    (e = .returned (.bool true) ∧ J s2 W2) ∨ (e = .returned (.bool false) ∧ Jx W2)) →
   J s0 W →
   CallsIn F n P g (#[.func (.yield l) #[] #[]] ++ lb) W fun e W2 => (∃ v, e = .returned v) ∧ ((∃ s, Dn s ∧ J s W2) ∨ Jx W2)
def ownPostS (B : Nat) (I : World → Prop) (Ix : Code → World → Prop) (W : World) : Exit → Act → World → Prop
 | .normal, _, W2 => KeepsFrom B W W2 ∧ I W2
 | .ret, _, W2 => KeepsFrom B W W2 ∧ Ix .ret W2
 | .exit id, _, W2 => KeepsFrom B W W2 ∧ Ix (.exit id) W2
 | .goto t, _, W2 => KeepsFrom B W W2 ∧ Ix (.goto t) W2
 | .panic _, _, _ => False
 | .outgrown, _, _ => False
theorem wpIn_rangeFunc_S {F : Fence} {n : Nat} {P : Program} {σ α : Type} {g : Operand} {ps : Array Tmp} {assign body : Code} {Q : Exit → Act → World → Prop} {a : Act} {w : World}
  (hro : F.round = none) (h1 : 1 ≤ n) {gf : Nat} {lb : Array Value} (hg : a.eval g = .func (.func gf) #[] lb) (hFg : F.fn gf) (eg : ∀ args w, (callFunc gf args).run P w = .ok (.enter gf args) w)
  {encs : α → Array Value} {Wk : σ → World → Prop} {Nx : σ → α → σ → Prop} {Gd : σ → α → World → Prop} {s0 : σ} {Dn : σ → Prop}
  (hseq : SeqS F (n - 1) P gf lb encs Wk Nx Gd s0 Dn) (hps : ∀ x, (encs x).size = ps.size)
  (I : σ → World → Prop) (Ix : Code → World → Prop) (hI : OwnFrom w.heap.size I) (hIx : ∀ c, OwnFrom w.heap.size (fun (_ : Unit) W => Ix c W)) (hGd : ∀ s x, OwnFrom w.heap.size (fun (_ : Unit) W => Gd s x W))
  (hWk : ∀ s W, I s W → Wk s W) (h0 : I s0 w) (a₁ : α → Act)
  (hassign : ∀ (l : Nat) (x : α) (W : World) (K : Act → World → Prop), K (a₁ x) W →
   assign.wpIn (F.inRound l) (n - 1 - 1) P (Exit.then K (fun _ _ _ => False)) { tmps := (ps.zip (encs x)).foldl (fun t (p, v) => t.setIfInBounds p v) a.tmps, defers := [] } W)
  (hbody : ∀ (l : Nat) (s : σ) (x : α) (s2 : σ) (W : World), I s W → Nx s x s2 → Gd s x W → body.wpIn (F.inRound l) (n - 1 - 1) P (ownPostS w.heap.size (I s2) Ix W) (a₁ x) W)
  (hdone : ∀ (D : Nat) (s : σ) (W : World), w.heap.size ≤ D → Dn s → I s W → W.heap[D]? = some (.deferred (some [])) → Q .normal { a with defers := { target := .collected D, args := #[] } :: a.defers } W)
  (hstop : ∀ (D : Nat) (c : Code) (W : World), w.heap.size ≤ D → Ix c W → W.heap[D]? = some (.deferred (some [])) → c.wpIn F n P Q { a with defers := { target := .collected D, args := #[] } :: a.defers } W) :
  (Code.rangeFunc g ps assign body).wpIn F n P Q a w := by
 refine wpIn_rangeFunc ?_
 intro fn hfn
 rw [hro]
 obtain ⟨rec, hrec⟩ : ∃ rec : LoopState → Option Code → Loop, rec = fun st pe => { state := st, pending := pe, fn, tmps := a.tmps, params := ps, assign, body, defers := w.heap.size } := ⟨_, rfl⟩
 obtain ⟨W1, hW1⟩ : ∃ W1, (w.alloc (.deferred (some []))).alloc (.loop (rec .ready none)) = W1 := ⟨_, rfl⟩
 have hL1 : W1.heap[w.heap.size + 1]? = some (.loop (rec .ready none)) := by
  rw [← hW1]; have := World.alloc_heap_new (w.alloc (.deferred (some []))) (.loop (rec .ready none)); rwa [World.size_alloc] at this
 have hK1 : W1.heap[w.heap.size]? = some (.deferred (some [])) := by
  rw [← hW1]; exact (Below.heap_alloc _ _ _ (by simp)).trans (World.alloc_heap_new w _)
 have hI1 : I s0 W1 := by rw [← hW1]; exact hI.alloc _ (hI.alloc _ h0)
 refine ⟨w.heap.size + 1, [{ target := .collected w.heap.size, args := #[] }], W1, { target := .fn (.func gf) lb, args := #[.func (.yield (w.heap.size + 1)) #[] #[]] }, W1, gf,
  #[.func (.yield (w.heap.size + 1)) #[] #[]] ++ lb, W1, ?_, ?_, ?_, ?_, fun _ => h1, ?_⟩
 ·rw [← hW1, hrec]; exact run_enterLoop_outer _ _ _ _ _
 ·simp only [resolve, hg]
  simp [go_sem]
 ·intro f' hf'; simp [Target.leads] at hf'; subst hf'; exact hFg
 ·simp [invoke, go_sem, eg]
 ·refine (hseq (w.heap.size + 1)
   (fun s W => I s W ∧ W.heap[w.heap.size + 1]? = some (.loop (rec .ready none)) ∧ W.heap[w.heap.size]? = some (.deferred (some [])))
   (fun W => ∃ c, Ix c W ∧ W.heap[w.heap.size + 1]? = some (.loop (rec .done (some c))) ∧ W.heap[w.heap.size]? = some (.deferred (some [])))
   W1 (fun s W h => hWk s W h.1) ?_ ⟨hI1, hL1, hK1⟩).mono ?_
  ·rintro s x s2 W ⟨hi, hl, hk⟩ hnx hgd
   have hlt : w.heap.size + 1 < W.heap.size := (Array.getElem?_eq_some_iff.1 hl).1
   have hy := run_yield (P := P) (args := encs x) hl (by rw [hrec]; exact hps x)
   rw [hrec] at hy
   refine ⟨fn, _, assign, body, hy, roundIn_of_wpIn hfn (hassign _ x W _ ⟨_, run_beginRound hl (by rw [hrec]), ?_⟩)⟩
   have hl2 : (W.putObj (w.heap.size + 1) (.loop { rec .ready none with state := .busy })).heap[w.heap.size + 1]? = some (.loop { rec .ready none with state := .busy }) := World.putObj_heap_same hlt
   have hk2 : (W.putObj (w.heap.size + 1) (.loop { rec .ready none with state := .busy })).heap[w.heap.size]? = some (.deferred (some [])) := (World.putObj_heap_other (by omega)).trans hk
   refine wpIn_mono (hbody _ s x s2 _ (hI.putObj _ hi (by omega) hl rfl) hnx ((hGd s x).putObj (s := ()) _ hgd (by omega) hl rfl)) ?_
   have fin : ∀ (jump : Option Code) (W3 : World), KeepsFrom w.heap.size (W.putObj (w.heap.size + 1) (.loop { rec .ready none with state := .busy })) W3 →
     (Instr.endRound (w.heap.size + 1) jump).run P W3 = .ok (.bool jump.isNone) (W3.putObj (w.heap.size + 1) (.loop (rec (if jump.isNone then .ready else .done) jump))) ∧
     W3.heap[w.heap.size + 1]? = some (.loop { rec .ready none with state := .busy }) ∧
     (W3.putObj (w.heap.size + 1) (.loop (rec (if jump.isNone then .ready else .done) jump))).heap[w.heap.size + 1]? = some (.loop (rec (if jump.isNone then .ready else .done) jump)) ∧
     (W3.putObj (w.heap.size + 1) (.loop (rec (if jump.isNone then .ready else .done) jump))).heap[w.heap.size]? = some (.deferred (some [])) := fun jump W3 hk3 => by
    have hl3 := hk3.same _ _ (by omega) hl2 rfl
    have := run_endRound (P := P) jump hl3
    rw [hrec] at this ⊢
    exact ⟨this, by rw [hrec] at hl3; exact hl3, World.putObj_heap_same (Array.getElem?_eq_some_iff.1 hl3).1, (World.putObj_heap_other (by omega)).trans (hk3.same _ _ (Nat.le_refl _) hk2 rfl)⟩
   rintro e a3 W3 hp
   cases e with
   | normal =>
     obtain ⟨hk3, hi3⟩ := hp
     obtain ⟨hr, hl3, hl4, hk4⟩ := fin none W3 hk3
     exact ⟨_, _, hr, .inl ⟨rfl, ⟨hI.putObj _ hi3 (by omega) hl3 rfl, hl4, hk4⟩⟩⟩
   | ret =>
     obtain ⟨hk3, hi3⟩ := hp
     obtain ⟨hr, hl3, hl4, hk4⟩ := fin (some .ret) W3 hk3
     exact ⟨_, _, hr, .inr ⟨rfl, .ret, (hIx _).putObj (s := ()) _ hi3 (by omega) hl3 rfl, hl4, hk4⟩⟩
   | exit id =>
     obtain ⟨hk3, hi3⟩ := hp
     obtain ⟨hr, hl3, hl4, hk4⟩ := fin (some (.exit id)) W3 hk3
     exact ⟨_, _, hr, .inr ⟨rfl, .exit id, (hIx _).putObj (s := ()) _ hi3 (by omega) hl3 rfl, hl4, hk4⟩⟩
   | goto t =>
     obtain ⟨hk3, hi3⟩ := hp
     obtain ⟨hr, hl3, hl4, hk4⟩ := fin (some (.goto t)) W3 hk3
     exact ⟨_, _, hr, .inr ⟨rfl, .goto t, (hIx _).putObj (s := ()) _ hi3 (by omega) hl3 rfl, hl4, hk4⟩⟩
   | panic ch => exact hp.elim
   | outgrown => exact hp.elim
  ·rintro e W2 ⟨⟨v, rfl⟩, (⟨s, hS, hi, hl, hk⟩ | ⟨c, hi, hl, hk⟩)⟩
   ·exact ⟨none, _, by have := run_endLoop (P := P) hl (by rw [hrec]; simp); rw [hrec] at this; exact this, hdone _ s _ (Nat.le_refl _) hS (hI.putObj _ hi (by omega) hl rfl) ((World.putObj_heap_other (by omega)).trans hk)⟩
   ·exact ⟨some c, _, by have := run_endLoop (P := P) hl (by rw [hrec]; simp); rw [hrec] at this; exact this, hstop _ c _ (Nat.le_refl _) ((hIx c).putObj (s := ()) _ hi (by omega) hl rfl) ((World.putObj_heap_other (by omega)).trans hk)⟩
theorem endM {F : Fence} {n : Nat} {P : Program} {fn : Func} {R : Ending → World → Prop} {tmps : Array Value} {W : World} {D : Nat} {v : Value}
  (hK : W.heap[D]? = some (.deferred (some []))) (hr : (results fn tmps).run P (W.putObj D (.deferred none)) = .ok v (W.putObj D (.deferred none)))
  (hR : R (.returned v) (W.putObj D (.deferred none))) :
  bodyPostM F n P fn R .ret { tmps, defers := [{ target := .collected D, args := #[] }] } W :=
 ⟨by simp, .inl ⟨_, _, rfl, run_takeDeferred hK, ⟨v, hr, hR⟩⟩⟩
theorem endM0 {F : Fence} {n : Nat} {P : Program} {fn : Func} {R : Ending → World → Prop} {tmps : Array Value} {W : World} {v : Value}
  (hr : (results fn tmps).run P W = .ok v W) (hR : R (.returned v) W) : bodyPostM F n P fn R .ret { tmps, defers := [] } W := ⟨v, hr, hR⟩
end Go.Proofs.YtgnogdncoljldaaGreat
namespace Go.Proofs.YtgnogdncoljldaaGreat
def B32 : Nat := 4294967296
theorem B32_pos : 0 < B32 := by decide
def val : List Nat → Nat
 | [] => 0
 | d :: ds => d + B32 * val ds
def strip : List Nat → List Nat
 | [] => []
 | d :: ds => if strip ds = [] ∧ d = 0 then [] else d :: strip ds
def Digits (ds : List Nat) : Prop := ∀ d ∈ ds, d < B32
def NoZero (ds : List Nat) : Prop := strip ds = ds
def Norm (ds : List Nat) : Prop := Digits ds ∧ NoZero ds
theorem val_nil : val [] = 0 := rfl
theorem val_cons (d : Nat) (ds : List Nat) : val (d :: ds) = d + B32 * val ds := rfl
theorem val_strip (ds : List Nat) : val (strip ds) = val ds := by
 induction ds with
 | nil => rfl
 | cons d ds ih =>
   unfold strip
   split
   ·rename_i h
    rw [val_cons, ← ih, h.1, h.2]; simp [val]
   ·rw [val_cons, val_cons, ih]
theorem strip_strip (ds : List Nat) : strip (strip ds) = strip ds := by
 induction ds with
 | nil => rfl
 | cons d ds ih =>
   by_cases h : strip ds = [] ∧ d = 0
   ·simp [strip, h]
   ·have e : strip (d :: ds) = d :: strip ds := by rw [strip, if_neg h]
    rw [e, strip, ih, if_neg h]
theorem strip_mem {ds : List Nat} {d : Nat} (h : d ∈ strip ds) : d ∈ ds := by
 induction ds with
 | nil => exact h
 | cons e ds ih =>
   unfold strip at h
   split at h
   ·simp at h
   ·rcases List.mem_cons.1 h with rfl | h
    ·simp
    ·exact List.mem_cons_of_mem _ (ih h)
theorem strip_length_le (ds : List Nat) : (strip ds).length ≤ ds.length := by
 induction ds with
 | nil => simp [strip]
 | cons d ds ih => unfold strip; split <;> simp <;> omega
theorem Digits.strip {ds : List Nat} (h : Digits ds) : Digits (strip ds) := fun d hd => h d (strip_mem hd)
theorem norm_strip {ds : List Nat} (h : Digits ds) : Norm (strip ds) := ⟨h.strip, strip_strip ds⟩
theorem Digits.cons {d : Nat} {ds : List Nat} : Digits (d :: ds) ↔ d < B32 ∧ Digits ds := by simp [Digits]
theorem Digits.nil : Digits [] := by simp [Digits]
theorem Digits.append {a b : List Nat} (ha : Digits a) (hb : Digits b) : Digits (a ++ b) := by
 intro d hd; exact (List.mem_append.1 hd).elim (ha d) (hb d)
theorem Digits.take {a : List Nat} (ha : Digits a) (n : Nat) : Digits (a.take n) := fun d hd => ha d (List.mem_of_mem_take hd)
theorem Digits.drop {a : List Nat} (ha : Digits a) (n : Nat) : Digits (a.drop n) := fun d hd => ha d (List.mem_of_mem_drop hd)
theorem Digits.getD {ds : List Nat} (h : Digits ds) (j : Nat) : ds[j]?.getD 0 < B32 := by
 by_cases hj : j < ds.length
 ·simp [hj]; exact h _ (List.getElem_mem hj)
 ·simp [List.getElem?_eq_none (by omega : ds.length ≤ j)]; decide
theorem val_lt {ds : List Nat} (h : Digits ds) : val ds < B32 ^ ds.length := by
 induction ds with
 | nil => simp [val]
 | cons d ds ih =>
   obtain ⟨h1, h2⟩ := Digits.cons.1 h
   have := ih h2
   rw [val_cons, List.length_cons, Nat.pow_succ]
   calc d + B32 * val ds < B32 + B32 * val ds := by omega
    _ = B32 * (val ds + 1) := by rw [Nat.mul_add, Nat.mul_one, Nat.add_comm]
    _ ≤ B32 * B32 ^ ds.length := Nat.mul_le_mul_left _ this
    _ = B32 ^ ds.length * B32 := Nat.mul_comm _ _
theorem val_append (a b : List Nat) : val (a ++ b) = val a + B32 ^ a.length * val b := by
 induction a with
 | nil => simp [val]
 | cons d a ih =>
   rw [List.cons_append, val_cons, val_cons, ih, List.length_cons, Nat.pow_succ, Nat.mul_add, Nat.add_assoc, ← Nat.mul_assoc B32, Nat.mul_comm B32 (B32 ^ a.length)]
theorem noZero_cons {d : Nat} {ds : List Nat} (h : NoZero (d :: ds)) : NoZero ds ∧ (ds = [] → d ≠ 0) := by
 unfold NoZero at *
 unfold strip at h
 split at h
 ·simp at h
 ·rename_i hn
  have e : strip ds = ds := by simpa using h
  refine ⟨e, ?_⟩
  rintro rfl h0
  exact hn ⟨by simp [strip], h0⟩
theorem val_pos_of_noZero {ds : List Nat} (h : NoZero ds) (hne : ds ≠ []) : 0 < val ds := by
 induction ds with
 | nil => exact absurd rfl hne
 | cons d ds ih =>
   obtain ⟨h1, h2⟩ := noZero_cons h
   rw [val_cons]
   by_cases e : ds = []
   ·have := h2 e; omega
   ·have := ih h1 e
    have := Nat.mul_pos B32_pos this
    omega
theorem norm_ext : ∀ {a b : List Nat}, Norm a → Norm b → val a = val b → a = b
 | [], [], _, _, _ => rfl
 | [], e :: b, _, hb, h => by have := val_pos_of_noZero hb.2 (by simp); rw [← h] at this; simp [val] at this
 | d :: a, [], ha, _, h => by have := val_pos_of_noZero ha.2 (by simp); rw [h] at this; simp [val] at this
 | d :: a, e :: b, ha, hb, h => by
   obtain ⟨h1, h2⟩ := Digits.cons.1 ha.1
   obtain ⟨h3, h4⟩ := Digits.cons.1 hb.1
   rw [val_cons, val_cons] at h
   have hd : d = e := by
    have := congrArg (· % B32) h
    simpa [Nat.add_mul_mod_self_left, Nat.mod_eq_of_lt h1, Nat.mod_eq_of_lt h3] using this
   subst hd
   have hv : val a = val b := Nat.eq_of_mul_eq_mul_left B32_pos (Nat.add_left_cancel h)
   rw [norm_ext ⟨h2, (noZero_cons ha.2).1⟩ ⟨h4, (noZero_cons hb.2).1⟩ hv]
theorem val_zero_of_all {ds : List Nat} (h : ∀ d ∈ ds, d = 0) : val ds = 0 := by
 induction ds with
 | nil => rfl
 | cons d ds ih =>
   rw [val_cons, ih (fun e he => h e (List.mem_cons_of_mem _ he)), h d (by simp), Nat.mul_zero]
theorem strip_nil_of_all {ds : List Nat} (h : ∀ d ∈ ds, d = 0) : strip ds = [] := by
 induction ds with
 | nil => rfl
 | cons d ds ih => rw [strip, if_pos ⟨ih (fun e he => h e (List.mem_cons_of_mem _ he)), h d (by simp)⟩]
theorem strip_append_zero {a b : List Nat} (h : ∀ d ∈ b, d = 0) : strip (a ++ b) = strip a := by
 induction a with
 | nil => simp [strip, strip_nil_of_all h]
 | cons d a ih => rw [List.cons_append, strip, strip, ih]
theorem strip_snoc {a : List Nat} {d : Nat} (h : d ≠ 0) : strip (a ++ [d]) = a ++ [d] := by
 induction a with
 | nil => simp [strip, h]
 | cons e a ih => rw [List.cons_append, strip, ih, if_neg (by simp)]
theorem strip_length_of {ds : List Nat} {k : Nat} (hk : k < ds.length) (h : ds[k]?.getD 0 ≠ 0) (hz : ∀ j, k < j → j < ds.length → ds[j]?.getD 0 = 0) : (strip ds).length = k + 1 := by
 have e : ds = (ds.take k ++ [ds[k]]) ++ ds.drop (k + 1) := by
  rw [List.append_assoc, List.singleton_append, List.getElem_cons_drop, List.take_append_drop]
 rw [e, strip_append_zero, strip_snoc]
 ·simp; omega
 ·simpa [hk] using h
 ·intro d hd
  obtain ⟨i, hi, rfl⟩ := List.getElem_of_mem hd
  have hi' : k + 1 + i < ds.length := by simp at hi; omega
  have := hz (k + 1 + i) (by omega) hi'
  simpa [hi'] using this
theorem strip_length_zero {ds : List Nat} (hz : ∀ j, j < ds.length → ds[j]?.getD 0 = 0) : strip ds = [] := by
 refine strip_nil_of_all fun d hd => ?_
 obtain ⟨i, hi, rfl⟩ := List.getElem_of_mem hd
 simpa [hi] using hz i hi
theorem strip_take (ds : List Nat) : ds.take (strip ds).length = strip ds := by
 induction ds with
 | nil => rfl
 | cons d ds ih =>
   by_cases h : strip ds = [] ∧ d = 0
   ·simp [strip, h]
   ·have e : strip (d :: ds) = d :: strip ds := by rw [strip, if_neg h]
    rw [e, List.length_cons, List.take_succ_cons, ih]
theorem noZero_last {ds : List Nat} (hne : 0 < ds.length) : NoZero ds ↔ ds[ds.length - 1]?.getD 0 ≠ 0 := by
 constructor
 ·intro h h0
  have h1 : (strip ds).length = ds.length := by rw [h]
  have e : ds = ds.take (ds.length - 1) ++ [ds[ds.length - 1]] := by
   rw [List.take_append_getElem (by omega)]; exact (List.take_of_length_le (by omega)).symm
  have hl : ds[ds.length - 1] = 0 := by simpa [show ds.length - 1 < ds.length by omega] using h0
  have h2 := congrArg strip e
  rw [strip_append_zero (by simp [hl])] at h2
  have := strip_length_le (ds.take (ds.length - 1))
  rw [← h2, h1] at this
  simp at this; omega
 ·intro h
  have := strip_length_of (k := ds.length - 1) (by omega) h (fun j a b => by omega)
  have e := strip_take ds
  rw [this, List.take_of_length_le (by omega)] at e
  exact e.symm
theorem val_drop {ds : List Nat} {s : Nat} (h : s < ds.length) : val (ds.drop s) = ds[s]?.getD 0 + B32 * val (ds.drop (s + 1)) := by
 rw [List.drop_eq_getElem_cons h, val_cons]; simp [h]
theorem val_drop_lt {ds : List Nat} (hd : Digits ds) {s k : Nat} (h : ds.length ≤ s + k) : val (ds.drop s) < B32 ^ k := by
 refine Nat.lt_of_lt_of_le (val_lt (hd.drop s)) (Nat.pow_le_pow_right B32_pos (by simp; omega))
def sgn (a b : Nat) : Int := if a < b then -1 else if b < a then 1 else 0
def cmpL (xs ys : List Nat) : Int := if xs.length < ys.length then -1 else if ys.length < xs.length then 1 else sgn (val xs) (val ys)
theorem val_take_drop (ds : List Nat) {s : Nat} (h : s ≤ ds.length) : val ds = val (ds.take s) + B32 ^ s * val (ds.drop s) := by
 have := val_append (ds.take s) (ds.drop s)
 rwa [List.take_append_drop, List.length_take, Nat.min_eq_left h] at this
theorem val_lt_of_digit {xs ys : List Nat} {s : Nat} (hl : xs.length = ys.length) (hx : Digits xs) (hs : s < xs.length)
  (he : xs.drop (s + 1) = ys.drop (s + 1)) (hlt : xs[s]?.getD 0 < ys[s]?.getD 0) : val xs < val ys := by
 rw [val_take_drop xs (Nat.le_of_lt hs), val_take_drop ys (s := s) (by omega), val_drop hs, val_drop (ds := ys) (by omega), he]
 have h1 := val_lt (hx.take s)
 rw [List.length_take, Nat.min_eq_left (Nat.le_of_lt hs)] at h1
 have h2 : B32 ^ s * (xs[s]?.getD 0 + B32 * val (ys.drop (s + 1)) + 1) ≤ B32 ^ s * (ys[s]?.getD 0 + B32 * val (ys.drop (s + 1))) := Nat.mul_le_mul_left _ (by omega)
 rw [Nat.mul_add _ _ 1, Nat.mul_one] at h2
 omega
theorem drop_eq_cons {xs ys : List Nat} {s : Nat} (hx : s < xs.length) (hy : s < ys.length) (he : xs.drop (s + 1) = ys.drop (s + 1)) (hd : xs[s]?.getD 0 = ys[s]?.getD 0) : xs.drop s = ys.drop s := by
 rw [List.drop_eq_getElem_cons hx, List.drop_eq_getElem_cons hy, he]
 simp [hx, hy] at hd
 rw [hd]
theorem cmpL_len {xs ys : List Nat} (h : xs.length = ys.length) : cmpL xs ys = sgn (val xs) (val ys) := by
 unfold cmpL; rw [if_neg (by omega), if_neg (by omega)]
theorem sgn_lt {a b : Nat} (h : a < b) : sgn a b = -1 := by unfold sgn; rw [if_pos h]
theorem sgn_gt {a b : Nat} (h : b < a) : sgn a b = 1 := by unfold sgn; rw [if_neg (by omega), if_pos h]
theorem sgn_eq (a : Nat) : sgn a a = 0 := by unfold sgn; simp
theorem sgn_neg_iff {a b : Nat} : sgn a b < 0 ↔ a < b := by unfold sgn; split <;> (try split) <;> omega
theorem val_ge_of_noZero {ds : List Nat} (h : NoZero ds) (hne : ds ≠ []) : B32 ^ (ds.length - 1) ≤ val ds := by
 induction ds with
 | nil => exact absurd rfl hne
 | cons d ds ih =>
   obtain ⟨h1, h2⟩ := noZero_cons h
   rw [val_cons, List.length_cons, Nat.add_sub_cancel]
   by_cases e : ds = []
   ·subst e; have := h2 rfl; simp; omega
   ·have := ih h1 e
    have hl : 0 < ds.length := by cases ds <;> simp_all
    have := Nat.mul_le_mul_left B32 this
    rw [← Nat.pow_succ', show (ds.length - 1).succ = ds.length by omega] at this
    omega
theorem cmpL_norm {xs ys : List Nat} (hx : Norm xs) (hy : Norm ys) : cmpL xs ys = sgn (val xs) (val ys) := by
 unfold cmpL
 split
 ·rename_i h
  have h1 := val_lt hx.1
  have h2 := val_ge_of_noZero hy.2 (by intro e; simp [e] at h)
  have h3 := Nat.pow_le_pow_right B32_pos (show xs.length ≤ ys.length - 1 by omega)
  rw [sgn_lt (by omega)]
 ·split
  ·rename_i h
   have h1 := val_lt hy.1
   have h2 := val_ge_of_noZero hx.2 (by intro e; simp [e] at h)
   have h3 := Nat.pow_le_pow_right B32_pos (show ys.length ≤ xs.length - 1 by omega)
   rw [sgn_gt (by omega)]
  ·rfl
end Go.Proofs.YtgnogdncoljldaaGreat
namespace Go.Proofs.YtgnogdncoljldaaGreat
open Go Go.RowKit Go.Shelf
attribute [local go_sem] Oper.semAt_some
def DownWk (Bs : Nat) (p : Option Addr) (len cap : Nat) (s : Nat) (W : World) : Prop :=
 s ≤ len ∧ W.cell? ⟨Bs, 0, none⟩ = some (.slice p len cap) ∧ ∀ k, k < s → ∃ (b off d : Nat), p = some ⟨b, off, none⟩ ∧ W.cell? ⟨b, off + k, none⟩ = some (.int .u32 d)
def DownNx (s : Nat) (x : Nat × Nat) (s2 : Nat) : Prop := s = x.1 + 1 ∧ s2 = x.1
def DownGd (p : Option Addr) (_ : Nat) (x : Nat × Nat) (W : World) : Prop := ∃ (b off : Nat), p = some ⟨b, off, none⟩ ∧ W.cell? ⟨b, off + x.1, none⟩ = some (.int .u32 x.2)
set_option maxRecDepth 100000 in
set_option maxHeartbeats 1000000 in
theorem down1_seq (n : Nat) (hn : 1 ≤ n) (Bs : Nat) (p : Option Addr) (len cap : Nat) (hlen : len ≤ maxLen) :
  SeqS Fence.wide n Tryz.prog 205 #[.pointer (some ⟨Bs, 0, none⟩)] (fun x : Nat × Nat => #[Value.int .i64 (x.1 : Int), Value.int .u32 (x.2 : Int)]) (DownWk Bs p len cap) DownNx (DownGd p) len (· = 0) := by
 intro l J Jx W hWk hY h0
 unfold maxLen at hlen
 refine callsIn_of_wp Tryz.func205 rfl trivial ?_ rfl
 simp only [Tryz.ntmps205, List.size_toArray, List.length_cons, List.length_nil, Nat.reduceAdd, Nat.reduceSub, Array.replicate_succ, Array.replicate_zero, List.push_toArray, List.append_toArray, List.nil_append, List.cons_append]
 have hbox := (hWk _ _ h0).2.1
 gi_wp2
 gi_loopw [3] (fun i wr => ∃ s : Nat, i = .int .i64 ((s : Int) - 1) ∧ J s wr) (fun i _ => (intOf i + 1).toNat)
 case atStart => exact ⟨len, rfl, h0⟩
 case round =>
  obtain ⟨s, rfl, hJ⟩ := hrel
  obtain ⟨hs, hb, hc⟩ := hWk _ _ hJ
  cases s with
  | zero =>
    gi_wp2
    go_end0
    exact ⟨⟨_, rfl⟩, .inl ⟨0, rfl, hJ⟩⟩
  | succ k =>
    obtain ⟨b, off, d, rfl, hcell⟩ := hc k (by omega)
    obtain ⟨fn, tmps, assign, body, hy, hR⟩ := hY _ (k, d) k wr hJ ⟨rfl, rfl⟩ ⟨b, off, rfl, hcell⟩
    dsimp only at hy
    clear hc
    rw [show ((k + 1 : Nat) : Int) - 1 = (k : Int) from by omega]
    gi_wp2
    refine hR.mono ?_
    rintro e W3 (⟨rfl, hJ3⟩ | ⟨rfl, hJx3⟩)
    ·gi_wp2
     go_roundw
     case rel => exact ⟨k, rfl, hJ3⟩
     case measure => simp [intOf]
    ·gi_wp2
     refine bodyPost_ret (results_none rfl _ _ _) rfl ?_
     exact ⟨⟨_, rfl⟩, .inr hJx3⟩
set_option maxHeartbeats 1000000 in
theorem down_calls (p : Option Addr) (len cap : Nat) (w : World) :
  Calls Tryz.prog 191 #[.slice p len cap] w fun e w' => e = .returned (.func (.func 205) #[] #[.pointer (some ⟨w.heap.size, 0, none⟩)]) ∧ w' = w.alloc (.cells #[.slice p len cap] 34) := by
 go_enter Tryz.func191, Tryz.ntmps191
 go_wp2
 go_ret
 exact ⟨rfl, rfl⟩
def U32s (B : Nat) (w : World) (v : Value) (ds : List Nat) : Prop :=
 ∃ (p : Option Addr) (cap : Nat), v = .slice p ds.length cap ∧ ds.length ≤ maxLen ∧ (0 < ds.length → ∃ b off, p = some ⟨b, off, none⟩ ∧ b < B ∧ ∀ j, j < ds.length → w.cell? ⟨b, off + j, none⟩ = some (.int .u32 ((ds[j]?.getD 0 : Nat) : Int)))
theorem U32s.below {B : Nat} {w w' : World} {v : Value} {ds : List Nat} (h : U32s B w v ds) (hb : Below B w w') : U32s B w' v ds := by
 obtain ⟨p, cap, rfl, hl, hc⟩ := h
 refine ⟨p, cap, rfl, hl, fun h0 => ?_⟩
 obtain ⟨b, off, rfl, hB, hc⟩ := hc h0
 exact ⟨b, off, rfl, hB, fun j hj => (hb.cell (p := ⟨b, off + j, none⟩) hB).trans (hc j hj)⟩
theorem U32s.mono {B B' : Nat} {w : World} {v : Value} {ds : List Nat} (h : U32s B w v ds) (hb : B ≤ B') : U32s B' w v ds := by
 obtain ⟨p, cap, rfl, hl, hc⟩ := h
 refine ⟨p, cap, rfl, hl, fun h0 => ?_⟩
 obtain ⟨b, off, rfl, hB, hc⟩ := hc h0
 exact ⟨b, off, rfl, by omega, hc⟩
theorem or_u64 (n d : Nat) (hn : n < B32) (hd : d < B32) : bits .or .u64 (IntKind.u64.wrap ((n : Int) * 4294967296)) (IntKind.u64.wrap (d : Int)) = ((d + B32 * n : Nat) : Int) := by
 unfold B32 at *
 rw [IntKind.wrap_u64, IntKind.wrap_u64]
 rw [show ((n : Int) * 4294967296) % 18446744073709551616 = (n : Int) * 4294967296 by omega, show (d : Int) % 18446744073709551616 = d by omega]
 rw [bits_join .u64 64 (by decide) (fun n h0 h1 => by rw [IntKind.wrap_u64]; omega) 32 _ _ (by omega) (by omega) (by omega) (by omega) (by omega) (by omega)]
 omega
theorem u32_inj {a b : Nat} (h : some (Value.int .u32 (a : Int)) = some (Value.int .u32 (b : Int))) : a = b := by
 simp only [Option.some.injEq, Value.int.injEq, true_and] at h; omega
theorem digs_lt_maxLen {n : Nat} (h : n ≤ maxLen) : n ≤ 9223372036854775807 := by unfold maxLen at h; exact h
set_option maxRecDepth 100000 in
set_option maxHeartbeats 2000000 in
theorem length_calls (v : Value) (ds : List Nat) (w : World) (hu : U32s w.heap.size w v ds) :
  Calls Tryz.prog 159 #[v] w fun e w' => e = .returned (.int .i64 ((strip ds).length : Nat)) ∧ Below w.heap.size w w' := by
 obtain ⟨p, cap, rfl, hl, hc⟩ := hu
 refine (callsIn_wide (n := 5)).1 ?_
 refine callsIn_of_wp_marks Tryz.func159 rfl trivial ?_ rfl
 simp only [Tryz.ntmps159, List.size_toArray, List.length_cons, List.length_nil, Nat.reduceAdd, Nat.reduceSub, Array.replicate_succ, Array.replicate_zero, List.push_toArray, List.append_toArray, List.nil_append, List.cons_append]
 gi_wp2_with (refine ⟨trivial, ?_⟩; gi_at_call 191; refine (callsIn_wide.2 (down_calls _ _ _ _)).mono ?_; rintro e w' ⟨rfl, rfl⟩)
 have bR := Boxed.new w 3 (.int .i64 0)
 have bN := Boxed.new (w.alloc (.cells #[.int .i64 0] 3)) 34 (.slice p ds.length cap)
 rw [World.size_alloc] at bN
 have hB0 : Below w.heap.size w ((w.alloc (.cells #[.int .i64 0] 3)).alloc (.cells #[.slice p ds.length cap] 34)) := ((Below.refl _ w).alloc (Nat.le_refl _) _).alloc (by simp) _
 have h1 : 1 ≤ 5 := by decide
 have hro : Fence.wide.round = none := rfl
 refine wpIn_rangeFunc_S (α := Nat × Nat) hro h1 (gf := 205) (lb := #[.pointer (some ⟨w.heap.size + 1, 0, none⟩)]) rfl trivial (enters_of Tryz.func205 (by kernel_rfl) rfl)
  (down1_seq 4 (by decide) (w.heap.size + 1) p ds.length cap hl) (fun _ => rfl)
  (fun s W => (s ≤ ds.length ∧ (∀ j, s ≤ j → j < ds.length → ds[j]?.getD 0 = 0) ∧ Boxed W w.heap.size 3 (.int .i64 0) ∧ Boxed W (w.heap.size + 1) 34 (.slice p ds.length cap)) ∧ Below w.heap.size w W)
  (fun c W => (c = .ret ∧ Boxed W w.heap.size 3 (.int .i64 ((strip ds).length : Nat))) ∧ Below w.heap.size w W)
  (OwnFrom.and (Own.from (fun s A B row hs hg hr => ⟨hs.1, hs.2.1, boxed_own _ _ (fun _ => _) () _ _ _ hs.2.2.1 hg hr, boxed_own _ _ (fun _ => _) () _ _ _ hs.2.2.2 hg hr⟩) _) (ownFrom_below (Nat.le_refl _) (by simp; omega)))
  (fun c => OwnFrom.and (Own.from (fun s A B row hs hg hr => ⟨hs.1, boxed_own _ _ (fun _ => _) () _ _ _ hs.2 hg hr⟩) _) (ownFrom_below (Nat.le_refl _) (by simp; omega)))
  (fun s x => Own.from (fun _ A B row hs hg hr => by obtain ⟨b, off, e, h⟩ := hs; exact ⟨b, off, e, cell_kept h hg hr⟩) _)
  ?wk ⟨⟨Nat.le_refl _, fun j a b => by omega, bR.alloc _, bN⟩, hB0⟩
  (fun x => { tmps := #[.slice p ds.length cap, undef, .pointer (some ⟨w.heap.size, 0, none⟩), .int .i64 (x.1 : Int), .int .u32 (x.2 : Int), .slice p ds.length cap, .func (.func 205) #[] #[.pointer (some ⟨w.heap.size + 1, 0, none⟩)], .int .i64 (x.1 : Int), .int .u32 (x.2 : Int), undef, undef, undef, undef], defers := [] }) ?assign ?body ?done ?stop
 case wk =>
  rintro s W ⟨⟨hs, _, _, hb⟩, hB⟩
  refine ⟨hs, hb.cell, fun k hk => ?_⟩
  obtain ⟨b, off, rfl, hlt, hcs⟩ := hc (by omega)
  exact ⟨b, off, _, rfl, (hB.cell (p := ⟨b, off + k, none⟩) hlt).trans (hcs k (by omega))⟩
 case assign =>
  intro l x W K hK
  gi_wp2
  exact hK
 case body =>
  rintro l s ⟨k, d⟩ s2 W ⟨⟨hs, hz, hbr, hbn⟩, hB⟩ ⟨h1, h2⟩ ⟨b, off, rfl, hcell⟩
  dsimp only at h1 h2 hcell ⊢
  subst h2; subst h1
  obtain ⟨b', off', e, hlt, hcs⟩ := hc (by omega)
  cases e
  have hd : d = ds[s2]?.getD 0 := by
   have := (hB.cell (p := ⟨b, off + s2, none⟩) hlt).trans (hcs s2 (by omega))
   rw [hcell] at this; exact u32_inj this
  have hlm := digs_lt_maxLen hl
  have hcr := hbr.cell
  have hfr := hbr.frozen
  clear hc hcs
  by_cases h0 : d = 0
  ·subst h0
   have hz2 : ∀ j, s2 ≤ j → j < ds.length → ds[j]?.getD 0 = 0 := fun j a b => by
    by_cases e : j = s2
    ·subst e; exact hd.symm
    ·exact hz j (by omega) b
   have Hz2 := Lib.hid hz2
   clear hd hz hz2
   gi_wp2
   exact ⟨(KeepsOthers.refl _).from _, ⟨by omega, Hz2.out, hbr, hbn⟩, hB⟩
  ·have ht : ((d : Int) != 0) = true := by simp [h0]
   have hst := strip_length_of (ds := ds) (k := s2) (by omega) (by omega) (fun j a b => hz j (by omega) b)
   have Hst := Lib.hid hst
   have Hd := Lib.hid hd
   clear hst hd hz
   gi_wp2
   exact ⟨(KeepsOthers.setCell _ _ _).from _, ⟨rfl, by rw [Hst.out]; exact hbr.set _⟩, hB.setCell (p := ⟨w.heap.size, 0, none⟩) (Nat.le_refl _) _⟩
 case done =>
  rintro D s W hD rfl ⟨⟨hs, hz, hbr, hbn⟩, hB⟩ hK
  have hcr := hbr.cell
  have hfr := hbr.frozen
  have hst := strip_length_zero (fun j hj => hz j (Nat.zero_le _) hj)
  have hK2 := (KeepsOthers.setCell W ⟨w.heap.size, 0, none⟩ (.int .i64 0)).same D _ hK rfl
  have hc5 := cell_kept (hbr.set (.int .i64 0)).cell (grownBy_putObj' _ D (.deferred none)) (fun r e => by cases e; exact ⟨_, hK2, rfl⟩)
  have Hst := Lib.hid hst
  clear hz hst
  gi_wp2
  refine endM hK2 (v := .int .i64 0) (by simp [results, Tryz.f159, go_sem, hc5]) ⟨by rw [Hst.out]; rfl, (hB.setCell (p := ⟨w.heap.size, 0, none⟩) (Nat.le_refl _) _).trans (belowK_b (w := w) (Nat.le_refl _) _ D _ _ (by simp at hD; omega) hK2 rfl rfl)⟩
 case stop =>
  rintro D c W hD ⟨⟨rfl, hbr⟩, hB⟩ hK
  have hc5 := cell_kept hbr.cell (grownBy_putObj' _ D (.deferred none)) (fun r e => by cases e; exact ⟨_, hK, rfl⟩)
  gi_wp2
  refine endM hK (v := .int .i64 ((strip ds).length : Nat)) (by simp [results, Tryz.f159, go_sem, hc5]) ⟨rfl, hB.trans (belowK_b (w := w) (Nat.le_refl _) W D _ _ (by simp at hD; omega) hK rfl rfl)⟩
end Go.Proofs.YtgnogdncoljldaaGreat
namespace Go.Proofs.YtgnogdncoljldaaGreat
open Go Go.RowKit Go.Shelf
def arr (xs : List Nat) : Array Value := (xs.map fun (d : Nat) => Value.int .u32 (d : Int)).toArray
theorem arr_size (xs : List Nat) : (arr xs).size = xs.length := by simp [arr]
theorem arr_get (xs : List Nat) (j : Nat) (h : j < xs.length) : (arr xs)[j]? = some (.int .u32 ((xs[j]?.getD 0 : Nat) : Int)) := by simp [arr, h]
theorem arr_set (xs : List Nat) (j d : Nat) : (arr xs).setIfInBounds j (.int .u32 (d : Int)) = arr (xs.set j d) := by
 simp [arr, List.map_set]
theorem arr_one (xs : List Nat) : (arr xs).all (·.oneCell') = true := by
 simp [arr, Value.oneCell']
def RowAt (W : World) (g : Nat) (t : TypeId) (cs : Array Value) : Prop := W.heap[g]? = some (.cells cs t (0, 0))
theorem RowAt.lt {W : World} {g : Nat} {t : TypeId} {cs : Array Value} (h : RowAt W g t cs) : g < W.heap.size := (Array.getElem?_eq_some_iff.1 h).1
theorem RowAt.cell {W : World} {g : Nat} {t : TypeId} {cs : Array Value} (h : RowAt W g t cs) (j : Nat) : W.cell? ⟨g, j, none⟩ = cs[j]? := cell_of_row W g j cs t (0, 0) h
theorem RowAt.frozen {W : World} {g : Nat} {t : TypeId} {cs : Array Value} (h : RowAt W g t cs) (j : Nat) : W.frozen? ⟨g, j, none⟩ = false := frozen_of_row W g j cs t h
theorem RowAt.new (W : World) (t : TypeId) (cs : Array Value) : RowAt (W.alloc (.cells cs t)) W.heap.size t cs := World.alloc_heap_new W _
theorem RowAt.new' {W : World} {g : Nat} (t : TypeId) (cs : Array Value) (hg : g = W.heap.size) : RowAt (W.alloc (.cells cs t)) g t cs := by subst hg; exact RowAt.new W t cs
theorem RowAt.alloc {W : World} {g : Nat} {t : TypeId} {cs : Array Value} (h : RowAt W g t cs) (o : Obj) : RowAt (W.alloc o) g t cs := (heap_alloc_old W o g h.lt).trans h
theorem RowAt.below {B : Nat} {W W' : World} {g : Nat} {t : TypeId} {cs : Array Value} (h : RowAt W g t cs) (hb : Below B W W') (hg : g < B) : RowAt W' g t cs := (hb.block g hg).trans h
theorem RowAt.set {W : World} {g : Nat} {t : TypeId} {cs : Array Value} (h : RowAt W g t cs) (i : Nat) (v : Value) : RowAt (W.setCell ⟨g, i, none⟩ v) g t (cs.setIfInBounds i v) := heap_setCell_same W g i cs t v h
theorem RowAt.setOther {W : World} {g : Nat} {t : TypeId} {cs : Array Value} (h : RowAt W g t cs) (a : Addr) (v : Value) (hne : g ≠ a.block) : RowAt (W.setCell a v) g t cs := (heap_setCell_other W a g v hne).trans h
theorem RowAt.setRow {W : World} {g : Nat} {t : TypeId} {cs : Array Value} (h : RowAt W g t cs) (cs' : Array Value) : RowAt (W.setRow g cs') g t cs' := setRow_heap W g cs cs' t _ h
theorem RowAt.setRowOther {W : World} {g k : Nat} {t : TypeId} {cs : Array Value} (h : RowAt W g t cs) (cs' : Array Value) (hne : g ≠ k) : RowAt (W.setRow k cs') g t cs := (setRow_other W k g cs' hne).trans h
theorem RowAt.drew {W : World} {g : Nat} {t : TypeId} {cs : Array Value} (h : RowAt W g t cs) : RowAt W.drew g t cs := h
theorem RowAt.boxed {W : World} {g : Nat} {t : TypeId} {v : Value} (h : RowAt W g t #[v]) : Boxed W g t v := h
theorem RowAt.ofBoxed {W : World} {g : Nat} {t : TypeId} {v : Value} (h : Boxed W g t v) : RowAt W g t #[v] := h
theorem RowAt.own {β : Type} (g : Nat) (t : TypeId) (f : β → Array Value) : Own (fun s W => RowAt W g t (f s)) := fun s X Y row hs hg hrow => by
 have hne : some g ≠ row := fun e => by obtain ⟨o, ho, hc⟩ := hrow g e.symm; rw [show X.heap[g]? = _ from hs] at ho; cases ho; cases hc
 exact (hg.block g (RowAt.lt hs) (fun e => hne e)).trans hs
theorem below_setRow2 {B g : Nat} {w0 w : World} (hb : Below B w0 w) (hBg : B ≤ g) (cs : Array Value) : Below B w0 (w.setRow g cs) :=
 hb.trans ⟨rfl, rfl, rfl, by simp [World.setRow], fun k hk => setRow_other w g k cs (by omega)⟩
theorem row_info : (Tryz.prog.info? 155).map (·.size) = some 65 := by kernel_rfl
theorem zero_row : Tryz.zeroCells155 = arr (List.replicate 65 0) := by kernel_rfl
theorem store_row {ops : Array Oper} {rest : List Oper} {o : Oper} {a : Act} {w : World} {Q : Exit → Act → World → Prop} (hgd : o.guard = none) (x y : Operand) (ho : o.op = .store 155 x y)
  (g : Nat) (hx : a.eval x = .pointer (some ⟨g, 0, none⟩)) (xs : List Nat) (hxs : xs.length = 65) (hy : a.eval y = .agg (arr xs)) (t : TypeId) (old : Array Value) (hg : RowAt w g t old) (hold : old.size = 65)
  (h : wpList Tryz.prog ops Q rest (a.put o.dst undef) (w.setRow g (arr xs))) : wpList Tryz.prog ops Q (o :: rest) a w :=
 wpList_plain hgd fun _ hK => wp_store_row 155 x y ho g (arr xs) hx hy t old hg (by rw [row_info, arr_size, hxs]) (by rw [arr_size, hold, hxs]) (arr_one xs) (hK _ _ h)
theorem load_row {ops : Array Oper} {rest : List Oper} {o : Oper} {a : Act} {w : World} {Q : Exit → Act → World → Prop} (hgd : o.guard = none) (x : Operand) (ho : o.op = .load 155 x)
  (g : Nat) (hx : a.eval x = .pointer (some ⟨g, 0, none⟩)) (xs : List Nat) (hxs : xs.length = 65) (t : TypeId) (hg : RowAt w g t (arr xs))
  (h : wpList Tryz.prog ops Q rest (a.put o.dst (.agg (arr xs))) w) : wpList Tryz.prog ops Q (o :: rest) a w :=
 wpList_load_row hgd 155 x ho g hx t (arr xs) (0, 0) _ hg Tryz.underlying155 rfl (by rw [row_info, arr_size, hxs]) h
theorem ret_row {fn : Func} {R : Ending → World → Prop} {tmps : Array Value} {w : World} {p : Tmp} (hres : fn.results = #[.cell p 155]) (g : Nat) (hp : tmps.getD p undef = .pointer (some ⟨g, 0, none⟩)) (xs : List Nat) (hxs : xs.length = 65)
  (t : TypeId) (hg : RowAt w g t (arr xs)) (hR : R (.returned (.agg (arr xs))) w) : bodyPost Tryz.prog fn R .ret { tmps, defers := [] } w :=
 bodyPost_ret (results_cell_row hres _ _ _ _ _ _ _ hp hg Tryz.underlying155 rfl (by rw [row_info, arr_size, hxs])) rfl hR
theorem info_u32 : (Tryz.prog.info? 118).map (fun i => (i.zero, i.size, i.bytes)) = some (some (.int .u32 0), 1, 4) := by kernel_rfl
theorem size_u32 : (Tryz.prog.info? 118).map (·.size) = some 1 := by kernel_rfl
theorem madeCells_u32 (n : Nat) : madeCells #[Value.int .u32 0] n = arr (List.replicate n 0) := by
 apply Array.ext
 ·simp [madeCells, arr]
 ·intro i h1 h2
  simp [madeCells, arr, Nat.mod_one]
theorem make_row {ops : Array Oper} {rest : List Oper} {o : Oper} {a : Act} {w : World} {Q : Exit → Act → World → Prop} (hgd : o.guard = none) (l c : Operand) (ho : o.op = .makeSlice 34 l c)
  (n : Nat) (hl : a.eval l = .int .i64 n) (hc : a.eval c = .int .i64 n) (hn : n ≤ 70368744177664)
  (h : wpList Tryz.prog ops Q rest (a.put o.dst (.slice (some ⟨w.heap.size, 0, none⟩) n n)) (w.alloc (.cells (arr (List.replicate n 0)) 118))) : wpList Tryz.prog ops Q (o :: rest) a w := by
 refine wpList_plain hgd fun K hK => ?_
 obtain ⟨i, hi, hz, hs, hb⟩ := info_parts info_u32
 have hr := run_make (P := Tryz.prog) w 34 118 i (.int .u32 0) Tryz.underlying34 hi hz .i64 .i64 n n (by omega) (Int.le_refl _) (by rw [hb]; omega) (by omega)
 rw [hs] at hr
 simp only [Int.toNat_natCast, Nat.mul_one] at hr
 rw [show (Value.int .u32 0).cells = #[Value.int .u32 0] from rfl, madeCells_u32] at hr
 unfold Oper.wp
 simp [execOp, ho, hl, hc, hr, Result.andThen]
 exact hK _ _ h
theorem copy_row {ops : Array Oper} {rest : List Oper} {o : Oper} {a : Act} {w : World} {Q : Exit → Act → World → Prop} (hgd : o.guard = none) (d s : Operand)
  (ho : o.op = .call { callee := .builtin .copy, args := #[d, s], argTypes := #[34, 34] })
  (g n : Nat) (old xs : List Nat) (ad : Addr) (sLen sCap : Nat) (hd : a.eval d = .slice (some ⟨g, 0, none⟩) n n) (hs : a.eval s = .slice (some ad) sLen sCap)
  (hg : RowAt w g 118 (arr old)) (hold : old.length = n) (hxs : xs.length = n) (hle : n ≤ sLen) (hsrc : ∀ j, j < n → w.cell? (ad.add j) = some (.int .u32 ((xs[j]?.getD 0 : Nat) : Int)))
  (h : wpList Tryz.prog ops Q rest (a.put o.dst (goInt n)) (w.setRow g (arr xs))) : wpList Tryz.prog ops Q (o :: rest) a w := by
 refine wpList_copy_own hgd d s 34 34 ho 118 Tryz.underlying34 size_u32 g 0 n n ad sLen sCap hd hs (arr old) 118 hg (arr xs).toList (by rw [show Nat.min sLen n = n from Nat.min_eq_right hle]; simp [arr_size, hxs]) ?_ (by simp [arr_size, hxs, hold]) ?_ ?_
 ·intro j v hv
  have hj : j < xs.length := by
   have := (List.getElem?_eq_some_iff.1 hv).1; simpa [arr_size] using this
  rw [hsrc j (by omega)]
  have := arr_get xs j hj
  rw [← Array.getElem?_toList, hv] at this
  exact this.symm
 ·intro v hv
  have := Array.all_eq_true_iff_forall_mem.1 (arr_one xs) v (by simpa using hv)
  exact this
 ·have e : ((arr old).toList.take 0 ++ ((arr xs).toList ++ (arr old).toList.drop (0 + (arr xs).toList.length))).toArray = arr xs := by
   rw [List.take_zero, List.nil_append, List.drop_eq_nil_of_le (by simp [arr_size, hxs, hold]), List.append_nil, Array.toArray_toList]
  rw [e]
  simpa [arr_size, hxs] using h
def numCells (neg : Bool) (p : Option Addr) (n c : Nat) : Array Value := #[.bool neg, .slice p n c]
theorem num_info : (Tryz.prog.info? 36).map (·.size) = some 2 := by kernel_rfl
theorem numCells_one (neg : Bool) (p : Option Addr) (n c : Nat) : (numCells neg p n c).all (·.oneCell') = true := by simp [numCells, Value.oneCell']
theorem store_num {ops : Array Oper} {rest : List Oper} {o : Oper} {a : Act} {w : World} {Q : Exit → Act → World → Prop} (hgd : o.guard = none) (x y : Operand) (ho : o.op = .store 36 x y)
  (g : Nat) (hx : a.eval x = .pointer (some ⟨g, 0, none⟩)) (neg : Bool) (p : Option Addr) (n c : Nat) (hy : a.eval y = .agg #[.bool neg, .slice p n c]) (t : TypeId) (old : Array Value) (hg : RowAt w g t old) (hold : old.size = 2)
  (h : wpList Tryz.prog ops Q rest (a.put o.dst undef) (w.setRow g (numCells neg p n c))) : wpList Tryz.prog ops Q (o :: rest) a w :=
 wpList_plain hgd fun _ hK => wp_store_row 36 x y ho g (numCells neg p n c) hx hy t old hg num_info hold (numCells_one ..) (hK _ _ h)
theorem load_num {ops : Array Oper} {rest : List Oper} {o : Oper} {a : Act} {w : World} {Q : Exit → Act → World → Prop} (hgd : o.guard = none) (x : Operand) (ho : o.op = .load 36 x)
  (g : Nat) (hx : a.eval x = .pointer (some ⟨g, 0, none⟩)) (neg : Bool) (p : Option Addr) (n c : Nat) (t : TypeId) (hg : RowAt w g t (numCells neg p n c))
  (h : wpList Tryz.prog ops Q rest (a.put o.dst (.agg #[.bool neg, .slice p n c])) w) : wpList Tryz.prog ops Q (o :: rest) a w :=
 wpList_load_row hgd 36 x ho g hx t (numCells neg p n c) (0, 0) _ hg Tryz.underlying36 rfl num_info h
theorem ret_num {fn : Func} {R : Ending → World → Prop} {tmps : Array Value} {w : World} {r u : Tmp} (hres : fn.results = #[.cell r 36, .tmp u]) (g : Nat) (hp : tmps.getD r undef = .pointer (some ⟨g, 0, none⟩)) (ok : Bool) (hu : tmps.getD u undef = .bool ok)
  (neg : Bool) (p : Option Addr) (n c : Nat) (t : TypeId) (hg : RowAt w g t (numCells neg p n c)) (hR : R (.returned (.tuple #[.agg #[.bool neg, .slice p n c], .bool ok])) w) : bodyPost Tryz.prog fn R .ret { tmps, defers := [] } w := by
 refine bodyPost_ret (v := .tuple #[.agg #[.bool neg, .slice p n c], .bool ok]) ?_ rfl hR
 have h1 := results_cell_tmp hres tmps Tryz.prog w
 rw [hp, hu] at h1
 have h2 := run_loadVar_row (P := Tryz.prog) w g t 36 (numCells neg p n c) (0, 0) _ hg Tryz.underlying36 rfl num_info
 rw [h1]
 simp only [asAddr, Sem.run_pure, Result.andThen]
 rw [h2]; rfl
theorem ret_num1 {fn : Func} {R : Ending → World → Prop} {tmps : Array Value} {w : World} {r : Tmp} (hres : fn.results = #[.cell r 36]) (g : Nat) (hp : tmps.getD r undef = .pointer (some ⟨g, 0, none⟩))
  (neg : Bool) (p : Option Addr) (n c : Nat) (t : TypeId) (hg : RowAt w g t (numCells neg p n c)) (hR : R (.returned (.agg #[.bool neg, .slice p n c])) w) : bodyPost Tryz.prog fn R .ret { tmps, defers := [] } w :=
 bodyPost_ret (results_cell_row hres _ _ _ _ _ _ _ hp hg Tryz.underlying36 rfl num_info) rfl hR
theorem cell_set2 (W : World) (g i j : Nat) (u v : Value) (a : Addr) (x : Option Value) (h : W.cell? a = x) (hne : a.block ≠ g) : ((W.setCell ⟨g, i, none⟩ u).setCell ⟨g, j, none⟩ v).cell? a = x :=
 (World.cell?_of_block ((heap_setCell_other _ ⟨g, j, none⟩ a.block v hne).trans (heap_setCell_other _ ⟨g, i, none⟩ a.block u hne))).trans h
theorem numCells_set {W : World} {g : Nat} {t : TypeId} {cs : Array Value} (h : RowAt W g t cs) (hs : cs.size = 2) (neg : Bool) (p : Option Addr) (n c : Nat) :
  RowAt ((W.setCell ⟨g, 0, none⟩ (.bool neg)).setCell ⟨g, 1, none⟩ (.slice p n c)) g t (numCells neg p n c) := by
 have h2 := (h.set 0 (.bool neg)).set 1 (.slice p n c)
 have e : (cs.setIfInBounds 0 (Value.bool neg)).setIfInBounds 1 (.slice p n c) = numCells neg p n c := by
  obtain ⟨l⟩ := cs
  match l, hs with
  | [x, y], _ => rfl
 rwa [e] at h2
theorem RowAt.num0 {W : World} {g : Nat} {t : TypeId} {neg : Bool} {p : Option Addr} {n c : Nat} (h : RowAt W g t (numCells neg p n c)) : W.cell? ⟨g, 0, none⟩ = some (.bool neg) := h.cell 0
theorem RowAt.num1 {W : World} {g : Nat} {t : TypeId} {neg : Bool} {p : Option Addr} {n c : Nat} (h : RowAt W g t (numCells neg p n c)) : W.cell? ⟨g, 1, none⟩ = some (.slice p n c) := h.cell 1
end Go.Proofs.YtgnogdncoljldaaGreat
namespace Go.Proofs.YtgnogdncoljldaaGreat
open Go Go.RowKit Go.Shelf
section
variable (p i : Nat) (ys : List Nat)
def lineTo (row : List Nat) : Nat → Nat × List Nat
 | 0 => (0, row)
 | k + 1 => (((lineTo row k).1 + (p * ys[k]?.getD 0 + (lineTo row k).2[i + k]?.getD 0)) / B32, (lineTo row k).2.set (i + k) (((lineTo row k).1 + (p * ys[k]?.getD 0 + (lineTo row k).2[i + k]?.getD 0)) % B32))
def line (row : List Nat) : List Nat := (lineTo p i ys row ys.length).2.set (i + ys.length) (lineTo p i ys row ys.length).1
end
def prodTo (xs ys : List Nat) : Nat → List Nat
 | 0 => List.replicate 65 0
 | i + 1 => line (xs[i]?.getD 0) i ys (prodTo xs ys i)
def prodRow (xs ys : List Nat) : List Nat := prodTo xs ys xs.length
theorem lineTo_length (p i : Nat) (ys row : List Nat) (k : Nat) : (lineTo p i ys row k).2.length = row.length := by
 induction k with
 | zero => rfl
 | succ k ih => simp [lineTo, ih]
theorem line_length (p i : Nat) (ys row : List Nat) : (line p i ys row).length = row.length := by simp [line, lineTo_length]
theorem prodTo_length (xs ys : List Nat) (k : Nat) : (prodTo xs ys k).length = 65 := by
 induction k with
 | zero => simp [prodTo]
 | succ k ih => rw [prodTo, line_length, ih]
theorem prodRow_length (xs ys : List Nat) : (prodRow xs ys).length = 65 := prodTo_length _ _ _
theorem Digits.set {ds : List Nat} (h : Digits ds) (i : Nat) {d : Nat} (hd : d < B32) : Digits (ds.set i d) := fun e he => by
 rcases List.mem_or_eq_of_mem_set he with h1 | rfl
 ·exact h e h1
 ·exact hd
theorem digits_replicate (n : Nat) : Digits (List.replicate n 0) := fun d hd => by rw [List.eq_of_mem_replicate hd]; exact B32_pos
theorem mul_bound {p q : Nat} (hp : p < B32) (hq : q < B32) : p * q ≤ 18446744065119617025 := by
 unfold B32 at *
 exact Nat.le_trans (Nat.mul_le_mul (Nat.le_of_lt_succ hp) (Nat.le_of_lt_succ hq)) (by decide)
theorem lineTo_bounds {p i : Nat} {ys row : List Nat} (hp : p < B32) (hy : Digits ys) (hr : Digits row) (k : Nat) : (lineTo p i ys row k).1 < B32 ∧ Digits (lineTo p i ys row k).2 := by
 induction k with
 | zero => exact ⟨B32_pos, hr⟩
 | succ k ih =>
   obtain ⟨h1, h2⟩ := ih
   have h3 := mul_bound hp (hy.getD k)
   have h4 := h2.getD (i + k)
   refine ⟨?_, h2.set _ (Nat.mod_lt _ B32_pos)⟩
   show (_ / B32) < B32
   unfold B32 at *
   omega
theorem line_digits {p i : Nat} {ys row : List Nat} (hp : p < B32) (hy : Digits ys) (hr : Digits row) : Digits (line p i ys row) :=
 (lineTo_bounds hp hy hr _).2.set _ (lineTo_bounds hp hy hr _).1
theorem prodTo_digits {xs ys : List Nat} (hx : Digits xs) (hy : Digits ys) (k : Nat) : Digits (prodTo xs ys k) := by
 induction k with
 | zero => exact digits_replicate _
 | succ k ih => exact line_digits (hx.getD k) hy ih
theorem prod_cast (c x y r : Nat) : ((c : Int) + ((x : Int) * (y : Int) + (r : Int))) / 4294967296 = (((c + (x * y + r)) / B32 : Nat) : Int) ∧
  ((c : Int) + ((x : Int) * (y : Int) + (r : Int))) % 4294967296 = (((c + (x * y + r)) % B32 : Nat) : Int) := by
 unfold B32
 rw [← Int.natCast_mul]
 generalize x * y = t
 omega
set_option maxRecDepth 100000 in
set_option maxHeartbeats 4000000 in
theorem product_calls (v u : Value) (xs ys : List Nat) (w : World) (hx : U32s w.heap.size w v xs) (hy : U32s w.heap.size w u ys) (hdx : Digits xs) (hdy : Digits ys) (h65 : xs.length + ys.length ≤ 65) :
  Calls Tryz.prog 135 #[v, u] w fun e w' => e = .returned (.agg (arr (prodRow xs ys))) ∧ Below w.heap.size w w' := by
 obtain ⟨p, cap, rfl, hl, hc⟩ := hx
 obtain ⟨q, cap2, rfl, hl2, hc2⟩ := hy
 have Hc := Lib.hid hc
 have Hc2 := Lib.hid hc2
 obtain ⟨n, hn⟩ : ∃ n, n = xs.length := ⟨_, rfl⟩
 obtain ⟨m, hm⟩ : ∃ m, m = ys.length := ⟨_, rfl⟩
 rw [← hn, ← hm] at h65
 have Hn := Lib.hid hn
 have Hm := Lib.hid hm
 rw [← hn, ← hm]
 have hln : ∀ i, prodTo xs ys (i + 1) = (lineTo (xs[i]?.getD 0) i ys (prodTo xs ys i) m).2.set (i + m) (lineTo (xs[i]?.getD 0) i ys (prodTo xs ys i) m).1 := fun i => by rw [hm]; rfl
 have Hln := Lib.hid hln
 clear hc hc2 hl hl2 hn hm hln
 go_enter Tryz.func135, Tryz.ntmps135
 go_wp2
 go_loopw [13] (fun i wr => ∃ k : Nat, k ≤ n ∧ i = .int .i64 k ∧ RowAt wr w.heap.size 155 Tryz.zeroCells155 ∧ RowAt wr (w.heap.size + 1) 155 (arr (prodTo xs ys k)) ∧ Below w.heap.size w wr)
  (fun i _ => n - (intOf i).toNat)
 case atStart => exact ⟨0, Nat.zero_le _, rfl, (RowAt.new w _ _).alloc _, by rw [prodTo, ← zero_row]; exact RowAt.new' _ _ (by simp), ((Below.refl _ w).alloc (Nat.le_refl _) _).alloc (by simp) _⟩
 case round =>
  obtain ⟨i, hi, rfl, hr4, hr5, hB⟩ := hrel
  obtain ⟨wo, hwo⟩ : ∃ wo : World, wo = wr := ⟨_, rfl⟩
  rw [← hwo] at hr4 hr5 hB ⊢
  clear hwo wr
  by_cases hlt : i < n
  ·obtain ⟨b, off, rfl, hbB, hcs⟩ := Hc.out (by rw [← Hn.out]; exact Nat.lt_of_le_of_lt (Nat.zero_le _) hlt)
   have hcx := (hB.cell (p := ⟨b, off + i, none⟩) hbB).trans (hcs i (by rw [← Hn.out]; exact hlt))
   clear hcs
   have Hl := Lib.hid (Hln.out i)
   have hp := hdx.getD i
   have HD := Lib.hid (prodTo_digits hdx hdy i)
   have Hlen := Lib.hid (prodTo_length xs ys i)
   generalize xs[i]?.getD 0 = x at *
   have Hp := Lib.hid hp
   clear hp
   go_wp2
   go_loopw [8, 20] (fun c j wr => ∃ k : Nat, k ≤ m ∧ j = .int .i64 k ∧ c = .int .u64 ((lineTo x i ys (prodTo xs ys i) k).1 : Nat) ∧ RowAt wr w.heap.size 155 Tryz.zeroCells155 ∧ RowAt wr (w.heap.size + 1) 155 (arr (lineTo x i ys (prodTo xs ys i) k).2) ∧ Below w.heap.size w wr)
    (fun _ j _ => m - (intOf j).toNat)
   case atStart => exact ⟨0, Nat.zero_le _, rfl, rfl, hr4, hr5, hB⟩
   case round =>
    clear hr4 hr5 hB hcx
    obtain ⟨k, hk, rfl, rfl, hr4, hr5, hB⟩ := hrel
    obtain ⟨hb1, hb2⟩ := lineTo_bounds (i := i) Hp.out hdy HD.out k
    have hll := lineTo_length x i ys (prodTo xs ys i) k
    rw [Hlen.out] at hll
    by_cases hkm : k < m
    ·obtain ⟨b2, off2, rfl, hbB2, hcs2⟩ := Hc2.out (by rw [← Hm.out]; exact Nat.lt_of_le_of_lt (Nat.zero_le _) hkm)
     have hcy := (hB.cell (p := ⟨b2, off2 + k, none⟩) hbB2).trans (hcs2 k (by rw [← Hm.out]; exact hkm))
     clear hcs2
     have hyk := hdy.getD k
     have hmul := mul_bound Hp.out hyk
     have hrk := hb2.getD (i + k)
     have hcr := (hr5.cell (i + k)).trans (arr_get _ (i + k) (by rw [hll]; omega))
     have hfr := hr5.frozen (i + k)
     have hs1 : (lineTo x i ys (prodTo xs ys i) (k + 1)).1 = ((lineTo x i ys (prodTo xs ys i) k).1 + (x * ys[k]?.getD 0 + (lineTo x i ys (prodTo xs ys i) k).2[i + k]?.getD 0)) / B32 := rfl
     have hs2 : (lineTo x i ys (prodTo xs ys i) (k + 1)).2 = (lineTo x i ys (prodTo xs ys i) k).2.set (i + k) (((lineTo x i ys (prodTo xs ys i) k).1 + (x * ys[k]?.getD 0 + (lineTo x i ys (prodTo xs ys i) k).2[i + k]?.getD 0)) % B32) := rfl
     generalize (lineTo x i ys (prodTo xs ys i) k).2[i + k]?.getD 0 = r at *
     generalize ys[k]?.getD 0 = y at *
     generalize lineTo x i ys (prodTo xs ys i) k = st at *
     obtain ⟨c, row⟩ := st
     dsimp only at *
     have Hs1 := Lib.hid hs1
     have Hs2 := Lib.hid hs2
     have Hr4 := Lib.hid hr4
     have Hr5 := Lib.hid hr5
     have Hll := Lib.hid hll
     have hx' := Hp.out
     have hik : (i : Int) + (k : Int) < 65 := by omega
     unfold B32 at hx' hyk hrk hb1
     have hmul' : (x : Int) * (y : Int) ≤ 18446744065119617025 := by rw [← Int.natCast_mul]; generalize x * y = t at hmul; clear hs1 hs2 Hs1 Hs2; omega
     have hmul0 : 0 ≤ (x : Int) * (y : Int) := Int.mul_nonneg (by omega) (by omega)
     clear hs1 hs2 hr4 hr5 hll hb2 hmul
     go_wp2
     go_roundw
     case rel =>
      rw [(prod_cast c x y r).1, (prod_cast c x y r).2]
      exact ⟨k + 1, by omega, by rw [Int.natCast_add]; rfl, by rw [Hs1.out], Hr4.out.setOther _ _ (by simp), by rw [Hs2.out, ← arr_set]; exact Hr5.out.set (i + k) _, hB.setCell (p := ⟨w.heap.size + 1, i + k, none⟩) (Nat.le_succ _) _⟩
     case measure => show m - ((k : Int) + 1).toNat < m - ((k : Int)).toNat; omega
    ·obtain rfl : k = m := by omega
     have Hl2 := Lib.hid (show prodTo xs ys (i + 1) = (lineTo x i ys (prodTo xs ys i) k).2.set (i + k) (lineTo x i ys (prodTo xs ys i) k).1 from Hl.out)
     have hcr := (hr5.cell (i + k)).trans (arr_get _ (i + k) (by rw [hll]; omega))
     have hfr := hr5.frozen (i + k)
     generalize lineTo x i ys (prodTo xs ys i) k = st at *
     obtain ⟨c, row⟩ := st
     dsimp only at *
     have Hr4 := Lib.hid hr4
     have Hr5 := Lib.hid hr5
     have hik : (i : Int) + (k : Int) < 65 := by omega
     unfold B32 at hb1
     clear hr4 hr5 hll hb2
     go_wp2
     go_roundw
     case rel => exact ⟨i + 1, by omega, by rw [Int.natCast_add]; rfl, Hr4.out.setOther _ _ (by simp), by rw [Hl2.out, ← arr_set]; exact Hr5.out.set (i + k) _, hB.setCell (p := ⟨w.heap.size + 1, i + k, none⟩) (Nat.le_succ _) _⟩
     case measure => show n - ((i : Int) + 1).toNat < n - ((i : Int)).toNat; omega
  ·obtain rfl : i = n := by omega
   have Hres := Lib.hid (show prodTo xs ys i = prodRow xs ys by rw [Hn.out]; rfl)
   have Hcl := Lib.hid (prodRow_length xs ys)
   rw [Hres.out] at hr5
   have Hr5 := Lib.hid hr5
   have Hr4 := Lib.hid hr4
   generalize hg : prodRow xs ys = res at *
   have Hg := Lib.hid hg
   clear hr4 hr5 hg
   go_wp2_with (first
    | (refine load_row rfl (.tmp 5) rfl (w.heap.size + 1) rfl res Hcl.out 155 Hr5.out ?_)
    | (refine store_row rfl (.tmp 4) (.tmp 56) rfl w.heap.size rfl res Hcl.out rfl 155 Tryz.zeroCells155 Hr4.out (by kernel_rfl) ?_))
   refine ret_row rfl w.heap.size rfl res Hcl.out 155 (Hr4.out.setRow _) ⟨by rw [Hg.out], below_setRow2 hB (Nat.le_refl _) _⟩
end Go.Proofs.YtgnogdncoljldaaGreat
namespace Go.Proofs.YtgnogdncoljldaaGreat
open Go Go.RowKit Go.Shelf
attribute [local go_sem] Oper.semAt_some
def rightB (neg : Bool) (ds : List Nat) : Bool := if ds.length = 0 then !neg else (decide (ds.length ≤ 64) && (ds[ds.length - 1]?.getD 0 != 0))
set_option maxRecDepth 100000 in
set_option maxHeartbeats 2000000 in
theorem right_calls (neg : Bool) (v : Value) (ds : List Nat) (w : World) (hu : U32s w.heap.size w v ds) :
  Calls Tryz.prog 123 #[.agg #[.bool neg, v]] w fun e w' => e = .returned (.bool (rightB neg ds)) ∧ Below w.heap.size w w' := by
 obtain ⟨p, cap, rfl, hl, hc⟩ := hu
 have hlm := digs_lt_maxLen hl
 clear hl
 by_cases h0 : ds.length = 0
 ·have hr : rightB neg ds = !neg := by simp [rightB, h0]
  rw [hr, h0]
  clear hr hc hlm h0
  go_enter Tryz.func123, Tryz.ntmps123
  go_wp2
  go_ret
  exact ⟨rfl, (Below.refl _ w).alloc (Nat.le_refl _) _⟩
 ·obtain ⟨b, off, rfl, hB, hc⟩ := hc (by omega)
  have hlast := hc (ds.length - 1) (by omega)
  obtain ⟨n, hn⟩ : ∃ n, ds.length = n + 1 := ⟨ds.length - 1, by omega⟩
  rw [hn, Nat.add_sub_cancel] at hlast
  obtain ⟨d, hd⟩ : ∃ d, d = ds[n]?.getD 0 := ⟨_, rfl⟩
  rw [← hd] at hlast
  have hr : rightB neg ds = (decide (n + 1 ≤ 64) && (d != 0)) := by simp [rightB, hn, hd]
  rw [hr, hn]
  clear hr hd hc h0
  rw [hn] at hlm
  clear hn
  by_cases h64 : n + 1 ≤ 64
  ·by_cases hz : d = 0
   ·subst hz
    go_enter Tryz.func123, Tryz.ntmps123
    go_wp2
    go_ret
    exact ⟨by simp, (Below.refl _ w).alloc (Nat.le_refl _) _⟩
   ·have hz2 : ((d : Int) != 0) = true := by simp [hz]
    go_enter Tryz.func123, Tryz.ntmps123
    go_wp2
    go_ret
    exact ⟨by simp [h64, hz], (Below.refl _ w).alloc (Nat.le_refl _) _⟩
  ·go_enter Tryz.func123, Tryz.ntmps123
   go_wp2
   go_ret
   exact ⟨by simp [h64], (Below.refl _ w).alloc (Nat.le_refl _) _⟩
def subLo (x y c : Nat) : Nat := (x + B32 - y - c) % B32
def subHi (x y c : Nat) : Nat := if x < y + c then 1 else 0
def addLo (x y c : Nat) : Nat := (x + y + c) % B32
def addHi (x y c : Nat) : Nat := (x + y + c) / B32
set_option maxRecDepth 100000 in
set_option maxHeartbeats 2000000 in
theorem sum1_calls (x y c : Nat) (hx : x < B32) (hy : y < B32) (hc : c ≤ 1) (w : World) :
  Calls Tryz.prog 196 #[.int .u32 x, .int .u32 y, .int .u32 c] w fun e w' => e = .returned (.agg #[.int .u32 (addLo x y c : Nat), .int .u32 (addHi x y c : Nat)]) ∧ Below w.heap.size w w' := by
 have e1 : ((addLo x y c : Nat) : Int) = ((x : Int) + y + c) % 4294967296 := by unfold addLo B32; omega
 have e2 : ((addHi x y c : Nat) : Int) = ((x : Int) + y + c) / 4294967296 := by unfold addHi B32; omega
 rw [e1, e2]
 clear e1 e2
 unfold B32 at *
 go_enter Tryz.func196, Tryz.ntmps196
 go_wp2
 refine bodyPost_ret (v := .agg #[.int .u32 (((x : Int) + y + c) % 4294967296), .int .u32 (((x : Int) + y + c) / 4294967296)]) (by simp [results, Tryz.f196, go_sem]) rfl ⟨rfl, (Below.refl _ w).alloc (Nat.le_refl _) _⟩
theorem sub_wrap (x y c : Nat) (hx : x < B32) (hy : y < B32) (hc : c ≤ 1) :
  IntKind.u64.wrap (IntKind.u64.wrap ((x : Int) - y) - c) % 4294967296 = ((subLo x y c : Nat) : Int) ∧ IntKind.u64.wrap (IntKind.u64.wrap ((x : Int) - y) - c) / 9223372036854775808 % 4294967296 = ((subHi x y c : Nat) : Int) := by
 unfold subLo subHi B32 at *
 rw [IntKind.wrap_u64, IntKind.wrap_u64]
 constructor
 ·omega
 ·split <;> omega
set_option maxRecDepth 100000 in
set_option maxHeartbeats 2000000 in
theorem difference1_calls (x y c : Nat) (hx : x < B32) (hy : y < B32) (hc : c ≤ 1) (w : World) :
  Calls Tryz.prog 197 #[.int .u32 x, .int .u32 y, .int .u32 c] w fun e w' => e = .returned (.agg #[.int .u32 (subLo x y c : Nat), .int .u32 (subHi x y c : Nat)]) ∧ Below w.heap.size w w' := by
 obtain ⟨e1, e2⟩ := sub_wrap x y c hx hy hc
 rw [← e1, ← e2]
 clear e1 e2
 unfold B32 at *
 go_enter Tryz.func197, Tryz.ntmps197
 go_wp2
 refine bodyPost_ret (v := .agg #[.int .u32 (IntKind.u64.wrap (IntKind.u64.wrap ((x : Int) - y) - c) % 4294967296), .int .u32 (IntKind.u64.wrap (IntKind.u64.wrap ((x : Int) - y) - c) / 9223372036854775808 % 4294967296)]) (by simp [results, Tryz.f197, go_sem]) rfl ⟨rfl, (Below.refl _ w).alloc (Nat.le_refl _) _⟩
def split2 (n : Nat) : List Nat := n % B32 :: n / B32 :: List.replicate 63 0
theorem split2_length (n : Nat) : (split2 n).length = 65 := by simp [split2]
theorem split2_set (n : Nat) : ((List.replicate 65 0).set 0 (n % B32)).set 1 (n / B32) = split2 n := by
 rfl
set_option maxRecDepth 100000 in
set_option maxHeartbeats 2000000 in
theorem split_calls (n : Nat) (hn : n < 18446744073709551616) (w : World) :
  Calls Tryz.prog 119 #[.int .u64 n] w fun e w' => e = .returned (.agg (arr (split2 n))) ∧ Below w.heap.size w w' := by
 have hy : (Tryz.zeroCells155.setIfInBounds 0 (Value.int .u32 ((n : Int) % 4294967296))).setIfInBounds 1 (Value.int .u32 ((n : Int) / 4294967296)) = arr (split2 n) := by
  rw [zero_row, show ((n : Int) % 4294967296) = ((n % B32 : Nat) : Int) by unfold B32; omega, show ((n : Int) / 4294967296) = ((n / B32 : Nat) : Int) by unfold B32; omega, arr_set, arr_set, split2_set]
 have Hy := Lib.hid hy
 clear hy
 go_enter Tryz.func119, Tryz.ntmps119
 go_wp2_with (refine store_row rfl (.tmp 2) (.tmp 8) rfl w.heap.size rfl (split2 n) (split2_length n) (by rw [← Hy.out]; rfl) 155 Tryz.zeroCells155 (RowAt.new w _ _) (by kernel_rfl) ?_)
 refine bodyPost_ret (results_cell_row rfl _ _ _ _ _ _ _ rfl (RowAt.setRow (RowAt.new w _ _) _) Tryz.underlying155 rfl (by rw [row_info, arr_size, split2_length])) rfl ⟨rfl, below_setRow2 ((Below.refl _ w).alloc (Nat.le_refl _) _) (Nat.le_refl _) _⟩
end Go.Proofs.YtgnogdncoljldaaGreat
namespace Go.Proofs.YtgnogdncoljldaaGreat
open Go Go.RowKit Go.Shelf
section
variable (lo hi : Nat → Nat → Nat → Nat) (xs ys : List Nat)
def carryTo : Nat → Nat
 | 0 => 0
 | k + 1 => hi (xs[k]?.getD 0) (ys[k]?.getD 0) (carryTo k)
def digitAt (k : Nat) : Nat := lo (xs[k]?.getD 0) (ys[k]?.getD 0) (carryTo hi xs ys k)
def rowTo : Nat → List Nat
 | 0 => List.replicate 65 0
 | k + 1 => (rowTo k).set k (digitAt lo hi xs ys k)
def combRow : List Nat := (rowTo lo hi xs ys xs.length).set xs.length (carryTo hi xs ys xs.length)
theorem rowTo_length (k : Nat) : (rowTo lo hi xs ys k).length = 65 := by
 induction k with
 | zero => simp [rowTo]
 | succ k ih => simp [rowTo, ih]
theorem combRow_length : (combRow lo hi xs ys).length = 65 := by simp [combRow, rowTo_length]
end
set_option maxRecDepth 100000 in
set_option maxHeartbeats 2000000 in
theorem combine_calls (J : Nat) (eg : ∀ args w, (callFunc J args).run Tryz.prog w = .ok (.enter J args) w) (lo hi : Nat → Nat → Nat → Nat)
  (hj : ∀ (x y c : Nat) (W : World), x < B32 → y < B32 → c ≤ 1 → Calls Tryz.prog J #[.int .u32 x, .int .u32 y, .int .u32 c] W fun e w' => e = .returned (.agg #[.int .u32 (lo x y c : Nat), .int .u32 (hi x y c : Nat)]) ∧ Below W.heap.size W w')
  (hhi : ∀ x y c, x < B32 → y < B32 → c ≤ 1 → hi x y c ≤ 1)
  (v u : Value) (xs ys : List Nat) (w : World) (hx : U32s w.heap.size w v xs) (hy : U32s w.heap.size w u ys) (hdx : Digits xs) (hdy : Digits ys) (h64 : xs.length ≤ 64) :
  Calls Tryz.prog 195 #[v, u, .func (.func J) #[] #[]] w fun e w' => e = .returned (.agg (arr (combRow lo hi xs ys))) ∧ Below w.heap.size w w' := by
 obtain ⟨p, cap, rfl, hl, hc⟩ := hx
 obtain ⟨q, cap2, rfl, hl2, hc2⟩ := hy
 have hlm2 := digs_lt_maxLen hl2
 have hcarry : ∀ k, carryTo hi xs ys k ≤ 1 := fun k => by
  induction k with
  | zero => simp [carryTo]
  | succ k ih => exact hhi _ _ _ (hdx.getD k) (hdy.getD k) ih
 have HC := Lib.hid hcarry
 have HJ := Lib.hid hj
 have Hc := Lib.hid hc
 have Hc2 := Lib.hid hc2
 obtain ⟨n, hn⟩ : ∃ n, n = xs.length := ⟨_, rfl⟩
 obtain ⟨m, hm⟩ : ∃ m, m = ys.length := ⟨_, rfl⟩
 rw [← hn] at h64
 rw [← hm] at hlm2
 have Hn := Lib.hid hn
 have Hm := Lib.hid hm
 rw [← hn, ← hm]
 clear hcarry hj hc hc2 hl hl2 hhi hn hm
 go_enter Tryz.func195, Tryz.ntmps195
 go_wp2
 go_loopw [8, 15] (fun c i wr => ∃ k : Nat, k ≤ n ∧ i = .int .i64 k ∧ c = .int .u32 (carryTo hi xs ys k : Nat) ∧ RowAt wr w.heap.size 155 Tryz.zeroCells155 ∧ RowAt wr (w.heap.size + 1) 155 (arr (rowTo lo hi xs ys k)) ∧ Below w.heap.size w wr)
  (fun _ i _ => n - (intOf i).toNat)
 case atStart => exact ⟨0, Nat.zero_le _, rfl, rfl, (RowAt.new w _ _).alloc _, by rw [rowTo, ← zero_row]; exact RowAt.new' _ _ (by simp), ((Below.refl _ w).alloc (Nat.le_refl _) _).alloc (by simp) _⟩
 case round =>
  obtain ⟨k, hk, rfl, rfl, hr6, hr7, hB⟩ := hrel
  by_cases hlt : k < n
  ·obtain ⟨b, off, rfl, hbB, hcs⟩ := Hc.out (by rw [← Hn.out]; exact Nat.lt_of_le_of_lt (Nat.zero_le _) hlt)
   have hcx := (hB.cell (p := ⟨b, off + k, none⟩) hbB).trans (hcs k (by rw [← Hn.out]; exact hlt))
   clear hcs
   have hxk := hdx.getD k
   have hyk := hdy.getD k
   have hck := HC.out k
   have hs1 : carryTo hi xs ys (k + 1) = hi (xs[k]?.getD 0) (ys[k]?.getD 0) (carryTo hi xs ys k) := rfl
   have hs2 : rowTo lo hi xs ys (k + 1) = (rowTo lo hi xs ys k).set k (lo (xs[k]?.getD 0) (ys[k]?.getD 0) (carryTo hi xs ys k)) := rfl
   have hrl := rowTo_length lo hi xs ys k
   have hyz : ¬ k < m → ys[k]?.getD 0 = 0 := fun h => by rw [List.getElem?_eq_none (by rw [← Hm.out]; omega)]; rfl
   have hyc : k < m → ∃ b2 off2, q = some ⟨b2, off2, none⟩ ∧ wr.cell? ⟨b2, off2 + k, none⟩ = some (.int .u32 (ys[k]?.getD 0 : Nat)) := fun h => by
    obtain ⟨b2, off2, rfl, hb2, hcs⟩ := Hc2.out (by rw [← Hm.out]; exact Nat.lt_of_le_of_lt (Nat.zero_le _) h)
    exact ⟨b2, off2, rfl, (hB.cell (p := ⟨b2, off2 + k, none⟩) hb2).trans (hcs k (by rw [← Hm.out]; exact h))⟩
   generalize xs[k]?.getD 0 = x at *
   generalize ys[k]?.getD 0 = y at *
   generalize carryTo hi xs ys k = c at *
   generalize rowTo lo hi xs ys k = row at *
   have Hs1 := Lib.hid hs1
   have Hs2 := Lib.hid hs2
   have Hrl := Lib.hid hrl
   clear hs1 hs2 hrl
   have hsz := hr7.lt
   by_cases hkm : k < m
   ·obtain ⟨b2, off2, rfl, hcy⟩ := hyc hkm
    have HX := Lib.hid (And.intro hxk (And.intro hyk hck))
    clear hyc hyz hxk hyk hck
    go_wp2_with fail
    refine (HJ.out x y c _ HX.out.1 HX.out.2.1 HX.out.2.2).mono ?_
    rintro e w1 ⟨rfl, hb1⟩
    have hr71 := hr7.below hb1 hsz
    have hc70 := (hr71.cell k).trans (arr_get row k (by rw [Hrl.out]; omega))
    have hk65 : (k : Int) < 65 := by omega
    have hf70 := hr71.frozen k
    have hsz1 := Nat.lt_of_lt_of_le hsz hb1.size
    have Hr61 := Lib.hid (hr6.below hb1 hr6.lt)
    have Hr71 := Lib.hid hr71
    clear hr71
    go_wp2
    go_region
    all_goals go_wp2
    all_goals go_roundw
    case rel => exact ⟨k + 1, by omega, by simp, by rw [Hs1.out], ((Hr61.out.setOther _ _ (by simp)).alloc _).drew, by rw [Hs2.out, ← arr_set]; exact ((Hr71.out.set k _).alloc _).drew, (((hB.trans (hb1.mono hB.size)).setCell (p := ⟨w.heap.size + 1, k, none⟩) (Nat.le_succ _) _).alloc (by simp [World.setCell]; have := hb1.size; have := hB.size; omega) _).drew⟩
    case measure => simp [intOf]; omega
   ·obtain rfl : y = 0 := hyz hkm
    have HX := Lib.hid (And.intro hxk (And.intro hyk hck))
    clear hyc hyz hxk hyk hck
    have hcall : Calls Tryz.prog J #[.int .u32 x, .int .u32 0, .int .u32 c] wr _ := HJ.out x 0 c wr HX.out.1 HX.out.2.1 HX.out.2.2
    have Hcall := Lib.hid hcall
    clear hcall
    go_wp2_with fail
    refine Hcall.out.mono ?_
    rintro e w1 ⟨rfl, hb1⟩
    have hr71 := hr7.below hb1 hsz
    have hc70 := (hr71.cell k).trans (arr_get row k (by rw [Hrl.out]; omega))
    have hk65 : (k : Int) < 65 := by omega
    have hf70 := hr71.frozen k
    have hsz1 := Nat.lt_of_lt_of_le hsz hb1.size
    have Hr61 := Lib.hid (hr6.below hb1 hr6.lt)
    have Hr71 := Lib.hid hr71
    clear hr71
    go_wp2
    go_region
    all_goals go_wp2
    all_goals go_roundw
    case rel => exact ⟨k + 1, by omega, by simp, by rw [Hs1.out], ((Hr61.out.setOther _ _ (by simp)).alloc _).drew, by rw [Hs2.out, ← arr_set]; exact ((Hr71.out.set k _).alloc _).drew, (((hB.trans (hb1.mono hB.size)).setCell (p := ⟨w.heap.size + 1, k, none⟩) (Nat.le_succ _) _).alloc (by simp [World.setCell]; have := hb1.size; have := hB.size; omega) _).drew⟩
    case measure => simp [intOf]; omega
  ·obtain rfl : k = n := by omega
   have hsz := hr7.lt
   have hrl := rowTo_length lo hi xs ys k
   have hcb : combRow lo hi xs ys = (rowTo lo hi xs ys k).set k (carryTo hi xs ys k) := by unfold combRow; rw [← Hn.out]
   have hcl := combRow_length lo hi xs ys
   have hc7 := (hr7.cell k).trans (arr_get _ k (by rw [hrl]; omega))
   have hf7 := hr7.frozen k
   have hk65 : (k : Int) < 65 := by omega
   have Hrow := Lib.hid (show RowAt (wr.setCell ⟨w.heap.size + 1, k, none⟩ (.int .u32 (carryTo hi xs ys k : Nat))) (w.heap.size + 1) 155 (arr (combRow lo hi xs ys)) by rw [hcb, ← arr_set]; exact hr7.set k _)
   have Hr6 := Lib.hid (hr6.setOther ⟨w.heap.size + 1, k, none⟩ (.int .u32 (carryTo hi xs ys k : Nat)) (by simp))
   have Hcl := Lib.hid hcl
   generalize carryTo hi xs ys k = c at *
   generalize rowTo lo hi xs ys k = row at *
   generalize hres : combRow lo hi xs ys = res at *
   have Hres := Lib.hid hres
   clear hres hrl hcb hcl hr6 hr7
   go_wp2_with (first
    | (refine load_row rfl (.tmp 7) rfl (w.heap.size + 1) rfl res Hcl.out 155 Hrow.out ?_)
    | (refine store_row rfl (.tmp 6) (.tmp 44) rfl w.heap.size rfl res Hcl.out rfl 155 Tryz.zeroCells155 Hr6.out (by kernel_rfl) ?_))
   refine ret_row rfl w.heap.size rfl res Hcl.out 155 (Hr6.out.setRow _) ⟨by rw [Hres.out], below_setRow2 (hB.setCell (p := ⟨w.heap.size + 1, k, none⟩) (Nat.le_succ _) _) (Nat.le_refl _) _⟩
set_option maxHeartbeats 1000000 in
theorem difference_calls (v u : Value) (xs ys : List Nat) (w : World) (hx : U32s w.heap.size w v xs) (hy : U32s w.heap.size w u ys) (hdx : Digits xs) (hdy : Digits ys) (h64 : xs.length ≤ 64) :
  Calls Tryz.prog 165 #[v, u] w fun e w' => e = .returned (.agg (arr (combRow subLo subHi xs ys))) ∧ Below w.heap.size w w' := by
 have hcall := combine_calls 197 (enters_of Tryz.func197 (by kernel_rfl) rfl) subLo subHi (fun x y c W h1 h2 h3 => difference1_calls x y c h1 h2 h3 W) (fun x y c _ _ _ => by unfold subHi; split <;> omega) v u xs ys (w.alloc (.cells Tryz.zeroCells155 155))
  ((hx.below ((Below.refl _ w).alloc (Nat.le_refl _) _)).mono (by simp)) ((hy.below ((Below.refl _ w).alloc (Nat.le_refl _) _)).mono (by simp)) hdx hdy h64
 have hcl := combRow_length subLo subHi xs ys
 have Hcall := Lib.hid hcall
 have Hcl := Lib.hid hcl
 generalize hres : combRow subLo subHi xs ys = res at *
 have Hres := Lib.hid hres
 have Hx := Lib.hid hx
 have Hy := Lib.hid hy
 clear hcall hcl hres hx hy
 go_enter Tryz.func165, Tryz.ntmps165
 go_wp2_with fail
 refine Hcall.out.mono ?_
 rintro e w1 ⟨rfl, hb1⟩
 have Hr := Lib.hid ((RowAt.new w 155 Tryz.zeroCells155).below hb1 (by simp))
 go_wp2_with (refine store_row rfl (.tmp 4) (.tmp 7) rfl w.heap.size rfl res Hcl.out rfl 155 Tryz.zeroCells155 Hr.out (by kernel_rfl) ?_)
 refine ret_row rfl w.heap.size rfl res Hcl.out 155 (Hr.out.setRow _) ⟨rfl, below_setRow2 (((Below.refl _ w).alloc (Nat.le_refl _) _).trans (hb1.mono (by simp))) (Nat.le_refl _) _⟩
def sumRow (xs ys : List Nat) : List Nat := if xs.length < ys.length then combRow addLo addHi ys xs else combRow addLo addHi xs ys
theorem sumRow_length (xs ys : List Nat) : (sumRow xs ys).length = 65 := by unfold sumRow; split <;> exact combRow_length _ _ _ _
theorem sumComb (v u : Value) (xs ys : List Nat) (w : World) (hx : U32s w.heap.size w v xs) (hy : U32s w.heap.size w u ys) (hdx : Digits xs) (hdy : Digits ys) (h64 : xs.length ≤ 64) :
  Calls Tryz.prog 195 #[v, u, .func (.func 196) #[] #[]] (w.alloc (.cells Tryz.zeroCells155 155)) fun e w' => e = .returned (.agg (arr (combRow addLo addHi xs ys))) ∧ Below (w.alloc (.cells Tryz.zeroCells155 155)).heap.size (w.alloc (.cells Tryz.zeroCells155 155)) w' :=
 combine_calls 196 (enters_of Tryz.func196 (by kernel_rfl) rfl) addLo addHi (fun x y c W h1 h2 h3 => sum1_calls x y c h1 h2 h3 W) (fun x y c h1 h2 h3 => by unfold addHi B32 at *; omega) v u xs ys (w.alloc (.cells Tryz.zeroCells155 155))
  ((hx.below ((Below.refl _ w).alloc (Nat.le_refl _) _)).mono (by simp)) ((hy.below ((Below.refl _ w).alloc (Nat.le_refl _) _)).mono (by simp)) hdx hdy h64
set_option maxHeartbeats 1000000 in
theorem sum_calls (v u : Value) (xs ys : List Nat) (w : World) (hx : U32s w.heap.size w v xs) (hy : U32s w.heap.size w u ys) (hdx : Digits xs) (hdy : Digits ys) (h64 : xs.length ≤ 64) (h64y : ys.length ≤ 64) :
  Calls Tryz.prog 164 #[v, u] w fun e w' => e = .returned (.agg (arr (sumRow xs ys))) ∧ Below w.heap.size w w' := by
 have hcl := sumRow_length xs ys
 by_cases hlt : xs.length < ys.length
 ·have hcall := sumComb u v ys xs w hy hx hdy hdx h64y
  have hres : combRow addLo addHi ys xs = sumRow xs ys := by unfold sumRow; rw [if_pos hlt]
  rw [hres] at hcall
  generalize sumRow xs ys = res at *
  obtain ⟨p, cap, rfl, -, -⟩ := hx
  obtain ⟨q, cap2, rfl, -, -⟩ := hy
  have Hcall := Lib.hid hcall
  have Hcl := Lib.hid hcl
  clear hcall hcl hres
  go_enter Tryz.func164, Tryz.ntmps164
  go_wp2_with fail
  refine Hcall.out.mono ?_
  rintro e w1 ⟨rfl, hb1⟩
  have Hr := Lib.hid ((RowAt.new w 155 Tryz.zeroCells155).below hb1 (by simp))
  go_wp2_with (refine store_row rfl (.tmp 4) (.tmp 14) rfl w.heap.size rfl res Hcl.out rfl 155 Tryz.zeroCells155 Hr.out (by kernel_rfl) ?_)
  refine ret_row rfl w.heap.size rfl res Hcl.out 155 (Hr.out.setRow _) ⟨rfl, below_setRow2 (((Below.refl _ w).alloc (Nat.le_refl _) _).trans (hb1.mono (by simp))) (Nat.le_refl _) _⟩
 ·have hcall := sumComb v u xs ys w hx hy hdx hdy h64
  have hres : combRow addLo addHi xs ys = sumRow xs ys := by unfold sumRow; rw [if_neg hlt]
  rw [hres] at hcall
  generalize sumRow xs ys = res at *
  obtain ⟨p, cap, rfl, -, -⟩ := hx
  obtain ⟨q, cap2, rfl, -, -⟩ := hy
  have Hcall := Lib.hid hcall
  have Hcl := Lib.hid hcl
  have hge : ys.length ≤ xs.length := by omega
  clear hcall hcl hres hlt
  go_enter Tryz.func164, Tryz.ntmps164
  go_wp2_with fail
  refine Hcall.out.mono ?_
  rintro e w1 ⟨rfl, hb1⟩
  have Hr := Lib.hid ((RowAt.new w 155 Tryz.zeroCells155).below hb1 (by simp))
  go_wp2_with (refine store_row rfl (.tmp 4) (.tmp 14) rfl w.heap.size rfl res Hcl.out rfl 155 Tryz.zeroCells155 Hr.out (by kernel_rfl) ?_)
  refine ret_row rfl w.heap.size rfl res Hcl.out 155 (Hr.out.setRow _) ⟨rfl, below_setRow2 (((Below.refl _ w).alloc (Nat.le_refl _) _).trans (hb1.mono (by simp))) (Nat.le_refl _) _⟩
end Go.Proofs.YtgnogdncoljldaaGreat
namespace Go.Proofs.YtgnogdncoljldaaGreat
open Go Go.RowKit Go.Shelf
def NumV (B : Nat) (w : World) (v : Value) (neg : Bool) (ds : List Nat) : Prop := ∃ s, v = .agg #[.bool neg, s] ∧ U32s B w s ds
theorem NumV.below {B : Nat} {w w' : World} {v : Value} {neg : Bool} {ds : List Nat} (h : NumV B w v neg ds) (hb : Below B w w') : NumV B w' v neg ds := by
 obtain ⟨s, rfl, hs⟩ := h; exact ⟨s, rfl, hs.below hb⟩
theorem NumV.mono {B B' : Nat} {w : World} {v : Value} {neg : Bool} {ds : List Nat} (h : NumV B w v neg ds) (hb : B ≤ B') : NumV B' w v neg ds := by
 obtain ⟨s, rfl, hs⟩ := h; exact ⟨s, rfl, hs.mono hb⟩
theorem u32s_nil (B : Nat) (w : World) : U32s B w (.slice none 0 0) [] := ⟨none, 0, rfl, Nat.zero_le _, fun h => by cases h⟩
def U32N (lo B : Nat) (w : World) (v : Value) (ds : List Nat) : Prop :=
 ∃ (p : Option Addr) (cap : Nat), v = .slice p ds.length cap ∧ ds.length ≤ maxLen ∧ (0 < ds.length → ∃ b off, p = some ⟨b, off, none⟩ ∧ lo ≤ b ∧ b < B ∧ ∀ j, j < ds.length → w.cell? ⟨b, off + j, none⟩ = some (.int .u32 ((ds[j]?.getD 0 : Nat) : Int)))
theorem U32N.u32s {lo B : Nat} {w : World} {v : Value} {ds : List Nat} (h : U32N lo B w v ds) : U32s B w v ds := by
 obtain ⟨p, cap, rfl, hl, hc⟩ := h
 refine ⟨p, cap, rfl, hl, fun h0 => ?_⟩
 obtain ⟨b, off, rfl, _, hB, hc⟩ := hc h0
 exact ⟨b, off, rfl, hB, hc⟩
theorem u32n_nil (lo B : Nat) (w : World) : U32N lo B w (.slice none 0 0) [] := ⟨none, 0, rfl, Nat.zero_le _, fun h => by cases h⟩
def NumPost (w : World) (neg : Bool) (ds : List Nat) (ok : Bool) (e : Ending) (w' : World) : Prop :=
 ∃ s, e = .returned (.tuple #[.agg #[.bool neg, s], .bool ok]) ∧ U32N w.heap.size w'.heap.size w' s ds ∧ Below w.heap.size w w'
structure Turned (g : Nat) (w w' : World) : Prop where
 size : w'.heap.size = w.heap.size
 os : w'.os = w.os
 tape : w'.tape = w.tape
 output : w'.output = w.output
 block : ∀ k, k ≠ g → w'.heap[k]? = w.heap[k]?
theorem turned_setRow (w : World) (g : Nat) (cs : Array Value) : Turned g w (w.setRow g cs) := ⟨by simp, rfl, rfl, rfl, fun k hk => setRow_other w g k cs hk⟩
theorem turned_set2 (w : World) (g : Nat) (u v : Value) : Turned g w ((w.setCell ⟨g, 0, none⟩ u).setCell ⟨g, 1, none⟩ v) :=
 ⟨by simp [World.setCell], rfl, rfl, rfl, fun k hk => (heap_setCell_other _ ⟨g, 1, none⟩ k v hk).trans (heap_setCell_other _ ⟨g, 0, none⟩ k u hk)⟩
theorem finNum {w W w5 w6 : World} {g : Nat} {s : Value} {ds : List Nat} (hB : Below w.heap.size w W) (hg : w.heap.size ≤ g) (hgW : g < W.heap.size) (hu : U32N W.heap.size w5.heap.size w5 s ds) (hb5 : Below W.heap.size W w5) (ht : Turned g w5 w6) :
  U32N w.heap.size w6.heap.size w6 s ds ∧ Below w.heap.size w w6 := by
 have h1 := hB.trans (hb5.mono hB.size)
 refine ⟨?_, ⟨ht.os.trans h1.os, ht.tape.trans h1.tape, ht.output.trans h1.output, by rw [ht.size]; exact h1.size, fun k hk => (ht.block k (by omega)).trans (h1.block k hk)⟩⟩
 obtain ⟨p, cap, rfl, hl, hc⟩ := hu
 refine ⟨p, cap, rfl, hl, fun h0 => ?_⟩
 obtain ⟨b, off, rfl, hlo, hlt, hcs⟩ := hc h0
 have := hB.size
 exact ⟨b, off, rfl, by omega, by rw [ht.size]; exact hlt, fun j hj => (World.cell?_of_block (ht.block b (by omega))).trans (hcs j hj)⟩
def resNeg (neg : Bool) (ds : List Nat) : Bool := if ds = [] ∨ 64 < ds.length then false else neg
def resDs (ds : List Nat) : List Nat := if 64 < ds.length then [] else ds
def resOk (ds : List Nat) : Bool := decide (ds.length ≤ 64)
set_option maxRecDepth 100000 in
set_option maxHeartbeats 2000000 in
theorem number_calls (neg : Bool) (v : Value) (ds : List Nat) (w : World) (hu : U32s w.heap.size w v ds) :
  Calls Tryz.prog 120 #[.bool neg, v] w (NumPost w (resNeg neg (strip ds)) (resDs (strip ds)) (resOk (strip ds))) := by
 have hlen := length_calls v ds (w.alloc (.cells #[.bool false, .slice none 0 0] 36)) ((hu.below ((Below.refl _ w).alloc (Nat.le_refl _) _)).mono (by simp))
 have hst := strip_length_le ds
 have htk := strip_take ds
 generalize hsd : strip ds = sd at *
 obtain ⟨p, cap, rfl, hl, hc⟩ := hu
 have hlm := digs_lt_maxLen hl
 have Hlen := Lib.hid hlen
 have Hsd := Lib.hid hsd
 have Htk := Lib.hid htk
 clear hlen hsd hl htk
 by_cases h0 : sd.length = 0
 ·obtain rfl : sd = [] := List.eq_nil_of_length_eq_zero h0
  clear hc h0
  go_enter Tryz.func120, Tryz.ntmps120
  go_wp2_with fail
  refine Hlen.out.mono ?_
  rintro e w1 ⟨rfl, hb1⟩
  have Hr := Lib.hid ((RowAt.new w 36 #[.bool false, .slice none 0 0]).below hb1 (by simp))
  go_wp2_with (refine store_num rfl (.tmp 4) (.tmp 12) rfl w.heap.size rfl false none 0 0 rfl _ _ Hr.out rfl ?_)
  refine ret_num rfl w.heap.size rfl true rfl false none 0 0 _ (Hr.out.setRow _) ⟨_, rfl, u32n_nil _ _ _, below_setRow2 (((Below.refl _ w).alloc (Nat.le_refl _) _).trans (hb1.mono (by simp))) (Nat.le_refl _) _⟩
 ·by_cases h64 : 64 < sd.length
  ·have hne : sd ≠ [] := by intro e; simp [e] at h0
   have hgt : ((sd.length : Int) == 0) = false := by simp; omega
   have e1 : resNeg neg sd = false := by simp [resNeg, h64]
   have e2 : resDs sd = [] := by simp [resDs, h64]
   have e3 : resOk sd = false := by simp [resOk, h64]
   rw [e1, e2, e3]
   clear hc e1 e2 e3 hne h0
   go_enter Tryz.func120, Tryz.ntmps120
   go_wp2_with fail
   refine Hlen.out.mono ?_
   rintro e w1 ⟨rfl, hb1⟩
   have Hr := Lib.hid ((RowAt.new w 36 #[.bool false, .slice none 0 0]).below hb1 (by simp))
   go_wp2_with (refine store_num rfl (.tmp 4) (.tmp 15) rfl w.heap.size rfl false none 0 0 rfl _ _ Hr.out rfl ?_)
   refine ret_num rfl w.heap.size rfl false rfl false none 0 0 _ (Hr.out.setRow _) ⟨_, rfl, u32n_nil _ _ _, below_setRow2 (((Below.refl _ w).alloc (Nat.le_refl _) _).trans (hb1.mono (by simp))) (Nat.le_refl _) _⟩
  ·have hne : sd ≠ [] := by intro e; simp [e] at h0
   have hgt : ((sd.length : Int) == 0) = false := by simp; omega
   have e1 : resNeg neg sd = neg := by simp [resNeg, h64, hne]
   have e2 : resDs sd = sd := by simp [resDs, h64]
   have e3 : resOk sd = true := by simp [resOk]; omega
   rw [e1, e2, e3]
   obtain ⟨b, off, rfl, hb, hcs⟩ := hc (by omega)
   obtain ⟨n, hn⟩ : ∃ n, n = sd.length := ⟨_, rfl⟩
   have Hcs : Hid (∀ j, j < n → w.cell? ⟨b, off + j, none⟩ = some (.int .u32 ((sd[j]?.getD 0 : Nat) : Int))) := fun j hj => by
    rw [hcs j (by omega), ← Htk.out, List.getElem?_take_of_lt (by omega)]
   rw [← hn] at Hlen hgt h64 hst
   have Hn := Lib.hid hn
   have h0n : 0 < n := by omega
   have h64n : n ≤ 64 := by omega
   clear hcs e1 e2 e3 hne h0 hn h64
   go_enter Tryz.func120, Tryz.ntmps120
   go_wp2_with fail
   refine Hlen.out.mono ?_
   rintro e w1 ⟨rfl, hb1⟩
   have Hr := Lib.hid ((RowAt.new w 36 #[.bool false, .slice none 0 0]).below hb1 (by simp))
   have hsz := hb1.size
   simp only [World.size_alloc] at hsz
   have Hcw : Hid (∀ j, j < n → (w1.alloc (.cells (arr (List.replicate n 0)) 118)).cell? ((⟨b, off, none⟩ : Addr).add j) = some (.int .u32 ((sd[j]?.getD 0 : Nat) : Int))) := fun j hj => by
    rw [Addr.add_mid, World.cell?_alloc_past _ _ _ (by omega)]
    have h1 : (w.alloc (.cells #[.bool false, .slice none 0 0] 36)).cell? ⟨b, off + j, none⟩ = w.cell? ⟨b, off + j, none⟩ := World.cell?_alloc_past _ _ _ hb
    exact (hb1.cell (p := ⟨b, off + j, none⟩) (by simp; omega)).trans (h1.trans (Hcs.out j hj))
   have Hnew := Lib.hid (RowAt.new w1 118 (arr (List.replicate n 0)))
   have Hr2 := Lib.hid (((Hr.out.alloc (.cells (arr (List.replicate n 0)) 118)).setRowOther (k := w1.heap.size) (arr sd) (by omega)))
   have Hn2 := Lib.hid (Hnew.out.setRow (arr sd))
   go_wp2_with (first
    | (refine make_row rfl (.tmp 16) (.tmp 16) rfl n rfl rfl (by omega) ?_)
    | (refine copy_row rfl (.tmp 18) (.tmp 19) rfl w1.heap.size n (List.replicate n 0) sd ⟨b, off, none⟩ ds.length cap rfl rfl Hnew.out (by simp) Hn.out.symm hst Hcw.out ?_)
    | (refine store_num rfl (.tmp 4) (.tmp 23) rfl w.heap.size rfl neg (some ⟨w1.heap.size, 0, none⟩) n n rfl _ _ Hr2.out rfl ?_))
   refine ret_num rfl w.heap.size rfl true rfl neg (some ⟨w1.heap.size, 0, none⟩) n n _ (Hr2.out.setRow _) ⟨_, rfl, ?_, ?_⟩
   ·have h3 := Hn2.out.setRowOther (k := w.heap.size) (numCells neg (some ⟨w1.heap.size, 0, none⟩) n n) (by omega)
    refine ⟨_, n, by rw [← Hn.out], by rw [← Hn.out]; unfold maxLen; omega, fun _ => ⟨w1.heap.size, 0, rfl, by omega, by simp, fun j hj => ?_⟩⟩
    rw [Nat.zero_add, h3.cell j, arr_get sd j hj]
   ·exact below_setRow2 (below_setRow2 ((((Below.refl _ w).alloc (Nat.le_refl _) _).trans (hb1.mono (by simp))).alloc (by omega) _) (by omega) _) (Nat.le_refl _) _
end Go.Proofs.YtgnogdncoljldaaGreat
namespace Go.Proofs.YtgnogdncoljldaaGreat
def digsN : Nat → Nat → List Nat
 | 0, _ => []
 | f + 1, n => n % B32 :: digsN f (n / B32)
def digs (n : Nat) : List Nat := strip (digsN n n)
theorem digsN_digits (f n : Nat) : Digits (digsN f n) := by
 induction f generalizing n with
 | zero => exact Digits.nil
 | succ f ih => exact Digits.cons.2 ⟨Nat.mod_lt _ B32_pos, ih _⟩
theorem digsN_val (f n : Nat) (h : n < B32 ^ f) : val (digsN f n) = n := by
 induction f generalizing n with
 | zero => simp at h; subst h; rfl
 | succ f ih =>
   rw [digsN, val_cons, ih _ (by rw [Nat.pow_succ, Nat.mul_comm] at h; exact Nat.div_lt_of_lt_mul h)]
   exact Nat.mod_add_div n B32
theorem lt_pow_self (n : Nat) : n < B32 ^ n := Nat.lt_pow_self (by decide)
theorem norm_digs (n : Nat) : Norm (digs n) := norm_strip (digsN_digits n n)
theorem val_digs (n : Nat) : val (digs n) = n := by rw [digs, val_strip, digsN_val _ _ (lt_pow_self n)]
theorem digs_val {ds : List Nat} (h : Norm ds) : digs (val ds) = ds := norm_ext (norm_digs _) h (val_digs _)
theorem strip_digs {ds : List Nat} (h : Digits ds) : strip ds = digs (val ds) := norm_ext (norm_strip h) (norm_digs _) (by rw [val_strip, val_digs])
theorem digs_zero : digs 0 = [] := rfl
theorem digs_nil_iff {n : Nat} : digs n = [] ↔ n = 0 := ⟨fun h => by have := val_digs n; rw [h] at this; exact this.symm, fun h => by subst h; rfl⟩
theorem digs_len {n k : Nat} : (digs n).length ≤ k ↔ n < B32 ^ k := by
 constructor
 ·intro h
  have := val_lt (norm_digs n).1
  rw [val_digs] at this
  exact Nat.lt_of_lt_of_le this (Nat.pow_le_pow_right B32_pos h)
 ·intro h
  apply Nat.le_of_not_lt
  intro hlt
  have h1 := val_ge_of_noZero (norm_digs n).2 (by intro e; rw [e] at hlt; simp at hlt)
  rw [val_digs] at h1
  have := Nat.pow_le_pow_right B32_pos (show k ≤ (digs n).length - 1 by omega)
  omega
theorem digs_digits (n : Nat) : Digits (digs n) := (norm_digs n).1
theorem getD_of_ge {ds : List Nat} {k : Nat} (h : ds.length ≤ k) : ds[k]?.getD 0 = 0 := by rw [List.getElem?_eq_none h]; rfl
theorem val_snoc (a : List Nat) (d : Nat) : val (a ++ [d]) = val a + B32 ^ a.length * d := by rw [val_append]; simp [val]
theorem val_take_succ (ds : List Nat) (k : Nat) : val (ds.take (k + 1)) = val (ds.take k) + B32 ^ k * ds[k]?.getD 0 := by
 by_cases h : k < ds.length
 ·rw [List.take_succ_eq_append_getElem h, val_snoc]
  simp [h, Nat.le_of_lt h]
 ·rw [List.take_of_length_le (by omega), List.take_of_length_le (by omega), getD_of_ge (by omega)]; simp
theorem val_take_all {ds : List Nat} {k : Nat} (h : ds.length ≤ k) : val (ds.take k) = val ds := by rw [List.take_of_length_le h]
theorem take_set_succ {l : List Nat} {k d : Nat} (h : k < l.length) : (l.set k d).take (k + 1) = l.take k ++ [d] := by
 rw [List.take_succ_eq_append_getElem (by simpa using h)]
 simp [List.take_set]
 rw [List.set_eq_of_length_le (by simp; omega)]
theorem take_set_same {l : List Nat} {k d : Nat} : (l.set k d).take k = l.take k := by
 rw [List.take_set, List.set_eq_of_length_le (by simp; omega)]
theorem val_set {l : List Nat} {j : Nat} (d : Nat) (h : j < l.length) : val (l.set j d) + B32 ^ j * l[j]?.getD 0 = val l + B32 ^ j * d := by
 induction l generalizing j with
 | nil => simp at h
 | cons x l ih =>
   cases j with
   | zero => simp [val_cons]; omega
   | succ j =>
     have := ih (j := j) (by simpa using h)
     simp only [List.set_cons_succ, val_cons, List.getElem?_cons_succ, Nat.pow_succ]
     have h2 := congrArg (B32 * ·) this
     simp only [Nat.mul_add] at h2
     rw [Nat.mul_comm (B32 ^ j) B32, Nat.mul_assoc, Nat.mul_assoc]
     omega
theorem add_step (x y c : Nat) : addLo x y c + B32 * addHi x y c = x + y + c := Nat.mod_add_div _ _
theorem rowTo_take (lo hi : Nat → Nat → Nat → Nat) (xs ys : List Nat) (k : Nat) (h : k < 65) : (rowTo lo hi xs ys (k + 1)).take (k + 1) = (rowTo lo hi xs ys k).take k ++ [digitAt lo hi xs ys k] :=
 take_set_succ (by rw [rowTo_length]; exact h)
theorem sum_inv (xs ys : List Nat) (k : Nat) (h : k ≤ 64) : val ((rowTo addLo addHi xs ys k).take k) + B32 ^ k * carryTo addHi xs ys k = val (xs.take k) + val (ys.take k) := by
 induction k with
 | zero => simp [val, carryTo]
 | succ k ih =>
   have ih := ih (by omega)
   rw [rowTo_take _ _ _ _ _ (by omega), val_snoc, val_take_succ, val_take_succ]
   have hl : ((rowTo addLo addHi xs ys k).take k).length = k := by rw [List.length_take, rowTo_length]; omega
   rw [hl]
   have hs := add_step (xs[k]?.getD 0) (ys[k]?.getD 0) (carryTo addHi xs ys k)
   have h2 := congrArg (B32 ^ k * ·) hs
   simp only [Nat.mul_add] at h2
   rw [← Nat.mul_assoc] at h2
   show _ + B32 ^ k * addLo (xs[k]?.getD 0) (ys[k]?.getD 0) (carryTo addHi xs ys k) + B32 ^ (k + 1) * addHi (xs[k]?.getD 0) (ys[k]?.getD 0) (carryTo addHi xs ys k) = _
   rw [Nat.pow_succ]
   omega
theorem sum_comb (xs ys : List Nat) (hl : ys.length ≤ xs.length) (h : xs.length ≤ 64) : val ((combRow addLo addHi xs ys).take (xs.length + 1)) = val xs + val ys := by
 have e : (combRow addLo addHi xs ys).take (xs.length + 1) = (rowTo addLo addHi xs ys xs.length).take xs.length ++ [carryTo addHi xs ys xs.length] := take_set_succ (by rw [rowTo_length]; omega)
 rw [e, val_snoc, List.length_take, rowTo_length, show min xs.length 65 = xs.length by omega, sum_inv xs ys _ h, val_take_all (Nat.le_refl _), val_take_all hl]
theorem sum_val (xs ys : List Nat) (hx : xs.length ≤ 64) (hy : ys.length ≤ 64) : val ((sumRow xs ys).take (max xs.length ys.length + 1)) = val xs + val ys := by
 unfold sumRow
 split
 ·rename_i h
  rw [show max xs.length ys.length = ys.length by omega, sum_comb ys xs (by omega) hy, Nat.add_comm]
 ·rename_i h
  rw [show max xs.length ys.length = xs.length by omega, sum_comb xs ys (by omega) hx]
theorem carry_le {xs ys : List Nat} (hx : Digits xs) (hy : Digits ys) (k : Nat) : carryTo addHi xs ys k ≤ 1 := by
 induction k with
 | zero => simp [carryTo]
 | succ k ih =>
   have h1 := hx.getD k
   have h2 := hy.getD k
   show addHi _ _ _ ≤ 1
   unfold addHi B32 at *
   omega
theorem row_digits {lo hi : Nat → Nat → Nat → Nat} (hlo : ∀ x y c, lo x y c < B32) (xs ys : List Nat) (k : Nat) : Digits (rowTo lo hi xs ys k) := by
 induction k with
 | zero => exact digits_replicate _
 | succ k ih => exact ih.set _ (hlo _ _ _)
theorem addLo_lt (x y c : Nat) : addLo x y c < B32 := Nat.mod_lt _ B32_pos
theorem subLo_lt (x y c : Nat) : subLo x y c < B32 := Nat.mod_lt _ B32_pos
theorem sum_digits {xs ys : List Nat} (hx : Digits xs) (hy : Digits ys) : Digits (sumRow xs ys) := by
 unfold sumRow
 split
 ·exact (row_digits addLo_lt _ _ _).set _ (Nat.lt_of_le_of_lt (carry_le hy hx _) (by decide))
 ·exact (row_digits addLo_lt _ _ _).set _ (Nat.lt_of_le_of_lt (carry_le hx hy _) (by decide))
theorem sub_step {x y c : Nat} (hx : x < B32) (hy : y < B32) (hc : c ≤ 1) : subLo x y c + y + c = x + B32 * subHi x y c := by
 unfold subLo subHi B32 at *
 split <;> omega
theorem borrow_le (xs ys : List Nat) (k : Nat) : carryTo subHi xs ys k ≤ 1 := by
 cases k with
 | zero => simp [carryTo]
 | succ k => show subHi _ _ _ ≤ 1; unfold subHi; split <;> omega
theorem dif_inv {xs ys : List Nat} (hx : Digits xs) (hy : Digits ys) (k : Nat) (h : k ≤ 64) : val ((rowTo subLo subHi xs ys k).take k) + val (ys.take k) = val (xs.take k) + B32 ^ k * carryTo subHi xs ys k := by
 induction k with
 | zero => simp [val, carryTo]
 | succ k ih =>
   have ih := ih (by omega)
   rw [rowTo_take _ _ _ _ _ (by omega), val_snoc, val_take_succ, val_take_succ]
   have hl : ((rowTo subLo subHi xs ys k).take k).length = k := by rw [List.length_take, rowTo_length]; omega
   rw [hl]
   have hs := sub_step (hx.getD k) (hy.getD k) (borrow_le xs ys k)
   have h2 := congrArg (B32 ^ k * ·) hs
   simp only [Nat.mul_add] at h2
   rw [← Nat.mul_assoc] at h2
   show _ + B32 ^ k * subLo (xs[k]?.getD 0) (ys[k]?.getD 0) (carryTo subHi xs ys k) + (_ + _) = _ + _ + B32 ^ (k + 1) * subHi (xs[k]?.getD 0) (ys[k]?.getD 0) (carryTo subHi xs ys k)
   rw [Nat.pow_succ]
   omega
theorem dif_val {xs ys : List Nat} (hx : Digits xs) (hy : Digits ys) (hl : ys.length ≤ xs.length) (h : xs.length ≤ 64) (hle : val ys ≤ val xs) : val ((combRow subLo subHi xs ys).take xs.length) = val xs - val ys := by
 have e : (combRow subLo subHi xs ys).take xs.length = (rowTo subLo subHi xs ys xs.length).take xs.length := take_set_same
 have hi := dif_inv hx hy xs.length h
 rw [val_take_all hl, val_take_all (Nat.le_refl _)] at hi
 have hd : Digits ((rowTo subLo subHi xs ys xs.length).take xs.length) := (row_digits subLo_lt _ _ _).take _
 have hlt := val_lt hd
 rw [List.length_take, rowTo_length, show min xs.length 65 = xs.length by omega] at hlt
 have hb : carryTo subHi xs ys xs.length = 0 := by
  have h1 := borrow_le xs ys xs.length
  rcases Nat.lt_or_ge (carryTo subHi xs ys xs.length) 1 with h2 | h2
  ·omega
  ·have : carryTo subHi xs ys xs.length = 1 := by omega
   rw [this, Nat.mul_one] at hi
   omega
 rw [hb, Nat.mul_zero] at hi
 rw [e]; omega
theorem dif_digits (xs ys : List Nat) : Digits (combRow subLo subHi xs ys) := (row_digits subLo_lt _ _ _).set _ (Nat.lt_of_le_of_lt (borrow_le xs ys _) (by decide))
theorem len_le_of_val {xs ys : List Nat} (hx : Norm xs) (hy : Norm ys) (h : val ys ≤ val xs) : ys.length ≤ xs.length := by
 rw [← digs_val hx, ← digs_val hy, digs_len]
 have := val_lt hx.1
 rw [← digs_val hx, val_digs] at this
 omega
theorem lineTo_get {p i : Nat} {ys row : List Nat} (k j : Nat) (hj : i + k ≤ j) : (lineTo p i ys row k).2[j]? = row[j]? := by
 induction k with
 | zero => rfl
 | succ k ih =>
   show ((lineTo p i ys row k).2.set (i + k) _)[j]? = _
   rw [List.getElem?_set_ne (by omega), ih (by omega)]
theorem lineTo_val {p i : Nat} {ys row : List Nat} (k : Nat) (hk : i + k ≤ row.length) : val (lineTo p i ys row k).2 + B32 ^ (i + k) * (lineTo p i ys row k).1 = val row + B32 ^ i * (p * val (ys.take k)) := by
 induction k with
 | zero => simp [lineTo, val]
 | succ k ih =>
   have ih := ih (by omega)
   have hl : i + k < (lineTo p i ys row k).2.length := by rw [lineTo_length]; omega
   have hset := val_set (((lineTo p i ys row k).1 + (p * ys[k]?.getD 0 + (lineTo p i ys row k).2[i + k]?.getD 0)) % B32) hl
   have hdm := Nat.mod_add_div ((lineTo p i ys row k).1 + (p * ys[k]?.getD 0 + (lineTo p i ys row k).2[i + k]?.getD 0)) B32
   show val ((lineTo p i ys row k).2.set (i + k) _) + B32 ^ (i + (k + 1)) * (_ / B32) = _
   rw [val_take_succ]
   obtain ⟨t, ht⟩ : ∃ t, t = (lineTo p i ys row k).1 + (p * ys[k]?.getD 0 + (lineTo p i ys row k).2[i + k]?.getD 0) := ⟨_, rfl⟩
   rw [← ht] at hset hdm ⊢
   have e1 := congrArg (B32 ^ (i + k) * ·) hdm
   have e2 := congrArg (B32 ^ (i + k) * ·) ht
   simp only [Nat.mul_add] at e1 e2
   have e3 : B32 ^ (i + (k + 1)) * (t / B32) = B32 ^ (i + k) * (B32 * (t / B32)) := by rw [← Nat.add_assoc, Nat.pow_succ, Nat.mul_assoc]
   have e4 : B32 ^ i * (p * (val (ys.take k) + B32 ^ k * ys[k]?.getD 0)) = B32 ^ i * (p * val (ys.take k)) + B32 ^ (i + k) * (p * ys[k]?.getD 0) := by
    rw [Nat.mul_add, Nat.mul_add, Nat.pow_add, Nat.mul_left_comm p, Nat.mul_assoc]
   rw [e3, e4]
   omega
theorem line_val {p i : Nat} {ys row : List Nat} (hk : i + ys.length < row.length) (hz : row[i + ys.length]?.getD 0 = 0) : val (line p i ys row) = val row + B32 ^ i * (p * val ys) := by
 have h1 := lineTo_val (p := p) (i := i) (ys := ys) (row := row) ys.length (by omega)
 have h2 := val_set (lineTo p i ys row ys.length).1 (l := (lineTo p i ys row ys.length).2) (j := i + ys.length) (by rw [lineTo_length]; exact hk)
 rw [lineTo_get _ _ (Nat.le_refl _), hz, Nat.mul_zero, Nat.add_zero] at h2
 unfold line
 rw [h2, h1, List.take_of_length_le (Nat.le_refl _)]
theorem line_zero {p i : Nat} {ys row : List Nat} (j : Nat) (hj : i + ys.length < j) : (line p i ys row)[j]? = row[j]? := by
 unfold line
 rw [List.getElem?_set_ne (by omega), lineTo_get _ _ (by omega)]
theorem prodTo_zero (xs ys : List Nat) (k j : Nat) (hj : k + ys.length ≤ j) : (prodTo xs ys k)[j]?.getD 0 = 0 := by
 induction k with
 | zero =>
   show (List.replicate 65 0)[j]?.getD 0 = 0
   rw [List.getElem?_replicate]; split <;> rfl
 | succ k ih =>
   show (line _ k ys (prodTo xs ys k))[j]?.getD 0 = 0
   rw [line_zero j (by omega), ih (by omega)]
theorem val_zeros (n : Nat) : val (List.replicate n 0) = 0 := val_zero_of_all fun d hd => List.eq_of_mem_replicate hd
theorem prodTo_val (xs ys : List Nat) (k : Nat) (hk : k ≤ xs.length) (h : xs.length + ys.length ≤ 65) : val (prodTo xs ys k) = val (xs.take k) * val ys := by
 induction k with
 | zero => simp [prodTo, val_zeros, val]
 | succ k ih =>
   show val (line _ k ys (prodTo xs ys k)) = _
   rw [line_val (by rw [prodTo_length]; omega) (prodTo_zero _ _ _ _ (Nat.le_refl _)), ih (by omega), val_take_succ, Nat.add_mul, Nat.mul_assoc]
theorem prod_val (xs ys : List Nat) (h : xs.length + ys.length ≤ 65) : val (prodRow xs ys) = val xs * val ys := by
 rw [prodRow, prodTo_val _ _ _ (Nat.le_refl _) h, val_take_all (Nat.le_refl _)]
theorem prod_digits {xs ys : List Nat} (hx : Digits xs) (hy : Digits ys) : Digits (prodRow xs ys) := prodTo_digits hx hy _
theorem val_take_of_zero {ds : List Nat} {n : Nat} (hz : ∀ j, n ≤ j → ds[j]?.getD 0 = 0) : val (ds.take n) = val ds := by
 by_cases hn : n ≤ ds.length
 ·have h1 := val_take_drop ds hn
  have h2 : val (ds.drop n) = 0 := val_zero_of_all fun d hd => by
   obtain ⟨i, hi, rfl⟩ := List.getElem_of_mem hd
   have hi' : n + i < ds.length := by simp at hi; omega
   have := hz (n + i) (by omega)
   simpa [hi'] using this
  rw [h2, Nat.mul_zero] at h1
  omega
 ·exact val_take_all (by omega)
theorem prod_take (xs ys : List Nat) (h : xs.length + ys.length ≤ 65) : val ((prodRow xs ys).take (xs.length + ys.length)) = val xs * val ys := by
 rw [val_take_of_zero (ds := prodRow xs ys) (fun j hj => prodTo_zero xs ys xs.length j hj), prod_val xs ys h]
def zok (z : Int) : Bool := decide (z.natAbs < B32 ^ 64)
def zneg (z : Int) : Bool := if z.natAbs < B32 ^ 64 then decide (z < 0) else false
def zdigs (z : Int) : List Nat := if z.natAbs < B32 ^ 64 then digs z.natAbs else []
theorem res_of (neg : Bool) (n : Nat) (z : Int) (hn : z.natAbs = n) (hz : n ≠ 0 → neg = decide (z < 0)) :
  resNeg neg (digs n) = zneg z ∧ resDs (digs n) = zdigs z ∧ resOk (digs n) = zok z := by
 have hl : (64 < (digs n).length) ↔ ¬ n < B32 ^ 64 := by rw [← digs_len]; omega
 unfold resNeg resDs resOk zneg zdigs zok
 rw [hn]
 by_cases h : n < B32 ^ 64
 ·have h64 : ¬ 64 < (digs n).length := by rw [hl]; simpa using h
  rw [if_pos h, if_pos h, if_neg h64]
  refine ⟨?_, rfl, by simp [h]; exact digs_len.2 h⟩
  by_cases h0 : n = 0
  ·subst h0
   have : z = 0 := by omega
   subst this
   rfl
  ·rw [if_neg (by rw [digs_nil_iff]; omega)]
   exact hz h0
 ·have h64 : 64 < (digs n).length := hl.2 h
  rw [if_neg h, if_neg h, if_pos h64, if_pos (Or.inr h64)]
  refine ⟨rfl, rfl, by simp [h]; exact h64⟩
end Go.Proofs.YtgnogdncoljldaaGreat
namespace Go.Proofs.YtgnogdncoljldaaGreat
open Go Go.RowKit Go.Shelf
attribute [local go_sem] Oper.semAt_some
set_option maxRecDepth 100000 in
set_option maxHeartbeats 2000000 in
theorem order_len (v u : Value) (xs ys : List Nat) (w : World) (hx : U32s w.heap.size w v xs) (hy : U32s w.heap.size w u ys) (hne : xs.length ≠ ys.length) :
  Calls Tryz.prog 163 #[v, u] w fun e w' => e = .returned (.int .i64 (cmpL xs ys)) ∧ Below w.heap.size w w' := by
 obtain ⟨p, cap, rfl, hl, hc⟩ := hx
 obtain ⟨q, cap2, rfl, hl2, hc2⟩ := hy
 have h1 := digs_lt_maxLen hl
 have h2 := digs_lt_maxLen hl2
 clear hc hc2 hl hl2
 have hcmp : (xs.length < ys.length ∧ cmpL xs ys = -1) ∨ (ys.length < xs.length ∧ cmpL xs ys = 1) := by
  unfold cmpL
  by_cases h : xs.length < ys.length
  ·exact .inl ⟨h, by rw [if_pos h]⟩
  ·exact .inr ⟨by omega, by rw [if_neg h, if_pos (by omega)]⟩
 refine (callsIn_wide (n := 5)).1 ?_
 refine callsIn_of_wp_marks Tryz.func163 rfl trivial ?_ rfl
 simp only [Tryz.ntmps163, List.size_toArray, List.length_cons, List.length_nil, Nat.reduceAdd, Nat.reduceSub, Array.replicate_succ, Array.replicate_zero, List.push_toArray, List.append_toArray, List.nil_append, List.cons_append]
 rcases hcmp with ⟨hlt, hcmp⟩ | ⟨hlt, hcmp⟩
 ·rw [hcmp]
  clear hcmp
  gi_wp2
  exact endM0 (v := .int .i64 (-1)) (by simp [results, Tryz.f163, go_sem]) ⟨rfl, ((Below.refl _ w).alloc (Nat.le_refl _) _).alloc (by simp) _⟩
 ·rw [hcmp]
  clear hcmp
  have hnl : ((xs.length : Int) < (ys.length : Int)) = False := by simp; omega
  gi_wp2
  exact endM0 (v := .int .i64 1) (by simp [results, Tryz.f163, go_sem]) ⟨rfl, ((Below.refl _ w).alloc (Nat.le_refl _) _).alloc (by simp) _⟩
set_option maxRecDepth 100000 in
set_option maxHeartbeats 2000000 in
theorem order_eq (v u : Value) (xs ys : List Nat) (w : World) (hx : U32s w.heap.size w v xs) (hy : U32s w.heap.size w u ys) (he : xs.length = ys.length) (hdx : Digits xs) (hdy : Digits ys) :
  Calls Tryz.prog 163 #[v, u] w fun e w' => e = .returned (.int .i64 (sgn (val xs) (val ys))) ∧ Below w.heap.size w w' := by
 obtain ⟨p, cap, rfl, hl, hc⟩ := hx
 obtain ⟨q, cap2, rfl, hl2, hc2⟩ := hy
 have hlm := digs_lt_maxLen hl
 rw [← he] at hc2 ⊢
 obtain ⟨n, hn⟩ : ∃ n, n = xs.length := ⟨_, rfl⟩
 have Hn := Lib.hid hn
 have He := Lib.hid he
 clear hn he
 rw [← Hn.out] at hlm hc hc2 ⊢
 have hnn : ((n : Int) != n) = false := by simp
 refine (callsIn_wide (n := 5)).1 ?_
 refine callsIn_of_wp_marks Tryz.func163 rfl trivial ?_ rfl
 simp only [Tryz.ntmps163, List.size_toArray, List.length_cons, List.length_nil, Nat.reduceAdd, Nat.reduceSub, Array.replicate_succ, Array.replicate_zero, List.push_toArray, List.append_toArray, List.nil_append, List.cons_append]
 gi_wp2_with (refine ⟨trivial, ?_⟩; gi_at_call 191; refine (callsIn_wide.2 (down_calls _ _ _ _)).mono ?_; rintro e w' ⟨rfl, rfl⟩)
 have bY := Boxed.new w 34 (.slice q n cap2)
 have bR := Boxed.new (w.alloc (.cells #[.slice q n cap2] 34)) 3 (.int .i64 0)
 have bN := Boxed.new ((w.alloc (.cells #[.slice q n cap2] 34)).alloc (.cells #[.int .i64 0] 3)) 34 (.slice p n cap)
 simp only [World.size_alloc] at bN bR
 have hB0 : Below w.heap.size w (((w.alloc (.cells #[.slice q n cap2] 34)).alloc (.cells #[.int .i64 0] 3)).alloc (.cells #[.slice p n cap] 34)) := (((Below.refl _ w).alloc (Nat.le_refl _) _).alloc (by simp) _).alloc (by simp; omega) _
 have h1 : 1 ≤ 5 := by decide
 have hro : Fence.wide.round = none := rfl
 refine wpIn_rangeFunc_S (α := Nat × Nat) hro h1 (gf := 205) (lb := #[.pointer (some ⟨w.heap.size + 1 + 1, 0, none⟩)]) rfl trivial (enters_of Tryz.func205 (by kernel_rfl) rfl)
  (down1_seq 4 (by decide) (w.heap.size + 1 + 1) p n cap (by rw [Hn.out]; exact hl)) (fun _ => rfl)
  (fun s W => (s ≤ n ∧ xs.drop s = ys.drop s ∧ Boxed W w.heap.size 34 (.slice q n cap2) ∧ Boxed W (w.heap.size + 1) 3 (.int .i64 0) ∧ Boxed W (w.heap.size + 1 + 1) 34 (.slice p n cap)) ∧ Below w.heap.size w W)
  (fun c W => (c = .ret ∧ Boxed W (w.heap.size + 1) 3 (.int .i64 (sgn (val xs) (val ys)))) ∧ Below w.heap.size w W)
  (OwnFrom.and (Own.from (fun s A B row hs hg hr => ⟨hs.1, hs.2.1, boxed_own _ _ (fun _ => _) () _ _ _ hs.2.2.1 hg hr, boxed_own _ _ (fun _ => _) () _ _ _ hs.2.2.2.1 hg hr, boxed_own _ _ (fun _ => _) () _ _ _ hs.2.2.2.2 hg hr⟩) _) (ownFrom_below (Nat.le_refl _) (by simp; omega)))
  (fun c => OwnFrom.and (Own.from (fun s A B row hs hg hr => ⟨hs.1, boxed_own _ _ (fun _ => _) () _ _ _ hs.2 hg hr⟩) _) (ownFrom_below (Nat.le_refl _) (by simp; omega)))
  (fun s x => Own.from (fun _ A B row hs hg hr => by obtain ⟨b, off, e, h⟩ := hs; exact ⟨b, off, e, cell_kept h hg hr⟩) _)
  ?wk ⟨⟨Nat.le_refl _, ?start, (bY.alloc _).alloc _, bR.alloc _, bN⟩, hB0⟩
  (fun x => { tmps := #[.slice p n cap, .slice q n cap2, undef, .pointer (some ⟨w.heap.size, 0, none⟩), .pointer (some ⟨w.heap.size + 1, 0, none⟩), .int .i64 (x.1 : Int), .int .u32 (x.2 : Int), .slice p n cap, .int .i64 n, .slice q n cap2, .int .i64 n, .bool false, undef, undef, undef, undef, undef, .slice p n cap, .func (.func 205) #[] #[.pointer (some ⟨w.heap.size + 1 + 1, 0, none⟩)], .int .i64 (x.1 : Int), .int .u32 (x.2 : Int), undef, undef, undef, undef, undef, undef, undef, undef, undef, undef, undef, undef], defers := [] }) ?assign ?body ?done ?stop
 case start => rw [List.drop_eq_nil_of_le (by rw [Hn.out]; exact Nat.le_refl _), List.drop_eq_nil_of_le (by rw [Hn.out, He.out]; exact Nat.le_refl _)]
 case wk =>
  rintro s W ⟨⟨hs, _, _, _, hb⟩, hB⟩
  refine ⟨hs, hb.cell, fun k hk => ?_⟩
  obtain ⟨b, off, rfl, hlt, hcs⟩ := hc (by omega)
  exact ⟨b, off, _, rfl, (hB.cell (p := ⟨b, off + k, none⟩) hlt).trans (hcs k (by omega))⟩
 case assign =>
  intro l x W K hK
  gi_wp2
  exact hK
 case body =>
  rintro l s ⟨k, d⟩ s2 W ⟨⟨hs, hz, hby, hbr, hbn⟩, hB⟩ ⟨h1, h2⟩ ⟨b, off, rfl, hcell⟩
  dsimp only at h1 h2 hcell ⊢
  subst h2; subst h1
  have hs2 : s2 < n := hs
  obtain ⟨b', off', e, hlt, hcs⟩ := hc (Nat.lt_of_le_of_lt (Nat.zero_le _) hs2)
  obtain ⟨b2, off2, rfl, hlt2, hcs2⟩ := hc2 (Nat.lt_of_le_of_lt (Nat.zero_le _) hs2)
  cases e
  have hd0 : d = xs[s2]?.getD 0 := by
   have := (hB.cell (p := ⟨b, off + s2, none⟩) hlt).trans (hcs s2 hs2)
   rw [hcell] at this; exact u32_inj this
  have hcy := (hB.cell (p := ⟨b2, off2 + s2, none⟩) hlt2).trans (hcs2 s2 hs2)
  obtain ⟨e, he0⟩ : ∃ e, e = ys[s2]?.getD 0 := ⟨_, rfl⟩
  rw [← he0] at hcy
  have hcr := hbr.cell
  have hfr := hbr.frozen
  have hcb := hby.cell
  have Hd := Lib.hid hd0
  have He0 := Lib.hid he0
  have Hz := Lib.hid hz
  clear hc hcs hc2 hcs2 hd0 he0 hz hl hl2
  have hlx : s2 < xs.length := by rw [← Hn.out]; exact hs2
  have hly : s2 < ys.length := by rw [← He.out, ← Hn.out]; exact hs2
  rcases Nat.lt_trichotomy d e with hlt3 | heq | hgt
  ·have hr : sgn (val xs) (val ys) = -1 := sgn_lt (val_lt_of_digit He.out hdx hlx Hz.out (by rw [← Hd.out, ← He0.out]; exact hlt3))
   have Hr := Lib.hid hr
   clear hr hlx hly
   gi_wp2
   exact ⟨(KeepsOthers.setCell _ _ _).from _, ⟨rfl, by rw [Hr.out]; exact hbr.set _⟩, hB.setCell (p := ⟨w.heap.size + 1, 0, none⟩) (Nat.le_succ _) _⟩
  ·subst heq
   have hz2 := drop_eq_cons hlx hly Hz.out (by rw [← Hd.out, ← He0.out])
   have Hz2 := Lib.hid hz2
   clear hz2 hlx hly
   gi_wp2
   exact ⟨(KeepsOthers.refl _).from _, ⟨by omega, Hz2.out, hby, hbr, hbn⟩, hB⟩
  ·have hr : sgn (val xs) (val ys) = 1 := sgn_gt (val_lt_of_digit He.out.symm hdy hly Hz.out.symm (by rw [← Hd.out, ← He0.out]; exact hgt))
   have Hr := Lib.hid hr
   clear hr hlx hly
   gi_wp2
   exact ⟨(KeepsOthers.setCell _ _ _).from _, ⟨rfl, by rw [Hr.out]; exact hbr.set _⟩, hB.setCell (p := ⟨w.heap.size + 1, 0, none⟩) (Nat.le_succ _) _⟩
 case done =>
  rintro D s W hD rfl ⟨⟨hs, hz, hby, hbr, hbn⟩, hB⟩ hK
  have hcr := hbr.cell
  have hfr := hbr.frozen
  have hst : sgn (val xs) (val ys) = 0 := by
   have : xs = ys := by simpa using hz
   rw [this]; exact sgn_eq _
  have hK2 := (KeepsOthers.setCell W ⟨w.heap.size + 1, 0, none⟩ (.int .i64 0)).same D _ hK rfl
  have hc5 := cell_kept (hbr.set (.int .i64 0)).cell (grownBy_putObj' _ D (.deferred none)) (fun r e => by cases e; exact ⟨_, hK2, rfl⟩)
  have Hst := Lib.hid hst
  clear hz hst
  gi_wp2
  refine endM hK2 (v := .int .i64 0) (by simp [results, Tryz.f163, go_sem, hc5]) ⟨by rw [Hst.out], (hB.setCell (p := ⟨w.heap.size + 1, 0, none⟩) (Nat.le_succ _) _).trans (belowK_b (w := w) (Nat.le_refl _) _ D _ _ (by simp at hD; omega) hK2 rfl rfl)⟩
 case stop =>
  rintro D c W hD ⟨⟨rfl, hbr⟩, hB⟩ hK
  have hc5 := cell_kept hbr.cell (grownBy_putObj' _ D (.deferred none)) (fun r e => by cases e; exact ⟨_, hK, rfl⟩)
  gi_wp2
  refine endM hK (v := .int .i64 (sgn (val xs) (val ys))) (by simp [results, Tryz.f163, go_sem, hc5]) ⟨rfl, hB.trans (belowK_b (w := w) (Nat.le_refl _) W D _ _ (by simp at hD; omega) hK rfl rfl)⟩
theorem order_calls (v u : Value) (xs ys : List Nat) (w : World) (hx : U32s w.heap.size w v xs) (hy : U32s w.heap.size w u ys) (hdx : Digits xs) (hdy : Digits ys) :
  Calls Tryz.prog 163 #[v, u] w fun e w' => e = .returned (.int .i64 (cmpL xs ys)) ∧ Below w.heap.size w w' := by
 by_cases he : xs.length = ys.length
 ·rw [cmpL_len he]; exact order_eq v u xs ys w hx hy he hdx hdy
 ·exact order_len v u xs ys w hx hy he
end Go.Proofs.YtgnogdncoljldaaGreat

