import Derived.Test.YthkkipkhofkpmaaQSxA
import Derived.Laws.Wrap64
set_option linter.all false
set_option autoImplicit false
namespace Go.Proofs.Ythkkipkhofkpmaa.Sx
open Go Go.RowKit
section
variable {I : Interp} {ρ : Env}
theorem B.den_lit (b : Bool) : (B.lit b).den I ρ = b := rfl
theorem B.den_var (k : Nat) : (B.var k).den I ρ = ρ.b k := rfl
theorem B.den_not (a : B) : (B.not a).den I ρ = !a.den I ρ := rfl
theorem B.den_and (a b : B) : (B.and a b).den I ρ = (a.den I ρ && b.den I ρ) := rfl
theorem B.den_iff (a b : B) : (B.iff a b).den I ρ = (a.den I ρ == b.den I ρ) := rfl
theorem B.den_app (f : Nat) (a : T) : (B.app f a).den I ρ = I.fb f (a.dens I ρ) := rfl
end
def vals (t : Tree (V × S)) : Tree V := t.bind fun r => .leaf r.1
def envOf (is : List Int) (bs : List Bool) : Env := ⟨fun k => is.getD k 0, fun k => bs.getD k false, fun _ => undef⟩
theorem vals_vc {I : Interp} {ρ : Env} {t : Tree (V × S)} {Φ : V → Prop} : (vals t).vc I ρ Φ ↔ t.vc I ρ fun r => Φ r.1 := by
  unfold vals; rw [Tree.vc_bind]; rfl
def sNone : S := ⟨[], 0, ⟨[], [], 0⟩⟩
theorem V.den_none {I : Interp} {ρ : Env} {v : V} (h : v.wf 0 = true) (β β' : Nat → Nat) : v.den I ρ β = v.den I ρ β' := V.den_agree h fun _ h => absurd h (Nat.not_lt_zero _)
theorem calls_lit {P : Program} {I : Interp} {ρ : Env} (hm : P.follows .mixedOrders = true) (hN : NoCount P) {ct : CT} (hct : CTOk P I ρ ct) {n : Nat} {g : FuncId} {args : List V} {L : Tree V} {w : World} {r : Value}
    (hh : Hyp I w fun _ => False) (hwf : (args.all (V.wf 0)) = true) (hL : vals (execF P ct n g args sNone) = L) (hv : L.vc I ρ (fun v => v.wf 0 = true ∧ v.den I ρ id = r)) :
    Calls P g (args.map (V.den I ρ id)).toArray w (fun e w' => e = .returned r ∧ Below w.heap.size w w') := by
  refine calls_run hm hN hct n g args (by simpa using hwf) hh ?_
  rw [← hL, vals_vc] at hv
  refine Tree.vc_mono ?_ hv
  rintro ⟨v, s⟩ ⟨h1, h2⟩ β' w' hb
  exact ⟨by rw [← h2]; exact congrArg _ (V.den_none h1 _ _), hb⟩
def sFacts (l : List (B × Bool)) : S := ⟨[], 0, ⟨l, [], 0⟩⟩
theorem calls_litK {P : Program} {I : Interp} {ρ : Env} (hm : P.follows .mixedOrders = true) (hN : NoCount P) {ct : CT} (hct : CTOk P I ρ ct) {n : Nat} {g : FuncId} {args : List V} {l : List (B × Bool)} {L : Tree V} {w : World} {r : Value}
    (hh : Hyp I w fun _ => False) (hl : ∀ p ∈ l, p.1.den I ρ = p.2) (hwf : (args.all (V.wf 0)) = true) (hL : vals (execF P ct n g args (sFacts l)) = L) (hv : L.vc I ρ (fun v => v.wf 0 = true ∧ v.den I ρ id = r)) :
    Calls P g (args.map (V.den I ρ id)).toArray w (fun e w' => e = .returned r ∧ Below w.heap.size w w') := by
  rw [← hL, vals_vc] at hv
  refine execF_ok hm hN hct n g args (sFacts l) w (fun _ => False) 0 id id w _ (Tree.vc_mono ?_ hv) ⟨(fun _ h => nomatch h), (fun _ h => nomatch h), (fun _ h => nomatch h), (fun _ h => nomatch h), (fun _ h => nomatch h), (fun _ h => nomatch h), (fun _ h => nomatch h), ⟨hl, (fun _ h => nomatch h), (fun _ h => absurd h (Nat.not_lt_zero _))⟩, Nat.le_refl _, fun _ _ => rfl, Keeps.refl _ _, hh⟩ (fun v hv => List.all_eq_true.1 hwf v hv)
  rintro ⟨v, s⟩ ⟨h1, h2⟩ β' w' hb _ _ _
  exact ⟨by rw [← h2]; exact congrArg _ (V.den_none h1 _ _), hb.keeps.below⟩
section
variable {P : Program} {I : Interp} {ρ : Env} {w0 w : World} {X : Nat → Prop} {n0 : Nat} {β0 β : Nat → Nat} {s : S}
theorem ct_leaf {g : FuncId} {args : List V} {v : V} {R : Ending → World → Prop}
    (hc : ∀ w, Calls P g (args.map (V.den I ρ β)).toArray w (fun e w' => e = .returned (v.den I ρ β) ∧ Below w.heap.size w w')) (hv : v.wf s.nb = true)
    (ht : ∀ β' w', WR I ρ w0 X n0 β0 β' s w' → v.wf s.nb = true → s.nb ≤ s.nb → (∀ id, id < s.nb → β' id = β id) → R (.returned (v.den I ρ β')) w') (h : WR I ρ w0 X n0 β0 β s w) :
    Calls P g (args.map (V.den I ρ β)).toArray w R :=
  (hc w).mono fun e w' ⟨he, hb⟩ => by subst he; exact ht β w' (h.below hb) hv (Nat.le_refl _) (fun _ _ => rfl)
end
theorem ev_add (x y : Int) : IOp.add.ev x y = x + y := rfl
theorem ev_sub (x y : Int) : IOp.sub.ev x y = x - y := rfl
theorem ev_mul (x y : Int) : IOp.mul.ev x y = x * y := rfl
theorem ev_quo (x y : Int) : IOp.quo.ev x y = x.tdiv y := rfl
theorem ev_rem (x y : Int) : IOp.rem.ev x y = x.tmod y := rfl
theorem ev_max (x y : Int) : IOp.max.ev x y = max x y := by simp only [IOp.ev]; split <;> omega
theorem ev_min (x y : Int) : IOp.min.ev x y = min x y := by simp only [IOp.ev]; split <;> omega
section
variable {I : Interp} {ρ : Env} {β : Nat → Nat} {Q : Prop} [Decidable Q]
theorem bool_t (h : Q) : V.den I ρ β (.c (.bool (.lit true))) = .bool (decide Q) := by simp [V.den, C.den, B.den, h]
theorem bool_f (h : ¬ Q) : V.den I ρ β (.c (.bool (.lit false))) = .bool (decide Q) := by simp [V.den, C.den, B.den, h]
theorem bool_e {a b : T} (h : a.den I ρ = b.den I ρ ↔ Q) : V.den I ρ β (.c (.bool (.eq a b))) = .bool (decide Q) := by simp only [V.den, C.den, B.den]; rw [decide_eq_decide.2 h]
theorem bool_l {a b : T} (h : a.den I ρ < b.den I ρ ↔ Q) : V.den I ρ β (.c (.bool (.lt a b))) = .bool (decide Q) := by simp only [V.den, C.den, B.den]; rw [decide_eq_decide.2 h]
theorem bool_n {a : B} (h : a.den I ρ = true ↔ ¬ Q) : V.den I ρ β (.c (.bool (.not a))) = .bool (decide Q) := by
  simp only [V.den, C.den, B.den]
  cases ha : a.den I ρ <;> simp_all
end
theorem w64 (n : Int) : IntKind.i64.wrap n = wrap64 n := by
  simp [IntKind.wrap, IntKind.bits, IntKind.signed, wrap64] <;> omega
end Go.Proofs.Ythkkipkhofkpmaa.Sx

