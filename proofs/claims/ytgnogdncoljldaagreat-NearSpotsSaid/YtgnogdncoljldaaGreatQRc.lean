import Derived.Test.YtgnogdncoljldaaGreatQRb
import Derived.Test.YtgnogdncoljldaaGreatQPZ
set_option linter.all false
set_option autoImplicit false
namespace Go.Proofs.YtgnogdncoljldaaGreat.Sx
open Go Go.RowKit
def ctR0 : CT := ctOr (ctNum [nfPlus 176, nfMinus 175]) (ctOr (ctCmp 94) (ctOr (ctMade 74) (ctInt [niRightR 130])))
theorem two_of {w w' : World} {z : Int} {neg : Bool} {x : Ending} (h : Gives w z neg x w') : GivesR .two z x w' ∧ Below w.heap.size w w' := by
 obtain ⟨p, n, c, hx, hz, hb⟩ := h
 exact ⟨⟨_, hx, hz⟩, hb⟩
theorem one_of {w w' : World} {z : Int} {neg : Bool} {x : Ending} (h : Gives1 w z neg x w') : GivesR .num z x w' ∧ Below w.heap.size w w' := by
 obtain ⟨p, n, c, hx, hz, hb⟩ := h
 exact ⟨⟨_, hx, hz⟩, hb⟩
theorem len0 (z : Int) (h : ((digs z.natAbs).length : Int) ≤ 0) : z = 0 := by
 have : digs z.natAbs = [] := List.length_eq_zero_iff.1 (by omega)
 have := val_digs z.natAbs
 rw [‹digs z.natAbs = []›] at this
 have h0 : val [] = 0 := rfl
 omega
section
variable {I : Interp} {ρ : Env}
theorem rplus_c : (nfPlus 176).Ok Tryz.prog I ρ :=
 nfPlus_ok fun va vb a b w ha h1 hb h2 => (plus_calls va vb _ _ w ha hb (digs_digits a) (digs_digits b) (by have := digs_len64 h1; omega) (by have := digs_len64 h2; omega)).mono fun x w' ⟨r, hx, hu, hb, _⟩ => ⟨r, hx, by rw [val_digs, val_digs] at hu; exact hu, hb⟩
theorem rminus_c : (nfMinus 175).Ok Tryz.prog I ρ :=
 nfMinus_ok fun va vb a b w ha h1 hb h2 hle => (minus_calls va vb _ _ w ha hb (digs_digits a) (digs_digits b) (by have := digs_len64 h1; omega) (digs_len.2 (Nat.lt_of_le_of_lt hle (digs_len.1 (Nat.le_refl _)))) (by rw [val_digs, val_digs]; exact hle)).mono fun x w' ⟨r, hx, hu, hb, _⟩ => ⟨r, hx, by rw [val_digs, val_digs] at hu; exact hu, hb⟩
theorem rcmp_c (hI : I.opq = numOpq) : CTOk Tryz.prog I ρ (ctCmp 94) :=
 ctCmp_ok hI fun va vb a b w ha hb => (compare_calls va vb _ _ w ha hb (digs_digits a) (digs_digits b)).mono fun x w' ⟨hx, hb⟩ => ⟨by rw [hx, cmpL_norm (norm_digs a) (norm_digs b), val_digs, val_digs]; rfl, hb⟩
theorem rmade_c (hI : I.opq = numOpq) : CTOk Tryz.prog I ρ (ctMade 74) :=
 ctMade_ok hI fun neg v a w hu h64 => (made_digs neg v a w hu h64).mono fun x w' ⟨p, n, c, hx, hz, hb⟩ => ⟨⟨_, hx, hz⟩, hb⟩
theorem rright_c : (niRightR 130).Ok Tryz.prog I ρ := by
 intro k ts c hk hv w vs ha
 injection hv with hv
 subst hv
 match vs, ts, ha with
 | [], [], ha => exact ha.elim
 | [], _ :: _, ha => exact ha.elim
 | _ :: _ :: _, [], ha => exact ha.elim
 | _ :: _ :: _, _ :: _, ha => exact ha.2.elim
 | [v], [], ha => exact ha.elim
 | [v], _ :: _ :: _, ha => exact ha.2.elim
 | [v], [t], ⟨h, _⟩ =>
   have h : ZNum w.heap.size w v (t.den I ρ) := h
   obtain ⟨⟨s, rfl, hu⟩, hz⟩ := h
   refine (rright_calls _ s _ w hu).mono fun x w' ⟨hx, hb⟩ => ⟨?_, hb⟩
   rw [hx, right_z _ hz (fun h0 => by simp; omega)]
   rfl
theorem ctR0_ok (hI : I.opq = numOpq) : CTOk Tryz.prog I ρ ctR0 := by
 refine ctOr_ok (ctNum_ok hI fun e he => ?_) (ctOr_ok (rcmp_c hI) (ctOr_ok (rmade_c hI) (ctInt_ok hI fun e he => ?_)))
 ·simp only [List.mem_cons, List.not_mem_nil, or_false] at he
  rcases he with rfl | rfl
  ·exact rplus_c
  ·exact rminus_c
 ·simp only [List.mem_cons, List.not_mem_nil, or_false] at he
  subst he
  exact rright_c
end
def nfTimes (g : FuncId) : NF := ⟨g, [.dig, .dig], fun k ts => match ts with
 | [a, b] => bif inR k (.mkBin .mul (absT a) (absT b)) (-nfBound) nfBound then some (.mkBin .mul (absT a) (absT b)) else none
 | _ => none, .dig⟩
def ctR1 : CT := ctOr (ctNum [nfTimes 178]) ctR0
section
variable {I : Interp} {ρ : Env}
theorem nfTimes_ok {P : Program} {g : FuncId} (hc : ∀ (va vb : Value) (a b : Nat) (w : World), U32s w.heap.size w va (digs a) → a < B32 ^ 64 → U32s w.heap.size w vb (digs b) → b < B32 ^ 64 →
   Calls P g #[va, vb] w (fun x w' => ∃ v, x = .returned v ∧ U32s w'.heap.size w' v (digs (a * b)) ∧ Below w.heap.size w w')) : (nfTimes g).Ok P I ρ := by
 intro k ts t hk hv w vs ha
 unfold nfTimes at hv
 simp only at hv
 split at hv
 ·rename_i a b
  cases hb : inR k (.mkBin .mul (absT a) (absT b)) (-nfBound) nfBound with
  | false => rw [hb] at hv; cases hv
  | true =>
    rw [hb] at hv
    injection hv with hv
    subst hv
    obtain ⟨h1, h2⟩ := inR_ok hk hb
    match vs, ha with
    | [va, vb], ⟨h3, h4, _⟩ =>
      have h3 : U32s w.heap.size w va (digs (a.den I ρ).natAbs) ∧ (a.den I ρ).natAbs < B32 ^ 64 := h3
      have h4 : U32s w.heap.size w vb (digs (b.den I ρ).natAbs) ∧ (b.den I ρ).natAbs < B32 ^ 64 := h4
      rw [T.den_mkBin, absT_den, absT_den, ev_mul] at h1 h2 ⊢
      refine (hc va vb _ _ w h3.1 h3.2 h4.1 h4.2).mono fun x w' ⟨v, hx, hu, hbl⟩ => ⟨⟨v, hx, ?_, nf_small h1 h2⟩, hbl⟩
      rw [← Int.natCast_mul, Int.natAbs_natCast]
      exact hu
 ·cases hv
theorem rtimes_c : (nfTimes 178).Ok Tryz.prog I ρ :=
 nfTimes_ok fun va vb a b w ha h1 hb h2 => (rtimes_calls va vb _ _ w ha hb (digs_digits a) (digs_digits b) (digs_len64 h1) (digs_len64 h2)).mono fun x w' ⟨r, hx, hu, hb⟩ => ⟨r, hx, by rw [val_digs, val_digs] at hu; exact hu, hb⟩
theorem ctR1_ok (hI : I.opq = numOpq) : CTOk Tryz.prog I ρ ctR1 := by
 refine ctOr_ok (ctNum_ok hI fun e he => ?_) (ctR0_ok hI)
 simp only [List.mem_cons, List.not_mem_nil, or_false] at he
 subst he
 exact rtimes_c
theorem rOf_c : (nfOf 30).Ok Tryz.prog I ρ := nfOf_ok fun z w h1 h2 => (rof_ok z h1 h2 w).mono fun _ _ h => one_of h
end
def mulF : List (B × Bool) := [(.lt (.lit nfBound) (.bin .mul (absT (.var 0)) (absT (.var 1))), false), (.lt (.bin .mul (absT (.var 0)) (absT (.var 1))) (.lit (-nfBound)), false)]
def addF : List (B × Bool) := [(.lt (.lit nfBound) (.bin .add (absT (.var 0)) (absT (.var 1))), false), (.lt (.bin .add (absT (.var 0)) (absT (.var 1))) (.lit (-nfBound)), false)]
def A2 : List V := [.agg (numV (.var 0) 0), .agg (numV (.var 1) 1)]
theorem two_u {w : World} {a b : Int} {s0 s1 : Value} (u0 : U32s w.heap.size w s0 (digs a.natAbs)) (z0 : a.natAbs < B32 ^ 64) (u1 : U32s w.heap.size w s1 (digs b.natAbs)) (z1 : b.natAbs < B32 ^ 64) {l : List Int} :
  ∀ i v, ([s0, s1] : List Value)[i]? = some v → U32s w.heap.size w v (digs ((envOf (a :: b :: l) []).i i).natAbs) ∧ ((envOf (a :: b :: l) []).i i).natAbs < B32 ^ 64 := by
 intro i v h
 match i, h with
 | 0, h => injection h with h; subst h; exact ⟨u0, z0⟩
 | 1, h => injection h with h; subst h; exact ⟨u1, z1⟩
theorem two_v {a b : Int} {s0 s1 : Value} {vs : Array Value} {l : List Int} (hvs : vs = #[.agg #[.bool (decide (a < 0)), s0], .agg #[.bool (decide (b < 0)), s1]]) : ∀ β : Nat → Nat, (∀ i v, ([s0, s1] : List Value)[i]? = some v → IR.opq.dec (β i) = v) →
  (A2.map (V.den IR (envOf (a :: b :: l) []) β)).toArray = vs := by
 intro β hβ
 have h0 := hβ 0 s0 rfl
 have h1 := hβ 1 s1 rfl
 subst hvs
 simp only [A2, List.map_cons, List.map_nil, V.den, cellsOf, numV, C.den, h0, h1]
 rfl
theorem facts2 {ρ : Env} {p q : B × Bool} (hp : p.1.den IR ρ = p.2) (hq : q.1.den IR ρ = q.2) : ∀ r ∈ [p, q], r.1.den IR ρ = r.2 := by
 intro r hr
 simp only [List.mem_cons, List.not_mem_nil, or_false] at hr
 rcases hr with rfl | rfl
 ·exact hp
 ·exact hq
end Go.Proofs.YtgnogdncoljldaaGreat.Sx

