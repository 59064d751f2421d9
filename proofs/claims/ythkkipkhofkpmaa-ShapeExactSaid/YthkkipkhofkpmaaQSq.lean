import Derived.Test.YthkkipkhofkpmaaQSp
import Derived.Test.YthkkipkhofkpmaaQSxC
set_option linter.all false
set_option autoImplicit false
namespace Go.Proofs.Ythkkipkhofkpmaa.Sx
open Go Go.RowKit
def isYes : V → Bool
  | .c (.bool (.lit true)) => true
  | _ => false
theorem isYes_eq {v : V} (h : isYes v = true) : v = .c (.bool (.lit true)) := by
  unfold isYes at h
  split at h
  · rfl
  · cases h
theorem calls_yes {P : Program} {I : Interp} {ρ : Env} (hm : P.follows .mixedOrders = true) (hN : NoCount P) {ct : CT} (hct : CTOk P I ρ ct) {n : Nat} {g : FuncId} {args : List V} {k : Known} {w : World}
    (hh : Hyp I w fun _ => False) (hk : k.Ok I ρ) (hwf : (args.all (V.wf 0)) = true) (hc : leavesOk isYes (vals (execF P ct n g args ⟨[], 0, k⟩)) = true) :
    Calls P g (args.map (V.den I ρ id)).toArray w (fun e w' => e = .returned (.bool true) ∧ Below w.heap.size w w') :=
  calls_litD (r := .bool true) hm hN hct hh hk hwf rfl (Tree.vc_mono (fun v hv => by rw [isYes_eq hv]; exact ⟨rfl, rfl⟩) (leavesOk_vc hc))
theorem exSq {ax ay bx by' px py : Int} : dist2 px py ax ay * dist2 bx by' ax ay = alongZ ax ay bx by' px py * alongZ ax ay bx by' px py + crossP ax ay bx by' px py * crossP ax ay bx by' px py := by
  unfold dist2 alongZ crossP; grind
theorem exSqB {ax ay bx by' px py : Int} : dist2 px py bx by' * dist2 bx by' ax ay = ((px - bx) * (bx - ax) + (py - by') * (by' - ay)) * ((px - bx) * (bx - ax) + (py - by') * (by' - ay)) + crossP ax ay bx by' px py * crossP ax ay bx by' px py := by
  unfold dist2 crossP; grind
theorem sq_nn (x : Int) : 0 ≤ x * x := by
  rcases Int.le_total 0 x with h | h
  · exact Int.mul_nonneg h h
  · have := Int.mul_nonneg (show 0 ≤ -x by omega) (show 0 ≤ -x by omega)
    rwa [Int.neg_mul_neg] at this
theorem not_cov {ax ay bx by' r px py : Int} (hS : 0 < dist2 bx by' ax ay) (hc : r * r * dist2 bx by' ax ay < crossP ax ay bx by' px py * crossP ax ay bx by' px py) : ¬ covP 1 ax ay bx by' 0 0 r px py := by
  have a1 := sq_nn (alongZ ax ay bx by' px py)
  have a2 := sq_nn ((px - bx) * (bx - ax) + (py - by') * (by' - ay))
  have e1 := @exSq ax ay bx by' px py
  have e2 := @exSqB ax ay bx by' px py
  have key : ∀ x : Int, x ≤ r * r → x * dist2 bx by' ax ay ≤ r * r * dist2 bx by' ax ay := fun x hx => Int.mul_le_mul_of_nonneg_right hx (by omega)
  rintro (h | h | ⟨-, -, -, h⟩ | ⟨h, -⟩)
  · have := key _ h; omega
  · have := key _ h; omega
  · omega
  · exact h rfl
theorem exM (c K : Int) : c * K * (c * K) = c * c * (K * K) := by grind
section
variable {ρ : Env} {ax ay bx by' K c h : Int} {r px py : T}
theorem ex_yes (hr : r.den IH ρ = h * K) (hc : crossP ax ay bx by' (px.den IH ρ) (py.den IH ρ) = c * K) (hcc : c * c = h * h * dist2 bx by' ax ay)
    (h1 : 0 < alongZ ax ay bx by' (px.den IH ρ) (py.den IH ρ)) (h2 : alongZ ax ay bx by' (px.den IH ρ) (py.den IH ρ) < dist2 bx by' ax ay) :
    (B.app 11 (.cons (.lit 1) (.cons (.lit ax) (.cons (.lit ay) (.cons (.lit bx) (.cons (.lit by') (.cons (.lit 0) (.cons (.lit 0) (.cons r (.cons px (.cons py .nil))))))))))).den IH ρ = true := by
  refine decide_eq_true (p := covP 1 ax ay bx by' 0 0 (r.den IH ρ) (px.den IH ρ) (py.den IH ρ)) (Or.inr (Or.inr (Or.inl ⟨rfl, h1, h2, ?_⟩)))
  rw [hc, hr, exM, exM, hcc]
  refine Int.le_of_eq ?_
  rw [Int.mul_assoc, Int.mul_assoc, Int.mul_assoc, Int.mul_assoc, Int.mul_comm (dist2 _ _ _ _)]
theorem ex_no (hr : r.den IH ρ = h * K - 1) (hc : crossP ax ay bx by' (px.den IH ρ) (py.den IH ρ) = c * K) (hcc : c * c = h * h * dist2 bx by' ax ay)
    (h1 : 1 ≤ h * K) (hS : 0 < dist2 bx by' ax ay) :
    (B.app 11 (.cons (.lit 1) (.cons (.lit ax) (.cons (.lit ay) (.cons (.lit bx) (.cons (.lit by') (.cons (.lit 0) (.cons (.lit 0) (.cons r (.cons px (.cons py .nil))))))))))).den IH ρ = false := by
  refine decide_eq_false (p := covP 1 ax ay bx by' 0 0 (r.den IH ρ) (px.den IH ρ) (py.den IH ρ)) (not_cov hS ?_)
  rw [hc, hr, exM, hcc]
  have e : h * h * dist2 bx by' ax ay * (K * K) = h * K * (h * K) * dist2 bx by' ax ay := by grind
  rw [e]
  refine Int.mul_lt_mul_of_pos_right ?_ hS
  generalize h * K = x at h1 ⊢
  have : (x - 1) * (x - 1) = x * x - x - x + 1 := by grind
  omega
end
theorem exK (s : Int) (hs : 0 ≤ s ∧ s < 4294967296) : ∃ K, 1 + s.tmod 100000 = K ∧ 1 ≤ K ∧ K ≤ 100000 := by
  refine ⟨_, rfl, ?_, ?_⟩
  · have := Int.tmod_nonneg 100000 hs.1; omega
  · have := Int.tmod_lt_of_pos s (show (0 : Int) < 100000 by decide); omega
theorem exV (w s t : Int) : (envOf [w, s, t] []).i 1 = s := rfl
macro "exf" : tactic => `(tactic| (simp only [T.den_bin, T.den_lit, T.den_var, exV, IOp.ev, crossP, alongZ, dist2, *] <;> omega))
def exA : List V := [.c (.int .u8 (.var 0)), .c (.int .u32 (.var 1)), .c (.int .u8 (.var 2))]
def exB (j q4 q : Int) : List (B × Bool) := [(.lt (.lit (-1)) (.var 1), true), (.lt (.var 1) (.lit 4294967296), true), (.lt (.lit (-1)) (.var 0), true), (.lt (.var 0) (.lit 256), true), (.eq (.bin .rem (.var 0) (.lit 5)) (.lit j), true), (.lt (.lit (-1)) (.var 2), true), (.lt (.var 2) (.lit 256), true), (.eq (.bin .rem (.var 2) (.lit 4)) (.lit q4), true), (.eq (.bin .rem (.var 2) (.lit 8)) (.lit q), true)]
theorem exB_ok {w s t j q4 q : Int} (hw : 0 ≤ w ∧ w < 256) (hs : 0 ≤ s ∧ s < 4294967296) (ht : 0 ≤ t ∧ t < 256) (h5 : w.tmod 5 = j) (h4 : t.tmod 4 = q4) (h8 : t.tmod 8 = q) : ∀ p ∈ exB j q4 q, p.1.den IH (envOf [w, s, t] []) = p.2 := by
  intro p hp
  simp only [exB, List.mem_cons, List.not_mem_nil, or_false] at hp
  have e0 : (envOf [w, s, t] []).i 0 = w := rfl
  have e1 : (envOf [w, s, t] []).i 1 = s := rfl
  have e2 : (envOf [w, s, t] []).i 2 = t := rfl
  rcases hp with rfl | rfl | rfl | rfl | rfl | rfl | rfl | rfl | rfl <;>
    first
    | exact B.lt_t.2 (by simp only [T.den_lit, T.den_var, e0, e1, e2]; omega)
    | exact B.eq_t.2 (by simp only [T.den_bin, T.den_lit, T.den_var, e0, e1, e2, IOp.ev]; assumption)
theorem ex_law {w s t j q4 q : Int} (hw : 0 ≤ w ∧ w < 256) (hs : 0 ≤ s ∧ s < 4294967296) (ht : 0 ≤ t ∧ t < 256) (h5 : w.tmod 5 = j) (h4 : t.tmod 4 = q4) (h8 : t.tmod 8 = q) {L : List (B × Bool)}
    (hL : ∀ p ∈ L, p.1.den IH (envOf [w, s, t] []) = p.2) (hc : leavesOk isYes (vals (execF Try.prog ctHS 20 7 exA ⟨[], 0, ⟨L ++ exB j q4 q, [], 0⟩⟩)) = true) (W : World) :
    Calls Try.prog 7 #[.int .u8 w, .int .u32 s, .int .u8 t] W (fun e w' => e = .returned (.bool true) ∧ Below W.heap.size W w') :=
  calls_yes (n := 20) (g := 7) (args := exA) (k := ⟨L ++ exB j q4 q, [], 0⟩) (ρ := envOf [w, s, t] []) mixed nocount (ctHS_ok _) (fun _ h => nomatch h)
    ⟨fun p hp => (List.mem_append.1 hp).elim (hL p) (exB_ok hw hs ht h5 h4 h8 p), (fun _ h => nomatch h), (fun _ h => absurd h (Nat.not_lt_zero _))⟩ rfl hc
end Go.Proofs.Ythkkipkhofkpmaa.Sx

