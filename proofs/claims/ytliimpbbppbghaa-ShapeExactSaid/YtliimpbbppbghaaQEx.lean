/- Strokes, exactly. -/
import Derived.Test.YtliimpbbppbghaaQSq
import Derived.Test.YtliimpbbppbghaaQSp
import Derived.Test.YtliimpbbppbghaaRows
import Derived.WalkKit
import Derived.ProofKit
import Derived.OpenShut
import Derived.Deep.DeepHandedRow
import Derived.ChangeSame
import Derived.ChangeShapes
import Derived.RowKit
import Derived.Carry
import Derived.ChangeSlices
import Derived.ChangeMaps5
set_option linter.all false
set_option autoImplicit false
namespace Go.Proofs.Ytliimpbbppbghaa.Sx
open Go Go.RowKit
def ctHS : CT := ctOr (ctL [sanE]) ctH
theorem ctHS_ok (ρ : Env) : CTOk Try.prog IH ρ ctHS := by
  refine ctOr_ok (ctL_ok fun e he => ?_) (ctH_ok ρ)
  simp only [List.mem_cons, List.not_mem_nil, or_false] at he
  subst he
  exact ⟨rfl, rfl, fun w _ => sanity_c w⟩
end Go.Proofs.Ytliimpbbppbghaa.Sx
namespace Go.Proofs.Ytliimpbbppbghaa.Sx
open Go Go.RowKit
theorem exSq {ax ay bx by' px py : Int} : dist2 px py ax ay * dist2 bx by' ax ay = alongZ ax ay bx by' px py * alongZ ax ay bx by' px py + crossP ax ay bx by' px py * crossP ax ay bx by' px py := by
  unfold dist2 alongZ crossP; grind
theorem exSqB {ax ay bx by' px py : Int} : dist2 px py bx by' * dist2 bx by' ax ay = ((px - bx) * (bx - ax) + (py - by') * (by' - ay)) * ((px - bx) * (bx - ax) + (py - by') * (by' - ay)) + crossP ax ay bx by' px py * crossP ax ay bx by' px py := by
  unfold dist2 crossP; grind
theorem sq_nn (x : Int) : 0 ≤ x * x := by
  rcases Int.le_total 0 x with h | h
  · exact Int.mul_nonneg h h
  · have := Int.mul_nonneg (show 0 ≤ -x by omega) (show 0 ≤ -x by omega)
    rwa [Int.neg_mul_neg] at this
theorem not_cov {ax ay bx by' r px py : Int} (hS : 0 < dist2 bx by' ax ay) (hc : r * r * dist2 bx by' ax ay < crossP ax ay bx by' px py * crossP ax ay bx by' px py) : ¬ covP 1 ax ay bx by' 0 0 r px py := by
  have a1 := sq_nn (alongZ ax ay bx by' px py)
  have a2 := sq_nn ((px - bx) * (bx - ax) + (py - by') * (by' - ay))
  have e1 := @exSq ax ay bx by' px py
  have e2 := @exSqB ax ay bx by' px py
  have key : ∀ x : Int, x ≤ r * r → x * dist2 bx by' ax ay ≤ r * r * dist2 bx by' ax ay := fun x hx => Int.mul_le_mul_of_nonneg_right hx (by omega)
  rintro (h | h | ⟨-, -, -, h⟩ | ⟨h, -⟩)
  · have := key _ h; omega
  · have := key _ h; omega
  · omega
  · exact h rfl
theorem exM (c K : Int) : c * K * (c * K) = c * c * (K * K) := by grind
section
variable {ρ : Env} {ax ay bx by' K c h : Int} {r px py : T}
theorem ex_yes (hr : r.den IH ρ = h * K) (hc : crossP ax ay bx by' (px.den IH ρ) (py.den IH ρ) = c * K) (hcc : c * c = h * h * dist2 bx by' ax ay)
    (h1 : 0 < alongZ ax ay bx by' (px.den IH ρ) (py.den IH ρ)) (h2 : alongZ ax ay bx by' (px.den IH ρ) (py.den IH ρ) < dist2 bx by' ax ay) :
    (B.app 11 (.cons (.lit 1) (.cons (.lit ax) (.cons (.lit ay) (.cons (.lit bx) (.cons (.lit by') (.cons (.lit 0) (.cons (.lit 0) (.cons r (.cons px (.cons py .nil))))))))))).den IH ρ = true := by
  refine decide_eq_true (p := covP 1 ax ay bx by' 0 0 (r.den IH ρ) (px.den IH ρ) (py.den IH ρ)) (Or.inr (Or.inr (Or.inl ⟨rfl, h1, h2, ?_⟩)))
  rw [hc, hr, exM, exM, hcc]
  refine Int.le_of_eq ?_
  rw [Int.mul_assoc, Int.mul_assoc, Int.mul_assoc, Int.mul_assoc, Int.mul_comm (dist2 _ _ _ _)]
theorem ex_no (hr : r.den IH ρ = h * K - 1) (hc : crossP ax ay bx by' (px.den IH ρ) (py.den IH ρ) = c * K) (hcc : c * c = h * h * dist2 bx by' ax ay)
    (h1 : 1 ≤ h * K) (hS : 0 < dist2 bx by' ax ay) :
    (B.app 11 (.cons (.lit 1) (.cons (.lit ax) (.cons (.lit ay) (.cons (.lit bx) (.cons (.lit by') (.cons (.lit 0) (.cons (.lit 0) (.cons r (.cons px (.cons py .nil))))))))))).den IH ρ = false := by
  refine decide_eq_false (p := covP 1 ax ay bx by' 0 0 (r.den IH ρ) (px.den IH ρ) (py.den IH ρ)) (not_cov hS ?_)
  rw [hc, hr, exM, hcc]
  have e : h * h * dist2 bx by' ax ay * (K * K) = h * K * (h * K) * dist2 bx by' ax ay := by grind
  rw [e]
  refine Int.mul_lt_mul_of_pos_right ?_ hS
  generalize h * K = x at h1 ⊢
  have : (x - 1) * (x - 1) = x * x - x - x + 1 := by grind
  omega
end
theorem exK (s : Int) (hs : 0 ≤ s ∧ s < 4294967296) : ∃ K, 1 + s.tmod 100000 = K ∧ 1 ≤ K ∧ K ≤ 100000 := by
  refine ⟨_, rfl, ?_, ?_⟩
  · have := Int.tmod_nonneg 100000 hs.1; omega
  · have := Int.tmod_lt_of_pos s (show (0 : Int) < 100000 by decide); omega
def exA : List V := [.c (.int .u8 (.var 0)), .c (.int .u32 (.var 1)), .c (.int .u8 (.var 2))]
def exB (j q4 q : Int) : List (B × Bool) := [(.lt (.lit (-1)) (.var 1), true), (.lt (.var 1) (.lit 4294967296), true), (.lt (.lit (-1)) (.var 0), true), (.lt (.var 0) (.lit 256), true), (.eq (.bin .rem (.var 0) (.lit 5)) (.lit j), true), (.lt (.lit (-1)) (.var 2), true), (.lt (.var 2) (.lit 256), true), (.eq (.bin .rem (.var 2) (.lit 4)) (.lit q4), true), (.eq (.bin .rem (.var 2) (.lit 8)) (.lit q), true)]
theorem exB_ok {w s t j q4 q : Int} (hw : 0 ≤ w ∧ w < 256) (hs : 0 ≤ s ∧ s < 4294967296) (ht : 0 ≤ t ∧ t < 256) (h5 : w.tmod 5 = j) (h4 : t.tmod 4 = q4) (h8 : t.tmod 8 = q) : ∀ p ∈ exB j q4 q, p.1.den IH (envOf [w, s, t] []) = p.2 := by
  intro p hp
  simp only [exB, List.mem_cons, List.not_mem_nil, or_false] at hp
  have e0 : (envOf [w, s, t] []).i 0 = w := rfl
  have e1 : (envOf [w, s, t] []).i 1 = s := rfl
  have e2 : (envOf [w, s, t] []).i 2 = t := rfl
  rcases hp with rfl | rfl | rfl | rfl | rfl | rfl | rfl | rfl | rfl <;>
    first
    | exact B.lt_t.2 (by simp only [T.den_lit, T.den_var, e0, e1, e2]; omega)
    | exact B.eq_t.2 (by simp only [T.den_bin, T.den_lit, T.den_var, e0, e1, e2, IOp.ev]; assumption)
theorem ex_law {w s t j q4 q : Int} (hw : 0 ≤ w ∧ w < 256) (hs : 0 ≤ s ∧ s < 4294967296) (ht : 0 ≤ t ∧ t < 256) (h5 : w.tmod 5 = j) (h4 : t.tmod 4 = q4) (h8 : t.tmod 8 = q) {L : List (B × Bool)}
    (hL : ∀ p ∈ L, p.1.den IH (envOf [w, s, t] []) = p.2) (hc : leavesOk isYes (vals (execF Try.prog ctHS 20 7 exA ⟨[], 0, ⟨L ++ exB j q4 q, [], 0⟩⟩)) = true) (W : World) :
    Calls Try.prog 7 #[.int .u8 w, .int .u32 s, .int .u8 t] W (fun e w' => e = .returned (.bool true) ∧ Below W.heap.size W w') :=
  calls_yes (n := 20) (g := 7) (args := exA) (k := ⟨L ++ exB j q4 q, [], 0⟩) (ρ := envOf [w, s, t] []) mixed nocount (ctHS_ok _) (fun _ h => nomatch h)
    ⟨fun p hp => (List.mem_append.1 hp).elim (hL p) (exB_ok hw hs ht h5 h4 h8 p), (fun _ h => nomatch h), (fun _ h => absurd h (Nat.not_lt_zero _))⟩ rfl hc
end Go.Proofs.Ytliimpbbppbghaa.Sx
namespace Go.Proofs.Ytliimpbbppbghaa.Sx
open Go Go.RowKit
def ex00 : List (B × Bool) := [((.app 11 (.cons (.lit 1) (.cons (.lit (-1500)) (.cons (.lit (-2000)) (.cons (.lit 6000000) (.cons (.lit 8000000) (.cons (.lit 0) (.cons (.lit 0) (.cons (.bin .mul (.bin .add (.lit 1) (.bin .rem (.var 1) (.lit 100000))) (.lit 5)) (.cons (.bin .add (.bin .add (.bin .mul (.bin .sub (.lit 0) (.bin .add (.lit 1) (.bin .rem (.var 1) (.lit 100000)))) (.lit 4)) (.lit 3)) (.lit 0)) (.cons (.bin .add (.bin .add (.bin .mul (.bin .add (.lit 1) (.bin .rem (.var 1) (.lit 100000))) (.lit 3)) (.lit 4)) (.lit 0)) .nil))))))))))), true), ((.lt (.bin .add (.bin .add (.bin .mul (.bin .sub (.lit 0) (.bin .add (.lit 1) (.bin .rem (.var 1) (.lit 100000)))) (.lit 4)) (.lit 3)) (.lit 0)) (.bin .sub (.lit (-1500)) (.bin .mul (.bin .add (.lit 1) (.bin .rem (.var 1) (.lit 100000))) (.lit 5)))), false), ((.app 11 (.cons (.lit 1) (.cons (.lit (-1500)) (.cons (.lit (-2000)) (.cons (.lit 6000000) (.cons (.lit 8000000) (.cons (.lit 0) (.cons (.lit 0) (.cons (.bin .sub (.bin .mul (.bin .add (.lit 1) (.bin .rem (.var 1) (.lit 100000))) (.lit 5)) (.lit 1)) (.cons (.bin .add (.bin .add (.bin .mul (.bin .sub (.lit 0) (.bin .add (.lit 1) (.bin .rem (.var 1) (.lit 100000)))) (.lit 4)) (.lit 3)) (.lit 0)) (.cons (.bin .add (.bin .add (.bin .mul (.bin .add (.lit 1) (.bin .rem (.var 1) (.lit 100000))) (.lit 3)) (.lit 4)) (.lit 0)) .nil))))))))))), false)]
set_option maxRecDepth 1000000 in
theorem ex00_chk : leavesOk isYes (vals (execF Try.prog ctHS 20 7 exA ⟨[], 0, ⟨ex00 ++ exB 0 0 0, [], 0⟩⟩)) = true := by kernel_rfl
theorem ex00_ok (w s t : Int) (hs : 0 ≤ s ∧ s < 4294967296) : ∀ p ∈ ex00, p.1.den IH (envOf [w, s, t] []) = p.2 := by
  obtain ⟨K, hK, h1, h2⟩ := exK s hs
  intro p hp
  simp only [ex00, List.mem_cons, List.not_mem_nil, or_false] at hp
  rcases hp with rfl | rfl | rfl
  · exact ex_yes (K := K) (c := 50012500) (h := 5) (by (simp only [T.den_bin, T.den_lit, T.den_var, exV, IOp.ev, crossP, alongZ, dist2, *] <;> omega)) (by (simp only [T.den_bin, T.den_lit, T.den_var, exV, IOp.ev, crossP, alongZ, dist2, *] <;> omega)) (by decide) (by (simp only [T.den_bin, T.den_lit, T.den_var, exV, IOp.ev, crossP, alongZ, dist2, *] <;> omega)) (by (simp only [T.den_bin, T.den_lit, T.den_var, exV, IOp.ev, crossP, alongZ, dist2, *] <;> omega))
  · exact B.lt_f.2 (by (simp only [T.den_bin, T.den_lit, T.den_var, exV, IOp.ev, crossP, alongZ, dist2, *] <;> omega))
  · exact ex_no (K := K) (c := 50012500) (h := 5) (by (simp only [T.den_bin, T.den_lit, T.den_var, exV, IOp.ev, crossP, alongZ, dist2, *] <;> omega)) (by (simp only [T.den_bin, T.den_lit, T.den_var, exV, IOp.ev, crossP, alongZ, dist2, *] <;> omega)) (by decide) (by omega) (by decide)
def ex01 : List (B × Bool) := [((.app 11 (.cons (.lit 1) (.cons (.lit 2000) (.cons (.lit (-1500)) (.cons (.lit (-8000000)) (.cons (.lit 6000000) (.cons (.lit 0) (.cons (.lit 0) (.cons (.bin .mul (.bin .add (.lit 1) (.bin .rem (.var 1) (.lit 100000))) (.lit 5)) (.cons (.bin .add (.bin .sub (.lit 0) (.bin .add (.bin .mul (.bin .add (.lit 1) (.bin .rem (.var 1) (.lit 100000))) (.lit 3)) (.lit 4))) (.lit 0)) (.cons (.bin .add (.bin .add (.bin .mul (.bin .sub (.lit 0) (.bin .add (.lit 1) (.bin .rem (.var 1) (.lit 100000)))) (.lit 4)) (.lit 3)) (.lit 0)) .nil))))))))))), true), ((.lt (.bin .add (.bin .add (.bin .mul (.bin .sub (.lit 0) (.bin .add (.lit 1) (.bin .rem (.var 1) (.lit 100000)))) (.lit 4)) (.lit 3)) (.lit 0)) (.bin .sub (.lit (-1500)) (.bin .mul (.bin .add (.lit 1) (.bin .rem (.var 1) (.lit 100000))) (.lit 5)))), false), ((.app 11 (.cons (.lit 1) (.cons (.lit 2000) (.cons (.lit (-1500)) (.cons (.lit (-8000000)) (.cons (.lit 6000000) (.cons (.lit 0) (.cons (.lit 0) (.cons (.bin .sub (.bin .mul (.bin .add (.lit 1) (.bin .rem (.var 1) (.lit 100000))) (.lit 5)) (.lit 1)) (.cons (.bin .add (.bin .sub (.lit 0) (.bin .add (.bin .mul (.bin .add (.lit 1) (.bin .rem (.var 1) (.lit 100000))) (.lit 3)) (.lit 4))) (.lit 0)) (.cons (.bin .add (.bin .add (.bin .mul (.bin .sub (.lit 0) (.bin .add (.lit 1) (.bin .rem (.var 1) (.lit 100000)))) (.lit 4)) (.lit 3)) (.lit 0)) .nil))))))))))), false)]
set_option maxRecDepth 1000000 in
theorem ex01_chk : leavesOk isYes (vals (execF Try.prog ctHS 20 7 exA ⟨[], 0, ⟨ex01 ++ exB 0 1 1, [], 0⟩⟩)) = true := by kernel_rfl
theorem ex01_ok (w s t : Int) (hs : 0 ≤ s ∧ s < 4294967296) : ∀ p ∈ ex01, p.1.den IH (envOf [w, s, t] []) = p.2 := by
  obtain ⟨K, hK, h1, h2⟩ := exK s hs
  intro p hp
  simp only [ex01, List.mem_cons, List.not_mem_nil, or_false] at hp
  rcases hp with rfl | rfl | rfl
  · exact ex_yes (K := K) (c := 50012500) (h := 5) (by (simp only [T.den_bin, T.den_lit, T.den_var, exV, IOp.ev, crossP, alongZ, dist2, *] <;> omega)) (by (simp only [T.den_bin, T.den_lit, T.den_var, exV, IOp.ev, crossP, alongZ, dist2, *] <;> omega)) (by decide) (by (simp only [T.den_bin, T.den_lit, T.den_var, exV, IOp.ev, crossP, alongZ, dist2, *] <;> omega)) (by (simp only [T.den_bin, T.den_lit, T.den_var, exV, IOp.ev, crossP, alongZ, dist2, *] <;> omega))
  · exact B.lt_f.2 (by (simp only [T.den_bin, T.den_lit, T.den_var, exV, IOp.ev, crossP, alongZ, dist2, *] <;> omega))
  · exact ex_no (K := K) (c := 50012500) (h := 5) (by (simp only [T.den_bin, T.den_lit, T.den_var, exV, IOp.ev, crossP, alongZ, dist2, *] <;> omega)) (by (simp only [T.den_bin, T.den_lit, T.den_var, exV, IOp.ev, crossP, alongZ, dist2, *] <;> omega)) (by decide) (by omega) (by decide)
def ex02 : List (B × Bool) := [((.app 11 (.cons (.lit 1) (.cons (.lit 1500) (.cons (.lit 2000) (.cons (.lit (-6000000)) (.cons (.lit (-8000000)) (.cons (.lit 0) (.cons (.lit 0) (.cons (.bin .mul (.bin .add (.lit 1) (.bin .rem (.var 1) (.lit 100000))) (.lit 5)) (.cons (.bin .add (.bin .sub (.lit 0) (.bin .add (.bin .mul (.bin .sub (.lit 0) (.bin .add (.lit 1) (.bin .rem (.var 1) (.lit 100000)))) (.lit 4)) (.lit 3))) (.lit 0)) (.cons (.bin .add (.bin .sub (.lit 0) (.bin .add (.bin .mul (.bin .add (.lit 1) (.bin .rem (.var 1) (.lit 100000))) (.lit 3)) (.lit 4))) (.lit 0)) .nil))))))))))), true), ((.lt (.bin .add (.lit 1500) (.bin .mul (.bin .add (.lit 1) (.bin .rem (.var 1) (.lit 100000))) (.lit 5))) (.bin .add (.bin .sub (.lit 0) (.bin .add (.bin .mul (.bin .sub (.lit 0) (.bin .add (.lit 1) (.bin .rem (.var 1) (.lit 100000)))) (.lit 4)) (.lit 3))) (.lit 0))), false), ((.app 11 (.cons (.lit 1) (.cons (.lit 1500) (.cons (.lit 2000) (.cons (.lit (-6000000)) (.cons (.lit (-8000000)) (.cons (.lit 0) (.cons (.lit 0) (.cons (.bin .sub (.bin .mul (.bin .add (.lit 1) (.bin .rem (.var 1) (.lit 100000))) (.lit 5)) (.lit 1)) (.cons (.bin .add (.bin .sub (.lit 0) (.bin .add (.bin .mul (.bin .sub (.lit 0) (.bin .add (.lit 1) (.bin .rem (.var 1) (.lit 100000)))) (.lit 4)) (.lit 3))) (.lit 0)) (.cons (.bin .add (.bin .sub (.lit 0) (.bin .add (.bin .mul (.bin .add (.lit 1) (.bin .rem (.var 1) (.lit 100000))) (.lit 3)) (.lit 4))) (.lit 0)) .nil))))))))))), false)]
set_option maxRecDepth 1000000 in
theorem ex02_chk : leavesOk isYes (vals (execF Try.prog ctHS 20 7 exA ⟨[], 0, ⟨ex02 ++ exB 0 2 2, [], 0⟩⟩)) = true := by kernel_rfl
theorem ex02_ok (w s t : Int) (hs : 0 ≤ s ∧ s < 4294967296) : ∀ p ∈ ex02, p.1.den IH (envOf [w, s, t] []) = p.2 := by
  obtain ⟨K, hK, h1, h2⟩ := exK s hs
  intro p hp
  simp only [ex02, List.mem_cons, List.not_mem_nil, or_false] at hp
  rcases hp with rfl | rfl | rfl
  · exact ex_yes (K := K) (c := 50012500) (h := 5) (by (simp only [T.den_bin, T.den_lit, T.den_var, exV, IOp.ev, crossP, alongZ, dist2, *] <;> omega)) (by (simp only [T.den_bin, T.den_lit, T.den_var, exV, IOp.ev, crossP, alongZ, dist2, *] <;> omega)) (by decide) (by (simp only [T.den_bin, T.den_lit, T.den_var, exV, IOp.ev, crossP, alongZ, dist2, *] <;> omega)) (by (simp only [T.den_bin, T.den_lit, T.den_var, exV, IOp.ev, crossP, alongZ, dist2, *] <;> omega))
  · exact B.lt_f.2 (by (simp only [T.den_bin, T.den_lit, T.den_var, exV, IOp.ev, crossP, alongZ, dist2, *] <;> omega))
  · exact ex_no (K := K) (c := 50012500) (h := 5) (by (simp only [T.den_bin, T.den_lit, T.den_var, exV, IOp.ev, crossP, alongZ, dist2, *] <;> omega)) (by (simp only [T.den_bin, T.den_lit, T.den_var, exV, IOp.ev, crossP, alongZ, dist2, *] <;> omega)) (by decide) (by omega) (by decide)
def ex03 : List (B × Bool) := [((.app 11 (.cons (.lit 1) (.cons (.lit (-2000)) (.cons (.lit 1500) (.cons (.lit 8000000) (.cons (.lit (-6000000)) (.cons (.lit 0) (.cons (.lit 0) (.cons (.bin .mul (.bin .add (.lit 1) (.bin .rem (.var 1) (.lit 100000))) (.lit 5)) (.cons (.bin .add (.bin .add (.bin .mul (.bin .add (.lit 1) (.bin .rem (.var 1) (.lit 100000))) (.lit 3)) (.lit 4)) (.lit 0)) (.cons (.bin .add (.bin .sub (.lit 0) (.bin .add (.bin .mul (.bin .sub (.lit 0) (.bin .add (.lit 1) (.bin .rem (.var 1) (.lit 100000)))) (.lit 4)) (.lit 3))) (.lit 0)) .nil))))))))))), true), ((.lt (.bin .add (.lit 1500) (.bin .mul (.bin .add (.lit 1) (.bin .rem (.var 1) (.lit 100000))) (.lit 5))) (.bin .add (.bin .sub (.lit 0) (.bin .add (.bin .mul (.bin .sub (.lit 0) (.bin .add (.lit 1) (.bin .rem (.var 1) (.lit 100000)))) (.lit 4)) (.lit 3))) (.lit 0))), false), ((.app 11 (.cons (.lit 1) (.cons (.lit (-2000)) (.cons (.lit 1500) (.cons (.lit 8000000) (.cons (.lit (-6000000)) (.cons (.lit 0) (.cons (.lit 0) (.cons (.bin .sub (.bin .mul (.bin .add (.lit 1) (.bin .rem (.var 1) (.lit 100000))) (.lit 5)) (.lit 1)) (.cons (.bin .add (.bin .add (.bin .mul (.bin .add (.lit 1) (.bin .rem (.var 1) (.lit 100000))) (.lit 3)) (.lit 4)) (.lit 0)) (.cons (.bin .add (.bin .sub (.lit 0) (.bin .add (.bin .mul (.bin .sub (.lit 0) (.bin .add (.lit 1) (.bin .rem (.var 1) (.lit 100000)))) (.lit 4)) (.lit 3))) (.lit 0)) .nil))))))))))), false)]
set_option maxRecDepth 1000000 in
theorem ex03_chk : leavesOk isYes (vals (execF Try.prog ctHS 20 7 exA ⟨[], 0, ⟨ex03 ++ exB 0 3 3, [], 0⟩⟩)) = true := by kernel_rfl
theorem ex03_ok (w s t : Int) (hs : 0 ≤ s ∧ s < 4294967296) : ∀ p ∈ ex03, p.1.den IH (envOf [w, s, t] []) = p.2 := by
  obtain ⟨K, hK, h1, h2⟩ := exK s hs
  intro p hp
  simp only [ex03, List.mem_cons, List.not_mem_nil, or_false] at hp
  rcases hp with rfl | rfl | rfl
  · exact ex_yes (K := K) (c := 50012500) (h := 5) (by (simp only [T.den_bin, T.den_lit, T.den_var, exV, IOp.ev, crossP, alongZ, dist2, *] <;> omega)) (by (simp only [T.den_bin, T.den_lit, T.den_var, exV, IOp.ev, crossP, alongZ, dist2, *] <;> omega)) (by decide) (by (simp only [T.den_bin, T.den_lit, T.den_var, exV, IOp.ev, crossP, alongZ, dist2, *] <;> omega)) (by (simp only [T.den_bin, T.den_lit, T.den_var, exV, IOp.ev, crossP, alongZ, dist2, *] <;> omega))
  · exact B.lt_f.2 (by (simp only [T.den_bin, T.den_lit, T.den_var, exV, IOp.ev, crossP, alongZ, dist2, *] <;> omega))
  · exact ex_no (K := K) (c := 50012500) (h := 5) (by (simp only [T.den_bin, T.den_lit, T.den_var, exV, IOp.ev, crossP, alongZ, dist2, *] <;> omega)) (by (simp only [T.den_bin, T.den_lit, T.den_var, exV, IOp.ev, crossP, alongZ, dist2, *] <;> omega)) (by decide) (by omega) (by decide)
def ex04 : List (B × Bool) := [((.app 11 (.cons (.lit 1) (.cons (.lit 1500) (.cons (.lit (-2000)) (.cons (.lit (-6000000)) (.cons (.lit 8000000) (.cons (.lit 0) (.cons (.lit 0) (.cons (.bin .mul (.bin .add (.lit 1) (.bin .rem (.var 1) (.lit 100000))) (.lit 5)) (.cons (.bin .add (.bin .sub (.lit 0) (.bin .add (.bin .mul (.bin .sub (.lit 0) (.bin .add (.lit 1) (.bin .rem (.var 1) (.lit 100000)))) (.lit 4)) (.lit 3))) (.lit 0)) (.cons (.bin .add (.bin .add (.bin .mul (.bin .add (.lit 1) (.bin .rem (.var 1) (.lit 100000))) (.lit 3)) (.lit 4)) (.lit 0)) .nil))))))))))), true), ((.lt (.bin .add (.lit 1500) (.bin .mul (.bin .add (.lit 1) (.bin .rem (.var 1) (.lit 100000))) (.lit 5))) (.bin .add (.bin .sub (.lit 0) (.bin .add (.bin .mul (.bin .sub (.lit 0) (.bin .add (.lit 1) (.bin .rem (.var 1) (.lit 100000)))) (.lit 4)) (.lit 3))) (.lit 0))), false), ((.app 11 (.cons (.lit 1) (.cons (.lit 1500) (.cons (.lit (-2000)) (.cons (.lit (-6000000)) (.cons (.lit 8000000) (.cons (.lit 0) (.cons (.lit 0) (.cons (.bin .sub (.bin .mul (.bin .add (.lit 1) (.bin .rem (.var 1) (.lit 100000))) (.lit 5)) (.lit 1)) (.cons (.bin .add (.bin .sub (.lit 0) (.bin .add (.bin .mul (.bin .sub (.lit 0) (.bin .add (.lit 1) (.bin .rem (.var 1) (.lit 100000)))) (.lit 4)) (.lit 3))) (.lit 0)) (.cons (.bin .add (.bin .add (.bin .mul (.bin .add (.lit 1) (.bin .rem (.var 1) (.lit 100000))) (.lit 3)) (.lit 4)) (.lit 0)) .nil))))))))))), false)]
set_option maxRecDepth 1000000 in
theorem ex04_chk : leavesOk isYes (vals (execF Try.prog ctHS 20 7 exA ⟨[], 0, ⟨ex04 ++ exB 0 0 4, [], 0⟩⟩)) = true := by kernel_rfl
theorem ex04_ok (w s t : Int) (hs : 0 ≤ s ∧ s < 4294967296) : ∀ p ∈ ex04, p.1.den IH (envOf [w, s, t] []) = p.2 := by
  obtain ⟨K, hK, h1, h2⟩ := exK s hs
  intro p hp
  simp only [ex04, List.mem_cons, List.not_mem_nil, or_false] at hp
  rcases hp with rfl | rfl | rfl
  · exact ex_yes (K := K) (c := -50012500) (h := 5) (by (simp only [T.den_bin, T.den_lit, T.den_var, exV, IOp.ev, crossP, alongZ, dist2, *] <;> omega)) (by (simp only [T.den_bin, T.den_lit, T.den_var, exV, IOp.ev, crossP, alongZ, dist2, *] <;> omega)) (by decide) (by (simp only [T.den_bin, T.den_lit, T.den_var, exV, IOp.ev, crossP, alongZ, dist2, *] <;> omega)) (by (simp only [T.den_bin, T.den_lit, T.den_var, exV, IOp.ev, crossP, alongZ, dist2, *] <;> omega))
  · exact B.lt_f.2 (by (simp only [T.den_bin, T.den_lit, T.den_var, exV, IOp.ev, crossP, alongZ, dist2, *] <;> omega))
  · exact ex_no (K := K) (c := -50012500) (h := 5) (by (simp only [T.den_bin, T.den_lit, T.den_var, exV, IOp.ev, crossP, alongZ, dist2, *] <;> omega)) (by (simp only [T.den_bin, T.den_lit, T.den_var, exV, IOp.ev, crossP, alongZ, dist2, *] <;> omega)) (by decide) (by omega) (by decide)
def ex05 : List (B × Bool) := [((.app 11 (.cons (.lit 1) (.cons (.lit 2000) (.cons (.lit 1500) (.cons (.lit (-8000000)) (.cons (.lit (-6000000)) (.cons (.lit 0) (.cons (.lit 0) (.cons (.bin .mul (.bin .add (.lit 1) (.bin .rem (.var 1) (.lit 100000))) (.lit 5)) (.cons (.bin .add (.bin .sub (.lit 0) (.bin .add (.bin .mul (.bin .add (.lit 1) (.bin .rem (.var 1) (.lit 100000))) (.lit 3)) (.lit 4))) (.lit 0)) (.cons (.bin .add (.bin .sub (.lit 0) (.bin .add (.bin .mul (.bin .sub (.lit 0) (.bin .add (.lit 1) (.bin .rem (.var 1) (.lit 100000)))) (.lit 4)) (.lit 3))) (.lit 0)) .nil))))))))))), true), ((.lt (.bin .add (.lit 1500) (.bin .mul (.bin .add (.lit 1) (.bin .rem (.var 1) (.lit 100000))) (.lit 5))) (.bin .add (.bin .sub (.lit 0) (.bin .add (.bin .mul (.bin .sub (.lit 0) (.bin .add (.lit 1) (.bin .rem (.var 1) (.lit 100000)))) (.lit 4)) (.lit 3))) (.lit 0))), false), ((.app 11 (.cons (.lit 1) (.cons (.lit 2000) (.cons (.lit 1500) (.cons (.lit (-8000000)) (.cons (.lit (-6000000)) (.cons (.lit 0) (.cons (.lit 0) (.cons (.bin .sub (.bin .mul (.bin .add (.lit 1) (.bin .rem (.var 1) (.lit 100000))) (.lit 5)) (.lit 1)) (.cons (.bin .add (.bin .sub (.lit 0) (.bin .add (.bin .mul (.bin .add (.lit 1) (.bin .rem (.var 1) (.lit 100000))) (.lit 3)) (.lit 4))) (.lit 0)) (.cons (.bin .add (.bin .sub (.lit 0) (.bin .add (.bin .mul (.bin .sub (.lit 0) (.bin .add (.lit 1) (.bin .rem (.var 1) (.lit 100000)))) (.lit 4)) (.lit 3))) (.lit 0)) .nil))))))))))), false)]
set_option maxRecDepth 1000000 in
theorem ex05_chk : leavesOk isYes (vals (execF Try.prog ctHS 20 7 exA ⟨[], 0, ⟨ex05 ++ exB 0 1 5, [], 0⟩⟩)) = true := by kernel_rfl
theorem ex05_ok (w s t : Int) (hs : 0 ≤ s ∧ s < 4294967296) : ∀ p ∈ ex05, p.1.den IH (envOf [w, s, t] []) = p.2 := by
  obtain ⟨K, hK, h1, h2⟩ := exK s hs
  intro p hp
  simp only [ex05, List.mem_cons, List.not_mem_nil, or_false] at hp
  rcases hp with rfl | rfl | rfl
  · exact ex_yes (K := K) (c := -50012500) (h := 5) (by (simp only [T.den_bin, T.den_lit, T.den_var, exV, IOp.ev, crossP, alongZ, dist2, *] <;> omega)) (by (simp only [T.den_bin, T.den_lit, T.den_var, exV, IOp.ev, crossP, alongZ, dist2, *] <;> omega)) (by decide) (by (simp only [T.den_bin, T.den_lit, T.den_var, exV, IOp.ev, crossP, alongZ, dist2, *] <;> omega)) (by (simp only [T.den_bin, T.den_lit, T.den_var, exV, IOp.ev, crossP, alongZ, dist2, *] <;> omega))
  · exact B.lt_f.2 (by (simp only [T.den_bin, T.den_lit, T.den_var, exV, IOp.ev, crossP, alongZ, dist2, *] <;> omega))
  · exact ex_no (K := K) (c := -50012500) (h := 5) (by (simp only [T.den_bin, T.den_lit, T.den_var, exV, IOp.ev, crossP, alongZ, dist2, *] <;> omega)) (by (simp only [T.den_bin, T.den_lit, T.den_var, exV, IOp.ev, crossP, alongZ, dist2, *] <;> omega)) (by decide) (by omega) (by decide)
def ex06 : List (B × Bool) := [((.app 11 (.cons (.lit 1) (.cons (.lit (-1500)) (.cons (.lit 2000) (.cons (.lit 6000000) (.cons (.lit (-8000000)) (.cons (.lit 0) (.cons (.lit 0) (.cons (.bin .mul (.bin .add (.lit 1) (.bin .rem (.var 1) (.lit 100000))) (.lit 5)) (.cons (.bin .add (.bin .sub (.lit 0) (.bin .sub (.lit 0) (.bin .add (.bin .mul (.bin .sub (.lit 0) (.bin .add (.lit 1) (.bin .rem (.var 1) (.lit 100000)))) (.lit 4)) (.lit 3)))) (.lit 0)) (.cons (.bin .add (.bin .sub (.lit 0) (.bin .add (.bin .mul (.bin .add (.lit 1) (.bin .rem (.var 1) (.lit 100000))) (.lit 3)) (.lit 4))) (.lit 0)) .nil))))))))))), true), ((.lt (.bin .add (.bin .sub (.lit 0) (.bin .sub (.lit 0) (.bin .add (.bin .mul (.bin .sub (.lit 0) (.bin .add (.lit 1) (.bin .rem (.var 1) (.lit 100000)))) (.lit 4)) (.lit 3)))) (.lit 0)) (.bin .sub (.lit (-1500)) (.bin .mul (.bin .add (.lit 1) (.bin .rem (.var 1) (.lit 100000))) (.lit 5)))), false), ((.app 11 (.cons (.lit 1) (.cons (.lit (-1500)) (.cons (.lit 2000) (.cons (.lit 6000000) (.cons (.lit (-8000000)) (.cons (.lit 0) (.cons (.lit 0) (.cons (.bin .sub (.bin .mul (.bin .add (.lit 1) (.bin .rem (.var 1) (.lit 100000))) (.lit 5)) (.lit 1)) (.cons (.bin .add (.bin .sub (.lit 0) (.bin .sub (.lit 0) (.bin .add (.bin .mul (.bin .sub (.lit 0) (.bin .add (.lit 1) (.bin .rem (.var 1) (.lit 100000)))) (.lit 4)) (.lit 3)))) (.lit 0)) (.cons (.bin .add (.bin .sub (.lit 0) (.bin .add (.bin .mul (.bin .add (.lit 1) (.bin .rem (.var 1) (.lit 100000))) (.lit 3)) (.lit 4))) (.lit 0)) .nil))))))))))), false)]
set_option maxRecDepth 1000000 in
theorem ex06_chk : leavesOk isYes (vals (execF Try.prog ctHS 20 7 exA ⟨[], 0, ⟨ex06 ++ exB 0 2 6, [], 0⟩⟩)) = true := by kernel_rfl
theorem ex06_ok (w s t : Int) (hs : 0 ≤ s ∧ s < 4294967296) : ∀ p ∈ ex06, p.1.den IH (envOf [w, s, t] []) = p.2 := by
  obtain ⟨K, hK, h1, h2⟩ := exK s hs
  intro p hp
  simp only [ex06, List.mem_cons, List.not_mem_nil, or_false] at hp
  rcases hp with rfl | rfl | rfl
  · exact ex_yes (K := K) (c := -50012500) (h := 5) (by (simp only [T.den_bin, T.den_lit, T.den_var, exV, IOp.ev, crossP, alongZ, dist2, *] <;> omega)) (by (simp only [T.den_bin, T.den_lit, T.den_var, exV, IOp.ev, crossP, alongZ, dist2, *] <;> omega)) (by decide) (by (simp only [T.den_bin, T.den_lit, T.den_var, exV, IOp.ev, crossP, alongZ, dist2, *] <;> omega)) (by (simp only [T.den_bin, T.den_lit, T.den_var, exV, IOp.ev, crossP, alongZ, dist2, *] <;> omega))
  · exact B.lt_f.2 (by (simp only [T.den_bin, T.den_lit, T.den_var, exV, IOp.ev, crossP, alongZ, dist2, *] <;> omega))
  · exact ex_no (K := K) (c := -50012500) (h := 5) (by (simp only [T.den_bin, T.den_lit, T.den_var, exV, IOp.ev, crossP, alongZ, dist2, *] <;> omega)) (by (simp only [T.den_bin, T.den_lit, T.den_var, exV, IOp.ev, crossP, alongZ, dist2, *] <;> omega)) (by decide) (by omega) (by decide)
def ex07 : List (B × Bool) := [((.app 11 (.cons (.lit 1) (.cons (.lit (-2000)) (.cons (.lit (-1500)) (.cons (.lit 8000000) (.cons (.lit 6000000) (.cons (.lit 0) (.cons (.lit 0) (.cons (.bin .mul (.bin .add (.lit 1) (.bin .rem (.var 1) (.lit 100000))) (.lit 5)) (.cons (.bin .add (.bin .add (.bin .mul (.bin .add (.lit 1) (.bin .rem (.var 1) (.lit 100000))) (.lit 3)) (.lit 4)) (.lit 0)) (.cons (.bin .add (.bin .sub (.lit 0) (.bin .sub (.lit 0) (.bin .add (.bin .mul (.bin .sub (.lit 0) (.bin .add (.lit 1) (.bin .rem (.var 1) (.lit 100000)))) (.lit 4)) (.lit 3)))) (.lit 0)) .nil))))))))))), true), ((.lt (.bin .add (.bin .sub (.lit 0) (.bin .sub (.lit 0) (.bin .add (.bin .mul (.bin .sub (.lit 0) (.bin .add (.lit 1) (.bin .rem (.var 1) (.lit 100000)))) (.lit 4)) (.lit 3)))) (.lit 0)) (.bin .sub (.lit (-1500)) (.bin .mul (.bin .add (.lit 1) (.bin .rem (.var 1) (.lit 100000))) (.lit 5)))), false), ((.app 11 (.cons (.lit 1) (.cons (.lit (-2000)) (.cons (.lit (-1500)) (.cons (.lit 8000000) (.cons (.lit 6000000) (.cons (.lit 0) (.cons (.lit 0) (.cons (.bin .sub (.bin .mul (.bin .add (.lit 1) (.bin .rem (.var 1) (.lit 100000))) (.lit 5)) (.lit 1)) (.cons (.bin .add (.bin .add (.bin .mul (.bin .add (.lit 1) (.bin .rem (.var 1) (.lit 100000))) (.lit 3)) (.lit 4)) (.lit 0)) (.cons (.bin .add (.bin .sub (.lit 0) (.bin .sub (.lit 0) (.bin .add (.bin .mul (.bin .sub (.lit 0) (.bin .add (.lit 1) (.bin .rem (.var 1) (.lit 100000)))) (.lit 4)) (.lit 3)))) (.lit 0)) .nil))))))))))), false)]
set_option maxRecDepth 1000000 in
theorem ex07_chk : leavesOk isYes (vals (execF Try.prog ctHS 20 7 exA ⟨[], 0, ⟨ex07 ++ exB 0 3 7, [], 0⟩⟩)) = true := by kernel_rfl
theorem ex07_ok (w s t : Int) (hs : 0 ≤ s ∧ s < 4294967296) : ∀ p ∈ ex07, p.1.den IH (envOf [w, s, t] []) = p.2 := by
  obtain ⟨K, hK, h1, h2⟩ := exK s hs
  intro p hp
  simp only [ex07, List.mem_cons, List.not_mem_nil, or_false] at hp
  rcases hp with rfl | rfl | rfl
  · exact ex_yes (K := K) (c := -50012500) (h := 5) (by (simp only [T.den_bin, T.den_lit, T.den_var, exV, IOp.ev, crossP, alongZ, dist2, *] <;> omega)) (by (simp only [T.den_bin, T.den_lit, T.den_var, exV, IOp.ev, crossP, alongZ, dist2, *] <;> omega)) (by decide) (by (simp only [T.den_bin, T.den_lit, T.den_var, exV, IOp.ev, crossP, alongZ, dist2, *] <;> omega)) (by (simp only [T.den_bin, T.den_lit, T.den_var, exV, IOp.ev, crossP, alongZ, dist2, *] <;> omega))
  · exact B.lt_f.2 (by (simp only [T.den_bin, T.den_lit, T.den_var, exV, IOp.ev, crossP, alongZ, dist2, *] <;> omega))
  · exact ex_no (K := K) (c := -50012500) (h := 5) (by (simp only [T.den_bin, T.den_lit, T.den_var, exV, IOp.ev, crossP, alongZ, dist2, *] <;> omega)) (by (simp only [T.den_bin, T.den_lit, T.den_var, exV, IOp.ev, crossP, alongZ, dist2, *] <;> omega)) (by decide) (by omega) (by decide)
end Go.Proofs.Ytliimpbbppbghaa.Sx
namespace Go.Proofs.Ytliimpbbppbghaa.Sx
open Go Go.RowKit
def ex10 : List (B × Bool) := [((.app 11 (.cons (.lit 1) (.cons (.lit (-2500)) (.cons (.lit (-6000)) (.cons (.lit 10000000) (.cons (.lit 24000000) (.cons (.lit 0) (.cons (.lit 0) (.cons (.bin .mul (.bin .add (.lit 1) (.bin .rem (.var 1) (.lit 100000))) (.lit 13)) (.cons (.bin .add (.bin .add (.bin .mul (.bin .sub (.lit 0) (.bin .add (.lit 1) (.bin .rem (.var 1) (.lit 100000)))) (.lit 12)) (.lit 5)) (.lit 0)) (.cons (.bin .add (.bin .add (.bin .mul (.bin .add (.lit 1) (.bin .rem (.var 1) (.lit 100000))) (.lit 5)) (.lit 12)) (.lit 0)) .nil))))))))))), true), ((.lt (.bin .add (.bin .add (.bin .mul (.bin .sub (.lit 0) (.bin .add (.lit 1) (.bin .rem (.var 1) (.lit 100000)))) (.lit 12)) (.lit 5)) (.lit 0)) (.bin .sub (.lit (-2500)) (.bin .mul (.bin .add (.lit 1) (.bin .rem (.var 1) (.lit 100000))) (.lit 13)))), false), ((.app 11 (.cons (.lit 1) (.cons (.lit (-2500)) (.cons (.lit (-6000)) (.cons (.lit 10000000) (.cons (.lit 24000000) (.cons (.lit 0) (.cons (.lit 0) (.cons (.bin .sub (.bin .mul (.bin .add (.lit 1) (.bin .rem (.var 1) (.lit 100000))) (.lit 13)) (.lit 1)) (.cons (.bin .add (.bin .add (.bin .mul (.bin .sub (.lit 0) (.bin .add (.lit 1) (.bin .rem (.var 1) (.lit 100000)))) (.lit 12)) (.lit 5)) (.lit 0)) (.cons (.bin .add (.bin .add (.bin .mul (.bin .add (.lit 1) (.bin .rem (.var 1) (.lit 100000))) (.lit 5)) (.lit 12)) (.lit 0)) .nil))))))))))), false)]
set_option maxRecDepth 1000000 in
theorem ex10_chk : leavesOk isYes (vals (execF Try.prog ctHS 20 7 exA ⟨[], 0, ⟨ex10 ++ exB 1 0 0, [], 0⟩⟩)) = true := by kernel_rfl
theorem ex10_ok (w s t : Int) (hs : 0 ≤ s ∧ s < 4294967296) : ∀ p ∈ ex10, p.1.den IH (envOf [w, s, t] []) = p.2 := by
  obtain ⟨K, hK, h1, h2⟩ := exK s hs
  intro p hp
  simp only [ex10, List.mem_cons, List.not_mem_nil, or_false] at hp
  rcases hp with rfl | rfl | rfl
  · exact ex_yes (K := K) (c := 338084500) (h := 13) (by (simp only [T.den_bin, T.den_lit, T.den_var, exV, IOp.ev, crossP, alongZ, dist2, *] <;> omega)) (by (simp only [T.den_bin, T.den_lit, T.den_var, exV, IOp.ev, crossP, alongZ, dist2, *] <;> omega)) (by decide) (by (simp only [T.den_bin, T.den_lit, T.den_var, exV, IOp.ev, crossP, alongZ, dist2, *] <;> omega)) (by (simp only [T.den_bin, T.den_lit, T.den_var, exV, IOp.ev, crossP, alongZ, dist2, *] <;> omega))
  · exact B.lt_f.2 (by (simp only [T.den_bin, T.den_lit, T.den_var, exV, IOp.ev, crossP, alongZ, dist2, *] <;> omega))
  · exact ex_no (K := K) (c := 338084500) (h := 13) (by (simp only [T.den_bin, T.den_lit, T.den_var, exV, IOp.ev, crossP, alongZ, dist2, *] <;> omega)) (by (simp only [T.den_bin, T.den_lit, T.den_var, exV, IOp.ev, crossP, alongZ, dist2, *] <;> omega)) (by decide) (by omega) (by decide)
def ex11 : List (B × Bool) := [((.app 11 (.cons (.lit 1) (.cons (.lit 6000) (.cons (.lit (-2500)) (.cons (.lit (-24000000)) (.cons (.lit 10000000) (.cons (.lit 0) (.cons (.lit 0) (.cons (.bin .mul (.bin .add (.lit 1) (.bin .rem (.var 1) (.lit 100000))) (.lit 13)) (.cons (.bin .add (.bin .sub (.lit 0) (.bin .add (.bin .mul (.bin .add (.lit 1) (.bin .rem (.var 1) (.lit 100000))) (.lit 5)) (.lit 12))) (.lit 0)) (.cons (.bin .add (.bin .add (.bin .mul (.bin .sub (.lit 0) (.bin .add (.lit 1) (.bin .rem (.var 1) (.lit 100000)))) (.lit 12)) (.lit 5)) (.lit 0)) .nil))))))))))), true), ((.lt (.bin .add (.bin .add (.bin .mul (.bin .sub (.lit 0) (.bin .add (.lit 1) (.bin .rem (.var 1) (.lit 100000)))) (.lit 12)) (.lit 5)) (.lit 0)) (.bin .sub (.lit (-2500)) (.bin .mul (.bin .add (.lit 1) (.bin .rem (.var 1) (.lit 100000))) (.lit 13)))), false), ((.app 11 (.cons (.lit 1) (.cons (.lit 6000) (.cons (.lit (-2500)) (.cons (.lit (-24000000)) (.cons (.lit 10000000) (.cons (.lit 0) (.cons (.lit 0) (.cons (.bin .sub (.bin .mul (.bin .add (.lit 1) (.bin .rem (.var 1) (.lit 100000))) (.lit 13)) (.lit 1)) (.cons (.bin .add (.bin .sub (.lit 0) (.bin .add (.bin .mul (.bin .add (.lit 1) (.bin .rem (.var 1) (.lit 100000))) (.lit 5)) (.lit 12))) (.lit 0)) (.cons (.bin .add (.bin .add (.bin .mul (.bin .sub (.lit 0) (.bin .add (.lit 1) (.bin .rem (.var 1) (.lit 100000)))) (.lit 12)) (.lit 5)) (.lit 0)) .nil))))))))))), false)]
set_option maxRecDepth 1000000 in
theorem ex11_chk : leavesOk isYes (vals (execF Try.prog ctHS 20 7 exA ⟨[], 0, ⟨ex11 ++ exB 1 1 1, [], 0⟩⟩)) = true := by kernel_rfl
theorem ex11_ok (w s t : Int) (hs : 0 ≤ s ∧ s < 4294967296) : ∀ p ∈ ex11, p.1.den IH (envOf [w, s, t] []) = p.2 := by
  obtain ⟨K, hK, h1, h2⟩ := exK s hs
  intro p hp
  simp only [ex11, List.mem_cons, List.not_mem_nil, or_false] at hp
  rcases hp with rfl | rfl | rfl
  · exact ex_yes (K := K) (c := 338084500) (h := 13) (by (simp only [T.den_bin, T.den_lit, T.den_var, exV, IOp.ev, crossP, alongZ, dist2, *] <;> omega)) (by (simp only [T.den_bin, T.den_lit, T.den_var, exV, IOp.ev, crossP, alongZ, dist2, *] <;> omega)) (by decide) (by (simp only [T.den_bin, T.den_lit, T.den_var, exV, IOp.ev, crossP, alongZ, dist2, *] <;> omega)) (by (simp only [T.den_bin, T.den_lit, T.den_var, exV, IOp.ev, crossP, alongZ, dist2, *] <;> omega))
  · exact B.lt_f.2 (by (simp only [T.den_bin, T.den_lit, T.den_var, exV, IOp.ev, crossP, alongZ, dist2, *] <;> omega))
  · exact ex_no (K := K) (c := 338084500) (h := 13) (by (simp only [T.den_bin, T.den_lit, T.den_var, exV, IOp.ev, crossP, alongZ, dist2, *] <;> omega)) (by (simp only [T.den_bin, T.den_lit, T.den_var, exV, IOp.ev, crossP, alongZ, dist2, *] <;> omega)) (by decide) (by omega) (by decide)
def ex12 : List (B × Bool) := [((.app 11 (.cons (.lit 1) (.cons (.lit 2500) (.cons (.lit 6000) (.cons (.lit (-10000000)) (.cons (.lit (-24000000)) (.cons (.lit 0) (.cons (.lit 0) (.cons (.bin .mul (.bin .add (.lit 1) (.bin .rem (.var 1) (.lit 100000))) (.lit 13)) (.cons (.bin .add (.bin .sub (.lit 0) (.bin .add (.bin .mul (.bin .sub (.lit 0) (.bin .add (.lit 1) (.bin .rem (.var 1) (.lit 100000)))) (.lit 12)) (.lit 5))) (.lit 0)) (.cons (.bin .add (.bin .sub (.lit 0) (.bin .add (.bin .mul (.bin .add (.lit 1) (.bin .rem (.var 1) (.lit 100000))) (.lit 5)) (.lit 12))) (.lit 0)) .nil))))))))))), true), ((.lt (.bin .add (.lit 2500) (.bin .mul (.bin .add (.lit 1) (.bin .rem (.var 1) (.lit 100000))) (.lit 13))) (.bin .add (.bin .sub (.lit 0) (.bin .add (.bin .mul (.bin .sub (.lit 0) (.bin .add (.lit 1) (.bin .rem (.var 1) (.lit 100000)))) (.lit 12)) (.lit 5))) (.lit 0))), false), ((.app 11 (.cons (.lit 1) (.cons (.lit 2500) (.cons (.lit 6000) (.cons (.lit (-10000000)) (.cons (.lit (-24000000)) (.cons (.lit 0) (.cons (.lit 0) (.cons (.bin .sub (.bin .mul (.bin .add (.lit 1) (.bin .rem (.var 1) (.lit 100000))) (.lit 13)) (.lit 1)) (.cons (.bin .add (.bin .sub (.lit 0) (.bin .add (.bin .mul (.bin .sub (.lit 0) (.bin .add (.lit 1) (.bin .rem (.var 1) (.lit 100000)))) (.lit 12)) (.lit 5))) (.lit 0)) (.cons (.bin .add (.bin .sub (.lit 0) (.bin .add (.bin .mul (.bin .add (.lit 1) (.bin .rem (.var 1) (.lit 100000))) (.lit 5)) (.lit 12))) (.lit 0)) .nil))))))))))), false)]
set_option maxRecDepth 1000000 in
theorem ex12_chk : leavesOk isYes (vals (execF Try.prog ctHS 20 7 exA ⟨[], 0, ⟨ex12 ++ exB 1 2 2, [], 0⟩⟩)) = true := by kernel_rfl
theorem ex12_ok (w s t : Int) (hs : 0 ≤ s ∧ s < 4294967296) : ∀ p ∈ ex12, p.1.den IH (envOf [w, s, t] []) = p.2 := by
  obtain ⟨K, hK, h1, h2⟩ := exK s hs
  intro p hp
  simp only [ex12, List.mem_cons, List.not_mem_nil, or_false] at hp
  rcases hp with rfl | rfl | rfl
  · exact ex_yes (K := K) (c := 338084500) (h := 13) (by (simp only [T.den_bin, T.den_lit, T.den_var, exV, IOp.ev, crossP, alongZ, dist2, *] <;> omega)) (by (simp only [T.den_bin, T.den_lit, T.den_var, exV, IOp.ev, crossP, alongZ, dist2, *] <;> omega)) (by decide) (by (simp only [T.den_bin, T.den_lit, T.den_var, exV, IOp.ev, crossP, alongZ, dist2, *] <;> omega)) (by (simp only [T.den_bin, T.den_lit, T.den_var, exV, IOp.ev, crossP, alongZ, dist2, *] <;> omega))
  · exact B.lt_f.2 (by (simp only [T.den_bin, T.den_lit, T.den_var, exV, IOp.ev, crossP, alongZ, dist2, *] <;> omega))
  · exact ex_no (K := K) (c := 338084500) (h := 13) (by (simp only [T.den_bin, T.den_lit, T.den_var, exV, IOp.ev, crossP, alongZ, dist2, *] <;> omega)) (by (simp only [T.den_bin, T.den_lit, T.den_var, exV, IOp.ev, crossP, alongZ, dist2, *] <;> omega)) (by decide) (by omega) (by decide)
def ex13 : List (B × Bool) := [((.app 11 (.cons (.lit 1) (.cons (.lit (-6000)) (.cons (.lit 2500) (.cons (.lit 24000000) (.cons (.lit (-10000000)) (.cons (.lit 0) (.cons (.lit 0) (.cons (.bin .mul (.bin .add (.lit 1) (.bin .rem (.var 1) (.lit 100000))) (.lit 13)) (.cons (.bin .add (.bin .add (.bin .mul (.bin .add (.lit 1) (.bin .rem (.var 1) (.lit 100000))) (.lit 5)) (.lit 12)) (.lit 0)) (.cons (.bin .add (.bin .sub (.lit 0) (.bin .add (.bin .mul (.bin .sub (.lit 0) (.bin .add (.lit 1) (.bin .rem (.var 1) (.lit 100000)))) (.lit 12)) (.lit 5))) (.lit 0)) .nil))))))))))), true), ((.lt (.bin .add (.lit 2500) (.bin .mul (.bin .add (.lit 1) (.bin .rem (.var 1) (.lit 100000))) (.lit 13))) (.bin .add (.bin .sub (.lit 0) (.bin .add (.bin .mul (.bin .sub (.lit 0) (.bin .add (.lit 1) (.bin .rem (.var 1) (.lit 100000)))) (.lit 12)) (.lit 5))) (.lit 0))), false), ((.app 11 (.cons (.lit 1) (.cons (.lit (-6000)) (.cons (.lit 2500) (.cons (.lit 24000000) (.cons (.lit (-10000000)) (.cons (.lit 0) (.cons (.lit 0) (.cons (.bin .sub (.bin .mul (.bin .add (.lit 1) (.bin .rem (.var 1) (.lit 100000))) (.lit 13)) (.lit 1)) (.cons (.bin .add (.bin .add (.bin .mul (.bin .add (.lit 1) (.bin .rem (.var 1) (.lit 100000))) (.lit 5)) (.lit 12)) (.lit 0)) (.cons (.bin .add (.bin .sub (.lit 0) (.bin .add (.bin .mul (.bin .sub (.lit 0) (.bin .add (.lit 1) (.bin .rem (.var 1) (.lit 100000)))) (.lit 12)) (.lit 5))) (.lit 0)) .nil))))))))))), false)]
set_option maxRecDepth 1000000 in
theorem ex13_chk : leavesOk isYes (vals (execF Try.prog ctHS 20 7 exA ⟨[], 0, ⟨ex13 ++ exB 1 3 3, [], 0⟩⟩)) = true := by kernel_rfl
theorem ex13_ok (w s t : Int) (hs : 0 ≤ s ∧ s < 4294967296) : ∀ p ∈ ex13, p.1.den IH (envOf [w, s, t] []) = p.2 := by
  obtain ⟨K, hK, h1, h2⟩ := exK s hs
  intro p hp
  simp only [ex13, List.mem_cons, List.not_mem_nil, or_false] at hp
  rcases hp with rfl | rfl | rfl
  · exact ex_yes (K := K) (c := 338084500) (h := 13) (by (simp only [T.den_bin, T.den_lit, T.den_var, exV, IOp.ev, crossP, alongZ, dist2, *] <;> omega)) (by (simp only [T.den_bin, T.den_lit, T.den_var, exV, IOp.ev, crossP, alongZ, dist2, *] <;> omega)) (by decide) (by (simp only [T.den_bin, T.den_lit, T.den_var, exV, IOp.ev, crossP, alongZ, dist2, *] <;> omega)) (by (simp only [T.den_bin, T.den_lit, T.den_var, exV, IOp.ev, crossP, alongZ, dist2, *] <;> omega))
  · exact B.lt_f.2 (by (simp only [T.den_bin, T.den_lit, T.den_var, exV, IOp.ev, crossP, alongZ, dist2, *] <;> omega))
  · exact ex_no (K := K) (c := 338084500) (h := 13) (by (simp only [T.den_bin, T.den_lit, T.den_var, exV, IOp.ev, crossP, alongZ, dist2, *] <;> omega)) (by (simp only [T.den_bin, T.den_lit, T.den_var, exV, IOp.ev, crossP, alongZ, dist2, *] <;> omega)) (by decide) (by omega) (by decide)
def ex14 : List (B × Bool) := [((.app 11 (.cons (.lit 1) (.cons (.lit 2500) (.cons (.lit (-6000)) (.cons (.lit (-10000000)) (.cons (.lit 24000000) (.cons (.lit 0) (.cons (.lit 0) (.cons (.bin .mul (.bin .add (.lit 1) (.bin .rem (.var 1) (.lit 100000))) (.lit 13)) (.cons (.bin .add (.bin .sub (.lit 0) (.bin .add (.bin .mul (.bin .sub (.lit 0) (.bin .add (.lit 1) (.bin .rem (.var 1) (.lit 100000)))) (.lit 12)) (.lit 5))) (.lit 0)) (.cons (.bin .add (.bin .add (.bin .mul (.bin .add (.lit 1) (.bin .rem (.var 1) (.lit 100000))) (.lit 5)) (.lit 12)) (.lit 0)) .nil))))))))))), true), ((.lt (.bin .add (.lit 2500) (.bin .mul (.bin .add (.lit 1) (.bin .rem (.var 1) (.lit 100000))) (.lit 13))) (.bin .add (.bin .sub (.lit 0) (.bin .add (.bin .mul (.bin .sub (.lit 0) (.bin .add (.lit 1) (.bin .rem (.var 1) (.lit 100000)))) (.lit 12)) (.lit 5))) (.lit 0))), false), ((.app 11 (.cons (.lit 1) (.cons (.lit 2500) (.cons (.lit (-6000)) (.cons (.lit (-10000000)) (.cons (.lit 24000000) (.cons (.lit 0) (.cons (.lit 0) (.cons (.bin .sub (.bin .mul (.bin .add (.lit 1) (.bin .rem (.var 1) (.lit 100000))) (.lit 13)) (.lit 1)) (.cons (.bin .add (.bin .sub (.lit 0) (.bin .add (.bin .mul (.bin .sub (.lit 0) (.bin .add (.lit 1) (.bin .rem (.var 1) (.lit 100000)))) (.lit 12)) (.lit 5))) (.lit 0)) (.cons (.bin .add (.bin .add (.bin .mul (.bin .add (.lit 1) (.bin .rem (.var 1) (.lit 100000))) (.lit 5)) (.lit 12)) (.lit 0)) .nil))))))))))), false)]
set_option maxRecDepth 1000000 in
theorem ex14_chk : leavesOk isYes (vals (execF Try.prog ctHS 20 7 exA ⟨[], 0, ⟨ex14 ++ exB 1 0 4, [], 0⟩⟩)) = true := by kernel_rfl
theorem ex14_ok (w s t : Int) (hs : 0 ≤ s ∧ s < 4294967296) : ∀ p ∈ ex14, p.1.den IH (envOf [w, s, t] []) = p.2 := by
  obtain ⟨K, hK, h1, h2⟩ := exK s hs
  intro p hp
  simp only [ex14, List.mem_cons, List.not_mem_nil, or_false] at hp
  rcases hp with rfl | rfl | rfl
  · exact ex_yes (K := K) (c := -338084500) (h := 13) (by (simp only [T.den_bin, T.den_lit, T.den_var, exV, IOp.ev, crossP, alongZ, dist2, *] <;> omega)) (by (simp only [T.den_bin, T.den_lit, T.den_var, exV, IOp.ev, crossP, alongZ, dist2, *] <;> omega)) (by decide) (by (simp only [T.den_bin, T.den_lit, T.den_var, exV, IOp.ev, crossP, alongZ, dist2, *] <;> omega)) (by (simp only [T.den_bin, T.den_lit, T.den_var, exV, IOp.ev, crossP, alongZ, dist2, *] <;> omega))
  · exact B.lt_f.2 (by (simp only [T.den_bin, T.den_lit, T.den_var, exV, IOp.ev, crossP, alongZ, dist2, *] <;> omega))
  · exact ex_no (K := K) (c := -338084500) (h := 13) (by (simp only [T.den_bin, T.den_lit, T.den_var, exV, IOp.ev, crossP, alongZ, dist2, *] <;> omega)) (by (simp only [T.den_bin, T.den_lit, T.den_var, exV, IOp.ev, crossP, alongZ, dist2, *] <;> omega)) (by decide) (by omega) (by decide)
def ex15 : List (B × Bool) := [((.app 11 (.cons (.lit 1) (.cons (.lit 6000) (.cons (.lit 2500) (.cons (.lit (-24000000)) (.cons (.lit (-10000000)) (.cons (.lit 0) (.cons (.lit 0) (.cons (.bin .mul (.bin .add (.lit 1) (.bin .rem (.var 1) (.lit 100000))) (.lit 13)) (.cons (.bin .add (.bin .sub (.lit 0) (.bin .add (.bin .mul (.bin .add (.lit 1) (.bin .rem (.var 1) (.lit 100000))) (.lit 5)) (.lit 12))) (.lit 0)) (.cons (.bin .add (.bin .sub (.lit 0) (.bin .add (.bin .mul (.bin .sub (.lit 0) (.bin .add (.lit 1) (.bin .rem (.var 1) (.lit 100000)))) (.lit 12)) (.lit 5))) (.lit 0)) .nil))))))))))), true), ((.lt (.bin .add (.lit 2500) (.bin .mul (.bin .add (.lit 1) (.bin .rem (.var 1) (.lit 100000))) (.lit 13))) (.bin .add (.bin .sub (.lit 0) (.bin .add (.bin .mul (.bin .sub (.lit 0) (.bin .add (.lit 1) (.bin .rem (.var 1) (.lit 100000)))) (.lit 12)) (.lit 5))) (.lit 0))), false), ((.app 11 (.cons (.lit 1) (.cons (.lit 6000) (.cons (.lit 2500) (.cons (.lit (-24000000)) (.cons (.lit (-10000000)) (.cons (.lit 0) (.cons (.lit 0) (.cons (.bin .sub (.bin .mul (.bin .add (.lit 1) (.bin .rem (.var 1) (.lit 100000))) (.lit 13)) (.lit 1)) (.cons (.bin .add (.bin .sub (.lit 0) (.bin .add (.bin .mul (.bin .add (.lit 1) (.bin .rem (.var 1) (.lit 100000))) (.lit 5)) (.lit 12))) (.lit 0)) (.cons (.bin .add (.bin .sub (.lit 0) (.bin .add (.bin .mul (.bin .sub (.lit 0) (.bin .add (.lit 1) (.bin .rem (.var 1) (.lit 100000)))) (.lit 12)) (.lit 5))) (.lit 0)) .nil))))))))))), false)]
set_option maxRecDepth 1000000 in
theorem ex15_chk : leavesOk isYes (vals (execF Try.prog ctHS 20 7 exA ⟨[], 0, ⟨ex15 ++ exB 1 1 5, [], 0⟩⟩)) = true := by kernel_rfl
theorem ex15_ok (w s t : Int) (hs : 0 ≤ s ∧ s < 4294967296) : ∀ p ∈ ex15, p.1.den IH (envOf [w, s, t] []) = p.2 := by
  obtain ⟨K, hK, h1, h2⟩ := exK s hs
  intro p hp
  simp only [ex15, List.mem_cons, List.not_mem_nil, or_false] at hp
  rcases hp with rfl | rfl | rfl
  · exact ex_yes (K := K) (c := -338084500) (h := 13) (by (simp only [T.den_bin, T.den_lit, T.den_var, exV, IOp.ev, crossP, alongZ, dist2, *] <;> omega)) (by (simp only [T.den_bin, T.den_lit, T.den_var, exV, IOp.ev, crossP, alongZ, dist2, *] <;> omega)) (by decide) (by (simp only [T.den_bin, T.den_lit, T.den_var, exV, IOp.ev, crossP, alongZ, dist2, *] <;> omega)) (by (simp only [T.den_bin, T.den_lit, T.den_var, exV, IOp.ev, crossP, alongZ, dist2, *] <;> omega))
  · exact B.lt_f.2 (by (simp only [T.den_bin, T.den_lit, T.den_var, exV, IOp.ev, crossP, alongZ, dist2, *] <;> omega))
  · exact ex_no (K := K) (c := -338084500) (h := 13) (by (simp only [T.den_bin, T.den_lit, T.den_var, exV, IOp.ev, crossP, alongZ, dist2, *] <;> omega)) (by (simp only [T.den_bin, T.den_lit, T.den_var, exV, IOp.ev, crossP, alongZ, dist2, *] <;> omega)) (by decide) (by omega) (by decide)
def ex16 : List (B × Bool) := [((.app 11 (.cons (.lit 1) (.cons (.lit (-2500)) (.cons (.lit 6000) (.cons (.lit 10000000) (.cons (.lit (-24000000)) (.cons (.lit 0) (.cons (.lit 0) (.cons (.bin .mul (.bin .add (.lit 1) (.bin .rem (.var 1) (.lit 100000))) (.lit 13)) (.cons (.bin .add (.bin .sub (.lit 0) (.bin .sub (.lit 0) (.bin .add (.bin .mul (.bin .sub (.lit 0) (.bin .add (.lit 1) (.bin .rem (.var 1) (.lit 100000)))) (.lit 12)) (.lit 5)))) (.lit 0)) (.cons (.bin .add (.bin .sub (.lit 0) (.bin .add (.bin .mul (.bin .add (.lit 1) (.bin .rem (.var 1) (.lit 100000))) (.lit 5)) (.lit 12))) (.lit 0)) .nil))))))))))), true), ((.lt (.bin .add (.bin .sub (.lit 0) (.bin .sub (.lit 0) (.bin .add (.bin .mul (.bin .sub (.lit 0) (.bin .add (.lit 1) (.bin .rem (.var 1) (.lit 100000)))) (.lit 12)) (.lit 5)))) (.lit 0)) (.bin .sub (.lit (-2500)) (.bin .mul (.bin .add (.lit 1) (.bin .rem (.var 1) (.lit 100000))) (.lit 13)))), false), ((.app 11 (.cons (.lit 1) (.cons (.lit (-2500)) (.cons (.lit 6000) (.cons (.lit 10000000) (.cons (.lit (-24000000)) (.cons (.lit 0) (.cons (.lit 0) (.cons (.bin .sub (.bin .mul (.bin .add (.lit 1) (.bin .rem (.var 1) (.lit 100000))) (.lit 13)) (.lit 1)) (.cons (.bin .add (.bin .sub (.lit 0) (.bin .sub (.lit 0) (.bin .add (.bin .mul (.bin .sub (.lit 0) (.bin .add (.lit 1) (.bin .rem (.var 1) (.lit 100000)))) (.lit 12)) (.lit 5)))) (.lit 0)) (.cons (.bin .add (.bin .sub (.lit 0) (.bin .add (.bin .mul (.bin .add (.lit 1) (.bin .rem (.var 1) (.lit 100000))) (.lit 5)) (.lit 12))) (.lit 0)) .nil))))))))))), false)]
set_option maxRecDepth 1000000 in
theorem ex16_chk : leavesOk isYes (vals (execF Try.prog ctHS 20 7 exA ⟨[], 0, ⟨ex16 ++ exB 1 2 6, [], 0⟩⟩)) = true := by kernel_rfl
theorem ex16_ok (w s t : Int) (hs : 0 ≤ s ∧ s < 4294967296) : ∀ p ∈ ex16, p.1.den IH (envOf [w, s, t] []) = p.2 := by
  obtain ⟨K, hK, h1, h2⟩ := exK s hs
  intro p hp
  simp only [ex16, List.mem_cons, List.not_mem_nil, or_false] at hp
  rcases hp with rfl | rfl | rfl
  · exact ex_yes (K := K) (c := -338084500) (h := 13) (by (simp only [T.den_bin, T.den_lit, T.den_var, exV, IOp.ev, crossP, alongZ, dist2, *] <;> omega)) (by (simp only [T.den_bin, T.den_lit, T.den_var, exV, IOp.ev, crossP, alongZ, dist2, *] <;> omega)) (by decide) (by (simp only [T.den_bin, T.den_lit, T.den_var, exV, IOp.ev, crossP, alongZ, dist2, *] <;> omega)) (by (simp only [T.den_bin, T.den_lit, T.den_var, exV, IOp.ev, crossP, alongZ, dist2, *] <;> omega))
  · exact B.lt_f.2 (by (simp only [T.den_bin, T.den_lit, T.den_var, exV, IOp.ev, crossP, alongZ, dist2, *] <;> omega))
  · exact ex_no (K := K) (c := -338084500) (h := 13) (by (simp only [T.den_bin, T.den_lit, T.den_var, exV, IOp.ev, crossP, alongZ, dist2, *] <;> omega)) (by (simp only [T.den_bin, T.den_lit, T.den_var, exV, IOp.ev, crossP, alongZ, dist2, *] <;> omega)) (by decide) (by omega) (by decide)
def ex17 : List (B × Bool) := [((.app 11 (.cons (.lit 1) (.cons (.lit (-6000)) (.cons (.lit (-2500)) (.cons (.lit 24000000) (.cons (.lit 10000000) (.cons (.lit 0) (.cons (.lit 0) (.cons (.bin .mul (.bin .add (.lit 1) (.bin .rem (.var 1) (.lit 100000))) (.lit 13)) (.cons (.bin .add (.bin .add (.bin .mul (.bin .add (.lit 1) (.bin .rem (.var 1) (.lit 100000))) (.lit 5)) (.lit 12)) (.lit 0)) (.cons (.bin .add (.bin .sub (.lit 0) (.bin .sub (.lit 0) (.bin .add (.bin .mul (.bin .sub (.lit 0) (.bin .add (.lit 1) (.bin .rem (.var 1) (.lit 100000)))) (.lit 12)) (.lit 5)))) (.lit 0)) .nil))))))))))), true), ((.lt (.bin .add (.bin .sub (.lit 0) (.bin .sub (.lit 0) (.bin .add (.bin .mul (.bin .sub (.lit 0) (.bin .add (.lit 1) (.bin .rem (.var 1) (.lit 100000)))) (.lit 12)) (.lit 5)))) (.lit 0)) (.bin .sub (.lit (-2500)) (.bin .mul (.bin .add (.lit 1) (.bin .rem (.var 1) (.lit 100000))) (.lit 13)))), false), ((.app 11 (.cons (.lit 1) (.cons (.lit (-6000)) (.cons (.lit (-2500)) (.cons (.lit 24000000) (.cons (.lit 10000000) (.cons (.lit 0) (.cons (.lit 0) (.cons (.bin .sub (.bin .mul (.bin .add (.lit 1) (.bin .rem (.var 1) (.lit 100000))) (.lit 13)) (.lit 1)) (.cons (.bin .add (.bin .add (.bin .mul (.bin .add (.lit 1) (.bin .rem (.var 1) (.lit 100000))) (.lit 5)) (.lit 12)) (.lit 0)) (.cons (.bin .add (.bin .sub (.lit 0) (.bin .sub (.lit 0) (.bin .add (.bin .mul (.bin .sub (.lit 0) (.bin .add (.lit 1) (.bin .rem (.var 1) (.lit 100000)))) (.lit 12)) (.lit 5)))) (.lit 0)) .nil))))))))))), false)]
set_option maxRecDepth 1000000 in
theorem ex17_chk : leavesOk isYes (vals (execF Try.prog ctHS 20 7 exA ⟨[], 0, ⟨ex17 ++ exB 1 3 7, [], 0⟩⟩)) = true := by kernel_rfl
theorem ex17_ok (w s t : Int) (hs : 0 ≤ s ∧ s < 4294967296) : ∀ p ∈ ex17, p.1.den IH (envOf [w, s, t] []) = p.2 := by
  obtain ⟨K, hK, h1, h2⟩ := exK s hs
  intro p hp
  simp only [ex17, List.mem_cons, List.not_mem_nil, or_false] at hp
  rcases hp with rfl | rfl | rfl
  · exact ex_yes (K := K) (c := -338084500) (h := 13) (by (simp only [T.den_bin, T.den_lit, T.den_var, exV, IOp.ev, crossP, alongZ, dist2, *] <;> omega)) (by (simp only [T.den_bin, T.den_lit, T.den_var, exV, IOp.ev, crossP, alongZ, dist2, *] <;> omega)) (by decide) (by (simp only [T.den_bin, T.den_lit, T.den_var, exV, IOp.ev, crossP, alongZ, dist2, *] <;> omega)) (by (simp only [T.den_bin, T.den_lit, T.den_var, exV, IOp.ev, crossP, alongZ, dist2, *] <;> omega))
  · exact B.lt_f.2 (by (simp only [T.den_bin, T.den_lit, T.den_var, exV, IOp.ev, crossP, alongZ, dist2, *] <;> omega))
  · exact ex_no (K := K) (c := -338084500) (h := 13) (by (simp only [T.den_bin, T.den_lit, T.den_var, exV, IOp.ev, crossP, alongZ, dist2, *] <;> omega)) (by (simp only [T.den_bin, T.den_lit, T.den_var, exV, IOp.ev, crossP, alongZ, dist2, *] <;> omega)) (by decide) (by omega) (by decide)
end Go.Proofs.Ytliimpbbppbghaa.Sx
namespace Go.Proofs.Ytliimpbbppbghaa.Sx
open Go Go.RowKit
def ex20 : List (B × Bool) := [((.app 11 (.cons (.lit 1) (.cons (.lit (-4000)) (.cons (.lit (-7500)) (.cons (.lit 16000000) (.cons (.lit 30000000) (.cons (.lit 0) (.cons (.lit 0) (.cons (.bin .mul (.bin .add (.lit 1) (.bin .rem (.var 1) (.lit 100000))) (.lit 17)) (.cons (.bin .add (.bin .add (.bin .mul (.bin .sub (.lit 0) (.bin .add (.lit 1) (.bin .rem (.var 1) (.lit 100000)))) (.lit 15)) (.lit 8)) (.lit 0)) (.cons (.bin .add (.bin .add (.bin .mul (.bin .add (.lit 1) (.bin .rem (.var 1) (.lit 100000))) (.lit 8)) (.lit 15)) (.lit 0)) .nil))))))))))), true), ((.lt (.bin .add (.bin .add (.bin .mul (.bin .sub (.lit 0) (.bin .add (.lit 1) (.bin .rem (.var 1) (.lit 100000)))) (.lit 15)) (.lit 8)) (.lit 0)) (.bin .sub (.lit (-4000)) (.bin .mul (.bin .add (.lit 1) (.bin .rem (.var 1) (.lit 100000))) (.lit 17)))), false), ((.app 11 (.cons (.lit 1) (.cons (.lit (-4000)) (.cons (.lit (-7500)) (.cons (.lit 16000000) (.cons (.lit 30000000) (.cons (.lit 0) (.cons (.lit 0) (.cons (.bin .sub (.bin .mul (.bin .add (.lit 1) (.bin .rem (.var 1) (.lit 100000))) (.lit 17)) (.lit 1)) (.cons (.bin .add (.bin .add (.bin .mul (.bin .sub (.lit 0) (.bin .add (.lit 1) (.bin .rem (.var 1) (.lit 100000)))) (.lit 15)) (.lit 8)) (.lit 0)) (.cons (.bin .add (.bin .add (.bin .mul (.bin .add (.lit 1) (.bin .rem (.var 1) (.lit 100000))) (.lit 8)) (.lit 15)) (.lit 0)) .nil))))))))))), false)]
set_option maxRecDepth 1000000 in
theorem ex20_chk : leavesOk isYes (vals (execF Try.prog ctHS 20 7 exA ⟨[], 0, ⟨ex20 ++ exB 2 0 0, [], 0⟩⟩)) = true := by kernel_rfl
theorem ex20_ok (w s t : Int) (hs : 0 ≤ s ∧ s < 4294967296) : ∀ p ∈ ex20, p.1.den IH (envOf [w, s, t] []) = p.2 := by
  obtain ⟨K, hK, h1, h2⟩ := exK s hs
  intro p hp
  simp only [ex20, List.mem_cons, List.not_mem_nil, or_false] at hp
  rcases hp with rfl | rfl | rfl
  · exact ex_yes (K := K) (c := 578144500) (h := 17) (by (simp only [T.den_bin, T.den_lit, T.den_var, exV, IOp.ev, crossP, alongZ, dist2, *] <;> omega)) (by (simp only [T.den_bin, T.den_lit, T.den_var, exV, IOp.ev, crossP, alongZ, dist2, *] <;> omega)) (by decide) (by (simp only [T.den_bin, T.den_lit, T.den_var, exV, IOp.ev, crossP, alongZ, dist2, *] <;> omega)) (by (simp only [T.den_bin, T.den_lit, T.den_var, exV, IOp.ev, crossP, alongZ, dist2, *] <;> omega))
  · exact B.lt_f.2 (by (simp only [T.den_bin, T.den_lit, T.den_var, exV, IOp.ev, crossP, alongZ, dist2, *] <;> omega))
  · exact ex_no (K := K) (c := 578144500) (h := 17) (by (simp only [T.den_bin, T.den_lit, T.den_var, exV, IOp.ev, crossP, alongZ, dist2, *] <;> omega)) (by (simp only [T.den_bin, T.den_lit, T.den_var, exV, IOp.ev, crossP, alongZ, dist2, *] <;> omega)) (by decide) (by omega) (by decide)
def ex21 : List (B × Bool) := [((.app 11 (.cons (.lit 1) (.cons (.lit 7500) (.cons (.lit (-4000)) (.cons (.lit (-30000000)) (.cons (.lit 16000000) (.cons (.lit 0) (.cons (.lit 0) (.cons (.bin .mul (.bin .add (.lit 1) (.bin .rem (.var 1) (.lit 100000))) (.lit 17)) (.cons (.bin .add (.bin .sub (.lit 0) (.bin .add (.bin .mul (.bin .add (.lit 1) (.bin .rem (.var 1) (.lit 100000))) (.lit 8)) (.lit 15))) (.lit 0)) (.cons (.bin .add (.bin .add (.bin .mul (.bin .sub (.lit 0) (.bin .add (.lit 1) (.bin .rem (.var 1) (.lit 100000)))) (.lit 15)) (.lit 8)) (.lit 0)) .nil))))))))))), true), ((.lt (.bin .add (.bin .add (.bin .mul (.bin .sub (.lit 0) (.bin .add (.lit 1) (.bin .rem (.var 1) (.lit 100000)))) (.lit 15)) (.lit 8)) (.lit 0)) (.bin .sub (.lit (-4000)) (.bin .mul (.bin .add (.lit 1) (.bin .rem (.var 1) (.lit 100000))) (.lit 17)))), false), ((.app 11 (.cons (.lit 1) (.cons (.lit 7500) (.cons (.lit (-4000)) (.cons (.lit (-30000000)) (.cons (.lit 16000000) (.cons (.lit 0) (.cons (.lit 0) (.cons (.bin .sub (.bin .mul (.bin .add (.lit 1) (.bin .rem (.var 1) (.lit 100000))) (.lit 17)) (.lit 1)) (.cons (.bin .add (.bin .sub (.lit 0) (.bin .add (.bin .mul (.bin .add (.lit 1) (.bin .rem (.var 1) (.lit 100000))) (.lit 8)) (.lit 15))) (.lit 0)) (.cons (.bin .add (.bin .add (.bin .mul (.bin .sub (.lit 0) (.bin .add (.lit 1) (.bin .rem (.var 1) (.lit 100000)))) (.lit 15)) (.lit 8)) (.lit 0)) .nil))))))))))), false)]
set_option maxRecDepth 1000000 in
theorem ex21_chk : leavesOk isYes (vals (execF Try.prog ctHS 20 7 exA ⟨[], 0, ⟨ex21 ++ exB 2 1 1, [], 0⟩⟩)) = true := by kernel_rfl
theorem ex21_ok (w s t : Int) (hs : 0 ≤ s ∧ s < 4294967296) : ∀ p ∈ ex21, p.1.den IH (envOf [w, s, t] []) = p.2 := by
  obtain ⟨K, hK, h1, h2⟩ := exK s hs
  intro p hp
  simp only [ex21, List.mem_cons, List.not_mem_nil, or_false] at hp
  rcases hp with rfl | rfl | rfl
  · exact ex_yes (K := K) (c := 578144500) (h := 17) (by (simp only [T.den_bin, T.den_lit, T.den_var, exV, IOp.ev, crossP, alongZ, dist2, *] <;> omega)) (by (simp only [T.den_bin, T.den_lit, T.den_var, exV, IOp.ev, crossP, alongZ, dist2, *] <;> omega)) (by decide) (by (simp only [T.den_bin, T.den_lit, T.den_var, exV, IOp.ev, crossP, alongZ, dist2, *] <;> omega)) (by (simp only [T.den_bin, T.den_lit, T.den_var, exV, IOp.ev, crossP, alongZ, dist2, *] <;> omega))
  · exact B.lt_f.2 (by (simp only [T.den_bin, T.den_lit, T.den_var, exV, IOp.ev, crossP, alongZ, dist2, *] <;> omega))
  · exact ex_no (K := K) (c := 578144500) (h := 17) (by (simp only [T.den_bin, T.den_lit, T.den_var, exV, IOp.ev, crossP, alongZ, dist2, *] <;> omega)) (by (simp only [T.den_bin, T.den_lit, T.den_var, exV, IOp.ev, crossP, alongZ, dist2, *] <;> omega)) (by decide) (by omega) (by decide)
def ex22 : List (B × Bool) := [((.app 11 (.cons (.lit 1) (.cons (.lit 4000) (.cons (.lit 7500) (.cons (.lit (-16000000)) (.cons (.lit (-30000000)) (.cons (.lit 0) (.cons (.lit 0) (.cons (.bin .mul (.bin .add (.lit 1) (.bin .rem (.var 1) (.lit 100000))) (.lit 17)) (.cons (.bin .add (.bin .sub (.lit 0) (.bin .add (.bin .mul (.bin .sub (.lit 0) (.bin .add (.lit 1) (.bin .rem (.var 1) (.lit 100000)))) (.lit 15)) (.lit 8))) (.lit 0)) (.cons (.bin .add (.bin .sub (.lit 0) (.bin .add (.bin .mul (.bin .add (.lit 1) (.bin .rem (.var 1) (.lit 100000))) (.lit 8)) (.lit 15))) (.lit 0)) .nil))))))))))), true), ((.lt (.bin .add (.lit 4000) (.bin .mul (.bin .add (.lit 1) (.bin .rem (.var 1) (.lit 100000))) (.lit 17))) (.bin .add (.bin .sub (.lit 0) (.bin .add (.bin .mul (.bin .sub (.lit 0) (.bin .add (.lit 1) (.bin .rem (.var 1) (.lit 100000)))) (.lit 15)) (.lit 8))) (.lit 0))), false), ((.app 11 (.cons (.lit 1) (.cons (.lit 4000) (.cons (.lit 7500) (.cons (.lit (-16000000)) (.cons (.lit (-30000000)) (.cons (.lit 0) (.cons (.lit 0) (.cons (.bin .sub (.bin .mul (.bin .add (.lit 1) (.bin .rem (.var 1) (.lit 100000))) (.lit 17)) (.lit 1)) (.cons (.bin .add (.bin .sub (.lit 0) (.bin .add (.bin .mul (.bin .sub (.lit 0) (.bin .add (.lit 1) (.bin .rem (.var 1) (.lit 100000)))) (.lit 15)) (.lit 8))) (.lit 0)) (.cons (.bin .add (.bin .sub (.lit 0) (.bin .add (.bin .mul (.bin .add (.lit 1) (.bin .rem (.var 1) (.lit 100000))) (.lit 8)) (.lit 15))) (.lit 0)) .nil))))))))))), false)]
set_option maxRecDepth 1000000 in
theorem ex22_chk : leavesOk isYes (vals (execF Try.prog ctHS 20 7 exA ⟨[], 0, ⟨ex22 ++ exB 2 2 2, [], 0⟩⟩)) = true := by kernel_rfl
theorem ex22_ok (w s t : Int) (hs : 0 ≤ s ∧ s < 4294967296) : ∀ p ∈ ex22, p.1.den IH (envOf [w, s, t] []) = p.2 := by
  obtain ⟨K, hK, h1, h2⟩ := exK s hs
  intro p hp
  simp only [ex22, List.mem_cons, List.not_mem_nil, or_false] at hp
  rcases hp with rfl | rfl | rfl
  · exact ex_yes (K := K) (c := 578144500) (h := 17) (by (simp only [T.den_bin, T.den_lit, T.den_var, exV, IOp.ev, crossP, alongZ, dist2, *] <;> omega)) (by (simp only [T.den_bin, T.den_lit, T.den_var, exV, IOp.ev, crossP, alongZ, dist2, *] <;> omega)) (by decide) (by (simp only [T.den_bin, T.den_lit, T.den_var, exV, IOp.ev, crossP, alongZ, dist2, *] <;> omega)) (by (simp only [T.den_bin, T.den_lit, T.den_var, exV, IOp.ev, crossP, alongZ, dist2, *] <;> omega))
  · exact B.lt_f.2 (by (simp only [T.den_bin, T.den_lit, T.den_var, exV, IOp.ev, crossP, alongZ, dist2, *] <;> omega))
  · exact ex_no (K := K) (c := 578144500) (h := 17) (by (simp only [T.den_bin, T.den_lit, T.den_var, exV, IOp.ev, crossP, alongZ, dist2, *] <;> omega)) (by (simp only [T.den_bin, T.den_lit, T.den_var, exV, IOp.ev, crossP, alongZ, dist2, *] <;> omega)) (by decide) (by omega) (by decide)
def ex23 : List (B × Bool) := [((.app 11 (.cons (.lit 1) (.cons (.lit (-7500)) (.cons (.lit 4000) (.cons (.lit 30000000) (.cons (.lit (-16000000)) (.cons (.lit 0) (.cons (.lit 0) (.cons (.bin .mul (.bin .add (.lit 1) (.bin .rem (.var 1) (.lit 100000))) (.lit 17)) (.cons (.bin .add (.bin .add (.bin .mul (.bin .add (.lit 1) (.bin .rem (.var 1) (.lit 100000))) (.lit 8)) (.lit 15)) (.lit 0)) (.cons (.bin .add (.bin .sub (.lit 0) (.bin .add (.bin .mul (.bin .sub (.lit 0) (.bin .add (.lit 1) (.bin .rem (.var 1) (.lit 100000)))) (.lit 15)) (.lit 8))) (.lit 0)) .nil))))))))))), true), ((.lt (.bin .add (.lit 4000) (.bin .mul (.bin .add (.lit 1) (.bin .rem (.var 1) (.lit 100000))) (.lit 17))) (.bin .add (.bin .sub (.lit 0) (.bin .add (.bin .mul (.bin .sub (.lit 0) (.bin .add (.lit 1) (.bin .rem (.var 1) (.lit 100000)))) (.lit 15)) (.lit 8))) (.lit 0))), false), ((.app 11 (.cons (.lit 1) (.cons (.lit (-7500)) (.cons (.lit 4000) (.cons (.lit 30000000) (.cons (.lit (-16000000)) (.cons (.lit 0) (.cons (.lit 0) (.cons (.bin .sub (.bin .mul (.bin .add (.lit 1) (.bin .rem (.var 1) (.lit 100000))) (.lit 17)) (.lit 1)) (.cons (.bin .add (.bin .add (.bin .mul (.bin .add (.lit 1) (.bin .rem (.var 1) (.lit 100000))) (.lit 8)) (.lit 15)) (.lit 0)) (.cons (.bin .add (.bin .sub (.lit 0) (.bin .add (.bin .mul (.bin .sub (.lit 0) (.bin .add (.lit 1) (.bin .rem (.var 1) (.lit 100000)))) (.lit 15)) (.lit 8))) (.lit 0)) .nil))))))))))), false)]
set_option maxRecDepth 1000000 in
theorem ex23_chk : leavesOk isYes (vals (execF Try.prog ctHS 20 7 exA ⟨[], 0, ⟨ex23 ++ exB 2 3 3, [], 0⟩⟩)) = true := by kernel_rfl
theorem ex23_ok (w s t : Int) (hs : 0 ≤ s ∧ s < 4294967296) : ∀ p ∈ ex23, p.1.den IH (envOf [w, s, t] []) = p.2 := by
  obtain ⟨K, hK, h1, h2⟩ := exK s hs
  intro p hp
  simp only [ex23, List.mem_cons, List.not_mem_nil, or_false] at hp
  rcases hp with rfl | rfl | rfl
  · exact ex_yes (K := K) (c := 578144500) (h := 17) (by (simp only [T.den_bin, T.den_lit, T.den_var, exV, IOp.ev, crossP, alongZ, dist2, *] <;> omega)) (by (simp only [T.den_bin, T.den_lit, T.den_var, exV, IOp.ev, crossP, alongZ, dist2, *] <;> omega)) (by decide) (by (simp only [T.den_bin, T.den_lit, T.den_var, exV, IOp.ev, crossP, alongZ, dist2, *] <;> omega)) (by (simp only [T.den_bin, T.den_lit, T.den_var, exV, IOp.ev, crossP, alongZ, dist2, *] <;> omega))
  · exact B.lt_f.2 (by (simp only [T.den_bin, T.den_lit, T.den_var, exV, IOp.ev, crossP, alongZ, dist2, *] <;> omega))
  · exact ex_no (K := K) (c := 578144500) (h := 17) (by (simp only [T.den_bin, T.den_lit, T.den_var, exV, IOp.ev, crossP, alongZ, dist2, *] <;> omega)) (by (simp only [T.den_bin, T.den_lit, T.den_var, exV, IOp.ev, crossP, alongZ, dist2, *] <;> omega)) (by decide) (by omega) (by decide)
def ex24 : List (B × Bool) := [((.app 11 (.cons (.lit 1) (.cons (.lit 4000) (.cons (.lit (-7500)) (.cons (.lit (-16000000)) (.cons (.lit 30000000) (.cons (.lit 0) (.cons (.lit 0) (.cons (.bin .mul (.bin .add (.lit 1) (.bin .rem (.var 1) (.lit 100000))) (.lit 17)) (.cons (.bin .add (.bin .sub (.lit 0) (.bin .add (.bin .mul (.bin .sub (.lit 0) (.bin .add (.lit 1) (.bin .rem (.var 1) (.lit 100000)))) (.lit 15)) (.lit 8))) (.lit 0)) (.cons (.bin .add (.bin .add (.bin .mul (.bin .add (.lit 1) (.bin .rem (.var 1) (.lit 100000))) (.lit 8)) (.lit 15)) (.lit 0)) .nil))))))))))), true), ((.lt (.bin .add (.lit 4000) (.bin .mul (.bin .add (.lit 1) (.bin .rem (.var 1) (.lit 100000))) (.lit 17))) (.bin .add (.bin .sub (.lit 0) (.bin .add (.bin .mul (.bin .sub (.lit 0) (.bin .add (.lit 1) (.bin .rem (.var 1) (.lit 100000)))) (.lit 15)) (.lit 8))) (.lit 0))), false), ((.app 11 (.cons (.lit 1) (.cons (.lit 4000) (.cons (.lit (-7500)) (.cons (.lit (-16000000)) (.cons (.lit 30000000) (.cons (.lit 0) (.cons (.lit 0) (.cons (.bin .sub (.bin .mul (.bin .add (.lit 1) (.bin .rem (.var 1) (.lit 100000))) (.lit 17)) (.lit 1)) (.cons (.bin .add (.bin .sub (.lit 0) (.bin .add (.bin .mul (.bin .sub (.lit 0) (.bin .add (.lit 1) (.bin .rem (.var 1) (.lit 100000)))) (.lit 15)) (.lit 8))) (.lit 0)) (.cons (.bin .add (.bin .add (.bin .mul (.bin .add (.lit 1) (.bin .rem (.var 1) (.lit 100000))) (.lit 8)) (.lit 15)) (.lit 0)) .nil))))))))))), false)]
set_option maxRecDepth 1000000 in
theorem ex24_chk : leavesOk isYes (vals (execF Try.prog ctHS 20 7 exA ⟨[], 0, ⟨ex24 ++ exB 2 0 4, [], 0⟩⟩)) = true := by kernel_rfl
theorem ex24_ok (w s t : Int) (hs : 0 ≤ s ∧ s < 4294967296) : ∀ p ∈ ex24, p.1.den IH (envOf [w, s, t] []) = p.2 := by
  obtain ⟨K, hK, h1, h2⟩ := exK s hs
  intro p hp
  simp only [ex24, List.mem_cons, List.not_mem_nil, or_false] at hp
  rcases hp with rfl | rfl | rfl
  · exact ex_yes (K := K) (c := -578144500) (h := 17) (by (simp only [T.den_bin, T.den_lit, T.den_var, exV, IOp.ev, crossP, alongZ, dist2, *] <;> omega)) (by (simp only [T.den_bin, T.den_lit, T.den_var, exV, IOp.ev, crossP, alongZ, dist2, *] <;> omega)) (by decide) (by (simp only [T.den_bin, T.den_lit, T.den_var, exV, IOp.ev, crossP, alongZ, dist2, *] <;> omega)) (by (simp only [T.den_bin, T.den_lit, T.den_var, exV, IOp.ev, crossP, alongZ, dist2, *] <;> omega))
  · exact B.lt_f.2 (by (simp only [T.den_bin, T.den_lit, T.den_var, exV, IOp.ev, crossP, alongZ, dist2, *] <;> omega))
  · exact ex_no (K := K) (c := -578144500) (h := 17) (by (simp only [T.den_bin, T.den_lit, T.den_var, exV, IOp.ev, crossP, alongZ, dist2, *] <;> omega)) (by (simp only [T.den_bin, T.den_lit, T.den_var, exV, IOp.ev, crossP, alongZ, dist2, *] <;> omega)) (by decide) (by omega) (by decide)
def ex25 : List (B × Bool) := [((.app 11 (.cons (.lit 1) (.cons (.lit 7500) (.cons (.lit 4000) (.cons (.lit (-30000000)) (.cons (.lit (-16000000)) (.cons (.lit 0) (.cons (.lit 0) (.cons (.bin .mul (.bin .add (.lit 1) (.bin .rem (.var 1) (.lit 100000))) (.lit 17)) (.cons (.bin .add (.bin .sub (.lit 0) (.bin .add (.bin .mul (.bin .add (.lit 1) (.bin .rem (.var 1) (.lit 100000))) (.lit 8)) (.lit 15))) (.lit 0)) (.cons (.bin .add (.bin .sub (.lit 0) (.bin .add (.bin .mul (.bin .sub (.lit 0) (.bin .add (.lit 1) (.bin .rem (.var 1) (.lit 100000)))) (.lit 15)) (.lit 8))) (.lit 0)) .nil))))))))))), true), ((.lt (.bin .add (.lit 4000) (.bin .mul (.bin .add (.lit 1) (.bin .rem (.var 1) (.lit 100000))) (.lit 17))) (.bin .add (.bin .sub (.lit 0) (.bin .add (.bin .mul (.bin .sub (.lit 0) (.bin .add (.lit 1) (.bin .rem (.var 1) (.lit 100000)))) (.lit 15)) (.lit 8))) (.lit 0))), false), ((.app 11 (.cons (.lit 1) (.cons (.lit 7500) (.cons (.lit 4000) (.cons (.lit (-30000000)) (.cons (.lit (-16000000)) (.cons (.lit 0) (.cons (.lit 0) (.cons (.bin .sub (.bin .mul (.bin .add (.lit 1) (.bin .rem (.var 1) (.lit 100000))) (.lit 17)) (.lit 1)) (.cons (.bin .add (.bin .sub (.lit 0) (.bin .add (.bin .mul (.bin .add (.lit 1) (.bin .rem (.var 1) (.lit 100000))) (.lit 8)) (.lit 15))) (.lit 0)) (.cons (.bin .add (.bin .sub (.lit 0) (.bin .add (.bin .mul (.bin .sub (.lit 0) (.bin .add (.lit 1) (.bin .rem (.var 1) (.lit 100000)))) (.lit 15)) (.lit 8))) (.lit 0)) .nil))))))))))), false)]
set_option maxRecDepth 1000000 in
theorem ex25_chk : leavesOk isYes (vals (execF Try.prog ctHS 20 7 exA ⟨[], 0, ⟨ex25 ++ exB 2 1 5, [], 0⟩⟩)) = true := by kernel_rfl
theorem ex25_ok (w s t : Int) (hs : 0 ≤ s ∧ s < 4294967296) : ∀ p ∈ ex25, p.1.den IH (envOf [w, s, t] []) = p.2 := by
  obtain ⟨K, hK, h1, h2⟩ := exK s hs
  intro p hp
  simp only [ex25, List.mem_cons, List.not_mem_nil, or_false] at hp
  rcases hp with rfl | rfl | rfl
  · exact ex_yes (K := K) (c := -578144500) (h := 17) (by (simp only [T.den_bin, T.den_lit, T.den_var, exV, IOp.ev, crossP, alongZ, dist2, *] <;> omega)) (by (simp only [T.den_bin, T.den_lit, T.den_var, exV, IOp.ev, crossP, alongZ, dist2, *] <;> omega)) (by decide) (by (simp only [T.den_bin, T.den_lit, T.den_var, exV, IOp.ev, crossP, alongZ, dist2, *] <;> omega)) (by (simp only [T.den_bin, T.den_lit, T.den_var, exV, IOp.ev, crossP, alongZ, dist2, *] <;> omega))
  · exact B.lt_f.2 (by (simp only [T.den_bin, T.den_lit, T.den_var, exV, IOp.ev, crossP, alongZ, dist2, *] <;> omega))
  · exact ex_no (K := K) (c := -578144500) (h := 17) (by (simp only [T.den_bin, T.den_lit, T.den_var, exV, IOp.ev, crossP, alongZ, dist2, *] <;> omega)) (by (simp only [T.den_bin, T.den_lit, T.den_var, exV, IOp.ev, crossP, alongZ, dist2, *] <;> omega)) (by decide) (by omega) (by decide)
def ex26 : List (B × Bool) := [((.app 11 (.cons (.lit 1) (.cons (.lit (-4000)) (.cons (.lit 7500) (.cons (.lit 16000000) (.cons (.lit (-30000000)) (.cons (.lit 0) (.cons (.lit 0) (.cons (.bin .mul (.bin .add (.lit 1) (.bin .rem (.var 1) (.lit 100000))) (.lit 17)) (.cons (.bin .add (.bin .sub (.lit 0) (.bin .sub (.lit 0) (.bin .add (.bin .mul (.bin .sub (.lit 0) (.bin .add (.lit 1) (.bin .rem (.var 1) (.lit 100000)))) (.lit 15)) (.lit 8)))) (.lit 0)) (.cons (.bin .add (.bin .sub (.lit 0) (.bin .add (.bin .mul (.bin .add (.lit 1) (.bin .rem (.var 1) (.lit 100000))) (.lit 8)) (.lit 15))) (.lit 0)) .nil))))))))))), true), ((.lt (.bin .add (.bin .sub (.lit 0) (.bin .sub (.lit 0) (.bin .add (.bin .mul (.bin .sub (.lit 0) (.bin .add (.lit 1) (.bin .rem (.var 1) (.lit 100000)))) (.lit 15)) (.lit 8)))) (.lit 0)) (.bin .sub (.lit (-4000)) (.bin .mul (.bin .add (.lit 1) (.bin .rem (.var 1) (.lit 100000))) (.lit 17)))), false), ((.app 11 (.cons (.lit 1) (.cons (.lit (-4000)) (.cons (.lit 7500) (.cons (.lit 16000000) (.cons (.lit (-30000000)) (.cons (.lit 0) (.cons (.lit 0) (.cons (.bin .sub (.bin .mul (.bin .add (.lit 1) (.bin .rem (.var 1) (.lit 100000))) (.lit 17)) (.lit 1)) (.cons (.bin .add (.bin .sub (.lit 0) (.bin .sub (.lit 0) (.bin .add (.bin .mul (.bin .sub (.lit 0) (.bin .add (.lit 1) (.bin .rem (.var 1) (.lit 100000)))) (.lit 15)) (.lit 8)))) (.lit 0)) (.cons (.bin .add (.bin .sub (.lit 0) (.bin .add (.bin .mul (.bin .add (.lit 1) (.bin .rem (.var 1) (.lit 100000))) (.lit 8)) (.lit 15))) (.lit 0)) .nil))))))))))), false)]
set_option maxRecDepth 1000000 in
theorem ex26_chk : leavesOk isYes (vals (execF Try.prog ctHS 20 7 exA ⟨[], 0, ⟨ex26 ++ exB 2 2 6, [], 0⟩⟩)) = true := by kernel_rfl
theorem ex26_ok (w s t : Int) (hs : 0 ≤ s ∧ s < 4294967296) : ∀ p ∈ ex26, p.1.den IH (envOf [w, s, t] []) = p.2 := by
  obtain ⟨K, hK, h1, h2⟩ := exK s hs
  intro p hp
  simp only [ex26, List.mem_cons, List.not_mem_nil, or_false] at hp
  rcases hp with rfl | rfl | rfl
  · exact ex_yes (K := K) (c := -578144500) (h := 17) (by (simp only [T.den_bin, T.den_lit, T.den_var, exV, IOp.ev, crossP, alongZ, dist2, *] <;> omega)) (by (simp only [T.den_bin, T.den_lit, T.den_var, exV, IOp.ev, crossP, alongZ, dist2, *] <;> omega)) (by decide) (by (simp only [T.den_bin, T.den_lit, T.den_var, exV, IOp.ev, crossP, alongZ, dist2, *] <;> omega)) (by (simp only [T.den_bin, T.den_lit, T.den_var, exV, IOp.ev, crossP, alongZ, dist2, *] <;> omega))
  · exact B.lt_f.2 (by (simp only [T.den_bin, T.den_lit, T.den_var, exV, IOp.ev, crossP, alongZ, dist2, *] <;> omega))
  · exact ex_no (K := K) (c := -578144500) (h := 17) (by (simp only [T.den_bin, T.den_lit, T.den_var, exV, IOp.ev, crossP, alongZ, dist2, *] <;> omega)) (by (simp only [T.den_bin, T.den_lit, T.den_var, exV, IOp.ev, crossP, alongZ, dist2, *] <;> omega)) (by decide) (by omega) (by decide)
def ex27 : List (B × Bool) := [((.app 11 (.cons (.lit 1) (.cons (.lit (-7500)) (.cons (.lit (-4000)) (.cons (.lit 30000000) (.cons (.lit 16000000) (.cons (.lit 0) (.cons (.lit 0) (.cons (.bin .mul (.bin .add (.lit 1) (.bin .rem (.var 1) (.lit 100000))) (.lit 17)) (.cons (.bin .add (.bin .add (.bin .mul (.bin .add (.lit 1) (.bin .rem (.var 1) (.lit 100000))) (.lit 8)) (.lit 15)) (.lit 0)) (.cons (.bin .add (.bin .sub (.lit 0) (.bin .sub (.lit 0) (.bin .add (.bin .mul (.bin .sub (.lit 0) (.bin .add (.lit 1) (.bin .rem (.var 1) (.lit 100000)))) (.lit 15)) (.lit 8)))) (.lit 0)) .nil))))))))))), true), ((.lt (.bin .add (.bin .sub (.lit 0) (.bin .sub (.lit 0) (.bin .add (.bin .mul (.bin .sub (.lit 0) (.bin .add (.lit 1) (.bin .rem (.var 1) (.lit 100000)))) (.lit 15)) (.lit 8)))) (.lit 0)) (.bin .sub (.lit (-4000)) (.bin .mul (.bin .add (.lit 1) (.bin .rem (.var 1) (.lit 100000))) (.lit 17)))), false), ((.app 11 (.cons (.lit 1) (.cons (.lit (-7500)) (.cons (.lit (-4000)) (.cons (.lit 30000000) (.cons (.lit 16000000) (.cons (.lit 0) (.cons (.lit 0) (.cons (.bin .sub (.bin .mul (.bin .add (.lit 1) (.bin .rem (.var 1) (.lit 100000))) (.lit 17)) (.lit 1)) (.cons (.bin .add (.bin .add (.bin .mul (.bin .add (.lit 1) (.bin .rem (.var 1) (.lit 100000))) (.lit 8)) (.lit 15)) (.lit 0)) (.cons (.bin .add (.bin .sub (.lit 0) (.bin .sub (.lit 0) (.bin .add (.bin .mul (.bin .sub (.lit 0) (.bin .add (.lit 1) (.bin .rem (.var 1) (.lit 100000)))) (.lit 15)) (.lit 8)))) (.lit 0)) .nil))))))))))), false)]
set_option maxRecDepth 1000000 in
theorem ex27_chk : leavesOk isYes (vals (execF Try.prog ctHS 20 7 exA ⟨[], 0, ⟨ex27 ++ exB 2 3 7, [], 0⟩⟩)) = true := by kernel_rfl
theorem ex27_ok (w s t : Int) (hs : 0 ≤ s ∧ s < 4294967296) : ∀ p ∈ ex27, p.1.den IH (envOf [w, s, t] []) = p.2 := by
  obtain ⟨K, hK, h1, h2⟩ := exK s hs
  intro p hp
  simp only [ex27, List.mem_cons, List.not_mem_nil, or_false] at hp
  rcases hp with rfl | rfl | rfl
  · exact ex_yes (K := K) (c := -578144500) (h := 17) (by (simp only [T.den_bin, T.den_lit, T.den_var, exV, IOp.ev, crossP, alongZ, dist2, *] <;> omega)) (by (simp only [T.den_bin, T.den_lit, T.den_var, exV, IOp.ev, crossP, alongZ, dist2, *] <;> omega)) (by decide) (by (simp only [T.den_bin, T.den_lit, T.den_var, exV, IOp.ev, crossP, alongZ, dist2, *] <;> omega)) (by (simp only [T.den_bin, T.den_lit, T.den_var, exV, IOp.ev, crossP, alongZ, dist2, *] <;> omega))
  · exact B.lt_f.2 (by (simp only [T.den_bin, T.den_lit, T.den_var, exV, IOp.ev, crossP, alongZ, dist2, *] <;> omega))
  · exact ex_no (K := K) (c := -578144500) (h := 17) (by (simp only [T.den_bin, T.den_lit, T.den_var, exV, IOp.ev, crossP, alongZ, dist2, *] <;> omega)) (by (simp only [T.den_bin, T.den_lit, T.den_var, exV, IOp.ev, crossP, alongZ, dist2, *] <;> omega)) (by decide) (by omega) (by decide)
end Go.Proofs.Ytliimpbbppbghaa.Sx
namespace Go.Proofs.Ytliimpbbppbghaa.Sx
open Go Go.RowKit
def ex30 : List (B × Bool) := [((.app 11 (.cons (.lit 1) (.cons (.lit (-3500)) (.cons (.lit (-12000)) (.cons (.lit 14000000) (.cons (.lit 48000000) (.cons (.lit 0) (.cons (.lit 0) (.cons (.bin .mul (.bin .add (.lit 1) (.bin .rem (.var 1) (.lit 100000))) (.lit 25)) (.cons (.bin .add (.bin .add (.bin .mul (.bin .sub (.lit 0) (.bin .add (.lit 1) (.bin .rem (.var 1) (.lit 100000)))) (.lit 24)) (.lit 7)) (.lit 0)) (.cons (.bin .add (.bin .add (.bin .mul (.bin .add (.lit 1) (.bin .rem (.var 1) (.lit 100000))) (.lit 7)) (.lit 24)) (.lit 0)) .nil))))))))))), true), ((.lt (.bin .add (.bin .add (.bin .mul (.bin .sub (.lit 0) (.bin .add (.lit 1) (.bin .rem (.var 1) (.lit 100000)))) (.lit 24)) (.lit 7)) (.lit 0)) (.bin .sub (.lit (-3500)) (.bin .mul (.bin .add (.lit 1) (.bin .rem (.var 1) (.lit 100000))) (.lit 25)))), false), ((.app 11 (.cons (.lit 1) (.cons (.lit (-3500)) (.cons (.lit (-12000)) (.cons (.lit 14000000) (.cons (.lit 48000000) (.cons (.lit 0) (.cons (.lit 0) (.cons (.bin .sub (.bin .mul (.bin .add (.lit 1) (.bin .rem (.var 1) (.lit 100000))) (.lit 25)) (.lit 1)) (.cons (.bin .add (.bin .add (.bin .mul (.bin .sub (.lit 0) (.bin .add (.lit 1) (.bin .rem (.var 1) (.lit 100000)))) (.lit 24)) (.lit 7)) (.lit 0)) (.cons (.bin .add (.bin .add (.bin .mul (.bin .add (.lit 1) (.bin .rem (.var 1) (.lit 100000))) (.lit 7)) (.lit 24)) (.lit 0)) .nil))))))))))), false)]
set_option maxRecDepth 1000000 in
theorem ex30_chk : leavesOk isYes (vals (execF Try.prog ctHS 20 7 exA ⟨[], 0, ⟨ex30 ++ exB 3 0 0, [], 0⟩⟩)) = true := by kernel_rfl
theorem ex30_ok (w s t : Int) (hs : 0 ≤ s ∧ s < 4294967296) : ∀ p ∈ ex30, p.1.den IH (envOf [w, s, t] []) = p.2 := by
  obtain ⟨K, hK, h1, h2⟩ := exK s hs
  intro p hp
  simp only [ex30, List.mem_cons, List.not_mem_nil, or_false] at hp
  rcases hp with rfl | rfl | rfl
  · exact ex_yes (K := K) (c := 1250312500) (h := 25) (by (simp only [T.den_bin, T.den_lit, T.den_var, exV, IOp.ev, crossP, alongZ, dist2, *] <;> omega)) (by (simp only [T.den_bin, T.den_lit, T.den_var, exV, IOp.ev, crossP, alongZ, dist2, *] <;> omega)) (by decide) (by (simp only [T.den_bin, T.den_lit, T.den_var, exV, IOp.ev, crossP, alongZ, dist2, *] <;> omega)) (by (simp only [T.den_bin, T.den_lit, T.den_var, exV, IOp.ev, crossP, alongZ, dist2, *] <;> omega))
  · exact B.lt_f.2 (by (simp only [T.den_bin, T.den_lit, T.den_var, exV, IOp.ev, crossP, alongZ, dist2, *] <;> omega))
  · exact ex_no (K := K) (c := 1250312500) (h := 25) (by (simp only [T.den_bin, T.den_lit, T.den_var, exV, IOp.ev, crossP, alongZ, dist2, *] <;> omega)) (by (simp only [T.den_bin, T.den_lit, T.den_var, exV, IOp.ev, crossP, alongZ, dist2, *] <;> omega)) (by decide) (by omega) (by decide)
def ex31 : List (B × Bool) := [((.app 11 (.cons (.lit 1) (.cons (.lit 12000) (.cons (.lit (-3500)) (.cons (.lit (-48000000)) (.cons (.lit 14000000) (.cons (.lit 0) (.cons (.lit 0) (.cons (.bin .mul (.bin .add (.lit 1) (.bin .rem (.var 1) (.lit 100000))) (.lit 25)) (.cons (.bin .add (.bin .sub (.lit 0) (.bin .add (.bin .mul (.bin .add (.lit 1) (.bin .rem (.var 1) (.lit 100000))) (.lit 7)) (.lit 24))) (.lit 0)) (.cons (.bin .add (.bin .add (.bin .mul (.bin .sub (.lit 0) (.bin .add (.lit 1) (.bin .rem (.var 1) (.lit 100000)))) (.lit 24)) (.lit 7)) (.lit 0)) .nil))))))))))), true), ((.lt (.bin .add (.bin .add (.bin .mul (.bin .sub (.lit 0) (.bin .add (.lit 1) (.bin .rem (.var 1) (.lit 100000)))) (.lit 24)) (.lit 7)) (.lit 0)) (.bin .sub (.lit (-3500)) (.bin .mul (.bin .add (.lit 1) (.bin .rem (.var 1) (.lit 100000))) (.lit 25)))), false), ((.app 11 (.cons (.lit 1) (.cons (.lit 12000) (.cons (.lit (-3500)) (.cons (.lit (-48000000)) (.cons (.lit 14000000) (.cons (.lit 0) (.cons (.lit 0) (.cons (.bin .sub (.bin .mul (.bin .add (.lit 1) (.bin .rem (.var 1) (.lit 100000))) (.lit 25)) (.lit 1)) (.cons (.bin .add (.bin .sub (.lit 0) (.bin .add (.bin .mul (.bin .add (.lit 1) (.bin .rem (.var 1) (.lit 100000))) (.lit 7)) (.lit 24))) (.lit 0)) (.cons (.bin .add (.bin .add (.bin .mul (.bin .sub (.lit 0) (.bin .add (.lit 1) (.bin .rem (.var 1) (.lit 100000)))) (.lit 24)) (.lit 7)) (.lit 0)) .nil))))))))))), false)]
set_option maxRecDepth 1000000 in
theorem ex31_chk : leavesOk isYes (vals (execF Try.prog ctHS 20 7 exA ⟨[], 0, ⟨ex31 ++ exB 3 1 1, [], 0⟩⟩)) = true := by kernel_rfl
theorem ex31_ok (w s t : Int) (hs : 0 ≤ s ∧ s < 4294967296) : ∀ p ∈ ex31, p.1.den IH (envOf [w, s, t] []) = p.2 := by
  obtain ⟨K, hK, h1, h2⟩ := exK s hs
  intro p hp
  simp only [ex31, List.mem_cons, List.not_mem_nil, or_false] at hp
  rcases hp with rfl | rfl | rfl
  · exact ex_yes (K := K) (c := 1250312500) (h := 25) (by (simp only [T.den_bin, T.den_lit, T.den_var, exV, IOp.ev, crossP, alongZ, dist2, *] <;> omega)) (by (simp only [T.den_bin, T.den_lit, T.den_var, exV, IOp.ev, crossP, alongZ, dist2, *] <;> omega)) (by decide) (by (simp only [T.den_bin, T.den_lit, T.den_var, exV, IOp.ev, crossP, alongZ, dist2, *] <;> omega)) (by (simp only [T.den_bin, T.den_lit, T.den_var, exV, IOp.ev, crossP, alongZ, dist2, *] <;> omega))
  · exact B.lt_f.2 (by (simp only [T.den_bin, T.den_lit, T.den_var, exV, IOp.ev, crossP, alongZ, dist2, *] <;> omega))
  · exact ex_no (K := K) (c := 1250312500) (h := 25) (by (simp only [T.den_bin, T.den_lit, T.den_var, exV, IOp.ev, crossP, alongZ, dist2, *] <;> omega)) (by (simp only [T.den_bin, T.den_lit, T.den_var, exV, IOp.ev, crossP, alongZ, dist2, *] <;> omega)) (by decide) (by omega) (by decide)
def ex32 : List (B × Bool) := [((.app 11 (.cons (.lit 1) (.cons (.lit 3500) (.cons (.lit 12000) (.cons (.lit (-14000000)) (.cons (.lit (-48000000)) (.cons (.lit 0) (.cons (.lit 0) (.cons (.bin .mul (.bin .add (.lit 1) (.bin .rem (.var 1) (.lit 100000))) (.lit 25)) (.cons (.bin .add (.bin .sub (.lit 0) (.bin .add (.bin .mul (.bin .sub (.lit 0) (.bin .add (.lit 1) (.bin .rem (.var 1) (.lit 100000)))) (.lit 24)) (.lit 7))) (.lit 0)) (.cons (.bin .add (.bin .sub (.lit 0) (.bin .add (.bin .mul (.bin .add (.lit 1) (.bin .rem (.var 1) (.lit 100000))) (.lit 7)) (.lit 24))) (.lit 0)) .nil))))))))))), true), ((.lt (.bin .add (.lit 3500) (.bin .mul (.bin .add (.lit 1) (.bin .rem (.var 1) (.lit 100000))) (.lit 25))) (.bin .add (.bin .sub (.lit 0) (.bin .add (.bin .mul (.bin .sub (.lit 0) (.bin .add (.lit 1) (.bin .rem (.var 1) (.lit 100000)))) (.lit 24)) (.lit 7))) (.lit 0))), false), ((.app 11 (.cons (.lit 1) (.cons (.lit 3500) (.cons (.lit 12000) (.cons (.lit (-14000000)) (.cons (.lit (-48000000)) (.cons (.lit 0) (.cons (.lit 0) (.cons (.bin .sub (.bin .mul (.bin .add (.lit 1) (.bin .rem (.var 1) (.lit 100000))) (.lit 25)) (.lit 1)) (.cons (.bin .add (.bin .sub (.lit 0) (.bin .add (.bin .mul (.bin .sub (.lit 0) (.bin .add (.lit 1) (.bin .rem (.var 1) (.lit 100000)))) (.lit 24)) (.lit 7))) (.lit 0)) (.cons (.bin .add (.bin .sub (.lit 0) (.bin .add (.bin .mul (.bin .add (.lit 1) (.bin .rem (.var 1) (.lit 100000))) (.lit 7)) (.lit 24))) (.lit 0)) .nil))))))))))), false)]
set_option maxRecDepth 1000000 in
theorem ex32_chk : leavesOk isYes (vals (execF Try.prog ctHS 20 7 exA ⟨[], 0, ⟨ex32 ++ exB 3 2 2, [], 0⟩⟩)) = true := by kernel_rfl
theorem ex32_ok (w s t : Int) (hs : 0 ≤ s ∧ s < 4294967296) : ∀ p ∈ ex32, p.1.den IH (envOf [w, s, t] []) = p.2 := by
  obtain ⟨K, hK, h1, h2⟩ := exK s hs
  intro p hp
  simp only [ex32, List.mem_cons, List.not_mem_nil, or_false] at hp
  rcases hp with rfl | rfl | rfl
  · exact ex_yes (K := K) (c := 1250312500) (h := 25) (by (simp only [T.den_bin, T.den_lit, T.den_var, exV, IOp.ev, crossP, alongZ, dist2, *] <;> omega)) (by (simp only [T.den_bin, T.den_lit, T.den_var, exV, IOp.ev, crossP, alongZ, dist2, *] <;> omega)) (by decide) (by (simp only [T.den_bin, T.den_lit, T.den_var, exV, IOp.ev, crossP, alongZ, dist2, *] <;> omega)) (by (simp only [T.den_bin, T.den_lit, T.den_var, exV, IOp.ev, crossP, alongZ, dist2, *] <;> omega))
  · exact B.lt_f.2 (by (simp only [T.den_bin, T.den_lit, T.den_var, exV, IOp.ev, crossP, alongZ, dist2, *] <;> omega))
  · exact ex_no (K := K) (c := 1250312500) (h := 25) (by (simp only [T.den_bin, T.den_lit, T.den_var, exV, IOp.ev, crossP, alongZ, dist2, *] <;> omega)) (by (simp only [T.den_bin, T.den_lit, T.den_var, exV, IOp.ev, crossP, alongZ, dist2, *] <;> omega)) (by decide) (by omega) (by decide)
def ex33 : List (B × Bool) := [((.app 11 (.cons (.lit 1) (.cons (.lit (-12000)) (.cons (.lit 3500) (.cons (.lit 48000000) (.cons (.lit (-14000000)) (.cons (.lit 0) (.cons (.lit 0) (.cons (.bin .mul (.bin .add (.lit 1) (.bin .rem (.var 1) (.lit 100000))) (.lit 25)) (.cons (.bin .add (.bin .add (.bin .mul (.bin .add (.lit 1) (.bin .rem (.var 1) (.lit 100000))) (.lit 7)) (.lit 24)) (.lit 0)) (.cons (.bin .add (.bin .sub (.lit 0) (.bin .add (.bin .mul (.bin .sub (.lit 0) (.bin .add (.lit 1) (.bin .rem (.var 1) (.lit 100000)))) (.lit 24)) (.lit 7))) (.lit 0)) .nil))))))))))), true), ((.lt (.bin .add (.lit 3500) (.bin .mul (.bin .add (.lit 1) (.bin .rem (.var 1) (.lit 100000))) (.lit 25))) (.bin .add (.bin .sub (.lit 0) (.bin .add (.bin .mul (.bin .sub (.lit 0) (.bin .add (.lit 1) (.bin .rem (.var 1) (.lit 100000)))) (.lit 24)) (.lit 7))) (.lit 0))), false), ((.app 11 (.cons (.lit 1) (.cons (.lit (-12000)) (.cons (.lit 3500) (.cons (.lit 48000000) (.cons (.lit (-14000000)) (.cons (.lit 0) (.cons (.lit 0) (.cons (.bin .sub (.bin .mul (.bin .add (.lit 1) (.bin .rem (.var 1) (.lit 100000))) (.lit 25)) (.lit 1)) (.cons (.bin .add (.bin .add (.bin .mul (.bin .add (.lit 1) (.bin .rem (.var 1) (.lit 100000))) (.lit 7)) (.lit 24)) (.lit 0)) (.cons (.bin .add (.bin .sub (.lit 0) (.bin .add (.bin .mul (.bin .sub (.lit 0) (.bin .add (.lit 1) (.bin .rem (.var 1) (.lit 100000)))) (.lit 24)) (.lit 7))) (.lit 0)) .nil))))))))))), false)]
set_option maxRecDepth 1000000 in
theorem ex33_chk : leavesOk isYes (vals (execF Try.prog ctHS 20 7 exA ⟨[], 0, ⟨ex33 ++ exB 3 3 3, [], 0⟩⟩)) = true := by kernel_rfl
theorem ex33_ok (w s t : Int) (hs : 0 ≤ s ∧ s < 4294967296) : ∀ p ∈ ex33, p.1.den IH (envOf [w, s, t] []) = p.2 := by
  obtain ⟨K, hK, h1, h2⟩ := exK s hs
  intro p hp
  simp only [ex33, List.mem_cons, List.not_mem_nil, or_false] at hp
  rcases hp with rfl | rfl | rfl
  · exact ex_yes (K := K) (c := 1250312500) (h := 25) (by (simp only [T.den_bin, T.den_lit, T.den_var, exV, IOp.ev, crossP, alongZ, dist2, *] <;> omega)) (by (simp only [T.den_bin, T.den_lit, T.den_var, exV, IOp.ev, crossP, alongZ, dist2, *] <;> omega)) (by decide) (by (simp only [T.den_bin, T.den_lit, T.den_var, exV, IOp.ev, crossP, alongZ, dist2, *] <;> omega)) (by (simp only [T.den_bin, T.den_lit, T.den_var, exV, IOp.ev, crossP, alongZ, dist2, *] <;> omega))
  · exact B.lt_f.2 (by (simp only [T.den_bin, T.den_lit, T.den_var, exV, IOp.ev, crossP, alongZ, dist2, *] <;> omega))
  · exact ex_no (K := K) (c := 1250312500) (h := 25) (by (simp only [T.den_bin, T.den_lit, T.den_var, exV, IOp.ev, crossP, alongZ, dist2, *] <;> omega)) (by (simp only [T.den_bin, T.den_lit, T.den_var, exV, IOp.ev, crossP, alongZ, dist2, *] <;> omega)) (by decide) (by omega) (by decide)
def ex34 : List (B × Bool) := [((.app 11 (.cons (.lit 1) (.cons (.lit 3500) (.cons (.lit (-12000)) (.cons (.lit (-14000000)) (.cons (.lit 48000000) (.cons (.lit 0) (.cons (.lit 0) (.cons (.bin .mul (.bin .add (.lit 1) (.bin .rem (.var 1) (.lit 100000))) (.lit 25)) (.cons (.bin .add (.bin .sub (.lit 0) (.bin .add (.bin .mul (.bin .sub (.lit 0) (.bin .add (.lit 1) (.bin .rem (.var 1) (.lit 100000)))) (.lit 24)) (.lit 7))) (.lit 0)) (.cons (.bin .add (.bin .add (.bin .mul (.bin .add (.lit 1) (.bin .rem (.var 1) (.lit 100000))) (.lit 7)) (.lit 24)) (.lit 0)) .nil))))))))))), true), ((.lt (.bin .add (.lit 3500) (.bin .mul (.bin .add (.lit 1) (.bin .rem (.var 1) (.lit 100000))) (.lit 25))) (.bin .add (.bin .sub (.lit 0) (.bin .add (.bin .mul (.bin .sub (.lit 0) (.bin .add (.lit 1) (.bin .rem (.var 1) (.lit 100000)))) (.lit 24)) (.lit 7))) (.lit 0))), false), ((.app 11 (.cons (.lit 1) (.cons (.lit 3500) (.cons (.lit (-12000)) (.cons (.lit (-14000000)) (.cons (.lit 48000000) (.cons (.lit 0) (.cons (.lit 0) (.cons (.bin .sub (.bin .mul (.bin .add (.lit 1) (.bin .rem (.var 1) (.lit 100000))) (.lit 25)) (.lit 1)) (.cons (.bin .add (.bin .sub (.lit 0) (.bin .add (.bin .mul (.bin .sub (.lit 0) (.bin .add (.lit 1) (.bin .rem (.var 1) (.lit 100000)))) (.lit 24)) (.lit 7))) (.lit 0)) (.cons (.bin .add (.bin .add (.bin .mul (.bin .add (.lit 1) (.bin .rem (.var 1) (.lit 100000))) (.lit 7)) (.lit 24)) (.lit 0)) .nil))))))))))), false)]
set_option maxRecDepth 1000000 in
theorem ex34_chk : leavesOk isYes (vals (execF Try.prog ctHS 20 7 exA ⟨[], 0, ⟨ex34 ++ exB 3 0 4, [], 0⟩⟩)) = true := by kernel_rfl
theorem ex34_ok (w s t : Int) (hs : 0 ≤ s ∧ s < 4294967296) : ∀ p ∈ ex34, p.1.den IH (envOf [w, s, t] []) = p.2 := by
  obtain ⟨K, hK, h1, h2⟩ := exK s hs
  intro p hp
  simp only [ex34, List.mem_cons, List.not_mem_nil, or_false] at hp
  rcases hp with rfl | rfl | rfl
  · exact ex_yes (K := K) (c := -1250312500) (h := 25) (by (simp only [T.den_bin, T.den_lit, T.den_var, exV, IOp.ev, crossP, alongZ, dist2, *] <;> omega)) (by (simp only [T.den_bin, T.den_lit, T.den_var, exV, IOp.ev, crossP, alongZ, dist2, *] <;> omega)) (by decide) (by (simp only [T.den_bin, T.den_lit, T.den_var, exV, IOp.ev, crossP, alongZ, dist2, *] <;> omega)) (by (simp only [T.den_bin, T.den_lit, T.den_var, exV, IOp.ev, crossP, alongZ, dist2, *] <;> omega))
  · exact B.lt_f.2 (by (simp only [T.den_bin, T.den_lit, T.den_var, exV, IOp.ev, crossP, alongZ, dist2, *] <;> omega))
  · exact ex_no (K := K) (c := -1250312500) (h := 25) (by (simp only [T.den_bin, T.den_lit, T.den_var, exV, IOp.ev, crossP, alongZ, dist2, *] <;> omega)) (by (simp only [T.den_bin, T.den_lit, T.den_var, exV, IOp.ev, crossP, alongZ, dist2, *] <;> omega)) (by decide) (by omega) (by decide)
def ex35 : List (B × Bool) := [((.app 11 (.cons (.lit 1) (.cons (.lit 12000) (.cons (.lit 3500) (.cons (.lit (-48000000)) (.cons (.lit (-14000000)) (.cons (.lit 0) (.cons (.lit 0) (.cons (.bin .mul (.bin .add (.lit 1) (.bin .rem (.var 1) (.lit 100000))) (.lit 25)) (.cons (.bin .add (.bin .sub (.lit 0) (.bin .add (.bin .mul (.bin .add (.lit 1) (.bin .rem (.var 1) (.lit 100000))) (.lit 7)) (.lit 24))) (.lit 0)) (.cons (.bin .add (.bin .sub (.lit 0) (.bin .add (.bin .mul (.bin .sub (.lit 0) (.bin .add (.lit 1) (.bin .rem (.var 1) (.lit 100000)))) (.lit 24)) (.lit 7))) (.lit 0)) .nil))))))))))), true), ((.lt (.bin .add (.lit 3500) (.bin .mul (.bin .add (.lit 1) (.bin .rem (.var 1) (.lit 100000))) (.lit 25))) (.bin .add (.bin .sub (.lit 0) (.bin .add (.bin .mul (.bin .sub (.lit 0) (.bin .add (.lit 1) (.bin .rem (.var 1) (.lit 100000)))) (.lit 24)) (.lit 7))) (.lit 0))), false), ((.app 11 (.cons (.lit 1) (.cons (.lit 12000) (.cons (.lit 3500) (.cons (.lit (-48000000)) (.cons (.lit (-14000000)) (.cons (.lit 0) (.cons (.lit 0) (.cons (.bin .sub (.bin .mul (.bin .add (.lit 1) (.bin .rem (.var 1) (.lit 100000))) (.lit 25)) (.lit 1)) (.cons (.bin .add (.bin .sub (.lit 0) (.bin .add (.bin .mul (.bin .add (.lit 1) (.bin .rem (.var 1) (.lit 100000))) (.lit 7)) (.lit 24))) (.lit 0)) (.cons (.bin .add (.bin .sub (.lit 0) (.bin .add (.bin .mul (.bin .sub (.lit 0) (.bin .add (.lit 1) (.bin .rem (.var 1) (.lit 100000)))) (.lit 24)) (.lit 7))) (.lit 0)) .nil))))))))))), false)]
set_option maxRecDepth 1000000 in
theorem ex35_chk : leavesOk isYes (vals (execF Try.prog ctHS 20 7 exA ⟨[], 0, ⟨ex35 ++ exB 3 1 5, [], 0⟩⟩)) = true := by kernel_rfl
theorem ex35_ok (w s t : Int) (hs : 0 ≤ s ∧ s < 4294967296) : ∀ p ∈ ex35, p.1.den IH (envOf [w, s, t] []) = p.2 := by
  obtain ⟨K, hK, h1, h2⟩ := exK s hs
  intro p hp
  simp only [ex35, List.mem_cons, List.not_mem_nil, or_false] at hp
  rcases hp with rfl | rfl | rfl
  · exact ex_yes (K := K) (c := -1250312500) (h := 25) (by (simp only [T.den_bin, T.den_lit, T.den_var, exV, IOp.ev, crossP, alongZ, dist2, *] <;> omega)) (by (simp only [T.den_bin, T.den_lit, T.den_var, exV, IOp.ev, crossP, alongZ, dist2, *] <;> omega)) (by decide) (by (simp only [T.den_bin, T.den_lit, T.den_var, exV, IOp.ev, crossP, alongZ, dist2, *] <;> omega)) (by (simp only [T.den_bin, T.den_lit, T.den_var, exV, IOp.ev, crossP, alongZ, dist2, *] <;> omega))
  · exact B.lt_f.2 (by (simp only [T.den_bin, T.den_lit, T.den_var, exV, IOp.ev, crossP, alongZ, dist2, *] <;> omega))
  · exact ex_no (K := K) (c := -1250312500) (h := 25) (by (simp only [T.den_bin, T.den_lit, T.den_var, exV, IOp.ev, crossP, alongZ, dist2, *] <;> omega)) (by (simp only [T.den_bin, T.den_lit, T.den_var, exV, IOp.ev, crossP, alongZ, dist2, *] <;> omega)) (by decide) (by omega) (by decide)
def ex36 : List (B × Bool) := [((.app 11 (.cons (.lit 1) (.cons (.lit (-3500)) (.cons (.lit 12000) (.cons (.lit 14000000) (.cons (.lit (-48000000)) (.cons (.lit 0) (.cons (.lit 0) (.cons (.bin .mul (.bin .add (.lit 1) (.bin .rem (.var 1) (.lit 100000))) (.lit 25)) (.cons (.bin .add (.bin .sub (.lit 0) (.bin .sub (.lit 0) (.bin .add (.bin .mul (.bin .sub (.lit 0) (.bin .add (.lit 1) (.bin .rem (.var 1) (.lit 100000)))) (.lit 24)) (.lit 7)))) (.lit 0)) (.cons (.bin .add (.bin .sub (.lit 0) (.bin .add (.bin .mul (.bin .add (.lit 1) (.bin .rem (.var 1) (.lit 100000))) (.lit 7)) (.lit 24))) (.lit 0)) .nil))))))))))), true), ((.lt (.bin .add (.bin .sub (.lit 0) (.bin .sub (.lit 0) (.bin .add (.bin .mul (.bin .sub (.lit 0) (.bin .add (.lit 1) (.bin .rem (.var 1) (.lit 100000)))) (.lit 24)) (.lit 7)))) (.lit 0)) (.bin .sub (.lit (-3500)) (.bin .mul (.bin .add (.lit 1) (.bin .rem (.var 1) (.lit 100000))) (.lit 25)))), false), ((.app 11 (.cons (.lit 1) (.cons (.lit (-3500)) (.cons (.lit 12000) (.cons (.lit 14000000) (.cons (.lit (-48000000)) (.cons (.lit 0) (.cons (.lit 0) (.cons (.bin .sub (.bin .mul (.bin .add (.lit 1) (.bin .rem (.var 1) (.lit 100000))) (.lit 25)) (.lit 1)) (.cons (.bin .add (.bin .sub (.lit 0) (.bin .sub (.lit 0) (.bin .add (.bin .mul (.bin .sub (.lit 0) (.bin .add (.lit 1) (.bin .rem (.var 1) (.lit 100000)))) (.lit 24)) (.lit 7)))) (.lit 0)) (.cons (.bin .add (.bin .sub (.lit 0) (.bin .add (.bin .mul (.bin .add (.lit 1) (.bin .rem (.var 1) (.lit 100000))) (.lit 7)) (.lit 24))) (.lit 0)) .nil))))))))))), false)]
set_option maxRecDepth 1000000 in
theorem ex36_chk : leavesOk isYes (vals (execF Try.prog ctHS 20 7 exA ⟨[], 0, ⟨ex36 ++ exB 3 2 6, [], 0⟩⟩)) = true := by kernel_rfl
theorem ex36_ok (w s t : Int) (hs : 0 ≤ s ∧ s < 4294967296) : ∀ p ∈ ex36, p.1.den IH (envOf [w, s, t] []) = p.2 := by
  obtain ⟨K, hK, h1, h2⟩ := exK s hs
  intro p hp
  simp only [ex36, List.mem_cons, List.not_mem_nil, or_false] at hp
  rcases hp with rfl | rfl | rfl
  · exact ex_yes (K := K) (c := -1250312500) (h := 25) (by (simp only [T.den_bin, T.den_lit, T.den_var, exV, IOp.ev, crossP, alongZ, dist2, *] <;> omega)) (by (simp only [T.den_bin, T.den_lit, T.den_var, exV, IOp.ev, crossP, alongZ, dist2, *] <;> omega)) (by decide) (by (simp only [T.den_bin, T.den_lit, T.den_var, exV, IOp.ev, crossP, alongZ, dist2, *] <;> omega)) (by (simp only [T.den_bin, T.den_lit, T.den_var, exV, IOp.ev, crossP, alongZ, dist2, *] <;> omega))
  · exact B.lt_f.2 (by (simp only [T.den_bin, T.den_lit, T.den_var, exV, IOp.ev, crossP, alongZ, dist2, *] <;> omega))
  · exact ex_no (K := K) (c := -1250312500) (h := 25) (by (simp only [T.den_bin, T.den_lit, T.den_var, exV, IOp.ev, crossP, alongZ, dist2, *] <;> omega)) (by (simp only [T.den_bin, T.den_lit, T.den_var, exV, IOp.ev, crossP, alongZ, dist2, *] <;> omega)) (by decide) (by omega) (by decide)
def ex37 : List (B × Bool) := [((.app 11 (.cons (.lit 1) (.cons (.lit (-12000)) (.cons (.lit (-3500)) (.cons (.lit 48000000) (.cons (.lit 14000000) (.cons (.lit 0) (.cons (.lit 0) (.cons (.bin .mul (.bin .add (.lit 1) (.bin .rem (.var 1) (.lit 100000))) (.lit 25)) (.cons (.bin .add (.bin .add (.bin .mul (.bin .add (.lit 1) (.bin .rem (.var 1) (.lit 100000))) (.lit 7)) (.lit 24)) (.lit 0)) (.cons (.bin .add (.bin .sub (.lit 0) (.bin .sub (.lit 0) (.bin .add (.bin .mul (.bin .sub (.lit 0) (.bin .add (.lit 1) (.bin .rem (.var 1) (.lit 100000)))) (.lit 24)) (.lit 7)))) (.lit 0)) .nil))))))))))), true), ((.lt (.bin .add (.bin .sub (.lit 0) (.bin .sub (.lit 0) (.bin .add (.bin .mul (.bin .sub (.lit 0) (.bin .add (.lit 1) (.bin .rem (.var 1) (.lit 100000)))) (.lit 24)) (.lit 7)))) (.lit 0)) (.bin .sub (.lit (-3500)) (.bin .mul (.bin .add (.lit 1) (.bin .rem (.var 1) (.lit 100000))) (.lit 25)))), false), ((.app 11 (.cons (.lit 1) (.cons (.lit (-12000)) (.cons (.lit (-3500)) (.cons (.lit 48000000) (.cons (.lit 14000000) (.cons (.lit 0) (.cons (.lit 0) (.cons (.bin .sub (.bin .mul (.bin .add (.lit 1) (.bin .rem (.var 1) (.lit 100000))) (.lit 25)) (.lit 1)) (.cons (.bin .add (.bin .add (.bin .mul (.bin .add (.lit 1) (.bin .rem (.var 1) (.lit 100000))) (.lit 7)) (.lit 24)) (.lit 0)) (.cons (.bin .add (.bin .sub (.lit 0) (.bin .sub (.lit 0) (.bin .add (.bin .mul (.bin .sub (.lit 0) (.bin .add (.lit 1) (.bin .rem (.var 1) (.lit 100000)))) (.lit 24)) (.lit 7)))) (.lit 0)) .nil))))))))))), false)]
set_option maxRecDepth 1000000 in
theorem ex37_chk : leavesOk isYes (vals (execF Try.prog ctHS 20 7 exA ⟨[], 0, ⟨ex37 ++ exB 3 3 7, [], 0⟩⟩)) = true := by kernel_rfl
theorem ex37_ok (w s t : Int) (hs : 0 ≤ s ∧ s < 4294967296) : ∀ p ∈ ex37, p.1.den IH (envOf [w, s, t] []) = p.2 := by
  obtain ⟨K, hK, h1, h2⟩ := exK s hs
  intro p hp
  simp only [ex37, List.mem_cons, List.not_mem_nil, or_false] at hp
  rcases hp with rfl | rfl | rfl
  · exact ex_yes (K := K) (c := -1250312500) (h := 25) (by (simp only [T.den_bin, T.den_lit, T.den_var, exV, IOp.ev, crossP, alongZ, dist2, *] <;> omega)) (by (simp only [T.den_bin, T.den_lit, T.den_var, exV, IOp.ev, crossP, alongZ, dist2, *] <;> omega)) (by decide) (by (simp only [T.den_bin, T.den_lit, T.den_var, exV, IOp.ev, crossP, alongZ, dist2, *] <;> omega)) (by (simp only [T.den_bin, T.den_lit, T.den_var, exV, IOp.ev, crossP, alongZ, dist2, *] <;> omega))
  · exact B.lt_f.2 (by (simp only [T.den_bin, T.den_lit, T.den_var, exV, IOp.ev, crossP, alongZ, dist2, *] <;> omega))
  · exact ex_no (K := K) (c := -1250312500) (h := 25) (by (simp only [T.den_bin, T.den_lit, T.den_var, exV, IOp.ev, crossP, alongZ, dist2, *] <;> omega)) (by (simp only [T.den_bin, T.den_lit, T.den_var, exV, IOp.ev, crossP, alongZ, dist2, *] <;> omega)) (by decide) (by omega) (by decide)
end Go.Proofs.Ytliimpbbppbghaa.Sx
namespace Go.Proofs.Ytliimpbbppbghaa.Sx
open Go Go.RowKit
def ex40 : List (B × Bool) := [((.app 11 (.cons (.lit 1) (.cons (.lit (-10000)) (.cons (.lit (-10500)) (.cons (.lit 40000000) (.cons (.lit 42000000) (.cons (.lit 0) (.cons (.lit 0) (.cons (.bin .mul (.bin .add (.lit 1) (.bin .rem (.var 1) (.lit 100000))) (.lit 29)) (.cons (.bin .add (.bin .add (.bin .mul (.bin .sub (.lit 0) (.bin .add (.lit 1) (.bin .rem (.var 1) (.lit 100000)))) (.lit 21)) (.lit 20)) (.lit 0)) (.cons (.bin .add (.bin .add (.bin .mul (.bin .add (.lit 1) (.bin .rem (.var 1) (.lit 100000))) (.lit 20)) (.lit 21)) (.lit 0)) .nil))))))))))), true), ((.lt (.bin .add (.bin .add (.bin .mul (.bin .sub (.lit 0) (.bin .add (.lit 1) (.bin .rem (.var 1) (.lit 100000)))) (.lit 21)) (.lit 20)) (.lit 0)) (.bin .sub (.lit (-10000)) (.bin .mul (.bin .add (.lit 1) (.bin .rem (.var 1) (.lit 100000))) (.lit 29)))), false), ((.app 11 (.cons (.lit 1) (.cons (.lit (-10000)) (.cons (.lit (-10500)) (.cons (.lit 40000000) (.cons (.lit 42000000) (.cons (.lit 0) (.cons (.lit 0) (.cons (.bin .sub (.bin .mul (.bin .add (.lit 1) (.bin .rem (.var 1) (.lit 100000))) (.lit 29)) (.lit 1)) (.cons (.bin .add (.bin .add (.bin .mul (.bin .sub (.lit 0) (.bin .add (.lit 1) (.bin .rem (.var 1) (.lit 100000)))) (.lit 21)) (.lit 20)) (.lit 0)) (.cons (.bin .add (.bin .add (.bin .mul (.bin .add (.lit 1) (.bin .rem (.var 1) (.lit 100000))) (.lit 20)) (.lit 21)) (.lit 0)) .nil))))))))))), false)]
set_option maxRecDepth 1000000 in
theorem ex40_chk : leavesOk isYes (vals (execF Try.prog ctHS 20 7 exA ⟨[], 0, ⟨ex40 ++ exB 4 0 0, [], 0⟩⟩)) = true := by kernel_rfl
theorem ex40_ok (w s t : Int) (hs : 0 ≤ s ∧ s < 4294967296) : ∀ p ∈ ex40, p.1.den IH (envOf [w, s, t] []) = p.2 := by
  obtain ⟨K, hK, h1, h2⟩ := exK s hs
  intro p hp
  simp only [ex40, List.mem_cons, List.not_mem_nil, or_false] at hp
  rcases hp with rfl | rfl | rfl
  · exact ex_yes (K := K) (c := 1682420500) (h := 29) (by (simp only [T.den_bin, T.den_lit, T.den_var, exV, IOp.ev, crossP, alongZ, dist2, *] <;> omega)) (by (simp only [T.den_bin, T.den_lit, T.den_var, exV, IOp.ev, crossP, alongZ, dist2, *] <;> omega)) (by decide) (by (simp only [T.den_bin, T.den_lit, T.den_var, exV, IOp.ev, crossP, alongZ, dist2, *] <;> omega)) (by (simp only [T.den_bin, T.den_lit, T.den_var, exV, IOp.ev, crossP, alongZ, dist2, *] <;> omega))
  · exact B.lt_f.2 (by (simp only [T.den_bin, T.den_lit, T.den_var, exV, IOp.ev, crossP, alongZ, dist2, *] <;> omega))
  · exact ex_no (K := K) (c := 1682420500) (h := 29) (by (simp only [T.den_bin, T.den_lit, T.den_var, exV, IOp.ev, crossP, alongZ, dist2, *] <;> omega)) (by (simp only [T.den_bin, T.den_lit, T.den_var, exV, IOp.ev, crossP, alongZ, dist2, *] <;> omega)) (by decide) (by omega) (by decide)
def ex41 : List (B × Bool) := [((.app 11 (.cons (.lit 1) (.cons (.lit 10500) (.cons (.lit (-10000)) (.cons (.lit (-42000000)) (.cons (.lit 40000000) (.cons (.lit 0) (.cons (.lit 0) (.cons (.bin .mul (.bin .add (.lit 1) (.bin .rem (.var 1) (.lit 100000))) (.lit 29)) (.cons (.bin .add (.bin .sub (.lit 0) (.bin .add (.bin .mul (.bin .add (.lit 1) (.bin .rem (.var 1) (.lit 100000))) (.lit 20)) (.lit 21))) (.lit 0)) (.cons (.bin .add (.bin .add (.bin .mul (.bin .sub (.lit 0) (.bin .add (.lit 1) (.bin .rem (.var 1) (.lit 100000)))) (.lit 21)) (.lit 20)) (.lit 0)) .nil))))))))))), true), ((.lt (.bin .add (.bin .add (.bin .mul (.bin .sub (.lit 0) (.bin .add (.lit 1) (.bin .rem (.var 1) (.lit 100000)))) (.lit 21)) (.lit 20)) (.lit 0)) (.bin .sub (.lit (-10000)) (.bin .mul (.bin .add (.lit 1) (.bin .rem (.var 1) (.lit 100000))) (.lit 29)))), false), ((.app 11 (.cons (.lit 1) (.cons (.lit 10500) (.cons (.lit (-10000)) (.cons (.lit (-42000000)) (.cons (.lit 40000000) (.cons (.lit 0) (.cons (.lit 0) (.cons (.bin .sub (.bin .mul (.bin .add (.lit 1) (.bin .rem (.var 1) (.lit 100000))) (.lit 29)) (.lit 1)) (.cons (.bin .add (.bin .sub (.lit 0) (.bin .add (.bin .mul (.bin .add (.lit 1) (.bin .rem (.var 1) (.lit 100000))) (.lit 20)) (.lit 21))) (.lit 0)) (.cons (.bin .add (.bin .add (.bin .mul (.bin .sub (.lit 0) (.bin .add (.lit 1) (.bin .rem (.var 1) (.lit 100000)))) (.lit 21)) (.lit 20)) (.lit 0)) .nil))))))))))), false)]
set_option maxRecDepth 1000000 in
theorem ex41_chk : leavesOk isYes (vals (execF Try.prog ctHS 20 7 exA ⟨[], 0, ⟨ex41 ++ exB 4 1 1, [], 0⟩⟩)) = true := by kernel_rfl
theorem ex41_ok (w s t : Int) (hs : 0 ≤ s ∧ s < 4294967296) : ∀ p ∈ ex41, p.1.den IH (envOf [w, s, t] []) = p.2 := by
  obtain ⟨K, hK, h1, h2⟩ := exK s hs
  intro p hp
  simp only [ex41, List.mem_cons, List.not_mem_nil, or_false] at hp
  rcases hp with rfl | rfl | rfl
  · exact ex_yes (K := K) (c := 1682420500) (h := 29) (by (simp only [T.den_bin, T.den_lit, T.den_var, exV, IOp.ev, crossP, alongZ, dist2, *] <;> omega)) (by (simp only [T.den_bin, T.den_lit, T.den_var, exV, IOp.ev, crossP, alongZ, dist2, *] <;> omega)) (by decide) (by (simp only [T.den_bin, T.den_lit, T.den_var, exV, IOp.ev, crossP, alongZ, dist2, *] <;> omega)) (by (simp only [T.den_bin, T.den_lit, T.den_var, exV, IOp.ev, crossP, alongZ, dist2, *] <;> omega))
  · exact B.lt_f.2 (by (simp only [T.den_bin, T.den_lit, T.den_var, exV, IOp.ev, crossP, alongZ, dist2, *] <;> omega))
  · exact ex_no (K := K) (c := 1682420500) (h := 29) (by (simp only [T.den_bin, T.den_lit, T.den_var, exV, IOp.ev, crossP, alongZ, dist2, *] <;> omega)) (by (simp only [T.den_bin, T.den_lit, T.den_var, exV, IOp.ev, crossP, alongZ, dist2, *] <;> omega)) (by decide) (by omega) (by decide)
def ex42 : List (B × Bool) := [((.app 11 (.cons (.lit 1) (.cons (.lit 10000) (.cons (.lit 10500) (.cons (.lit (-40000000)) (.cons (.lit (-42000000)) (.cons (.lit 0) (.cons (.lit 0) (.cons (.bin .mul (.bin .add (.lit 1) (.bin .rem (.var 1) (.lit 100000))) (.lit 29)) (.cons (.bin .add (.bin .sub (.lit 0) (.bin .add (.bin .mul (.bin .sub (.lit 0) (.bin .add (.lit 1) (.bin .rem (.var 1) (.lit 100000)))) (.lit 21)) (.lit 20))) (.lit 0)) (.cons (.bin .add (.bin .sub (.lit 0) (.bin .add (.bin .mul (.bin .add (.lit 1) (.bin .rem (.var 1) (.lit 100000))) (.lit 20)) (.lit 21))) (.lit 0)) .nil))))))))))), true), ((.lt (.bin .add (.lit 10000) (.bin .mul (.bin .add (.lit 1) (.bin .rem (.var 1) (.lit 100000))) (.lit 29))) (.bin .add (.bin .sub (.lit 0) (.bin .add (.bin .mul (.bin .sub (.lit 0) (.bin .add (.lit 1) (.bin .rem (.var 1) (.lit 100000)))) (.lit 21)) (.lit 20))) (.lit 0))), false), ((.app 11 (.cons (.lit 1) (.cons (.lit 10000) (.cons (.lit 10500) (.cons (.lit (-40000000)) (.cons (.lit (-42000000)) (.cons (.lit 0) (.cons (.lit 0) (.cons (.bin .sub (.bin .mul (.bin .add (.lit 1) (.bin .rem (.var 1) (.lit 100000))) (.lit 29)) (.lit 1)) (.cons (.bin .add (.bin .sub (.lit 0) (.bin .add (.bin .mul (.bin .sub (.lit 0) (.bin .add (.lit 1) (.bin .rem (.var 1) (.lit 100000)))) (.lit 21)) (.lit 20))) (.lit 0)) (.cons (.bin .add (.bin .sub (.lit 0) (.bin .add (.bin .mul (.bin .add (.lit 1) (.bin .rem (.var 1) (.lit 100000))) (.lit 20)) (.lit 21))) (.lit 0)) .nil))))))))))), false)]
set_option maxRecDepth 1000000 in
theorem ex42_chk : leavesOk isYes (vals (execF Try.prog ctHS 20 7 exA ⟨[], 0, ⟨ex42 ++ exB 4 2 2, [], 0⟩⟩)) = true := by kernel_rfl
theorem ex42_ok (w s t : Int) (hs : 0 ≤ s ∧ s < 4294967296) : ∀ p ∈ ex42, p.1.den IH (envOf [w, s, t] []) = p.2 := by
  obtain ⟨K, hK, h1, h2⟩ := exK s hs
  intro p hp
  simp only [ex42, List.mem_cons, List.not_mem_nil, or_false] at hp
  rcases hp with rfl | rfl | rfl
  · exact ex_yes (K := K) (c := 1682420500) (h := 29) (by (simp only [T.den_bin, T.den_lit, T.den_var, exV, IOp.ev, crossP, alongZ, dist2, *] <;> omega)) (by (simp only [T.den_bin, T.den_lit, T.den_var, exV, IOp.ev, crossP, alongZ, dist2, *] <;> omega)) (by decide) (by (simp only [T.den_bin, T.den_lit, T.den_var, exV, IOp.ev, crossP, alongZ, dist2, *] <;> omega)) (by (simp only [T.den_bin, T.den_lit, T.den_var, exV, IOp.ev, crossP, alongZ, dist2, *] <;> omega))
  · exact B.lt_f.2 (by (simp only [T.den_bin, T.den_lit, T.den_var, exV, IOp.ev, crossP, alongZ, dist2, *] <;> omega))
  · exact ex_no (K := K) (c := 1682420500) (h := 29) (by (simp only [T.den_bin, T.den_lit, T.den_var, exV, IOp.ev, crossP, alongZ, dist2, *] <;> omega)) (by (simp only [T.den_bin, T.den_lit, T.den_var, exV, IOp.ev, crossP, alongZ, dist2, *] <;> omega)) (by decide) (by omega) (by decide)
def ex43 : List (B × Bool) := [((.app 11 (.cons (.lit 1) (.cons (.lit (-10500)) (.cons (.lit 10000) (.cons (.lit 42000000) (.cons (.lit (-40000000)) (.cons (.lit 0) (.cons (.lit 0) (.cons (.bin .mul (.bin .add (.lit 1) (.bin .rem (.var 1) (.lit 100000))) (.lit 29)) (.cons (.bin .add (.bin .add (.bin .mul (.bin .add (.lit 1) (.bin .rem (.var 1) (.lit 100000))) (.lit 20)) (.lit 21)) (.lit 0)) (.cons (.bin .add (.bin .sub (.lit 0) (.bin .add (.bin .mul (.bin .sub (.lit 0) (.bin .add (.lit 1) (.bin .rem (.var 1) (.lit 100000)))) (.lit 21)) (.lit 20))) (.lit 0)) .nil))))))))))), true), ((.lt (.bin .add (.lit 10000) (.bin .mul (.bin .add (.lit 1) (.bin .rem (.var 1) (.lit 100000))) (.lit 29))) (.bin .add (.bin .sub (.lit 0) (.bin .add (.bin .mul (.bin .sub (.lit 0) (.bin .add (.lit 1) (.bin .rem (.var 1) (.lit 100000)))) (.lit 21)) (.lit 20))) (.lit 0))), false), ((.app 11 (.cons (.lit 1) (.cons (.lit (-10500)) (.cons (.lit 10000) (.cons (.lit 42000000) (.cons (.lit (-40000000)) (.cons (.lit 0) (.cons (.lit 0) (.cons (.bin .sub (.bin .mul (.bin .add (.lit 1) (.bin .rem (.var 1) (.lit 100000))) (.lit 29)) (.lit 1)) (.cons (.bin .add (.bin .add (.bin .mul (.bin .add (.lit 1) (.bin .rem (.var 1) (.lit 100000))) (.lit 20)) (.lit 21)) (.lit 0)) (.cons (.bin .add (.bin .sub (.lit 0) (.bin .add (.bin .mul (.bin .sub (.lit 0) (.bin .add (.lit 1) (.bin .rem (.var 1) (.lit 100000)))) (.lit 21)) (.lit 20))) (.lit 0)) .nil))))))))))), false)]
set_option maxRecDepth 1000000 in
theorem ex43_chk : leavesOk isYes (vals (execF Try.prog ctHS 20 7 exA ⟨[], 0, ⟨ex43 ++ exB 4 3 3, [], 0⟩⟩)) = true := by kernel_rfl
theorem ex43_ok (w s t : Int) (hs : 0 ≤ s ∧ s < 4294967296) : ∀ p ∈ ex43, p.1.den IH (envOf [w, s, t] []) = p.2 := by
  obtain ⟨K, hK, h1, h2⟩ := exK s hs
  intro p hp
  simp only [ex43, List.mem_cons, List.not_mem_nil, or_false] at hp
  rcases hp with rfl | rfl | rfl
  · exact ex_yes (K := K) (c := 1682420500) (h := 29) (by (simp only [T.den_bin, T.den_lit, T.den_var, exV, IOp.ev, crossP, alongZ, dist2, *] <;> omega)) (by (simp only [T.den_bin, T.den_lit, T.den_var, exV, IOp.ev, crossP, alongZ, dist2, *] <;> omega)) (by decide) (by (simp only [T.den_bin, T.den_lit, T.den_var, exV, IOp.ev, crossP, alongZ, dist2, *] <;> omega)) (by (simp only [T.den_bin, T.den_lit, T.den_var, exV, IOp.ev, crossP, alongZ, dist2, *] <;> omega))
  · exact B.lt_f.2 (by (simp only [T.den_bin, T.den_lit, T.den_var, exV, IOp.ev, crossP, alongZ, dist2, *] <;> omega))
  · exact ex_no (K := K) (c := 1682420500) (h := 29) (by (simp only [T.den_bin, T.den_lit, T.den_var, exV, IOp.ev, crossP, alongZ, dist2, *] <;> omega)) (by (simp only [T.den_bin, T.den_lit, T.den_var, exV, IOp.ev, crossP, alongZ, dist2, *] <;> omega)) (by decide) (by omega) (by decide)
def ex44 : List (B × Bool) := [((.app 11 (.cons (.lit 1) (.cons (.lit 10000) (.cons (.lit (-10500)) (.cons (.lit (-40000000)) (.cons (.lit 42000000) (.cons (.lit 0) (.cons (.lit 0) (.cons (.bin .mul (.bin .add (.lit 1) (.bin .rem (.var 1) (.lit 100000))) (.lit 29)) (.cons (.bin .add (.bin .sub (.lit 0) (.bin .add (.bin .mul (.bin .sub (.lit 0) (.bin .add (.lit 1) (.bin .rem (.var 1) (.lit 100000)))) (.lit 21)) (.lit 20))) (.lit 0)) (.cons (.bin .add (.bin .add (.bin .mul (.bin .add (.lit 1) (.bin .rem (.var 1) (.lit 100000))) (.lit 20)) (.lit 21)) (.lit 0)) .nil))))))))))), true), ((.lt (.bin .add (.lit 10000) (.bin .mul (.bin .add (.lit 1) (.bin .rem (.var 1) (.lit 100000))) (.lit 29))) (.bin .add (.bin .sub (.lit 0) (.bin .add (.bin .mul (.bin .sub (.lit 0) (.bin .add (.lit 1) (.bin .rem (.var 1) (.lit 100000)))) (.lit 21)) (.lit 20))) (.lit 0))), false), ((.app 11 (.cons (.lit 1) (.cons (.lit 10000) (.cons (.lit (-10500)) (.cons (.lit (-40000000)) (.cons (.lit 42000000) (.cons (.lit 0) (.cons (.lit 0) (.cons (.bin .sub (.bin .mul (.bin .add (.lit 1) (.bin .rem (.var 1) (.lit 100000))) (.lit 29)) (.lit 1)) (.cons (.bin .add (.bin .sub (.lit 0) (.bin .add (.bin .mul (.bin .sub (.lit 0) (.bin .add (.lit 1) (.bin .rem (.var 1) (.lit 100000)))) (.lit 21)) (.lit 20))) (.lit 0)) (.cons (.bin .add (.bin .add (.bin .mul (.bin .add (.lit 1) (.bin .rem (.var 1) (.lit 100000))) (.lit 20)) (.lit 21)) (.lit 0)) .nil))))))))))), false)]
set_option maxRecDepth 1000000 in
theorem ex44_chk : leavesOk isYes (vals (execF Try.prog ctHS 20 7 exA ⟨[], 0, ⟨ex44 ++ exB 4 0 4, [], 0⟩⟩)) = true := by kernel_rfl
theorem ex44_ok (w s t : Int) (hs : 0 ≤ s ∧ s < 4294967296) : ∀ p ∈ ex44, p.1.den IH (envOf [w, s, t] []) = p.2 := by
  obtain ⟨K, hK, h1, h2⟩ := exK s hs
  intro p hp
  simp only [ex44, List.mem_cons, List.not_mem_nil, or_false] at hp
  rcases hp with rfl | rfl | rfl
  · exact ex_yes (K := K) (c := -1682420500) (h := 29) (by (simp only [T.den_bin, T.den_lit, T.den_var, exV, IOp.ev, crossP, alongZ, dist2, *] <;> omega)) (by (simp only [T.den_bin, T.den_lit, T.den_var, exV, IOp.ev, crossP, alongZ, dist2, *] <;> omega)) (by decide) (by (simp only [T.den_bin, T.den_lit, T.den_var, exV, IOp.ev, crossP, alongZ, dist2, *] <;> omega)) (by (simp only [T.den_bin, T.den_lit, T.den_var, exV, IOp.ev, crossP, alongZ, dist2, *] <;> omega))
  · exact B.lt_f.2 (by (simp only [T.den_bin, T.den_lit, T.den_var, exV, IOp.ev, crossP, alongZ, dist2, *] <;> omega))
  · exact ex_no (K := K) (c := -1682420500) (h := 29) (by (simp only [T.den_bin, T.den_lit, T.den_var, exV, IOp.ev, crossP, alongZ, dist2, *] <;> omega)) (by (simp only [T.den_bin, T.den_lit, T.den_var, exV, IOp.ev, crossP, alongZ, dist2, *] <;> omega)) (by decide) (by omega) (by decide)
def ex45 : List (B × Bool) := [((.app 11 (.cons (.lit 1) (.cons (.lit 10500) (.cons (.lit 10000) (.cons (.lit (-42000000)) (.cons (.lit (-40000000)) (.cons (.lit 0) (.cons (.lit 0) (.cons (.bin .mul (.bin .add (.lit 1) (.bin .rem (.var 1) (.lit 100000))) (.lit 29)) (.cons (.bin .add (.bin .sub (.lit 0) (.bin .add (.bin .mul (.bin .add (.lit 1) (.bin .rem (.var 1) (.lit 100000))) (.lit 20)) (.lit 21))) (.lit 0)) (.cons (.bin .add (.bin .sub (.lit 0) (.bin .add (.bin .mul (.bin .sub (.lit 0) (.bin .add (.lit 1) (.bin .rem (.var 1) (.lit 100000)))) (.lit 21)) (.lit 20))) (.lit 0)) .nil))))))))))), true), ((.lt (.bin .add (.lit 10000) (.bin .mul (.bin .add (.lit 1) (.bin .rem (.var 1) (.lit 100000))) (.lit 29))) (.bin .add (.bin .sub (.lit 0) (.bin .add (.bin .mul (.bin .sub (.lit 0) (.bin .add (.lit 1) (.bin .rem (.var 1) (.lit 100000)))) (.lit 21)) (.lit 20))) (.lit 0))), false), ((.app 11 (.cons (.lit 1) (.cons (.lit 10500) (.cons (.lit 10000) (.cons (.lit (-42000000)) (.cons (.lit (-40000000)) (.cons (.lit 0) (.cons (.lit 0) (.cons (.bin .sub (.bin .mul (.bin .add (.lit 1) (.bin .rem (.var 1) (.lit 100000))) (.lit 29)) (.lit 1)) (.cons (.bin .add (.bin .sub (.lit 0) (.bin .add (.bin .mul (.bin .add (.lit 1) (.bin .rem (.var 1) (.lit 100000))) (.lit 20)) (.lit 21))) (.lit 0)) (.cons (.bin .add (.bin .sub (.lit 0) (.bin .add (.bin .mul (.bin .sub (.lit 0) (.bin .add (.lit 1) (.bin .rem (.var 1) (.lit 100000)))) (.lit 21)) (.lit 20))) (.lit 0)) .nil))))))))))), false)]
set_option maxRecDepth 1000000 in
theorem ex45_chk : leavesOk isYes (vals (execF Try.prog ctHS 20 7 exA ⟨[], 0, ⟨ex45 ++ exB 4 1 5, [], 0⟩⟩)) = true := by kernel_rfl
theorem ex45_ok (w s t : Int) (hs : 0 ≤ s ∧ s < 4294967296) : ∀ p ∈ ex45, p.1.den IH (envOf [w, s, t] []) = p.2 := by
  obtain ⟨K, hK, h1, h2⟩ := exK s hs
  intro p hp
  simp only [ex45, List.mem_cons, List.not_mem_nil, or_false] at hp
  rcases hp with rfl | rfl | rfl
  · exact ex_yes (K := K) (c := -1682420500) (h := 29) (by (simp only [T.den_bin, T.den_lit, T.den_var, exV, IOp.ev, crossP, alongZ, dist2, *] <;> omega)) (by (simp only [T.den_bin, T.den_lit, T.den_var, exV, IOp.ev, crossP, alongZ, dist2, *] <;> omega)) (by decide) (by (simp only [T.den_bin, T.den_lit, T.den_var, exV, IOp.ev, crossP, alongZ, dist2, *] <;> omega)) (by (simp only [T.den_bin, T.den_lit, T.den_var, exV, IOp.ev, crossP, alongZ, dist2, *] <;> omega))
  · exact B.lt_f.2 (by (simp only [T.den_bin, T.den_lit, T.den_var, exV, IOp.ev, crossP, alongZ, dist2, *] <;> omega))
  · exact ex_no (K := K) (c := -1682420500) (h := 29) (by (simp only [T.den_bin, T.den_lit, T.den_var, exV, IOp.ev, crossP, alongZ, dist2, *] <;> omega)) (by (simp only [T.den_bin, T.den_lit, T.den_var, exV, IOp.ev, crossP, alongZ, dist2, *] <;> omega)) (by decide) (by omega) (by decide)
def ex46 : List (B × Bool) := [((.app 11 (.cons (.lit 1) (.cons (.lit (-10000)) (.cons (.lit 10500) (.cons (.lit 40000000) (.cons (.lit (-42000000)) (.cons (.lit 0) (.cons (.lit 0) (.cons (.bin .mul (.bin .add (.lit 1) (.bin .rem (.var 1) (.lit 100000))) (.lit 29)) (.cons (.bin .add (.bin .sub (.lit 0) (.bin .sub (.lit 0) (.bin .add (.bin .mul (.bin .sub (.lit 0) (.bin .add (.lit 1) (.bin .rem (.var 1) (.lit 100000)))) (.lit 21)) (.lit 20)))) (.lit 0)) (.cons (.bin .add (.bin .sub (.lit 0) (.bin .add (.bin .mul (.bin .add (.lit 1) (.bin .rem (.var 1) (.lit 100000))) (.lit 20)) (.lit 21))) (.lit 0)) .nil))))))))))), true), ((.lt (.bin .add (.bin .sub (.lit 0) (.bin .sub (.lit 0) (.bin .add (.bin .mul (.bin .sub (.lit 0) (.bin .add (.lit 1) (.bin .rem (.var 1) (.lit 100000)))) (.lit 21)) (.lit 20)))) (.lit 0)) (.bin .sub (.lit (-10000)) (.bin .mul (.bin .add (.lit 1) (.bin .rem (.var 1) (.lit 100000))) (.lit 29)))), false), ((.app 11 (.cons (.lit 1) (.cons (.lit (-10000)) (.cons (.lit 10500) (.cons (.lit 40000000) (.cons (.lit (-42000000)) (.cons (.lit 0) (.cons (.lit 0) (.cons (.bin .sub (.bin .mul (.bin .add (.lit 1) (.bin .rem (.var 1) (.lit 100000))) (.lit 29)) (.lit 1)) (.cons (.bin .add (.bin .sub (.lit 0) (.bin .sub (.lit 0) (.bin .add (.bin .mul (.bin .sub (.lit 0) (.bin .add (.lit 1) (.bin .rem (.var 1) (.lit 100000)))) (.lit 21)) (.lit 20)))) (.lit 0)) (.cons (.bin .add (.bin .sub (.lit 0) (.bin .add (.bin .mul (.bin .add (.lit 1) (.bin .rem (.var 1) (.lit 100000))) (.lit 20)) (.lit 21))) (.lit 0)) .nil))))))))))), false)]
set_option maxRecDepth 1000000 in
theorem ex46_chk : leavesOk isYes (vals (execF Try.prog ctHS 20 7 exA ⟨[], 0, ⟨ex46 ++ exB 4 2 6, [], 0⟩⟩)) = true := by kernel_rfl
theorem ex46_ok (w s t : Int) (hs : 0 ≤ s ∧ s < 4294967296) : ∀ p ∈ ex46, p.1.den IH (envOf [w, s, t] []) = p.2 := by
  obtain ⟨K, hK, h1, h2⟩ := exK s hs
  intro p hp
  simp only [ex46, List.mem_cons, List.not_mem_nil, or_false] at hp
  rcases hp with rfl | rfl | rfl
  · exact ex_yes (K := K) (c := -1682420500) (h := 29) (by (simp only [T.den_bin, T.den_lit, T.den_var, exV, IOp.ev, crossP, alongZ, dist2, *] <;> omega)) (by (simp only [T.den_bin, T.den_lit, T.den_var, exV, IOp.ev, crossP, alongZ, dist2, *] <;> omega)) (by decide) (by (simp only [T.den_bin, T.den_lit, T.den_var, exV, IOp.ev, crossP, alongZ, dist2, *] <;> omega)) (by (simp only [T.den_bin, T.den_lit, T.den_var, exV, IOp.ev, crossP, alongZ, dist2, *] <;> omega))
  · exact B.lt_f.2 (by (simp only [T.den_bin, T.den_lit, T.den_var, exV, IOp.ev, crossP, alongZ, dist2, *] <;> omega))
  · exact ex_no (K := K) (c := -1682420500) (h := 29) (by (simp only [T.den_bin, T.den_lit, T.den_var, exV, IOp.ev, crossP, alongZ, dist2, *] <;> omega)) (by (simp only [T.den_bin, T.den_lit, T.den_var, exV, IOp.ev, crossP, alongZ, dist2, *] <;> omega)) (by decide) (by omega) (by decide)
def ex47 : List (B × Bool) := [((.app 11 (.cons (.lit 1) (.cons (.lit (-10500)) (.cons (.lit (-10000)) (.cons (.lit 42000000) (.cons (.lit 40000000) (.cons (.lit 0) (.cons (.lit 0) (.cons (.bin .mul (.bin .add (.lit 1) (.bin .rem (.var 1) (.lit 100000))) (.lit 29)) (.cons (.bin .add (.bin .add (.bin .mul (.bin .add (.lit 1) (.bin .rem (.var 1) (.lit 100000))) (.lit 20)) (.lit 21)) (.lit 0)) (.cons (.bin .add (.bin .sub (.lit 0) (.bin .sub (.lit 0) (.bin .add (.bin .mul (.bin .sub (.lit 0) (.bin .add (.lit 1) (.bin .rem (.var 1) (.lit 100000)))) (.lit 21)) (.lit 20)))) (.lit 0)) .nil))))))))))), true), ((.lt (.bin .add (.bin .sub (.lit 0) (.bin .sub (.lit 0) (.bin .add (.bin .mul (.bin .sub (.lit 0) (.bin .add (.lit 1) (.bin .rem (.var 1) (.lit 100000)))) (.lit 21)) (.lit 20)))) (.lit 0)) (.bin .sub (.lit (-10000)) (.bin .mul (.bin .add (.lit 1) (.bin .rem (.var 1) (.lit 100000))) (.lit 29)))), false), ((.app 11 (.cons (.lit 1) (.cons (.lit (-10500)) (.cons (.lit (-10000)) (.cons (.lit 42000000) (.cons (.lit 40000000) (.cons (.lit 0) (.cons (.lit 0) (.cons (.bin .sub (.bin .mul (.bin .add (.lit 1) (.bin .rem (.var 1) (.lit 100000))) (.lit 29)) (.lit 1)) (.cons (.bin .add (.bin .add (.bin .mul (.bin .add (.lit 1) (.bin .rem (.var 1) (.lit 100000))) (.lit 20)) (.lit 21)) (.lit 0)) (.cons (.bin .add (.bin .sub (.lit 0) (.bin .sub (.lit 0) (.bin .add (.bin .mul (.bin .sub (.lit 0) (.bin .add (.lit 1) (.bin .rem (.var 1) (.lit 100000)))) (.lit 21)) (.lit 20)))) (.lit 0)) .nil))))))))))), false)]
set_option maxRecDepth 1000000 in
theorem ex47_chk : leavesOk isYes (vals (execF Try.prog ctHS 20 7 exA ⟨[], 0, ⟨ex47 ++ exB 4 3 7, [], 0⟩⟩)) = true := by kernel_rfl
theorem ex47_ok (w s t : Int) (hs : 0 ≤ s ∧ s < 4294967296) : ∀ p ∈ ex47, p.1.den IH (envOf [w, s, t] []) = p.2 := by
  obtain ⟨K, hK, h1, h2⟩ := exK s hs
  intro p hp
  simp only [ex47, List.mem_cons, List.not_mem_nil, or_false] at hp
  rcases hp with rfl | rfl | rfl
  · exact ex_yes (K := K) (c := -1682420500) (h := 29) (by (simp only [T.den_bin, T.den_lit, T.den_var, exV, IOp.ev, crossP, alongZ, dist2, *] <;> omega)) (by (simp only [T.den_bin, T.den_lit, T.den_var, exV, IOp.ev, crossP, alongZ, dist2, *] <;> omega)) (by decide) (by (simp only [T.den_bin, T.den_lit, T.den_var, exV, IOp.ev, crossP, alongZ, dist2, *] <;> omega)) (by (simp only [T.den_bin, T.den_lit, T.den_var, exV, IOp.ev, crossP, alongZ, dist2, *] <;> omega))
  · exact B.lt_f.2 (by (simp only [T.den_bin, T.den_lit, T.den_var, exV, IOp.ev, crossP, alongZ, dist2, *] <;> omega))
  · exact ex_no (K := K) (c := -1682420500) (h := 29) (by (simp only [T.den_bin, T.den_lit, T.den_var, exV, IOp.ev, crossP, alongZ, dist2, *] <;> omega)) (by (simp only [T.den_bin, T.den_lit, T.den_var, exV, IOp.ev, crossP, alongZ, dist2, *] <;> omega)) (by decide) (by omega) (by decide)
end Go.Proofs.Ytliimpbbppbghaa.Sx
namespace Go.Proofs.Ytliimpbbppbghaa.Sx
open Go Go.RowKit
theorem shapeExact_law (w s t : Int) (W : World) (hw : 0 ≤ w ∧ w < 256) (hs : 0 ≤ s ∧ s < 4294967296) (ht : 0 ≤ t ∧ t < 256) :
    Calls Try.prog 7 #[.int .u8 w, .int .u32 s, .int .u8 t] W (fun e w' => e = .returned (.bool true) ∧ Below W.heap.size W w') := by
  have e5 : w.tmod 5 = w % 5 := Int.tmod_eq_emod_of_nonneg hw.1
  have e4 : t.tmod 4 = t % 4 := Int.tmod_eq_emod_of_nonneg ht.1
  have e8 : t.tmod 8 = t % 8 := Int.tmod_eq_emod_of_nonneg ht.1
  have c5 : w.tmod 5 = 0 ∨ w.tmod 5 = 1 ∨ w.tmod 5 = 2 ∨ w.tmod 5 = 3 ∨ w.tmod 5 = 4 := by omega
  have c8 : (t.tmod 8 = 0 ∧ t.tmod 4 = 0) ∨ (t.tmod 8 = 1 ∧ t.tmod 4 = 1) ∨ (t.tmod 8 = 2 ∧ t.tmod 4 = 2) ∨ (t.tmod 8 = 3 ∧ t.tmod 4 = 3) ∨ (t.tmod 8 = 4 ∧ t.tmod 4 = 0) ∨ (t.tmod 8 = 5 ∧ t.tmod 4 = 1) ∨ (t.tmod 8 = 6 ∧ t.tmod 4 = 2) ∨ (t.tmod 8 = 7 ∧ t.tmod 4 = 3) := by omega
  rcases c5 with h5 | h5 | h5 | h5 | h5
  · rcases c8 with ⟨h8, h4⟩ | ⟨h8, h4⟩ | ⟨h8, h4⟩ | ⟨h8, h4⟩ | ⟨h8, h4⟩ | ⟨h8, h4⟩ | ⟨h8, h4⟩ | ⟨h8, h4⟩
    · exact ex_law hw hs ht h5 h4 h8 (ex00_ok w s t hs) ex00_chk W
    · exact ex_law hw hs ht h5 h4 h8 (ex01_ok w s t hs) ex01_chk W
    · exact ex_law hw hs ht h5 h4 h8 (ex02_ok w s t hs) ex02_chk W
    · exact ex_law hw hs ht h5 h4 h8 (ex03_ok w s t hs) ex03_chk W
    · exact ex_law hw hs ht h5 h4 h8 (ex04_ok w s t hs) ex04_chk W
    · exact ex_law hw hs ht h5 h4 h8 (ex05_ok w s t hs) ex05_chk W
    · exact ex_law hw hs ht h5 h4 h8 (ex06_ok w s t hs) ex06_chk W
    · exact ex_law hw hs ht h5 h4 h8 (ex07_ok w s t hs) ex07_chk W
  · rcases c8 with ⟨h8, h4⟩ | ⟨h8, h4⟩ | ⟨h8, h4⟩ | ⟨h8, h4⟩ | ⟨h8, h4⟩ | ⟨h8, h4⟩ | ⟨h8, h4⟩ | ⟨h8, h4⟩
    · exact ex_law hw hs ht h5 h4 h8 (ex10_ok w s t hs) ex10_chk W
    · exact ex_law hw hs ht h5 h4 h8 (ex11_ok w s t hs) ex11_chk W
    · exact ex_law hw hs ht h5 h4 h8 (ex12_ok w s t hs) ex12_chk W
    · exact ex_law hw hs ht h5 h4 h8 (ex13_ok w s t hs) ex13_chk W
    · exact ex_law hw hs ht h5 h4 h8 (ex14_ok w s t hs) ex14_chk W
    · exact ex_law hw hs ht h5 h4 h8 (ex15_ok w s t hs) ex15_chk W
    · exact ex_law hw hs ht h5 h4 h8 (ex16_ok w s t hs) ex16_chk W
    · exact ex_law hw hs ht h5 h4 h8 (ex17_ok w s t hs) ex17_chk W
  · rcases c8 with ⟨h8, h4⟩ | ⟨h8, h4⟩ | ⟨h8, h4⟩ | ⟨h8, h4⟩ | ⟨h8, h4⟩ | ⟨h8, h4⟩ | ⟨h8, h4⟩ | ⟨h8, h4⟩
    · exact ex_law hw hs ht h5 h4 h8 (ex20_ok w s t hs) ex20_chk W
    · exact ex_law hw hs ht h5 h4 h8 (ex21_ok w s t hs) ex21_chk W
    · exact ex_law hw hs ht h5 h4 h8 (ex22_ok w s t hs) ex22_chk W
    · exact ex_law hw hs ht h5 h4 h8 (ex23_ok w s t hs) ex23_chk W
    · exact ex_law hw hs ht h5 h4 h8 (ex24_ok w s t hs) ex24_chk W
    · exact ex_law hw hs ht h5 h4 h8 (ex25_ok w s t hs) ex25_chk W
    · exact ex_law hw hs ht h5 h4 h8 (ex26_ok w s t hs) ex26_chk W
    · exact ex_law hw hs ht h5 h4 h8 (ex27_ok w s t hs) ex27_chk W
  · rcases c8 with ⟨h8, h4⟩ | ⟨h8, h4⟩ | ⟨h8, h4⟩ | ⟨h8, h4⟩ | ⟨h8, h4⟩ | ⟨h8, h4⟩ | ⟨h8, h4⟩ | ⟨h8, h4⟩
    · exact ex_law hw hs ht h5 h4 h8 (ex30_ok w s t hs) ex30_chk W
    · exact ex_law hw hs ht h5 h4 h8 (ex31_ok w s t hs) ex31_chk W
    · exact ex_law hw hs ht h5 h4 h8 (ex32_ok w s t hs) ex32_chk W
    · exact ex_law hw hs ht h5 h4 h8 (ex33_ok w s t hs) ex33_chk W
    · exact ex_law hw hs ht h5 h4 h8 (ex34_ok w s t hs) ex34_chk W
    · exact ex_law hw hs ht h5 h4 h8 (ex35_ok w s t hs) ex35_chk W
    · exact ex_law hw hs ht h5 h4 h8 (ex36_ok w s t hs) ex36_chk W
    · exact ex_law hw hs ht h5 h4 h8 (ex37_ok w s t hs) ex37_chk W
  · rcases c8 with ⟨h8, h4⟩ | ⟨h8, h4⟩ | ⟨h8, h4⟩ | ⟨h8, h4⟩ | ⟨h8, h4⟩ | ⟨h8, h4⟩ | ⟨h8, h4⟩ | ⟨h8, h4⟩
    · exact ex_law hw hs ht h5 h4 h8 (ex40_ok w s t hs) ex40_chk W
    · exact ex_law hw hs ht h5 h4 h8 (ex41_ok w s t hs) ex41_chk W
    · exact ex_law hw hs ht h5 h4 h8 (ex42_ok w s t hs) ex42_chk W
    · exact ex_law hw hs ht h5 h4 h8 (ex43_ok w s t hs) ex43_chk W
    · exact ex_law hw hs ht h5 h4 h8 (ex44_ok w s t hs) ex44_chk W
    · exact ex_law hw hs ht h5 h4 h8 (ex45_ok w s t hs) ex45_chk W
    · exact ex_law hw hs ht h5 h4 h8 (ex46_ok w s t hs) ex46_chk W
    · exact ex_law hw hs ht h5 h4 h8 (ex47_ok w s t hs) ex47_chk W
end Go.Proofs.Ytliimpbbppbghaa.Sx
namespace Go.Proofs.Ytliimpbbppbghaa.Sx
open Go Go.ChangeShapes Go.WideShapes Go.ChangeAt Go.RowKit Go.Shelf
abbrev ExtW (w w' : World) : Prop := Below w.heap.size w w'
theorem own : ownKnob Try.prog.godebug = none := by kernel_rfl
theorem laidOut : laidOutB Try.prog = true := by kernel_rfl
noncomputable def readTypes (P : Program) (ts : List TypeId) : Bool := ts.all fun t => P.readableRec t && decide (t < P.types.size)
theorem trodAll_ext {P : Program} (hl : laidOutB P = true) {H : Type} {enc : TypeId × Value → H} {W W' : World} (hx : ExtW W W') : ∀ {ts : List TypeId} {vs : List Value} {ds : List (DataW H)} {ps : List MemPlace}, readTypes P ts = true → DataW.TrodAll enc P W 0 (fun _ => true) true ts vs ds ps →
    DataW.TrodAll enc P W' 0 (fun b => decide (b < W.heap.size)) true ts vs ds ps
  | [], [], [], _, _, h => h
  | [], [], _ :: _, _, _, h => h.elim
  | [], _ :: _, [], _, _, h => h.elim
  | [], _ :: _, _ :: _, _, _, h => h.elim
  | _ :: _, [], [], _, _, h => h.elim
  | _ :: _, [], _ :: _, _, _, h => h.elim
  | _ :: _, _ :: _, [], _, _, h => h.elim
  | t :: ts, v :: vs, d :: ds, ps, hr, h => by
    have hlt := DataW.TrodAll.lt h
    obtain ⟨p, q, h1, h2, rfl⟩ := h
    simp only [readTypes, List.all_cons, Bool.and_eq_true, decide_eq_true_eq] at hr
    exact ⟨p, q, Below.trod hl hr.1.1 hr.1.2 h1 hx (fun x hx => hlt x (List.mem_append_left _ hx)), trodAll_ext hl hx hr.2 h2, rfl⟩
section
variable {H : Type} {enc : TypeId × Value → H} {W W' : World}
set_option maxRecDepth 100000 in
theorem law_post {f : Func} {s : ChangeSpec} {args : Array Value} {ds gs : List (DataW H)} {before : List MemPlace} {bt : TypeId} (hW : DataW.Whole enc Try.prog f.params.toList s.vars false W args.toList ds gs before) (hx : ExtW W W')
    (hr : f.resultTypes = #[bt]) (hbt : Try.prog.underlying bt = some .bool) (hp : readTypes Try.prog f.params.toList = true) (hv : s.vars = []) (hfn : s.fn H (ds ++ gs) = { results := [.lit (.bool true)], args := ds }) :
    s.post enc Try.prog f false true false false W args (.bool true) W' := by
  have hW' := hW
  obtain ⟨p, q, hA, hV, rfl, -, -⟩ := hW
  refine ⟨ds, gs, _, [], p, [], hW', ?_, ?_, ?_, Below.frame hx _, fun h => by cases h⟩
  · rw [hfn, hr]; exact trodAll_mk1 (shut_bool hbt _)
  · rw [hfn]; exact trodAll_ext laidOut hx hp hA
  · rw [hfn, hv]; rfl
end
theorem wf_u8 {n : Int} (h : (Lit.int .u8 n).wf = true) : 0 ≤ n ∧ n < 256 := by
  have e1 : IntKind.u8.min = 0 := rfl
  have e2 : IntKind.u8.max = 255 := rfl
  simp [Lit.wf, e1, e2] at h
  omega
theorem wf_u32 {n : Int} (h : (Lit.int .u32 n).wf = true) : 0 ≤ n ∧ n < 4294967296 := by
  have e1 : IntKind.u32.min = 0 := rfl
  have e2 : IntKind.u32.max = 4294967295 := rfl
  simp [Lit.wf, e1, e2] at h
  omega
end Go.Proofs.Ytliimpbbppbghaa.Sx
