/- The examples of the chapter hold. -/
import Derived.Test.YtmoclgpdcnjacaaMg
set_option linter.all false
set_option autoImplicit false
namespace Go.Proofs.Ytmoclgpdcnjacaa.Sx
open Go Go.RowKit
def isYes : V → Bool
  | .c (.bool (.lit true)) => true
  | _ => false
theorem isYes_eq {v : V} (h : isYes v = true) : v = .c (.bool (.lit true)) := by
  unfold isYes at h
  split at h
  · rfl
  · cases h
/-- A function of which each way answers yes. -/
theorem calls_yes {P : Program} {I : Interp} {ρ : Env} (hm : P.follows .mixedOrders = true) (hN : NoCount P) {ct : CT} (hct : CTOk P I ρ ct) {n : Nat} {g : FuncId} {args : List V} {k : Known} {w : World}
    (hh : Hyp I w fun _ => False) (hk : k.Ok I ρ) (hwf : (args.all (V.wf 0)) = true) (hc : leavesOk isYes (vals (execF P ct n g args ⟨[], 0, k⟩)) = true) :
    Calls P g (args.map (V.den I ρ id)).toArray w (fun e w' => e = .returned (.bool true) ∧ Below w.heap.size w w') :=
  calls_litD (r := .bool true) hm hN hct hh hk hwf rfl (Tree.vc_mono (fun v hv => by rw [isYes_eq hv]; exact ⟨rfl, rfl⟩) (leavesOk_vc hc))
theorem noList (W : World) : (⟨none, 0, []⟩ : Ls).Ok W := ⟨none, 0, rfl, by simp, fun h => absurd h (by simp)⟩
/-- The counts of the examples, both ways around. -/
def sanL : List (List Int × Int × Bool) := [
  (([1, 0, 0, 4, 4, 0, 0] ++ [1, 0, 4, 4, 0, 0, 0], 1, true) : List Int × Int × Bool),
  ([1, 0, 4, 4, 0, 0, 0] ++ [1, 0, 0, 4, 4, 0, 0], 0, false),
  (([1, 0, 0, 4, 4, 0, 0] ++ [1, 2, 2, 9, 9, 0, 0], -1, true) : List Int × Int × Bool),
  ([1, 2, 2, 9, 9, 0, 0] ++ [1, 0, 0, 4, 4, 0, 0], 0, false),
  (([1, 0, 0, 4, 4, 0, 0] ++ [1, 4, 4, 9, 9, 0, 0], 1, true) : List Int × Int × Bool),
  ([1, 4, 4, 9, 9, 0, 0] ++ [1, 0, 0, 4, 4, 0, 0], 0, false),
  (([1, 0, 0, 4, 4, 0, 0] ++ [1, 5, 5, 9, 9, 0, 0], 0, true) : List Int × Int × Bool),
  ([1, 5, 5, 9, 9, 0, 0] ++ [1, 0, 0, 4, 4, 0, 0], 0, true),
  (([2, 5, 0, 0, 5, 0, 0] ++ [1, 0, 0, 3, 4, 0, 0], 1, true) : List Int × Int × Bool),
  ([1, 0, 0, 3, 4, 0, 0] ++ [2, 5, 0, 0, 5, 0, 0], 0, false),
  (([2, 5, 0, 0, 5, 0, 0] ++ [1, 0, 0, 3, 3, 0, 0], 0, true) : List Int × Int × Bool),
  ([1, 0, 0, 3, 3, 0, 0] ++ [2, 5, 0, 0, 5, 0, 0], 0, true),
  (([2, 5, 0, 0, 5, 0, 0] ++ [1, 0, 0, 6, 8, 0, 0], 1, true) : List Int × Int × Bool),
  ([1, 0, 0, 6, 8, 0, 0] ++ [2, 5, 0, 0, 5, 0, 0], 0, false),
  (([2, 5, 0, 0, 5, 0, 0] ++ [1, 5, 0, 0, 5, 0, 0], 2, true) : List Int × Int × Bool),
  ([1, 5, 0, 0, 5, 0, 0] ++ [2, 5, 0, 0, 5, 0, 0], 0, false),
  (([2, 5, 0, 0, 5, 0, 0] ++ [1, 5, -3, 5, 3, 0, 0], 1, true) : List Int × Int × Bool),
  ([1, 5, -3, 5, 3, 0, 0] ++ [2, 5, 0, 0, 5, 0, 0], 0, false),
  (([2, 5, 0, 0, 5, 0, 0] ++ [1, -5, 1, 4, 1, 0, 0], 0, true) : List Int × Int × Bool),
  ([1, -5, 1, 4, 1, 0, 0] ++ [2, 5, 0, 0, 5, 0, 0], 0, true),
  (([2, 5, 0, 0, 5, 0, 0] ++ [1, 1, 6, 6, 1, 0, 0], 2, true) : List Int × Int × Bool),
  ([1, 1, 6, 6, 1, 0, 0] ++ [2, 5, 0, 0, 5, 0, 0], 0, false),
  (([2, 5, 0, 0, 5, 0, 0] ++ [1, -5, 5, 5, 5, 0, 0], 1, true) : List Int × Int × Bool),
  ([1, -5, 5, 5, 5, 0, 0] ++ [2, 5, 0, 0, 5, 0, 0], 0, false),
  (([2, 5, 0, 0, 5, 0, 0] ++ [2, 5, 0, 0, 5, 0, 0], -1, true) : List Int × Int × Bool),
  ([2, 5, 0, 0, 5, 0, 0] ++ [2, 5, 0, 0, 5, 0, 0], 0, false),
  (([2, 5, 0, 0, 5, 0, 0] ++ [2, 0, 5, -5, 0, 0, 0], 1, true) : List Int × Int × Bool),
  ([2, 0, 5, -5, 0, 0, 0] ++ [2, 5, 0, 0, 5, 0, 0], 0, false),
  (([2, 5, 0, 0, 5, 0, 0] ++ [2, -5, 0, 0, -5, 0, 0], 0, true) : List Int × Int × Bool),
  ([2, -5, 0, 0, -5, 0, 0] ++ [2, 5, 0, 0, 5, 0, 0], 0, true),
  (([2, 5, 0, 0, 5, 0, 0] ++ [2, 6, 5, 1, 0, 6, 0], 1, true) : List Int × Int × Bool),
  ([2, 6, 5, 1, 0, 6, 0] ++ [2, 5, 0, 0, 5, 0, 0], 0, false),
  (([2, 5, 0, 0, 5, 0, 0] ++ [2, 0, 5, 5, 0, 5, 5], 2, true) : List Int × Int × Bool),
  ([2, 0, 5, 5, 0, 5, 5] ++ [2, 5, 0, 0, 5, 0, 0], 0, false)]
def countLs : List Int → Int
  | [k, ax, ay, bx, by', cx, cy, k2, px, py, qx, qy, rx, ry] => countZ k ax ay bx by' cx cy k2 px py qx qy rx ry
  | _ => 0
theorem san_all : sanL.all (fun e => decide (countLs e.1 = e.2.1) == e.2.2) = true := by decide +kernel
def sanF : List (B × Bool) := sanL.map fun e => (.eq (.app 12 (tlM (e.1.map .lit))) (.lit e.2.1), e.2.2)
theorem den_lits (I : Interp) (ρ : Env) (l : List Int) : (tlM (l.map .lit)).dens I ρ = l := by
  induction l with
  | nil => rfl
  | cons a l ih => simp only [List.map_cons, tlM, T.dens_cons, T.den_lit, ih]
theorem fi12_eq (l0 l1 : Ls) (l : List Int) : fiL l0 l1 12 l = countLs l := by
  unfold fiL countLs
  split <;> first | rfl | omega | (rename_i h; simp_all) | simp_all
theorem sanF_ok (W : World) (l0 l1 : Ls) (ρ : Env) : ∀ p ∈ sanF, p.1.den (IL W l0 l1) ρ = p.2 := by
  intro p hp
  unfold sanF at hp
  obtain ⟨e, he, rfl⟩ := List.mem_map.1 hp
  have h := List.all_eq_true.1 san_all e he
  show decide ((T.app 12 (tlM (e.1.map .lit))).den (IL W l0 l1) ρ = e.2.1) = e.2.2
  rw [T.den_app, den_lits, il_fi, fi12_eq]
  exact eq_of_beq h
set_option maxRecDepth 1000000 in
theorem san_chk : leavesOk isYes (vals (execF Try.prog ctM 20 8 [] ⟨[], 0, ⟨sanF, [0, 2], 0⟩⟩)) = true := by kernel_rfl
theorem san_c (w : World) : Calls Try.prog 8 #[] w (fun e w' => e = .returned (.bool true) ∧ Below w.heap.size w w') :=
  calls_yes (I := IL w ⟨none, 0, []⟩ ⟨none, 0, []⟩) (ρ := envOf [] []) (args := []) mixed nocount (ctM_ok (noList w) (noList w) _) (hyp_fixed rfl) (draws_ok (n := 0) (sanF_ok _ _ _ _) (fun _ h => absurd h (Nat.not_lt_zero _))) rfl san_chk
end Go.Proofs.Ytmoclgpdcnjacaa.Sx
