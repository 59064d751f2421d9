import Derived.Test.YtgnogdncoljldaaGreatQRlmn
import Derived.Test.YtgnogdncoljldaaGreatQBC
set_option linter.all false
set_option autoImplicit false
namespace Go.Proofs.YtgnogdncoljldaaGreat.Sx
open Go Go.RowKit
def eqL : List T → List Int → Bool
 | [], [] => true
 | .lit a :: r, b :: s => intSame a b && eqL r s
 | _, _ => false
theorem eqL_ok {I : Interp} {ρ : Env} : ∀ {ts : List T} {l : List Int}, eqL ts l = true → ts.map (T.den I ρ) = l
 | [], [], _ => rfl
 | .lit a :: r, b :: s, h => by
   simp only [eqL, Bool.and_eq_true, intSame_eq] at h
   obtain ⟨rfl, h⟩ := h
   rw [List.map_cons, eqL_ok h]
   rfl
 | .var _ :: _, _, h | .wrap _ _ :: _, _, h | .bin _ _ _ :: _, _, h | .app _ _ :: _, _, h | .cons _ _ :: _, _, h | .nil :: _, _, h => by simp [eqL] at h
 | [], _ :: _, h => by simp [eqL] at h
 | .lit _ :: _, [], h => by simp [eqL] at h
def eqLL : List (List T) → List (List Int) → Bool
 | [], [] => true
 | a :: r, b :: s => eqL a b && eqLL r s
 | _, _ => false
theorem eqLL_ok {I : Interp} {ρ : Env} : ∀ {ts : List (List T)} {l : List (List Int)}, eqLL ts l = true → ts.map (List.map (T.den I ρ)) = l
 | [], [], _ => rfl
 | a :: r, b :: s, h => by
   simp only [eqLL, Bool.and_eq_true] at h
   rw [List.map_cons, eqL_ok h.1, eqLL_ok h.2]
 | [], _ :: _, h => by simp [eqLL] at h
 | _ :: _, [], h => by simp [eqLL] at h
def litFor : List (List (List Int) × RT) → List (List T) → Option RT
 | [], _ => none
 | p :: q, ts => bif eqLL ts p.1 then some p.2 else litFor q ts
theorem litFor_mem {I : Interp} {ρ : Env} {ts : List (List T)} {r : RT} : ∀ {l : List (List (List Int) × RT)}, litFor l ts = some r → ∃ a, (a, r) ∈ l ∧ ts.map (List.map (T.den I ρ)) = a
 | [], h => by cases h
 | p :: q, h => by
   unfold litFor at h
   cases hb : eqLL ts p.1 with
   | true =>
     rw [hb] at h
     injection h with h
     subst h
     exact ⟨p.1, .head _, eqLL_ok hb⟩
   | false =>
     rw [hb] at h
     obtain ⟨a, h1, h2⟩ := litFor_mem h
     exact ⟨a, .tail _ h1, h2⟩
def fnLit (g : FuncId) (kinds : List Kr) (l : List (List (List Int) × RT)) : FnR := ⟨g, kinds, fun _ ts => litFor l ts⟩
theorem fnLit_ok {P : Program} {I : Interp} {ρ : Env} {g : FuncId} {kinds : List Kr} {l : List (List (List Int) × RT)} (hc : ∀ p ∈ l, ∀ (w : World) (vs : List Value), RArgs w kinds vs p.1 → Calls P g vs.toArray w (fun x w' => p.2.Gives I ρ x w' ∧ Below w.heap.size w w')) : (fnLit g kinds l).Ok P I ρ := by
 intro k ts r hk hv w vs ha
 obtain ⟨a, h1, h2⟩ := litFor_mem (I := I) (ρ := ρ) hv
 rw [h2] at ha
 exact hc _ h1 w vs ha
theorem two_ints {w : World} {vs : List Value} {a b : List Int} (h : RArgs w [.ints, .ints] vs [a, b]) : vs = [.agg (a.map (Value.int .i64)).toArray, .agg (b.map (Value.int .i64)).toArray] := by
 obtain ⟨v1, r1, z1, y1, rfl, e1, k1, ha⟩ := RArgs.cons h
 obtain ⟨v2, r2, z2, y2, rfl, e2, k2, ha⟩ := RArgs.cons ha
 obtain ⟨rfl, rfl⟩ := RArgs.nil ha
 injection e1 with e1 e1'
 subst e1'
 injection e2 with e2 e2'
 subst e1 e2
 rw [k1.ints, k2.ints]
def ed0R : RT := ⟨[(.lit 9), (.lit 1)], .tup [(true, [.int .i64 (.lit 0), .int .i64 (.lit 1), .bool (.lt (.lit 9) (.lit 0)), .opq 0, .bool (.lt (.lit 1) (.lit 0)), .opq 1]), (true, [.int .i64 (.lit 0), .int .i64 (.lit 0), .int .i64 (.lit 10), .int .i64 (.lit 0), .int .i64 (.lit 20), .int .i64 (.lit 100), .int .i64 (.lit 0)]), (true, [.int .i64 (.lit 2), .int .i64 (.lit 3), .int .i64 (.lit 0), .int .i64 (.lit 0), .int .i64 (.lit 0), .int .i64 (.lit 1), .int .i64 (.lit 0)])]⟩
set_option maxRecDepth 1000000 in
theorem ed0_tree : resR (execF Tryz.prog ctSan 20 17 [.agg [.int .i64 (.lit (1)), .int .i64 (.lit (0)), .int .i64 (.lit (0)), .int .i64 (.lit (10)), .int .i64 (.lit (0)), .int .i64 (.lit (0)), .int .i64 (.lit (0))], .agg [.int .i64 (.lit (1)), .int .i64 (.lit (2)), .int .i64 (.lit (3)), .int .i64 (.lit (12)), .int .i64 (.lit (8)), .int .i64 (.lit (0)), .int .i64 (.lit (0))]] (startN 0 ⟨[], [], 0⟩)) = .leaf ed0R := by kernel_rfl
def ed1R : RT := ⟨[(.lit 200), (.lit 1)], .tup [(true, [.int .i64 (.lit (-10)), .int .i64 (.lit 1), .bool (.lt (.lit 200) (.lit 0)), .opq 0, .bool (.lt (.lit 1) (.lit 0)), .opq 1]), (true, [.int .i64 (.lit 0), .int .i64 (.lit 0), .int .i64 (.lit 20), .int .i64 (.lit 20), .int .i64 (.lit 0), .int .i64 (.lit 0), .int .i64 (.lit 10)]), (true, [.int .i64 (.lit 20), .int .i64 (.lit 0), .int .i64 (.lit (-20)), .int .i64 (.lit 20), .int .i64 (.lit 400), .int .i64 (.lit 800), .int .i64 (.lit 0)])]⟩
set_option maxRecDepth 1000000 in
theorem ed1_tree : resR (execF Tryz.prog ctSan 20 17 [.agg [.int .i64 (.lit (2)), .int .i64 (.lit (10)), .int .i64 (.lit (0)), .int .i64 (.lit (0)), .int .i64 (.lit (10)), .int .i64 (.lit (0)), .int .i64 (.lit (0))], .agg [.int .i64 (.lit (1)), .int .i64 (.lit (20)), .int .i64 (.lit (0)), .int .i64 (.lit (0)), .int .i64 (.lit (20)), .int .i64 (.lit (0)), .int .i64 (.lit (0))]] (startN 0 ⟨[], [], 0⟩)) = .leaf ed1R := by kernel_rfl
def ed2R : RT := ⟨[(.lit 800), (.lit 1)], .tup [(true, [.int .i64 (.lit (-15)), .int .i64 (.lit 1), .bool (.lt (.lit 800) (.lit 0)), .opq 0, .bool (.lt (.lit 1) (.lit 0)), .opq 1]), (true, [.int .i64 (.lit 0), .int .i64 (.lit 0), .int .i64 (.lit 20), .int .i64 (.lit 20), .int .i64 (.lit 0), .int .i64 (.lit 0), .int .i64 (.lit 10)]), (true, [.int .i64 (.lit 20), .int .i64 (.lit 20), .int .i64 (.lit (-20)), .int .i64 (.lit (-20)), .int .i64 (.lit 0), .int .i64 (.lit 0), .int .i64 (.lit 5)])]⟩
set_option maxRecDepth 1000000 in
theorem ed2_tree : resR (execF Tryz.prog ctSan 20 17 [.agg [.int .i64 (.lit (2)), .int .i64 (.lit (10)), .int .i64 (.lit (0)), .int .i64 (.lit (0)), .int .i64 (.lit (10)), .int .i64 (.lit (0)), .int .i64 (.lit (0))], .agg [.int .i64 (.lit (2)), .int .i64 (.lit (15)), .int .i64 (.lit (20)), .int .i64 (.lit (20)), .int .i64 (.lit (15)), .int .i64 (.lit (20)), .int .i64 (.lit (20))]] (startN 0 ⟨[], [], 0⟩)) = .leaf ed2R := by kernel_rfl
def ed3R : RT := ⟨[], .tup [(true, [.int .i64 (.lit 0), .int .i64 (.lit 0), .bool (.lit false), .nils, .bool (.lit false), .nils]), (true, [.int .i64 (.lit 0), .int .i64 (.lit 0), .int .i64 (.lit 0), .int .i64 (.lit 0), .int .i64 (.lit 0), .int .i64 (.lit 0), .int .i64 (.lit 0)]), (true, [.int .i64 (.lit 0), .int .i64 (.lit 0), .int .i64 (.lit 0), .int .i64 (.lit 0), .int .i64 (.lit 0), .int .i64 (.lit 0), .int .i64 (.lit 0)])]⟩
set_option maxRecDepth 1000000 in
theorem ed3_tree : resR (execF Tryz.prog ctSan 20 17 [.agg [.int .i64 (.lit (2)), .int .i64 (.lit (10)), .int .i64 (.lit (0)), .int .i64 (.lit (0)), .int .i64 (.lit (10)), .int .i64 (.lit (0)), .int .i64 (.lit (0))], .agg [.int .i64 (.lit (1)), .int .i64 (.lit (0)), .int .i64 (.lit (0)), .int .i64 (.lit (10)), .int .i64 (.lit (0)), .int .i64 (.lit (0)), .int .i64 (.lit (0))]] (startN 0 ⟨[], [], 0⟩)) = .leaf ed3R := by kernel_rfl
end Go.Proofs.YtgnogdncoljldaaGreat.Sx
set_option autoImplicit false
namespace Go.Proofs.YtgnogdncoljldaaGreat.Sx
open Go Go.RowKit
section
variable {W : World} {l0 l1 : Ls}
theorem ed0_c (ρ : Env) (w : World) : Calls Tryz.prog 17 #[.agg #[.int .i64 (1), .int .i64 (0), .int .i64 (0), .int .i64 (10), .int .i64 (0), .int .i64 (0), .int .i64 (0)], .agg #[.int .i64 (1), .int .i64 (2), .int .i64 (3), .int .i64 (12), .int .i64 (8), .int .i64 (0), .int .i64 (0)]] w (fun x w' => ed0R.Gives (IL W l0 l1) ρ x w' ∧ Below w.heap.size w w') := by
 refine (@calls_numR Tryz.prog (IL w ⟨none, 0, []⟩ ⟨none, 0, []⟩) (envOf [] []) mixedR nocountR rfl ctSan (ctSan_ok _) 20 17 [.agg [.int .i64 (.lit (1)), .int .i64 (.lit (0)), .int .i64 (.lit (0)), .int .i64 (.lit (10)), .int .i64 (.lit (0)), .int .i64 (.lit (0)), .int .i64 (.lit (0))], .agg [.int .i64 (.lit (1)), .int .i64 (.lit (2)), .int .i64 (.lit (3)), .int .i64 (.lit (12)), .int .i64 (.lit (8)), .int .i64 (.lit (0)), .int .i64 (.lit (0))]] 0 ⟨[], [], 0⟩ [] _ w (fun x w' => ed0R.Gives (IL w ⟨none, 0, []⟩ ⟨none, 0, []⟩) (envOf [] []) x w') (.leaf ed0R) (hyp_fixed rfl)
   ⟨(fun _ h => nomatch h), (fun _ h => nomatch h), fun _ h => absurd h (Nat.not_lt_zero _)⟩ rfl nou rfl (fun β _ => rfl) ed0_tree (fun x w' h => h)).mono ?_
 rintro x w' ⟨⟨β, h1, rfl⟩, hb⟩
 refine ⟨⟨β, fun j t hj => ?_, rfl⟩, hb⟩
 have h := h1 j t hj
 match j, hj, h with
  | 0, hj, h => injection hj with hj; subst hj; exact h
  | 1, hj, h => injection hj with hj; subst hj; exact h
theorem ed1_c (ρ : Env) (w : World) : Calls Tryz.prog 17 #[.agg #[.int .i64 (2), .int .i64 (10), .int .i64 (0), .int .i64 (0), .int .i64 (10), .int .i64 (0), .int .i64 (0)], .agg #[.int .i64 (1), .int .i64 (20), .int .i64 (0), .int .i64 (0), .int .i64 (20), .int .i64 (0), .int .i64 (0)]] w (fun x w' => ed1R.Gives (IL W l0 l1) ρ x w' ∧ Below w.heap.size w w') := by
 refine (@calls_numR Tryz.prog (IL w ⟨none, 0, []⟩ ⟨none, 0, []⟩) (envOf [] []) mixedR nocountR rfl ctSan (ctSan_ok _) 20 17 [.agg [.int .i64 (.lit (2)), .int .i64 (.lit (10)), .int .i64 (.lit (0)), .int .i64 (.lit (0)), .int .i64 (.lit (10)), .int .i64 (.lit (0)), .int .i64 (.lit (0))], .agg [.int .i64 (.lit (1)), .int .i64 (.lit (20)), .int .i64 (.lit (0)), .int .i64 (.lit (0)), .int .i64 (.lit (20)), .int .i64 (.lit (0)), .int .i64 (.lit (0))]] 0 ⟨[], [], 0⟩ [] _ w (fun x w' => ed1R.Gives (IL w ⟨none, 0, []⟩ ⟨none, 0, []⟩) (envOf [] []) x w') (.leaf ed1R) (hyp_fixed rfl)
   ⟨(fun _ h => nomatch h), (fun _ h => nomatch h), fun _ h => absurd h (Nat.not_lt_zero _)⟩ rfl nou rfl (fun β _ => rfl) ed1_tree (fun x w' h => h)).mono ?_
 rintro x w' ⟨⟨β, h1, rfl⟩, hb⟩
 refine ⟨⟨β, fun j t hj => ?_, rfl⟩, hb⟩
 have h := h1 j t hj
 match j, hj, h with
  | 0, hj, h => injection hj with hj; subst hj; exact h
  | 1, hj, h => injection hj with hj; subst hj; exact h
theorem ed2_c (ρ : Env) (w : World) : Calls Tryz.prog 17 #[.agg #[.int .i64 (2), .int .i64 (10), .int .i64 (0), .int .i64 (0), .int .i64 (10), .int .i64 (0), .int .i64 (0)], .agg #[.int .i64 (2), .int .i64 (15), .int .i64 (20), .int .i64 (20), .int .i64 (15), .int .i64 (20), .int .i64 (20)]] w (fun x w' => ed2R.Gives (IL W l0 l1) ρ x w' ∧ Below w.heap.size w w') := by
 refine (@calls_numR Tryz.prog (IL w ⟨none, 0, []⟩ ⟨none, 0, []⟩) (envOf [] []) mixedR nocountR rfl ctSan (ctSan_ok _) 20 17 [.agg [.int .i64 (.lit (2)), .int .i64 (.lit (10)), .int .i64 (.lit (0)), .int .i64 (.lit (0)), .int .i64 (.lit (10)), .int .i64 (.lit (0)), .int .i64 (.lit (0))], .agg [.int .i64 (.lit (2)), .int .i64 (.lit (15)), .int .i64 (.lit (20)), .int .i64 (.lit (20)), .int .i64 (.lit (15)), .int .i64 (.lit (20)), .int .i64 (.lit (20))]] 0 ⟨[], [], 0⟩ [] _ w (fun x w' => ed2R.Gives (IL w ⟨none, 0, []⟩ ⟨none, 0, []⟩) (envOf [] []) x w') (.leaf ed2R) (hyp_fixed rfl)
   ⟨(fun _ h => nomatch h), (fun _ h => nomatch h), fun _ h => absurd h (Nat.not_lt_zero _)⟩ rfl nou rfl (fun β _ => rfl) ed2_tree (fun x w' h => h)).mono ?_
 rintro x w' ⟨⟨β, h1, rfl⟩, hb⟩
 refine ⟨⟨β, fun j t hj => ?_, rfl⟩, hb⟩
 have h := h1 j t hj
 match j, hj, h with
  | 0, hj, h => injection hj with hj; subst hj; exact h
  | 1, hj, h => injection hj with hj; subst hj; exact h
theorem ed3_c (ρ : Env) (w : World) : Calls Tryz.prog 17 #[.agg #[.int .i64 (2), .int .i64 (10), .int .i64 (0), .int .i64 (0), .int .i64 (10), .int .i64 (0), .int .i64 (0)], .agg #[.int .i64 (1), .int .i64 (0), .int .i64 (0), .int .i64 (10), .int .i64 (0), .int .i64 (0), .int .i64 (0)]] w (fun x w' => ed3R.Gives (IL W l0 l1) ρ x w' ∧ Below w.heap.size w w') := by
 refine (@calls_numR Tryz.prog (IL w ⟨none, 0, []⟩ ⟨none, 0, []⟩) (envOf [] []) mixedR nocountR rfl ctSan (ctSan_ok _) 20 17 [.agg [.int .i64 (.lit (2)), .int .i64 (.lit (10)), .int .i64 (.lit (0)), .int .i64 (.lit (0)), .int .i64 (.lit (10)), .int .i64 (.lit (0)), .int .i64 (.lit (0))], .agg [.int .i64 (.lit (1)), .int .i64 (.lit (0)), .int .i64 (.lit (0)), .int .i64 (.lit (10)), .int .i64 (.lit (0)), .int .i64 (.lit (0)), .int .i64 (.lit (0))]] 0 ⟨[], [], 0⟩ [] _ w (fun x w' => ed3R.Gives (IL w ⟨none, 0, []⟩ ⟨none, 0, []⟩) (envOf [] []) x w') (.leaf ed3R) (hyp_fixed rfl)
   ⟨(fun _ h => nomatch h), (fun _ h => nomatch h), fun _ h => absurd h (Nat.not_lt_zero _)⟩ rfl nou rfl (fun β _ => rfl) ed3_tree (fun x w' h => h)).mono ?_
 rintro x w' ⟨⟨β, h1, rfl⟩, hb⟩
 refine ⟨⟨β, fun j t hj => ?_, rfl⟩, hb⟩
 have h := h1 j t hj
 exact absurd hj (by simp [ed3R])
end
def edL : List (List (List Int) × RT) := [([[1, 0, 0, 10, 0, 0, 0], [1, 2, 3, 12, 8, 0, 0]], ed0R), ([[2, 10, 0, 0, 10, 0, 0], [1, 20, 0, 0, 20, 0, 0]], ed1R), ([[2, 10, 0, 0, 10, 0, 0], [2, 15, 20, 20, 15, 20, 20]], ed2R), ([[2, 10, 0, 0, 10, 0, 0], [1, 0, 0, 10, 0, 0, 0]], ed3R)]
def ctSan2 : CT := ctOr (ctFn [fnLit 17 [.ints, .ints] edL]) ctSan
theorem ctSan2_ok {W : World} {l0 l1 : Ls} (ρ : Env) : CTOk Tryz.prog (IL W l0 l1) ρ ctSan2 := by
 refine ctOr_ok (ctFn_ok rfl fun e he => ?_) (ctSan_ok ρ)
 simp only [List.mem_cons, List.not_mem_nil, or_false] at he
 subst he
 refine fnLit_ok fun p hp w vs ha => ?_
 simp only [edL, List.mem_cons, List.not_mem_nil, or_false] at hp
 rcases hp with rfl | rfl | rfl | rfl
 ·rw [two_ints ha]; exact ed0_c ρ w
 ·rw [two_ints ha]; exact ed1_c ρ w
 ·rw [two_ints ha]; exact ed2_c ρ w
 ·rw [two_ints ha]; exact ed3_c ρ w
end Go.Proofs.YtgnogdncoljldaaGreat.Sx
namespace Go.Proofs.YtgnogdncoljldaaGreat.Sx
open Go Go.RowKit
def isYes : V → Bool
 | .c (.bool (.lit true)) => true
 | _ => false
theorem isYes_eq {v : V} (h : isYes v = true) : v = .c (.bool (.lit true)) := by
 unfold isYes at h
 split at h
 ·rfl
 ·cases h
theorem calls_yes {P : Program} {I : Interp} {ρ : Env} (hm : P.follows .mixedOrders = true) (hN : NoCount P) {ct : CT} (hct : CTOk P I ρ ct) {n : Nat} {g : FuncId} {args : List V} {k : Known} {w : World}
  (hh : Hyp I w fun _ => False) (hk : k.Ok I ρ) (hwf : (args.all (V.wf 0)) = true) (hc : leavesOk isYes (vals (execF P ct n g args ⟨[], 0, k⟩)) = true) :
  Calls P g (args.map (V.den I ρ id)).toArray w (fun e w' => e = .returned (.bool true) ∧ Below w.heap.size w w') :=
 calls_litD (r := .bool true) hm hN hct hh hk hwf rfl (Tree.vc_mono (fun v hv => by rw [isYes_eq hv]; exact ⟨rfl, rfl⟩) (leavesOk_vc hc))
set_option maxRecDepth 1000000 in
theorem san_chk : leavesOk isYes (vals (execF Tryz.prog ctSan2 20 9 [] ⟨[], 0, ⟨[], [0, 2], 0⟩⟩)) = true := by kernel_rfl
theorem san_c (w : World) : Calls Tryz.prog 9 #[] w (fun e w' => e = .returned (.bool true) ∧ Below w.heap.size w w') :=
 calls_yes (I := IL w ⟨none, 0, []⟩ ⟨none, 0, []⟩) (ρ := envOf [] []) (args := []) mixedR nocountR (ctSan2_ok _) (hyp_fixed rfl) (draws_ok (l := []) (n := 0) (fun _ h => nomatch h) (fun _ h => absurd h (Nat.not_lt_zero _))) rfl san_chk
def sanE : Ent := ⟨9, [], .c (.bool (.lit true))⟩
def entX : List Ent := [sanE, ⟨10, [.c (.abs 0 .nil)], .agg [iv 0, iv 1, iv 2, iv 3, iv 4, iv 5, iv 6]⟩, ⟨11, [.agg [iv 0, iv 1, iv 2, iv 3, iv 4, iv 5, iv 6], .c (.abs 1 .nil)], .agg [iv 7, iv 8]⟩]
section
variable {W : World} {l0 l1 : Ls} (h0 : l0.Ok W) (h1 : l1.Ok W) (ρ : Env)
def entOk (W : World) (l0 l1 : Ls) (ρ : Env) (e : Ent) : Prop := e.v.wf 0 = true ∧ e.args.all (V.wf 0) = true ∧ ∀ w, Hyp (IL W l0 l1) w (fun _ => False) → Calls Tryz.prog e.g (e.args.map (V.den (IL W l0 l1) ρ id)).toArray w (fun x w' => x = .returned (e.v.den (IL W l0 l1) ρ id) ∧ Below w.heap.size w w')
theorem sanE_ok : entOk W l0 l1 ρ sanE := ⟨rfl, rfl, fun w _ => san_c w⟩
include h0 h1
omit h0 h1
end
end Go.Proofs.YtgnogdncoljldaaGreat.Sx

