import Derived.Test.YtliimpbbppbghaaUTf
set_option linter.all false
set_option autoImplicit false
namespace Go.Proofs.Ytliimpbbppbghaa.Sx
open Go Go.RowKit
def atF : List (B × Bool) := [(.lt (.lit (-1)) (.app 5 (tl [.var 0, .var 1, .var 2, .var 3, .var 4, .var 5, .var 6])), true), (.lt (.app 5 (tl [.var 0, .var 1, .var 2, .var 3, .var 4, .var 5, .var 6])) (.lit 4001), true)] ++ [1, 2, 3, 4, 5, 6].flatMap fun i => [(.lt (.lit (-901)) (.var i), true), (.lt (.var i) (.lit 901), true)]
def ptOk (k : Known) (lo hi : Int) : V → Bool
  | .agg [.int .i64 x, .int .i64 y] => inB k x lo hi && inB k y lo hi
  | _ => false
set_option maxRecDepth 1000000 in
theorem at06_chk : leavesOk (ptOk ⟨atF, [0, 20, 21, 24, 25], 0⟩ (-200000) 200000) (vals (execF Try.prog ctG 20 34 [.agg [iv 0, iv 1, iv 2, iv 3, iv 4, iv 5, iv 6], .c (.abs 0 .nil)] ⟨[], 0, ⟨atF, [0, 20, 21, 24, 25], 0⟩⟩)) = true := by kernel_rfl
theorem at06_tree : ∃ L, vals (execF Try.prog ctG 20 34 [.agg [iv 0, iv 1, iv 2, iv 3, iv 4, iv 5, iv 6], .c (.abs 0 .nil)] ⟨[], 0, ⟨atF, [0, 20, 21, 24, 25], 0⟩⟩) = L ∧ leavesOk (ptOk ⟨atF, [0, 20, 21, 24, 25], 0⟩ (-200000) 200000) L = true := ⟨_, rfl, at06_chk⟩
theorem radius_in {k ax ay bx by' cx cy : Int} (h : -900 ≤ ax ∧ ax ≤ 900 ∧ -900 ≤ ay ∧ ay ≤ 900 ∧ -900 ≤ cx ∧ cx ≤ 900 ∧ -900 ≤ cy ∧ cy ≤ 900) : 0 ≤ radiusZ k ax ay bx by' cx cy ∧ radiusZ k ax ay bx by' cx cy ≤ 4000 := by
  unfold radiusZ
  split <;> omega
theorem at06_ex {W : World} {l : Ls} (h0 : l.Ok W) {e : E7} (hb : e.small) :
    ∃ px py : Int, (-200000 ≤ px ∧ px ≤ 200000 ∧ -200000 ≤ py ∧ py ≤ 200000) ∧ ∀ w, Hyp (IS W l) w (fun _ => False) →
      Calls Try.prog 34 #[e.val, l.v] w (fun e w' => e = .returned (.agg #[.int .i64 px, .int .i64 py]) ∧ Below w.heap.size w w') := by
  obtain ⟨k, ax, ay, bx, by', cx, cy⟩ := e
  obtain ⟨b1, b2, b3, b4, b5, b6⟩ := hb
  dsimp only at b1 b2 b3 b4 b5 b6
  have hk : (⟨atF, [0, 20, 21, 24, 25], 0⟩ : Known).Ok (IS W l) (envOf [k, ax, ay, bx, by', cx, cy] []) := by
    refine drawsS_ok ?_ (fun _ h => absurd h (Nat.not_lt_zero _))
    have hr := radius_in (k := k) (bx := bx) (by' := by') (show -900 ≤ ax ∧ ax ≤ 900 ∧ -900 ≤ ay ∧ ay ≤ 900 ∧ -900 ≤ cx ∧ cx ≤ 900 ∧ -900 ≤ cy ∧ cy ≤ 900 by omega)
    intro p hp
    simp only [atF, List.flatMap_cons, List.flatMap_nil, List.cons_append, List.nil_append, List.append_nil, List.mem_cons, List.not_mem_nil, or_false] at hp
    rcases hp with rfl | rfl | rfl | rfl | rfl | rfl | rfl | rfl | rfl | rfl | rfl | rfl | rfl | rfl <;>
      simp only [B.lt_t, T.den_lit, T.den_var, T.den_app, tl, T.dens_cons, T.dens_nil, is_fi, fs5, envOf, List.getD_cons_zero, List.getD_cons_succ] <;> omega
  obtain ⟨L, hL, hchk⟩ := at06_tree
  have hv : L.vc (IS W l) (envOf [k, ax, ay, bx, by', cx, cy] []) (fun v => v.wf 0 = true ∧ ∃ px py : Int, v.den (IS W l) (envOf [k, ax, ay, bx, by', cx, cy] []) id = .agg #[.int .i64 px, .int .i64 py] ∧ (-200000 ≤ px ∧ px ≤ 200000 ∧ -200000 ≤ py ∧ py ≤ 200000)) := by
    refine Tree.vc_mono (fun v hv => ?_) (leavesOk_vc hchk)
    unfold ptOk at hv
    split at hv
    · rename_i x y
      simp only [Bool.and_eq_true] at hv
      have a := inB_ok hk hv.1
      have b := inB_ok hk hv.2
      exact ⟨rfl, _, _, rfl, a.1, a.2, b.1, b.2⟩
    · cases hv
  obtain ⟨r, ⟨px, py, rfl, hp⟩, hc⟩ := calls_ex (G := fun r => ∃ px py : Int, r = .agg #[.int .i64 px, .int .i64 py] ∧ (-200000 ≤ px ∧ px ≤ 200000 ∧ -200000 ≤ py ∧ py ≤ 200000)) mixed nocount (ctG_ok h0 _) hk (n := 20) (g := 34) (args := [.agg [iv 0, iv 1, iv 2, iv 3, iv 4, iv 5, iv 6], .c (.abs 0 .nil)]) rfl hL hv
  exact ⟨px, py, hp, hc⟩
end Go.Proofs.Ytliimpbbppbghaa.Sx

