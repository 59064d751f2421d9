import Derived.Test.YtgnogdncoljldaaGreatQRlmn
set_option linter.all false
namespace Go.Proofs.YtgnogdncoljldaaGreat.Sx
open Go Go.RowKit
def atF1 : List (B × Bool) := [(.lt (.lit (-1)) (.app 5 (tlM [.var 0, .var 1, .var 2, .var 3, .var 4, .var 5, .var 6])), true), (.lt (.app 5 (tlM [.var 0, .var 1, .var 2, .var 3, .var 4, .var 5, .var 6])) (.lit 1), true)] ++ [1, 2, 3, 4, 5, 6].flatMap fun i => [(.lt (.lit (-201)) (.var i), true), (.lt (.var i) (.lit 201), true)]
set_option maxRecDepth 1000000 in
theorem at_chk1 : leavesOk (ptOk ⟨atF1, [0, 2], 0⟩ (-1100) 1100) (vals (execF Tryz.prog ctM 20 11 [.agg [iv 0, iv 1, iv 2, iv 3, iv 4, iv 5, iv 6], .c (.abs 1 .nil)] ⟨[], 0, ⟨atF1, [0, 2], 0⟩⟩)) = true := by kernel_rfl
theorem at_tree1 : ∃ L, vals (execF Tryz.prog ctM 20 11 [.agg [iv 0, iv 1, iv 2, iv 3, iv 4, iv 5, iv 6], .c (.abs 1 .nil)] ⟨[], 0, ⟨atF1, [0, 2], 0⟩⟩) = L ∧ leavesOk (ptOk ⟨atF1, [0, 2], 0⟩ (-1100) 1100) L = true := ⟨_, rfl, at_chk1⟩
theorem radius_one (ax ay bx by' cx cy : Int) : radiusZ 1 ax ay bx by' cx cy = 0 := by
 unfold radiusZ
 rw [if_neg (fun h => h.1 rfl)]
theorem at_ex1 {W : World} {l0 l1 : Ls} (h0 : l0.Ok W) (h1 : l1.Ok W) (ax ay bx by' cx cy : Int) (hb : -200 ≤ ax ∧ ax ≤ 200 ∧ -200 ≤ ay ∧ ay ≤ 200 ∧ -200 ≤ bx ∧ bx ≤ 200 ∧ -200 ≤ by' ∧ by' ≤ 200 ∧ -200 ≤ cx ∧ cx ≤ 200 ∧ -200 ≤ cy ∧ cy ≤ 200) :
  ∃ px py : Int, (-1100 ≤ px ∧ px ≤ 1100 ∧ -1100 ≤ py ∧ py ≤ 1100) ∧ ∀ w, Hyp (IL W l0 l1) w (fun _ => False) →
    Calls Tryz.prog 11 #[.agg #[.int .i64 1, .int .i64 ax, .int .i64 ay, .int .i64 bx, .int .i64 by', .int .i64 cx, .int .i64 cy], l1.v] w (fun e w' => e = .returned (.agg #[.int .i64 px, .int .i64 py]) ∧ Below w.heap.size w w') := by
 have hk : (⟨atF1, [0, 2], 0⟩ : Known).Ok (IL W l0 l1) (envOf [1, ax, ay, bx, by', cx, cy] []) := by
  refine draws_ok (n := 0) ?_ (fun _ h => absurd h (Nat.not_lt_zero _))
  have hr := radius_one ax ay bx by' cx cy
  intro p hp
  simp only [atF1, List.flatMap_cons, List.flatMap_nil, List.cons_append, List.nil_append, List.append_nil, List.mem_cons, List.not_mem_nil, or_false] at hp
  rcases hp with rfl | rfl | rfl | rfl | rfl | rfl | rfl | rfl | rfl | rfl | rfl | rfl | rfl | rfl <;>
   simp only [B.lt_t, T.den_lit, T.den_var, T.den_app, tlM, T.dens_cons, T.dens_nil, il_fi, fi5, envOf, List.getD_cons_zero, List.getD_cons_succ] <;> omega
 obtain ⟨L, hL, hchk⟩ := at_tree1
 have hv : L.vc (IL W l0 l1) (envOf [1, ax, ay, bx, by', cx, cy] []) (fun v => v.wf 0 = true ∧ ∃ px py : Int, v.den (IL W l0 l1) (envOf [1, ax, ay, bx, by', cx, cy] []) id = .agg #[.int .i64 px, .int .i64 py] ∧ (-1100 ≤ px ∧ px ≤ 1100 ∧ -1100 ≤ py ∧ py ≤ 1100)) := by
  refine Tree.vc_mono (fun v hv => ?_) (leavesOk_vc hchk)
  unfold ptOk at hv
  split at hv
  ·rename_i x y
   simp only [Bool.and_eq_true] at hv
   have a := inB_ok hk hv.1
   have b := inB_ok hk hv.2
   exact ⟨rfl, _, _, rfl, a.1, a.2, b.1, b.2⟩
  ·cases hv
 obtain ⟨r, ⟨px, py, rfl, hp⟩, hc⟩ := calls_ex (G := fun r => ∃ px py : Int, r = .agg #[.int .i64 px, .int .i64 py] ∧ (-1100 ≤ px ∧ px ≤ 1100 ∧ -1100 ≤ py ∧ py ≤ 1100)) mixed nocount (ctM_ok h0 h1 _) hk (n := 20) (g := 11) (args := [.agg [iv 0, iv 1, iv 2, iv 3, iv 4, iv 5, iv 6], .c (.abs 1 .nil)]) rfl hL hv
 exact ⟨px, py, hp, hc⟩
end Go.Proofs.YtgnogdncoljldaaGreat.Sx

