/- The points that numbers make. -/
import Derived.Test.YtpmdmcdjhibblaaEdB
set_option linter.all false
namespace Go.Proofs.Ytpmdmcdjhibblaa.Sx
open Go Go.RowKit

theorem at_tree : ∃ L, vals (execF Try.prog ctM 20 24 [.agg [iv 0, iv 1, iv 2, iv 3, iv 4, iv 5, iv 6], .c (.abs 1 .nil)] ⟨[], 0, ⟨atF, [0, 2], 0⟩⟩) = L ∧ leavesOk (ptOk ⟨atF, [0, 2], 0⟩ (-200000) 200000) L = true := ⟨_, rfl, at_chk⟩
theorem radius_in {k ax ay bx by' cx cy : Int} (h : -1000 ≤ ax ∧ ax ≤ 1000 ∧ -1000 ≤ ay ∧ ay ≤ 1000 ∧ -1000 ≤ cx ∧ cx ≤ 1000 ∧ -1000 ≤ cy ∧ cy ≤ 1000) : 0 ≤ radiusZ k ax ay bx by' cx cy ∧ radiusZ k ax ay bx by' cx cy ≤ 4000 := by
  unfold radiusZ
  split <;> omega
theorem at_ex {W : World} {l0 l1 : Ls} (h0 : l0.Ok W) (h1 : l1.Ok W) (k ax ay bx by' cx cy : Int) (hb : -1000 ≤ ax ∧ ax ≤ 1000 ∧ -1000 ≤ ay ∧ ay ≤ 1000 ∧ -1000 ≤ bx ∧ bx ≤ 1000 ∧ -1000 ≤ by' ∧ by' ≤ 1000 ∧ -1000 ≤ cx ∧ cx ≤ 1000 ∧ -1000 ≤ cy ∧ cy ≤ 1000) :
    ∃ px py : Int, (-200000 ≤ px ∧ px ≤ 200000 ∧ -200000 ≤ py ∧ py ≤ 200000) ∧ ∀ w, Hyp (IL W l0 l1) w (fun _ => False) →
      Calls Try.prog 24 #[.agg #[.int .i64 k, .int .i64 ax, .int .i64 ay, .int .i64 bx, .int .i64 by', .int .i64 cx, .int .i64 cy], l1.v] w (fun e w' => e = .returned (.agg #[.int .i64 px, .int .i64 py]) ∧ Below w.heap.size w w') := by
  have hk : (⟨atF, [0, 2], 0⟩ : Known).Ok (IL W l0 l1) (envOf [k, ax, ay, bx, by', cx, cy] []) := by
    refine draws_ok (n := 0) ?_ (fun _ h => absurd h (Nat.not_lt_zero _))
    have hr := radius_in (k := k) (bx := bx) (by' := by') (show -1000 ≤ ax ∧ ax ≤ 1000 ∧ -1000 ≤ ay ∧ ay ≤ 1000 ∧ -1000 ≤ cx ∧ cx ≤ 1000 ∧ -1000 ≤ cy ∧ cy ≤ 1000 by omega)
    intro p hp
    simp only [atF, List.flatMap_cons, List.flatMap_nil, List.cons_append, List.nil_append, List.append_nil, List.mem_cons, List.not_mem_nil, or_false] at hp
    rcases hp with rfl | rfl | rfl | rfl | rfl | rfl | rfl | rfl | rfl | rfl | rfl | rfl | rfl | rfl <;>
      simp only [B.lt_t, T.den_lit, T.den_var, T.den_app, tl, T.dens_cons, T.dens_nil, il_fi, fi5, envOf, List.getD_cons_zero, List.getD_cons_succ] <;> omega
  obtain ⟨L, hL, hchk⟩ := at_tree
  have hv : L.vc (IL W l0 l1) (envOf [k, ax, ay, bx, by', cx, cy] []) (fun v => v.wf 0 = true ∧ ∃ px py : Int, v.den (IL W l0 l1) (envOf [k, ax, ay, bx, by', cx, cy] []) id = .agg #[.int .i64 px, .int .i64 py] ∧ (-200000 ≤ px ∧ px ≤ 200000 ∧ -200000 ≤ py ∧ py ≤ 200000)) := by
    refine Tree.vc_mono (fun v hv => ?_) (leavesOk_vc hchk)
    unfold ptOk at hv
    split at hv
    · rename_i x y
      simp only [Bool.and_eq_true] at hv
      have a := inB_ok hk hv.1
      have b := inB_ok hk hv.2
      exact ⟨rfl, _, _, rfl, a.1, a.2, b.1, b.2⟩
    · cases hv
  obtain ⟨r, ⟨px, py, rfl, hp⟩, hc⟩ := calls_ex (G := fun r => ∃ px py : Int, r = .agg #[.int .i64 px, .int .i64 py] ∧ (-200000 ≤ px ∧ px ≤ 200000 ∧ -200000 ≤ py ∧ py ≤ 200000)) mixed nocount (ctM_ok h0 h1 _) hk (n := 20) (g := 24) (args := [.agg [iv 0, iv 1, iv 2, iv 3, iv 4, iv 5, iv 6], .c (.abs 1 .nil)]) rfl hL hv
  exact ⟨px, py, hp, hc⟩
end Go.Proofs.Ytpmdmcdjhibblaa.Sx
