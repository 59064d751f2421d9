/- Three laws whose both sides come to the same: EdgeChecks, EdgeMoved, EdgePoints. -/
import Derived.Test.YtpmdmcdjhibblaaEdC
import Derived.Test.YtpmdmcdjhibblaaEdD
set_option linter.all false
namespace Go.Proofs.Ytpmdmcdjhibblaa.Sx
open Go Go.RowKit

def E7 : List C := [iv 0, iv 1, iv 2, iv 3, iv 4, iv 5, iv 6]
def sanE : Ent := ⟨11, [], .c (.bool (.lit true))⟩
def entS : List Ent := [sanE]
def entM : List Ent := [sanE, ⟨12, [.c (.abs 0 .nil)], .agg [iv 0, iv 1, iv 2, iv 3, iv 4, iv 5, iv 6]⟩]
def entX : List Ent := [sanE, ⟨12, [.c (.abs 0 .nil)], .agg [iv 0, iv 1, iv 2, iv 3, iv 4, iv 5, iv 6]⟩, ⟨24, [.agg [iv 0, iv 1, iv 2, iv 3, iv 4, iv 5, iv 6], .c (.abs 1 .nil)], .agg [iv 7, iv 8]⟩]
def ctS : CT := ctOr (ctL entS) ctM
def ctD : CT := ctOr (ctL entM) ctM
def ctX : CT := ctOr (ctL entX) ctM
section
variable {W : World} {l0 l1 : Ls} (h0 : l0.Ok W) (h1 : l1.Ok W) (ρ : Env)
def entOk (W : World) (l0 l1 : Ls) (ρ : Env) (e : Ent) : Prop := e.v.wf 0 = true ∧ e.args.all (V.wf 0) = true ∧ ∀ w, Hyp (IL W l0 l1) w (fun _ => False) → Calls Try.prog e.g (e.args.map (V.den (IL W l0 l1) ρ id)).toArray w (fun x w' => x = .returned (e.v.den (IL W l0 l1) ρ id) ∧ Below w.heap.size w w')
theorem sanE_ok : entOk W l0 l1 ρ sanE := ⟨rfl, rfl, fun w _ => san_c w⟩
include h0 h1
theorem ctS_ok : CTOk Try.prog (IL W l0 l1) ρ ctS := by
  refine ctOr_ok (ctL_ok fun e he => ?_) (ctM_ok h0 h1 ρ)
  simp only [entS, List.mem_cons, List.not_mem_nil, or_false] at he
  subst he
  exact sanE_ok ρ
theorem ctD_ok (hm : ∀ w, Hyp (IL W l0 l1) w (fun _ => False) → Calls Try.prog 12 #[l0.v] w (fun e w' => e = .returned (.agg #[.int .i64 (ρ.i 0), .int .i64 (ρ.i 1), .int .i64 (ρ.i 2), .int .i64 (ρ.i 3), .int .i64 (ρ.i 4), .int .i64 (ρ.i 5), .int .i64 (ρ.i 6)]) ∧ Below w.heap.size w w')) :
    CTOk Try.prog (IL W l0 l1) ρ ctD := by
  refine ctOr_ok (ctL_ok fun e he => ?_) (ctM_ok h0 h1 ρ)
  simp only [entM, List.mem_cons, List.not_mem_nil, or_false] at he
  rcases he with rfl | rfl
  · exact sanE_ok ρ
  · exact ⟨rfl, rfl, hm⟩
theorem ctX_ok (hm : ∀ w, Hyp (IL W l0 l1) w (fun _ => False) → Calls Try.prog 12 #[l0.v] w (fun e w' => e = .returned (.agg #[.int .i64 (ρ.i 0), .int .i64 (ρ.i 1), .int .i64 (ρ.i 2), .int .i64 (ρ.i 3), .int .i64 (ρ.i 4), .int .i64 (ρ.i 5), .int .i64 (ρ.i 6)]) ∧ Below w.heap.size w w'))
    (ha : ∀ w, Hyp (IL W l0 l1) w (fun _ => False) → Calls Try.prog 24 #[.agg #[.int .i64 (ρ.i 0), .int .i64 (ρ.i 1), .int .i64 (ρ.i 2), .int .i64 (ρ.i 3), .int .i64 (ρ.i 4), .int .i64 (ρ.i 5), .int .i64 (ρ.i 6)], l1.v] w (fun e w' => e = .returned (.agg #[.int .i64 (ρ.i 7), .int .i64 (ρ.i 8)]) ∧ Below w.heap.size w w')) :
    CTOk Try.prog (IL W l0 l1) ρ ctX := by
  refine ctOr_ok (ctL_ok fun e he => ?_) (ctM_ok h0 h1 ρ)
  simp only [entX, List.mem_cons, List.not_mem_nil, or_false] at he
  rcases he with rfl | rfl | rfl
  · exact sanE_ok ρ
  · exact ⟨rfl, rfl, hm⟩
  · exact ⟨rfl, rfl, ha⟩
omit h0 h1
end
/-- A function of which each way answers yes. -/
theorem calls_yes {P : Program} {I : Interp} {ρ : Env} (hm : P.follows .mixedOrders = true) (hN : NoCount P) {ct : CT} (hct : CTOk P I ρ ct) {n : Nat} {g : FuncId} {args : List V} {k : Known} {w : World}
    (hh : Hyp I w fun _ => False) (hk : k.Ok I ρ) (hwf : (args.all (V.wf 0)) = true) (hc : leavesOk isYes (vals (execF P ct n g args ⟨[], 0, k⟩)) = true) :
    Calls P g (args.map (V.den I ρ id)).toArray w (fun e w' => e = .returned (.bool true) ∧ Below w.heap.size w w') :=
  calls_litD (r := .bool true) hm hN hct hh hk hwf rfl (Tree.vc_mono (fun v hv => by rw [isYes_eq hv]; exact ⟨rfl, rfl⟩) (leavesOk_vc hc))
theorem noList (W : World) : (⟨none, 0, []⟩ : Ls).Ok W := ⟨none, 0, rfl, by simp, fun h => absurd h (by simp)⟩
theorem check_of_ok {k ax ay bx by' cx cy : Int} (h : okP k ax ay bx by' cx cy) : checkZ k ax ay bx by' cx cy = 0 := by
  obtain ⟨h1, h2, h3, h4, h5, h6⟩ := h
  unfold checkZ
  rw [if_neg (by omega), if_neg (by simp [h3, h4, h5]), if_pos h6]
theorem ok_of_check {k ax ay bx by' cx cy : Int} (h : checkZ k ax ay bx by' cx cy = 0) : okP k ax ay bx by' cx cy := by
  unfold checkZ at h
  split at h
  · cases h
  · split at h
    · cases h
    · split at h
      · rename_i h1 h2 h3
        have h2 := Classical.not_not.1 h2
        exact ⟨by omega, by omega, h2.1, h2.2.1, h2.2.2, h3⟩
      · cases h

def ckF : List (B × Bool) := [(.eq (.app 4 (tl [.var 0, .var 1, .var 2, .var 3, .var 4, .var 5, .var 6])) (.lit 0), true)]
set_option maxRecDepth 1000000 in
theorem checks_chk : leavesOk isYes (vals (execF Try.prog ctD 20 3 [.c (.abs 0 .nil), .c (.int .u8 (.var 7)), .c (iv 8), .agg [iv 9, iv 10, iv 11, iv 12, iv 13, iv 14, iv 15]] ⟨[], 0, ⟨ckF, [0, 2], 0⟩⟩)) = true := by kernel_rfl
theorem edgeChecks_law (l : Ls) (u by0 k ax ay bx by' cx cy : Int) (W : World) (h : l.Ok W) :
    Calls Try.prog 3 #[l.v, .int .u8 u, .int .i64 by0, .agg #[.int .i64 k, .int .i64 ax, .int .i64 ay, .int .i64 bx, .int .i64 by', .int .i64 cx, .int .i64 cy]] W (fun e w' => e = .returned (.bool true) ∧ Below W.heap.size W w') := by
  obtain ⟨r, ⟨mk, m1, m2, m3, m4, m5, m6, rfl, hok, hb⟩, hm⟩ := made_ex h (noList W)
  have h' := calls_yes (n := 20) (g := 3) (args := [.c (.abs 0 .nil), .c (.int .u8 (.var 7)), .c (iv 8), .agg [iv 9, iv 10, iv 11, iv 12, iv 13, iv 14, iv 15]]) (k := ⟨ckF, [0, 2], 0⟩) (ρ := envOf [mk, m1, m2, m3, m4, m5, m6, u, by0, k, ax, ay, bx, by', cx, cy] []) mixed nocount (ctD_ok h (noList W) _ hm) (hyp_fixed rfl) (draws_ok (n := 0) (fun p hp => by
    simp only [ckF, List.mem_cons, List.not_mem_nil, or_false] at hp
    subst hp
    exact B.eq_t.2 (check_of_ok hok)) (fun _ h => absurd h (Nat.not_lt_zero _))) rfl checks_chk
  exact h'

set_option maxRecDepth 1000000 in
theorem moved_chk : leavesOk isYes (vals (execF Try.prog ctS 20 4 [.agg [iv 0, iv 1, iv 2, iv 3, iv 4, iv 5, iv 6], .agg [iv 7, iv 8, iv 9, .bool (.var 0)]] ⟨[], 0, ⟨[], [0, 2], 0⟩⟩)) = true := by kernel_rfl
theorem edgeMoved_law (k ax ay bx by' cx cy x y t : Int) (m : Bool) (W : World) :
    Calls Try.prog 4 #[.agg #[.int .i64 k, .int .i64 ax, .int .i64 ay, .int .i64 bx, .int .i64 by', .int .i64 cx, .int .i64 cy], .agg #[.int .i64 x, .int .i64 y, .int .i64 t, .bool m]] W (fun e w' => e = .returned (.bool true) ∧ Below W.heap.size W w') := by
  have h' := calls_yes (n := 20) (g := 4) (args := [.agg [iv 0, iv 1, iv 2, iv 3, iv 4, iv 5, iv 6], .agg [iv 7, iv 8, iv 9, .bool (.var 0)]]) (k := ⟨[], [0, 2], 0⟩) (ρ := envOf [k, ax, ay, bx, by', cx, cy, x, y, t] [m]) mixed nocount (ctS_ok (noList W) (noList W) _) (hyp_fixed rfl) (draws_ok (l := []) (n := 0) (fun _ h => nomatch h) (fun _ h => absurd h (Nat.not_lt_zero _))) rfl moved_chk
  exact h'

set_option maxRecDepth 1000000 in
theorem points_chk : leavesOk isYes (vals (execF Try.prog ctX 20 5 [.c (.abs 0 .nil), .c (.abs 1 .nil), .agg [iv 9, iv 10, iv 11, iv 12, iv 13, iv 14, iv 15], .agg [iv 16, iv 17]] ⟨[], 0, ⟨[], [0, 2], 0⟩⟩)) = true := by kernel_rfl
theorem edgePoints_law (l0 l1 : Ls) (k ax ay bx by' cx cy px py : Int) (W : World) (h0 : l0.Ok W) (h1 : l1.Ok W) :
    Calls Try.prog 5 #[l0.v, l1.v, .agg #[.int .i64 k, .int .i64 ax, .int .i64 ay, .int .i64 bx, .int .i64 by', .int .i64 cx, .int .i64 cy], .agg #[.int .i64 px, .int .i64 py]] W (fun e w' => e = .returned (.bool true) ∧ Below W.heap.size W w') := by
  obtain ⟨r, ⟨mk, m1, m2, m3, m4, m5, m6, rfl, hok, hb⟩, hm⟩ := made_ex h0 h1
  obtain ⟨qx, qy, hq, ha⟩ := at_ex h0 h1 mk m1 m2 m3 m4 m5 m6 (by omega)
  have h' := calls_yes (n := 20) (g := 5) (args := [.c (.abs 0 .nil), .c (.abs 1 .nil), .agg [iv 9, iv 10, iv 11, iv 12, iv 13, iv 14, iv 15], .agg [iv 16, iv 17]]) (k := ⟨[], [0, 2], 0⟩) (ρ := envOf [mk, m1, m2, m3, m4, m5, m6, qx, qy, k, ax, ay, bx, by', cx, cy, px, py] []) mixed nocount (ctX_ok h0 h1 _ hm ha) (hyp_fixed rfl) (draws_ok (l := []) (n := 0) (fun _ h => nomatch h) (fun _ h => absurd h (Nat.not_lt_zero _))) rfl points_chk
  exact h'
end Go.Proofs.Ytpmdmcdjhibblaa.Sx
