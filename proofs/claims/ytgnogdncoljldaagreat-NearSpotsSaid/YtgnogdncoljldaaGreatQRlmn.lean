import Derived.Test.YtgnogdncoljldaaGreatQRk
set_option linter.all false
namespace Go.Proofs.YtgnogdncoljldaaGreat.Sx
open Go Go.RowKit
def atF : List (B × Bool) := [(.lt (.lit (-1)) (.app 5 (tlM [.var 0, .var 1, .var 2, .var 3, .var 4, .var 5, .var 6])), true), (.lt (.app 5 (tlM [.var 0, .var 1, .var 2, .var 3, .var 4, .var 5, .var 6])) (.lit 4001), true)] ++ [1, 2, 3, 4, 5, 6].flatMap fun i => [(.lt (.lit (-1001)) (.var i), true), (.lt (.var i) (.lit 1001), true)]
def ptOk (k : Known) (lo hi : Int) : V → Bool
 | .agg [.int .i64 x, .int .i64 y] => inB k x lo hi && inB k y lo hi
 | _ => false
set_option maxRecDepth 1000000 in
theorem at_chk : leavesOk (ptOk ⟨atF, [0, 2], 0⟩ (-200000) 200000) (vals (execF Tryz.prog ctM 20 11 [.agg [iv 0, iv 1, iv 2, iv 3, iv 4, iv 5, iv 6], .c (.abs 1 .nil)] ⟨[], 0, ⟨atF, [0, 2], 0⟩⟩)) = true := by kernel_rfl
end Go.Proofs.YtgnogdncoljldaaGreat.Sx
namespace Go.Proofs.YtgnogdncoljldaaGreat.Sx
open Go Go.RowKit
theorem at_tree : ∃ L, vals (execF Tryz.prog ctM 20 11 [.agg [iv 0, iv 1, iv 2, iv 3, iv 4, iv 5, iv 6], .c (.abs 1 .nil)] ⟨[], 0, ⟨atF, [0, 2], 0⟩⟩) = L ∧ leavesOk (ptOk ⟨atF, [0, 2], 0⟩ (-200000) 200000) L = true := ⟨_, rfl, at_chk⟩
theorem radius_in {k ax ay bx by' cx cy : Int} (h : -1000 ≤ ax ∧ ax ≤ 1000 ∧ -1000 ≤ ay ∧ ay ≤ 1000 ∧ -1000 ≤ cx ∧ cx ≤ 1000 ∧ -1000 ≤ cy ∧ cy ≤ 1000) : 0 ≤ radiusZ k ax ay bx by' cx cy ∧ radiusZ k ax ay bx by' cx cy ≤ 4000 := by
 unfold radiusZ
 split <;> omega
theorem at_ex {W : World} {l0 l1 : Ls} (h0 : l0.Ok W) (h1 : l1.Ok W) (k ax ay bx by' cx cy : Int) (hb : -1000 ≤ ax ∧ ax ≤ 1000 ∧ -1000 ≤ ay ∧ ay ≤ 1000 ∧ -1000 ≤ bx ∧ bx ≤ 1000 ∧ -1000 ≤ by' ∧ by' ≤ 1000 ∧ -1000 ≤ cx ∧ cx ≤ 1000 ∧ -1000 ≤ cy ∧ cy ≤ 1000) :
  ∃ px py : Int, (-200000 ≤ px ∧ px ≤ 200000 ∧ -200000 ≤ py ∧ py ≤ 200000) ∧ ∀ w, Hyp (IL W l0 l1) w (fun _ => False) →
    Calls Tryz.prog 11 #[.agg #[.int .i64 k, .int .i64 ax, .int .i64 ay, .int .i64 bx, .int .i64 by', .int .i64 cx, .int .i64 cy], l1.v] w (fun e w' => e = .returned (.agg #[.int .i64 px, .int .i64 py]) ∧ Below w.heap.size w w') := by
 have hk : (⟨atF, [0, 2], 0⟩ : Known).Ok (IL W l0 l1) (envOf [k, ax, ay, bx, by', cx, cy] []) := by
  refine draws_ok (n := 0) ?_ (fun _ h => absurd h (Nat.not_lt_zero _))
  have hr := radius_in (k := k) (bx := bx) (by' := by') (show -1000 ≤ ax ∧ ax ≤ 1000 ∧ -1000 ≤ ay ∧ ay ≤ 1000 ∧ -1000 ≤ cx ∧ cx ≤ 1000 ∧ -1000 ≤ cy ∧ cy ≤ 1000 by omega)
  intro p hp
  simp only [atF, List.flatMap_cons, List.flatMap_nil, List.cons_append, List.nil_append, List.append_nil, List.mem_cons, List.not_mem_nil, or_false] at hp
  rcases hp with rfl | rfl | rfl | rfl | rfl | rfl | rfl | rfl | rfl | rfl | rfl | rfl | rfl | rfl <;>
   simp only [B.lt_t, T.den_lit, T.den_var, T.den_app, tlM, T.dens_cons, T.dens_nil, il_fi, fi5, envOf, List.getD_cons_zero, List.getD_cons_succ] <;> omega
 obtain ⟨L, hL, hchk⟩ := at_tree
 have hv : L.vc (IL W l0 l1) (envOf [k, ax, ay, bx, by', cx, cy] []) (fun v => v.wf 0 = true ∧ ∃ px py : Int, v.den (IL W l0 l1) (envOf [k, ax, ay, bx, by', cx, cy] []) id = .agg #[.int .i64 px, .int .i64 py] ∧ (-200000 ≤ px ∧ px ≤ 200000 ∧ -200000 ≤ py ∧ py ≤ 200000)) := by
  refine Tree.vc_mono (fun v hv => ?_) (leavesOk_vc hchk)
  unfold ptOk at hv
  split at hv
  ·rename_i x y
   simp only [Bool.and_eq_true] at hv
   have a := inB_ok hk hv.1
   have b := inB_ok hk hv.2
   exact ⟨rfl, _, _, rfl, a.1, a.2, b.1, b.2⟩
  ·cases hv
 obtain ⟨r, ⟨px, py, rfl, hp⟩, hc⟩ := calls_ex (G := fun r => ∃ px py : Int, r = .agg #[.int .i64 px, .int .i64 py] ∧ (-200000 ≤ px ∧ px ≤ 200000 ∧ -200000 ≤ py ∧ py ≤ 200000)) mixed nocount (ctM_ok h0 h1 _) hk (n := 20) (g := 11) (args := [.agg [iv 0, iv 1, iv 2, iv 3, iv 4, iv 5, iv 6], .c (.abs 1 .nil)]) rfl hL hv
 exact ⟨px, py, hp, hc⟩
end Go.Proofs.YtgnogdncoljldaaGreat.Sx
set_option autoImplicit false
namespace Go.Proofs.YtgnogdncoljldaaGreat.Sx
open Go Go.RowKit
def nfClone (g : FuncId) : NF := ⟨g, [.dig], fun _ ts => match ts with
 | [a] => some a
 | _ => none, .dig⟩
theorem nfClone_c {I : Interp} {ρ : Env} : (nfClone 200).Ok Tryz.prog I ρ := by
 intro k ts t hk hv w vs ha
 unfold nfClone at hv
 simp only at hv
 split at hv
 ·injection hv with hv
  subst hv
  match vs, ha with
  | [v], ⟨h, _⟩ =>
    obtain ⟨h1, h2⟩ : U32s w.heap.size w v (digs (T.den I ρ _).natAbs) ∧ (T.den I ρ _).natAbs < B32 ^ 64 := h
    refine (clone_ok v _ w h1 (digs_len.2 h2)).mono ?_
    rintro x w' ⟨p, c, rfl, hu, hx⟩
    exact ⟨⟨_, rfl, hu, h2⟩, hx⟩
 ·cases hv
def fnSgL (g : FuncId) : FnR := ⟨g, [.num, .num, .num], fun _ ts => match ts with
 | [[.lit a], [.lit b], [.lit c]] => bif betw 0 c l256 && (betw (-l256) a l256 && betw (-l256) b l256) then some ⟨[], .c (.int .i64 (.lit (RM.sideZ a b c)))⟩ else none
 | _ => none⟩
theorem fit20 {z : Int} (h1 : -l256 ≤ z) (h2 : z ≤ l256) : fitK 20 z = true := by
 unfold fitK
 exact decide_eq_true (by have := few8 h1 h2; omega)
theorem fnSgL_c {I : Interp} {ρ : Env} : (fnSgL 190).Ok Tryz.prog I ρ := by
 intro k ts r hk hv w vs ha
 unfold fnSgL at hv
 simp only at hv
 split at hv
 ·rename_i a b c
  cases hb : (betw 0 c l256 && (betw (-l256) a l256 && betw (-l256) b l256)) with
  | false => rw [hb] at hv; cases hv
  | true =>
    rw [hb] at hv
    injection hv with hv
    subst hv
    simp only [Bool.and_eq_true] at hb
    have b1 := betw_ok hb.1
    have b2 := betw_ok hb.2.1
    have b3 := betw_ok hb.2.2
    have hl : (0 : Int) ≤ l256 := by decide
    obtain ⟨v1, r1, z1, y1, rfl, e1, k1, ha⟩ := RArgs.cons ha
    obtain ⟨v2, r2, z2, y2, rfl, e2, k2, ha⟩ := RArgs.cons ha
    obtain ⟨v3, r3, z3, y3, rfl, e3, k3, ha⟩ := RArgs.cons ha
    obtain ⟨rfl, rfl⟩ := RArgs.nil ha
    injection e1 with e1 f1
    subst f1
    injection e2 with e2 f2
    subst f2
    injection e3 with e3 f3
    subst e1 e2 e3
    refine (sign_ok v1 v2 v3 a b c w k1 k2 k3 b1.1 (fit20 b2.1 b2.2) (fit20 b3.1 b3.2) (fit20 (by omega) b1.2)).mono ?_
    rintro x w' ⟨rfl, hb⟩
    exact ⟨⟨id, (fun _ _ hj => nomatch hj), rfl⟩, hb⟩
 ·cases hv
def ctPs : CT := ctFn [fnPt 13, fnPt 14]
theorem ctPs_ok {W : World} {l0 l1 : Ls} (ρ : Env) : CTOk Tryz.prog (IL W l0 l1) ρ ctPs := by
 refine ctFn_ok rfl fun e he => ?_
 simp only [List.mem_cons, List.not_mem_nil, or_false] at he
 rcases he with rfl | rfl
 ·exact fnPt_ok vpoint_c
 ·exact fnPt_ok rpoint_c
def ctSan : CT := ctOr (ctFn [fnSgL 190]) (ctOr (ctNum [nfClone 200]) (ctOr ctPs ctRt))
theorem ctSan_ok {W : World} {l0 l1 : Ls} (ρ : Env) : CTOk Tryz.prog (IL W l0 l1) ρ ctSan := by
 refine ctOr_ok (ctFn_ok rfl fun e he => ?_) (ctOr_ok (ctNum_ok rfl fun e he => ?_) (ctOr_ok (ctPs_ok ρ) (ctRt_ok ρ)))
 ·simp only [List.mem_cons, List.not_mem_nil, or_false] at he
  subst he
  exact fnSgL_c
 ·simp only [List.mem_cons, List.not_mem_nil, or_false] at he
  subst he
  exact nfClone_c
end Go.Proofs.YtgnogdncoljldaaGreat.Sx

