import Derived.Test.YtliimpbbppbghaaUTl
import Derived.Test.YtliimpbbppbghaaUTh
set_option linter.all false
set_option autoImplicit false
namespace Go.Proofs.Ytliimpbbppbghaa.Sx
open Go Go.RowKit
def revE (e : ET) : ET := ⟨.app 41 (.cons e.k .nil), e.bx, e.by', e.ax, e.ay, e.cx, e.cy⟩
def ctRv : CT := fun g args s => bif Nat.beq g 16 then match args with
  | [.agg [.int .i64 k, .int .i64 ax, .int .i64 ay, .int .i64 bx, .int .i64 by', .int .i64 cx, .int .i64 cy]] => some (.leaf (.agg [.int .i64 (.app 41 (.cons k .nil)), .int .i64 bx, .int .i64 by', .int .i64 ax, .int .i64 ay, .int .i64 cx, .int .i64 cy], s))
  | _ => none
  else none
def revT (n : Nat) : List ET := ((esT n).map revE).reverse
def turnT (n j : Nat) : List ET := (esT n).drop j ++ (esT n).take j
def tuF (K : Int) (n j : Nat) : List (B × Bool) := (.lt (.lit (-1)) (.var 3), true) :: (.lt (.var 3) (.lit 256), true) :: bif intSame K 1 then [] else [(.eq (.bin .rem (.var 3) (.lit (.ofNat n))) (.lit (.ofNat j)), true)]
def tuA (K : Int) (n j : Nat) : List (List T × B) := [(qT (.lit K) (.var 0) (.var 1) (.var 2) (revT n), inB5 (allQ K n)), (qT (.lit K) (.var 0) (.var 1) (.var 2) (bif intSame K 2 then turnT n j else esT n), inB5 (allQ K n))]
def tuO (K : Int) (n j : Nat) : List (List T) := [kT (.lit K) (.var 0) (revT n), kT (.lit K) (.var 0) (bif intSame K 2 then turnT n j else esT n)]
def ctTu (K : Int) (n : Nat) (ans : List (List T × B)) (oks : List (List T)) : CT := ctOr (ctL [sanE]) (ctOr (ctMd K n) (ctOr (ctAt K n) (ctOr (ctIn ans) (ctOr (ctCk oks) ctRv))))
noncomputable def tuRun (K : Int) (n j : Nat) : Bool := ansF (tuA K n j) fun ans => oksF (tuO K n j) fun oks => leavesOk isYes (vals (execF Try.prog (ctTu K n ans oks) 20 4 stA ⟨[], 0, ⟨tuF K n j, [], 0⟩⟩))
set_option maxRecDepth 1000000 in
theorem tu_1_1 : tuRun 1 1 0 = true := by kernel_rfl
set_option maxRecDepth 1000000 in
theorem tu_1_2 : tuRun 1 2 0 = true := by kernel_rfl
set_option maxRecDepth 1000000 in
theorem tu_1_3 : tuRun 1 3 0 = true := by kernel_rfl
set_option maxRecDepth 1000000 in
theorem tu_2_2_0 : tuRun 2 2 0 = true := by kernel_rfl
set_option maxRecDepth 1000000 in
theorem tu_2_2_1 : tuRun 2 2 1 = true := by kernel_rfl
set_option maxRecDepth 1000000 in
theorem tu_2_3_0 : tuRun 2 3 0 = true := by kernel_rfl
set_option maxRecDepth 1000000 in
theorem tu_2_3_1 : tuRun 2 3 1 = true := by kernel_rfl
set_option maxRecDepth 1000000 in
theorem tu_2_3_2 : tuRun 2 3 2 = true := by kernel_rfl
set_option maxRecDepth 1000000 in
theorem tu_2_4_0 : tuRun 2 4 0 = true := by kernel_rfl
set_option maxRecDepth 1000000 in
theorem tu_2_4_1 : tuRun 2 4 1 = true := by kernel_rfl
set_option maxRecDepth 1000000 in
theorem tu_2_4_2 : tuRun 2 4 2 = true := by kernel_rfl
set_option maxRecDepth 1000000 in
theorem tu_2_4_3 : tuRun 2 4 3 = true := by kernel_rfl
set_option maxRecDepth 1000000 in
theorem tu_2_5_0 : tuRun 2 5 0 = true := by kernel_rfl
set_option maxRecDepth 1000000 in
theorem tu_2_5_1 : tuRun 2 5 1 = true := by kernel_rfl
set_option maxRecDepth 1000000 in
theorem tu_2_5_2 : tuRun 2 5 2 = true := by kernel_rfl
set_option maxRecDepth 1000000 in
theorem tu_2_5_3 : tuRun 2 5 3 = true := by kernel_rfl
set_option maxRecDepth 1000000 in
theorem tu_2_5_4 : tuRun 2 5 4 = true := by kernel_rfl
set_option maxRecDepth 1000000 in
theorem tu_2_8_0 : tuRun 2 8 0 = true := by kernel_rfl
set_option maxRecDepth 1000000 in
theorem tu_2_8_1 : tuRun 2 8 1 = true := by kernel_rfl
set_option maxRecDepth 1000000 in
theorem tu_2_8_2 : tuRun 2 8 2 = true := by kernel_rfl
set_option maxRecDepth 1000000 in
theorem tu_2_8_3 : tuRun 2 8 3 = true := by kernel_rfl
set_option maxRecDepth 1000000 in
theorem tu_2_8_4 : tuRun 2 8 4 = true := by kernel_rfl
set_option maxRecDepth 1000000 in
theorem tu_2_8_5 : tuRun 2 8 5 = true := by kernel_rfl
set_option maxRecDepth 1000000 in
theorem tu_2_8_6 : tuRun 2 8 6 = true := by kernel_rfl
set_option maxRecDepth 1000000 in
theorem tu_2_8_7 : tuRun 2 8 7 = true := by kernel_rfl
theorem tuP_run {n : Nat} (h : 1 ≤ n ∧ n ≤ 3) : tuRun 1 n 0 = true := by
  have c : n = 1 ∨ n = 2 ∨ n = 3 := by omega
  rcases c with rfl | rfl | rfl
  · exact tu_1_1
  · exact tu_1_2
  · exact tu_1_3
theorem tuR_run {n j : Nat} (h : 2 ≤ n ∧ (n ≤ 5 ∨ n = 8)) (hj : j < n) : tuRun 2 n j = true := by
  have c : n = 2 ∨ n = 3 ∨ n = 4 ∨ n = 5 ∨ n = 8 := by omega
  rcases c with rfl | rfl | rfl | rfl | rfl
  · have c : j = 0 ∨ j = 1 := by omega
    rcases c with rfl | rfl
    · exact tu_2_2_0
    · exact tu_2_2_1
  · have c : j = 0 ∨ j = 1 ∨ j = 2 := by omega
    rcases c with rfl | rfl | rfl
    · exact tu_2_3_0
    · exact tu_2_3_1
    · exact tu_2_3_2
  · have c : j = 0 ∨ j = 1 ∨ j = 2 ∨ j = 3 := by omega
    rcases c with rfl | rfl | rfl | rfl
    · exact tu_2_4_0
    · exact tu_2_4_1
    · exact tu_2_4_2
    · exact tu_2_4_3
  · have c : j = 0 ∨ j = 1 ∨ j = 2 ∨ j = 3 ∨ j = 4 := by omega
    rcases c with rfl | rfl | rfl | rfl | rfl
    · exact tu_2_5_0
    · exact tu_2_5_1
    · exact tu_2_5_2
    · exact tu_2_5_3
    · exact tu_2_5_4
  · have c : j = 0 ∨ j = 1 ∨ j = 2 ∨ j = 3 ∨ j = 4 ∨ j = 5 ∨ j = 6 ∨ j = 7 := by omega
    rcases c with rfl | rfl | rfl | rfl | rfl | rfl | rfl | rfl
    · exact tu_2_8_0
    · exact tu_2_8_1
    · exact tu_2_8_2
    · exact tu_2_8_3
    · exact tu_2_8_4
    · exact tu_2_8_5
    · exact tu_2_8_6
    · exact tu_2_8_7
section
variable {W : World} {l0 l1 : Ls} {hd : List Int} {es : List E7} {R px py s : Int}
theorem ctRv_ok {ρ : Env} : CTOk Try.prog (IW W l0 l1) ρ ctRv := by
  intro g args s t h w0 X n0 β0 β w R ht hw ha
  unfold ctRv at h
  cases hg : Nat.beq g 16 with
  | false => rw [hg] at h; cases h
  | true =>
    rw [hg] at h
    have := Nat.eq_of_beq_eq_true hg
    subst this
    simp only [cond_true] at h
    split at h
    · rename_i k ax ay bx by' cx cy
      injection h with h
      subst h
      refine ct_leaf1 ?_ rfl ht hw
      exact vrev_c _ _ _ _ _ _ _ w
    · cases h
theorem revE_den {ρ : Env} (e : ET) : (revE e).den (IW W l0 l1) ρ = (e.den (IW W l0 l1) ρ).rev := rfl
theorem revT_den : (revT es.length).map (ET.den (IW W l0 l1) (envE hd es)) = revs es := by
  unfold revT revs
  rw [List.map_reverse, List.map_map]
  have : (ET.den (IW W l0 l1) (envE hd es)) ∘ revE = E7.rev ∘ ET.den (IW W l0 l1) (envE hd es) := by
    funext e
    exact revE_den e
  rw [this, ← List.map_map, esT_den]
theorem turnT_den (j : Nat) : (turnT es.length j).map (ET.den (IW W l0 l1) (envE hd es)) = turned es j := by
  unfold turnT turned
  rw [List.map_append, List.map_drop, List.map_take, esT_den]
theorem tu_ok (h : HdOk hd R px py s) {K : Int} (hc : checkS K R es = 0) {j : Nat} (hj : j < es.length) :
    (∀ p ∈ tuA K es.length j, fbW 5 (p.1.map (T.den (IW W l0 l1) (envE hd es))) = p.2.den (IW W l0 l1) (envE hd es)) ∧ ∀ q ∈ tuO K es.length j, fiW l0 40 (q.map (T.den (IW W l0 l1) (envE hd es))) = 0 := by
  have two : intSame K 2 = true → K = 2 := fun h => intSame_eq.1 h
  have e0 : (inB5 (allQ K es.length)).den (IW W l0 l1) (envE hd es) = insideS K R es px py := by rw [in5_den, all_den h]
  have chk : ∀ fs : List ET, checkS K R (fs.map (ET.den (IW W l0 l1) (envE hd es))) = 0 → fiW l0 40 ((kT (.lit K) (.var 0) fs).map (T.den (IW W l0 l1) (envE hd es))) = 0 := fun fs hf => by
    unfold kT
    simp only [List.map_cons, flat_ints, T.den_lit, v0 h]
    show checkS _ _ (decE _) = 0
    rw [decE_flat]
    exact hf
  constructor
  · intro p hp
    simp only [tuA, List.mem_cons, List.not_mem_nil, or_false] at hp
    rcases hp with rfl | rfl
    · rw [q_den, v0 h, v1 h, v2 h, revT_den, T.den_lit, e0, inside_revs hc]
    · rw [q_den, v0 h, v1 h, v2 h, T.den_lit, e0]
      cases hk : intSame K 2 with
      | false => rw [cond_false, esT_den]
      | true =>
        have := two hk
        subst this
        rw [cond_true, turnT_den, inside_turned hj hc]
  · intro q hq
    simp only [tuO, List.mem_cons, List.not_mem_nil, or_false] at hq
    rcases hq with rfl | rfl
    · exact chk _ (by rw [revT_den]; exact check_revs hc)
    · refine chk _ ?_
      cases hk : intSame K 2 with
      | false => rw [cond_false, esT_den]; exact hc
      | true =>
        have := two hk
        subst this
        rw [cond_true, turnT_den]
        exact check_turned hj hc
end
set_option maxRecDepth 100000 in
theorem shapeTurns_law (l0 l1 : Ls) (s : Int) (hs : 0 ≤ s ∧ s < 256) (W : World) (h0 : l0.Ok W) (h1 : l1.Ok W) :
    Calls Try.prog 4 #[l0.v, l1.v, .int .u8 s] W (fun e w' => e = .returned (.bool true) ∧ Below W.heap.size W w') := by
  obtain ⟨K, R, es, hM, hMA⟩ := made_s h0
  obtain ⟨px, py, hp, hA⟩ := at_as h1 hM
  obtain ⟨hd, hhd⟩ : ∃ hd : List Int, hd = [R, px, py, s] := ⟨_, rfl⟩
  have hH : HdOk hd R px py s := by rw [hhd]; exact ⟨rfl, rfl, rfl, rfl⟩
  have hpos : (0 : Int) < es.length := by rcases hM.many with h | h <;> omega
  have fin : ∀ j : Nat, j < es.length → (K = 1 → j = 0) → (∀ p ∈ tuF K es.length j, p.1.den (IW W l0 l1) (envE hd es) = p.2) → tuRun K es.length j = true → Calls Try.prog 4 #[l0.v, l1.v, .int .u8 s] W (fun e w' => e = .returned (.bool true) ∧ Below W.heap.size W w') := by
    intro j hj _ hf hrun
    unfold tuRun at hrun
    rw [ansF_eq, oksF_eq] at hrun
    obtain ⟨hans, hoks⟩ := tu_ok (W := W) (l0 := l0) (l1 := l1) hH hM.check hj
    have hct : CTOk Try.prog (IW W l0 l1) (envE hd es) (ctTu K es.length (tuA K es.length j) (tuO K es.length j)) :=
      ctOr_ok (ctL_ok fun e he => by
        simp only [List.mem_cons, List.not_mem_nil, or_false] at he
        subst he
        exact ⟨rfl, rfl, fun w _ => sanity_c w⟩) (ctOr_ok (ctMd_ok hH.r hMA) (ctOr_ok (ctAt_ok hH.r hH.x hH.y hA) (ctOr_ok (ctIn_ok hans) (ctOr_ok (ctCk_ok hoks) ctRv_ok))))
    have h := calls_yes (w := W) mixed nocount hct (hyp_fixed rfl) (k := ⟨tuF K es.length j, [], 0⟩) ⟨hf, (fun _ h => nomatch h), fun _ h => absurd h (Nat.not_lt_zero _)⟩ (args := stA) rfl hrun
    have ea : (stA.map (V.den (IW W l0 l1) (envE hd es) id)).toArray = #[l0.v, l1.v, .int .u8 s] := by
      simp only [stA, List.map_cons, List.map_nil, V.den, C.den, v3 hH, T.dens_nil]
      rfl
    rw [ea] at h
    exact h
  have f3 : ∀ p ∈ [((.lt (.lit (-1)) (.var 3) : B), true), (.lt (.var 3) (.lit 256), true)], p.1.den (IW W l0 l1) (envE hd es) = p.2 := by
    intro p hp'
    simp only [List.mem_cons, List.not_mem_nil, or_false] at hp'
    rcases hp' with rfl | rfl <;> (refine B.lt_t.2 ?_; simp only [T.den_lit, v3 hH]; omega)
  rcases hM.many with ⟨rfl, m⟩ | ⟨rfl, -, m⟩
  · exact fin 0 (by omega) (fun _ => rfl) f3 (tuP_run m)
  · obtain ⟨j, hj⟩ : ∃ j : Nat, s.tmod es.length = (j : Int) := ⟨(s.tmod es.length).toNat, by rw [Int.toNat_of_nonneg (Int.tmod_nonneg _ hs.1)]⟩
    have hjl : j < es.length := by
      have := Int.tmod_lt_of_pos s hpos
      omega
    refine fin j hjl (fun h => absurd h (by decide)) (fun p hp' => ?_) (tuR_run m hjl)
    rcases List.mem_cons.1 hp' with rfl | hp'
    · exact f3 _ (.head _)
    rcases List.mem_cons.1 hp' with rfl | hp'
    · exact f3 _ (.tail _ (.head _))
    · have hp2 : p ∈ [((.eq (.bin .rem (.var 3) (.lit (.ofNat es.length))) (.lit (.ofNat j)) : B), true)] := hp'
      rcases List.mem_cons.1 hp2 with rfl | hp3
      · refine B.eq_t.2 ?_
        rw [T.den_bin, v3 hH, ev_rem]
        exact hj
      · cases hp3
end Go.Proofs.Ytliimpbbppbghaa.Sx

