import Derived.Test.YtliimpbbppbghaaQTl
set_option linter.all false
set_option autoImplicit false
namespace Go.Proofs.Ytliimpbbppbghaa.Sx
open Go Go.RowKit
def stF : List (B × Bool) := [(.lt (.lit (-1)) (.var 0), true), (.lt (.var 0) (.lit 41), true), (.lt (.lit (-1)) (.var 3), true), (.lt (.var 3) (.lit 256), true), (.lt (.lit (-901)) (.var 11), true), (.lt (.var 11) (.lit 901), true), (.lt (.lit (-901)) (.var 12), true), (.lt (.var 12) (.lit 901), true)]
def noneB : List B → B
  | [] => .lit true
  | a :: r => .and (.not a) (noneB r)
def one1 (j : Nat) : List T := qT (.lit 1) (.var 0) (.var 1) (.var 2) [edT j]
def ones (n : Nat) : List B := (List.range n).map fun j => inB5 (one1 j)
def allQ (K : Int) (n : Nat) : List T := qT (.lit K) (.var 0) (.var 1) (.var 2) (esT n)
def wideQ (n : Nat) : List T := qT (.lit 1) (.bin .add (.var 0) (.var 3)) (.var 1) (.var 2) (esT n)
def endsA (K : Int) (n : Nat) : List (List T × B) := (List.range n).flatMap fun j => [(qT (.lit K) (.var 0) (edT j).ax (edT j).ay (esT n), .lit true), (qT (.lit K) (.var 0) (edT j).bx (edT j).by' (esT n), .lit true)]
def cornT (n : Nat) (k : Nat) : List T := qT (.lit 1) (.var 0) (.bin .add (.var 11) (drT 20 (.var 0) (.lit (.ofNat k)))) (.bin .add (.var 12) (drT 21 (.var 0) (.lit (.ofNat k)))) (esT n)
def cornA (n : Nat) : List (List T × B) := [(cornT n 0, .lit true), (cornT n 1, .lit true), (cornT n 2, .lit true), (cornT n 3, .lit true)]
def ansP (n : Nat) : List (List T × B) := endsA 1 n ++ (cornA n ++ [(allQ 1 n, .not (noneB (ones n))), (wideQ n, .not (.and (.not (inB5 (wideQ n))) (noneB (ones n))))])
def ansR (n : Nat) : List (List T × B) := endsA 2 n ++ [(allQ 2 n, .not (.and (.not (inB5 (allQ 2 n))) (noneB (ones n))))]
def ctSt (K : Int) (n : Nat) (ans : List (List T × B)) : CT := ctOr (ctL [sanE]) (ctOr (ctMd K n) (ctOr (ctAt K n) (ctOr (ctIn ans) (ctOr ctAS ctP))))
def stA : List V := [.c (.abs 0 .nil), .c (.abs 1 .nil), .c (.int .u8 (.var 3))]
noncomputable def stRun (K : Int) (n : Nat) (ans : List (List T × B)) : Bool := ansF ans fun ans => leavesOk isYes (vals (execF Try.prog (ctSt K n ans) 20 6 stA ⟨[], 0, ⟨stF, [20, 21], 0⟩⟩))
set_option maxRecDepth 1000000 in
theorem st_1_1 : stRun 1 1 (ansP 1) = true := by kernel_rfl
set_option maxRecDepth 1000000 in
theorem st_1_2 : stRun 1 2 (ansP 2) = true := by kernel_rfl
set_option maxRecDepth 1000000 in
theorem st_1_3 : stRun 1 3 (ansP 3) = true := by kernel_rfl
set_option maxRecDepth 1000000 in
theorem st_2_2 : stRun 2 2 (ansR 2) = true := by kernel_rfl
set_option maxRecDepth 1000000 in
theorem st_2_3 : stRun 2 3 (ansR 3) = true := by kernel_rfl
set_option maxRecDepth 1000000 in
theorem st_2_4 : stRun 2 4 (ansR 4) = true := by kernel_rfl
set_option maxRecDepth 1000000 in
theorem st_2_5 : stRun 2 5 (ansR 5) = true := by kernel_rfl
set_option maxRecDepth 1000000 in
theorem st_2_8 : stRun 2 8 (ansR 8) = true := by kernel_rfl
theorem stP_run {n : Nat} (h : 1 ≤ n ∧ n ≤ 3) : stRun 1 n (ansP n) = true := by
  have c : n = 1 ∨ n = 2 ∨ n = 3 := by omega
  rcases c with rfl | rfl | rfl
  · exact st_1_1
  · exact st_1_2
  · exact st_1_3
theorem stR_run {n : Nat} (h : 2 ≤ n ∧ (n ≤ 5 ∨ n = 8)) : stRun 2 n (ansR n) = true := by
  have c : n = 2 ∨ n = 3 ∨ n = 4 ∨ n = 5 ∨ n = 8 := by omega
  rcases c with rfl | rfl | rfl | rfl | rfl
  · exact st_2_2
  · exact st_2_3
  · exact st_2_4
  · exact st_2_5
  · exact st_2_8
section
variable {W : World} {l0 l1 : Ls} {hd : List Int} {es : List E7} {R px py s : Int}
structure HdOk (hd : List Int) (R px py s : Int) : Prop where
  r : hd.getD 0 0 = R
  x : hd.getD 1 0 = px
  y : hd.getD 2 0 = py
  s : hd.getD 3 0 = s
theorem v0 (h : HdOk hd R px py s) : (T.var 0).den (IW W l0 l1) (envE hd es) = R := (envE_hd (by decide)).trans h.r
theorem v1 (h : HdOk hd R px py s) : (T.var 1).den (IW W l0 l1) (envE hd es) = px := (envE_hd (by decide)).trans h.x
theorem v2 (h : HdOk hd R px py s) : (T.var 2).den (IW W l0 l1) (envE hd es) = py := (envE_hd (by decide)).trans h.y
theorem v3 (h : HdOk hd R px py s) : (T.var 3).den (IW W l0 l1) (envE hd es) = s := (envE_hd (by decide)).trans h.s
theorem all_den (h : HdOk hd R px py s) (K : Int) : fbW 5 ((allQ K es.length).map (T.den (IW W l0 l1) (envE hd es))) = insideS K R es px py := by
  unfold allQ
  rw [q_den, v0 h, v1 h, v2 h, esT_den, T.den_lit]
theorem wide_den (h : HdOk hd R px py s) : fbW 5 ((wideQ es.length).map (T.den (IW W l0 l1) (envE hd es))) = insideS 1 (R + s) es px py := by
  unfold wideQ
  rw [q_den, T.den_bin, ev_add, v0 h, v1 h, v2 h, v3 h, esT_den, T.den_lit]
theorem one_den (h : HdOk hd R px py s) {j : Nat} (hj : j < es.length) : fbW 5 ((one1 j).map (T.den (IW W l0 l1) (envE hd es))) = insideS 1 R [es[j]!] px py := by
  unfold one1
  rw [q_den, v0 h, v1 h, v2 h, List.map_cons, List.map_nil, edT_den hj, T.den_lit]
theorem none_den (h : HdOk hd R px py s) : ∀ l : List B, (noneB l).den (IW W l0 l1) (envE hd es) = true ↔ ∀ b ∈ l, b.den (IW W l0 l1) (envE hd es) = false
  | [] => by simp [noneB, B.den]
  | a :: r => by
    simp only [noneB, B.den, Bool.and_eq_true, Bool.not_eq_true', none_den h r, List.mem_cons, forall_eq_or_imp]
theorem ones_den (h : HdOk hd R px py s) : (noneB (ones es.length)).den (IW W l0 l1) (envE hd es) = !decide (∃ e ∈ es, insideS 1 R [e] px py = true) := by
  rw [Bool.eq_iff_iff, none_den h, Bool.not_eq_true', decide_eq_false_iff_not]
  constructor
  · rintro hn ⟨e, he, hi⟩
    obtain ⟨j, hj, rfl⟩ := List.getElem_of_mem he
    have := hn _ (List.mem_map.2 ⟨j, List.mem_range.2 hj, rfl⟩)
    rw [in5_den, one_den h hj, getElem!_pos es j hj, hi] at this
    cases this
  · intro hn b hb
    obtain ⟨j, hj, rfl⟩ := List.mem_map.1 hb
    have hj := List.mem_range.1 hj
    rw [in5_den, one_den h hj]
    cases hi : insideS 1 R [es[j]!] px py with
    | false => rfl
    | true => exact absurd ⟨es[j]!, by rw [getElem!_pos es j hj]; exact List.getElem_mem _, hi⟩ hn
theorem ends_ok (h : HdOk hd R px py s) {K : Int} (hc : checkS K R es = 0) : ∀ p ∈ endsA K es.length, fbW 5 (p.1.map (T.den (IW W l0 l1) (envE hd es))) = p.2.den (IW W l0 l1) (envE hd es) := by
  intro p hp
  obtain ⟨j, hj, hp⟩ := List.mem_flatMap.1 hp
  have hj := List.mem_range.1 hj
  have he : es[j]! ∈ es := by rw [getElem!_pos es j hj]; exact List.getElem_mem _
  have hi := inside_ends hc he
  have ed := edT_den (I := IW W l0 l1) (hd := hd) hj
  have f1 : (edT j).ax.den (IW W l0 l1) (envE hd es) = es[j]!.ax := congrArg E7.ax ed
  have f2 : (edT j).ay.den (IW W l0 l1) (envE hd es) = es[j]!.ay := congrArg E7.ay ed
  have f3 : (edT j).bx.den (IW W l0 l1) (envE hd es) = es[j]!.bx := congrArg E7.bx ed
  have f4 : (edT j).by'.den (IW W l0 l1) (envE hd es) = es[j]!.by' := congrArg E7.by' ed
  simp only [List.mem_cons, List.not_mem_nil, or_false] at hp
  rcases hp with rfl | rfl
  · rw [q_den, v0 h, esT_den, T.den_lit, f1, f2, hi.1]; rfl
  · rw [q_den, v0 h, esT_den, T.den_lit, f3, f4, hi.2]; rfl
theorem corn_ok (h : HdOk hd R px py s) (hr : 0 ≤ R ∧ R ≤ 40) (hc : checkS 1 R es = 0) {k : Nat} (hk : k < 4) : fbW 5 ((cornT es.length k).map (T.den (IW W l0 l1) (envE hd es))) = true := by
  have h0 : 0 < es.length := by have := (checkS_zero hc).2.1; omega
  have he : es[0]! ∈ es := by rw [getElem!_pos es 0 h0]; exact List.getElem_mem _
  have ed := edT_den (I := IW W l0 l1) (hd := hd) h0
  have f1 : (T.var 11).den (IW W l0 l1) (envE hd es) = es[0]!.ax := congrArg E7.ax ed
  have f2 : (T.var 12).den (IW W l0 l1) (envE hd es) = es[0]!.ay := congrArg E7.ay ed
  have e0 := v0 (W := W) (l0 := l0) (l1 := l1) (es := es) h
  have d1 := drT_xW (W := W) (l0 := l0) (l1 := l1) (ρ := envE hd es) (r := .var 0) (t := .lit (.ofNat k)) (by rw [e0]; omega) (by rw [T.den_lit]; simp only [Int.ofNat_eq_natCast]; omega)
  have d2 := drT_yW (W := W) (l0 := l0) (l1 := l1) (ρ := envE hd es) (r := .var 0) (t := .lit (.ofNat k)) (by rw [e0]; omega) (by rw [T.den_lit]; simp only [Int.ofNat_eq_natCast]; omega)
  unfold cornT
  rw [q_den, T.den_bin, T.den_bin, ev_add, ev_add, f1, f2, d1, d2, e0, esT_den, T.den_lit, T.den_lit]
  refine stroke_corner hc he ?_
  have c : k = 0 ∨ k = 1 ∨ k = 2 ∨ k = 3 := by omega
  rcases c with rfl | rfl | rfl | rfl <;> simp [drX, drY, Int.neg_mul_neg]
theorem ansP_ok (h : HdOk hd R px py s) (hr : 0 ≤ R ∧ R ≤ 40) (hs : 0 ≤ s ∧ s < 256) (hc : checkS 1 R es = 0) : ∀ p ∈ ansP es.length, fbW 5 (p.1.map (T.den (IW W l0 l1) (envE hd es))) = p.2.den (IW W l0 l1) (envE hd es) := by
  intro p hp
  unfold ansP at hp
  rcases List.mem_append.1 hp with hp | hp
  · exact ends_ok h hc p hp
  rcases List.mem_append.1 hp with hp | hp
  · simp only [cornA, List.mem_cons, List.not_mem_nil, or_false] at hp
    rcases hp with rfl | rfl | rfl | rfl <;> exact corn_ok h hr hc (by decide)
  simp only [List.mem_cons, List.not_mem_nil, or_false] at hp
  rcases hp with rfl | rfl
  · rw [all_den h, B.den, ones_den h, Bool.not_not]
    exact stroke_path hc px py
  · show fbW 5 ((wideQ es.length).map _) = !((!(inB5 (wideQ es.length)).den _ _) && (noneB (ones es.length)).den _ _)
    rw [in5_den, ones_den h, wide_den h]
    cases hi : insideS 1 (R + s) es px py with
    | true => rfl
    | false =>
      have : ¬ ∃ e ∈ es, insideS 1 R [e] px py = true := fun hx => by
        have h1 : insideS 1 R es px py = true := by rw [stroke_path hc]; exact decide_eq_true hx
        have := (stroke_wide hc (S := R + s) (by omega) (by omega) h1).2
        rw [hi] at this
        cases this
      rw [decide_eq_false this]; rfl
theorem ansR_ok (h : HdOk hd R px py s) (hc : checkS 2 R es = 0) : ∀ p ∈ ansR es.length, fbW 5 (p.1.map (T.den (IW W l0 l1) (envE hd es))) = p.2.den (IW W l0 l1) (envE hd es) := by
  intro p hp
  unfold ansR at hp
  rcases List.mem_append.1 hp with hp | hp
  · exact ends_ok h hc p hp
  simp only [List.mem_cons, List.not_mem_nil, or_false] at hp
  subst hp
  show fbW 5 ((allQ 2 es.length).map _) = !((!(inB5 (allQ 2 es.length)).den _ _) && (noneB (ones es.length)).den _ _)
  rw [in5_den, ones_den h, all_den h]
  cases hi : insideS 2 R es px py with
  | true => rfl
  | false =>
    have : ¬ ∃ e ∈ es, insideS 1 R [e] px py = true := fun ⟨e, he, hx⟩ => by
      have := stroke_area hc he hx
      rw [hi] at this
      cases this
    rw [decide_eq_false this]; rfl
end
set_option maxRecDepth 100000 in
theorem shapeStrokes_law (l0 l1 : Ls) (s : Int) (hs : 0 ≤ s ∧ s < 256) (W : World) (h0 : l0.Ok W) (h1 : l1.Ok W) :
    Calls Try.prog 6 #[l0.v, l1.v, .int .u8 s] W (fun e w' => e = .returned (.bool true) ∧ Below W.heap.size W w') := by
  obtain ⟨K, R, es, hM, hMA⟩ := made_s h0
  obtain ⟨px, py, hp, hA⟩ := at_as h1 hM
  obtain ⟨hd, hhd⟩ : ∃ hd : List Int, hd = [R, px, py, s] := ⟨_, rfl⟩
  have hH : HdOk hd R px py s := by rw [hhd]; exact ⟨rfl, rfl, rfl, rfl⟩
  have hpos : 0 < es.length := by rcases hM.many with h | h <;> omega
  have hsm : es[0]!.small := hM.small _ (by rw [getElem!_pos es 0 hpos]; exact List.getElem_mem _)
  have ed := edT_den (I := IW W l0 l1) (hd := hd) hpos
  have f1 : (T.var 11).den (IW W l0 l1) (envE hd es) = es[0]!.ax := congrArg E7.ax ed
  have f2 : (T.var 12).den (IW W l0 l1) (envE hd es) = es[0]!.ay := congrArg E7.ay ed
  have hk : (⟨stF, [20, 21], 0⟩ : Known).Ok (IW W l0 l1) (envE hd es) := by
    refine ⟨fun p hp => ?_, fun f hf a n hn => ?_, fun _ h => absurd h (Nat.not_lt_zero _)⟩
    · have := hM.r
      obtain ⟨m1, m2, -⟩ := hsm
      simp only [stF, List.mem_cons, List.not_mem_nil, or_false] at hp
      rcases hp with rfl | rfl | rfl | rfl | rfl | rfl | rfl | rfl <;> (refine B.lt_t.2 ?_; simp only [T.den_lit, v0 hH, v3 hH, f1, f2]; omega)
    · simp only [List.mem_cons, List.not_mem_nil, or_false] at hf
      rcases hf with rfl | rfl
      · exact clampN_in _ hn
      · exact clampN_in _ hn
  have hct : ∀ ans, (∀ p ∈ ans, fbW 5 (p.1.map (T.den (IW W l0 l1) (envE hd es))) = p.2.den (IW W l0 l1) (envE hd es)) → CTOk Try.prog (IW W l0 l1) (envE hd es) (ctSt K es.length ans) := fun ans hans =>
    ctOr_ok (ctL_ok fun e he => by
      simp only [List.mem_cons, List.not_mem_nil, or_false] at he
      subst he
      exact ⟨rfl, rfl, fun w _ => sanity_c w⟩) (ctOr_ok (ctMd_ok hH.r hMA) (ctOr_ok (ctAt_ok hH.r hH.x hH.y hA) (ctOr_ok (ctIn_ok hans) (ctOr_ok (ctAS_gen _) (ctP_okW _)))))
  have fin : ∀ ans, (∀ p ∈ ans, fbW 5 (p.1.map (T.den (IW W l0 l1) (envE hd es))) = p.2.den (IW W l0 l1) (envE hd es)) → stRun K es.length ans = true → Calls Try.prog 6 #[l0.v, l1.v, .int .u8 s] W (fun e w' => e = .returned (.bool true) ∧ Below W.heap.size W w') := by
    intro ans hans hrun
    unfold stRun at hrun
    rw [ansF_eq] at hrun
    have h := calls_yes (w := W) mixed nocount (hct ans hans) (hyp_fixed rfl) hk (args := stA) rfl hrun
    have ea : (stA.map (V.den (IW W l0 l1) (envE hd es) id)).toArray = #[l0.v, l1.v, .int .u8 s] := by
      simp only [stA, List.map_cons, List.map_nil, V.den, C.den, v3 hH, T.dens_nil]
      rfl
    rw [ea] at h
    exact h
  rcases hM.many with ⟨rfl, m⟩ | ⟨rfl, -, m⟩
  · exact fin _ (ansP_ok hH hM.r hs hM.check) (stP_run m)
  · exact fin _ (ansR_ok hH hM.check) (stR_run m)
end Go.Proofs.Ytliimpbbppbghaa.Sx

