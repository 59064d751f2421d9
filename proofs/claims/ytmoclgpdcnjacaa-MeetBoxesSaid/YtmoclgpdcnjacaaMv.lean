/- MeetBoxes: edges whose boxes have no common point do not meet; edges with a common point do. -/
import Derived.Test.YtmoclgpdcnjacaaSxL
import Derived.Test.YtmoclgpdcnjacaaMk
import Derived.Test.YtmoclgpdcnjacaaMj
set_option linter.all false
set_option autoImplicit false
namespace Go.Proofs.Ytmoclgpdcnjacaa.Sx
open Go Go.RowKit

def sqL : Code → Code | .seq a _ => a | c => c
def sqR : Code → Code | .seq _ b => b | c => c
def blkC : Code → Code | .block _ b => b | c => c
def lpC : Code → Code | .loop b => b | c => c
noncomputable def bc : Code := (Try.f6.body).getD .skip
noncomputable def r7 : Code := sqR (sqR (sqR (sqR (sqR (sqR (sqR bc))))))
noncomputable def pre : List Code := [sqL bc, sqL (sqR bc), sqL (sqR (sqR bc)), sqL (sqR (sqR (sqR bc))), sqL (sqR (sqR (sqR (sqR bc)))), sqL (sqR (sqR (sqR (sqR (sqR bc))))), sqL (sqR (sqR (sqR (sqR (sqR (sqR bc))))))]
noncomputable def c8 : Code := sqL (sqL r7)
noncomputable def L0 : Code := lpC (blkC (sqR (sqL r7)))
noncomputable def tl0 : Code := sqR r7
noncomputable def c9 : Code := sqL L0
noncomputable def c10 : Code := sqR (sqR L0)
noncomputable def b1 : Code := blkC (sqL (sqR L0))
noncomputable def c11 : Code := sqL b1
noncomputable def L1 : Code := lpC (blkC (sqR b1))
theorem body_eq : Try.f6.body = some (seqs pre (.seq (seqs [c8] (.block 0 (.loop L0))) tl0)) := by kernel_rfl
theorem L0_eq : L0 = .seq c9 (.seq (.block 1 (seqs [c11] (.block 2 (.loop L1)))) c10) := by kernel_rfl

def kC (k : Int) : C := .int .i64 (.lit k)
def entB (k2 : Int) : List Ent := [sanE, ⟨9, [.c (.abs 0 .nil), .c (.int .i64 (.lit 1))], .agg [iv 0, iv 1, iv 2, iv 3, iv 4, iv 5, iv 6]⟩, ⟨9, [.c (.abs 1 .nil), .c (.int .i64 (.lit 1))], .agg [kC k2, iv 8, iv 9, iv 10, iv 11, iv 12, iv 13]⟩]
def ctB (k2 : Int) : CT := ctOr (ctL (entB k2)) ctNE
def byX : T := .bin .rem (.var 14) (.lit 40)
def byY : T := .bin .rem (.var 15) (.lit 40)
def pX (k : Nat) : T := .bin .add (.var k) byX
def pY (k : Nat) : T := .bin .add (.var k) byY
def is1 (k : Int) : Bool := decide (k = 1)
def aT : List T := [.var 0, .var 1, .var 2, .var 3, .var 4, .var 5, .var 6]
def bT (k2 : Int) : List T := [.lit k2, pX 8, pY 9, pX 10, pY 11, bif is1 k2 then .var 12 else pX 12, bif is1 k2 then .var 13 else pY 13]
def cntB (k2 : Int) : T := .app 12 (tlM (aT ++ bT k2))
def hiX : T := .bin .min (.bin .max (.var 1) (.var 3)) (.bin .max (pX 8) (pX 10))
def hiY : T := .bin .min (.bin .max (.var 2) (.var 4)) (.bin .max (pY 9) (pY 11))
def apartL : List (B × Bool) := [
  (.lt (.bin .max (.var 1) (.var 3)) (.bin .min (pX 8) (pX 10)), true),
  (.lt (.bin .max (pX 8) (pX 10)) (.bin .min (.var 1) (.var 3)), true),
  (.lt (.bin .max (.var 2) (.var 4)) (.bin .min (pY 9) (pY 11)), true),
  (.lt (.bin .max (pY 9) (pY 11)) (.bin .min (.var 2) (.var 4)), true)]
def badL (k2 : Int) : List (B × Bool) := [(.app 0 (tlM (aT ++ [.var 17, .var 18])), true), (.app 0 (tlM (bT k2 ++ [.var 17, .var 18])), true), (.eq (cntB k2) (.lit 0), true)]
def badF (k2 : Int) (l : List (B × Bool)) : Bool := (badL k2).all (hasF l)
/-- No common point, and boxes apart. -/
def isNone (k2 : Int) (l : List (B × Bool)) : V → Bool
  | .c (.bool (.eq a (.lit (.ofNat n)))) => a.same (cntB k2) && (Nat.beq n 0 && apartL.any (hasF l))
  | _ => false
def kn0 : Known := ⟨bdF, [0, 2], 0⟩
def kn1 : Known := ⟨(.lt (.lit (-1001)) (.var 17), true) :: bdF, [0, 2], 0⟩
def kn2 : Known := ⟨(.lt (.lit (-1001)) (.var 18), true) :: (.lt hiX (.var 17), false) :: (.lt (.lit (-1001)) (.var 17), true) :: bdF, [0, 2], 0⟩
noncomputable def fn : Func := Try.f6
def argsB : List V := [.c (.abs 0 .nil), .c (.abs 1 .nil), .agg [iv 14, iv 15]]
noncomputable def f0 : F := ⟨fillFr ⟨startSz fn.ntmps argsB, .nil⟩ 0 argsB, ⟨[], 0, kn0⟩⟩
noncomputable def okRet (k2 : Int) (o : Out) : Bool := match resultsS Try.prog o.f fn.results.toList with
  | some v => isYes v || (badF k2 o.f.s.known.facts || isNone k2 o.f.s.known.facts v)
  | none => false
def lowOk (o : Out) (t : Nat) : Bool := match getF o.f.fr t with
  | .c (.int .i64 e) => inB o.f.s.known e (-1000) 1000
  | _ => false
def stepOk (o : Out) (t k : Nat) : Bool := match getF o.f.fr t with
  | .c (.int .i64 (.bin .add (.var j) (.lit (.ofNat n)))) => Nat.beq j k && Nat.beq n 1
  | _ => false
def varOk (f : F) (t k : Nat) : Bool := match getF f.fr t with
  | .c (.int .i64 (.var j)) => Nat.beq j k
  | _ => false
noncomputable def X (k2 : Int) (c : Code) (f : F) : Tree Out := execC Try.prog (execY Try.prog (ctB k2) 20) CY.none c false f
noncomputable def XS (k2 : Int) (c : List Code) (f : F) : Tree Out := execS Try.prog (execY Try.prog (ctB k2) 20) c f
def D0 : List Nat := [14, 15, 73, 74, 75, 76, 77, 78, 79, 80, 81, 82, 83, 84, 85, 86, 87, 88, 89, 90, 91, 92, 93, 94, 95, 96, 97, 98, 99, 100, 101, 102, 103, 104, 105, 106, 107, 108, 109, 110, 111, 112]
def D1 : List Nat := [15, 87, 88, 89, 90, 91, 92, 93, 94, 95, 96, 97, 98, 99, 100, 101, 102, 103, 104, 105, 106, 107, 108, 109, 110, 111, 112]
noncomputable def chkTail (k2 : Int) (f : F) : Bool := allOk (fun o => match o.e with
  | .ret => okRet k2 o
  | _ => false) (X k2 tl0 f)
noncomputable def chkIn (k2 : Int) (F0 F1 : F) (o : Out) : Bool := match o.e with
  | .exit id => Nat.beq id 2 && allOk (fun o3 => match o3.e with
    | .normal => frOk 17 [(17, 13)] o3.f.fr F0.fr && (stOk 17 o3.f.s F0.s && stepOk o3 13 17)
    | _ => false) (X k2 c10 o.f)
  | .normal => hasF o.f.s.known.facts (.lt hiY (.var 18), false) && (frOk 18 [(18, 14)] o.f.fr F1.fr && (stOk 18 o.f.s F1.s && stepOk o 14 18))
  | .ret => okRet k2 o
noncomputable def chkOut (k2 : Int) (F0 : F) (o : Out) : Bool := match o.e with
  | .exit id => Nat.beq id 0 && chkTail k2 o.f
  | .normal => hasF o.f.s.known.facts (.lt hiX (.var 17), false) && withFirst (XS k2 [c11] o.f) fun o1 => genK D1 [(18, 14)] kn2 o1 fun F1 => wfOk F1 && (varOk F1 14 18 && (allOk (fun o => match o.e with
      | .normal => frOk 18 [(18, 14)] o.f.fr F1.fr && (stOk 18 o.f.s F1.s && lowOk o 14)
      | _ => false) (XS k2 [c11] o.f) && allOk (chkIn k2 F0 F1) (X k2 L1 F1)))
  | .ret => false
noncomputable def boxRun (k2 : Int) : Bool := withFirst (XS k2 pre f0) fun o => withFirst (XS k2 [c8] o.f) fun o => genK D0 [(17, 13)] kn1 o fun F0 => wfOk F0 && (varOk F0 13 17 && (allOk (fun o => match o.e with
    | .normal => allOk (fun o => match o.e with
      | .normal => frOk 17 [(17, 13)] o.f.fr F0.fr && (stOk 17 o.f.s F0.s && lowOk o 13)
      | _ => false) (XS k2 [c8] o.f)
    | .ret => okRet k2 o
    | _ => false) (XS k2 pre f0) && allOk (chkOut k2 F0) (X k2 c9 F0)))
set_option maxRecDepth 1000000 in
theorem box_1 : boxRun 1 = true := by kernel_rfl
set_option maxRecDepth 1000000 in
theorem box_2 : boxRun 2 = true := by kernel_rfl
set_option maxRecDepth 1000000 in
theorem box_3 : boxRun 3 = true := by kernel_rfl
theorem box_run {k2 : Int} (h1 : 1 ≤ k2) (h2 : k2 ≤ 3) : boxRun k2 = true := by
  have a : k2 = 1 ∨ k2 = 2 ∨ k2 = 3 := by omega
  rcases a with rfl | rfl | rfl
  · exact box_1
  · exact box_2
  · exact box_3
theorem rf9 : noRF c9 = true := by kernel_rfl
theorem rf10 : noRF c10 = true := by kernel_rfl
theorem rfT : noRF tl0 = true := by kernel_rfl
theorem rfL : noRF L1 = true := by kernel_rfl
theorem rf11 : [c11].all noRF = true := by kernel_rfl
theorem rf8 : [c8].all noRF = true := by kernel_rfl
theorem rfP : pre.all noRF = true := by kernel_rfl
def RT (W : World) : Ending → World → Prop := fun e w' => e = .returned (.bool true) ∧ Below W.heap.size W w'
def valI : Value → Int | .int _ n => n | _ => 0
def slotI (a : Act) (t : Nat) : Int := valI (a.tmps.getD t undef)
section
variable {I : Interp} {ρ : Env} {β : Nat → Nat} {o : Out} {f : F}
theorem slot_var {t k : Nat} (h : varOk f t k = true) : slotI (actOf [] I ρ β f.fr) t = ρ.i k := by
  unfold slotI
  rw [getF_den]
  unfold varOk at h
  split at h
  · rename_i j e
    rw [e, Nat.eq_of_beq_eq_true h]
    rfl
  · cases h
theorem step_new {m t k j : Nat} {lv : Lv} (h : stepOk o t k = true) (hs : slotOf j lv = some t) (hj : ¬ j < m) : (newEnv I ρ β m lv o.f.fr).i j = ρ.i k + 1 := by
  unfold newEnv
  simp only [if_neg hj, hs]
  unfold stepOk at h
  split at h
  · rename_i j' n e
    simp only [Bool.and_eq_true] at h
    rw [e, Nat.eq_of_beq_eq_true h.1, Nat.eq_of_beq_eq_true h.2]
    rfl
  · cases h
theorem low_new {m t j : Nat} {lv : Lv} (hk : o.f.s.known.Ok I ρ) (h : lowOk o t = true) (hs : slotOf j lv = some t) (hj : ¬ j < m) : -1001 < (newEnv I ρ β m lv o.f.fr).i j := by
  unfold newEnv
  simp only [if_neg hj, hs]
  unfold lowOk at h
  split at h
  · rename_i e he
    rw [he]
    have := (inB_ok hk h).1
    show -1001 < e.den I ρ
    omega
  · cases h
end
section
variable {W : World} {l0 l1 : Ls} {ρ ρ0 ρ1 : Env} {k2 : Int} {l : List (B × Bool)}
theorem apart_none (hl : ∀ p ∈ l, p.1.den (IL W l0 l1) ρ = p.2) (h : apartL.any (hasF l) = true) : (cntB k2).den (IL W l0 l1) ρ = 0 := by
  obtain ⟨p, hp, h⟩ := List.any_eq_true.1 h
  have h := hasF_ok hl h
  simp only [apartL, List.mem_cons, List.not_mem_nil, or_false] at hp
  show countZ (ρ.i 0) (ρ.i 1) (ρ.i 2) (ρ.i 3) (ρ.i 4) (ρ.i 5) (ρ.i 6) k2 (ρ.i 8 + (ρ.i 14).tmod 40) (ρ.i 9 + (ρ.i 15).tmod 40) (ρ.i 10 + (ρ.i 14).tmod 40) (ρ.i 11 + (ρ.i 15).tmod 40) _ _ = 0
  refine count_apart fun ho => ?_
  unfold ovP at ho
  rcases hp with rfl | rfl | rfl | rfl
  all_goals
    have h := B.lt_t.1 h
    simp only [pX, pY, byX, byY, T.den_bin, T.den_var, T.den_lit, ev_max, ev_min, ev_add, ev_rem] at h
    omega
theorem bad_false (hl : ∀ p ∈ l, p.1.den (IL W l0 l1) ρ = p.2) (h : badF k2 l = true) : False := by
  simp only [badF, badL, List.all_cons, List.all_nil, Bool.and_eq_true] at h
  obtain ⟨h1, h2, h3, -⟩ := h
  have a : decide (onP (ρ.i 0) (ρ.i 1) (ρ.i 2) (ρ.i 3) (ρ.i 4) (ρ.i 5) (ρ.i 6) (ρ.i 17) (ρ.i 18)) = true := hasF_ok hl h1
  have b : decide (onP k2 (ρ.i 8 + (ρ.i 14).tmod 40) (ρ.i 9 + (ρ.i 15).tmod 40) (ρ.i 10 + (ρ.i 14).tmod 40) (ρ.i 11 + (ρ.i 15).tmod 40) (T.den (IL W l0 l1) ρ (bif is1 k2 then .var 12 else pX 12)) (T.den (IL W l0 l1) ρ (bif is1 k2 then .var 13 else pY 13)) (ρ.i 17) (ρ.i 18)) = true := hasF_ok hl h2
  have c : (cntB k2).den (IL W l0 l1) ρ = 0 := B.eq_t.1 (hasF_ok hl h3)
  exact count_ne (of_decide_eq_true a) (of_decide_eq_true b) c
theorem ret_end {o : Out} {β : Nat → Nat} {w : World} (h : okRet k2 o = true) (hw : WR (IL W l0 l1) ρ W (fun _ => False) 0 id β o.f.s w) : Ends Try.prog fn (RT W) .ret (actOf [] (IL W l0 l1) ρ β o.f.fr) w := by
  unfold okRet at h
  split at h
  · rename_i v hv
    refine ends_of_state hw hv ⟨congrArg _ ?_, hw.keeps.below⟩ (.inr rfl)
    simp only [Bool.or_eq_true] at h
    rcases h with h | h | h
    · rw [isYes_eq h]; rfl
    · exact (bad_false hw.known.facts h).elim
    · unfold isNone at h
      split at h
      · rename_i a n
        simp only [Bool.and_eq_true] at h
        obtain ⟨h1, h2, h3⟩ := h
        rw [T.same_eq h1, Nat.eq_of_beq_eq_true h2]
        have := apart_none (k2 := k2) hw.known.facts h3
        show Value.bool (decide ((cntB k2).den (IL W l0 l1) ρ = 0)) = .bool true
        rw [this]; rfl
      · cases h
  · cases h
theorem hiX_same (hS : Same 17 ρ0 ρ) : hiX.den (IL W l0 l1) ρ = hiX.den (IL W l0 l1) ρ0 := T.den_sta hS (by decide)
theorem hiY_same (hS : Same 17 ρ0 ρ) : hiY.den (IL W l0 l1) ρ = hiY.den (IL W l0 l1) ρ0 := T.den_sta hS (by decide)
theorem Same.low {m n : Nat} (h : Same n ρ0 ρ) (hm : m ≤ n) : Same m ρ0 ρ := ⟨fun k hk => h.i k (by omega), h.b⟩
theorem Same.trans {m : Nat} (h : Same m ρ0 ρ1) (k : Same m ρ1 ρ) : Same m ρ0 ρ := ⟨fun j hj => (k.i j hj).trans (h.i j hj), fun j => (k.b j).trans (h.b j)⟩
variable (hct : ∀ ρ, Same 17 ρ0 ρ → CTOk Try.prog (IL W l0 l1) ρ (ctB k2)) (hbd : ∀ ρ, Same 17 ρ0 ρ → ∀ p ∈ bdF, p.1.den (IL W l0 l1) ρ = p.2)
include hbd in
theorem kn1_ok (hS : Same 17 ρ0 ρ) (h : -1001 < ρ.i 17) : kn1.Ok (IL W l0 l1) ρ := draws_ok (n := 0) (fun p hp => by
  rcases List.mem_cons.1 hp with rfl | hp
  · exact B.lt_t.2 h
  · exact hbd ρ hS p hp) (fun _ h => absurd h (Nat.not_lt_zero _))
include hbd in
theorem kn2_ok (hS : Same 17 ρ0 ρ) (h : -1001 < ρ.i 17) (h' : ρ.i 17 ≤ hiX.den (IL W l0 l1) ρ) (h2 : -1001 < ρ.i 18) : kn2.Ok (IL W l0 l1) ρ := draws_ok (n := 0) (fun p hp => by
  rcases List.mem_cons.1 hp with rfl | hp
  · exact B.lt_t.2 h2
  · rcases List.mem_cons.1 hp with rfl | hp
    · exact B.lt_f.2 h'
    · rcases List.mem_cons.1 hp with rfl | hp
      · exact B.lt_t.2 h
      · exact hbd ρ hS p hp) (fun _ h => absurd h (Nat.not_lt_zero _))
include hct hbd in
set_option maxRecDepth 100000 in
theorem inner {F0 F1 : F} {QQ : Exit → Act → World → Prop} (hwf : wfOk F1 = true) (hvar : varOk F1 14 18 = true) (hkn : F1.s.known = kn2) (hin : allOk (chkIn k2 F0 F1) (X k2 L1 F1) = true) (hS1 : Same 17 ρ0 ρ1) (hx1 : -1001 < ρ1.i 17) (hx2 : ρ1.i 17 ≤ hiX.den (IL W l0 l1) ρ0)
    (hexit : ∀ (ρ : Env) (β : Nat → Nat) (w : World) (f : F), Same 18 ρ1 ρ → chkIn k2 F0 F1 ⟨.exit 2, f⟩ = true → WR (IL W l0 l1) ρ W (fun _ => False) 0 id β f.s w → f.wf → QQ .normal (actOf [] (IL W l0 l1) ρ β f.fr) w)
    (hret : ∀ a w, Ends Try.prog fn (RT W) .ret a w → QQ .ret a w) {β : Nat → Nat} {w : World} (hS : Same 18 ρ1 ρ) (hlow : -1001 < ρ.i 18) (hw : WR (IL W l0 l1) ρ W (fun _ => False) 0 id β F1.s w) :
    (Code.block 2 (.loop L1)).wpIn (RF none) 0 Try.prog QQ (actOf [] (IL W l0 l1) ρ β F1.fr) w := by
  refine wpIn_block ?_
  refine wpIn_loop (fun a w => ∃ ρ β, Same 18 ρ1 ρ ∧ -1001 < ρ.i 18 ∧ a = actOf [] (IL W l0 l1) ρ β F1.fr ∧ WR (IL W l0 l1) ρ W (fun _ => False) 0 id β F1.s w) (fun a _ => (hiY.den (IL W l0 l1) ρ0 + 1 - slotI a 14).toNat) ⟨ρ, β, hS, hlow, rfl, hw⟩ ?_
  rintro a w ⟨ρ, β, hS, hlow, rfl, hw⟩
  have hS17 : Same 17 ρ0 ρ := hS1.trans (hS.low (by omega))
  refine code_ok mixed nocount (hct ρ hS17) (k := 20) rfL (Tree.vc_mono ?_ (allOk_vc hin)) hw (wfOk_wf hwf)
  rintro ⟨e, f⟩ hc β' w' hw' hwf'
  cases e with
  | ret => exact hret _ _ (ret_end (o := ⟨.ret, f⟩) hc hw')
  | exit id =>
    have hc' := hc
    simp only [chkIn, Bool.and_eq_true] at hc
    have := Nat.eq_of_beq_eq_true hc.1
    subst this
    exact hexit ρ β' w' f hS hc' hw' hwf'
  | normal =>
    simp only [chkIn, Bool.and_eq_true] at hc
    obtain ⟨hle, hfr, hst, hstep⟩ := hc
    have hle := B.lt_f.1 (hasF_ok hw'.known.facts hle)
    have hle : ρ.i 18 ≤ hiY.den (IL W l0 l1) ρ := hle
    rw [hiY_same hS17] at hle
    have hn := step_new (I := IL W l0 l1) (ρ := ρ) (β := β') (o := ⟨.normal, f⟩) (m := 18) (lv := [(18, 14)]) (j := 18) hstep rfl (by omega)
    have hsame : Same 18 ρ (newEnv (IL W l0 l1) ρ β' 18 [(18, 14)] f.fr) := newEnv_same _ _ _ _ _ _
    have h17 := hsame.i 17 (by omega)
    have hS' := hS17.trans (hsame.low (show 17 ≤ 18 by omega))
    have hi17 := hS.i 17 (by omega)
    obtain ⟨ea, hwA⟩ := again hfr hst (Nat.zero_le _) hw' (by
      rw [hkn]
      refine kn2_ok hbd hS' ?_ ?_ ?_
      · rw [h17, hi17]; exact hx1
      · rw [h17, hi17, hiX_same hS']; exact hx2
      · rw [hn]; omega)
    refine ⟨⟨_, β', hS.trans hsame, by rw [hn]; omega, ea, hwA⟩, ?_⟩
    show (hiY.den (IL W l0 l1) ρ0 + 1 - slotI (actOf [] (IL W l0 l1) ρ β' f.fr) 14).toNat < (hiY.den (IL W l0 l1) ρ0 + 1 - slotI (actOf [] (IL W l0 l1) ρ β F1.fr) 14).toNat
    rw [ea, slot_var hvar, slot_var hvar, hn]
    omega
include hct hbd in
set_option maxRecDepth 100000 in
theorem outer {F0 : F} (hwf : wfOk F0 = true) (hvar : varOk F0 13 17 = true) (hkn : F0.s.known = kn1) (hout : allOk (chkOut k2 F0) (X k2 c9 F0) = true) {β : Nat → Nat} {w : World} (hS : Same 17 ρ0 ρ) (hlow : -1001 < ρ.i 17) (hw : WR (IL W l0 l1) ρ W (fun _ => False) 0 id β F0.s w) :
    (Code.block 0 (.loop L0)).wpIn (RF none) 0 Try.prog (Exit.then (tl0.wpIn (RF none) 0 Try.prog (Ends Try.prog fn (RT W))) (Ends Try.prog fn (RT W))) (actOf [] (IL W l0 l1) ρ β F0.fr) w := by
  refine wpIn_block ?_
  refine wpIn_loop (fun a w => ∃ ρ β, Same 17 ρ0 ρ ∧ -1001 < ρ.i 17 ∧ a = actOf [] (IL W l0 l1) ρ β F0.fr ∧ WR (IL W l0 l1) ρ W (fun _ => False) 0 id β F0.s w) (fun a _ => (hiX.den (IL W l0 l1) ρ0 + 1 - slotI a 13).toNat) ⟨ρ, β, hS, hlow, rfl, hw⟩ ?_
  rintro a w ⟨ρ, β, hS, hlow, rfl, hw⟩
  rw [L0_eq]
  refine wpIn_seq (code_ok mixed nocount (hct ρ hS) (k := 20) rf9 (Tree.vc_mono ?_ (allOk_vc hout)) hw (wfOk_wf hwf))
  rintro ⟨e, f⟩ hc β' w' hw' hwf'
  cases e with
  | ret => cases hc
  | exit id =>
    simp only [chkOut, Bool.and_eq_true] at hc
    have := Nat.eq_of_beq_eq_true hc.1
    subst this
    refine code_ok mixed nocount (hct ρ hS) (k := 20) (Q := Ends Try.prog fn (RT W)) rfT (Tree.vc_mono ?_ (allOk_vc hc.2)) hw' hwf'
    rintro ⟨e, f2⟩ hr β2 w2 hw2 hwf2
    cases e with
    | ret => exact ret_end (o := ⟨.ret, f2⟩) hr hw2
    | exit _ => cases hr
    | normal => cases hr
  | normal =>
    simp only [chkOut, Bool.and_eq_true] at hc
    obtain ⟨hle, hc⟩ := hc
    obtain ⟨o1, hc⟩ := withFirst_ex hc
    obtain ⟨F1, hc, hk1⟩ := genK_ex hc
    simp only [Bool.and_eq_true] at hc
    obtain ⟨hwf1, hvar1, h11, hin⟩ := hc
    have hle := B.lt_f.1 (hasF_ok hw'.known.facts hle)
    have hle : ρ.i 17 ≤ hiX.den (IL W l0 l1) ρ := hle
    have hle0 := hle
    rw [hiX_same hS] at hle0
    refine wpIn_seq (wpIn_block (spine_ok mixed nocount (hct ρ hS) (k := 20) (cs := [c11]) rf11 (Tree.vc_mono ?_ (allOk_vc h11)) hw' hwf'))
    rintro ⟨e, f1⟩ hc1 β1 w1 hw1 hwf1'
    cases e with
    | ret => cases hc1
    | exit _ => cases hc1
    | normal =>
      simp only [Bool.and_eq_true] at hc1
      obtain ⟨hfr, hst, hlow1⟩ := hc1
      have hlw := low_new (I := IL W l0 l1) (ρ := ρ) (β := β1) (o := ⟨.normal, f1⟩) (m := 18) (lv := [(18, 14)]) (j := 18) hw1.known hlow1 rfl (by omega)
      have hsame : Same 18 ρ (newEnv (IL W l0 l1) ρ β1 18 [(18, 14)] f1.fr) := newEnv_same _ _ _ _ _ _
      have h17 := hsame.i 17 (by omega)
      have hS' := hS.trans (hsame.low (show 17 ≤ 18 by omega))
      obtain ⟨ea, hwA⟩ := again hfr hst (Nat.zero_le _) hw1 (by
        rw [hk1]
        refine kn2_ok hbd hS' ?_ ?_ ?_
        · rw [h17]; exact hlow
        · rw [h17, hiX_same hS']; exact hle0
        · exact hlw)
      show (Code.block 2 (.loop L1)).wpIn (RF none) 0 Try.prog _ (actOf [] (IL W l0 l1) ρ β1 f1.fr) w1
      rw [ea]
      refine inner hct hbd hwf1 hvar1 hk1 hin hS hlow hle0 ?_ ?_ hsame hlw hwA
      rotate_left
      · exact fun a w h => h
      intro ρ2 β2 w2 f2 hS2 hchk hw2 hwf2
      simp only [chkIn, Bool.and_eq_true] at hchk
      have hS217 : Same 17 ρ0 ρ2 := hS.trans (hS2.low (by omega))
      refine code_ok mixed nocount (hct ρ2 hS217) (k := 20) rf10 (Tree.vc_mono ?_ (allOk_vc hchk.2)) hw2 hwf2
      rintro ⟨e, f3⟩ hc3 β3 w3 hw3 hwf3
      cases e with
      | ret => cases hc3
      | exit _ => cases hc3
      | normal =>
        simp only [Bool.and_eq_true] at hc3
        obtain ⟨hfr, hst, hstep⟩ := hc3
        have hn := step_new (I := IL W l0 l1) (ρ := ρ2) (β := β3) (o := ⟨.normal, f3⟩) (m := 17) (lv := [(17, 13)]) (j := 17) hstep rfl (by omega)
        have hi17 := hS2.i 17 (by omega)
        have hsame : Same 17 ρ2 (newEnv (IL W l0 l1) ρ2 β3 17 [(17, 13)] f3.fr) := newEnv_same _ _ _ _ _ _
        have hS' := hS217.trans hsame
        obtain ⟨ea, hwA⟩ := again hfr hst (Nat.zero_le _) hw3 (by
          rw [hkn]
          exact kn1_ok hbd hS' (by rw [hn]; omega))
        refine ⟨⟨_, β3, hS', by rw [hn]; omega, ea, hwA⟩, ?_⟩
        show (hiX.den (IL W l0 l1) ρ0 + 1 - slotI (actOf [] (IL W l0 l1) ρ2 β3 f3.fr) 13).toNat < (hiX.den (IL W l0 l1) ρ0 + 1 - slotI (actOf [] (IL W l0 l1) ρ β F0.fr) 13).toNat
        rw [ea, slot_var hvar, slot_var hvar, hn]
        omega
end
theorem sz_ok : deepOk (startSz fn.ntmps argsB) = true := by kernel_rfl
theorem f0_wf : wfOk f0 = true := by kernel_rfl
theorem bdF_sta : bdF.all (fun p => p.1.sta 17) = true := by kernel_rfl
set_option maxRecDepth 100000 in
theorem meetBoxes_law (l0 l1 : Ls) (x y : Int) (W : World) (h0 : l0.Ok W) (h1 : l1.Ok W) :
    Calls Try.prog 6 #[l0.v, l1.v, .agg #[.int .i64 x, .int .i64 y]] W (fun e w' => e = .returned (.bool true) ∧ Below W.heap.size W w') := by
  obtain ⟨r, ⟨k, ax, ay, bx, by', cx, cy, rfl, hb⟩, hm⟩ := made_ex h0 h1
  obtain ⟨r, ⟨k2, px, py, qx, qy, rx, ry, rfl, hb2⟩, hn⟩ := made_ex h1 h0
  obtain ⟨ρ0, hρ⟩ : ∃ ρ0, ρ0 = envOf [k, ax, ay, bx, by', cx, cy, k2, px, py, qx, qy, rx, ry, x, y] [] := ⟨_, rfl⟩
  have hct : ∀ ρ, Same 17 ρ0 ρ → CTOk Try.prog (IL W l0 l1) ρ (ctB k2) := fun ρ hS => by
    refine ctOr_ok (ctL_ok fun e he => ?_) (ctNE_ok h0 h1 ρ)
    simp only [entB, List.mem_cons, List.not_mem_nil, or_false] at he
    rcases he with rfl | rfl | rfl
    · exact sanE_ok (W := W) (l0 := l0) (l1 := l1) _
    · refine ⟨rfl, rfl, fun w hw => ?_⟩
      rw [V.den_sta hS rfl, hρ]
      exact hm w hw
    · refine ⟨rfl, rfl, fun w hw => ?_⟩
      rw [V.den_sta hS rfl, hρ]
      exact hn w hw
  have hbd : ∀ ρ, Same 17 ρ0 ρ → ∀ p ∈ bdF, p.1.den (IL W l0 l1) ρ = p.2 := fun ρ hS p hp => by
    rw [B.den_sta hS (List.all_eq_true.1 bdF_sta p hp), hρ]
    exact bdF_ok hb hb2 p hp
  have hrun := box_run hb2.1.1 hb2.1.2.1
  unfold boxRun at hrun
  obtain ⟨o, hrun⟩ := withFirst_ex hrun
  obtain ⟨o', hrun⟩ := withFirst_ex hrun
  obtain ⟨F0, hrun, hkn⟩ := genK_ex hrun
  simp only [Bool.and_eq_true] at hrun
  obtain ⟨hwf, hvar, hpre, hout⟩ := hrun
  have hs0 : Same 17 ρ0 ρ0 := ⟨fun _ _ => rfl, fun _ => rfl⟩
  have hk0 : kn0.Ok (IL W l0 l1) ρ0 := draws_ok (n := 0) (hbd ρ0 hs0) (fun _ h => absurd h (Nat.not_lt_zero _))
  have hW : WR (IL W l0 l1) ρ0 W (fun _ => False) 0 id id f0.s W := ⟨(fun _ h => nomatch h), (fun _ h => nomatch h), (fun _ h => nomatch h), (fun _ h => nomatch h), (fun _ h => nomatch h), (fun _ h => nomatch h), (fun _ h => nomatch h), hk0, Nat.le_refl _, fun _ _ => rfl, Keeps.refl _ _, hyp_fixed rfl⟩
  have hmain : Calls Try.prog 6 (argsB.map (V.den (IL W l0 l1) ρ0 id)).toArray W (RT W) := by
    refine calls_split (fn := fn) Try.func6 body_eq sz_ok ?_
    refine spine_ok mixed nocount (hct ρ0 hs0) (k := 20) (f := f0) rfP (Tree.vc_mono ?_ (allOk_vc hpre)) hW (wfOk_wf f0_wf)
    rintro ⟨e, f⟩ hc β w hw hwf'
    cases e with
    | exit _ => cases hc
    | ret => exact ret_end (o := ⟨.ret, f⟩) hc hw
    | normal =>
      refine wpIn_seq (spine_ok mixed nocount (hct ρ0 hs0) (k := 20) rf8 (Tree.vc_mono ?_ (allOk_vc hc)) hw hwf')
      rintro ⟨e, f1⟩ hc1 β1 w1 hw1 hwf1
      cases e with
      | ret => cases hc1
      | exit _ => cases hc1
      | normal =>
        simp only [Bool.and_eq_true] at hc1
        obtain ⟨hfr, hst, hlow⟩ := hc1
        have hlw := low_new (I := IL W l0 l1) (ρ := ρ0) (β := β1) (o := ⟨.normal, f1⟩) (m := 17) (lv := [(17, 13)]) (j := 17) hw1.known hlow rfl (by omega)
        have hsame : Same 17 ρ0 (newEnv (IL W l0 l1) ρ0 β1 17 [(17, 13)] f1.fr) := newEnv_same _ _ _ _ _ _
        obtain ⟨ea, hwA⟩ := again hfr hst (Nat.zero_le _) hw1 (by rw [hkn]; exact kn1_ok hbd hsame hlw)
        show (Code.block 0 (.loop L0)).wpIn (RF none) 0 Try.prog _ (actOf [] (IL W l0 l1) ρ0 β1 f1.fr) w1
        rw [ea]
        exact outer hct hbd hwf hvar hkn hout hsame hlw hwA
  subst hρ
  exact hmain
end Go.Proofs.Ytmoclgpdcnjacaa.Sx
