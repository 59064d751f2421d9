/- VecQuarters, as a walk. -/
import Derived.Test.YtapnoijnegcmfaaMath
import Derived.Deep.Cut
set_option linter.all false
namespace Go.Proofs.Ytapnoijnegcmfaa
open Go Go.RowKit Go.Shelf

theorem run_geqi {o : Oper} {a : Act} {w : World} (x y : Operand) (ho : o.op = .binOp .geq 3 x y 3) (u v : Int) (hx : a.eval x = .int .i64 u) (hy : a.eval y = .int .i64 v) (b : Bool) (hb : decide (u ≥ v) = b) : (execOp a.eval o).run Try.prog w = .ok (.value (.bool b)) w := by
  subst hb
  unfold execOp
  simp only [ho, hx, hy]
  simp [go_sem]
theorem ap_quarter (a b : Int) (ha : -10000 ≤ a) (ha' : a ≤ 10000) (hb : -10000 ≤ b) (hb' : b ≤ 10000) : apX 0 1 false a b = -b ∧ apY 0 1 false a b = a := by
  unfold apX apY tuX tuY miX
  simp
  constructor
  · rw [w_w]; exact w_in (by omega) (by omega)
  · exact w_in (by omega) (by omega)
theorem mul_in {p a : Int} (hp : -10000 ≤ p) (hp' : p ≤ 10000) (ha : -10000 ≤ a) (ha' : a ≤ 10000) : -100000000 ≤ p * a ∧ p * a ≤ 100000000 := by
  have h1 : 0 ≤ (p + 10000) * (a + 10000) := Int.mul_nonneg (by omega) (by omega)
  have h2 : 0 ≤ (10000 - p) * (10000 - a) := Int.mul_nonneg (by omega) (by omega)
  have h3 : 0 ≤ (p + 10000) * (10000 - a) := Int.mul_nonneg (by omega) (by omega)
  have h4 : 0 ≤ (10000 - p) * (a + 10000) := Int.mul_nonneg (by omega) (by omega)
  grind
/-- The place that numbers make of a quarter's sides. -/
def qx (a b p q : Int) : Int := wrap64 (wrap64 (p * a) + wrap64 (q * (-b)))
def qy (a b p q : Int) : Int := wrap64 (wrap64 (p * b) + wrap64 (q * a))
theorem qx_eq {a b p q : Int} (hp : -10000 ≤ p ∧ p ≤ 10000) (hq : -10000 ≤ q ∧ q ≤ 10000) (ha : -10000 ≤ a ∧ a ≤ 10000) (hb : -10000 ≤ b ∧ b ≤ 10000) : qx a b p q = p * a - q * b := by
  have h1 := mul_in hp.1 hp.2 ha.1 ha.2
  have h2 := mul_in hq.1 hq.2 hb.1 hb.2
  have h3 : q * (-b) = -(q * b) := by grind
  unfold qx
  rw [h3, w_add]
  exact (w_in (by omega) (by omega)).trans (by omega)
theorem qy_eq {a b p q : Int} (hp : -10000 ≤ p ∧ p ≤ 10000) (hq : -10000 ≤ q ∧ q ≤ 10000) (ha : -10000 ≤ a ∧ a ≤ 10000) (hb : -10000 ≤ b ∧ b ≤ 10000) : qy a b p q = p * b + q * a := by
  have h1 := mul_in hp.1 hp.2 hb.1 hb.2
  have h2 := mul_in hq.1 hq.2 ha.1 ha.2
  unfold qy
  rw [w_add]
  exact w_in (by omega) (by omega)
theorem sq_pos {a b : Int} (h : ¬ (a = 0 ∧ b = 0)) : 0 < a * a + b * b := by
  have h1 : 0 ≤ a * a := by
    rcases Int.le_total 0 a with h | h
    · exact Int.mul_nonneg h h
    · have := Int.mul_nonneg (show 0 ≤ -a by omega) (show 0 ≤ -a by omega); grind
  have h2 : 0 ≤ b * b := by
    rcases Int.le_total 0 b with h | h
    · exact Int.mul_nonneg h h
    · have := Int.mul_nonneg (show 0 ≤ -b by omega) (show 0 ≤ -b by omega); grind
  apply Classical.byContradiction
  intro h3
  have ea : a * a = 0 := by omega
  have eb : b * b = 0 := by omega
  exact h ⟨by rcases Int.mul_eq_zero.1 ea with e | e <;> exact e, by rcases Int.mul_eq_zero.1 eb with e | e <;> exact e⟩
theorem sq_in {a b : Int} (ha : -10000 ≤ a ∧ a ≤ 10000) (hb : -10000 ≤ b ∧ b ≤ 10000) : a * a + b * b ≤ 200000000 := by
  have h1 := mul_in ha.1 ha.2 ha.1 ha.2
  have h2 := mul_in hb.1 hb.2 hb.1 hb.2
  omega
theorem smul_sign {q n : Int} (hn : 0 < n) : 0 ≤ q * n ↔ 0 ≤ q := by
  constructor
  · intro h
    apply Classical.byContradiction
    intro hq
    have := Int.mul_le_mul_of_nonneg_right (show q ≤ -1 by omega) (show 0 ≤ n by omega)
    omega
  · intro h; exact Int.mul_nonneg h (by omega)
theorem smul_in {q n : Int} (hq : -10000 ≤ q ∧ q ≤ 10000) (hn : 0 < n) (hn2 : n ≤ 200000000) : -2000000000000 ≤ q * n ∧ q * n ≤ 2000000000000 := by
  have h1 := Int.mul_le_mul_of_nonneg_right hq.1 (show 0 ≤ n by omega)
  have h2 := Int.mul_le_mul_of_nonneg_right hq.2 (show 0 ≤ n by omega)
  omega
/-- Within the quarter of two sides are the places that numbers make that are not negative. -/
theorem quarter_within {a b p q : Int} (hp : -10000 ≤ p ∧ p ≤ 10000) (hq : -10000 ≤ q ∧ q ≤ 10000) (ha : -10000 ≤ a ∧ a ≤ 10000) (hb : -10000 ≤ b ∧ b ≤ 10000) (h0 : ¬ (a = 0 ∧ b = 0)) :
    withinB (qx a b p q) (qy a b p q) a b (-b) a = (decide (0 ≤ p) && decide (0 ≤ q)) := by
  have hn := sq_pos h0
  have hm := sq_in ha hb
  have hs := smul_in hq hn hm
  have ht := smul_in hp hn hm
  have e1 : crossZ a b (qx a b p q) (qy a b p q) = q * (a * a + b * b) := by
    unfold crossZ
    rw [qx_eq hp hq ha hb, qy_eq hp hq ha hb]
    have e : a * (p * b + q * a) - b * (p * a - q * b) = q * (a * a + b * b) := by grind
    rw [e]
    exact w_in (by omega) (by omega)
  have e2 : crossZ (qx a b p q) (qy a b p q) (-b) a = p * (a * a + b * b) := by
    unfold crossZ
    rw [qx_eq hp hq ha hb, qy_eq hp hq ha hb]
    have e : (p * a - q * b) * a - (p * b + q * a) * (-b) = p * (a * a + b * b) := by grind
    rw [e]
    exact w_in (by omega) (by omega)
  unfold withinB
  rw [e1, e2]
  simp only [smul_sign hn]
  rw [Bool.decide_and]
  exact Bool.and_comm _ _
theorem quarter_dot (a b : Int) : dotZ a b (-b) a = 0 := by
  unfold dotZ
  have e : a * -b + b * a = 0 := by grind
  rw [e]; exact w_in (by omega) (by omega)
theorem tmod_in (x : Int) : -10000 ≤ x.tmod 10000 ∧ x.tmod 10000 ≤ 10000 := by
  have h4 : x.tmod 10000 = if 0 ≤ x then x % 10000 else -((-x) % 10000) := by
    split
    · exact Int.tmod_eq_emod_of_nonneg (by assumption)
    · rw [show x.tmod 10000 = -((-x).tmod 10000) by rw [Int.neg_tmod, Int.neg_neg], Int.tmod_eq_emod_of_nonneg (by omega)]
  rw [h4]; split <;> omega

def qnpp2V (w : World) (x y p q X Y P Q a b : Int) (W0 : World) (w1 : World) : Nat → Value
  | 0 => .pointer (some ⟨w.heap.size, 0, none⟩)
  | 1 => .int .i64 x
  | 2 => .int .i64 (x.tmod 10000)
  | 3 => .pointer (some ⟨w.heap.size, 1, none⟩)
  | 4 => .int .i64 y
  | 5 => .int .i64 (y.tmod 10000)
  | 6 => .agg #[.int .i64 (x.tmod 10000), .int .i64 (y.tmod 10000)]
  | _ => undef
def qnpp2F (w : World) (x y p q X Y P Q a b : Int) (W0 : World) (w1 : World) (j : Nat) (v : Value) : Prop := v = qnpp2V w x y p q X Y P Q a b W0 w1 j
def qnpp3V (w : World) (x y p q X Y P Q a b : Int) (W0 : World) (w1 : World) (wfqnpp2 : World) (tvqnpp2 : Nat → Value) (W2 : World) : Nat → Value
  | 0 => .agg #[.int .i64 X, .int .i64 Y]
  | 1 => .agg #[.int .i64 0, .int .i64 0]
  | 2 => .bool false
  | _ => undef
def qnpp3F (w : World) (x y p q X Y P Q a b : Int) (W0 : World) (w1 : World) (wfqnpp2 : World) (tvqnpp2 : Nat → Value) (W2 : World) (j : Nat) (v : Value) : Prop := v = qnpp3V w x y p q X Y P Q a b W0 w1 wfqnpp2 tvqnpp2 W2 j
def qnpp7V (w : World) (x y p q X Y P Q a b : Int) (W0 : World) (w1 : World) (wfqnpp2 : World) (tvqnpp2 : Nat → Value) (W2 : World) (wfqnpp3 : World) (tvqnpp3 : Nat → Value) (w6 : World) (W6 : World) : Nat → Value
  | 0 => .int .i64 P
  | 1 => .pointer (some ⟨w.heap.size, 0, none⟩)
  | 2 => .int .i64 X
  | 3 => .int .i64 (wrap64 (P * X))
  | 4 => .int .i64 Q
  | 5 => .pointer (some ⟨w6.heap.size, 0, none⟩)
  | 6 => .int .i64 (-b)
  | 7 => .int .i64 (wrap64 (Q * (-b)))
  | 8 => .int .i64 (wrap64 ((wrap64 (P * X)) + (wrap64 (Q * (-b)))))
  | 9 => .int .i64 P
  | 10 => .pointer (some ⟨w.heap.size, 1, none⟩)
  | 11 => .int .i64 Y
  | 12 => .int .i64 (wrap64 (P * Y))
  | 13 => .int .i64 Q
  | 14 => .pointer (some ⟨w6.heap.size, 1, none⟩)
  | 15 => .int .i64 a
  | 16 => .int .i64 (wrap64 (Q * a))
  | 17 => .int .i64 (wrap64 ((wrap64 (P * Y)) + (wrap64 (Q * a))))
  | 18 => .agg #[.int .i64 (wrap64 ((wrap64 (P * X)) + (wrap64 (Q * (-b))))), .int .i64 (wrap64 ((wrap64 (P * Y)) + (wrap64 (Q * a))))]
  | _ => undef
def qnpp7F (w : World) (x y p q X Y P Q a b : Int) (W0 : World) (w1 : World) (wfqnpp2 : World) (tvqnpp2 : Nat → Value) (W2 : World) (wfqnpp3 : World) (tvqnpp3 : Nat → Value) (w6 : World) (W6 : World) (b_ : Nat) : Nat → Value → World → Prop
  | 19, v, W => Own1 b_ 23 #[.int .i64 0, .int .i64 0] v W
  | j, v, _ => v = qnpp7V w x y p q X Y P Q a b W0 w1 wfqnpp2 tvqnpp2 W2 wfqnpp3 tvqnpp3 w6 W6 j
theorem qnpp7F_mono {w : World} {x y p q X Y P Q a b : Int} {W0 : World} {w1 : World} {wfqnpp2 : World} {tvqnpp2 : Nat → Value} {W2 : World} {wfqnpp3 : World} {tvqnpp3 : Nat → Value} {w6 : World} {W6 : World} {b_ : Nat} {W W' : World} (hx : Ext W W') (j : Nat) (v : Value) (h : qnpp7F w x y p q X Y P Q a b W0 w1 wfqnpp2 tvqnpp2 W2 wfqnpp3 tvqnpp3 w6 W6 b_ j v W) : qnpp7F w x y p q X Y P Q a b W0 w1 wfqnpp2 tvqnpp2 W2 wfqnpp3 tvqnpp3 w6 W6 b_ j v W' := by
  match j, h with
  | 19, h => exact Own1.ext h hx
  | 0, h | 1, h | 2, h | 3, h | 4, h | 5, h | 6, h | 7, h | 8, h | 9, h | 10, h | 11, h | 12, h | 13, h | 14, h | 15, h | 16, h | 17, h | 18, h => exact h
  | k + 20, h => exact h
def qnpp8V (w : World) (x y p q X Y P Q a b : Int) (W0 : World) (w1 : World) (wfqnpp2 : World) (tvqnpp2 : Nat → Value) (W2 : World) (wfqnpp3 : World) (tvqnpp3 : Nat → Value) (w6 : World) (W6 : World) (wfqnpp7 : World) (g : Nat) (W7 : World) (tvq7 : Nat → Value) : Nat → Value
  | 0 => .bool true
  | 1 => .bool true
  | 2 => .agg #[.int .i64 X, .int .i64 Y]
  | 3 => .agg #[.int .i64 (-b), .int .i64 a]
  | 4 => .int .i64 (dotZ X Y (-b) a)
  | 5 => .bool true
  | 6 => .bool true
  | 7 => .bool true
  | 8 => .agg #[.int .i64 (qx a b P Q), .int .i64 (qy a b P Q)]
  | 9 => .agg #[.int .i64 X, .int .i64 Y]
  | 10 => .agg #[.int .i64 (-b), .int .i64 a]
  | 11 => .bool (withinB (qx a b P Q) (qy a b P Q) X Y (-b) a)
  | 12 => .int .i64 P
  | 13 => .bool true
  | 14 => .bool true
  | 15 => .int .i64 Q
  | 16 => .bool true
  | 17 => .bool true
  | 18 => .bool true
  | 19 => .bool true
  | _ => undef
def qnpp8F (w : World) (x y p q X Y P Q a b : Int) (W0 : World) (w1 : World) (wfqnpp2 : World) (tvqnpp2 : Nat → Value) (W2 : World) (wfqnpp3 : World) (tvqnpp3 : Nat → Value) (w6 : World) (W6 : World) (wfqnpp7 : World) (g : Nat) (W7 : World) (tvq7 : Nat → Value) (j : Nat) (v : Value) : Prop := v = qnpp8V w x y p q X Y P Q a b W0 w1 wfqnpp2 tvqnpp2 W2 wfqnpp3 tvqnpp3 w6 W6 wfqnpp7 g W7 tvq7 j
set_option maxRecDepth 100000 in
set_option maxHeartbeats 4000000 in
theorem vecQ_npp (x y p q X Y P Q a b : Int) (w : World) (hX : x.tmod 10000 = X) (hY : y.tmod 10000 = Y) (hP : p.tmod 10000 = P) (hQ : q.tmod 10000 = Q) (hz : (decide (X = 0) && decide (Y = 0)) = false) (ha : -10000 ≤ a ∧ a ≤ 10000) (hb : -10000 ≤ b ∧ b ≤ 10000) (hab : X = a ∧ Y = b) (hpp : decide (P ≥ 0) = true) (hqq : decide (Q ≥ 0) = true) (hw : withinB (qx a b P Q) (qy a b P Q) a b (-b) a = true) : Calls Try.prog 7 #[.agg #[.int .i64 x, .int .i64 y], .int .i64 p, .int .i64 q] w fun e w' => e = .returned (.bool true) ∧ Ext w w' := by
  have E0 := Lib.hid (Ext.refl w)
  have HX := Lib.hid hX
  have HY := Lib.hid hY
  have HP := Lib.hid hP
  have HQ := Lib.hid hQ
  have HZ := Lib.hid hz
  have HA := Lib.hid ha
  have HB := Lib.hid hb
  have HAB := Lib.hid hab
  have HPP := Lib.hid hpp
  have HQQ := Lib.hid hqq
  have HW := Lib.hid hw
  clear hw hqq hpp hab hb ha hz hQ hP hY hX
  go_enter Try.func7, Try.ntmps7
  go_wp2_with fail
  obtain ⟨W0, hW0⟩ : ∃ W0, W0 = (w.alloc (.cells #[.int .i64 x, .int .i64 y] 23)) := ⟨_, rfl⟩
  have hx : Ext w W0 := by rw [hW0]; exact Ext.alloc _ _
  have V_0 := Lib.hid (show RowAt W0 (w.heap.size) 23 #[.int .i64 x, .int .i64 y] from by rw [hW0]; exact (RowAt.new' _ _ (by simp)))
  have SZW0 := Lib.hid (show W0.heap.size = w.heap.size + 1 from by rw [hW0]; simp)
  have E1 := Lib.hid (E0.out.trans hx)
  clear E0
  clear hx
  rw [← hW0]
  clear hW0
  refine (sanity_c _).mono ?_; rintro e w1 ⟨rfl, hx⟩
  have E2 := Lib.hid (E1.out.trans hx)
  have V_2 := Lib.hid (hx.row V_0.out)
  clear E1 V_0
  clear hx
  go_upto_region 2 with (fail)
  refine wp_region_seq (fun D ac w' => ∃ vs : Nat → Value, ac = { tmps := #[Value.agg #[Value.int IntKind.i64 x, Value.int IntKind.i64 y], Value.int IntKind.i64 p, Value.int IntKind.i64 q, Value.pointer (some { block := w.heap.size, off := 0 }), undef, undef, Value.bool false, Value.bool true, undef, undef, Value.bool true, vs 0, vs 1, vs 2, vs 3, vs 4, vs 5, vs 6, undef, undef, undef, undef, undef, undef, undef, undef, undef, undef, undef, undef, undef, undef, undef, undef, undef, undef, undef, undef, undef, undef, undef, undef, undef, undef, undef, undef, undef, undef, undef, undef, undef, undef, undef, undef, undef, undef, undef, undef, undef, undef, undef, undef, undef, undef, undef, undef, undef, undef], defers := [] } ∧ Ext w1 w' ∧ ∀ j, D j → qnpp2F w x y p q X Y P Q a b W0 w1 j (vs j)) 7 (by kernel_rfl) (by kernel_rfl) ?startqnpp2 ?stepqnpp2 ?finqnpp2
  case startqnpp2 => exact ⟨fun _ => undef, rfl, Ext.refl _, fun _ h => h.elim⟩
  case stepqnpp2 =>
    rintro i o D ac wz hin hio hnd he ⟨vs, rfl, k0, hF⟩
    rcases i with _ | _ | _ | _ | _ | _ | _ | i
    rotate_left 7
    · exact absurd hin (by omega)
    all_goals (obtain rfl := Option.some.inj (hio.symm.trans (by rfl)))
    · refine step_yes (wanted_of_none rfl _) ?_
      exact wp_of_run (run_fld_pt0 (.tmp 3) rfl _ _ rfl) ⟨upd vs 0 _, rfl, k0, inv_same hF rfl⟩
    · refine step_yes (wanted_of_none rfl _) ?_
      exact wp_of_run (run_ldi (.tmp 11) rfl _ _ (by exact (hF 0 (he ⟨0, .data⟩ (by simp) rfl))) _ ((k0.row V_2.out).cell 0)) ⟨upd vs 1 _, rfl, k0, inv_same hF rfl⟩
    · refine step_yes (wanted_of_none rfl _) ?_
      exact wp_of_run (run_remi (.tmp 12) (.const (.int .i64 10000)) rfl rfl _ 10000 (by decide) (by decide) (by exact (hF 1 (he ⟨1, .data⟩ (by simp) rfl))) rfl) ⟨upd vs 2 _, rfl, k0, inv_same hF rfl⟩
    · refine step_yes (wanted_of_none rfl _) ?_
      exact wp_of_run (run_fld_pt1 (.tmp 3) rfl _ _ rfl) ⟨upd vs 3 _, rfl, k0, inv_same hF rfl⟩
    · refine step_yes (wanted_of_none rfl _) ?_
      exact wp_of_run (run_ldi (.tmp 14) rfl _ _ (by exact (hF 3 (he ⟨3, .data⟩ (by simp) rfl))) _ ((k0.row V_2.out).cell 1)) ⟨upd vs 4 _, rfl, k0, inv_same hF rfl⟩
    · refine step_yes (wanted_of_none rfl _) ?_
      exact wp_of_run (run_remi (.tmp 15) (.const (.int .i64 10000)) rfl rfl _ 10000 (by decide) (by decide) (by exact (hF 4 (he ⟨4, .data⟩ (by simp) rfl))) rfl) ⟨upd vs 5 _, rfl, k0, inv_same hF rfl⟩
    · refine step_yes (wanted_of_none rfl _) ?_
      refine wp_of_callE (run_enter2 23 (.tmp 13) (.tmp 16) _ rfl _ _ (by exact (hF 2 (he ⟨2, .data⟩ (by simp) rfl))) (by exact (hF 5 (he ⟨5, .data⟩ (by simp) rfl))) (fun args w => enters_of Try.func23 (by kernel_rfl) rfl args w)) (lat (x.tmod 10000) (y.tmod 10000) wz) ?_
      rintro e w' ⟨rfl, hx⟩
      exact ⟨_, rfl, upd vs 6 _, rfl, k0.trans hx, inv_same hF rfl⟩
  case finqnpp2 =>
    rintro D ac wfqnpp2 hD ⟨vs, rfl, k0, hF⟩
    change wpList _ _ _ [_] _ _
    have hl6 : vs 6 = .agg #[.int .i64 (x.tmod 10000), .int .i64 (y.tmod 10000)] := hF 6 (hD 6 (by decide))
    rw [hl6]
    clear hl6
    clear hF hD
    generalize vs = tvqnpp2
    have E3 := Lib.hid (E2.out.trans k0)
    have V_3 := Lib.hid (k0.row V_2.out)
    clear E2 V_2
    clear k0
    rw [HX.out, HY.out]
    obtain ⟨W2, hW2⟩ : ∃ W2, W2 = wfqnpp2.setRow w.heap.size #[.int .i64 X, .int .i64 Y] := ⟨_, rfl⟩
    have VW2_0 := Lib.hid (show RowAt W2 w.heap.size 23 #[.int .i64 X, .int .i64 Y] from by rw [hW2]; exact V_3.out.setRow _)
    have EW2 := Lib.hid (show Ext w W2 from by rw [hW2]; exact ext_setRow E3.out (Nat.le_refl _) _)
    have HW2 := Lib.hid hW2
    clear hW2
    go_upto_region 3 with (refine store_pt_at rfl (.tmp 3) (.tmp 17) rfl w.heap.size 0 rfl _ _ rfl _ _ _ _ (#[.int .i64 X, .int .i64 Y]) V_3.out rfl rfl rfl ?_; rw [← HW2.out])
    refine wp_region_tail (fun D ac w' => ∃ vs : Nat → Value, ac = { tmps := #[Value.agg #[Value.int IntKind.i64 x, Value.int IntKind.i64 y], Value.int IntKind.i64 p, Value.int IntKind.i64 q, Value.pointer (some { block := w.heap.size, off := 0 }), undef, undef, Value.bool false, Value.bool true, undef, undef, Value.bool true, tvqnpp2 0, tvqnpp2 1, tvqnpp2 2, tvqnpp2 3, tvqnpp2 4, tvqnpp2 5, Value.agg #[Value.int IntKind.i64 X, Value.int IntKind.i64 Y], vs 0, vs 1, vs 2, undef, undef, undef, undef, undef, undef, undef, undef, undef, undef, undef, undef, undef, undef, undef, undef, undef, undef, undef, undef, undef, undef, undef, undef, undef, undef, undef, undef, undef, undef, undef, undef, undef, undef, undef, undef, undef, undef, undef, undef, undef, undef, undef, undef, undef, undef, undef], defers := [] } ∧ Ext W2 w' ∧ ∀ j, D j → qnpp3F w x y p q X Y P Q a b W0 w1 wfqnpp2 tvqnpp2 W2 j (vs j)) 3 (by kernel_rfl) (by kernel_rfl) (by kernel_rfl) ?startqnpp3 ?stepqnpp3 ?finqnpp3
    case startqnpp3 => exact ⟨fun _ => undef, rfl, Ext.drew _, fun _ h => h.elim⟩
    case stepqnpp3 =>
      rintro i o D ac wz hin hio hnd he ⟨vs, rfl, k0, hF⟩
      rcases i with _ | _ | _ | i
      rotate_left 3
      · exact absurd hin (by omega)
      all_goals (obtain rfl := Option.some.inj (hio.symm.trans (by rfl)))
      · refine step_yes (wanted_of_none rfl _) ?_
        exact wp_of_run (run_ld_pt (.tmp 3) rfl _ _ rfl _ _ ((k0.row VW2_0.out).cell 0) ((k0.row VW2_0.out).cell 1)) ⟨upd vs 0 _, rfl, k0, inv_same hF rfl⟩
      · refine step_yes (wanted_of_none rfl _) ?_
        refine wp_of_callE (run_enter2 23 (.const (.int .i64 0)) (.const (.int .i64 0)) _ rfl _ _ rfl rfl (fun args w => enters_of Try.func23 (by kernel_rfl) rfl args w)) (lat 0 0 wz) ?_
        rintro e w' ⟨rfl, hx⟩
        exact ⟨_, rfl, upd vs 1 _, rfl, k0.trans hx, inv_same hF rfl⟩
      · refine step_yes (wanted_of_none rfl _) ?_
        exact wp_of_run (run_eq_pt (.tmp 18) (.tmp 19) rfl _ _ _ _ (by exact (hF 0 (he ⟨0, .data⟩ (by simp) rfl))) (by exact (hF 1 (he ⟨1, .data⟩ (by simp) rfl))) _ HZ.out) ⟨upd vs 2 _, rfl, k0, inv_same hF rfl⟩
    case finqnpp3 =>
      rintro D ac wfqnpp3 hD ⟨vs, rfl, k0, hF⟩
      change wpList _ _ _ [] _ _
      unfold wpList
      have hl2 : vs 2 = .bool false := hF 2 (hD 2 (by decide))
      rw [hl2]
      clear hl2
      clear hF hD
      generalize vs = tvqnpp3
      have E4 := Lib.hid (EW2.out.trans k0)
      have VW2_4 := Lib.hid (k0.row VW2_0.out)
      clear EW2 VW2_0
      clear k0
      go_upto_region 6 with (fail)
      have ea : a = X := HAB.out.1.symm
      have eb : b = Y := HAB.out.2.symm
      have HEA := Lib.hid ea
      have HEB := Lib.hid eb
      clear ea eb
      have hc0 := VW2_4.out.cell 0
      have hc1 := VW2_4.out.cell 1
      simp at hc0 hc1
      go_wp2_with fail
      refine (cal_of (vapply 0 0 1 false X Y _) (v' := .agg #[.int .i64 (-b), .int .i64 a]) (by have := ap_quarter a b HA.out.1 HA.out.2 HB.out.1 HB.out.2; rw [HEA.out, HEB.out] at this ⊢; rw [this.1, this.2])).mono ?_; rintro e w6 ⟨rfl, hx⟩
      have E5 := Lib.hid (E4.out.trans hx)
      have VW2_5 := Lib.hid (hx.row VW2_4.out)
      clear E4 VW2_4
      clear hx
      clear hc0 hc1
      go_upto_region 7 with (fail)
      obtain ⟨W6, hW6⟩ : ∃ W6, W6 = (w6.alloc (.cells #[.int .i64 (-b), .int .i64 a] 23)) := ⟨_, rfl⟩
      have hx : Ext w6 W6 := by rw [hW6]; exact Ext.alloc _ _
      have U_0 := Lib.hid (show RowAt W6 (w6.heap.size) 23 #[.int .i64 (-b), .int .i64 a] from by rw [hW6]; exact (RowAt.new' _ _ (by simp)))
      have SZW6 := Lib.hid (show W6.heap.size = w6.heap.size + 1 from by rw [hW6]; simp)
      have E6 := Lib.hid (E5.out.trans hx)
      have VW2_6 := Lib.hid (hx.row VW2_5.out)
      clear E5 VW2_5
      clear hx
      rw [← hW6]
      clear hW6
      rw [HP.out, HQ.out]
      have LV := Lib.hid VW2_6.out.lt
      have LU := Lib.hid U_0.out.lt
      refine wp_region_seq (fun D ac w' => ∃ vs : Nat → Value, ac = { tmps := #[Value.agg #[Value.int IntKind.i64 x, Value.int IntKind.i64 y], Value.int IntKind.i64 P, Value.int IntKind.i64 Q, Value.pointer (some { block := w.heap.size, off := 0 }), undef, undef, Value.bool false, Value.bool true, Value.pointer (some { block := w6.heap.size, off := 0 }), vs 19, Value.bool true, tvqnpp2 0, tvqnpp2 1, tvqnpp2 2, tvqnpp2 3, tvqnpp2 4, tvqnpp2 5, Value.agg #[Value.int IntKind.i64 X, Value.int IntKind.i64 Y], tvqnpp3 0, tvqnpp3 1, Value.bool false, undef, Value.int IntKind.i64 p, Value.int IntKind.i64 P, Value.int IntKind.i64 q, Value.int IntKind.i64 Q, Value.agg #[Value.int IntKind.i64 0, Value.int IntKind.i64 0, Value.int IntKind.i64 1, Value.bool false], Value.agg #[Value.int IntKind.i64 X, Value.int IntKind.i64 Y], Value.agg #[Value.int IntKind.i64 (-b), Value.int IntKind.i64 a], vs 0, vs 1, vs 2, vs 3, vs 4, vs 5, vs 6, vs 7, vs 8, vs 9, vs 10, vs 11, vs 12, vs 13, vs 14, vs 15, vs 16, vs 17, vs 18, undef, undef, undef, undef, undef, undef, undef, undef, undef, undef, undef, undef, undef, undef, undef, undef, undef, undef, undef, undef], defers := [] } ∧ Ext W6 w' ∧ ∀ j, D j → qnpp7F w x y p q X Y P Q a b W0 w1 wfqnpp2 tvqnpp2 W2 wfqnpp3 tvqnpp3 w6 W6 W6.heap.size j (vs j) w') 20 (by kernel_rfl) (by kernel_rfl) ?startqnpp7 ?stepqnpp7 ?finqnpp7
      case startqnpp7 => exact ⟨fun _ => undef, rfl, Ext.refl _, fun _ h => h.elim⟩
      case stepqnpp7 =>
        rintro i o D ac wz hin hio hnd he ⟨vs, rfl, k0, hF⟩
        rcases i with _ | _ | _ | _ | _ | _ | _ | _ | _ | _ | _ | _ | _ | _ | _ | _ | _ | _ | _ | _ | i
        rotate_left 20
        · exact absurd hin (by omega)
        all_goals (obtain rfl := Option.some.inj (hio.symm.trans (by rfl)))
        · refine step_yes (wanted_of_none rfl _) ?_
          exact wp_of_run (run_mov (.tmp 1) rfl _ rfl) ⟨upd vs 0 _, rfl, k0, inv_step hF (fun _ _ h => h) rfl⟩
        · refine step_yes (wanted_of_none rfl _) ?_
          exact wp_of_run (run_fld_pt0 (.tmp 3) rfl _ _ rfl) ⟨upd vs 1 _, rfl, k0, inv_step hF (fun _ _ h => h) rfl⟩
        · refine step_yes (wanted_of_none rfl _) ?_
          exact wp_of_run (run_ldi (.tmp 30) rfl _ _ (by exact (hF 1 (he ⟨1, .data⟩ (by simp) rfl))) _ ((k0.row VW2_6.out).cell 0)) ⟨upd vs 2 _, rfl, k0, inv_step hF (fun _ _ h => h) rfl⟩
        · refine step_yes (wanted_of_none rfl _) ?_
          exact wp_of_run (run_muli (.tmp 29) (.tmp 31) rfl rfl _ _ (by exact (hF 0 (he ⟨0, .data⟩ (by simp) rfl))) (by exact (hF 2 (he ⟨2, .data⟩ (by simp) rfl)))) ⟨upd vs 3 _, rfl, k0, inv_step hF (fun _ _ h => h) rfl⟩
        · refine step_yes (wanted_of_none rfl _) ?_
          exact wp_of_run (run_mov (.tmp 2) rfl _ rfl) ⟨upd vs 4 _, rfl, k0, inv_step hF (fun _ _ h => h) rfl⟩
        · refine step_yes (wanted_of_none rfl _) ?_
          exact wp_of_run (run_fld_pt0 (.tmp 8) rfl _ _ rfl) ⟨upd vs 5 _, rfl, k0, inv_step hF (fun _ _ h => h) rfl⟩
        · refine step_yes (wanted_of_none rfl _) ?_
          exact wp_of_run (run_ldi (.tmp 34) rfl _ _ (by exact (hF 5 (he ⟨5, .data⟩ (by simp) rfl))) _ ((k0.row U_0.out).cell 0)) ⟨upd vs 6 _, rfl, k0, inv_step hF (fun _ _ h => h) rfl⟩
        · refine step_yes (wanted_of_none rfl _) ?_
          exact wp_of_run (run_muli (.tmp 33) (.tmp 35) rfl rfl _ _ (by exact (hF 4 (he ⟨4, .data⟩ (by simp) rfl))) (by exact (hF 6 (he ⟨6, .data⟩ (by simp) rfl)))) ⟨upd vs 7 _, rfl, k0, inv_step hF (fun _ _ h => h) rfl⟩
        · refine step_yes (wanted_of_none rfl _) ?_
          exact wp_of_run (run_addi (.tmp 32) (.tmp 36) rfl rfl _ _ (by exact (hF 3 (he ⟨3, .data⟩ (by simp) rfl))) (by exact (hF 7 (he ⟨7, .data⟩ (by simp) rfl)))) ⟨upd vs 8 _, rfl, k0, inv_step hF (fun _ _ h => h) rfl⟩
        · refine step_yes (wanted_of_none rfl _) ?_
          exact wp_of_run (run_mov (.tmp 1) rfl _ rfl) ⟨upd vs 9 _, rfl, k0, inv_step hF (fun _ _ h => h) rfl⟩
        · refine step_yes (wanted_of_none rfl _) ?_
          exact wp_of_run (run_fld_pt1 (.tmp 3) rfl _ _ rfl) ⟨upd vs 10 _, rfl, k0, inv_step hF (fun _ _ h => h) rfl⟩
        · refine step_yes (wanted_of_none rfl _) ?_
          exact wp_of_run (run_ldi (.tmp 39) rfl _ _ (by exact (hF 10 (he ⟨10, .data⟩ (by simp) rfl))) _ ((k0.row VW2_6.out).cell 1)) ⟨upd vs 11 _, rfl, k0, inv_step hF (fun _ _ h => h) rfl⟩
        · refine step_yes (wanted_of_none rfl _) ?_
          exact wp_of_run (run_muli (.tmp 38) (.tmp 40) rfl rfl _ _ (by exact (hF 9 (he ⟨9, .data⟩ (by simp) rfl))) (by exact (hF 11 (he ⟨11, .data⟩ (by simp) rfl)))) ⟨upd vs 12 _, rfl, k0, inv_step hF (fun _ _ h => h) rfl⟩
        · refine step_yes (wanted_of_none rfl _) ?_
          exact wp_of_run (run_mov (.tmp 2) rfl _ rfl) ⟨upd vs 13 _, rfl, k0, inv_step hF (fun _ _ h => h) rfl⟩
        · refine step_yes (wanted_of_none rfl _) ?_
          exact wp_of_run (run_fld_pt1 (.tmp 8) rfl _ _ rfl) ⟨upd vs 14 _, rfl, k0, inv_step hF (fun _ _ h => h) rfl⟩
        · refine step_yes (wanted_of_none rfl _) ?_
          exact wp_of_run (run_ldi (.tmp 43) rfl _ _ (by exact (hF 14 (he ⟨14, .data⟩ (by simp) rfl))) _ ((k0.row U_0.out).cell 1)) ⟨upd vs 15 _, rfl, k0, inv_step hF (fun _ _ h => h) rfl⟩
        · refine step_yes (wanted_of_none rfl _) ?_
          exact wp_of_run (run_muli (.tmp 42) (.tmp 44) rfl rfl _ _ (by exact (hF 13 (he ⟨13, .data⟩ (by simp) rfl))) (by exact (hF 15 (he ⟨15, .data⟩ (by simp) rfl)))) ⟨upd vs 16 _, rfl, k0, inv_step hF (fun _ _ h => h) rfl⟩
        · refine step_yes (wanted_of_none rfl _) ?_
          exact wp_of_run (run_addi (.tmp 41) (.tmp 45) rfl rfl _ _ (by exact (hF 12 (he ⟨12, .data⟩ (by simp) rfl))) (by exact (hF 16 (he ⟨16, .data⟩ (by simp) rfl)))) ⟨upd vs 17 _, rfl, k0, inv_step hF (fun _ _ h => h) rfl⟩
        · refine step_yes (wanted_of_none rfl _) ?_
          refine wp_of_callE (run_enter2 23 (.tmp 37) (.tmp 46) _ rfl _ _ (by exact (hF 8 (he ⟨8, .data⟩ (by simp) rfl))) (by exact (hF 17 (he ⟨17, .data⟩ (by simp) rfl))) (fun args w => enters_of Try.func23 (by kernel_rfl) rfl args w)) (lat (wrap64 ((wrap64 (P * X)) + (wrap64 (Q * (-b))))) (wrap64 ((wrap64 (P * Y)) + (wrap64 (Q * a)))) wz) ?_
          rintro e w' ⟨rfl, hx⟩
          exact ⟨_, rfl, upd vs 18 _, rfl, k0.trans hx, inv_step hF (fun j v h => qnpp7F_mono hx j v h) rfl⟩
        · refine step_yes (wanted_of_none rfl _) ?_
          exact wp_of_run (run_alloc_pt rfl) ⟨upd vs 19 _, rfl, k0.trans (Ext.alloc _ _), inv_step hF (fun j v h => qnpp7F_mono (Ext.alloc _ _) j v h) (own_new _ _ k0 (Nat.le_refl _))⟩
      case finqnpp7 =>
        rintro D ac wfqnpp7 hD ⟨vs, rfl, k0, hF⟩
        change wpList _ _ _ [_] _ _
        have hl18 : vs 18 = .agg #[.int .i64 (wrap64 ((wrap64 (P * X)) + (wrap64 (Q * (-b))))), .int .i64 (wrap64 ((wrap64 (P * Y)) + (wrap64 (Q * a))))] := hF 18 (hD 18 (by decide))
        rw [hl18]
        clear hl18
        have E7 := Lib.hid (E6.out.trans k0)
        have VW2_7 := Lib.hid (k0.row VW2_6.out)
        have U_7 := Lib.hid (k0.row U_0.out)
        clear E6 VW2_6 U_0
        clear k0
        obtain ⟨g, hg, hle, hr⟩ := hF 19 (hD 19 (by decide))
        rw [hg]
        clear hF hD hg
        generalize vs = tvq7
        rw [show wrap64 ((wrap64 (P * X)) + (wrap64 (Q * (-b)))) = qx a b P Q from by unfold qx; rw [HEA.out, HEB.out], show wrap64 ((wrap64 (P * Y)) + (wrap64 (Q * a))) = qy a b P Q from by unfold qy; rw [HEA.out, HEB.out]]
        obtain ⟨W7, hW7⟩ : ∃ W7, W7 = wfqnpp7.setRow g #[.int .i64 (qx a b P Q), .int .i64 (qy a b P Q)] := ⟨_, rfl⟩
        have D_0 := Lib.hid (show RowAt W7 g 23 #[.int .i64 (qx a b P Q), .int .i64 (qy a b P Q)] from by rw [hW7]; exact hr.setRow _)
        have VW2_7x := Lib.hid (show RowAt W7 (w.heap.size) _ _ from by rw [hW7]; exact VW2_7.out.setRowOther _ (by have := LV.out; omega))
        have U_7x := Lib.hid (show RowAt W7 (w6.heap.size) _ _ from by rw [hW7]; exact U_7.out.setRowOther _ (by have := LU.out; omega))
        have E7x := Lib.hid (show Ext w W7 from by rw [hW7]; exact ext_setRow E7.out (by have := LV.out; omega) _)
        have HR := Lib.hid hr
        have H7 := Lib.hid hW7
        clear hW7 hr hle
        go_upto_region 8 with (refine store_pt_at rfl (.tmp 9) (.tmp 47) rfl g 0 rfl _ _ rfl _ _ _ _ (#[.int .i64 (qx a b P Q), .int .i64 (qy a b P Q)]) HR.out rfl rfl rfl ?_; rw [← H7.out])
        refine wp_region_seq (fun D ac w' => ∃ vs : Nat → Value, ac = { tmps := #[Value.agg #[Value.int IntKind.i64 x, Value.int IntKind.i64 y], Value.int IntKind.i64 P, Value.int IntKind.i64 Q, Value.pointer (some { block := w.heap.size, off := 0 }), undef, undef, Value.bool false, Value.bool true, Value.pointer (some { block := w6.heap.size, off := 0 }), Value.pointer (some { block := g, off := 0 }), Value.bool true, tvqnpp2 0, tvqnpp2 1, tvqnpp2 2, tvqnpp2 3, tvqnpp2 4, tvqnpp2 5, Value.agg #[Value.int IntKind.i64 X, Value.int IntKind.i64 Y], tvqnpp3 0, tvqnpp3 1, Value.bool false, undef, Value.int IntKind.i64 p, Value.int IntKind.i64 P, Value.int IntKind.i64 q, Value.int IntKind.i64 Q, Value.agg #[Value.int IntKind.i64 0, Value.int IntKind.i64 0, Value.int IntKind.i64 1, Value.bool false], Value.agg #[Value.int IntKind.i64 X, Value.int IntKind.i64 Y], Value.agg #[Value.int IntKind.i64 (-b), Value.int IntKind.i64 a], tvq7 0, tvq7 1, tvq7 2, tvq7 3, tvq7 4, tvq7 5, tvq7 6, tvq7 7, tvq7 8, tvq7 9, tvq7 10, tvq7 11, tvq7 12, tvq7 13, tvq7 14, tvq7 15, tvq7 16, tvq7 17, Value.agg #[Value.int IntKind.i64 (qx a b P Q), Value.int IntKind.i64 (qy a b P Q)], vs 0, vs 1, vs 2, vs 3, vs 4, vs 5, vs 6, vs 7, vs 8, vs 9, vs 10, vs 11, vs 12, vs 13, vs 14, vs 15, vs 16, vs 17, vs 18, vs 19], defers := [] } ∧ Ext W7 w' ∧ ∀ j, D j → qnpp8F w x y p q X Y P Q a b W0 w1 wfqnpp2 tvqnpp2 W2 wfqnpp3 tvqnpp3 w6 W6 wfqnpp7 g W7 tvq7 j (vs j)) 20 (by kernel_rfl) (by kernel_rfl) ?startqnpp8 ?stepqnpp8 ?finqnpp8
        case startqnpp8 => exact ⟨fun _ => undef, rfl, Ext.refl _, fun _ h => h.elim⟩
        case stepqnpp8 =>
          rintro i o D ac wz hin hio hnd he ⟨vs, rfl, k0, hF⟩
          rcases i with _ | _ | _ | _ | _ | _ | _ | _ | _ | _ | _ | _ | _ | _ | _ | _ | _ | _ | _ | _ | i
          rotate_left 20
          · exact absurd hin (by omega)
          all_goals (obtain rfl := Option.some.inj (hio.symm.trans (by rfl)))
          · refine step_yes (wanted_of_none rfl _) ?_
            exact wp_of_run (run_mov (.tmp 7) rfl _ rfl) ⟨upd vs 0 _, rfl, k0, inv_same hF rfl⟩
          · refine step_yes (wanted_of_none rfl _) ?_
            exact wp_of_run (run_mov (.tmp 48) rfl _ (by exact (hF 0 (he ⟨0, .data⟩ (by simp) rfl)))) ⟨upd vs 1 _, rfl, k0, inv_same hF rfl⟩
          · refine step_yes (wanted_g (j := 1) (d := 49) rfl rfl rfl (hF 1 (he ⟨1, .guard⟩ (by simp) rfl))) ?_
            exact wp_of_run (run_ld_pt (.tmp 3) rfl _ _ rfl _ _ ((k0.row VW2_7x.out).cell 0) ((k0.row VW2_7x.out).cell 1)) ⟨upd vs 2 _, rfl, k0, inv_same hF rfl⟩
          · refine step_yes (wanted_g (j := 1) (d := 49) rfl rfl rfl (hF 1 (he ⟨1, .guard⟩ (by simp) rfl))) ?_
            exact wp_of_run (run_ld_pt (.tmp 8) rfl _ _ rfl _ _ ((k0.row U_7x.out).cell 0) ((k0.row U_7x.out).cell 1)) ⟨upd vs 3 _, rfl, k0, inv_same hF rfl⟩
          · refine step_yes (wanted_g (j := 1) (d := 49) rfl rfl rfl (hF 1 (he ⟨1, .chain⟩ (by simp) rfl))) ?_
            refine wp_of_callE (run_enter2 17 (.tmp 50) (.tmp 51) _ rfl _ _ (by exact (hF 2 (he ⟨2, .data⟩ (by simp) rfl))) (by exact (hF 3 (he ⟨3, .data⟩ (by simp) rfl))) (fun args w => enters_of Try.func17 (by kernel_rfl) rfl args w)) (vdot X Y (-b) a wz) ?_
            rintro e w' ⟨rfl, hx⟩
            exact ⟨_, rfl, upd vs 4 _, rfl, k0.trans hx, inv_same hF rfl⟩
          · refine step_yes (wanted_g (j := 1) (d := 49) rfl rfl rfl (hF 1 (he ⟨1, .guard⟩ (by simp) rfl))) ?_
            exact wp_of_run (run_eqi (.tmp 52) (.const (.int .i64 0)) rfl _ _ (by exact (hF 4 (he ⟨4, .data⟩ (by simp) rfl))) rfl _ (decide_eq_true (by rw [HEA.out, HEB.out]; exact quarter_dot _ _))) ⟨upd vs 5 _, rfl, k0, inv_same hF rfl⟩
          · refine step_yes (wanted_of_none rfl _) ?_
            exact wp_of_run (run_pick_t (.tmp 49) (.tmp 53) (.const (.bool false)) rfl (by exact (hF 1 (he ⟨1, .data⟩ (by simp) rfl))) _ (by exact (hF 5 (he ⟨5, .data⟩ (by simp) rfl)))) ⟨upd vs 6 _, rfl, k0, inv_same hF rfl⟩
          · refine step_yes (wanted_of_none rfl _) ?_
            exact wp_of_run (run_mov (.tmp 54) rfl _ (by exact (hF 6 (he ⟨6, .data⟩ (by simp) rfl)))) ⟨upd vs 7 _, rfl, k0, inv_same hF rfl⟩
          · refine step_yes (wanted_g (j := 7) (d := 55) rfl rfl rfl (hF 7 (he ⟨7, .guard⟩ (by simp) rfl))) ?_
            exact wp_of_run (run_ld_pt (.tmp 9) rfl _ _ rfl _ _ ((k0.row D_0.out).cell 0) ((k0.row D_0.out).cell 1)) ⟨upd vs 8 _, rfl, k0, inv_same hF rfl⟩
          · refine step_yes (wanted_g (j := 7) (d := 55) rfl rfl rfl (hF 7 (he ⟨7, .guard⟩ (by simp) rfl))) ?_
            exact wp_of_run (run_ld_pt (.tmp 3) rfl _ _ rfl _ _ ((k0.row VW2_7x.out).cell 0) ((k0.row VW2_7x.out).cell 1)) ⟨upd vs 9 _, rfl, k0, inv_same hF rfl⟩
          · refine step_yes (wanted_g (j := 7) (d := 55) rfl rfl rfl (hF 7 (he ⟨7, .guard⟩ (by simp) rfl))) ?_
            exact wp_of_run (run_ld_pt (.tmp 8) rfl _ _ rfl _ _ ((k0.row U_7x.out).cell 0) ((k0.row U_7x.out).cell 1)) ⟨upd vs 10 _, rfl, k0, inv_same hF rfl⟩
          · refine step_yes (wanted_g (j := 7) (d := 55) rfl rfl rfl (hF 7 (he ⟨7, .chain⟩ (by simp) rfl))) ?_
            refine wp_of_callE (run_enter3 21 (.tmp 56) (.tmp 57) (.tmp 58) _ rfl _ _ _ (by exact (hF 8 (he ⟨8, .data⟩ (by simp) rfl))) (by exact (hF 9 (he ⟨9, .data⟩ (by simp) rfl))) (by exact (hF 10 (he ⟨10, .data⟩ (by simp) rfl))) (fun args w => enters_of Try.func21 (by kernel_rfl) rfl args w)) (vwithin (qx a b P Q) (qy a b P Q) X Y (-b) a wz) ?_
            rintro e w' ⟨rfl, hx⟩
            exact ⟨_, rfl, upd vs 11 _, rfl, k0.trans hx, inv_same hF rfl⟩
          · refine step_yes (wanted_g (j := 7) (d := 55) rfl rfl rfl (hF 7 (he ⟨7, .guard⟩ (by simp) rfl))) ?_
            exact wp_of_run (run_mov (.tmp 1) rfl _ rfl) ⟨upd vs 12 _, rfl, k0, inv_same hF rfl⟩
          · refine step_yes (wanted_g (j := 7) (d := 55) rfl rfl rfl (hF 7 (he ⟨7, .guard⟩ (by simp) rfl))) ?_
            exact wp_of_run (run_geqi (.tmp 60) (.const (.int .i64 0)) rfl _ _ (by exact (hF 12 (he ⟨12, .data⟩ (by simp) rfl))) rfl _ HPP.out) ⟨upd vs 13 _, rfl, k0, inv_same hF rfl⟩
          · refine step_yes (wanted_g (j := 7) (d := 55) rfl rfl rfl (hF 7 (he ⟨7, .guard⟩ (by simp) rfl))) ?_
            exact wp_of_run (run_mov (.tmp 61) rfl _ (by exact (hF 13 (he ⟨13, .data⟩ (by simp) rfl)))) ⟨upd vs 14 _, rfl, k0, inv_same hF rfl⟩
          · refine step_yes (wanted_g (j := 14) (d := 62) rfl rfl rfl (hF 14 (he ⟨14, .guard⟩ (by simp) rfl))) ?_
            exact wp_of_run (run_mov (.tmp 2) rfl _ rfl) ⟨upd vs 15 _, rfl, k0, inv_same hF rfl⟩
          · refine step_yes (wanted_g (j := 14) (d := 62) rfl rfl rfl (hF 14 (he ⟨14, .guard⟩ (by simp) rfl))) ?_
            exact wp_of_run (run_geqi (.tmp 63) (.const (.int .i64 0)) rfl _ _ (by exact (hF 15 (he ⟨15, .data⟩ (by simp) rfl))) rfl _ HQQ.out) ⟨upd vs 16 _, rfl, k0, inv_same hF rfl⟩
          · refine step_yes (wanted_g (j := 7) (d := 55) rfl rfl rfl (hF 7 (he ⟨7, .guard⟩ (by simp) rfl))) ?_
            exact wp_of_run (run_pick_t (.tmp 62) (.tmp 64) (.const (.bool false)) rfl (by exact (hF 14 (he ⟨14, .data⟩ (by simp) rfl))) _ (by exact (hF 16 (he ⟨16, .data⟩ (by simp) rfl)))) ⟨upd vs 17 _, rfl, k0, inv_same hF rfl⟩
          · refine step_yes (wanted_g (j := 7) (d := 55) rfl rfl rfl (hF 7 (he ⟨7, .guard⟩ (by simp) rfl))) ?_
            exact wp_of_run (run_eqb (.tmp 59) (.tmp 65) rfl _ _ (by exact (hF 11 (he ⟨11, .data⟩ (by simp) rfl))) (by exact (hF 17 (he ⟨17, .data⟩ (by simp) rfl))) _ (by have e := HW.out; rw [HEA.out, HEB.out] at e ⊢; rw [e]; rfl)) ⟨upd vs 18 _, rfl, k0, inv_same hF rfl⟩
          · refine step_yes (wanted_of_none rfl _) ?_
            exact wp_of_run (run_pick_t (.tmp 55) (.tmp 66) (.const (.bool false)) rfl (by exact (hF 7 (he ⟨7, .data⟩ (by simp) rfl))) _ (by exact (hF 18 (he ⟨18, .data⟩ (by simp) rfl)))) ⟨upd vs 19 _, rfl, k0, inv_same hF rfl⟩
        case finqnpp8 =>
          rintro D ac wfqnpp8 hD ⟨vs, rfl, k0, hF⟩
          change wpList _ _ _ [_] _ _
          have hl19 : vs 19 = .bool true := hF 19 (hD 19 (by decide))
          rw [hl19]
          clear hl19
          clear hF hD
          generalize vs = tvqnpp8
          have E8 := Lib.hid (E7x.out.trans k0)
          have VW2_8 := Lib.hid (k0.row VW2_7x.out)
          have U_8 := Lib.hid (k0.row U_7x.out)
          have D_8 := Lib.hid (k0.row D_0.out)
          clear E7x VW2_7x U_7x D_0
          clear k0
          go_wp2_with fail
          go_ret
          exact ⟨rfl, E8.out⟩

def qnpm2V (w : World) (x y p q X Y P Q a b : Int) (W0 : World) (w1 : World) : Nat → Value
  | 0 => .pointer (some ⟨w.heap.size, 0, none⟩)
  | 1 => .int .i64 x
  | 2 => .int .i64 (x.tmod 10000)
  | 3 => .pointer (some ⟨w.heap.size, 1, none⟩)
  | 4 => .int .i64 y
  | 5 => .int .i64 (y.tmod 10000)
  | 6 => .agg #[.int .i64 (x.tmod 10000), .int .i64 (y.tmod 10000)]
  | _ => undef
def qnpm2F (w : World) (x y p q X Y P Q a b : Int) (W0 : World) (w1 : World) (j : Nat) (v : Value) : Prop := v = qnpm2V w x y p q X Y P Q a b W0 w1 j
def qnpm3V (w : World) (x y p q X Y P Q a b : Int) (W0 : World) (w1 : World) (wfqnpm2 : World) (tvqnpm2 : Nat → Value) (W2 : World) : Nat → Value
  | 0 => .agg #[.int .i64 X, .int .i64 Y]
  | 1 => .agg #[.int .i64 0, .int .i64 0]
  | 2 => .bool false
  | _ => undef
def qnpm3F (w : World) (x y p q X Y P Q a b : Int) (W0 : World) (w1 : World) (wfqnpm2 : World) (tvqnpm2 : Nat → Value) (W2 : World) (j : Nat) (v : Value) : Prop := v = qnpm3V w x y p q X Y P Q a b W0 w1 wfqnpm2 tvqnpm2 W2 j
def qnpm7V (w : World) (x y p q X Y P Q a b : Int) (W0 : World) (w1 : World) (wfqnpm2 : World) (tvqnpm2 : Nat → Value) (W2 : World) (wfqnpm3 : World) (tvqnpm3 : Nat → Value) (w6 : World) (W6 : World) : Nat → Value
  | 0 => .int .i64 P
  | 1 => .pointer (some ⟨w.heap.size, 0, none⟩)
  | 2 => .int .i64 X
  | 3 => .int .i64 (wrap64 (P * X))
  | 4 => .int .i64 Q
  | 5 => .pointer (some ⟨w6.heap.size, 0, none⟩)
  | 6 => .int .i64 (-b)
  | 7 => .int .i64 (wrap64 (Q * (-b)))
  | 8 => .int .i64 (wrap64 ((wrap64 (P * X)) + (wrap64 (Q * (-b)))))
  | 9 => .int .i64 P
  | 10 => .pointer (some ⟨w.heap.size, 1, none⟩)
  | 11 => .int .i64 Y
  | 12 => .int .i64 (wrap64 (P * Y))
  | 13 => .int .i64 Q
  | 14 => .pointer (some ⟨w6.heap.size, 1, none⟩)
  | 15 => .int .i64 a
  | 16 => .int .i64 (wrap64 (Q * a))
  | 17 => .int .i64 (wrap64 ((wrap64 (P * Y)) + (wrap64 (Q * a))))
  | 18 => .agg #[.int .i64 (wrap64 ((wrap64 (P * X)) + (wrap64 (Q * (-b))))), .int .i64 (wrap64 ((wrap64 (P * Y)) + (wrap64 (Q * a))))]
  | _ => undef
def qnpm7F (w : World) (x y p q X Y P Q a b : Int) (W0 : World) (w1 : World) (wfqnpm2 : World) (tvqnpm2 : Nat → Value) (W2 : World) (wfqnpm3 : World) (tvqnpm3 : Nat → Value) (w6 : World) (W6 : World) (b_ : Nat) : Nat → Value → World → Prop
  | 19, v, W => Own1 b_ 23 #[.int .i64 0, .int .i64 0] v W
  | j, v, _ => v = qnpm7V w x y p q X Y P Q a b W0 w1 wfqnpm2 tvqnpm2 W2 wfqnpm3 tvqnpm3 w6 W6 j
theorem qnpm7F_mono {w : World} {x y p q X Y P Q a b : Int} {W0 : World} {w1 : World} {wfqnpm2 : World} {tvqnpm2 : Nat → Value} {W2 : World} {wfqnpm3 : World} {tvqnpm3 : Nat → Value} {w6 : World} {W6 : World} {b_ : Nat} {W W' : World} (hx : Ext W W') (j : Nat) (v : Value) (h : qnpm7F w x y p q X Y P Q a b W0 w1 wfqnpm2 tvqnpm2 W2 wfqnpm3 tvqnpm3 w6 W6 b_ j v W) : qnpm7F w x y p q X Y P Q a b W0 w1 wfqnpm2 tvqnpm2 W2 wfqnpm3 tvqnpm3 w6 W6 b_ j v W' := by
  match j, h with
  | 19, h => exact Own1.ext h hx
  | 0, h | 1, h | 2, h | 3, h | 4, h | 5, h | 6, h | 7, h | 8, h | 9, h | 10, h | 11, h | 12, h | 13, h | 14, h | 15, h | 16, h | 17, h | 18, h => exact h
  | k + 20, h => exact h
def qnpm8V (w : World) (x y p q X Y P Q a b : Int) (W0 : World) (w1 : World) (wfqnpm2 : World) (tvqnpm2 : Nat → Value) (W2 : World) (wfqnpm3 : World) (tvqnpm3 : Nat → Value) (w6 : World) (W6 : World) (wfqnpm7 : World) (g : Nat) (W7 : World) (tvq7 : Nat → Value) : Nat → Value
  | 0 => .bool true
  | 1 => .bool true
  | 2 => .agg #[.int .i64 X, .int .i64 Y]
  | 3 => .agg #[.int .i64 (-b), .int .i64 a]
  | 4 => .int .i64 (dotZ X Y (-b) a)
  | 5 => .bool true
  | 6 => .bool true
  | 7 => .bool true
  | 8 => .agg #[.int .i64 (qx a b P Q), .int .i64 (qy a b P Q)]
  | 9 => .agg #[.int .i64 X, .int .i64 Y]
  | 10 => .agg #[.int .i64 (-b), .int .i64 a]
  | 11 => .bool (withinB (qx a b P Q) (qy a b P Q) X Y (-b) a)
  | 12 => .int .i64 P
  | 13 => .bool true
  | 14 => .bool true
  | 15 => .int .i64 Q
  | 16 => .bool false
  | 17 => .bool false
  | 18 => .bool true
  | 19 => .bool true
  | _ => undef
def qnpm8F (w : World) (x y p q X Y P Q a b : Int) (W0 : World) (w1 : World) (wfqnpm2 : World) (tvqnpm2 : Nat → Value) (W2 : World) (wfqnpm3 : World) (tvqnpm3 : Nat → Value) (w6 : World) (W6 : World) (wfqnpm7 : World) (g : Nat) (W7 : World) (tvq7 : Nat → Value) (j : Nat) (v : Value) : Prop := v = qnpm8V w x y p q X Y P Q a b W0 w1 wfqnpm2 tvqnpm2 W2 wfqnpm3 tvqnpm3 w6 W6 wfqnpm7 g W7 tvq7 j
set_option maxRecDepth 100000 in
set_option maxHeartbeats 4000000 in
theorem vecQ_npm (x y p q X Y P Q a b : Int) (w : World) (hX : x.tmod 10000 = X) (hY : y.tmod 10000 = Y) (hP : p.tmod 10000 = P) (hQ : q.tmod 10000 = Q) (hz : (decide (X = 0) && decide (Y = 0)) = false) (ha : -10000 ≤ a ∧ a ≤ 10000) (hb : -10000 ≤ b ∧ b ≤ 10000) (hab : X = a ∧ Y = b) (hpp : decide (P ≥ 0) = true) (hqq : decide (Q ≥ 0) = false) (hw : withinB (qx a b P Q) (qy a b P Q) a b (-b) a = false) : Calls Try.prog 7 #[.agg #[.int .i64 x, .int .i64 y], .int .i64 p, .int .i64 q] w fun e w' => e = .returned (.bool true) ∧ Ext w w' := by
  have E0 := Lib.hid (Ext.refl w)
  have HX := Lib.hid hX
  have HY := Lib.hid hY
  have HP := Lib.hid hP
  have HQ := Lib.hid hQ
  have HZ := Lib.hid hz
  have HA := Lib.hid ha
  have HB := Lib.hid hb
  have HAB := Lib.hid hab
  have HPP := Lib.hid hpp
  have HQQ := Lib.hid hqq
  have HW := Lib.hid hw
  clear hw hqq hpp hab hb ha hz hQ hP hY hX
  go_enter Try.func7, Try.ntmps7
  go_wp2_with fail
  obtain ⟨W0, hW0⟩ : ∃ W0, W0 = (w.alloc (.cells #[.int .i64 x, .int .i64 y] 23)) := ⟨_, rfl⟩
  have hx : Ext w W0 := by rw [hW0]; exact Ext.alloc _ _
  have V_0 := Lib.hid (show RowAt W0 (w.heap.size) 23 #[.int .i64 x, .int .i64 y] from by rw [hW0]; exact (RowAt.new' _ _ (by simp)))
  have SZW0 := Lib.hid (show W0.heap.size = w.heap.size + 1 from by rw [hW0]; simp)
  have E1 := Lib.hid (E0.out.trans hx)
  clear E0
  clear hx
  rw [← hW0]
  clear hW0
  refine (sanity_c _).mono ?_; rintro e w1 ⟨rfl, hx⟩
  have E2 := Lib.hid (E1.out.trans hx)
  have V_2 := Lib.hid (hx.row V_0.out)
  clear E1 V_0
  clear hx
  go_upto_region 2 with (fail)
  refine wp_region_seq (fun D ac w' => ∃ vs : Nat → Value, ac = { tmps := #[Value.agg #[Value.int IntKind.i64 x, Value.int IntKind.i64 y], Value.int IntKind.i64 p, Value.int IntKind.i64 q, Value.pointer (some { block := w.heap.size, off := 0 }), undef, undef, Value.bool false, Value.bool true, undef, undef, Value.bool true, vs 0, vs 1, vs 2, vs 3, vs 4, vs 5, vs 6, undef, undef, undef, undef, undef, undef, undef, undef, undef, undef, undef, undef, undef, undef, undef, undef, undef, undef, undef, undef, undef, undef, undef, undef, undef, undef, undef, undef, undef, undef, undef, undef, undef, undef, undef, undef, undef, undef, undef, undef, undef, undef, undef, undef, undef, undef, undef, undef, undef, undef], defers := [] } ∧ Ext w1 w' ∧ ∀ j, D j → qnpm2F w x y p q X Y P Q a b W0 w1 j (vs j)) 7 (by kernel_rfl) (by kernel_rfl) ?startqnpm2 ?stepqnpm2 ?finqnpm2
  case startqnpm2 => exact ⟨fun _ => undef, rfl, Ext.refl _, fun _ h => h.elim⟩
  case stepqnpm2 =>
    rintro i o D ac wz hin hio hnd he ⟨vs, rfl, k0, hF⟩
    rcases i with _ | _ | _ | _ | _ | _ | _ | i
    rotate_left 7
    · exact absurd hin (by omega)
    all_goals (obtain rfl := Option.some.inj (hio.symm.trans (by rfl)))
    · refine step_yes (wanted_of_none rfl _) ?_
      exact wp_of_run (run_fld_pt0 (.tmp 3) rfl _ _ rfl) ⟨upd vs 0 _, rfl, k0, inv_same hF rfl⟩
    · refine step_yes (wanted_of_none rfl _) ?_
      exact wp_of_run (run_ldi (.tmp 11) rfl _ _ (by exact (hF 0 (he ⟨0, .data⟩ (by simp) rfl))) _ ((k0.row V_2.out).cell 0)) ⟨upd vs 1 _, rfl, k0, inv_same hF rfl⟩
    · refine step_yes (wanted_of_none rfl _) ?_
      exact wp_of_run (run_remi (.tmp 12) (.const (.int .i64 10000)) rfl rfl _ 10000 (by decide) (by decide) (by exact (hF 1 (he ⟨1, .data⟩ (by simp) rfl))) rfl) ⟨upd vs 2 _, rfl, k0, inv_same hF rfl⟩
    · refine step_yes (wanted_of_none rfl _) ?_
      exact wp_of_run (run_fld_pt1 (.tmp 3) rfl _ _ rfl) ⟨upd vs 3 _, rfl, k0, inv_same hF rfl⟩
    · refine step_yes (wanted_of_none rfl _) ?_
      exact wp_of_run (run_ldi (.tmp 14) rfl _ _ (by exact (hF 3 (he ⟨3, .data⟩ (by simp) rfl))) _ ((k0.row V_2.out).cell 1)) ⟨upd vs 4 _, rfl, k0, inv_same hF rfl⟩
    · refine step_yes (wanted_of_none rfl _) ?_
      exact wp_of_run (run_remi (.tmp 15) (.const (.int .i64 10000)) rfl rfl _ 10000 (by decide) (by decide) (by exact (hF 4 (he ⟨4, .data⟩ (by simp) rfl))) rfl) ⟨upd vs 5 _, rfl, k0, inv_same hF rfl⟩
    · refine step_yes (wanted_of_none rfl _) ?_
      refine wp_of_callE (run_enter2 23 (.tmp 13) (.tmp 16) _ rfl _ _ (by exact (hF 2 (he ⟨2, .data⟩ (by simp) rfl))) (by exact (hF 5 (he ⟨5, .data⟩ (by simp) rfl))) (fun args w => enters_of Try.func23 (by kernel_rfl) rfl args w)) (lat (x.tmod 10000) (y.tmod 10000) wz) ?_
      rintro e w' ⟨rfl, hx⟩
      exact ⟨_, rfl, upd vs 6 _, rfl, k0.trans hx, inv_same hF rfl⟩
  case finqnpm2 =>
    rintro D ac wfqnpm2 hD ⟨vs, rfl, k0, hF⟩
    change wpList _ _ _ [_] _ _
    have hl6 : vs 6 = .agg #[.int .i64 (x.tmod 10000), .int .i64 (y.tmod 10000)] := hF 6 (hD 6 (by decide))
    rw [hl6]
    clear hl6
    clear hF hD
    generalize vs = tvqnpm2
    have E3 := Lib.hid (E2.out.trans k0)
    have V_3 := Lib.hid (k0.row V_2.out)
    clear E2 V_2
    clear k0
    rw [HX.out, HY.out]
    obtain ⟨W2, hW2⟩ : ∃ W2, W2 = wfqnpm2.setRow w.heap.size #[.int .i64 X, .int .i64 Y] := ⟨_, rfl⟩
    have VW2_0 := Lib.hid (show RowAt W2 w.heap.size 23 #[.int .i64 X, .int .i64 Y] from by rw [hW2]; exact V_3.out.setRow _)
    have EW2 := Lib.hid (show Ext w W2 from by rw [hW2]; exact ext_setRow E3.out (Nat.le_refl _) _)
    have HW2 := Lib.hid hW2
    clear hW2
    go_upto_region 3 with (refine store_pt_at rfl (.tmp 3) (.tmp 17) rfl w.heap.size 0 rfl _ _ rfl _ _ _ _ (#[.int .i64 X, .int .i64 Y]) V_3.out rfl rfl rfl ?_; rw [← HW2.out])
    refine wp_region_tail (fun D ac w' => ∃ vs : Nat → Value, ac = { tmps := #[Value.agg #[Value.int IntKind.i64 x, Value.int IntKind.i64 y], Value.int IntKind.i64 p, Value.int IntKind.i64 q, Value.pointer (some { block := w.heap.size, off := 0 }), undef, undef, Value.bool false, Value.bool true, undef, undef, Value.bool true, tvqnpm2 0, tvqnpm2 1, tvqnpm2 2, tvqnpm2 3, tvqnpm2 4, tvqnpm2 5, Value.agg #[Value.int IntKind.i64 X, Value.int IntKind.i64 Y], vs 0, vs 1, vs 2, undef, undef, undef, undef, undef, undef, undef, undef, undef, undef, undef, undef, undef, undef, undef, undef, undef, undef, undef, undef, undef, undef, undef, undef, undef, undef, undef, undef, undef, undef, undef, undef, undef, undef, undef, undef, undef, undef, undef, undef, undef, undef, undef, undef, undef, undef, undef], defers := [] } ∧ Ext W2 w' ∧ ∀ j, D j → qnpm3F w x y p q X Y P Q a b W0 w1 wfqnpm2 tvqnpm2 W2 j (vs j)) 3 (by kernel_rfl) (by kernel_rfl) (by kernel_rfl) ?startqnpm3 ?stepqnpm3 ?finqnpm3
    case startqnpm3 => exact ⟨fun _ => undef, rfl, Ext.drew _, fun _ h => h.elim⟩
    case stepqnpm3 =>
      rintro i o D ac wz hin hio hnd he ⟨vs, rfl, k0, hF⟩
      rcases i with _ | _ | _ | i
      rotate_left 3
      · exact absurd hin (by omega)
      all_goals (obtain rfl := Option.some.inj (hio.symm.trans (by rfl)))
      · refine step_yes (wanted_of_none rfl _) ?_
        exact wp_of_run (run_ld_pt (.tmp 3) rfl _ _ rfl _ _ ((k0.row VW2_0.out).cell 0) ((k0.row VW2_0.out).cell 1)) ⟨upd vs 0 _, rfl, k0, inv_same hF rfl⟩
      · refine step_yes (wanted_of_none rfl _) ?_
        refine wp_of_callE (run_enter2 23 (.const (.int .i64 0)) (.const (.int .i64 0)) _ rfl _ _ rfl rfl (fun args w => enters_of Try.func23 (by kernel_rfl) rfl args w)) (lat 0 0 wz) ?_
        rintro e w' ⟨rfl, hx⟩
        exact ⟨_, rfl, upd vs 1 _, rfl, k0.trans hx, inv_same hF rfl⟩
      · refine step_yes (wanted_of_none rfl _) ?_
        exact wp_of_run (run_eq_pt (.tmp 18) (.tmp 19) rfl _ _ _ _ (by exact (hF 0 (he ⟨0, .data⟩ (by simp) rfl))) (by exact (hF 1 (he ⟨1, .data⟩ (by simp) rfl))) _ HZ.out) ⟨upd vs 2 _, rfl, k0, inv_same hF rfl⟩
    case finqnpm3 =>
      rintro D ac wfqnpm3 hD ⟨vs, rfl, k0, hF⟩
      change wpList _ _ _ [] _ _
      unfold wpList
      have hl2 : vs 2 = .bool false := hF 2 (hD 2 (by decide))
      rw [hl2]
      clear hl2
      clear hF hD
      generalize vs = tvqnpm3
      have E4 := Lib.hid (EW2.out.trans k0)
      have VW2_4 := Lib.hid (k0.row VW2_0.out)
      clear EW2 VW2_0
      clear k0
      go_upto_region 6 with (fail)
      have ea : a = X := HAB.out.1.symm
      have eb : b = Y := HAB.out.2.symm
      have HEA := Lib.hid ea
      have HEB := Lib.hid eb
      clear ea eb
      have hc0 := VW2_4.out.cell 0
      have hc1 := VW2_4.out.cell 1
      simp at hc0 hc1
      go_wp2_with fail
      refine (cal_of (vapply 0 0 1 false X Y _) (v' := .agg #[.int .i64 (-b), .int .i64 a]) (by have := ap_quarter a b HA.out.1 HA.out.2 HB.out.1 HB.out.2; rw [HEA.out, HEB.out] at this ⊢; rw [this.1, this.2])).mono ?_; rintro e w6 ⟨rfl, hx⟩
      have E5 := Lib.hid (E4.out.trans hx)
      have VW2_5 := Lib.hid (hx.row VW2_4.out)
      clear E4 VW2_4
      clear hx
      clear hc0 hc1
      go_upto_region 7 with (fail)
      obtain ⟨W6, hW6⟩ : ∃ W6, W6 = (w6.alloc (.cells #[.int .i64 (-b), .int .i64 a] 23)) := ⟨_, rfl⟩
      have hx : Ext w6 W6 := by rw [hW6]; exact Ext.alloc _ _
      have U_0 := Lib.hid (show RowAt W6 (w6.heap.size) 23 #[.int .i64 (-b), .int .i64 a] from by rw [hW6]; exact (RowAt.new' _ _ (by simp)))
      have SZW6 := Lib.hid (show W6.heap.size = w6.heap.size + 1 from by rw [hW6]; simp)
      have E6 := Lib.hid (E5.out.trans hx)
      have VW2_6 := Lib.hid (hx.row VW2_5.out)
      clear E5 VW2_5
      clear hx
      rw [← hW6]
      clear hW6
      rw [HP.out, HQ.out]
      have LV := Lib.hid VW2_6.out.lt
      have LU := Lib.hid U_0.out.lt
      refine wp_region_seq (fun D ac w' => ∃ vs : Nat → Value, ac = { tmps := #[Value.agg #[Value.int IntKind.i64 x, Value.int IntKind.i64 y], Value.int IntKind.i64 P, Value.int IntKind.i64 Q, Value.pointer (some { block := w.heap.size, off := 0 }), undef, undef, Value.bool false, Value.bool true, Value.pointer (some { block := w6.heap.size, off := 0 }), vs 19, Value.bool true, tvqnpm2 0, tvqnpm2 1, tvqnpm2 2, tvqnpm2 3, tvqnpm2 4, tvqnpm2 5, Value.agg #[Value.int IntKind.i64 X, Value.int IntKind.i64 Y], tvqnpm3 0, tvqnpm3 1, Value.bool false, undef, Value.int IntKind.i64 p, Value.int IntKind.i64 P, Value.int IntKind.i64 q, Value.int IntKind.i64 Q, Value.agg #[Value.int IntKind.i64 0, Value.int IntKind.i64 0, Value.int IntKind.i64 1, Value.bool false], Value.agg #[Value.int IntKind.i64 X, Value.int IntKind.i64 Y], Value.agg #[Value.int IntKind.i64 (-b), Value.int IntKind.i64 a], vs 0, vs 1, vs 2, vs 3, vs 4, vs 5, vs 6, vs 7, vs 8, vs 9, vs 10, vs 11, vs 12, vs 13, vs 14, vs 15, vs 16, vs 17, vs 18, undef, undef, undef, undef, undef, undef, undef, undef, undef, undef, undef, undef, undef, undef, undef, undef, undef, undef, undef, undef], defers := [] } ∧ Ext W6 w' ∧ ∀ j, D j → qnpm7F w x y p q X Y P Q a b W0 w1 wfqnpm2 tvqnpm2 W2 wfqnpm3 tvqnpm3 w6 W6 W6.heap.size j (vs j) w') 20 (by kernel_rfl) (by kernel_rfl) ?startqnpm7 ?stepqnpm7 ?finqnpm7
      case startqnpm7 => exact ⟨fun _ => undef, rfl, Ext.refl _, fun _ h => h.elim⟩
      case stepqnpm7 =>
        rintro i o D ac wz hin hio hnd he ⟨vs, rfl, k0, hF⟩
        rcases i with _ | _ | _ | _ | _ | _ | _ | _ | _ | _ | _ | _ | _ | _ | _ | _ | _ | _ | _ | _ | i
        rotate_left 20
        · exact absurd hin (by omega)
        all_goals (obtain rfl := Option.some.inj (hio.symm.trans (by rfl)))
        · refine step_yes (wanted_of_none rfl _) ?_
          exact wp_of_run (run_mov (.tmp 1) rfl _ rfl) ⟨upd vs 0 _, rfl, k0, inv_step hF (fun _ _ h => h) rfl⟩
        · refine step_yes (wanted_of_none rfl _) ?_
          exact wp_of_run (run_fld_pt0 (.tmp 3) rfl _ _ rfl) ⟨upd vs 1 _, rfl, k0, inv_step hF (fun _ _ h => h) rfl⟩
        · refine step_yes (wanted_of_none rfl _) ?_
          exact wp_of_run (run_ldi (.tmp 30) rfl _ _ (by exact (hF 1 (he ⟨1, .data⟩ (by simp) rfl))) _ ((k0.row VW2_6.out).cell 0)) ⟨upd vs 2 _, rfl, k0, inv_step hF (fun _ _ h => h) rfl⟩
        · refine step_yes (wanted_of_none rfl _) ?_
          exact wp_of_run (run_muli (.tmp 29) (.tmp 31) rfl rfl _ _ (by exact (hF 0 (he ⟨0, .data⟩ (by simp) rfl))) (by exact (hF 2 (he ⟨2, .data⟩ (by simp) rfl)))) ⟨upd vs 3 _, rfl, k0, inv_step hF (fun _ _ h => h) rfl⟩
        · refine step_yes (wanted_of_none rfl _) ?_
          exact wp_of_run (run_mov (.tmp 2) rfl _ rfl) ⟨upd vs 4 _, rfl, k0, inv_step hF (fun _ _ h => h) rfl⟩
        · refine step_yes (wanted_of_none rfl _) ?_
          exact wp_of_run (run_fld_pt0 (.tmp 8) rfl _ _ rfl) ⟨upd vs 5 _, rfl, k0, inv_step hF (fun _ _ h => h) rfl⟩
        · refine step_yes (wanted_of_none rfl _) ?_
          exact wp_of_run (run_ldi (.tmp 34) rfl _ _ (by exact (hF 5 (he ⟨5, .data⟩ (by simp) rfl))) _ ((k0.row U_0.out).cell 0)) ⟨upd vs 6 _, rfl, k0, inv_step hF (fun _ _ h => h) rfl⟩
        · refine step_yes (wanted_of_none rfl _) ?_
          exact wp_of_run (run_muli (.tmp 33) (.tmp 35) rfl rfl _ _ (by exact (hF 4 (he ⟨4, .data⟩ (by simp) rfl))) (by exact (hF 6 (he ⟨6, .data⟩ (by simp) rfl)))) ⟨upd vs 7 _, rfl, k0, inv_step hF (fun _ _ h => h) rfl⟩
        · refine step_yes (wanted_of_none rfl _) ?_
          exact wp_of_run (run_addi (.tmp 32) (.tmp 36) rfl rfl _ _ (by exact (hF 3 (he ⟨3, .data⟩ (by simp) rfl))) (by exact (hF 7 (he ⟨7, .data⟩ (by simp) rfl)))) ⟨upd vs 8 _, rfl, k0, inv_step hF (fun _ _ h => h) rfl⟩
        · refine step_yes (wanted_of_none rfl _) ?_
          exact wp_of_run (run_mov (.tmp 1) rfl _ rfl) ⟨upd vs 9 _, rfl, k0, inv_step hF (fun _ _ h => h) rfl⟩
        · refine step_yes (wanted_of_none rfl _) ?_
          exact wp_of_run (run_fld_pt1 (.tmp 3) rfl _ _ rfl) ⟨upd vs 10 _, rfl, k0, inv_step hF (fun _ _ h => h) rfl⟩
        · refine step_yes (wanted_of_none rfl _) ?_
          exact wp_of_run (run_ldi (.tmp 39) rfl _ _ (by exact (hF 10 (he ⟨10, .data⟩ (by simp) rfl))) _ ((k0.row VW2_6.out).cell 1)) ⟨upd vs 11 _, rfl, k0, inv_step hF (fun _ _ h => h) rfl⟩
        · refine step_yes (wanted_of_none rfl _) ?_
          exact wp_of_run (run_muli (.tmp 38) (.tmp 40) rfl rfl _ _ (by exact (hF 9 (he ⟨9, .data⟩ (by simp) rfl))) (by exact (hF 11 (he ⟨11, .data⟩ (by simp) rfl)))) ⟨upd vs 12 _, rfl, k0, inv_step hF (fun _ _ h => h) rfl⟩
        · refine step_yes (wanted_of_none rfl _) ?_
          exact wp_of_run (run_mov (.tmp 2) rfl _ rfl) ⟨upd vs 13 _, rfl, k0, inv_step hF (fun _ _ h => h) rfl⟩
        · refine step_yes (wanted_of_none rfl _) ?_
          exact wp_of_run (run_fld_pt1 (.tmp 8) rfl _ _ rfl) ⟨upd vs 14 _, rfl, k0, inv_step hF (fun _ _ h => h) rfl⟩
        · refine step_yes (wanted_of_none rfl _) ?_
          exact wp_of_run (run_ldi (.tmp 43) rfl _ _ (by exact (hF 14 (he ⟨14, .data⟩ (by simp) rfl))) _ ((k0.row U_0.out).cell 1)) ⟨upd vs 15 _, rfl, k0, inv_step hF (fun _ _ h => h) rfl⟩
        · refine step_yes (wanted_of_none rfl _) ?_
          exact wp_of_run (run_muli (.tmp 42) (.tmp 44) rfl rfl _ _ (by exact (hF 13 (he ⟨13, .data⟩ (by simp) rfl))) (by exact (hF 15 (he ⟨15, .data⟩ (by simp) rfl)))) ⟨upd vs 16 _, rfl, k0, inv_step hF (fun _ _ h => h) rfl⟩
        · refine step_yes (wanted_of_none rfl _) ?_
          exact wp_of_run (run_addi (.tmp 41) (.tmp 45) rfl rfl _ _ (by exact (hF 12 (he ⟨12, .data⟩ (by simp) rfl))) (by exact (hF 16 (he ⟨16, .data⟩ (by simp) rfl)))) ⟨upd vs 17 _, rfl, k0, inv_step hF (fun _ _ h => h) rfl⟩
        · refine step_yes (wanted_of_none rfl _) ?_
          refine wp_of_callE (run_enter2 23 (.tmp 37) (.tmp 46) _ rfl _ _ (by exact (hF 8 (he ⟨8, .data⟩ (by simp) rfl))) (by exact (hF 17 (he ⟨17, .data⟩ (by simp) rfl))) (fun args w => enters_of Try.func23 (by kernel_rfl) rfl args w)) (lat (wrap64 ((wrap64 (P * X)) + (wrap64 (Q * (-b))))) (wrap64 ((wrap64 (P * Y)) + (wrap64 (Q * a)))) wz) ?_
          rintro e w' ⟨rfl, hx⟩
          exact ⟨_, rfl, upd vs 18 _, rfl, k0.trans hx, inv_step hF (fun j v h => qnpm7F_mono hx j v h) rfl⟩
        · refine step_yes (wanted_of_none rfl _) ?_
          exact wp_of_run (run_alloc_pt rfl) ⟨upd vs 19 _, rfl, k0.trans (Ext.alloc _ _), inv_step hF (fun j v h => qnpm7F_mono (Ext.alloc _ _) j v h) (own_new _ _ k0 (Nat.le_refl _))⟩
      case finqnpm7 =>
        rintro D ac wfqnpm7 hD ⟨vs, rfl, k0, hF⟩
        change wpList _ _ _ [_] _ _
        have hl18 : vs 18 = .agg #[.int .i64 (wrap64 ((wrap64 (P * X)) + (wrap64 (Q * (-b))))), .int .i64 (wrap64 ((wrap64 (P * Y)) + (wrap64 (Q * a))))] := hF 18 (hD 18 (by decide))
        rw [hl18]
        clear hl18
        have E7 := Lib.hid (E6.out.trans k0)
        have VW2_7 := Lib.hid (k0.row VW2_6.out)
        have U_7 := Lib.hid (k0.row U_0.out)
        clear E6 VW2_6 U_0
        clear k0
        obtain ⟨g, hg, hle, hr⟩ := hF 19 (hD 19 (by decide))
        rw [hg]
        clear hF hD hg
        generalize vs = tvq7
        rw [show wrap64 ((wrap64 (P * X)) + (wrap64 (Q * (-b)))) = qx a b P Q from by unfold qx; rw [HEA.out, HEB.out], show wrap64 ((wrap64 (P * Y)) + (wrap64 (Q * a))) = qy a b P Q from by unfold qy; rw [HEA.out, HEB.out]]
        obtain ⟨W7, hW7⟩ : ∃ W7, W7 = wfqnpm7.setRow g #[.int .i64 (qx a b P Q), .int .i64 (qy a b P Q)] := ⟨_, rfl⟩
        have D_0 := Lib.hid (show RowAt W7 g 23 #[.int .i64 (qx a b P Q), .int .i64 (qy a b P Q)] from by rw [hW7]; exact hr.setRow _)
        have VW2_7x := Lib.hid (show RowAt W7 (w.heap.size) _ _ from by rw [hW7]; exact VW2_7.out.setRowOther _ (by have := LV.out; omega))
        have U_7x := Lib.hid (show RowAt W7 (w6.heap.size) _ _ from by rw [hW7]; exact U_7.out.setRowOther _ (by have := LU.out; omega))
        have E7x := Lib.hid (show Ext w W7 from by rw [hW7]; exact ext_setRow E7.out (by have := LV.out; omega) _)
        have HR := Lib.hid hr
        have H7 := Lib.hid hW7
        clear hW7 hr hle
        go_upto_region 8 with (refine store_pt_at rfl (.tmp 9) (.tmp 47) rfl g 0 rfl _ _ rfl _ _ _ _ (#[.int .i64 (qx a b P Q), .int .i64 (qy a b P Q)]) HR.out rfl rfl rfl ?_; rw [← H7.out])
        refine wp_region_seq (fun D ac w' => ∃ vs : Nat → Value, ac = { tmps := #[Value.agg #[Value.int IntKind.i64 x, Value.int IntKind.i64 y], Value.int IntKind.i64 P, Value.int IntKind.i64 Q, Value.pointer (some { block := w.heap.size, off := 0 }), undef, undef, Value.bool false, Value.bool true, Value.pointer (some { block := w6.heap.size, off := 0 }), Value.pointer (some { block := g, off := 0 }), Value.bool true, tvqnpm2 0, tvqnpm2 1, tvqnpm2 2, tvqnpm2 3, tvqnpm2 4, tvqnpm2 5, Value.agg #[Value.int IntKind.i64 X, Value.int IntKind.i64 Y], tvqnpm3 0, tvqnpm3 1, Value.bool false, undef, Value.int IntKind.i64 p, Value.int IntKind.i64 P, Value.int IntKind.i64 q, Value.int IntKind.i64 Q, Value.agg #[Value.int IntKind.i64 0, Value.int IntKind.i64 0, Value.int IntKind.i64 1, Value.bool false], Value.agg #[Value.int IntKind.i64 X, Value.int IntKind.i64 Y], Value.agg #[Value.int IntKind.i64 (-b), Value.int IntKind.i64 a], tvq7 0, tvq7 1, tvq7 2, tvq7 3, tvq7 4, tvq7 5, tvq7 6, tvq7 7, tvq7 8, tvq7 9, tvq7 10, tvq7 11, tvq7 12, tvq7 13, tvq7 14, tvq7 15, tvq7 16, tvq7 17, Value.agg #[Value.int IntKind.i64 (qx a b P Q), Value.int IntKind.i64 (qy a b P Q)], vs 0, vs 1, vs 2, vs 3, vs 4, vs 5, vs 6, vs 7, vs 8, vs 9, vs 10, vs 11, vs 12, vs 13, vs 14, vs 15, vs 16, vs 17, vs 18, vs 19], defers := [] } ∧ Ext W7 w' ∧ ∀ j, D j → qnpm8F w x y p q X Y P Q a b W0 w1 wfqnpm2 tvqnpm2 W2 wfqnpm3 tvqnpm3 w6 W6 wfqnpm7 g W7 tvq7 j (vs j)) 20 (by kernel_rfl) (by kernel_rfl) ?startqnpm8 ?stepqnpm8 ?finqnpm8
        case startqnpm8 => exact ⟨fun _ => undef, rfl, Ext.refl _, fun _ h => h.elim⟩
        case stepqnpm8 =>
          rintro i o D ac wz hin hio hnd he ⟨vs, rfl, k0, hF⟩
          rcases i with _ | _ | _ | _ | _ | _ | _ | _ | _ | _ | _ | _ | _ | _ | _ | _ | _ | _ | _ | _ | i
          rotate_left 20
          · exact absurd hin (by omega)
          all_goals (obtain rfl := Option.some.inj (hio.symm.trans (by rfl)))
          · refine step_yes (wanted_of_none rfl _) ?_
            exact wp_of_run (run_mov (.tmp 7) rfl _ rfl) ⟨upd vs 0 _, rfl, k0, inv_same hF rfl⟩
          · refine step_yes (wanted_of_none rfl _) ?_
            exact wp_of_run (run_mov (.tmp 48) rfl _ (by exact (hF 0 (he ⟨0, .data⟩ (by simp) rfl)))) ⟨upd vs 1 _, rfl, k0, inv_same hF rfl⟩
          · refine step_yes (wanted_g (j := 1) (d := 49) rfl rfl rfl (hF 1 (he ⟨1, .guard⟩ (by simp) rfl))) ?_
            exact wp_of_run (run_ld_pt (.tmp 3) rfl _ _ rfl _ _ ((k0.row VW2_7x.out).cell 0) ((k0.row VW2_7x.out).cell 1)) ⟨upd vs 2 _, rfl, k0, inv_same hF rfl⟩
          · refine step_yes (wanted_g (j := 1) (d := 49) rfl rfl rfl (hF 1 (he ⟨1, .guard⟩ (by simp) rfl))) ?_
            exact wp_of_run (run_ld_pt (.tmp 8) rfl _ _ rfl _ _ ((k0.row U_7x.out).cell 0) ((k0.row U_7x.out).cell 1)) ⟨upd vs 3 _, rfl, k0, inv_same hF rfl⟩
          · refine step_yes (wanted_g (j := 1) (d := 49) rfl rfl rfl (hF 1 (he ⟨1, .chain⟩ (by simp) rfl))) ?_
            refine wp_of_callE (run_enter2 17 (.tmp 50) (.tmp 51) _ rfl _ _ (by exact (hF 2 (he ⟨2, .data⟩ (by simp) rfl))) (by exact (hF 3 (he ⟨3, .data⟩ (by simp) rfl))) (fun args w => enters_of Try.func17 (by kernel_rfl) rfl args w)) (vdot X Y (-b) a wz) ?_
            rintro e w' ⟨rfl, hx⟩
            exact ⟨_, rfl, upd vs 4 _, rfl, k0.trans hx, inv_same hF rfl⟩
          · refine step_yes (wanted_g (j := 1) (d := 49) rfl rfl rfl (hF 1 (he ⟨1, .guard⟩ (by simp) rfl))) ?_
            exact wp_of_run (run_eqi (.tmp 52) (.const (.int .i64 0)) rfl _ _ (by exact (hF 4 (he ⟨4, .data⟩ (by simp) rfl))) rfl _ (decide_eq_true (by rw [HEA.out, HEB.out]; exact quarter_dot _ _))) ⟨upd vs 5 _, rfl, k0, inv_same hF rfl⟩
          · refine step_yes (wanted_of_none rfl _) ?_
            exact wp_of_run (run_pick_t (.tmp 49) (.tmp 53) (.const (.bool false)) rfl (by exact (hF 1 (he ⟨1, .data⟩ (by simp) rfl))) _ (by exact (hF 5 (he ⟨5, .data⟩ (by simp) rfl)))) ⟨upd vs 6 _, rfl, k0, inv_same hF rfl⟩
          · refine step_yes (wanted_of_none rfl _) ?_
            exact wp_of_run (run_mov (.tmp 54) rfl _ (by exact (hF 6 (he ⟨6, .data⟩ (by simp) rfl)))) ⟨upd vs 7 _, rfl, k0, inv_same hF rfl⟩
          · refine step_yes (wanted_g (j := 7) (d := 55) rfl rfl rfl (hF 7 (he ⟨7, .guard⟩ (by simp) rfl))) ?_
            exact wp_of_run (run_ld_pt (.tmp 9) rfl _ _ rfl _ _ ((k0.row D_0.out).cell 0) ((k0.row D_0.out).cell 1)) ⟨upd vs 8 _, rfl, k0, inv_same hF rfl⟩
          · refine step_yes (wanted_g (j := 7) (d := 55) rfl rfl rfl (hF 7 (he ⟨7, .guard⟩ (by simp) rfl))) ?_
            exact wp_of_run (run_ld_pt (.tmp 3) rfl _ _ rfl _ _ ((k0.row VW2_7x.out).cell 0) ((k0.row VW2_7x.out).cell 1)) ⟨upd vs 9 _, rfl, k0, inv_same hF rfl⟩
          · refine step_yes (wanted_g (j := 7) (d := 55) rfl rfl rfl (hF 7 (he ⟨7, .guard⟩ (by simp) rfl))) ?_
            exact wp_of_run (run_ld_pt (.tmp 8) rfl _ _ rfl _ _ ((k0.row U_7x.out).cell 0) ((k0.row U_7x.out).cell 1)) ⟨upd vs 10 _, rfl, k0, inv_same hF rfl⟩
          · refine step_yes (wanted_g (j := 7) (d := 55) rfl rfl rfl (hF 7 (he ⟨7, .chain⟩ (by simp) rfl))) ?_
            refine wp_of_callE (run_enter3 21 (.tmp 56) (.tmp 57) (.tmp 58) _ rfl _ _ _ (by exact (hF 8 (he ⟨8, .data⟩ (by simp) rfl))) (by exact (hF 9 (he ⟨9, .data⟩ (by simp) rfl))) (by exact (hF 10 (he ⟨10, .data⟩ (by simp) rfl))) (fun args w => enters_of Try.func21 (by kernel_rfl) rfl args w)) (vwithin (qx a b P Q) (qy a b P Q) X Y (-b) a wz) ?_
            rintro e w' ⟨rfl, hx⟩
            exact ⟨_, rfl, upd vs 11 _, rfl, k0.trans hx, inv_same hF rfl⟩
          · refine step_yes (wanted_g (j := 7) (d := 55) rfl rfl rfl (hF 7 (he ⟨7, .guard⟩ (by simp) rfl))) ?_
            exact wp_of_run (run_mov (.tmp 1) rfl _ rfl) ⟨upd vs 12 _, rfl, k0, inv_same hF rfl⟩
          · refine step_yes (wanted_g (j := 7) (d := 55) rfl rfl rfl (hF 7 (he ⟨7, .guard⟩ (by simp) rfl))) ?_
            exact wp_of_run (run_geqi (.tmp 60) (.const (.int .i64 0)) rfl _ _ (by exact (hF 12 (he ⟨12, .data⟩ (by simp) rfl))) rfl _ HPP.out) ⟨upd vs 13 _, rfl, k0, inv_same hF rfl⟩
          · refine step_yes (wanted_g (j := 7) (d := 55) rfl rfl rfl (hF 7 (he ⟨7, .guard⟩ (by simp) rfl))) ?_
            exact wp_of_run (run_mov (.tmp 61) rfl _ (by exact (hF 13 (he ⟨13, .data⟩ (by simp) rfl)))) ⟨upd vs 14 _, rfl, k0, inv_same hF rfl⟩
          · refine step_yes (wanted_g (j := 14) (d := 62) rfl rfl rfl (hF 14 (he ⟨14, .guard⟩ (by simp) rfl))) ?_
            exact wp_of_run (run_mov (.tmp 2) rfl _ rfl) ⟨upd vs 15 _, rfl, k0, inv_same hF rfl⟩
          · refine step_yes (wanted_g (j := 14) (d := 62) rfl rfl rfl (hF 14 (he ⟨14, .guard⟩ (by simp) rfl))) ?_
            exact wp_of_run (run_geqi (.tmp 63) (.const (.int .i64 0)) rfl _ _ (by exact (hF 15 (he ⟨15, .data⟩ (by simp) rfl))) rfl _ HQQ.out) ⟨upd vs 16 _, rfl, k0, inv_same hF rfl⟩
          · refine step_yes (wanted_g (j := 7) (d := 55) rfl rfl rfl (hF 7 (he ⟨7, .guard⟩ (by simp) rfl))) ?_
            exact wp_of_run (run_pick_t (.tmp 62) (.tmp 64) (.const (.bool false)) rfl (by exact (hF 14 (he ⟨14, .data⟩ (by simp) rfl))) _ (by exact (hF 16 (he ⟨16, .data⟩ (by simp) rfl)))) ⟨upd vs 17 _, rfl, k0, inv_same hF rfl⟩
          · refine step_yes (wanted_g (j := 7) (d := 55) rfl rfl rfl (hF 7 (he ⟨7, .guard⟩ (by simp) rfl))) ?_
            exact wp_of_run (run_eqb (.tmp 59) (.tmp 65) rfl _ _ (by exact (hF 11 (he ⟨11, .data⟩ (by simp) rfl))) (by exact (hF 17 (he ⟨17, .data⟩ (by simp) rfl))) _ (by have e := HW.out; rw [HEA.out, HEB.out] at e ⊢; rw [e]; rfl)) ⟨upd vs 18 _, rfl, k0, inv_same hF rfl⟩
          · refine step_yes (wanted_of_none rfl _) ?_
            exact wp_of_run (run_pick_t (.tmp 55) (.tmp 66) (.const (.bool false)) rfl (by exact (hF 7 (he ⟨7, .data⟩ (by simp) rfl))) _ (by exact (hF 18 (he ⟨18, .data⟩ (by simp) rfl)))) ⟨upd vs 19 _, rfl, k0, inv_same hF rfl⟩
        case finqnpm8 =>
          rintro D ac wfqnpm8 hD ⟨vs, rfl, k0, hF⟩
          change wpList _ _ _ [_] _ _
          have hl19 : vs 19 = .bool true := hF 19 (hD 19 (by decide))
          rw [hl19]
          clear hl19
          clear hF hD
          generalize vs = tvqnpm8
          have E8 := Lib.hid (E7x.out.trans k0)
          have VW2_8 := Lib.hid (k0.row VW2_7x.out)
          have U_8 := Lib.hid (k0.row U_7x.out)
          have D_8 := Lib.hid (k0.row D_0.out)
          clear E7x VW2_7x U_7x D_0
          clear k0
          go_wp2_with fail
          go_ret
          exact ⟨rfl, E8.out⟩

def qnm2V (w : World) (x y p q X Y P Q a b : Int) (W0 : World) (w1 : World) : Nat → Value
  | 0 => .pointer (some ⟨w.heap.size, 0, none⟩)
  | 1 => .int .i64 x
  | 2 => .int .i64 (x.tmod 10000)
  | 3 => .pointer (some ⟨w.heap.size, 1, none⟩)
  | 4 => .int .i64 y
  | 5 => .int .i64 (y.tmod 10000)
  | 6 => .agg #[.int .i64 (x.tmod 10000), .int .i64 (y.tmod 10000)]
  | _ => undef
def qnm2F (w : World) (x y p q X Y P Q a b : Int) (W0 : World) (w1 : World) (j : Nat) (v : Value) : Prop := v = qnm2V w x y p q X Y P Q a b W0 w1 j
def qnm3V (w : World) (x y p q X Y P Q a b : Int) (W0 : World) (w1 : World) (wfqnm2 : World) (tvqnm2 : Nat → Value) (W2 : World) : Nat → Value
  | 0 => .agg #[.int .i64 X, .int .i64 Y]
  | 1 => .agg #[.int .i64 0, .int .i64 0]
  | 2 => .bool false
  | _ => undef
def qnm3F (w : World) (x y p q X Y P Q a b : Int) (W0 : World) (w1 : World) (wfqnm2 : World) (tvqnm2 : Nat → Value) (W2 : World) (j : Nat) (v : Value) : Prop := v = qnm3V w x y p q X Y P Q a b W0 w1 wfqnm2 tvqnm2 W2 j
def qnm7V (w : World) (x y p q X Y P Q a b : Int) (W0 : World) (w1 : World) (wfqnm2 : World) (tvqnm2 : Nat → Value) (W2 : World) (wfqnm3 : World) (tvqnm3 : Nat → Value) (w6 : World) (W6 : World) : Nat → Value
  | 0 => .int .i64 P
  | 1 => .pointer (some ⟨w.heap.size, 0, none⟩)
  | 2 => .int .i64 X
  | 3 => .int .i64 (wrap64 (P * X))
  | 4 => .int .i64 Q
  | 5 => .pointer (some ⟨w6.heap.size, 0, none⟩)
  | 6 => .int .i64 (-b)
  | 7 => .int .i64 (wrap64 (Q * (-b)))
  | 8 => .int .i64 (wrap64 ((wrap64 (P * X)) + (wrap64 (Q * (-b)))))
  | 9 => .int .i64 P
  | 10 => .pointer (some ⟨w.heap.size, 1, none⟩)
  | 11 => .int .i64 Y
  | 12 => .int .i64 (wrap64 (P * Y))
  | 13 => .int .i64 Q
  | 14 => .pointer (some ⟨w6.heap.size, 1, none⟩)
  | 15 => .int .i64 a
  | 16 => .int .i64 (wrap64 (Q * a))
  | 17 => .int .i64 (wrap64 ((wrap64 (P * Y)) + (wrap64 (Q * a))))
  | 18 => .agg #[.int .i64 (wrap64 ((wrap64 (P * X)) + (wrap64 (Q * (-b))))), .int .i64 (wrap64 ((wrap64 (P * Y)) + (wrap64 (Q * a))))]
  | _ => undef
def qnm7F (w : World) (x y p q X Y P Q a b : Int) (W0 : World) (w1 : World) (wfqnm2 : World) (tvqnm2 : Nat → Value) (W2 : World) (wfqnm3 : World) (tvqnm3 : Nat → Value) (w6 : World) (W6 : World) (b_ : Nat) : Nat → Value → World → Prop
  | 19, v, W => Own1 b_ 23 #[.int .i64 0, .int .i64 0] v W
  | j, v, _ => v = qnm7V w x y p q X Y P Q a b W0 w1 wfqnm2 tvqnm2 W2 wfqnm3 tvqnm3 w6 W6 j
theorem qnm7F_mono {w : World} {x y p q X Y P Q a b : Int} {W0 : World} {w1 : World} {wfqnm2 : World} {tvqnm2 : Nat → Value} {W2 : World} {wfqnm3 : World} {tvqnm3 : Nat → Value} {w6 : World} {W6 : World} {b_ : Nat} {W W' : World} (hx : Ext W W') (j : Nat) (v : Value) (h : qnm7F w x y p q X Y P Q a b W0 w1 wfqnm2 tvqnm2 W2 wfqnm3 tvqnm3 w6 W6 b_ j v W) : qnm7F w x y p q X Y P Q a b W0 w1 wfqnm2 tvqnm2 W2 wfqnm3 tvqnm3 w6 W6 b_ j v W' := by
  match j, h with
  | 19, h => exact Own1.ext h hx
  | 0, h | 1, h | 2, h | 3, h | 4, h | 5, h | 6, h | 7, h | 8, h | 9, h | 10, h | 11, h | 12, h | 13, h | 14, h | 15, h | 16, h | 17, h | 18, h => exact h
  | k + 20, h => exact h
def qnm8V (w : World) (x y p q X Y P Q a b : Int) (W0 : World) (w1 : World) (wfqnm2 : World) (tvqnm2 : Nat → Value) (W2 : World) (wfqnm3 : World) (tvqnm3 : Nat → Value) (w6 : World) (W6 : World) (wfqnm7 : World) (g : Nat) (W7 : World) (tvq7 : Nat → Value) : Nat → Value
  | 0 => .bool true
  | 1 => .bool true
  | 2 => .agg #[.int .i64 X, .int .i64 Y]
  | 3 => .agg #[.int .i64 (-b), .int .i64 a]
  | 4 => .int .i64 (dotZ X Y (-b) a)
  | 5 => .bool true
  | 6 => .bool true
  | 7 => .bool true
  | 8 => .agg #[.int .i64 (qx a b P Q), .int .i64 (qy a b P Q)]
  | 9 => .agg #[.int .i64 X, .int .i64 Y]
  | 10 => .agg #[.int .i64 (-b), .int .i64 a]
  | 11 => .bool (withinB (qx a b P Q) (qy a b P Q) X Y (-b) a)
  | 12 => .int .i64 P
  | 13 => .bool false
  | 14 => .bool false
  | 15 => undef
  | 16 => undef
  | 17 => .bool false
  | 18 => .bool true
  | 19 => .bool true
  | _ => undef
def qnm8F (w : World) (x y p q X Y P Q a b : Int) (W0 : World) (w1 : World) (wfqnm2 : World) (tvqnm2 : Nat → Value) (W2 : World) (wfqnm3 : World) (tvqnm3 : Nat → Value) (w6 : World) (W6 : World) (wfqnm7 : World) (g : Nat) (W7 : World) (tvq7 : Nat → Value) (j : Nat) (v : Value) : Prop := v = qnm8V w x y p q X Y P Q a b W0 w1 wfqnm2 tvqnm2 W2 wfqnm3 tvqnm3 w6 W6 wfqnm7 g W7 tvq7 j
set_option maxRecDepth 100000 in
set_option maxHeartbeats 4000000 in
theorem vecQ_nm (x y p q X Y P Q a b : Int) (w : World) (hX : x.tmod 10000 = X) (hY : y.tmod 10000 = Y) (hP : p.tmod 10000 = P) (hQ : q.tmod 10000 = Q) (hz : (decide (X = 0) && decide (Y = 0)) = false) (ha : -10000 ≤ a ∧ a ≤ 10000) (hb : -10000 ≤ b ∧ b ≤ 10000) (hab : X = a ∧ Y = b) (hpp : decide (P ≥ 0) = false) (hw : withinB (qx a b P Q) (qy a b P Q) a b (-b) a = false) : Calls Try.prog 7 #[.agg #[.int .i64 x, .int .i64 y], .int .i64 p, .int .i64 q] w fun e w' => e = .returned (.bool true) ∧ Ext w w' := by
  have E0 := Lib.hid (Ext.refl w)
  have HX := Lib.hid hX
  have HY := Lib.hid hY
  have HP := Lib.hid hP
  have HQ := Lib.hid hQ
  have HZ := Lib.hid hz
  have HA := Lib.hid ha
  have HB := Lib.hid hb
  have HAB := Lib.hid hab
  have HPP := Lib.hid hpp
  have HW := Lib.hid hw
  clear hw hpp hab hb ha hz hQ hP hY hX
  go_enter Try.func7, Try.ntmps7
  go_wp2_with fail
  obtain ⟨W0, hW0⟩ : ∃ W0, W0 = (w.alloc (.cells #[.int .i64 x, .int .i64 y] 23)) := ⟨_, rfl⟩
  have hx : Ext w W0 := by rw [hW0]; exact Ext.alloc _ _
  have V_0 := Lib.hid (show RowAt W0 (w.heap.size) 23 #[.int .i64 x, .int .i64 y] from by rw [hW0]; exact (RowAt.new' _ _ (by simp)))
  have SZW0 := Lib.hid (show W0.heap.size = w.heap.size + 1 from by rw [hW0]; simp)
  have E1 := Lib.hid (E0.out.trans hx)
  clear E0
  clear hx
  rw [← hW0]
  clear hW0
  refine (sanity_c _).mono ?_; rintro e w1 ⟨rfl, hx⟩
  have E2 := Lib.hid (E1.out.trans hx)
  have V_2 := Lib.hid (hx.row V_0.out)
  clear E1 V_0
  clear hx
  go_upto_region 2 with (fail)
  refine wp_region_seq (fun D ac w' => ∃ vs : Nat → Value, ac = { tmps := #[Value.agg #[Value.int IntKind.i64 x, Value.int IntKind.i64 y], Value.int IntKind.i64 p, Value.int IntKind.i64 q, Value.pointer (some { block := w.heap.size, off := 0 }), undef, undef, Value.bool false, Value.bool true, undef, undef, Value.bool true, vs 0, vs 1, vs 2, vs 3, vs 4, vs 5, vs 6, undef, undef, undef, undef, undef, undef, undef, undef, undef, undef, undef, undef, undef, undef, undef, undef, undef, undef, undef, undef, undef, undef, undef, undef, undef, undef, undef, undef, undef, undef, undef, undef, undef, undef, undef, undef, undef, undef, undef, undef, undef, undef, undef, undef, undef, undef, undef, undef, undef, undef], defers := [] } ∧ Ext w1 w' ∧ ∀ j, D j → qnm2F w x y p q X Y P Q a b W0 w1 j (vs j)) 7 (by kernel_rfl) (by kernel_rfl) ?startqnm2 ?stepqnm2 ?finqnm2
  case startqnm2 => exact ⟨fun _ => undef, rfl, Ext.refl _, fun _ h => h.elim⟩
  case stepqnm2 =>
    rintro i o D ac wz hin hio hnd he ⟨vs, rfl, k0, hF⟩
    rcases i with _ | _ | _ | _ | _ | _ | _ | i
    rotate_left 7
    · exact absurd hin (by omega)
    all_goals (obtain rfl := Option.some.inj (hio.symm.trans (by rfl)))
    · refine step_yes (wanted_of_none rfl _) ?_
      exact wp_of_run (run_fld_pt0 (.tmp 3) rfl _ _ rfl) ⟨upd vs 0 _, rfl, k0, inv_same hF rfl⟩
    · refine step_yes (wanted_of_none rfl _) ?_
      exact wp_of_run (run_ldi (.tmp 11) rfl _ _ (by exact (hF 0 (he ⟨0, .data⟩ (by simp) rfl))) _ ((k0.row V_2.out).cell 0)) ⟨upd vs 1 _, rfl, k0, inv_same hF rfl⟩
    · refine step_yes (wanted_of_none rfl _) ?_
      exact wp_of_run (run_remi (.tmp 12) (.const (.int .i64 10000)) rfl rfl _ 10000 (by decide) (by decide) (by exact (hF 1 (he ⟨1, .data⟩ (by simp) rfl))) rfl) ⟨upd vs 2 _, rfl, k0, inv_same hF rfl⟩
    · refine step_yes (wanted_of_none rfl _) ?_
      exact wp_of_run (run_fld_pt1 (.tmp 3) rfl _ _ rfl) ⟨upd vs 3 _, rfl, k0, inv_same hF rfl⟩
    · refine step_yes (wanted_of_none rfl _) ?_
      exact wp_of_run (run_ldi (.tmp 14) rfl _ _ (by exact (hF 3 (he ⟨3, .data⟩ (by simp) rfl))) _ ((k0.row V_2.out).cell 1)) ⟨upd vs 4 _, rfl, k0, inv_same hF rfl⟩
    · refine step_yes (wanted_of_none rfl _) ?_
      exact wp_of_run (run_remi (.tmp 15) (.const (.int .i64 10000)) rfl rfl _ 10000 (by decide) (by decide) (by exact (hF 4 (he ⟨4, .data⟩ (by simp) rfl))) rfl) ⟨upd vs 5 _, rfl, k0, inv_same hF rfl⟩
    · refine step_yes (wanted_of_none rfl _) ?_
      refine wp_of_callE (run_enter2 23 (.tmp 13) (.tmp 16) _ rfl _ _ (by exact (hF 2 (he ⟨2, .data⟩ (by simp) rfl))) (by exact (hF 5 (he ⟨5, .data⟩ (by simp) rfl))) (fun args w => enters_of Try.func23 (by kernel_rfl) rfl args w)) (lat (x.tmod 10000) (y.tmod 10000) wz) ?_
      rintro e w' ⟨rfl, hx⟩
      exact ⟨_, rfl, upd vs 6 _, rfl, k0.trans hx, inv_same hF rfl⟩
  case finqnm2 =>
    rintro D ac wfqnm2 hD ⟨vs, rfl, k0, hF⟩
    change wpList _ _ _ [_] _ _
    have hl6 : vs 6 = .agg #[.int .i64 (x.tmod 10000), .int .i64 (y.tmod 10000)] := hF 6 (hD 6 (by decide))
    rw [hl6]
    clear hl6
    clear hF hD
    generalize vs = tvqnm2
    have E3 := Lib.hid (E2.out.trans k0)
    have V_3 := Lib.hid (k0.row V_2.out)
    clear E2 V_2
    clear k0
    rw [HX.out, HY.out]
    obtain ⟨W2, hW2⟩ : ∃ W2, W2 = wfqnm2.setRow w.heap.size #[.int .i64 X, .int .i64 Y] := ⟨_, rfl⟩
    have VW2_0 := Lib.hid (show RowAt W2 w.heap.size 23 #[.int .i64 X, .int .i64 Y] from by rw [hW2]; exact V_3.out.setRow _)
    have EW2 := Lib.hid (show Ext w W2 from by rw [hW2]; exact ext_setRow E3.out (Nat.le_refl _) _)
    have HW2 := Lib.hid hW2
    clear hW2
    go_upto_region 3 with (refine store_pt_at rfl (.tmp 3) (.tmp 17) rfl w.heap.size 0 rfl _ _ rfl _ _ _ _ (#[.int .i64 X, .int .i64 Y]) V_3.out rfl rfl rfl ?_; rw [← HW2.out])
    refine wp_region_tail (fun D ac w' => ∃ vs : Nat → Value, ac = { tmps := #[Value.agg #[Value.int IntKind.i64 x, Value.int IntKind.i64 y], Value.int IntKind.i64 p, Value.int IntKind.i64 q, Value.pointer (some { block := w.heap.size, off := 0 }), undef, undef, Value.bool false, Value.bool true, undef, undef, Value.bool true, tvqnm2 0, tvqnm2 1, tvqnm2 2, tvqnm2 3, tvqnm2 4, tvqnm2 5, Value.agg #[Value.int IntKind.i64 X, Value.int IntKind.i64 Y], vs 0, vs 1, vs 2, undef, undef, undef, undef, undef, undef, undef, undef, undef, undef, undef, undef, undef, undef, undef, undef, undef, undef, undef, undef, undef, undef, undef, undef, undef, undef, undef, undef, undef, undef, undef, undef, undef, undef, undef, undef, undef, undef, undef, undef, undef, undef, undef, undef, undef, undef, undef], defers := [] } ∧ Ext W2 w' ∧ ∀ j, D j → qnm3F w x y p q X Y P Q a b W0 w1 wfqnm2 tvqnm2 W2 j (vs j)) 3 (by kernel_rfl) (by kernel_rfl) (by kernel_rfl) ?startqnm3 ?stepqnm3 ?finqnm3
    case startqnm3 => exact ⟨fun _ => undef, rfl, Ext.drew _, fun _ h => h.elim⟩
    case stepqnm3 =>
      rintro i o D ac wz hin hio hnd he ⟨vs, rfl, k0, hF⟩
      rcases i with _ | _ | _ | i
      rotate_left 3
      · exact absurd hin (by omega)
      all_goals (obtain rfl := Option.some.inj (hio.symm.trans (by rfl)))
      · refine step_yes (wanted_of_none rfl _) ?_
        exact wp_of_run (run_ld_pt (.tmp 3) rfl _ _ rfl _ _ ((k0.row VW2_0.out).cell 0) ((k0.row VW2_0.out).cell 1)) ⟨upd vs 0 _, rfl, k0, inv_same hF rfl⟩
      · refine step_yes (wanted_of_none rfl _) ?_
        refine wp_of_callE (run_enter2 23 (.const (.int .i64 0)) (.const (.int .i64 0)) _ rfl _ _ rfl rfl (fun args w => enters_of Try.func23 (by kernel_rfl) rfl args w)) (lat 0 0 wz) ?_
        rintro e w' ⟨rfl, hx⟩
        exact ⟨_, rfl, upd vs 1 _, rfl, k0.trans hx, inv_same hF rfl⟩
      · refine step_yes (wanted_of_none rfl _) ?_
        exact wp_of_run (run_eq_pt (.tmp 18) (.tmp 19) rfl _ _ _ _ (by exact (hF 0 (he ⟨0, .data⟩ (by simp) rfl))) (by exact (hF 1 (he ⟨1, .data⟩ (by simp) rfl))) _ HZ.out) ⟨upd vs 2 _, rfl, k0, inv_same hF rfl⟩
    case finqnm3 =>
      rintro D ac wfqnm3 hD ⟨vs, rfl, k0, hF⟩
      change wpList _ _ _ [] _ _
      unfold wpList
      have hl2 : vs 2 = .bool false := hF 2 (hD 2 (by decide))
      rw [hl2]
      clear hl2
      clear hF hD
      generalize vs = tvqnm3
      have E4 := Lib.hid (EW2.out.trans k0)
      have VW2_4 := Lib.hid (k0.row VW2_0.out)
      clear EW2 VW2_0
      clear k0
      go_upto_region 6 with (fail)
      have ea : a = X := HAB.out.1.symm
      have eb : b = Y := HAB.out.2.symm
      have HEA := Lib.hid ea
      have HEB := Lib.hid eb
      clear ea eb
      have hc0 := VW2_4.out.cell 0
      have hc1 := VW2_4.out.cell 1
      simp at hc0 hc1
      go_wp2_with fail
      refine (cal_of (vapply 0 0 1 false X Y _) (v' := .agg #[.int .i64 (-b), .int .i64 a]) (by have := ap_quarter a b HA.out.1 HA.out.2 HB.out.1 HB.out.2; rw [HEA.out, HEB.out] at this ⊢; rw [this.1, this.2])).mono ?_; rintro e w6 ⟨rfl, hx⟩
      have E5 := Lib.hid (E4.out.trans hx)
      have VW2_5 := Lib.hid (hx.row VW2_4.out)
      clear E4 VW2_4
      clear hx
      clear hc0 hc1
      go_upto_region 7 with (fail)
      obtain ⟨W6, hW6⟩ : ∃ W6, W6 = (w6.alloc (.cells #[.int .i64 (-b), .int .i64 a] 23)) := ⟨_, rfl⟩
      have hx : Ext w6 W6 := by rw [hW6]; exact Ext.alloc _ _
      have U_0 := Lib.hid (show RowAt W6 (w6.heap.size) 23 #[.int .i64 (-b), .int .i64 a] from by rw [hW6]; exact (RowAt.new' _ _ (by simp)))
      have SZW6 := Lib.hid (show W6.heap.size = w6.heap.size + 1 from by rw [hW6]; simp)
      have E6 := Lib.hid (E5.out.trans hx)
      have VW2_6 := Lib.hid (hx.row VW2_5.out)
      clear E5 VW2_5
      clear hx
      rw [← hW6]
      clear hW6
      rw [HP.out, HQ.out]
      have LV := Lib.hid VW2_6.out.lt
      have LU := Lib.hid U_0.out.lt
      refine wp_region_seq (fun D ac w' => ∃ vs : Nat → Value, ac = { tmps := #[Value.agg #[Value.int IntKind.i64 x, Value.int IntKind.i64 y], Value.int IntKind.i64 P, Value.int IntKind.i64 Q, Value.pointer (some { block := w.heap.size, off := 0 }), undef, undef, Value.bool false, Value.bool true, Value.pointer (some { block := w6.heap.size, off := 0 }), vs 19, Value.bool true, tvqnm2 0, tvqnm2 1, tvqnm2 2, tvqnm2 3, tvqnm2 4, tvqnm2 5, Value.agg #[Value.int IntKind.i64 X, Value.int IntKind.i64 Y], tvqnm3 0, tvqnm3 1, Value.bool false, undef, Value.int IntKind.i64 p, Value.int IntKind.i64 P, Value.int IntKind.i64 q, Value.int IntKind.i64 Q, Value.agg #[Value.int IntKind.i64 0, Value.int IntKind.i64 0, Value.int IntKind.i64 1, Value.bool false], Value.agg #[Value.int IntKind.i64 X, Value.int IntKind.i64 Y], Value.agg #[Value.int IntKind.i64 (-b), Value.int IntKind.i64 a], vs 0, vs 1, vs 2, vs 3, vs 4, vs 5, vs 6, vs 7, vs 8, vs 9, vs 10, vs 11, vs 12, vs 13, vs 14, vs 15, vs 16, vs 17, vs 18, undef, undef, undef, undef, undef, undef, undef, undef, undef, undef, undef, undef, undef, undef, undef, undef, undef, undef, undef, undef], defers := [] } ∧ Ext W6 w' ∧ ∀ j, D j → qnm7F w x y p q X Y P Q a b W0 w1 wfqnm2 tvqnm2 W2 wfqnm3 tvqnm3 w6 W6 W6.heap.size j (vs j) w') 20 (by kernel_rfl) (by kernel_rfl) ?startqnm7 ?stepqnm7 ?finqnm7
      case startqnm7 => exact ⟨fun _ => undef, rfl, Ext.refl _, fun _ h => h.elim⟩
      case stepqnm7 =>
        rintro i o D ac wz hin hio hnd he ⟨vs, rfl, k0, hF⟩
        rcases i with _ | _ | _ | _ | _ | _ | _ | _ | _ | _ | _ | _ | _ | _ | _ | _ | _ | _ | _ | _ | i
        rotate_left 20
        · exact absurd hin (by omega)
        all_goals (obtain rfl := Option.some.inj (hio.symm.trans (by rfl)))
        · refine step_yes (wanted_of_none rfl _) ?_
          exact wp_of_run (run_mov (.tmp 1) rfl _ rfl) ⟨upd vs 0 _, rfl, k0, inv_step hF (fun _ _ h => h) rfl⟩
        · refine step_yes (wanted_of_none rfl _) ?_
          exact wp_of_run (run_fld_pt0 (.tmp 3) rfl _ _ rfl) ⟨upd vs 1 _, rfl, k0, inv_step hF (fun _ _ h => h) rfl⟩
        · refine step_yes (wanted_of_none rfl _) ?_
          exact wp_of_run (run_ldi (.tmp 30) rfl _ _ (by exact (hF 1 (he ⟨1, .data⟩ (by simp) rfl))) _ ((k0.row VW2_6.out).cell 0)) ⟨upd vs 2 _, rfl, k0, inv_step hF (fun _ _ h => h) rfl⟩
        · refine step_yes (wanted_of_none rfl _) ?_
          exact wp_of_run (run_muli (.tmp 29) (.tmp 31) rfl rfl _ _ (by exact (hF 0 (he ⟨0, .data⟩ (by simp) rfl))) (by exact (hF 2 (he ⟨2, .data⟩ (by simp) rfl)))) ⟨upd vs 3 _, rfl, k0, inv_step hF (fun _ _ h => h) rfl⟩
        · refine step_yes (wanted_of_none rfl _) ?_
          exact wp_of_run (run_mov (.tmp 2) rfl _ rfl) ⟨upd vs 4 _, rfl, k0, inv_step hF (fun _ _ h => h) rfl⟩
        · refine step_yes (wanted_of_none rfl _) ?_
          exact wp_of_run (run_fld_pt0 (.tmp 8) rfl _ _ rfl) ⟨upd vs 5 _, rfl, k0, inv_step hF (fun _ _ h => h) rfl⟩
        · refine step_yes (wanted_of_none rfl _) ?_
          exact wp_of_run (run_ldi (.tmp 34) rfl _ _ (by exact (hF 5 (he ⟨5, .data⟩ (by simp) rfl))) _ ((k0.row U_0.out).cell 0)) ⟨upd vs 6 _, rfl, k0, inv_step hF (fun _ _ h => h) rfl⟩
        · refine step_yes (wanted_of_none rfl _) ?_
          exact wp_of_run (run_muli (.tmp 33) (.tmp 35) rfl rfl _ _ (by exact (hF 4 (he ⟨4, .data⟩ (by simp) rfl))) (by exact (hF 6 (he ⟨6, .data⟩ (by simp) rfl)))) ⟨upd vs 7 _, rfl, k0, inv_step hF (fun _ _ h => h) rfl⟩
        · refine step_yes (wanted_of_none rfl _) ?_
          exact wp_of_run (run_addi (.tmp 32) (.tmp 36) rfl rfl _ _ (by exact (hF 3 (he ⟨3, .data⟩ (by simp) rfl))) (by exact (hF 7 (he ⟨7, .data⟩ (by simp) rfl)))) ⟨upd vs 8 _, rfl, k0, inv_step hF (fun _ _ h => h) rfl⟩
        · refine step_yes (wanted_of_none rfl _) ?_
          exact wp_of_run (run_mov (.tmp 1) rfl _ rfl) ⟨upd vs 9 _, rfl, k0, inv_step hF (fun _ _ h => h) rfl⟩
        · refine step_yes (wanted_of_none rfl _) ?_
          exact wp_of_run (run_fld_pt1 (.tmp 3) rfl _ _ rfl) ⟨upd vs 10 _, rfl, k0, inv_step hF (fun _ _ h => h) rfl⟩
        · refine step_yes (wanted_of_none rfl _) ?_
          exact wp_of_run (run_ldi (.tmp 39) rfl _ _ (by exact (hF 10 (he ⟨10, .data⟩ (by simp) rfl))) _ ((k0.row VW2_6.out).cell 1)) ⟨upd vs 11 _, rfl, k0, inv_step hF (fun _ _ h => h) rfl⟩
        · refine step_yes (wanted_of_none rfl _) ?_
          exact wp_of_run (run_muli (.tmp 38) (.tmp 40) rfl rfl _ _ (by exact (hF 9 (he ⟨9, .data⟩ (by simp) rfl))) (by exact (hF 11 (he ⟨11, .data⟩ (by simp) rfl)))) ⟨upd vs 12 _, rfl, k0, inv_step hF (fun _ _ h => h) rfl⟩
        · refine step_yes (wanted_of_none rfl _) ?_
          exact wp_of_run (run_mov (.tmp 2) rfl _ rfl) ⟨upd vs 13 _, rfl, k0, inv_step hF (fun _ _ h => h) rfl⟩
        · refine step_yes (wanted_of_none rfl _) ?_
          exact wp_of_run (run_fld_pt1 (.tmp 8) rfl _ _ rfl) ⟨upd vs 14 _, rfl, k0, inv_step hF (fun _ _ h => h) rfl⟩
        · refine step_yes (wanted_of_none rfl _) ?_
          exact wp_of_run (run_ldi (.tmp 43) rfl _ _ (by exact (hF 14 (he ⟨14, .data⟩ (by simp) rfl))) _ ((k0.row U_0.out).cell 1)) ⟨upd vs 15 _, rfl, k0, inv_step hF (fun _ _ h => h) rfl⟩
        · refine step_yes (wanted_of_none rfl _) ?_
          exact wp_of_run (run_muli (.tmp 42) (.tmp 44) rfl rfl _ _ (by exact (hF 13 (he ⟨13, .data⟩ (by simp) rfl))) (by exact (hF 15 (he ⟨15, .data⟩ (by simp) rfl)))) ⟨upd vs 16 _, rfl, k0, inv_step hF (fun _ _ h => h) rfl⟩
        · refine step_yes (wanted_of_none rfl _) ?_
          exact wp_of_run (run_addi (.tmp 41) (.tmp 45) rfl rfl _ _ (by exact (hF 12 (he ⟨12, .data⟩ (by simp) rfl))) (by exact (hF 16 (he ⟨16, .data⟩ (by simp) rfl)))) ⟨upd vs 17 _, rfl, k0, inv_step hF (fun _ _ h => h) rfl⟩
        · refine step_yes (wanted_of_none rfl _) ?_
          refine wp_of_callE (run_enter2 23 (.tmp 37) (.tmp 46) _ rfl _ _ (by exact (hF 8 (he ⟨8, .data⟩ (by simp) rfl))) (by exact (hF 17 (he ⟨17, .data⟩ (by simp) rfl))) (fun args w => enters_of Try.func23 (by kernel_rfl) rfl args w)) (lat (wrap64 ((wrap64 (P * X)) + (wrap64 (Q * (-b))))) (wrap64 ((wrap64 (P * Y)) + (wrap64 (Q * a)))) wz) ?_
          rintro e w' ⟨rfl, hx⟩
          exact ⟨_, rfl, upd vs 18 _, rfl, k0.trans hx, inv_step hF (fun j v h => qnm7F_mono hx j v h) rfl⟩
        · refine step_yes (wanted_of_none rfl _) ?_
          exact wp_of_run (run_alloc_pt rfl) ⟨upd vs 19 _, rfl, k0.trans (Ext.alloc _ _), inv_step hF (fun j v h => qnm7F_mono (Ext.alloc _ _) j v h) (own_new _ _ k0 (Nat.le_refl _))⟩
      case finqnm7 =>
        rintro D ac wfqnm7 hD ⟨vs, rfl, k0, hF⟩
        change wpList _ _ _ [_] _ _
        have hl18 : vs 18 = .agg #[.int .i64 (wrap64 ((wrap64 (P * X)) + (wrap64 (Q * (-b))))), .int .i64 (wrap64 ((wrap64 (P * Y)) + (wrap64 (Q * a))))] := hF 18 (hD 18 (by decide))
        rw [hl18]
        clear hl18
        have E7 := Lib.hid (E6.out.trans k0)
        have VW2_7 := Lib.hid (k0.row VW2_6.out)
        have U_7 := Lib.hid (k0.row U_0.out)
        clear E6 VW2_6 U_0
        clear k0
        obtain ⟨g, hg, hle, hr⟩ := hF 19 (hD 19 (by decide))
        rw [hg]
        clear hF hD hg
        generalize vs = tvq7
        rw [show wrap64 ((wrap64 (P * X)) + (wrap64 (Q * (-b)))) = qx a b P Q from by unfold qx; rw [HEA.out, HEB.out], show wrap64 ((wrap64 (P * Y)) + (wrap64 (Q * a))) = qy a b P Q from by unfold qy; rw [HEA.out, HEB.out]]
        obtain ⟨W7, hW7⟩ : ∃ W7, W7 = wfqnm7.setRow g #[.int .i64 (qx a b P Q), .int .i64 (qy a b P Q)] := ⟨_, rfl⟩
        have D_0 := Lib.hid (show RowAt W7 g 23 #[.int .i64 (qx a b P Q), .int .i64 (qy a b P Q)] from by rw [hW7]; exact hr.setRow _)
        have VW2_7x := Lib.hid (show RowAt W7 (w.heap.size) _ _ from by rw [hW7]; exact VW2_7.out.setRowOther _ (by have := LV.out; omega))
        have U_7x := Lib.hid (show RowAt W7 (w6.heap.size) _ _ from by rw [hW7]; exact U_7.out.setRowOther _ (by have := LU.out; omega))
        have E7x := Lib.hid (show Ext w W7 from by rw [hW7]; exact ext_setRow E7.out (by have := LV.out; omega) _)
        have HR := Lib.hid hr
        have H7 := Lib.hid hW7
        clear hW7 hr hle
        go_upto_region 8 with (refine store_pt_at rfl (.tmp 9) (.tmp 47) rfl g 0 rfl _ _ rfl _ _ _ _ (#[.int .i64 (qx a b P Q), .int .i64 (qy a b P Q)]) HR.out rfl rfl rfl ?_; rw [← H7.out])
        refine wp_region_seq (fun D ac w' => ∃ vs : Nat → Value, ac = { tmps := #[Value.agg #[Value.int IntKind.i64 x, Value.int IntKind.i64 y], Value.int IntKind.i64 P, Value.int IntKind.i64 Q, Value.pointer (some { block := w.heap.size, off := 0 }), undef, undef, Value.bool false, Value.bool true, Value.pointer (some { block := w6.heap.size, off := 0 }), Value.pointer (some { block := g, off := 0 }), Value.bool true, tvqnm2 0, tvqnm2 1, tvqnm2 2, tvqnm2 3, tvqnm2 4, tvqnm2 5, Value.agg #[Value.int IntKind.i64 X, Value.int IntKind.i64 Y], tvqnm3 0, tvqnm3 1, Value.bool false, undef, Value.int IntKind.i64 p, Value.int IntKind.i64 P, Value.int IntKind.i64 q, Value.int IntKind.i64 Q, Value.agg #[Value.int IntKind.i64 0, Value.int IntKind.i64 0, Value.int IntKind.i64 1, Value.bool false], Value.agg #[Value.int IntKind.i64 X, Value.int IntKind.i64 Y], Value.agg #[Value.int IntKind.i64 (-b), Value.int IntKind.i64 a], tvq7 0, tvq7 1, tvq7 2, tvq7 3, tvq7 4, tvq7 5, tvq7 6, tvq7 7, tvq7 8, tvq7 9, tvq7 10, tvq7 11, tvq7 12, tvq7 13, tvq7 14, tvq7 15, tvq7 16, tvq7 17, Value.agg #[Value.int IntKind.i64 (qx a b P Q), Value.int IntKind.i64 (qy a b P Q)], vs 0, vs 1, vs 2, vs 3, vs 4, vs 5, vs 6, vs 7, vs 8, vs 9, vs 10, vs 11, vs 12, vs 13, vs 14, vs 15, vs 16, vs 17, vs 18, vs 19], defers := [] } ∧ Ext W7 w' ∧ ∀ j, D j → qnm8F w x y p q X Y P Q a b W0 w1 wfqnm2 tvqnm2 W2 wfqnm3 tvqnm3 w6 W6 wfqnm7 g W7 tvq7 j (vs j)) 20 (by kernel_rfl) (by kernel_rfl) ?startqnm8 ?stepqnm8 ?finqnm8
        case startqnm8 => exact ⟨fun _ => undef, rfl, Ext.refl _, fun _ h => h.elim⟩
        case stepqnm8 =>
          rintro i o D ac wz hin hio hnd he ⟨vs, rfl, k0, hF⟩
          rcases i with _ | _ | _ | _ | _ | _ | _ | _ | _ | _ | _ | _ | _ | _ | _ | _ | _ | _ | _ | _ | i
          rotate_left 20
          · exact absurd hin (by omega)
          all_goals (obtain rfl := Option.some.inj (hio.symm.trans (by rfl)))
          · refine step_yes (wanted_of_none rfl _) ?_
            exact wp_of_run (run_mov (.tmp 7) rfl _ rfl) ⟨upd vs 0 _, rfl, k0, inv_same hF rfl⟩
          · refine step_yes (wanted_of_none rfl _) ?_
            exact wp_of_run (run_mov (.tmp 48) rfl _ (by exact (hF 0 (he ⟨0, .data⟩ (by simp) rfl)))) ⟨upd vs 1 _, rfl, k0, inv_same hF rfl⟩
          · refine step_yes (wanted_g (j := 1) (d := 49) rfl rfl rfl (hF 1 (he ⟨1, .guard⟩ (by simp) rfl))) ?_
            exact wp_of_run (run_ld_pt (.tmp 3) rfl _ _ rfl _ _ ((k0.row VW2_7x.out).cell 0) ((k0.row VW2_7x.out).cell 1)) ⟨upd vs 2 _, rfl, k0, inv_same hF rfl⟩
          · refine step_yes (wanted_g (j := 1) (d := 49) rfl rfl rfl (hF 1 (he ⟨1, .guard⟩ (by simp) rfl))) ?_
            exact wp_of_run (run_ld_pt (.tmp 8) rfl _ _ rfl _ _ ((k0.row U_7x.out).cell 0) ((k0.row U_7x.out).cell 1)) ⟨upd vs 3 _, rfl, k0, inv_same hF rfl⟩
          · refine step_yes (wanted_g (j := 1) (d := 49) rfl rfl rfl (hF 1 (he ⟨1, .chain⟩ (by simp) rfl))) ?_
            refine wp_of_callE (run_enter2 17 (.tmp 50) (.tmp 51) _ rfl _ _ (by exact (hF 2 (he ⟨2, .data⟩ (by simp) rfl))) (by exact (hF 3 (he ⟨3, .data⟩ (by simp) rfl))) (fun args w => enters_of Try.func17 (by kernel_rfl) rfl args w)) (vdot X Y (-b) a wz) ?_
            rintro e w' ⟨rfl, hx⟩
            exact ⟨_, rfl, upd vs 4 _, rfl, k0.trans hx, inv_same hF rfl⟩
          · refine step_yes (wanted_g (j := 1) (d := 49) rfl rfl rfl (hF 1 (he ⟨1, .guard⟩ (by simp) rfl))) ?_
            exact wp_of_run (run_eqi (.tmp 52) (.const (.int .i64 0)) rfl _ _ (by exact (hF 4 (he ⟨4, .data⟩ (by simp) rfl))) rfl _ (decide_eq_true (by rw [HEA.out, HEB.out]; exact quarter_dot _ _))) ⟨upd vs 5 _, rfl, k0, inv_same hF rfl⟩
          · refine step_yes (wanted_of_none rfl _) ?_
            exact wp_of_run (run_pick_t (.tmp 49) (.tmp 53) (.const (.bool false)) rfl (by exact (hF 1 (he ⟨1, .data⟩ (by simp) rfl))) _ (by exact (hF 5 (he ⟨5, .data⟩ (by simp) rfl)))) ⟨upd vs 6 _, rfl, k0, inv_same hF rfl⟩
          · refine step_yes (wanted_of_none rfl _) ?_
            exact wp_of_run (run_mov (.tmp 54) rfl _ (by exact (hF 6 (he ⟨6, .data⟩ (by simp) rfl)))) ⟨upd vs 7 _, rfl, k0, inv_same hF rfl⟩
          · refine step_yes (wanted_g (j := 7) (d := 55) rfl rfl rfl (hF 7 (he ⟨7, .guard⟩ (by simp) rfl))) ?_
            exact wp_of_run (run_ld_pt (.tmp 9) rfl _ _ rfl _ _ ((k0.row D_0.out).cell 0) ((k0.row D_0.out).cell 1)) ⟨upd vs 8 _, rfl, k0, inv_same hF rfl⟩
          · refine step_yes (wanted_g (j := 7) (d := 55) rfl rfl rfl (hF 7 (he ⟨7, .guard⟩ (by simp) rfl))) ?_
            exact wp_of_run (run_ld_pt (.tmp 3) rfl _ _ rfl _ _ ((k0.row VW2_7x.out).cell 0) ((k0.row VW2_7x.out).cell 1)) ⟨upd vs 9 _, rfl, k0, inv_same hF rfl⟩
          · refine step_yes (wanted_g (j := 7) (d := 55) rfl rfl rfl (hF 7 (he ⟨7, .guard⟩ (by simp) rfl))) ?_
            exact wp_of_run (run_ld_pt (.tmp 8) rfl _ _ rfl _ _ ((k0.row U_7x.out).cell 0) ((k0.row U_7x.out).cell 1)) ⟨upd vs 10 _, rfl, k0, inv_same hF rfl⟩
          · refine step_yes (wanted_g (j := 7) (d := 55) rfl rfl rfl (hF 7 (he ⟨7, .chain⟩ (by simp) rfl))) ?_
            refine wp_of_callE (run_enter3 21 (.tmp 56) (.tmp 57) (.tmp 58) _ rfl _ _ _ (by exact (hF 8 (he ⟨8, .data⟩ (by simp) rfl))) (by exact (hF 9 (he ⟨9, .data⟩ (by simp) rfl))) (by exact (hF 10 (he ⟨10, .data⟩ (by simp) rfl))) (fun args w => enters_of Try.func21 (by kernel_rfl) rfl args w)) (vwithin (qx a b P Q) (qy a b P Q) X Y (-b) a wz) ?_
            rintro e w' ⟨rfl, hx⟩
            exact ⟨_, rfl, upd vs 11 _, rfl, k0.trans hx, inv_same hF rfl⟩
          · refine step_yes (wanted_g (j := 7) (d := 55) rfl rfl rfl (hF 7 (he ⟨7, .guard⟩ (by simp) rfl))) ?_
            exact wp_of_run (run_mov (.tmp 1) rfl _ rfl) ⟨upd vs 12 _, rfl, k0, inv_same hF rfl⟩
          · refine step_yes (wanted_g (j := 7) (d := 55) rfl rfl rfl (hF 7 (he ⟨7, .guard⟩ (by simp) rfl))) ?_
            exact wp_of_run (run_geqi (.tmp 60) (.const (.int .i64 0)) rfl _ _ (by exact (hF 12 (he ⟨12, .data⟩ (by simp) rfl))) rfl _ HPP.out) ⟨upd vs 13 _, rfl, k0, inv_same hF rfl⟩
          · refine step_yes (wanted_g (j := 7) (d := 55) rfl rfl rfl (hF 7 (he ⟨7, .guard⟩ (by simp) rfl))) ?_
            exact wp_of_run (run_mov (.tmp 61) rfl _ (by exact (hF 13 (he ⟨13, .data⟩ (by simp) rfl)))) ⟨upd vs 14 _, rfl, k0, inv_same hF rfl⟩
          · refine step_no (wanted_n (j := 14) (d := 62) rfl rfl rfl (hF 14 (he ⟨14, .guard⟩ (by simp) rfl)) (by decide)) ?_
            exact ⟨upd vs 15 undef, rfl, k0, inv_same hF rfl⟩
          · refine step_no (wanted_n (j := 14) (d := 62) rfl rfl rfl (hF 14 (he ⟨14, .guard⟩ (by simp) rfl)) (by decide)) ?_
            exact ⟨upd vs 16 undef, rfl, k0, inv_same hF rfl⟩
          · refine step_yes (wanted_g (j := 7) (d := 55) rfl rfl rfl (hF 7 (he ⟨7, .guard⟩ (by simp) rfl))) ?_
            exact wp_of_run (run_pick_f (.tmp 62) (.tmp 64) (.const (.bool false)) rfl (by exact (hF 14 (he ⟨14, .data⟩ (by simp) rfl))) _ rfl) ⟨upd vs 17 _, rfl, k0, inv_same hF rfl⟩
          · refine step_yes (wanted_g (j := 7) (d := 55) rfl rfl rfl (hF 7 (he ⟨7, .guard⟩ (by simp) rfl))) ?_
            exact wp_of_run (run_eqb (.tmp 59) (.tmp 65) rfl _ _ (by exact (hF 11 (he ⟨11, .data⟩ (by simp) rfl))) (by exact (hF 17 (he ⟨17, .data⟩ (by simp) rfl))) _ (by have e := HW.out; rw [HEA.out, HEB.out] at e ⊢; rw [e]; rfl)) ⟨upd vs 18 _, rfl, k0, inv_same hF rfl⟩
          · refine step_yes (wanted_of_none rfl _) ?_
            exact wp_of_run (run_pick_t (.tmp 55) (.tmp 66) (.const (.bool false)) rfl (by exact (hF 7 (he ⟨7, .data⟩ (by simp) rfl))) _ (by exact (hF 18 (he ⟨18, .data⟩ (by simp) rfl)))) ⟨upd vs 19 _, rfl, k0, inv_same hF rfl⟩
        case finqnm8 =>
          rintro D ac wfqnm8 hD ⟨vs, rfl, k0, hF⟩
          change wpList _ _ _ [_] _ _
          have hl19 : vs 19 = .bool true := hF 19 (hD 19 (by decide))
          rw [hl19]
          clear hl19
          clear hF hD
          generalize vs = tvqnm8
          have E8 := Lib.hid (E7x.out.trans k0)
          have VW2_8 := Lib.hid (k0.row VW2_7x.out)
          have U_8 := Lib.hid (k0.row U_7x.out)
          have D_8 := Lib.hid (k0.row D_0.out)
          clear E7x VW2_7x U_7x D_0
          clear k0
          go_wp2_with fail
          go_ret
          exact ⟨rfl, E8.out⟩

def qzpp2V (w : World) (x y p q X Y P Q a b : Int) (W0 : World) (w1 : World) : Nat → Value
  | 0 => .pointer (some ⟨w.heap.size, 0, none⟩)
  | 1 => .int .i64 x
  | 2 => .int .i64 (x.tmod 10000)
  | 3 => .pointer (some ⟨w.heap.size, 1, none⟩)
  | 4 => .int .i64 y
  | 5 => .int .i64 (y.tmod 10000)
  | 6 => .agg #[.int .i64 (x.tmod 10000), .int .i64 (y.tmod 10000)]
  | _ => undef
def qzpp2F (w : World) (x y p q X Y P Q a b : Int) (W0 : World) (w1 : World) (j : Nat) (v : Value) : Prop := v = qzpp2V w x y p q X Y P Q a b W0 w1 j
def qzpp3V (w : World) (x y p q X Y P Q a b : Int) (W0 : World) (w1 : World) (wfqzpp2 : World) (tvqzpp2 : Nat → Value) (W2 : World) : Nat → Value
  | 0 => .agg #[.int .i64 X, .int .i64 Y]
  | 1 => .agg #[.int .i64 0, .int .i64 0]
  | 2 => .bool true
  | _ => undef
def qzpp3F (w : World) (x y p q X Y P Q a b : Int) (W0 : World) (w1 : World) (wfqzpp2 : World) (tvqzpp2 : Nat → Value) (W2 : World) (j : Nat) (v : Value) : Prop := v = qzpp3V w x y p q X Y P Q a b W0 w1 wfqzpp2 tvqzpp2 W2 j
def qzpp7V (w : World) (x y p q X Y P Q a b : Int) (W0 : World) (w1 : World) (wfqzpp2 : World) (tvqzpp2 : Nat → Value) (W2 : World) (wfqzpp3 : World) (tvqzpp3 : Nat → Value) (w4 : World) (W4 : World) (w6 : World) (W6 : World) : Nat → Value
  | 0 => .int .i64 P
  | 1 => .pointer (some ⟨w.heap.size, 0, none⟩)
  | 2 => .int .i64 1
  | 3 => .int .i64 (wrap64 (P * 1))
  | 4 => .int .i64 Q
  | 5 => .pointer (some ⟨w6.heap.size, 0, none⟩)
  | 6 => .int .i64 (-b)
  | 7 => .int .i64 (wrap64 (Q * (-b)))
  | 8 => .int .i64 (wrap64 ((wrap64 (P * 1)) + (wrap64 (Q * (-b)))))
  | 9 => .int .i64 P
  | 10 => .pointer (some ⟨w.heap.size, 1, none⟩)
  | 11 => .int .i64 0
  | 12 => .int .i64 (wrap64 (P * 0))
  | 13 => .int .i64 Q
  | 14 => .pointer (some ⟨w6.heap.size, 1, none⟩)
  | 15 => .int .i64 a
  | 16 => .int .i64 (wrap64 (Q * a))
  | 17 => .int .i64 (wrap64 ((wrap64 (P * 0)) + (wrap64 (Q * a))))
  | 18 => .agg #[.int .i64 (wrap64 ((wrap64 (P * 1)) + (wrap64 (Q * (-b))))), .int .i64 (wrap64 ((wrap64 (P * 0)) + (wrap64 (Q * a))))]
  | _ => undef
def qzpp7F (w : World) (x y p q X Y P Q a b : Int) (W0 : World) (w1 : World) (wfqzpp2 : World) (tvqzpp2 : Nat → Value) (W2 : World) (wfqzpp3 : World) (tvqzpp3 : Nat → Value) (w4 : World) (W4 : World) (w6 : World) (W6 : World) (b_ : Nat) : Nat → Value → World → Prop
  | 19, v, W => Own1 b_ 23 #[.int .i64 0, .int .i64 0] v W
  | j, v, _ => v = qzpp7V w x y p q X Y P Q a b W0 w1 wfqzpp2 tvqzpp2 W2 wfqzpp3 tvqzpp3 w4 W4 w6 W6 j
theorem qzpp7F_mono {w : World} {x y p q X Y P Q a b : Int} {W0 : World} {w1 : World} {wfqzpp2 : World} {tvqzpp2 : Nat → Value} {W2 : World} {wfqzpp3 : World} {tvqzpp3 : Nat → Value} {w4 : World} {W4 : World} {w6 : World} {W6 : World} {b_ : Nat} {W W' : World} (hx : Ext W W') (j : Nat) (v : Value) (h : qzpp7F w x y p q X Y P Q a b W0 w1 wfqzpp2 tvqzpp2 W2 wfqzpp3 tvqzpp3 w4 W4 w6 W6 b_ j v W) : qzpp7F w x y p q X Y P Q a b W0 w1 wfqzpp2 tvqzpp2 W2 wfqzpp3 tvqzpp3 w4 W4 w6 W6 b_ j v W' := by
  match j, h with
  | 19, h => exact Own1.ext h hx
  | 0, h | 1, h | 2, h | 3, h | 4, h | 5, h | 6, h | 7, h | 8, h | 9, h | 10, h | 11, h | 12, h | 13, h | 14, h | 15, h | 16, h | 17, h | 18, h => exact h
  | k + 20, h => exact h
def qzpp8V (w : World) (x y p q X Y P Q a b : Int) (W0 : World) (w1 : World) (wfqzpp2 : World) (tvqzpp2 : Nat → Value) (W2 : World) (wfqzpp3 : World) (tvqzpp3 : Nat → Value) (w4 : World) (W4 : World) (w6 : World) (W6 : World) (wfqzpp7 : World) (g : Nat) (W7 : World) (tvq7 : Nat → Value) : Nat → Value
  | 0 => .bool true
  | 1 => .bool true
  | 2 => .agg #[.int .i64 1, .int .i64 0]
  | 3 => .agg #[.int .i64 (-b), .int .i64 a]
  | 4 => .int .i64 (dotZ 1 0 (-b) a)
  | 5 => .bool true
  | 6 => .bool true
  | 7 => .bool true
  | 8 => .agg #[.int .i64 (qx a b P Q), .int .i64 (qy a b P Q)]
  | 9 => .agg #[.int .i64 1, .int .i64 0]
  | 10 => .agg #[.int .i64 (-b), .int .i64 a]
  | 11 => .bool (withinB (qx a b P Q) (qy a b P Q) 1 0 (-b) a)
  | 12 => .int .i64 P
  | 13 => .bool true
  | 14 => .bool true
  | 15 => .int .i64 Q
  | 16 => .bool true
  | 17 => .bool true
  | 18 => .bool true
  | 19 => .bool true
  | _ => undef
def qzpp8F (w : World) (x y p q X Y P Q a b : Int) (W0 : World) (w1 : World) (wfqzpp2 : World) (tvqzpp2 : Nat → Value) (W2 : World) (wfqzpp3 : World) (tvqzpp3 : Nat → Value) (w4 : World) (W4 : World) (w6 : World) (W6 : World) (wfqzpp7 : World) (g : Nat) (W7 : World) (tvq7 : Nat → Value) (j : Nat) (v : Value) : Prop := v = qzpp8V w x y p q X Y P Q a b W0 w1 wfqzpp2 tvqzpp2 W2 wfqzpp3 tvqzpp3 w4 W4 w6 W6 wfqzpp7 g W7 tvq7 j
set_option maxRecDepth 100000 in
set_option maxHeartbeats 4000000 in
theorem vecQ_zpp (x y p q X Y P Q a b : Int) (w : World) (hX : x.tmod 10000 = X) (hY : y.tmod 10000 = Y) (hP : p.tmod 10000 = P) (hQ : q.tmod 10000 = Q) (hz : (decide (X = 0) && decide (Y = 0)) = true) (ha : -10000 ≤ a ∧ a ≤ 10000) (hb : -10000 ≤ b ∧ b ≤ 10000) (hab : a = 1 ∧ b = 0) (hpp : decide (P ≥ 0) = true) (hqq : decide (Q ≥ 0) = true) (hw : withinB (qx a b P Q) (qy a b P Q) a b (-b) a = true) : Calls Try.prog 7 #[.agg #[.int .i64 x, .int .i64 y], .int .i64 p, .int .i64 q] w fun e w' => e = .returned (.bool true) ∧ Ext w w' := by
  have E0 := Lib.hid (Ext.refl w)
  have HX := Lib.hid hX
  have HY := Lib.hid hY
  have HP := Lib.hid hP
  have HQ := Lib.hid hQ
  have HZ := Lib.hid hz
  have HA := Lib.hid ha
  have HB := Lib.hid hb
  have HAB := Lib.hid hab
  have HPP := Lib.hid hpp
  have HQQ := Lib.hid hqq
  have HW := Lib.hid hw
  clear hw hqq hpp hab hb ha hz hQ hP hY hX
  go_enter Try.func7, Try.ntmps7
  go_wp2_with fail
  obtain ⟨W0, hW0⟩ : ∃ W0, W0 = (w.alloc (.cells #[.int .i64 x, .int .i64 y] 23)) := ⟨_, rfl⟩
  have hx : Ext w W0 := by rw [hW0]; exact Ext.alloc _ _
  have V_0 := Lib.hid (show RowAt W0 (w.heap.size) 23 #[.int .i64 x, .int .i64 y] from by rw [hW0]; exact (RowAt.new' _ _ (by simp)))
  have SZW0 := Lib.hid (show W0.heap.size = w.heap.size + 1 from by rw [hW0]; simp)
  have E1 := Lib.hid (E0.out.trans hx)
  clear E0
  clear hx
  rw [← hW0]
  clear hW0
  refine (sanity_c _).mono ?_; rintro e w1 ⟨rfl, hx⟩
  have E2 := Lib.hid (E1.out.trans hx)
  have V_2 := Lib.hid (hx.row V_0.out)
  clear E1 V_0
  clear hx
  go_upto_region 2 with (fail)
  refine wp_region_seq (fun D ac w' => ∃ vs : Nat → Value, ac = { tmps := #[Value.agg #[Value.int IntKind.i64 x, Value.int IntKind.i64 y], Value.int IntKind.i64 p, Value.int IntKind.i64 q, Value.pointer (some { block := w.heap.size, off := 0 }), undef, undef, Value.bool false, Value.bool true, undef, undef, Value.bool true, vs 0, vs 1, vs 2, vs 3, vs 4, vs 5, vs 6, undef, undef, undef, undef, undef, undef, undef, undef, undef, undef, undef, undef, undef, undef, undef, undef, undef, undef, undef, undef, undef, undef, undef, undef, undef, undef, undef, undef, undef, undef, undef, undef, undef, undef, undef, undef, undef, undef, undef, undef, undef, undef, undef, undef, undef, undef, undef, undef, undef, undef], defers := [] } ∧ Ext w1 w' ∧ ∀ j, D j → qzpp2F w x y p q X Y P Q a b W0 w1 j (vs j)) 7 (by kernel_rfl) (by kernel_rfl) ?startqzpp2 ?stepqzpp2 ?finqzpp2
  case startqzpp2 => exact ⟨fun _ => undef, rfl, Ext.refl _, fun _ h => h.elim⟩
  case stepqzpp2 =>
    rintro i o D ac wz hin hio hnd he ⟨vs, rfl, k0, hF⟩
    rcases i with _ | _ | _ | _ | _ | _ | _ | i
    rotate_left 7
    · exact absurd hin (by omega)
    all_goals (obtain rfl := Option.some.inj (hio.symm.trans (by rfl)))
    · refine step_yes (wanted_of_none rfl _) ?_
      exact wp_of_run (run_fld_pt0 (.tmp 3) rfl _ _ rfl) ⟨upd vs 0 _, rfl, k0, inv_same hF rfl⟩
    · refine step_yes (wanted_of_none rfl _) ?_
      exact wp_of_run (run_ldi (.tmp 11) rfl _ _ (by exact (hF 0 (he ⟨0, .data⟩ (by simp) rfl))) _ ((k0.row V_2.out).cell 0)) ⟨upd vs 1 _, rfl, k0, inv_same hF rfl⟩
    · refine step_yes (wanted_of_none rfl _) ?_
      exact wp_of_run (run_remi (.tmp 12) (.const (.int .i64 10000)) rfl rfl _ 10000 (by decide) (by decide) (by exact (hF 1 (he ⟨1, .data⟩ (by simp) rfl))) rfl) ⟨upd vs 2 _, rfl, k0, inv_same hF rfl⟩
    · refine step_yes (wanted_of_none rfl _) ?_
      exact wp_of_run (run_fld_pt1 (.tmp 3) rfl _ _ rfl) ⟨upd vs 3 _, rfl, k0, inv_same hF rfl⟩
    · refine step_yes (wanted_of_none rfl _) ?_
      exact wp_of_run (run_ldi (.tmp 14) rfl _ _ (by exact (hF 3 (he ⟨3, .data⟩ (by simp) rfl))) _ ((k0.row V_2.out).cell 1)) ⟨upd vs 4 _, rfl, k0, inv_same hF rfl⟩
    · refine step_yes (wanted_of_none rfl _) ?_
      exact wp_of_run (run_remi (.tmp 15) (.const (.int .i64 10000)) rfl rfl _ 10000 (by decide) (by decide) (by exact (hF 4 (he ⟨4, .data⟩ (by simp) rfl))) rfl) ⟨upd vs 5 _, rfl, k0, inv_same hF rfl⟩
    · refine step_yes (wanted_of_none rfl _) ?_
      refine wp_of_callE (run_enter2 23 (.tmp 13) (.tmp 16) _ rfl _ _ (by exact (hF 2 (he ⟨2, .data⟩ (by simp) rfl))) (by exact (hF 5 (he ⟨5, .data⟩ (by simp) rfl))) (fun args w => enters_of Try.func23 (by kernel_rfl) rfl args w)) (lat (x.tmod 10000) (y.tmod 10000) wz) ?_
      rintro e w' ⟨rfl, hx⟩
      exact ⟨_, rfl, upd vs 6 _, rfl, k0.trans hx, inv_same hF rfl⟩
  case finqzpp2 =>
    rintro D ac wfqzpp2 hD ⟨vs, rfl, k0, hF⟩
    change wpList _ _ _ [_] _ _
    have hl6 : vs 6 = .agg #[.int .i64 (x.tmod 10000), .int .i64 (y.tmod 10000)] := hF 6 (hD 6 (by decide))
    rw [hl6]
    clear hl6
    clear hF hD
    generalize vs = tvqzpp2
    have E3 := Lib.hid (E2.out.trans k0)
    have V_3 := Lib.hid (k0.row V_2.out)
    clear E2 V_2
    clear k0
    rw [HX.out, HY.out]
    obtain ⟨W2, hW2⟩ : ∃ W2, W2 = wfqzpp2.setRow w.heap.size #[.int .i64 X, .int .i64 Y] := ⟨_, rfl⟩
    have VW2_0 := Lib.hid (show RowAt W2 w.heap.size 23 #[.int .i64 X, .int .i64 Y] from by rw [hW2]; exact V_3.out.setRow _)
    have EW2 := Lib.hid (show Ext w W2 from by rw [hW2]; exact ext_setRow E3.out (Nat.le_refl _) _)
    have HW2 := Lib.hid hW2
    clear hW2
    go_upto_region 3 with (refine store_pt_at rfl (.tmp 3) (.tmp 17) rfl w.heap.size 0 rfl _ _ rfl _ _ _ _ (#[.int .i64 X, .int .i64 Y]) V_3.out rfl rfl rfl ?_; rw [← HW2.out])
    refine wp_region_tail (fun D ac w' => ∃ vs : Nat → Value, ac = { tmps := #[Value.agg #[Value.int IntKind.i64 x, Value.int IntKind.i64 y], Value.int IntKind.i64 p, Value.int IntKind.i64 q, Value.pointer (some { block := w.heap.size, off := 0 }), undef, undef, Value.bool false, Value.bool true, undef, undef, Value.bool true, tvqzpp2 0, tvqzpp2 1, tvqzpp2 2, tvqzpp2 3, tvqzpp2 4, tvqzpp2 5, Value.agg #[Value.int IntKind.i64 X, Value.int IntKind.i64 Y], vs 0, vs 1, vs 2, undef, undef, undef, undef, undef, undef, undef, undef, undef, undef, undef, undef, undef, undef, undef, undef, undef, undef, undef, undef, undef, undef, undef, undef, undef, undef, undef, undef, undef, undef, undef, undef, undef, undef, undef, undef, undef, undef, undef, undef, undef, undef, undef, undef, undef, undef, undef], defers := [] } ∧ Ext W2 w' ∧ ∀ j, D j → qzpp3F w x y p q X Y P Q a b W0 w1 wfqzpp2 tvqzpp2 W2 j (vs j)) 3 (by kernel_rfl) (by kernel_rfl) (by kernel_rfl) ?startqzpp3 ?stepqzpp3 ?finqzpp3
    case startqzpp3 => exact ⟨fun _ => undef, rfl, Ext.drew _, fun _ h => h.elim⟩
    case stepqzpp3 =>
      rintro i o D ac wz hin hio hnd he ⟨vs, rfl, k0, hF⟩
      rcases i with _ | _ | _ | i
      rotate_left 3
      · exact absurd hin (by omega)
      all_goals (obtain rfl := Option.some.inj (hio.symm.trans (by rfl)))
      · refine step_yes (wanted_of_none rfl _) ?_
        exact wp_of_run (run_ld_pt (.tmp 3) rfl _ _ rfl _ _ ((k0.row VW2_0.out).cell 0) ((k0.row VW2_0.out).cell 1)) ⟨upd vs 0 _, rfl, k0, inv_same hF rfl⟩
      · refine step_yes (wanted_of_none rfl _) ?_
        refine wp_of_callE (run_enter2 23 (.const (.int .i64 0)) (.const (.int .i64 0)) _ rfl _ _ rfl rfl (fun args w => enters_of Try.func23 (by kernel_rfl) rfl args w)) (lat 0 0 wz) ?_
        rintro e w' ⟨rfl, hx⟩
        exact ⟨_, rfl, upd vs 1 _, rfl, k0.trans hx, inv_same hF rfl⟩
      · refine step_yes (wanted_of_none rfl _) ?_
        exact wp_of_run (run_eq_pt (.tmp 18) (.tmp 19) rfl _ _ _ _ (by exact (hF 0 (he ⟨0, .data⟩ (by simp) rfl))) (by exact (hF 1 (he ⟨1, .data⟩ (by simp) rfl))) _ HZ.out) ⟨upd vs 2 _, rfl, k0, inv_same hF rfl⟩
    case finqzpp3 =>
      rintro D ac wfqzpp3 hD ⟨vs, rfl, k0, hF⟩
      change wpList _ _ _ [] _ _
      unfold wpList
      have hl2 : vs 2 = .bool true := hF 2 (hD 2 (by decide))
      rw [hl2]
      clear hl2
      clear hF hD
      generalize vs = tvqzpp3
      have E4 := Lib.hid (EW2.out.trans k0)
      have VW2_4 := Lib.hid (k0.row VW2_0.out)
      clear EW2 VW2_0
      clear k0
      go_wp2_with fail
      refine (lat 1 0 _).mono ?_; rintro e w4 ⟨rfl, hx⟩
      have E5 := Lib.hid (E4.out.trans hx)
      have VW2_5 := Lib.hid (hx.row VW2_4.out)
      clear E4 VW2_4
      clear hx
      have ea := HAB.out.1
      have eb := HAB.out.2
      obtain ⟨W4, hW4⟩ : ∃ W4, W4 = w4.setRow w.heap.size #[.int .i64 1, .int .i64 0] := ⟨_, rfl⟩
      have VW4_0 := Lib.hid (show RowAt W4 w.heap.size 23 #[.int .i64 1, .int .i64 0] from by rw [hW4]; exact VW2_5.out.setRow _)
      have EW4 := Lib.hid (show Ext w W4 from by rw [hW4]; exact ext_setRow E5.out (Nat.le_refl _) _)
      have HW4 := Lib.hid hW4
      clear hW4
      go_upto_region 5 with (refine store_pt_at rfl (.tmp 3) (.tmp 21) rfl w.heap.size 0 rfl _ _ rfl _ _ _ _ (#[.int .i64 1, .int .i64 0]) VW2_5.out rfl rfl rfl ?_; rw [← HW4.out])
      clear ea eb
      go_upto_region 6 with (fail)
      have ea : a = 1 := HAB.out.1
      have eb : b = 0 := HAB.out.2
      have HEA := Lib.hid ea
      have HEB := Lib.hid eb
      clear ea eb
      have hc0 := VW4_0.out.cell 0
      have hc1 := VW4_0.out.cell 1
      simp at hc0 hc1
      go_wp2_with fail
      refine (cal_of (vapply 0 0 1 false 1 0 _) (v' := .agg #[.int .i64 (-b), .int .i64 a]) (by have := ap_quarter a b HA.out.1 HA.out.2 HB.out.1 HB.out.2; rw [HEA.out, HEB.out] at this ⊢; rw [this.1, this.2])).mono ?_; rintro e w6 ⟨rfl, hx⟩
      have E6 := Lib.hid (EW4.out.trans hx)
      have VW4_6 := Lib.hid (hx.row VW4_0.out)
      clear EW4 VW4_0
      clear hx
      clear hc0 hc1
      go_upto_region 7 with (fail)
      obtain ⟨W6, hW6⟩ : ∃ W6, W6 = (w6.alloc (.cells #[.int .i64 (-b), .int .i64 a] 23)) := ⟨_, rfl⟩
      have hx : Ext w6 W6 := by rw [hW6]; exact Ext.alloc _ _
      have U_0 := Lib.hid (show RowAt W6 (w6.heap.size) 23 #[.int .i64 (-b), .int .i64 a] from by rw [hW6]; exact (RowAt.new' _ _ (by simp)))
      have SZW6 := Lib.hid (show W6.heap.size = w6.heap.size + 1 from by rw [hW6]; simp)
      have E7 := Lib.hid (E6.out.trans hx)
      have VW4_7 := Lib.hid (hx.row VW4_6.out)
      clear E6 VW4_6
      clear hx
      rw [← hW6]
      clear hW6
      rw [HP.out, HQ.out]
      have LV := Lib.hid VW4_7.out.lt
      have LU := Lib.hid U_0.out.lt
      refine wp_region_seq (fun D ac w' => ∃ vs : Nat → Value, ac = { tmps := #[Value.agg #[Value.int IntKind.i64 x, Value.int IntKind.i64 y], Value.int IntKind.i64 P, Value.int IntKind.i64 Q, Value.pointer (some { block := w.heap.size, off := 0 }), undef, undef, Value.bool false, Value.bool true, Value.pointer (some { block := w6.heap.size, off := 0 }), vs 19, Value.bool true, tvqzpp2 0, tvqzpp2 1, tvqzpp2 2, tvqzpp2 3, tvqzpp2 4, tvqzpp2 5, Value.agg #[Value.int IntKind.i64 X, Value.int IntKind.i64 Y], tvqzpp3 0, tvqzpp3 1, Value.bool true, Value.agg #[Value.int IntKind.i64 1, Value.int IntKind.i64 0], Value.int IntKind.i64 p, Value.int IntKind.i64 P, Value.int IntKind.i64 q, Value.int IntKind.i64 Q, Value.agg #[Value.int IntKind.i64 0, Value.int IntKind.i64 0, Value.int IntKind.i64 1, Value.bool false], Value.agg #[Value.int IntKind.i64 1, Value.int IntKind.i64 0], Value.agg #[Value.int IntKind.i64 (-b), Value.int IntKind.i64 a], vs 0, vs 1, vs 2, vs 3, vs 4, vs 5, vs 6, vs 7, vs 8, vs 9, vs 10, vs 11, vs 12, vs 13, vs 14, vs 15, vs 16, vs 17, vs 18, undef, undef, undef, undef, undef, undef, undef, undef, undef, undef, undef, undef, undef, undef, undef, undef, undef, undef, undef, undef], defers := [] } ∧ Ext W6 w' ∧ ∀ j, D j → qzpp7F w x y p q X Y P Q a b W0 w1 wfqzpp2 tvqzpp2 W2 wfqzpp3 tvqzpp3 w4 W4 w6 W6 W6.heap.size j (vs j) w') 20 (by kernel_rfl) (by kernel_rfl) ?startqzpp7 ?stepqzpp7 ?finqzpp7
      case startqzpp7 => exact ⟨fun _ => undef, rfl, Ext.refl _, fun _ h => h.elim⟩
      case stepqzpp7 =>
        rintro i o D ac wz hin hio hnd he ⟨vs, rfl, k0, hF⟩
        rcases i with _ | _ | _ | _ | _ | _ | _ | _ | _ | _ | _ | _ | _ | _ | _ | _ | _ | _ | _ | _ | i
        rotate_left 20
        · exact absurd hin (by omega)
        all_goals (obtain rfl := Option.some.inj (hio.symm.trans (by rfl)))
        · refine step_yes (wanted_of_none rfl _) ?_
          exact wp_of_run (run_mov (.tmp 1) rfl _ rfl) ⟨upd vs 0 _, rfl, k0, inv_step hF (fun _ _ h => h) rfl⟩
        · refine step_yes (wanted_of_none rfl _) ?_
          exact wp_of_run (run_fld_pt0 (.tmp 3) rfl _ _ rfl) ⟨upd vs 1 _, rfl, k0, inv_step hF (fun _ _ h => h) rfl⟩
        · refine step_yes (wanted_of_none rfl _) ?_
          exact wp_of_run (run_ldi (.tmp 30) rfl _ _ (by exact (hF 1 (he ⟨1, .data⟩ (by simp) rfl))) _ ((k0.row VW4_7.out).cell 0)) ⟨upd vs 2 _, rfl, k0, inv_step hF (fun _ _ h => h) rfl⟩
        · refine step_yes (wanted_of_none rfl _) ?_
          exact wp_of_run (run_muli (.tmp 29) (.tmp 31) rfl rfl _ _ (by exact (hF 0 (he ⟨0, .data⟩ (by simp) rfl))) (by exact (hF 2 (he ⟨2, .data⟩ (by simp) rfl)))) ⟨upd vs 3 _, rfl, k0, inv_step hF (fun _ _ h => h) rfl⟩
        · refine step_yes (wanted_of_none rfl _) ?_
          exact wp_of_run (run_mov (.tmp 2) rfl _ rfl) ⟨upd vs 4 _, rfl, k0, inv_step hF (fun _ _ h => h) rfl⟩
        · refine step_yes (wanted_of_none rfl _) ?_
          exact wp_of_run (run_fld_pt0 (.tmp 8) rfl _ _ rfl) ⟨upd vs 5 _, rfl, k0, inv_step hF (fun _ _ h => h) rfl⟩
        · refine step_yes (wanted_of_none rfl _) ?_
          exact wp_of_run (run_ldi (.tmp 34) rfl _ _ (by exact (hF 5 (he ⟨5, .data⟩ (by simp) rfl))) _ ((k0.row U_0.out).cell 0)) ⟨upd vs 6 _, rfl, k0, inv_step hF (fun _ _ h => h) rfl⟩
        · refine step_yes (wanted_of_none rfl _) ?_
          exact wp_of_run (run_muli (.tmp 33) (.tmp 35) rfl rfl _ _ (by exact (hF 4 (he ⟨4, .data⟩ (by simp) rfl))) (by exact (hF 6 (he ⟨6, .data⟩ (by simp) rfl)))) ⟨upd vs 7 _, rfl, k0, inv_step hF (fun _ _ h => h) rfl⟩
        · refine step_yes (wanted_of_none rfl _) ?_
          exact wp_of_run (run_addi (.tmp 32) (.tmp 36) rfl rfl _ _ (by exact (hF 3 (he ⟨3, .data⟩ (by simp) rfl))) (by exact (hF 7 (he ⟨7, .data⟩ (by simp) rfl)))) ⟨upd vs 8 _, rfl, k0, inv_step hF (fun _ _ h => h) rfl⟩
        · refine step_yes (wanted_of_none rfl _) ?_
          exact wp_of_run (run_mov (.tmp 1) rfl _ rfl) ⟨upd vs 9 _, rfl, k0, inv_step hF (fun _ _ h => h) rfl⟩
        · refine step_yes (wanted_of_none rfl _) ?_
          exact wp_of_run (run_fld_pt1 (.tmp 3) rfl _ _ rfl) ⟨upd vs 10 _, rfl, k0, inv_step hF (fun _ _ h => h) rfl⟩
        · refine step_yes (wanted_of_none rfl _) ?_
          exact wp_of_run (run_ldi (.tmp 39) rfl _ _ (by exact (hF 10 (he ⟨10, .data⟩ (by simp) rfl))) _ ((k0.row VW4_7.out).cell 1)) ⟨upd vs 11 _, rfl, k0, inv_step hF (fun _ _ h => h) rfl⟩
        · refine step_yes (wanted_of_none rfl _) ?_
          exact wp_of_run (run_muli (.tmp 38) (.tmp 40) rfl rfl _ _ (by exact (hF 9 (he ⟨9, .data⟩ (by simp) rfl))) (by exact (hF 11 (he ⟨11, .data⟩ (by simp) rfl)))) ⟨upd vs 12 _, rfl, k0, inv_step hF (fun _ _ h => h) rfl⟩
        · refine step_yes (wanted_of_none rfl _) ?_
          exact wp_of_run (run_mov (.tmp 2) rfl _ rfl) ⟨upd vs 13 _, rfl, k0, inv_step hF (fun _ _ h => h) rfl⟩
        · refine step_yes (wanted_of_none rfl _) ?_
          exact wp_of_run (run_fld_pt1 (.tmp 8) rfl _ _ rfl) ⟨upd vs 14 _, rfl, k0, inv_step hF (fun _ _ h => h) rfl⟩
        · refine step_yes (wanted_of_none rfl _) ?_
          exact wp_of_run (run_ldi (.tmp 43) rfl _ _ (by exact (hF 14 (he ⟨14, .data⟩ (by simp) rfl))) _ ((k0.row U_0.out).cell 1)) ⟨upd vs 15 _, rfl, k0, inv_step hF (fun _ _ h => h) rfl⟩
        · refine step_yes (wanted_of_none rfl _) ?_
          exact wp_of_run (run_muli (.tmp 42) (.tmp 44) rfl rfl _ _ (by exact (hF 13 (he ⟨13, .data⟩ (by simp) rfl))) (by exact (hF 15 (he ⟨15, .data⟩ (by simp) rfl)))) ⟨upd vs 16 _, rfl, k0, inv_step hF (fun _ _ h => h) rfl⟩
        · refine step_yes (wanted_of_none rfl _) ?_
          exact wp_of_run (run_addi (.tmp 41) (.tmp 45) rfl rfl _ _ (by exact (hF 12 (he ⟨12, .data⟩ (by simp) rfl))) (by exact (hF 16 (he ⟨16, .data⟩ (by simp) rfl)))) ⟨upd vs 17 _, rfl, k0, inv_step hF (fun _ _ h => h) rfl⟩
        · refine step_yes (wanted_of_none rfl _) ?_
          refine wp_of_callE (run_enter2 23 (.tmp 37) (.tmp 46) _ rfl _ _ (by exact (hF 8 (he ⟨8, .data⟩ (by simp) rfl))) (by exact (hF 17 (he ⟨17, .data⟩ (by simp) rfl))) (fun args w => enters_of Try.func23 (by kernel_rfl) rfl args w)) (lat (wrap64 ((wrap64 (P * 1)) + (wrap64 (Q * (-b))))) (wrap64 ((wrap64 (P * 0)) + (wrap64 (Q * a)))) wz) ?_
          rintro e w' ⟨rfl, hx⟩
          exact ⟨_, rfl, upd vs 18 _, rfl, k0.trans hx, inv_step hF (fun j v h => qzpp7F_mono hx j v h) rfl⟩
        · refine step_yes (wanted_of_none rfl _) ?_
          exact wp_of_run (run_alloc_pt rfl) ⟨upd vs 19 _, rfl, k0.trans (Ext.alloc _ _), inv_step hF (fun j v h => qzpp7F_mono (Ext.alloc _ _) j v h) (own_new _ _ k0 (Nat.le_refl _))⟩
      case finqzpp7 =>
        rintro D ac wfqzpp7 hD ⟨vs, rfl, k0, hF⟩
        change wpList _ _ _ [_] _ _
        have hl18 : vs 18 = .agg #[.int .i64 (wrap64 ((wrap64 (P * 1)) + (wrap64 (Q * (-b))))), .int .i64 (wrap64 ((wrap64 (P * 0)) + (wrap64 (Q * a))))] := hF 18 (hD 18 (by decide))
        rw [hl18]
        clear hl18
        have E8 := Lib.hid (E7.out.trans k0)
        have VW4_8 := Lib.hid (k0.row VW4_7.out)
        have U_8 := Lib.hid (k0.row U_0.out)
        clear E7 VW4_7 U_0
        clear k0
        obtain ⟨g, hg, hle, hr⟩ := hF 19 (hD 19 (by decide))
        rw [hg]
        clear hF hD hg
        generalize vs = tvq7
        rw [show wrap64 ((wrap64 (P * 1)) + (wrap64 (Q * (-b)))) = qx a b P Q from by unfold qx; rw [HEA.out, HEB.out], show wrap64 ((wrap64 (P * 0)) + (wrap64 (Q * a))) = qy a b P Q from by unfold qy; rw [HEA.out, HEB.out]]
        obtain ⟨W7, hW7⟩ : ∃ W7, W7 = wfqzpp7.setRow g #[.int .i64 (qx a b P Q), .int .i64 (qy a b P Q)] := ⟨_, rfl⟩
        have D_0 := Lib.hid (show RowAt W7 g 23 #[.int .i64 (qx a b P Q), .int .i64 (qy a b P Q)] from by rw [hW7]; exact hr.setRow _)
        have VW4_7x := Lib.hid (show RowAt W7 (w.heap.size) _ _ from by rw [hW7]; exact VW4_8.out.setRowOther _ (by have := LV.out; omega))
        have U_7x := Lib.hid (show RowAt W7 (w6.heap.size) _ _ from by rw [hW7]; exact U_8.out.setRowOther _ (by have := LU.out; omega))
        have E7x := Lib.hid (show Ext w W7 from by rw [hW7]; exact ext_setRow E8.out (by have := LV.out; omega) _)
        have HR := Lib.hid hr
        have H7 := Lib.hid hW7
        clear hW7 hr hle
        go_upto_region 8 with (refine store_pt_at rfl (.tmp 9) (.tmp 47) rfl g 0 rfl _ _ rfl _ _ _ _ (#[.int .i64 (qx a b P Q), .int .i64 (qy a b P Q)]) HR.out rfl rfl rfl ?_; rw [← H7.out])
        refine wp_region_seq (fun D ac w' => ∃ vs : Nat → Value, ac = { tmps := #[Value.agg #[Value.int IntKind.i64 x, Value.int IntKind.i64 y], Value.int IntKind.i64 P, Value.int IntKind.i64 Q, Value.pointer (some { block := w.heap.size, off := 0 }), undef, undef, Value.bool false, Value.bool true, Value.pointer (some { block := w6.heap.size, off := 0 }), Value.pointer (some { block := g, off := 0 }), Value.bool true, tvqzpp2 0, tvqzpp2 1, tvqzpp2 2, tvqzpp2 3, tvqzpp2 4, tvqzpp2 5, Value.agg #[Value.int IntKind.i64 X, Value.int IntKind.i64 Y], tvqzpp3 0, tvqzpp3 1, Value.bool true, Value.agg #[Value.int IntKind.i64 1, Value.int IntKind.i64 0], Value.int IntKind.i64 p, Value.int IntKind.i64 P, Value.int IntKind.i64 q, Value.int IntKind.i64 Q, Value.agg #[Value.int IntKind.i64 0, Value.int IntKind.i64 0, Value.int IntKind.i64 1, Value.bool false], Value.agg #[Value.int IntKind.i64 1, Value.int IntKind.i64 0], Value.agg #[Value.int IntKind.i64 (-b), Value.int IntKind.i64 a], tvq7 0, tvq7 1, tvq7 2, tvq7 3, tvq7 4, tvq7 5, tvq7 6, tvq7 7, tvq7 8, tvq7 9, tvq7 10, tvq7 11, tvq7 12, tvq7 13, tvq7 14, tvq7 15, tvq7 16, tvq7 17, Value.agg #[Value.int IntKind.i64 (qx a b P Q), Value.int IntKind.i64 (qy a b P Q)], vs 0, vs 1, vs 2, vs 3, vs 4, vs 5, vs 6, vs 7, vs 8, vs 9, vs 10, vs 11, vs 12, vs 13, vs 14, vs 15, vs 16, vs 17, vs 18, vs 19], defers := [] } ∧ Ext W7 w' ∧ ∀ j, D j → qzpp8F w x y p q X Y P Q a b W0 w1 wfqzpp2 tvqzpp2 W2 wfqzpp3 tvqzpp3 w4 W4 w6 W6 wfqzpp7 g W7 tvq7 j (vs j)) 20 (by kernel_rfl) (by kernel_rfl) ?startqzpp8 ?stepqzpp8 ?finqzpp8
        case startqzpp8 => exact ⟨fun _ => undef, rfl, Ext.refl _, fun _ h => h.elim⟩
        case stepqzpp8 =>
          rintro i o D ac wz hin hio hnd he ⟨vs, rfl, k0, hF⟩
          rcases i with _ | _ | _ | _ | _ | _ | _ | _ | _ | _ | _ | _ | _ | _ | _ | _ | _ | _ | _ | _ | i
          rotate_left 20
          · exact absurd hin (by omega)
          all_goals (obtain rfl := Option.some.inj (hio.symm.trans (by rfl)))
          · refine step_yes (wanted_of_none rfl _) ?_
            exact wp_of_run (run_mov (.tmp 7) rfl _ rfl) ⟨upd vs 0 _, rfl, k0, inv_same hF rfl⟩
          · refine step_yes (wanted_of_none rfl _) ?_
            exact wp_of_run (run_mov (.tmp 48) rfl _ (by exact (hF 0 (he ⟨0, .data⟩ (by simp) rfl)))) ⟨upd vs 1 _, rfl, k0, inv_same hF rfl⟩
          · refine step_yes (wanted_g (j := 1) (d := 49) rfl rfl rfl (hF 1 (he ⟨1, .guard⟩ (by simp) rfl))) ?_
            exact wp_of_run (run_ld_pt (.tmp 3) rfl _ _ rfl _ _ ((k0.row VW4_7x.out).cell 0) ((k0.row VW4_7x.out).cell 1)) ⟨upd vs 2 _, rfl, k0, inv_same hF rfl⟩
          · refine step_yes (wanted_g (j := 1) (d := 49) rfl rfl rfl (hF 1 (he ⟨1, .guard⟩ (by simp) rfl))) ?_
            exact wp_of_run (run_ld_pt (.tmp 8) rfl _ _ rfl _ _ ((k0.row U_7x.out).cell 0) ((k0.row U_7x.out).cell 1)) ⟨upd vs 3 _, rfl, k0, inv_same hF rfl⟩
          · refine step_yes (wanted_g (j := 1) (d := 49) rfl rfl rfl (hF 1 (he ⟨1, .chain⟩ (by simp) rfl))) ?_
            refine wp_of_callE (run_enter2 17 (.tmp 50) (.tmp 51) _ rfl _ _ (by exact (hF 2 (he ⟨2, .data⟩ (by simp) rfl))) (by exact (hF 3 (he ⟨3, .data⟩ (by simp) rfl))) (fun args w => enters_of Try.func17 (by kernel_rfl) rfl args w)) (vdot 1 0 (-b) a wz) ?_
            rintro e w' ⟨rfl, hx⟩
            exact ⟨_, rfl, upd vs 4 _, rfl, k0.trans hx, inv_same hF rfl⟩
          · refine step_yes (wanted_g (j := 1) (d := 49) rfl rfl rfl (hF 1 (he ⟨1, .guard⟩ (by simp) rfl))) ?_
            exact wp_of_run (run_eqi (.tmp 52) (.const (.int .i64 0)) rfl _ _ (by exact (hF 4 (he ⟨4, .data⟩ (by simp) rfl))) rfl _ (decide_eq_true (by rw [HEA.out, HEB.out]; exact quarter_dot _ _))) ⟨upd vs 5 _, rfl, k0, inv_same hF rfl⟩
          · refine step_yes (wanted_of_none rfl _) ?_
            exact wp_of_run (run_pick_t (.tmp 49) (.tmp 53) (.const (.bool false)) rfl (by exact (hF 1 (he ⟨1, .data⟩ (by simp) rfl))) _ (by exact (hF 5 (he ⟨5, .data⟩ (by simp) rfl)))) ⟨upd vs 6 _, rfl, k0, inv_same hF rfl⟩
          · refine step_yes (wanted_of_none rfl _) ?_
            exact wp_of_run (run_mov (.tmp 54) rfl _ (by exact (hF 6 (he ⟨6, .data⟩ (by simp) rfl)))) ⟨upd vs 7 _, rfl, k0, inv_same hF rfl⟩
          · refine step_yes (wanted_g (j := 7) (d := 55) rfl rfl rfl (hF 7 (he ⟨7, .guard⟩ (by simp) rfl))) ?_
            exact wp_of_run (run_ld_pt (.tmp 9) rfl _ _ rfl _ _ ((k0.row D_0.out).cell 0) ((k0.row D_0.out).cell 1)) ⟨upd vs 8 _, rfl, k0, inv_same hF rfl⟩
          · refine step_yes (wanted_g (j := 7) (d := 55) rfl rfl rfl (hF 7 (he ⟨7, .guard⟩ (by simp) rfl))) ?_
            exact wp_of_run (run_ld_pt (.tmp 3) rfl _ _ rfl _ _ ((k0.row VW4_7x.out).cell 0) ((k0.row VW4_7x.out).cell 1)) ⟨upd vs 9 _, rfl, k0, inv_same hF rfl⟩
          · refine step_yes (wanted_g (j := 7) (d := 55) rfl rfl rfl (hF 7 (he ⟨7, .guard⟩ (by simp) rfl))) ?_
            exact wp_of_run (run_ld_pt (.tmp 8) rfl _ _ rfl _ _ ((k0.row U_7x.out).cell 0) ((k0.row U_7x.out).cell 1)) ⟨upd vs 10 _, rfl, k0, inv_same hF rfl⟩
          · refine step_yes (wanted_g (j := 7) (d := 55) rfl rfl rfl (hF 7 (he ⟨7, .chain⟩ (by simp) rfl))) ?_
            refine wp_of_callE (run_enter3 21 (.tmp 56) (.tmp 57) (.tmp 58) _ rfl _ _ _ (by exact (hF 8 (he ⟨8, .data⟩ (by simp) rfl))) (by exact (hF 9 (he ⟨9, .data⟩ (by simp) rfl))) (by exact (hF 10 (he ⟨10, .data⟩ (by simp) rfl))) (fun args w => enters_of Try.func21 (by kernel_rfl) rfl args w)) (vwithin (qx a b P Q) (qy a b P Q) 1 0 (-b) a wz) ?_
            rintro e w' ⟨rfl, hx⟩
            exact ⟨_, rfl, upd vs 11 _, rfl, k0.trans hx, inv_same hF rfl⟩
          · refine step_yes (wanted_g (j := 7) (d := 55) rfl rfl rfl (hF 7 (he ⟨7, .guard⟩ (by simp) rfl))) ?_
            exact wp_of_run (run_mov (.tmp 1) rfl _ rfl) ⟨upd vs 12 _, rfl, k0, inv_same hF rfl⟩
          · refine step_yes (wanted_g (j := 7) (d := 55) rfl rfl rfl (hF 7 (he ⟨7, .guard⟩ (by simp) rfl))) ?_
            exact wp_of_run (run_geqi (.tmp 60) (.const (.int .i64 0)) rfl _ _ (by exact (hF 12 (he ⟨12, .data⟩ (by simp) rfl))) rfl _ HPP.out) ⟨upd vs 13 _, rfl, k0, inv_same hF rfl⟩
          · refine step_yes (wanted_g (j := 7) (d := 55) rfl rfl rfl (hF 7 (he ⟨7, .guard⟩ (by simp) rfl))) ?_
            exact wp_of_run (run_mov (.tmp 61) rfl _ (by exact (hF 13 (he ⟨13, .data⟩ (by simp) rfl)))) ⟨upd vs 14 _, rfl, k0, inv_same hF rfl⟩
          · refine step_yes (wanted_g (j := 14) (d := 62) rfl rfl rfl (hF 14 (he ⟨14, .guard⟩ (by simp) rfl))) ?_
            exact wp_of_run (run_mov (.tmp 2) rfl _ rfl) ⟨upd vs 15 _, rfl, k0, inv_same hF rfl⟩
          · refine step_yes (wanted_g (j := 14) (d := 62) rfl rfl rfl (hF 14 (he ⟨14, .guard⟩ (by simp) rfl))) ?_
            exact wp_of_run (run_geqi (.tmp 63) (.const (.int .i64 0)) rfl _ _ (by exact (hF 15 (he ⟨15, .data⟩ (by simp) rfl))) rfl _ HQQ.out) ⟨upd vs 16 _, rfl, k0, inv_same hF rfl⟩
          · refine step_yes (wanted_g (j := 7) (d := 55) rfl rfl rfl (hF 7 (he ⟨7, .guard⟩ (by simp) rfl))) ?_
            exact wp_of_run (run_pick_t (.tmp 62) (.tmp 64) (.const (.bool false)) rfl (by exact (hF 14 (he ⟨14, .data⟩ (by simp) rfl))) _ (by exact (hF 16 (he ⟨16, .data⟩ (by simp) rfl)))) ⟨upd vs 17 _, rfl, k0, inv_same hF rfl⟩
          · refine step_yes (wanted_g (j := 7) (d := 55) rfl rfl rfl (hF 7 (he ⟨7, .guard⟩ (by simp) rfl))) ?_
            exact wp_of_run (run_eqb (.tmp 59) (.tmp 65) rfl _ _ (by exact (hF 11 (he ⟨11, .data⟩ (by simp) rfl))) (by exact (hF 17 (he ⟨17, .data⟩ (by simp) rfl))) _ (by have e := HW.out; rw [HEA.out, HEB.out] at e ⊢; rw [e]; rfl)) ⟨upd vs 18 _, rfl, k0, inv_same hF rfl⟩
          · refine step_yes (wanted_of_none rfl _) ?_
            exact wp_of_run (run_pick_t (.tmp 55) (.tmp 66) (.const (.bool false)) rfl (by exact (hF 7 (he ⟨7, .data⟩ (by simp) rfl))) _ (by exact (hF 18 (he ⟨18, .data⟩ (by simp) rfl)))) ⟨upd vs 19 _, rfl, k0, inv_same hF rfl⟩
        case finqzpp8 =>
          rintro D ac wfqzpp8 hD ⟨vs, rfl, k0, hF⟩
          change wpList _ _ _ [_] _ _
          have hl19 : vs 19 = .bool true := hF 19 (hD 19 (by decide))
          rw [hl19]
          clear hl19
          clear hF hD
          generalize vs = tvqzpp8
          have E9 := Lib.hid (E7x.out.trans k0)
          have VW4_9 := Lib.hid (k0.row VW4_7x.out)
          have U_9 := Lib.hid (k0.row U_7x.out)
          have D_9 := Lib.hid (k0.row D_0.out)
          clear E7x VW4_7x U_7x D_0
          clear k0
          go_wp2_with fail
          go_ret
          exact ⟨rfl, E9.out⟩

def qzpm2V (w : World) (x y p q X Y P Q a b : Int) (W0 : World) (w1 : World) : Nat → Value
  | 0 => .pointer (some ⟨w.heap.size, 0, none⟩)
  | 1 => .int .i64 x
  | 2 => .int .i64 (x.tmod 10000)
  | 3 => .pointer (some ⟨w.heap.size, 1, none⟩)
  | 4 => .int .i64 y
  | 5 => .int .i64 (y.tmod 10000)
  | 6 => .agg #[.int .i64 (x.tmod 10000), .int .i64 (y.tmod 10000)]
  | _ => undef
def qzpm2F (w : World) (x y p q X Y P Q a b : Int) (W0 : World) (w1 : World) (j : Nat) (v : Value) : Prop := v = qzpm2V w x y p q X Y P Q a b W0 w1 j
def qzpm3V (w : World) (x y p q X Y P Q a b : Int) (W0 : World) (w1 : World) (wfqzpm2 : World) (tvqzpm2 : Nat → Value) (W2 : World) : Nat → Value
  | 0 => .agg #[.int .i64 X, .int .i64 Y]
  | 1 => .agg #[.int .i64 0, .int .i64 0]
  | 2 => .bool true
  | _ => undef
def qzpm3F (w : World) (x y p q X Y P Q a b : Int) (W0 : World) (w1 : World) (wfqzpm2 : World) (tvqzpm2 : Nat → Value) (W2 : World) (j : Nat) (v : Value) : Prop := v = qzpm3V w x y p q X Y P Q a b W0 w1 wfqzpm2 tvqzpm2 W2 j
def qzpm7V (w : World) (x y p q X Y P Q a b : Int) (W0 : World) (w1 : World) (wfqzpm2 : World) (tvqzpm2 : Nat → Value) (W2 : World) (wfqzpm3 : World) (tvqzpm3 : Nat → Value) (w4 : World) (W4 : World) (w6 : World) (W6 : World) : Nat → Value
  | 0 => .int .i64 P
  | 1 => .pointer (some ⟨w.heap.size, 0, none⟩)
  | 2 => .int .i64 1
  | 3 => .int .i64 (wrap64 (P * 1))
  | 4 => .int .i64 Q
  | 5 => .pointer (some ⟨w6.heap.size, 0, none⟩)
  | 6 => .int .i64 (-b)
  | 7 => .int .i64 (wrap64 (Q * (-b)))
  | 8 => .int .i64 (wrap64 ((wrap64 (P * 1)) + (wrap64 (Q * (-b)))))
  | 9 => .int .i64 P
  | 10 => .pointer (some ⟨w.heap.size, 1, none⟩)
  | 11 => .int .i64 0
  | 12 => .int .i64 (wrap64 (P * 0))
  | 13 => .int .i64 Q
  | 14 => .pointer (some ⟨w6.heap.size, 1, none⟩)
  | 15 => .int .i64 a
  | 16 => .int .i64 (wrap64 (Q * a))
  | 17 => .int .i64 (wrap64 ((wrap64 (P * 0)) + (wrap64 (Q * a))))
  | 18 => .agg #[.int .i64 (wrap64 ((wrap64 (P * 1)) + (wrap64 (Q * (-b))))), .int .i64 (wrap64 ((wrap64 (P * 0)) + (wrap64 (Q * a))))]
  | _ => undef
def qzpm7F (w : World) (x y p q X Y P Q a b : Int) (W0 : World) (w1 : World) (wfqzpm2 : World) (tvqzpm2 : Nat → Value) (W2 : World) (wfqzpm3 : World) (tvqzpm3 : Nat → Value) (w4 : World) (W4 : World) (w6 : World) (W6 : World) (b_ : Nat) : Nat → Value → World → Prop
  | 19, v, W => Own1 b_ 23 #[.int .i64 0, .int .i64 0] v W
  | j, v, _ => v = qzpm7V w x y p q X Y P Q a b W0 w1 wfqzpm2 tvqzpm2 W2 wfqzpm3 tvqzpm3 w4 W4 w6 W6 j
theorem qzpm7F_mono {w : World} {x y p q X Y P Q a b : Int} {W0 : World} {w1 : World} {wfqzpm2 : World} {tvqzpm2 : Nat → Value} {W2 : World} {wfqzpm3 : World} {tvqzpm3 : Nat → Value} {w4 : World} {W4 : World} {w6 : World} {W6 : World} {b_ : Nat} {W W' : World} (hx : Ext W W') (j : Nat) (v : Value) (h : qzpm7F w x y p q X Y P Q a b W0 w1 wfqzpm2 tvqzpm2 W2 wfqzpm3 tvqzpm3 w4 W4 w6 W6 b_ j v W) : qzpm7F w x y p q X Y P Q a b W0 w1 wfqzpm2 tvqzpm2 W2 wfqzpm3 tvqzpm3 w4 W4 w6 W6 b_ j v W' := by
  match j, h with
  | 19, h => exact Own1.ext h hx
  | 0, h | 1, h | 2, h | 3, h | 4, h | 5, h | 6, h | 7, h | 8, h | 9, h | 10, h | 11, h | 12, h | 13, h | 14, h | 15, h | 16, h | 17, h | 18, h => exact h
  | k + 20, h => exact h
def qzpm8V (w : World) (x y p q X Y P Q a b : Int) (W0 : World) (w1 : World) (wfqzpm2 : World) (tvqzpm2 : Nat → Value) (W2 : World) (wfqzpm3 : World) (tvqzpm3 : Nat → Value) (w4 : World) (W4 : World) (w6 : World) (W6 : World) (wfqzpm7 : World) (g : Nat) (W7 : World) (tvq7 : Nat → Value) : Nat → Value
  | 0 => .bool true
  | 1 => .bool true
  | 2 => .agg #[.int .i64 1, .int .i64 0]
  | 3 => .agg #[.int .i64 (-b), .int .i64 a]
  | 4 => .int .i64 (dotZ 1 0 (-b) a)
  | 5 => .bool true
  | 6 => .bool true
  | 7 => .bool true
  | 8 => .agg #[.int .i64 (qx a b P Q), .int .i64 (qy a b P Q)]
  | 9 => .agg #[.int .i64 1, .int .i64 0]
  | 10 => .agg #[.int .i64 (-b), .int .i64 a]
  | 11 => .bool (withinB (qx a b P Q) (qy a b P Q) 1 0 (-b) a)
  | 12 => .int .i64 P
  | 13 => .bool true
  | 14 => .bool true
  | 15 => .int .i64 Q
  | 16 => .bool false
  | 17 => .bool false
  | 18 => .bool true
  | 19 => .bool true
  | _ => undef
def qzpm8F (w : World) (x y p q X Y P Q a b : Int) (W0 : World) (w1 : World) (wfqzpm2 : World) (tvqzpm2 : Nat → Value) (W2 : World) (wfqzpm3 : World) (tvqzpm3 : Nat → Value) (w4 : World) (W4 : World) (w6 : World) (W6 : World) (wfqzpm7 : World) (g : Nat) (W7 : World) (tvq7 : Nat → Value) (j : Nat) (v : Value) : Prop := v = qzpm8V w x y p q X Y P Q a b W0 w1 wfqzpm2 tvqzpm2 W2 wfqzpm3 tvqzpm3 w4 W4 w6 W6 wfqzpm7 g W7 tvq7 j
set_option maxRecDepth 100000 in
set_option maxHeartbeats 4000000 in
theorem vecQ_zpm (x y p q X Y P Q a b : Int) (w : World) (hX : x.tmod 10000 = X) (hY : y.tmod 10000 = Y) (hP : p.tmod 10000 = P) (hQ : q.tmod 10000 = Q) (hz : (decide (X = 0) && decide (Y = 0)) = true) (ha : -10000 ≤ a ∧ a ≤ 10000) (hb : -10000 ≤ b ∧ b ≤ 10000) (hab : a = 1 ∧ b = 0) (hpp : decide (P ≥ 0) = true) (hqq : decide (Q ≥ 0) = false) (hw : withinB (qx a b P Q) (qy a b P Q) a b (-b) a = false) : Calls Try.prog 7 #[.agg #[.int .i64 x, .int .i64 y], .int .i64 p, .int .i64 q] w fun e w' => e = .returned (.bool true) ∧ Ext w w' := by
  have E0 := Lib.hid (Ext.refl w)
  have HX := Lib.hid hX
  have HY := Lib.hid hY
  have HP := Lib.hid hP
  have HQ := Lib.hid hQ
  have HZ := Lib.hid hz
  have HA := Lib.hid ha
  have HB := Lib.hid hb
  have HAB := Lib.hid hab
  have HPP := Lib.hid hpp
  have HQQ := Lib.hid hqq
  have HW := Lib.hid hw
  clear hw hqq hpp hab hb ha hz hQ hP hY hX
  go_enter Try.func7, Try.ntmps7
  go_wp2_with fail
  obtain ⟨W0, hW0⟩ : ∃ W0, W0 = (w.alloc (.cells #[.int .i64 x, .int .i64 y] 23)) := ⟨_, rfl⟩
  have hx : Ext w W0 := by rw [hW0]; exact Ext.alloc _ _
  have V_0 := Lib.hid (show RowAt W0 (w.heap.size) 23 #[.int .i64 x, .int .i64 y] from by rw [hW0]; exact (RowAt.new' _ _ (by simp)))
  have SZW0 := Lib.hid (show W0.heap.size = w.heap.size + 1 from by rw [hW0]; simp)
  have E1 := Lib.hid (E0.out.trans hx)
  clear E0
  clear hx
  rw [← hW0]
  clear hW0
  refine (sanity_c _).mono ?_; rintro e w1 ⟨rfl, hx⟩
  have E2 := Lib.hid (E1.out.trans hx)
  have V_2 := Lib.hid (hx.row V_0.out)
  clear E1 V_0
  clear hx
  go_upto_region 2 with (fail)
  refine wp_region_seq (fun D ac w' => ∃ vs : Nat → Value, ac = { tmps := #[Value.agg #[Value.int IntKind.i64 x, Value.int IntKind.i64 y], Value.int IntKind.i64 p, Value.int IntKind.i64 q, Value.pointer (some { block := w.heap.size, off := 0 }), undef, undef, Value.bool false, Value.bool true, undef, undef, Value.bool true, vs 0, vs 1, vs 2, vs 3, vs 4, vs 5, vs 6, undef, undef, undef, undef, undef, undef, undef, undef, undef, undef, undef, undef, undef, undef, undef, undef, undef, undef, undef, undef, undef, undef, undef, undef, undef, undef, undef, undef, undef, undef, undef, undef, undef, undef, undef, undef, undef, undef, undef, undef, undef, undef, undef, undef, undef, undef, undef, undef, undef, undef], defers := [] } ∧ Ext w1 w' ∧ ∀ j, D j → qzpm2F w x y p q X Y P Q a b W0 w1 j (vs j)) 7 (by kernel_rfl) (by kernel_rfl) ?startqzpm2 ?stepqzpm2 ?finqzpm2
  case startqzpm2 => exact ⟨fun _ => undef, rfl, Ext.refl _, fun _ h => h.elim⟩
  case stepqzpm2 =>
    rintro i o D ac wz hin hio hnd he ⟨vs, rfl, k0, hF⟩
    rcases i with _ | _ | _ | _ | _ | _ | _ | i
    rotate_left 7
    · exact absurd hin (by omega)
    all_goals (obtain rfl := Option.some.inj (hio.symm.trans (by rfl)))
    · refine step_yes (wanted_of_none rfl _) ?_
      exact wp_of_run (run_fld_pt0 (.tmp 3) rfl _ _ rfl) ⟨upd vs 0 _, rfl, k0, inv_same hF rfl⟩
    · refine step_yes (wanted_of_none rfl _) ?_
      exact wp_of_run (run_ldi (.tmp 11) rfl _ _ (by exact (hF 0 (he ⟨0, .data⟩ (by simp) rfl))) _ ((k0.row V_2.out).cell 0)) ⟨upd vs 1 _, rfl, k0, inv_same hF rfl⟩
    · refine step_yes (wanted_of_none rfl _) ?_
      exact wp_of_run (run_remi (.tmp 12) (.const (.int .i64 10000)) rfl rfl _ 10000 (by decide) (by decide) (by exact (hF 1 (he ⟨1, .data⟩ (by simp) rfl))) rfl) ⟨upd vs 2 _, rfl, k0, inv_same hF rfl⟩
    · refine step_yes (wanted_of_none rfl _) ?_
      exact wp_of_run (run_fld_pt1 (.tmp 3) rfl _ _ rfl) ⟨upd vs 3 _, rfl, k0, inv_same hF rfl⟩
    · refine step_yes (wanted_of_none rfl _) ?_
      exact wp_of_run (run_ldi (.tmp 14) rfl _ _ (by exact (hF 3 (he ⟨3, .data⟩ (by simp) rfl))) _ ((k0.row V_2.out).cell 1)) ⟨upd vs 4 _, rfl, k0, inv_same hF rfl⟩
    · refine step_yes (wanted_of_none rfl _) ?_
      exact wp_of_run (run_remi (.tmp 15) (.const (.int .i64 10000)) rfl rfl _ 10000 (by decide) (by decide) (by exact (hF 4 (he ⟨4, .data⟩ (by simp) rfl))) rfl) ⟨upd vs 5 _, rfl, k0, inv_same hF rfl⟩
    · refine step_yes (wanted_of_none rfl _) ?_
      refine wp_of_callE (run_enter2 23 (.tmp 13) (.tmp 16) _ rfl _ _ (by exact (hF 2 (he ⟨2, .data⟩ (by simp) rfl))) (by exact (hF 5 (he ⟨5, .data⟩ (by simp) rfl))) (fun args w => enters_of Try.func23 (by kernel_rfl) rfl args w)) (lat (x.tmod 10000) (y.tmod 10000) wz) ?_
      rintro e w' ⟨rfl, hx⟩
      exact ⟨_, rfl, upd vs 6 _, rfl, k0.trans hx, inv_same hF rfl⟩
  case finqzpm2 =>
    rintro D ac wfqzpm2 hD ⟨vs, rfl, k0, hF⟩
    change wpList _ _ _ [_] _ _
    have hl6 : vs 6 = .agg #[.int .i64 (x.tmod 10000), .int .i64 (y.tmod 10000)] := hF 6 (hD 6 (by decide))
    rw [hl6]
    clear hl6
    clear hF hD
    generalize vs = tvqzpm2
    have E3 := Lib.hid (E2.out.trans k0)
    have V_3 := Lib.hid (k0.row V_2.out)
    clear E2 V_2
    clear k0
    rw [HX.out, HY.out]
    obtain ⟨W2, hW2⟩ : ∃ W2, W2 = wfqzpm2.setRow w.heap.size #[.int .i64 X, .int .i64 Y] := ⟨_, rfl⟩
    have VW2_0 := Lib.hid (show RowAt W2 w.heap.size 23 #[.int .i64 X, .int .i64 Y] from by rw [hW2]; exact V_3.out.setRow _)
    have EW2 := Lib.hid (show Ext w W2 from by rw [hW2]; exact ext_setRow E3.out (Nat.le_refl _) _)
    have HW2 := Lib.hid hW2
    clear hW2
    go_upto_region 3 with (refine store_pt_at rfl (.tmp 3) (.tmp 17) rfl w.heap.size 0 rfl _ _ rfl _ _ _ _ (#[.int .i64 X, .int .i64 Y]) V_3.out rfl rfl rfl ?_; rw [← HW2.out])
    refine wp_region_tail (fun D ac w' => ∃ vs : Nat → Value, ac = { tmps := #[Value.agg #[Value.int IntKind.i64 x, Value.int IntKind.i64 y], Value.int IntKind.i64 p, Value.int IntKind.i64 q, Value.pointer (some { block := w.heap.size, off := 0 }), undef, undef, Value.bool false, Value.bool true, undef, undef, Value.bool true, tvqzpm2 0, tvqzpm2 1, tvqzpm2 2, tvqzpm2 3, tvqzpm2 4, tvqzpm2 5, Value.agg #[Value.int IntKind.i64 X, Value.int IntKind.i64 Y], vs 0, vs 1, vs 2, undef, undef, undef, undef, undef, undef, undef, undef, undef, undef, undef, undef, undef, undef, undef, undef, undef, undef, undef, undef, undef, undef, undef, undef, undef, undef, undef, undef, undef, undef, undef, undef, undef, undef, undef, undef, undef, undef, undef, undef, undef, undef, undef, undef, undef, undef, undef], defers := [] } ∧ Ext W2 w' ∧ ∀ j, D j → qzpm3F w x y p q X Y P Q a b W0 w1 wfqzpm2 tvqzpm2 W2 j (vs j)) 3 (by kernel_rfl) (by kernel_rfl) (by kernel_rfl) ?startqzpm3 ?stepqzpm3 ?finqzpm3
    case startqzpm3 => exact ⟨fun _ => undef, rfl, Ext.drew _, fun _ h => h.elim⟩
    case stepqzpm3 =>
      rintro i o D ac wz hin hio hnd he ⟨vs, rfl, k0, hF⟩
      rcases i with _ | _ | _ | i
      rotate_left 3
      · exact absurd hin (by omega)
      all_goals (obtain rfl := Option.some.inj (hio.symm.trans (by rfl)))
      · refine step_yes (wanted_of_none rfl _) ?_
        exact wp_of_run (run_ld_pt (.tmp 3) rfl _ _ rfl _ _ ((k0.row VW2_0.out).cell 0) ((k0.row VW2_0.out).cell 1)) ⟨upd vs 0 _, rfl, k0, inv_same hF rfl⟩
      · refine step_yes (wanted_of_none rfl _) ?_
        refine wp_of_callE (run_enter2 23 (.const (.int .i64 0)) (.const (.int .i64 0)) _ rfl _ _ rfl rfl (fun args w => enters_of Try.func23 (by kernel_rfl) rfl args w)) (lat 0 0 wz) ?_
        rintro e w' ⟨rfl, hx⟩
        exact ⟨_, rfl, upd vs 1 _, rfl, k0.trans hx, inv_same hF rfl⟩
      · refine step_yes (wanted_of_none rfl _) ?_
        exact wp_of_run (run_eq_pt (.tmp 18) (.tmp 19) rfl _ _ _ _ (by exact (hF 0 (he ⟨0, .data⟩ (by simp) rfl))) (by exact (hF 1 (he ⟨1, .data⟩ (by simp) rfl))) _ HZ.out) ⟨upd vs 2 _, rfl, k0, inv_same hF rfl⟩
    case finqzpm3 =>
      rintro D ac wfqzpm3 hD ⟨vs, rfl, k0, hF⟩
      change wpList _ _ _ [] _ _
      unfold wpList
      have hl2 : vs 2 = .bool true := hF 2 (hD 2 (by decide))
      rw [hl2]
      clear hl2
      clear hF hD
      generalize vs = tvqzpm3
      have E4 := Lib.hid (EW2.out.trans k0)
      have VW2_4 := Lib.hid (k0.row VW2_0.out)
      clear EW2 VW2_0
      clear k0
      go_wp2_with fail
      refine (lat 1 0 _).mono ?_; rintro e w4 ⟨rfl, hx⟩
      have E5 := Lib.hid (E4.out.trans hx)
      have VW2_5 := Lib.hid (hx.row VW2_4.out)
      clear E4 VW2_4
      clear hx
      have ea := HAB.out.1
      have eb := HAB.out.2
      obtain ⟨W4, hW4⟩ : ∃ W4, W4 = w4.setRow w.heap.size #[.int .i64 1, .int .i64 0] := ⟨_, rfl⟩
      have VW4_0 := Lib.hid (show RowAt W4 w.heap.size 23 #[.int .i64 1, .int .i64 0] from by rw [hW4]; exact VW2_5.out.setRow _)
      have EW4 := Lib.hid (show Ext w W4 from by rw [hW4]; exact ext_setRow E5.out (Nat.le_refl _) _)
      have HW4 := Lib.hid hW4
      clear hW4
      go_upto_region 5 with (refine store_pt_at rfl (.tmp 3) (.tmp 21) rfl w.heap.size 0 rfl _ _ rfl _ _ _ _ (#[.int .i64 1, .int .i64 0]) VW2_5.out rfl rfl rfl ?_; rw [← HW4.out])
      clear ea eb
      go_upto_region 6 with (fail)
      have ea : a = 1 := HAB.out.1
      have eb : b = 0 := HAB.out.2
      have HEA := Lib.hid ea
      have HEB := Lib.hid eb
      clear ea eb
      have hc0 := VW4_0.out.cell 0
      have hc1 := VW4_0.out.cell 1
      simp at hc0 hc1
      go_wp2_with fail
      refine (cal_of (vapply 0 0 1 false 1 0 _) (v' := .agg #[.int .i64 (-b), .int .i64 a]) (by have := ap_quarter a b HA.out.1 HA.out.2 HB.out.1 HB.out.2; rw [HEA.out, HEB.out] at this ⊢; rw [this.1, this.2])).mono ?_; rintro e w6 ⟨rfl, hx⟩
      have E6 := Lib.hid (EW4.out.trans hx)
      have VW4_6 := Lib.hid (hx.row VW4_0.out)
      clear EW4 VW4_0
      clear hx
      clear hc0 hc1
      go_upto_region 7 with (fail)
      obtain ⟨W6, hW6⟩ : ∃ W6, W6 = (w6.alloc (.cells #[.int .i64 (-b), .int .i64 a] 23)) := ⟨_, rfl⟩
      have hx : Ext w6 W6 := by rw [hW6]; exact Ext.alloc _ _
      have U_0 := Lib.hid (show RowAt W6 (w6.heap.size) 23 #[.int .i64 (-b), .int .i64 a] from by rw [hW6]; exact (RowAt.new' _ _ (by simp)))
      have SZW6 := Lib.hid (show W6.heap.size = w6.heap.size + 1 from by rw [hW6]; simp)
      have E7 := Lib.hid (E6.out.trans hx)
      have VW4_7 := Lib.hid (hx.row VW4_6.out)
      clear E6 VW4_6
      clear hx
      rw [← hW6]
      clear hW6
      rw [HP.out, HQ.out]
      have LV := Lib.hid VW4_7.out.lt
      have LU := Lib.hid U_0.out.lt
      refine wp_region_seq (fun D ac w' => ∃ vs : Nat → Value, ac = { tmps := #[Value.agg #[Value.int IntKind.i64 x, Value.int IntKind.i64 y], Value.int IntKind.i64 P, Value.int IntKind.i64 Q, Value.pointer (some { block := w.heap.size, off := 0 }), undef, undef, Value.bool false, Value.bool true, Value.pointer (some { block := w6.heap.size, off := 0 }), vs 19, Value.bool true, tvqzpm2 0, tvqzpm2 1, tvqzpm2 2, tvqzpm2 3, tvqzpm2 4, tvqzpm2 5, Value.agg #[Value.int IntKind.i64 X, Value.int IntKind.i64 Y], tvqzpm3 0, tvqzpm3 1, Value.bool true, Value.agg #[Value.int IntKind.i64 1, Value.int IntKind.i64 0], Value.int IntKind.i64 p, Value.int IntKind.i64 P, Value.int IntKind.i64 q, Value.int IntKind.i64 Q, Value.agg #[Value.int IntKind.i64 0, Value.int IntKind.i64 0, Value.int IntKind.i64 1, Value.bool false], Value.agg #[Value.int IntKind.i64 1, Value.int IntKind.i64 0], Value.agg #[Value.int IntKind.i64 (-b), Value.int IntKind.i64 a], vs 0, vs 1, vs 2, vs 3, vs 4, vs 5, vs 6, vs 7, vs 8, vs 9, vs 10, vs 11, vs 12, vs 13, vs 14, vs 15, vs 16, vs 17, vs 18, undef, undef, undef, undef, undef, undef, undef, undef, undef, undef, undef, undef, undef, undef, undef, undef, undef, undef, undef, undef], defers := [] } ∧ Ext W6 w' ∧ ∀ j, D j → qzpm7F w x y p q X Y P Q a b W0 w1 wfqzpm2 tvqzpm2 W2 wfqzpm3 tvqzpm3 w4 W4 w6 W6 W6.heap.size j (vs j) w') 20 (by kernel_rfl) (by kernel_rfl) ?startqzpm7 ?stepqzpm7 ?finqzpm7
      case startqzpm7 => exact ⟨fun _ => undef, rfl, Ext.refl _, fun _ h => h.elim⟩
      case stepqzpm7 =>
        rintro i o D ac wz hin hio hnd he ⟨vs, rfl, k0, hF⟩
        rcases i with _ | _ | _ | _ | _ | _ | _ | _ | _ | _ | _ | _ | _ | _ | _ | _ | _ | _ | _ | _ | i
        rotate_left 20
        · exact absurd hin (by omega)
        all_goals (obtain rfl := Option.some.inj (hio.symm.trans (by rfl)))
        · refine step_yes (wanted_of_none rfl _) ?_
          exact wp_of_run (run_mov (.tmp 1) rfl _ rfl) ⟨upd vs 0 _, rfl, k0, inv_step hF (fun _ _ h => h) rfl⟩
        · refine step_yes (wanted_of_none rfl _) ?_
          exact wp_of_run (run_fld_pt0 (.tmp 3) rfl _ _ rfl) ⟨upd vs 1 _, rfl, k0, inv_step hF (fun _ _ h => h) rfl⟩
        · refine step_yes (wanted_of_none rfl _) ?_
          exact wp_of_run (run_ldi (.tmp 30) rfl _ _ (by exact (hF 1 (he ⟨1, .data⟩ (by simp) rfl))) _ ((k0.row VW4_7.out).cell 0)) ⟨upd vs 2 _, rfl, k0, inv_step hF (fun _ _ h => h) rfl⟩
        · refine step_yes (wanted_of_none rfl _) ?_
          exact wp_of_run (run_muli (.tmp 29) (.tmp 31) rfl rfl _ _ (by exact (hF 0 (he ⟨0, .data⟩ (by simp) rfl))) (by exact (hF 2 (he ⟨2, .data⟩ (by simp) rfl)))) ⟨upd vs 3 _, rfl, k0, inv_step hF (fun _ _ h => h) rfl⟩
        · refine step_yes (wanted_of_none rfl _) ?_
          exact wp_of_run (run_mov (.tmp 2) rfl _ rfl) ⟨upd vs 4 _, rfl, k0, inv_step hF (fun _ _ h => h) rfl⟩
        · refine step_yes (wanted_of_none rfl _) ?_
          exact wp_of_run (run_fld_pt0 (.tmp 8) rfl _ _ rfl) ⟨upd vs 5 _, rfl, k0, inv_step hF (fun _ _ h => h) rfl⟩
        · refine step_yes (wanted_of_none rfl _) ?_
          exact wp_of_run (run_ldi (.tmp 34) rfl _ _ (by exact (hF 5 (he ⟨5, .data⟩ (by simp) rfl))) _ ((k0.row U_0.out).cell 0)) ⟨upd vs 6 _, rfl, k0, inv_step hF (fun _ _ h => h) rfl⟩
        · refine step_yes (wanted_of_none rfl _) ?_
          exact wp_of_run (run_muli (.tmp 33) (.tmp 35) rfl rfl _ _ (by exact (hF 4 (he ⟨4, .data⟩ (by simp) rfl))) (by exact (hF 6 (he ⟨6, .data⟩ (by simp) rfl)))) ⟨upd vs 7 _, rfl, k0, inv_step hF (fun _ _ h => h) rfl⟩
        · refine step_yes (wanted_of_none rfl _) ?_
          exact wp_of_run (run_addi (.tmp 32) (.tmp 36) rfl rfl _ _ (by exact (hF 3 (he ⟨3, .data⟩ (by simp) rfl))) (by exact (hF 7 (he ⟨7, .data⟩ (by simp) rfl)))) ⟨upd vs 8 _, rfl, k0, inv_step hF (fun _ _ h => h) rfl⟩
        · refine step_yes (wanted_of_none rfl _) ?_
          exact wp_of_run (run_mov (.tmp 1) rfl _ rfl) ⟨upd vs 9 _, rfl, k0, inv_step hF (fun _ _ h => h) rfl⟩
        · refine step_yes (wanted_of_none rfl _) ?_
          exact wp_of_run (run_fld_pt1 (.tmp 3) rfl _ _ rfl) ⟨upd vs 10 _, rfl, k0, inv_step hF (fun _ _ h => h) rfl⟩
        · refine step_yes (wanted_of_none rfl _) ?_
          exact wp_of_run (run_ldi (.tmp 39) rfl _ _ (by exact (hF 10 (he ⟨10, .data⟩ (by simp) rfl))) _ ((k0.row VW4_7.out).cell 1)) ⟨upd vs 11 _, rfl, k0, inv_step hF (fun _ _ h => h) rfl⟩
        · refine step_yes (wanted_of_none rfl _) ?_
          exact wp_of_run (run_muli (.tmp 38) (.tmp 40) rfl rfl _ _ (by exact (hF 9 (he ⟨9, .data⟩ (by simp) rfl))) (by exact (hF 11 (he ⟨11, .data⟩ (by simp) rfl)))) ⟨upd vs 12 _, rfl, k0, inv_step hF (fun _ _ h => h) rfl⟩
        · refine step_yes (wanted_of_none rfl _) ?_
          exact wp_of_run (run_mov (.tmp 2) rfl _ rfl) ⟨upd vs 13 _, rfl, k0, inv_step hF (fun _ _ h => h) rfl⟩
        · refine step_yes (wanted_of_none rfl _) ?_
          exact wp_of_run (run_fld_pt1 (.tmp 8) rfl _ _ rfl) ⟨upd vs 14 _, rfl, k0, inv_step hF (fun _ _ h => h) rfl⟩
        · refine step_yes (wanted_of_none rfl _) ?_
          exact wp_of_run (run_ldi (.tmp 43) rfl _ _ (by exact (hF 14 (he ⟨14, .data⟩ (by simp) rfl))) _ ((k0.row U_0.out).cell 1)) ⟨upd vs 15 _, rfl, k0, inv_step hF (fun _ _ h => h) rfl⟩
        · refine step_yes (wanted_of_none rfl _) ?_
          exact wp_of_run (run_muli (.tmp 42) (.tmp 44) rfl rfl _ _ (by exact (hF 13 (he ⟨13, .data⟩ (by simp) rfl))) (by exact (hF 15 (he ⟨15, .data⟩ (by simp) rfl)))) ⟨upd vs 16 _, rfl, k0, inv_step hF (fun _ _ h => h) rfl⟩
        · refine step_yes (wanted_of_none rfl _) ?_
          exact wp_of_run (run_addi (.tmp 41) (.tmp 45) rfl rfl _ _ (by exact (hF 12 (he ⟨12, .data⟩ (by simp) rfl))) (by exact (hF 16 (he ⟨16, .data⟩ (by simp) rfl)))) ⟨upd vs 17 _, rfl, k0, inv_step hF (fun _ _ h => h) rfl⟩
        · refine step_yes (wanted_of_none rfl _) ?_
          refine wp_of_callE (run_enter2 23 (.tmp 37) (.tmp 46) _ rfl _ _ (by exact (hF 8 (he ⟨8, .data⟩ (by simp) rfl))) (by exact (hF 17 (he ⟨17, .data⟩ (by simp) rfl))) (fun args w => enters_of Try.func23 (by kernel_rfl) rfl args w)) (lat (wrap64 ((wrap64 (P * 1)) + (wrap64 (Q * (-b))))) (wrap64 ((wrap64 (P * 0)) + (wrap64 (Q * a)))) wz) ?_
          rintro e w' ⟨rfl, hx⟩
          exact ⟨_, rfl, upd vs 18 _, rfl, k0.trans hx, inv_step hF (fun j v h => qzpm7F_mono hx j v h) rfl⟩
        · refine step_yes (wanted_of_none rfl _) ?_
          exact wp_of_run (run_alloc_pt rfl) ⟨upd vs 19 _, rfl, k0.trans (Ext.alloc _ _), inv_step hF (fun j v h => qzpm7F_mono (Ext.alloc _ _) j v h) (own_new _ _ k0 (Nat.le_refl _))⟩
      case finqzpm7 =>
        rintro D ac wfqzpm7 hD ⟨vs, rfl, k0, hF⟩
        change wpList _ _ _ [_] _ _
        have hl18 : vs 18 = .agg #[.int .i64 (wrap64 ((wrap64 (P * 1)) + (wrap64 (Q * (-b))))), .int .i64 (wrap64 ((wrap64 (P * 0)) + (wrap64 (Q * a))))] := hF 18 (hD 18 (by decide))
        rw [hl18]
        clear hl18
        have E8 := Lib.hid (E7.out.trans k0)
        have VW4_8 := Lib.hid (k0.row VW4_7.out)
        have U_8 := Lib.hid (k0.row U_0.out)
        clear E7 VW4_7 U_0
        clear k0
        obtain ⟨g, hg, hle, hr⟩ := hF 19 (hD 19 (by decide))
        rw [hg]
        clear hF hD hg
        generalize vs = tvq7
        rw [show wrap64 ((wrap64 (P * 1)) + (wrap64 (Q * (-b)))) = qx a b P Q from by unfold qx; rw [HEA.out, HEB.out], show wrap64 ((wrap64 (P * 0)) + (wrap64 (Q * a))) = qy a b P Q from by unfold qy; rw [HEA.out, HEB.out]]
        obtain ⟨W7, hW7⟩ : ∃ W7, W7 = wfqzpm7.setRow g #[.int .i64 (qx a b P Q), .int .i64 (qy a b P Q)] := ⟨_, rfl⟩
        have D_0 := Lib.hid (show RowAt W7 g 23 #[.int .i64 (qx a b P Q), .int .i64 (qy a b P Q)] from by rw [hW7]; exact hr.setRow _)
        have VW4_7x := Lib.hid (show RowAt W7 (w.heap.size) _ _ from by rw [hW7]; exact VW4_8.out.setRowOther _ (by have := LV.out; omega))
        have U_7x := Lib.hid (show RowAt W7 (w6.heap.size) _ _ from by rw [hW7]; exact U_8.out.setRowOther _ (by have := LU.out; omega))
        have E7x := Lib.hid (show Ext w W7 from by rw [hW7]; exact ext_setRow E8.out (by have := LV.out; omega) _)
        have HR := Lib.hid hr
        have H7 := Lib.hid hW7
        clear hW7 hr hle
        go_upto_region 8 with (refine store_pt_at rfl (.tmp 9) (.tmp 47) rfl g 0 rfl _ _ rfl _ _ _ _ (#[.int .i64 (qx a b P Q), .int .i64 (qy a b P Q)]) HR.out rfl rfl rfl ?_; rw [← H7.out])
        refine wp_region_seq (fun D ac w' => ∃ vs : Nat → Value, ac = { tmps := #[Value.agg #[Value.int IntKind.i64 x, Value.int IntKind.i64 y], Value.int IntKind.i64 P, Value.int IntKind.i64 Q, Value.pointer (some { block := w.heap.size, off := 0 }), undef, undef, Value.bool false, Value.bool true, Value.pointer (some { block := w6.heap.size, off := 0 }), Value.pointer (some { block := g, off := 0 }), Value.bool true, tvqzpm2 0, tvqzpm2 1, tvqzpm2 2, tvqzpm2 3, tvqzpm2 4, tvqzpm2 5, Value.agg #[Value.int IntKind.i64 X, Value.int IntKind.i64 Y], tvqzpm3 0, tvqzpm3 1, Value.bool true, Value.agg #[Value.int IntKind.i64 1, Value.int IntKind.i64 0], Value.int IntKind.i64 p, Value.int IntKind.i64 P, Value.int IntKind.i64 q, Value.int IntKind.i64 Q, Value.agg #[Value.int IntKind.i64 0, Value.int IntKind.i64 0, Value.int IntKind.i64 1, Value.bool false], Value.agg #[Value.int IntKind.i64 1, Value.int IntKind.i64 0], Value.agg #[Value.int IntKind.i64 (-b), Value.int IntKind.i64 a], tvq7 0, tvq7 1, tvq7 2, tvq7 3, tvq7 4, tvq7 5, tvq7 6, tvq7 7, tvq7 8, tvq7 9, tvq7 10, tvq7 11, tvq7 12, tvq7 13, tvq7 14, tvq7 15, tvq7 16, tvq7 17, Value.agg #[Value.int IntKind.i64 (qx a b P Q), Value.int IntKind.i64 (qy a b P Q)], vs 0, vs 1, vs 2, vs 3, vs 4, vs 5, vs 6, vs 7, vs 8, vs 9, vs 10, vs 11, vs 12, vs 13, vs 14, vs 15, vs 16, vs 17, vs 18, vs 19], defers := [] } ∧ Ext W7 w' ∧ ∀ j, D j → qzpm8F w x y p q X Y P Q a b W0 w1 wfqzpm2 tvqzpm2 W2 wfqzpm3 tvqzpm3 w4 W4 w6 W6 wfqzpm7 g W7 tvq7 j (vs j)) 20 (by kernel_rfl) (by kernel_rfl) ?startqzpm8 ?stepqzpm8 ?finqzpm8
        case startqzpm8 => exact ⟨fun _ => undef, rfl, Ext.refl _, fun _ h => h.elim⟩
        case stepqzpm8 =>
          rintro i o D ac wz hin hio hnd he ⟨vs, rfl, k0, hF⟩
          rcases i with _ | _ | _ | _ | _ | _ | _ | _ | _ | _ | _ | _ | _ | _ | _ | _ | _ | _ | _ | _ | i
          rotate_left 20
          · exact absurd hin (by omega)
          all_goals (obtain rfl := Option.some.inj (hio.symm.trans (by rfl)))
          · refine step_yes (wanted_of_none rfl _) ?_
            exact wp_of_run (run_mov (.tmp 7) rfl _ rfl) ⟨upd vs 0 _, rfl, k0, inv_same hF rfl⟩
          · refine step_yes (wanted_of_none rfl _) ?_
            exact wp_of_run (run_mov (.tmp 48) rfl _ (by exact (hF 0 (he ⟨0, .data⟩ (by simp) rfl)))) ⟨upd vs 1 _, rfl, k0, inv_same hF rfl⟩
          · refine step_yes (wanted_g (j := 1) (d := 49) rfl rfl rfl (hF 1 (he ⟨1, .guard⟩ (by simp) rfl))) ?_
            exact wp_of_run (run_ld_pt (.tmp 3) rfl _ _ rfl _ _ ((k0.row VW4_7x.out).cell 0) ((k0.row VW4_7x.out).cell 1)) ⟨upd vs 2 _, rfl, k0, inv_same hF rfl⟩
          · refine step_yes (wanted_g (j := 1) (d := 49) rfl rfl rfl (hF 1 (he ⟨1, .guard⟩ (by simp) rfl))) ?_
            exact wp_of_run (run_ld_pt (.tmp 8) rfl _ _ rfl _ _ ((k0.row U_7x.out).cell 0) ((k0.row U_7x.out).cell 1)) ⟨upd vs 3 _, rfl, k0, inv_same hF rfl⟩
          · refine step_yes (wanted_g (j := 1) (d := 49) rfl rfl rfl (hF 1 (he ⟨1, .chain⟩ (by simp) rfl))) ?_
            refine wp_of_callE (run_enter2 17 (.tmp 50) (.tmp 51) _ rfl _ _ (by exact (hF 2 (he ⟨2, .data⟩ (by simp) rfl))) (by exact (hF 3 (he ⟨3, .data⟩ (by simp) rfl))) (fun args w => enters_of Try.func17 (by kernel_rfl) rfl args w)) (vdot 1 0 (-b) a wz) ?_
            rintro e w' ⟨rfl, hx⟩
            exact ⟨_, rfl, upd vs 4 _, rfl, k0.trans hx, inv_same hF rfl⟩
          · refine step_yes (wanted_g (j := 1) (d := 49) rfl rfl rfl (hF 1 (he ⟨1, .guard⟩ (by simp) rfl))) ?_
            exact wp_of_run (run_eqi (.tmp 52) (.const (.int .i64 0)) rfl _ _ (by exact (hF 4 (he ⟨4, .data⟩ (by simp) rfl))) rfl _ (decide_eq_true (by rw [HEA.out, HEB.out]; exact quarter_dot _ _))) ⟨upd vs 5 _, rfl, k0, inv_same hF rfl⟩
          · refine step_yes (wanted_of_none rfl _) ?_
            exact wp_of_run (run_pick_t (.tmp 49) (.tmp 53) (.const (.bool false)) rfl (by exact (hF 1 (he ⟨1, .data⟩ (by simp) rfl))) _ (by exact (hF 5 (he ⟨5, .data⟩ (by simp) rfl)))) ⟨upd vs 6 _, rfl, k0, inv_same hF rfl⟩
          · refine step_yes (wanted_of_none rfl _) ?_
            exact wp_of_run (run_mov (.tmp 54) rfl _ (by exact (hF 6 (he ⟨6, .data⟩ (by simp) rfl)))) ⟨upd vs 7 _, rfl, k0, inv_same hF rfl⟩
          · refine step_yes (wanted_g (j := 7) (d := 55) rfl rfl rfl (hF 7 (he ⟨7, .guard⟩ (by simp) rfl))) ?_
            exact wp_of_run (run_ld_pt (.tmp 9) rfl _ _ rfl _ _ ((k0.row D_0.out).cell 0) ((k0.row D_0.out).cell 1)) ⟨upd vs 8 _, rfl, k0, inv_same hF rfl⟩
          · refine step_yes (wanted_g (j := 7) (d := 55) rfl rfl rfl (hF 7 (he ⟨7, .guard⟩ (by simp) rfl))) ?_
            exact wp_of_run (run_ld_pt (.tmp 3) rfl _ _ rfl _ _ ((k0.row VW4_7x.out).cell 0) ((k0.row VW4_7x.out).cell 1)) ⟨upd vs 9 _, rfl, k0, inv_same hF rfl⟩
          · refine step_yes (wanted_g (j := 7) (d := 55) rfl rfl rfl (hF 7 (he ⟨7, .guard⟩ (by simp) rfl))) ?_
            exact wp_of_run (run_ld_pt (.tmp 8) rfl _ _ rfl _ _ ((k0.row U_7x.out).cell 0) ((k0.row U_7x.out).cell 1)) ⟨upd vs 10 _, rfl, k0, inv_same hF rfl⟩
          · refine step_yes (wanted_g (j := 7) (d := 55) rfl rfl rfl (hF 7 (he ⟨7, .chain⟩ (by simp) rfl))) ?_
            refine wp_of_callE (run_enter3 21 (.tmp 56) (.tmp 57) (.tmp 58) _ rfl _ _ _ (by exact (hF 8 (he ⟨8, .data⟩ (by simp) rfl))) (by exact (hF 9 (he ⟨9, .data⟩ (by simp) rfl))) (by exact (hF 10 (he ⟨10, .data⟩ (by simp) rfl))) (fun args w => enters_of Try.func21 (by kernel_rfl) rfl args w)) (vwithin (qx a b P Q) (qy a b P Q) 1 0 (-b) a wz) ?_
            rintro e w' ⟨rfl, hx⟩
            exact ⟨_, rfl, upd vs 11 _, rfl, k0.trans hx, inv_same hF rfl⟩
          · refine step_yes (wanted_g (j := 7) (d := 55) rfl rfl rfl (hF 7 (he ⟨7, .guard⟩ (by simp) rfl))) ?_
            exact wp_of_run (run_mov (.tmp 1) rfl _ rfl) ⟨upd vs 12 _, rfl, k0, inv_same hF rfl⟩
          · refine step_yes (wanted_g (j := 7) (d := 55) rfl rfl rfl (hF 7 (he ⟨7, .guard⟩ (by simp) rfl))) ?_
            exact wp_of_run (run_geqi (.tmp 60) (.const (.int .i64 0)) rfl _ _ (by exact (hF 12 (he ⟨12, .data⟩ (by simp) rfl))) rfl _ HPP.out) ⟨upd vs 13 _, rfl, k0, inv_same hF rfl⟩
          · refine step_yes (wanted_g (j := 7) (d := 55) rfl rfl rfl (hF 7 (he ⟨7, .guard⟩ (by simp) rfl))) ?_
            exact wp_of_run (run_mov (.tmp 61) rfl _ (by exact (hF 13 (he ⟨13, .data⟩ (by simp) rfl)))) ⟨upd vs 14 _, rfl, k0, inv_same hF rfl⟩
          · refine step_yes (wanted_g (j := 14) (d := 62) rfl rfl rfl (hF 14 (he ⟨14, .guard⟩ (by simp) rfl))) ?_
            exact wp_of_run (run_mov (.tmp 2) rfl _ rfl) ⟨upd vs 15 _, rfl, k0, inv_same hF rfl⟩
          · refine step_yes (wanted_g (j := 14) (d := 62) rfl rfl rfl (hF 14 (he ⟨14, .guard⟩ (by simp) rfl))) ?_
            exact wp_of_run (run_geqi (.tmp 63) (.const (.int .i64 0)) rfl _ _ (by exact (hF 15 (he ⟨15, .data⟩ (by simp) rfl))) rfl _ HQQ.out) ⟨upd vs 16 _, rfl, k0, inv_same hF rfl⟩
          · refine step_yes (wanted_g (j := 7) (d := 55) rfl rfl rfl (hF 7 (he ⟨7, .guard⟩ (by simp) rfl))) ?_
            exact wp_of_run (run_pick_t (.tmp 62) (.tmp 64) (.const (.bool false)) rfl (by exact (hF 14 (he ⟨14, .data⟩ (by simp) rfl))) _ (by exact (hF 16 (he ⟨16, .data⟩ (by simp) rfl)))) ⟨upd vs 17 _, rfl, k0, inv_same hF rfl⟩
          · refine step_yes (wanted_g (j := 7) (d := 55) rfl rfl rfl (hF 7 (he ⟨7, .guard⟩ (by simp) rfl))) ?_
            exact wp_of_run (run_eqb (.tmp 59) (.tmp 65) rfl _ _ (by exact (hF 11 (he ⟨11, .data⟩ (by simp) rfl))) (by exact (hF 17 (he ⟨17, .data⟩ (by simp) rfl))) _ (by have e := HW.out; rw [HEA.out, HEB.out] at e ⊢; rw [e]; rfl)) ⟨upd vs 18 _, rfl, k0, inv_same hF rfl⟩
          · refine step_yes (wanted_of_none rfl _) ?_
            exact wp_of_run (run_pick_t (.tmp 55) (.tmp 66) (.const (.bool false)) rfl (by exact (hF 7 (he ⟨7, .data⟩ (by simp) rfl))) _ (by exact (hF 18 (he ⟨18, .data⟩ (by simp) rfl)))) ⟨upd vs 19 _, rfl, k0, inv_same hF rfl⟩
        case finqzpm8 =>
          rintro D ac wfqzpm8 hD ⟨vs, rfl, k0, hF⟩
          change wpList _ _ _ [_] _ _
          have hl19 : vs 19 = .bool true := hF 19 (hD 19 (by decide))
          rw [hl19]
          clear hl19
          clear hF hD
          generalize vs = tvqzpm8
          have E9 := Lib.hid (E7x.out.trans k0)
          have VW4_9 := Lib.hid (k0.row VW4_7x.out)
          have U_9 := Lib.hid (k0.row U_7x.out)
          have D_9 := Lib.hid (k0.row D_0.out)
          clear E7x VW4_7x U_7x D_0
          clear k0
          go_wp2_with fail
          go_ret
          exact ⟨rfl, E9.out⟩

def qzm2V (w : World) (x y p q X Y P Q a b : Int) (W0 : World) (w1 : World) : Nat → Value
  | 0 => .pointer (some ⟨w.heap.size, 0, none⟩)
  | 1 => .int .i64 x
  | 2 => .int .i64 (x.tmod 10000)
  | 3 => .pointer (some ⟨w.heap.size, 1, none⟩)
  | 4 => .int .i64 y
  | 5 => .int .i64 (y.tmod 10000)
  | 6 => .agg #[.int .i64 (x.tmod 10000), .int .i64 (y.tmod 10000)]
  | _ => undef
def qzm2F (w : World) (x y p q X Y P Q a b : Int) (W0 : World) (w1 : World) (j : Nat) (v : Value) : Prop := v = qzm2V w x y p q X Y P Q a b W0 w1 j
def qzm3V (w : World) (x y p q X Y P Q a b : Int) (W0 : World) (w1 : World) (wfqzm2 : World) (tvqzm2 : Nat → Value) (W2 : World) : Nat → Value
  | 0 => .agg #[.int .i64 X, .int .i64 Y]
  | 1 => .agg #[.int .i64 0, .int .i64 0]
  | 2 => .bool true
  | _ => undef
def qzm3F (w : World) (x y p q X Y P Q a b : Int) (W0 : World) (w1 : World) (wfqzm2 : World) (tvqzm2 : Nat → Value) (W2 : World) (j : Nat) (v : Value) : Prop := v = qzm3V w x y p q X Y P Q a b W0 w1 wfqzm2 tvqzm2 W2 j
def qzm7V (w : World) (x y p q X Y P Q a b : Int) (W0 : World) (w1 : World) (wfqzm2 : World) (tvqzm2 : Nat → Value) (W2 : World) (wfqzm3 : World) (tvqzm3 : Nat → Value) (w4 : World) (W4 : World) (w6 : World) (W6 : World) : Nat → Value
  | 0 => .int .i64 P
  | 1 => .pointer (some ⟨w.heap.size, 0, none⟩)
  | 2 => .int .i64 1
  | 3 => .int .i64 (wrap64 (P * 1))
  | 4 => .int .i64 Q
  | 5 => .pointer (some ⟨w6.heap.size, 0, none⟩)
  | 6 => .int .i64 (-b)
  | 7 => .int .i64 (wrap64 (Q * (-b)))
  | 8 => .int .i64 (wrap64 ((wrap64 (P * 1)) + (wrap64 (Q * (-b)))))
  | 9 => .int .i64 P
  | 10 => .pointer (some ⟨w.heap.size, 1, none⟩)
  | 11 => .int .i64 0
  | 12 => .int .i64 (wrap64 (P * 0))
  | 13 => .int .i64 Q
  | 14 => .pointer (some ⟨w6.heap.size, 1, none⟩)
  | 15 => .int .i64 a
  | 16 => .int .i64 (wrap64 (Q * a))
  | 17 => .int .i64 (wrap64 ((wrap64 (P * 0)) + (wrap64 (Q * a))))
  | 18 => .agg #[.int .i64 (wrap64 ((wrap64 (P * 1)) + (wrap64 (Q * (-b))))), .int .i64 (wrap64 ((wrap64 (P * 0)) + (wrap64 (Q * a))))]
  | _ => undef
def qzm7F (w : World) (x y p q X Y P Q a b : Int) (W0 : World) (w1 : World) (wfqzm2 : World) (tvqzm2 : Nat → Value) (W2 : World) (wfqzm3 : World) (tvqzm3 : Nat → Value) (w4 : World) (W4 : World) (w6 : World) (W6 : World) (b_ : Nat) : Nat → Value → World → Prop
  | 19, v, W => Own1 b_ 23 #[.int .i64 0, .int .i64 0] v W
  | j, v, _ => v = qzm7V w x y p q X Y P Q a b W0 w1 wfqzm2 tvqzm2 W2 wfqzm3 tvqzm3 w4 W4 w6 W6 j
theorem qzm7F_mono {w : World} {x y p q X Y P Q a b : Int} {W0 : World} {w1 : World} {wfqzm2 : World} {tvqzm2 : Nat → Value} {W2 : World} {wfqzm3 : World} {tvqzm3 : Nat → Value} {w4 : World} {W4 : World} {w6 : World} {W6 : World} {b_ : Nat} {W W' : World} (hx : Ext W W') (j : Nat) (v : Value) (h : qzm7F w x y p q X Y P Q a b W0 w1 wfqzm2 tvqzm2 W2 wfqzm3 tvqzm3 w4 W4 w6 W6 b_ j v W) : qzm7F w x y p q X Y P Q a b W0 w1 wfqzm2 tvqzm2 W2 wfqzm3 tvqzm3 w4 W4 w6 W6 b_ j v W' := by
  match j, h with
  | 19, h => exact Own1.ext h hx
  | 0, h | 1, h | 2, h | 3, h | 4, h | 5, h | 6, h | 7, h | 8, h | 9, h | 10, h | 11, h | 12, h | 13, h | 14, h | 15, h | 16, h | 17, h | 18, h => exact h
  | k + 20, h => exact h
def qzm8V (w : World) (x y p q X Y P Q a b : Int) (W0 : World) (w1 : World) (wfqzm2 : World) (tvqzm2 : Nat → Value) (W2 : World) (wfqzm3 : World) (tvqzm3 : Nat → Value) (w4 : World) (W4 : World) (w6 : World) (W6 : World) (wfqzm7 : World) (g : Nat) (W7 : World) (tvq7 : Nat → Value) : Nat → Value
  | 0 => .bool true
  | 1 => .bool true
  | 2 => .agg #[.int .i64 1, .int .i64 0]
  | 3 => .agg #[.int .i64 (-b), .int .i64 a]
  | 4 => .int .i64 (dotZ 1 0 (-b) a)
  | 5 => .bool true
  | 6 => .bool true
  | 7 => .bool true
  | 8 => .agg #[.int .i64 (qx a b P Q), .int .i64 (qy a b P Q)]
  | 9 => .agg #[.int .i64 1, .int .i64 0]
  | 10 => .agg #[.int .i64 (-b), .int .i64 a]
  | 11 => .bool (withinB (qx a b P Q) (qy a b P Q) 1 0 (-b) a)
  | 12 => .int .i64 P
  | 13 => .bool false
  | 14 => .bool false
  | 15 => undef
  | 16 => undef
  | 17 => .bool false
  | 18 => .bool true
  | 19 => .bool true
  | _ => undef
def qzm8F (w : World) (x y p q X Y P Q a b : Int) (W0 : World) (w1 : World) (wfqzm2 : World) (tvqzm2 : Nat → Value) (W2 : World) (wfqzm3 : World) (tvqzm3 : Nat → Value) (w4 : World) (W4 : World) (w6 : World) (W6 : World) (wfqzm7 : World) (g : Nat) (W7 : World) (tvq7 : Nat → Value) (j : Nat) (v : Value) : Prop := v = qzm8V w x y p q X Y P Q a b W0 w1 wfqzm2 tvqzm2 W2 wfqzm3 tvqzm3 w4 W4 w6 W6 wfqzm7 g W7 tvq7 j
set_option maxRecDepth 100000 in
set_option maxHeartbeats 4000000 in
theorem vecQ_zm (x y p q X Y P Q a b : Int) (w : World) (hX : x.tmod 10000 = X) (hY : y.tmod 10000 = Y) (hP : p.tmod 10000 = P) (hQ : q.tmod 10000 = Q) (hz : (decide (X = 0) && decide (Y = 0)) = true) (ha : -10000 ≤ a ∧ a ≤ 10000) (hb : -10000 ≤ b ∧ b ≤ 10000) (hab : a = 1 ∧ b = 0) (hpp : decide (P ≥ 0) = false) (hw : withinB (qx a b P Q) (qy a b P Q) a b (-b) a = false) : Calls Try.prog 7 #[.agg #[.int .i64 x, .int .i64 y], .int .i64 p, .int .i64 q] w fun e w' => e = .returned (.bool true) ∧ Ext w w' := by
  have E0 := Lib.hid (Ext.refl w)
  have HX := Lib.hid hX
  have HY := Lib.hid hY
  have HP := Lib.hid hP
  have HQ := Lib.hid hQ
  have HZ := Lib.hid hz
  have HA := Lib.hid ha
  have HB := Lib.hid hb
  have HAB := Lib.hid hab
  have HPP := Lib.hid hpp
  have HW := Lib.hid hw
  clear hw hpp hab hb ha hz hQ hP hY hX
  go_enter Try.func7, Try.ntmps7
  go_wp2_with fail
  obtain ⟨W0, hW0⟩ : ∃ W0, W0 = (w.alloc (.cells #[.int .i64 x, .int .i64 y] 23)) := ⟨_, rfl⟩
  have hx : Ext w W0 := by rw [hW0]; exact Ext.alloc _ _
  have V_0 := Lib.hid (show RowAt W0 (w.heap.size) 23 #[.int .i64 x, .int .i64 y] from by rw [hW0]; exact (RowAt.new' _ _ (by simp)))
  have SZW0 := Lib.hid (show W0.heap.size = w.heap.size + 1 from by rw [hW0]; simp)
  have E1 := Lib.hid (E0.out.trans hx)
  clear E0
  clear hx
  rw [← hW0]
  clear hW0
  refine (sanity_c _).mono ?_; rintro e w1 ⟨rfl, hx⟩
  have E2 := Lib.hid (E1.out.trans hx)
  have V_2 := Lib.hid (hx.row V_0.out)
  clear E1 V_0
  clear hx
  go_upto_region 2 with (fail)
  refine wp_region_seq (fun D ac w' => ∃ vs : Nat → Value, ac = { tmps := #[Value.agg #[Value.int IntKind.i64 x, Value.int IntKind.i64 y], Value.int IntKind.i64 p, Value.int IntKind.i64 q, Value.pointer (some { block := w.heap.size, off := 0 }), undef, undef, Value.bool false, Value.bool true, undef, undef, Value.bool true, vs 0, vs 1, vs 2, vs 3, vs 4, vs 5, vs 6, undef, undef, undef, undef, undef, undef, undef, undef, undef, undef, undef, undef, undef, undef, undef, undef, undef, undef, undef, undef, undef, undef, undef, undef, undef, undef, undef, undef, undef, undef, undef, undef, undef, undef, undef, undef, undef, undef, undef, undef, undef, undef, undef, undef, undef, undef, undef, undef, undef, undef], defers := [] } ∧ Ext w1 w' ∧ ∀ j, D j → qzm2F w x y p q X Y P Q a b W0 w1 j (vs j)) 7 (by kernel_rfl) (by kernel_rfl) ?startqzm2 ?stepqzm2 ?finqzm2
  case startqzm2 => exact ⟨fun _ => undef, rfl, Ext.refl _, fun _ h => h.elim⟩
  case stepqzm2 =>
    rintro i o D ac wz hin hio hnd he ⟨vs, rfl, k0, hF⟩
    rcases i with _ | _ | _ | _ | _ | _ | _ | i
    rotate_left 7
    · exact absurd hin (by omega)
    all_goals (obtain rfl := Option.some.inj (hio.symm.trans (by rfl)))
    · refine step_yes (wanted_of_none rfl _) ?_
      exact wp_of_run (run_fld_pt0 (.tmp 3) rfl _ _ rfl) ⟨upd vs 0 _, rfl, k0, inv_same hF rfl⟩
    · refine step_yes (wanted_of_none rfl _) ?_
      exact wp_of_run (run_ldi (.tmp 11) rfl _ _ (by exact (hF 0 (he ⟨0, .data⟩ (by simp) rfl))) _ ((k0.row V_2.out).cell 0)) ⟨upd vs 1 _, rfl, k0, inv_same hF rfl⟩
    · refine step_yes (wanted_of_none rfl _) ?_
      exact wp_of_run (run_remi (.tmp 12) (.const (.int .i64 10000)) rfl rfl _ 10000 (by decide) (by decide) (by exact (hF 1 (he ⟨1, .data⟩ (by simp) rfl))) rfl) ⟨upd vs 2 _, rfl, k0, inv_same hF rfl⟩
    · refine step_yes (wanted_of_none rfl _) ?_
      exact wp_of_run (run_fld_pt1 (.tmp 3) rfl _ _ rfl) ⟨upd vs 3 _, rfl, k0, inv_same hF rfl⟩
    · refine step_yes (wanted_of_none rfl _) ?_
      exact wp_of_run (run_ldi (.tmp 14) rfl _ _ (by exact (hF 3 (he ⟨3, .data⟩ (by simp) rfl))) _ ((k0.row V_2.out).cell 1)) ⟨upd vs 4 _, rfl, k0, inv_same hF rfl⟩
    · refine step_yes (wanted_of_none rfl _) ?_
      exact wp_of_run (run_remi (.tmp 15) (.const (.int .i64 10000)) rfl rfl _ 10000 (by decide) (by decide) (by exact (hF 4 (he ⟨4, .data⟩ (by simp) rfl))) rfl) ⟨upd vs 5 _, rfl, k0, inv_same hF rfl⟩
    · refine step_yes (wanted_of_none rfl _) ?_
      refine wp_of_callE (run_enter2 23 (.tmp 13) (.tmp 16) _ rfl _ _ (by exact (hF 2 (he ⟨2, .data⟩ (by simp) rfl))) (by exact (hF 5 (he ⟨5, .data⟩ (by simp) rfl))) (fun args w => enters_of Try.func23 (by kernel_rfl) rfl args w)) (lat (x.tmod 10000) (y.tmod 10000) wz) ?_
      rintro e w' ⟨rfl, hx⟩
      exact ⟨_, rfl, upd vs 6 _, rfl, k0.trans hx, inv_same hF rfl⟩
  case finqzm2 =>
    rintro D ac wfqzm2 hD ⟨vs, rfl, k0, hF⟩
    change wpList _ _ _ [_] _ _
    have hl6 : vs 6 = .agg #[.int .i64 (x.tmod 10000), .int .i64 (y.tmod 10000)] := hF 6 (hD 6 (by decide))
    rw [hl6]
    clear hl6
    clear hF hD
    generalize vs = tvqzm2
    have E3 := Lib.hid (E2.out.trans k0)
    have V_3 := Lib.hid (k0.row V_2.out)
    clear E2 V_2
    clear k0
    rw [HX.out, HY.out]
    obtain ⟨W2, hW2⟩ : ∃ W2, W2 = wfqzm2.setRow w.heap.size #[.int .i64 X, .int .i64 Y] := ⟨_, rfl⟩
    have VW2_0 := Lib.hid (show RowAt W2 w.heap.size 23 #[.int .i64 X, .int .i64 Y] from by rw [hW2]; exact V_3.out.setRow _)
    have EW2 := Lib.hid (show Ext w W2 from by rw [hW2]; exact ext_setRow E3.out (Nat.le_refl _) _)
    have HW2 := Lib.hid hW2
    clear hW2
    go_upto_region 3 with (refine store_pt_at rfl (.tmp 3) (.tmp 17) rfl w.heap.size 0 rfl _ _ rfl _ _ _ _ (#[.int .i64 X, .int .i64 Y]) V_3.out rfl rfl rfl ?_; rw [← HW2.out])
    refine wp_region_tail (fun D ac w' => ∃ vs : Nat → Value, ac = { tmps := #[Value.agg #[Value.int IntKind.i64 x, Value.int IntKind.i64 y], Value.int IntKind.i64 p, Value.int IntKind.i64 q, Value.pointer (some { block := w.heap.size, off := 0 }), undef, undef, Value.bool false, Value.bool true, undef, undef, Value.bool true, tvqzm2 0, tvqzm2 1, tvqzm2 2, tvqzm2 3, tvqzm2 4, tvqzm2 5, Value.agg #[Value.int IntKind.i64 X, Value.int IntKind.i64 Y], vs 0, vs 1, vs 2, undef, undef, undef, undef, undef, undef, undef, undef, undef, undef, undef, undef, undef, undef, undef, undef, undef, undef, undef, undef, undef, undef, undef, undef, undef, undef, undef, undef, undef, undef, undef, undef, undef, undef, undef, undef, undef, undef, undef, undef, undef, undef, undef, undef, undef, undef, undef], defers := [] } ∧ Ext W2 w' ∧ ∀ j, D j → qzm3F w x y p q X Y P Q a b W0 w1 wfqzm2 tvqzm2 W2 j (vs j)) 3 (by kernel_rfl) (by kernel_rfl) (by kernel_rfl) ?startqzm3 ?stepqzm3 ?finqzm3
    case startqzm3 => exact ⟨fun _ => undef, rfl, Ext.drew _, fun _ h => h.elim⟩
    case stepqzm3 =>
      rintro i o D ac wz hin hio hnd he ⟨vs, rfl, k0, hF⟩
      rcases i with _ | _ | _ | i
      rotate_left 3
      · exact absurd hin (by omega)
      all_goals (obtain rfl := Option.some.inj (hio.symm.trans (by rfl)))
      · refine step_yes (wanted_of_none rfl _) ?_
        exact wp_of_run (run_ld_pt (.tmp 3) rfl _ _ rfl _ _ ((k0.row VW2_0.out).cell 0) ((k0.row VW2_0.out).cell 1)) ⟨upd vs 0 _, rfl, k0, inv_same hF rfl⟩
      · refine step_yes (wanted_of_none rfl _) ?_
        refine wp_of_callE (run_enter2 23 (.const (.int .i64 0)) (.const (.int .i64 0)) _ rfl _ _ rfl rfl (fun args w => enters_of Try.func23 (by kernel_rfl) rfl args w)) (lat 0 0 wz) ?_
        rintro e w' ⟨rfl, hx⟩
        exact ⟨_, rfl, upd vs 1 _, rfl, k0.trans hx, inv_same hF rfl⟩
      · refine step_yes (wanted_of_none rfl _) ?_
        exact wp_of_run (run_eq_pt (.tmp 18) (.tmp 19) rfl _ _ _ _ (by exact (hF 0 (he ⟨0, .data⟩ (by simp) rfl))) (by exact (hF 1 (he ⟨1, .data⟩ (by simp) rfl))) _ HZ.out) ⟨upd vs 2 _, rfl, k0, inv_same hF rfl⟩
    case finqzm3 =>
      rintro D ac wfqzm3 hD ⟨vs, rfl, k0, hF⟩
      change wpList _ _ _ [] _ _
      unfold wpList
      have hl2 : vs 2 = .bool true := hF 2 (hD 2 (by decide))
      rw [hl2]
      clear hl2
      clear hF hD
      generalize vs = tvqzm3
      have E4 := Lib.hid (EW2.out.trans k0)
      have VW2_4 := Lib.hid (k0.row VW2_0.out)
      clear EW2 VW2_0
      clear k0
      go_wp2_with fail
      refine (lat 1 0 _).mono ?_; rintro e w4 ⟨rfl, hx⟩
      have E5 := Lib.hid (E4.out.trans hx)
      have VW2_5 := Lib.hid (hx.row VW2_4.out)
      clear E4 VW2_4
      clear hx
      have ea := HAB.out.1
      have eb := HAB.out.2
      obtain ⟨W4, hW4⟩ : ∃ W4, W4 = w4.setRow w.heap.size #[.int .i64 1, .int .i64 0] := ⟨_, rfl⟩
      have VW4_0 := Lib.hid (show RowAt W4 w.heap.size 23 #[.int .i64 1, .int .i64 0] from by rw [hW4]; exact VW2_5.out.setRow _)
      have EW4 := Lib.hid (show Ext w W4 from by rw [hW4]; exact ext_setRow E5.out (Nat.le_refl _) _)
      have HW4 := Lib.hid hW4
      clear hW4
      go_upto_region 5 with (refine store_pt_at rfl (.tmp 3) (.tmp 21) rfl w.heap.size 0 rfl _ _ rfl _ _ _ _ (#[.int .i64 1, .int .i64 0]) VW2_5.out rfl rfl rfl ?_; rw [← HW4.out])
      clear ea eb
      go_upto_region 6 with (fail)
      have ea : a = 1 := HAB.out.1
      have eb : b = 0 := HAB.out.2
      have HEA := Lib.hid ea
      have HEB := Lib.hid eb
      clear ea eb
      have hc0 := VW4_0.out.cell 0
      have hc1 := VW4_0.out.cell 1
      simp at hc0 hc1
      go_wp2_with fail
      refine (cal_of (vapply 0 0 1 false 1 0 _) (v' := .agg #[.int .i64 (-b), .int .i64 a]) (by have := ap_quarter a b HA.out.1 HA.out.2 HB.out.1 HB.out.2; rw [HEA.out, HEB.out] at this ⊢; rw [this.1, this.2])).mono ?_; rintro e w6 ⟨rfl, hx⟩
      have E6 := Lib.hid (EW4.out.trans hx)
      have VW4_6 := Lib.hid (hx.row VW4_0.out)
      clear EW4 VW4_0
      clear hx
      clear hc0 hc1
      go_upto_region 7 with (fail)
      obtain ⟨W6, hW6⟩ : ∃ W6, W6 = (w6.alloc (.cells #[.int .i64 (-b), .int .i64 a] 23)) := ⟨_, rfl⟩
      have hx : Ext w6 W6 := by rw [hW6]; exact Ext.alloc _ _
      have U_0 := Lib.hid (show RowAt W6 (w6.heap.size) 23 #[.int .i64 (-b), .int .i64 a] from by rw [hW6]; exact (RowAt.new' _ _ (by simp)))
      have SZW6 := Lib.hid (show W6.heap.size = w6.heap.size + 1 from by rw [hW6]; simp)
      have E7 := Lib.hid (E6.out.trans hx)
      have VW4_7 := Lib.hid (hx.row VW4_6.out)
      clear E6 VW4_6
      clear hx
      rw [← hW6]
      clear hW6
      rw [HP.out, HQ.out]
      have LV := Lib.hid VW4_7.out.lt
      have LU := Lib.hid U_0.out.lt
      refine wp_region_seq (fun D ac w' => ∃ vs : Nat → Value, ac = { tmps := #[Value.agg #[Value.int IntKind.i64 x, Value.int IntKind.i64 y], Value.int IntKind.i64 P, Value.int IntKind.i64 Q, Value.pointer (some { block := w.heap.size, off := 0 }), undef, undef, Value.bool false, Value.bool true, Value.pointer (some { block := w6.heap.size, off := 0 }), vs 19, Value.bool true, tvqzm2 0, tvqzm2 1, tvqzm2 2, tvqzm2 3, tvqzm2 4, tvqzm2 5, Value.agg #[Value.int IntKind.i64 X, Value.int IntKind.i64 Y], tvqzm3 0, tvqzm3 1, Value.bool true, Value.agg #[Value.int IntKind.i64 1, Value.int IntKind.i64 0], Value.int IntKind.i64 p, Value.int IntKind.i64 P, Value.int IntKind.i64 q, Value.int IntKind.i64 Q, Value.agg #[Value.int IntKind.i64 0, Value.int IntKind.i64 0, Value.int IntKind.i64 1, Value.bool false], Value.agg #[Value.int IntKind.i64 1, Value.int IntKind.i64 0], Value.agg #[Value.int IntKind.i64 (-b), Value.int IntKind.i64 a], vs 0, vs 1, vs 2, vs 3, vs 4, vs 5, vs 6, vs 7, vs 8, vs 9, vs 10, vs 11, vs 12, vs 13, vs 14, vs 15, vs 16, vs 17, vs 18, undef, undef, undef, undef, undef, undef, undef, undef, undef, undef, undef, undef, undef, undef, undef, undef, undef, undef, undef, undef], defers := [] } ∧ Ext W6 w' ∧ ∀ j, D j → qzm7F w x y p q X Y P Q a b W0 w1 wfqzm2 tvqzm2 W2 wfqzm3 tvqzm3 w4 W4 w6 W6 W6.heap.size j (vs j) w') 20 (by kernel_rfl) (by kernel_rfl) ?startqzm7 ?stepqzm7 ?finqzm7
      case startqzm7 => exact ⟨fun _ => undef, rfl, Ext.refl _, fun _ h => h.elim⟩
      case stepqzm7 =>
        rintro i o D ac wz hin hio hnd he ⟨vs, rfl, k0, hF⟩
        rcases i with _ | _ | _ | _ | _ | _ | _ | _ | _ | _ | _ | _ | _ | _ | _ | _ | _ | _ | _ | _ | i
        rotate_left 20
        · exact absurd hin (by omega)
        all_goals (obtain rfl := Option.some.inj (hio.symm.trans (by rfl)))
        · refine step_yes (wanted_of_none rfl _) ?_
          exact wp_of_run (run_mov (.tmp 1) rfl _ rfl) ⟨upd vs 0 _, rfl, k0, inv_step hF (fun _ _ h => h) rfl⟩
        · refine step_yes (wanted_of_none rfl _) ?_
          exact wp_of_run (run_fld_pt0 (.tmp 3) rfl _ _ rfl) ⟨upd vs 1 _, rfl, k0, inv_step hF (fun _ _ h => h) rfl⟩
        · refine step_yes (wanted_of_none rfl _) ?_
          exact wp_of_run (run_ldi (.tmp 30) rfl _ _ (by exact (hF 1 (he ⟨1, .data⟩ (by simp) rfl))) _ ((k0.row VW4_7.out).cell 0)) ⟨upd vs 2 _, rfl, k0, inv_step hF (fun _ _ h => h) rfl⟩
        · refine step_yes (wanted_of_none rfl _) ?_
          exact wp_of_run (run_muli (.tmp 29) (.tmp 31) rfl rfl _ _ (by exact (hF 0 (he ⟨0, .data⟩ (by simp) rfl))) (by exact (hF 2 (he ⟨2, .data⟩ (by simp) rfl)))) ⟨upd vs 3 _, rfl, k0, inv_step hF (fun _ _ h => h) rfl⟩
        · refine step_yes (wanted_of_none rfl _) ?_
          exact wp_of_run (run_mov (.tmp 2) rfl _ rfl) ⟨upd vs 4 _, rfl, k0, inv_step hF (fun _ _ h => h) rfl⟩
        · refine step_yes (wanted_of_none rfl _) ?_
          exact wp_of_run (run_fld_pt0 (.tmp 8) rfl _ _ rfl) ⟨upd vs 5 _, rfl, k0, inv_step hF (fun _ _ h => h) rfl⟩
        · refine step_yes (wanted_of_none rfl _) ?_
          exact wp_of_run (run_ldi (.tmp 34) rfl _ _ (by exact (hF 5 (he ⟨5, .data⟩ (by simp) rfl))) _ ((k0.row U_0.out).cell 0)) ⟨upd vs 6 _, rfl, k0, inv_step hF (fun _ _ h => h) rfl⟩
        · refine step_yes (wanted_of_none rfl _) ?_
          exact wp_of_run (run_muli (.tmp 33) (.tmp 35) rfl rfl _ _ (by exact (hF 4 (he ⟨4, .data⟩ (by simp) rfl))) (by exact (hF 6 (he ⟨6, .data⟩ (by simp) rfl)))) ⟨upd vs 7 _, rfl, k0, inv_step hF (fun _ _ h => h) rfl⟩
        · refine step_yes (wanted_of_none rfl _) ?_
          exact wp_of_run (run_addi (.tmp 32) (.tmp 36) rfl rfl _ _ (by exact (hF 3 (he ⟨3, .data⟩ (by simp) rfl))) (by exact (hF 7 (he ⟨7, .data⟩ (by simp) rfl)))) ⟨upd vs 8 _, rfl, k0, inv_step hF (fun _ _ h => h) rfl⟩
        · refine step_yes (wanted_of_none rfl _) ?_
          exact wp_of_run (run_mov (.tmp 1) rfl _ rfl) ⟨upd vs 9 _, rfl, k0, inv_step hF (fun _ _ h => h) rfl⟩
        · refine step_yes (wanted_of_none rfl _) ?_
          exact wp_of_run (run_fld_pt1 (.tmp 3) rfl _ _ rfl) ⟨upd vs 10 _, rfl, k0, inv_step hF (fun _ _ h => h) rfl⟩
        · refine step_yes (wanted_of_none rfl _) ?_
          exact wp_of_run (run_ldi (.tmp 39) rfl _ _ (by exact (hF 10 (he ⟨10, .data⟩ (by simp) rfl))) _ ((k0.row VW4_7.out).cell 1)) ⟨upd vs 11 _, rfl, k0, inv_step hF (fun _ _ h => h) rfl⟩
        · refine step_yes (wanted_of_none rfl _) ?_
          exact wp_of_run (run_muli (.tmp 38) (.tmp 40) rfl rfl _ _ (by exact (hF 9 (he ⟨9, .data⟩ (by simp) rfl))) (by exact (hF 11 (he ⟨11, .data⟩ (by simp) rfl)))) ⟨upd vs 12 _, rfl, k0, inv_step hF (fun _ _ h => h) rfl⟩
        · refine step_yes (wanted_of_none rfl _) ?_
          exact wp_of_run (run_mov (.tmp 2) rfl _ rfl) ⟨upd vs 13 _, rfl, k0, inv_step hF (fun _ _ h => h) rfl⟩
        · refine step_yes (wanted_of_none rfl _) ?_
          exact wp_of_run (run_fld_pt1 (.tmp 8) rfl _ _ rfl) ⟨upd vs 14 _, rfl, k0, inv_step hF (fun _ _ h => h) rfl⟩
        · refine step_yes (wanted_of_none rfl _) ?_
          exact wp_of_run (run_ldi (.tmp 43) rfl _ _ (by exact (hF 14 (he ⟨14, .data⟩ (by simp) rfl))) _ ((k0.row U_0.out).cell 1)) ⟨upd vs 15 _, rfl, k0, inv_step hF (fun _ _ h => h) rfl⟩
        · refine step_yes (wanted_of_none rfl _) ?_
          exact wp_of_run (run_muli (.tmp 42) (.tmp 44) rfl rfl _ _ (by exact (hF 13 (he ⟨13, .data⟩ (by simp) rfl))) (by exact (hF 15 (he ⟨15, .data⟩ (by simp) rfl)))) ⟨upd vs 16 _, rfl, k0, inv_step hF (fun _ _ h => h) rfl⟩
        · refine step_yes (wanted_of_none rfl _) ?_
          exact wp_of_run (run_addi (.tmp 41) (.tmp 45) rfl rfl _ _ (by exact (hF 12 (he ⟨12, .data⟩ (by simp) rfl))) (by exact (hF 16 (he ⟨16, .data⟩ (by simp) rfl)))) ⟨upd vs 17 _, rfl, k0, inv_step hF (fun _ _ h => h) rfl⟩
        · refine step_yes (wanted_of_none rfl _) ?_
          refine wp_of_callE (run_enter2 23 (.tmp 37) (.tmp 46) _ rfl _ _ (by exact (hF 8 (he ⟨8, .data⟩ (by simp) rfl))) (by exact (hF 17 (he ⟨17, .data⟩ (by simp) rfl))) (fun args w => enters_of Try.func23 (by kernel_rfl) rfl args w)) (lat (wrap64 ((wrap64 (P * 1)) + (wrap64 (Q * (-b))))) (wrap64 ((wrap64 (P * 0)) + (wrap64 (Q * a)))) wz) ?_
          rintro e w' ⟨rfl, hx⟩
          exact ⟨_, rfl, upd vs 18 _, rfl, k0.trans hx, inv_step hF (fun j v h => qzm7F_mono hx j v h) rfl⟩
        · refine step_yes (wanted_of_none rfl _) ?_
          exact wp_of_run (run_alloc_pt rfl) ⟨upd vs 19 _, rfl, k0.trans (Ext.alloc _ _), inv_step hF (fun j v h => qzm7F_mono (Ext.alloc _ _) j v h) (own_new _ _ k0 (Nat.le_refl _))⟩
      case finqzm7 =>
        rintro D ac wfqzm7 hD ⟨vs, rfl, k0, hF⟩
        change wpList _ _ _ [_] _ _
        have hl18 : vs 18 = .agg #[.int .i64 (wrap64 ((wrap64 (P * 1)) + (wrap64 (Q * (-b))))), .int .i64 (wrap64 ((wrap64 (P * 0)) + (wrap64 (Q * a))))] := hF 18 (hD 18 (by decide))
        rw [hl18]
        clear hl18
        have E8 := Lib.hid (E7.out.trans k0)
        have VW4_8 := Lib.hid (k0.row VW4_7.out)
        have U_8 := Lib.hid (k0.row U_0.out)
        clear E7 VW4_7 U_0
        clear k0
        obtain ⟨g, hg, hle, hr⟩ := hF 19 (hD 19 (by decide))
        rw [hg]
        clear hF hD hg
        generalize vs = tvq7
        rw [show wrap64 ((wrap64 (P * 1)) + (wrap64 (Q * (-b)))) = qx a b P Q from by unfold qx; rw [HEA.out, HEB.out], show wrap64 ((wrap64 (P * 0)) + (wrap64 (Q * a))) = qy a b P Q from by unfold qy; rw [HEA.out, HEB.out]]
        obtain ⟨W7, hW7⟩ : ∃ W7, W7 = wfqzm7.setRow g #[.int .i64 (qx a b P Q), .int .i64 (qy a b P Q)] := ⟨_, rfl⟩
        have D_0 := Lib.hid (show RowAt W7 g 23 #[.int .i64 (qx a b P Q), .int .i64 (qy a b P Q)] from by rw [hW7]; exact hr.setRow _)
        have VW4_7x := Lib.hid (show RowAt W7 (w.heap.size) _ _ from by rw [hW7]; exact VW4_8.out.setRowOther _ (by have := LV.out; omega))
        have U_7x := Lib.hid (show RowAt W7 (w6.heap.size) _ _ from by rw [hW7]; exact U_8.out.setRowOther _ (by have := LU.out; omega))
        have E7x := Lib.hid (show Ext w W7 from by rw [hW7]; exact ext_setRow E8.out (by have := LV.out; omega) _)
        have HR := Lib.hid hr
        have H7 := Lib.hid hW7
        clear hW7 hr hle
        go_upto_region 8 with (refine store_pt_at rfl (.tmp 9) (.tmp 47) rfl g 0 rfl _ _ rfl _ _ _ _ (#[.int .i64 (qx a b P Q), .int .i64 (qy a b P Q)]) HR.out rfl rfl rfl ?_; rw [← H7.out])
        refine wp_region_seq (fun D ac w' => ∃ vs : Nat → Value, ac = { tmps := #[Value.agg #[Value.int IntKind.i64 x, Value.int IntKind.i64 y], Value.int IntKind.i64 P, Value.int IntKind.i64 Q, Value.pointer (some { block := w.heap.size, off := 0 }), undef, undef, Value.bool false, Value.bool true, Value.pointer (some { block := w6.heap.size, off := 0 }), Value.pointer (some { block := g, off := 0 }), Value.bool true, tvqzm2 0, tvqzm2 1, tvqzm2 2, tvqzm2 3, tvqzm2 4, tvqzm2 5, Value.agg #[Value.int IntKind.i64 X, Value.int IntKind.i64 Y], tvqzm3 0, tvqzm3 1, Value.bool true, Value.agg #[Value.int IntKind.i64 1, Value.int IntKind.i64 0], Value.int IntKind.i64 p, Value.int IntKind.i64 P, Value.int IntKind.i64 q, Value.int IntKind.i64 Q, Value.agg #[Value.int IntKind.i64 0, Value.int IntKind.i64 0, Value.int IntKind.i64 1, Value.bool false], Value.agg #[Value.int IntKind.i64 1, Value.int IntKind.i64 0], Value.agg #[Value.int IntKind.i64 (-b), Value.int IntKind.i64 a], tvq7 0, tvq7 1, tvq7 2, tvq7 3, tvq7 4, tvq7 5, tvq7 6, tvq7 7, tvq7 8, tvq7 9, tvq7 10, tvq7 11, tvq7 12, tvq7 13, tvq7 14, tvq7 15, tvq7 16, tvq7 17, Value.agg #[Value.int IntKind.i64 (qx a b P Q), Value.int IntKind.i64 (qy a b P Q)], vs 0, vs 1, vs 2, vs 3, vs 4, vs 5, vs 6, vs 7, vs 8, vs 9, vs 10, vs 11, vs 12, vs 13, vs 14, vs 15, vs 16, vs 17, vs 18, vs 19], defers := [] } ∧ Ext W7 w' ∧ ∀ j, D j → qzm8F w x y p q X Y P Q a b W0 w1 wfqzm2 tvqzm2 W2 wfqzm3 tvqzm3 w4 W4 w6 W6 wfqzm7 g W7 tvq7 j (vs j)) 20 (by kernel_rfl) (by kernel_rfl) ?startqzm8 ?stepqzm8 ?finqzm8
        case startqzm8 => exact ⟨fun _ => undef, rfl, Ext.refl _, fun _ h => h.elim⟩
        case stepqzm8 =>
          rintro i o D ac wz hin hio hnd he ⟨vs, rfl, k0, hF⟩
          rcases i with _ | _ | _ | _ | _ | _ | _ | _ | _ | _ | _ | _ | _ | _ | _ | _ | _ | _ | _ | _ | i
          rotate_left 20
          · exact absurd hin (by omega)
          all_goals (obtain rfl := Option.some.inj (hio.symm.trans (by rfl)))
          · refine step_yes (wanted_of_none rfl _) ?_
            exact wp_of_run (run_mov (.tmp 7) rfl _ rfl) ⟨upd vs 0 _, rfl, k0, inv_same hF rfl⟩
          · refine step_yes (wanted_of_none rfl _) ?_
            exact wp_of_run (run_mov (.tmp 48) rfl _ (by exact (hF 0 (he ⟨0, .data⟩ (by simp) rfl)))) ⟨upd vs 1 _, rfl, k0, inv_same hF rfl⟩
          · refine step_yes (wanted_g (j := 1) (d := 49) rfl rfl rfl (hF 1 (he ⟨1, .guard⟩ (by simp) rfl))) ?_
            exact wp_of_run (run_ld_pt (.tmp 3) rfl _ _ rfl _ _ ((k0.row VW4_7x.out).cell 0) ((k0.row VW4_7x.out).cell 1)) ⟨upd vs 2 _, rfl, k0, inv_same hF rfl⟩
          · refine step_yes (wanted_g (j := 1) (d := 49) rfl rfl rfl (hF 1 (he ⟨1, .guard⟩ (by simp) rfl))) ?_
            exact wp_of_run (run_ld_pt (.tmp 8) rfl _ _ rfl _ _ ((k0.row U_7x.out).cell 0) ((k0.row U_7x.out).cell 1)) ⟨upd vs 3 _, rfl, k0, inv_same hF rfl⟩
          · refine step_yes (wanted_g (j := 1) (d := 49) rfl rfl rfl (hF 1 (he ⟨1, .chain⟩ (by simp) rfl))) ?_
            refine wp_of_callE (run_enter2 17 (.tmp 50) (.tmp 51) _ rfl _ _ (by exact (hF 2 (he ⟨2, .data⟩ (by simp) rfl))) (by exact (hF 3 (he ⟨3, .data⟩ (by simp) rfl))) (fun args w => enters_of Try.func17 (by kernel_rfl) rfl args w)) (vdot 1 0 (-b) a wz) ?_
            rintro e w' ⟨rfl, hx⟩
            exact ⟨_, rfl, upd vs 4 _, rfl, k0.trans hx, inv_same hF rfl⟩
          · refine step_yes (wanted_g (j := 1) (d := 49) rfl rfl rfl (hF 1 (he ⟨1, .guard⟩ (by simp) rfl))) ?_
            exact wp_of_run (run_eqi (.tmp 52) (.const (.int .i64 0)) rfl _ _ (by exact (hF 4 (he ⟨4, .data⟩ (by simp) rfl))) rfl _ (decide_eq_true (by rw [HEA.out, HEB.out]; exact quarter_dot _ _))) ⟨upd vs 5 _, rfl, k0, inv_same hF rfl⟩
          · refine step_yes (wanted_of_none rfl _) ?_
            exact wp_of_run (run_pick_t (.tmp 49) (.tmp 53) (.const (.bool false)) rfl (by exact (hF 1 (he ⟨1, .data⟩ (by simp) rfl))) _ (by exact (hF 5 (he ⟨5, .data⟩ (by simp) rfl)))) ⟨upd vs 6 _, rfl, k0, inv_same hF rfl⟩
          · refine step_yes (wanted_of_none rfl _) ?_
            exact wp_of_run (run_mov (.tmp 54) rfl _ (by exact (hF 6 (he ⟨6, .data⟩ (by simp) rfl)))) ⟨upd vs 7 _, rfl, k0, inv_same hF rfl⟩
          · refine step_yes (wanted_g (j := 7) (d := 55) rfl rfl rfl (hF 7 (he ⟨7, .guard⟩ (by simp) rfl))) ?_
            exact wp_of_run (run_ld_pt (.tmp 9) rfl _ _ rfl _ _ ((k0.row D_0.out).cell 0) ((k0.row D_0.out).cell 1)) ⟨upd vs 8 _, rfl, k0, inv_same hF rfl⟩
          · refine step_yes (wanted_g (j := 7) (d := 55) rfl rfl rfl (hF 7 (he ⟨7, .guard⟩ (by simp) rfl))) ?_
            exact wp_of_run (run_ld_pt (.tmp 3) rfl _ _ rfl _ _ ((k0.row VW4_7x.out).cell 0) ((k0.row VW4_7x.out).cell 1)) ⟨upd vs 9 _, rfl, k0, inv_same hF rfl⟩
          · refine step_yes (wanted_g (j := 7) (d := 55) rfl rfl rfl (hF 7 (he ⟨7, .guard⟩ (by simp) rfl))) ?_
            exact wp_of_run (run_ld_pt (.tmp 8) rfl _ _ rfl _ _ ((k0.row U_7x.out).cell 0) ((k0.row U_7x.out).cell 1)) ⟨upd vs 10 _, rfl, k0, inv_same hF rfl⟩
          · refine step_yes (wanted_g (j := 7) (d := 55) rfl rfl rfl (hF 7 (he ⟨7, .chain⟩ (by simp) rfl))) ?_
            refine wp_of_callE (run_enter3 21 (.tmp 56) (.tmp 57) (.tmp 58) _ rfl _ _ _ (by exact (hF 8 (he ⟨8, .data⟩ (by simp) rfl))) (by exact (hF 9 (he ⟨9, .data⟩ (by simp) rfl))) (by exact (hF 10 (he ⟨10, .data⟩ (by simp) rfl))) (fun args w => enters_of Try.func21 (by kernel_rfl) rfl args w)) (vwithin (qx a b P Q) (qy a b P Q) 1 0 (-b) a wz) ?_
            rintro e w' ⟨rfl, hx⟩
            exact ⟨_, rfl, upd vs 11 _, rfl, k0.trans hx, inv_same hF rfl⟩
          · refine step_yes (wanted_g (j := 7) (d := 55) rfl rfl rfl (hF 7 (he ⟨7, .guard⟩ (by simp) rfl))) ?_
            exact wp_of_run (run_mov (.tmp 1) rfl _ rfl) ⟨upd vs 12 _, rfl, k0, inv_same hF rfl⟩
          · refine step_yes (wanted_g (j := 7) (d := 55) rfl rfl rfl (hF 7 (he ⟨7, .guard⟩ (by simp) rfl))) ?_
            exact wp_of_run (run_geqi (.tmp 60) (.const (.int .i64 0)) rfl _ _ (by exact (hF 12 (he ⟨12, .data⟩ (by simp) rfl))) rfl _ HPP.out) ⟨upd vs 13 _, rfl, k0, inv_same hF rfl⟩
          · refine step_yes (wanted_g (j := 7) (d := 55) rfl rfl rfl (hF 7 (he ⟨7, .guard⟩ (by simp) rfl))) ?_
            exact wp_of_run (run_mov (.tmp 61) rfl _ (by exact (hF 13 (he ⟨13, .data⟩ (by simp) rfl)))) ⟨upd vs 14 _, rfl, k0, inv_same hF rfl⟩
          · refine step_no (wanted_n (j := 14) (d := 62) rfl rfl rfl (hF 14 (he ⟨14, .guard⟩ (by simp) rfl)) (by decide)) ?_
            exact ⟨upd vs 15 undef, rfl, k0, inv_same hF rfl⟩
          · refine step_no (wanted_n (j := 14) (d := 62) rfl rfl rfl (hF 14 (he ⟨14, .guard⟩ (by simp) rfl)) (by decide)) ?_
            exact ⟨upd vs 16 undef, rfl, k0, inv_same hF rfl⟩
          · refine step_yes (wanted_g (j := 7) (d := 55) rfl rfl rfl (hF 7 (he ⟨7, .guard⟩ (by simp) rfl))) ?_
            exact wp_of_run (run_pick_f (.tmp 62) (.tmp 64) (.const (.bool false)) rfl (by exact (hF 14 (he ⟨14, .data⟩ (by simp) rfl))) _ rfl) ⟨upd vs 17 _, rfl, k0, inv_same hF rfl⟩
          · refine step_yes (wanted_g (j := 7) (d := 55) rfl rfl rfl (hF 7 (he ⟨7, .guard⟩ (by simp) rfl))) ?_
            exact wp_of_run (run_eqb (.tmp 59) (.tmp 65) rfl _ _ (by exact (hF 11 (he ⟨11, .data⟩ (by simp) rfl))) (by exact (hF 17 (he ⟨17, .data⟩ (by simp) rfl))) _ (by have e := HW.out; rw [HEA.out, HEB.out] at e ⊢; rw [e]; rfl)) ⟨upd vs 18 _, rfl, k0, inv_same hF rfl⟩
          · refine step_yes (wanted_of_none rfl _) ?_
            exact wp_of_run (run_pick_t (.tmp 55) (.tmp 66) (.const (.bool false)) rfl (by exact (hF 7 (he ⟨7, .data⟩ (by simp) rfl))) _ (by exact (hF 18 (he ⟨18, .data⟩ (by simp) rfl)))) ⟨upd vs 19 _, rfl, k0, inv_same hF rfl⟩
        case finqzm8 =>
          rintro D ac wfqzm8 hD ⟨vs, rfl, k0, hF⟩
          change wpList _ _ _ [_] _ _
          have hl19 : vs 19 = .bool true := hF 19 (hD 19 (by decide))
          rw [hl19]
          clear hl19
          clear hF hD
          generalize vs = tvqzm8
          have E9 := Lib.hid (E7x.out.trans k0)
          have VW4_9 := Lib.hid (k0.row VW4_7x.out)
          have U_9 := Lib.hid (k0.row U_7x.out)
          have D_9 := Lib.hid (k0.row D_0.out)
          clear E7x VW4_7x U_7x D_0
          clear k0
          go_wp2_with fail
          go_ret
          exact ⟨rfl, E9.out⟩

theorem vecQuarters_walk (x y p q : Int) (w : World) : Calls Try.prog 7 #[.agg #[.int .i64 x, .int .i64 y], .int .i64 p, .int .i64 q] w fun e w' => e = .returned (.bool true) ∧ Ext w w' := by
  have bx := tmod_in x
  have by' := tmod_in y
  have bp := tmod_in p
  have bq := tmod_in q
  have key : ∀ a b : Int, (-10000 ≤ a ∧ a ≤ 10000) → (-10000 ≤ b ∧ b ≤ 10000) → ¬ (a = 0 ∧ b = 0) → ∀ c d : Bool, decide (p.tmod 10000 ≥ 0) = c → decide (q.tmod 10000 ≥ 0) = d → withinB (qx a b (p.tmod 10000) (q.tmod 10000)) (qy a b (p.tmod 10000) (q.tmod 10000)) a b (-b) a = (c && d) := by
    intro a b ha hb h0 c d hc hd
    rw [quarter_within bp bq ha hb h0, ← hc, ← hd]
  by_cases hz : x.tmod 10000 = 0 ∧ y.tmod 10000 = 0
  · have hz' : (decide (x.tmod 10000 = 0) && decide (y.tmod 10000 = 0)) = true := by simp [hz]
    have k := key 1 0 (by omega) (by omega) (by omega)
    cases hp : decide (p.tmod 10000 ≥ 0)
    · exact vecQ_zm x y p q _ _ _ _ 1 0 w rfl rfl rfl rfl hz' (by omega) (by omega) ⟨rfl, rfl⟩ hp (by have := k _ _ hp rfl; rw [this]; rfl)
    · cases hq : decide (q.tmod 10000 ≥ 0)
      · exact vecQ_zpm x y p q _ _ _ _ 1 0 w rfl rfl rfl rfl hz' (by omega) (by omega) ⟨rfl, rfl⟩ hp hq (by have := k _ _ hp hq; rw [this]; rfl)
      · exact vecQ_zpp x y p q _ _ _ _ 1 0 w rfl rfl rfl rfl hz' (by omega) (by omega) ⟨rfl, rfl⟩ hp hq (by have := k _ _ hp hq; rw [this]; rfl)
  · have hz' : (decide (x.tmod 10000 = 0) && decide (y.tmod 10000 = 0)) = false := by
      rw [← Bool.decide_and]; exact decide_eq_false hz
    have k := key (x.tmod 10000) (y.tmod 10000) bx by' hz
    cases hp : decide (p.tmod 10000 ≥ 0)
    · exact vecQ_nm x y p q _ _ _ _ _ _ w rfl rfl rfl rfl hz' bx by' ⟨rfl, rfl⟩ hp (by have := k _ _ hp rfl; rw [this]; rfl)
    · cases hq : decide (q.tmod 10000 ≥ 0)
      · exact vecQ_npm x y p q _ _ _ _ _ _ w rfl rfl rfl rfl hz' bx by' ⟨rfl, rfl⟩ hp hq (by have := k _ _ hp hq; rw [this]; rfl)
      · exact vecQ_npp x y p q _ _ _ _ _ _ w rfl rfl rfl rfl hz' bx by' ⟨rfl, rfl⟩ hp hq (by have := k _ _ hp hq; rw [this]; rfl)

end Go.Proofs.Ytapnoijnegcmfaa
