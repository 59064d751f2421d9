/- Texts that belong together. -/
import Derived.Test.YtegjcikofmphjaaGreatDoorQRootEH
set_option linter.all false
/- Texts that belong together. -/
/- The reference of layer 2: Of, of right numbers. -/
namespace Go.Proofs.YtegjcikofmphjaaGreatDoor
open Go Go.RowKit Go.Shelf
theorem rright_z (v : Value) (z : Int) (w : World) (h : ZNum w.heap.size w v z) : Calls Tryz.prog 40 #[v] w fun e w' => e = .returned (.bool true) ∧ Ext w w' := by
  obtain ⟨p, c, rfl⟩ := h.parts
  have := rright_calls (decide (z < 0)) (.slice p (digs z.natAbs).length c) (digs z.natAbs) w (znum_slice h)
  rw [rightB_z h.2] at this
  exact this
theorem rgcd_z (va vb : Value) (za zb z : Int) (w : World) (ha : ZNum w.heap.size w va za) (hb : ZNum w.heap.size w vb zb) (hz : gcdZ za zb = z) : Calls Tryz.prog 43 #[va, vb] w (Gives w z false) := by
  subst hz
  exact (rgcd_ok va vb za zb w ha hb).mono fun _ _ h => h
theorem run_lss_int {o : Oper} {a : Act} {w : World} (x y : Operand) (ho : o.op = .binOp .lss 3 x y 3) (u v : Int) (hx : a.eval x = .int .i64 u) (hy : a.eval y = .int .i64 v) : (execOp a.eval o).run Tryz.prog w = .ok (.value (.bool (decide (u < v)))) w := by
  unfold execOp
  simp only [ho, hx, hy]
  simp [go_sem]
theorem run_gtr_int {o : Oper} {a : Act} {w : World} (x y : Operand) (ho : o.op = .binOp .gtr 3 x y 3) (u v : Int) (hx : a.eval x = .int .i64 u) (hy : a.eval y = .int .i64 v) : (execOp a.eval o).run Tryz.prog w = .ok (.value (.bool (decide (v < u)))) w := by
  unfold execOp
  simp only [ho, hx, hy]
  simp [go_sem]
theorem run_leq_int {o : Oper} {a : Act} {w : World} (x y : Operand) (ho : o.op = .binOp .leq 3 x y 3) (u v : Int) (hx : a.eval x = .int .i64 u) (hy : a.eval y = .int .i64 v) : (execOp a.eval o).run Tryz.prog w = .ok (.value (.bool (decide (u ≤ v)))) w := by
  unfold execOp
  simp only [ho, hx, hy]
  simp [go_sem]
theorem run_enter0 {o : Oper} {a : Act} {w : World} (f : FuncId) (ts : Array TypeId) (ho : o.op = .call { callee := .value (.func f), args := #[], argTypes := ts }) (hf : ∀ args w, (callFunc f args).run Tryz.prog w = .ok (.enter f args) w) :
    (execOp a.eval o).run Tryz.prog w = .ok (.enter f #[]) w := by
  have ef : a.eval (.func f) = .func (.func f) #[] #[] := rfl
  have hm : Array.map a.eval #[] = #[] := by simp
  unfold execOp
  simp only [ho, resolve, Deferred.ofValue, invoke, ef, hm]
  simp [go_sem, hf]
theorem run_notb {o : Oper} {a : Act} {w : World} (x : Operand) (ho : o.op = .unOp .not 4 x) (b : Bool) (hx : a.eval x = .bool b) : (execOp a.eval o).run Tryz.prog w = .ok (.value (.bool (!b))) w := by
  unfold execOp
  simp only [ho, hx]
  simp [go_sem]
def q3F (va vb : Value) (s zn zd : Int) : Nat → Value → World → Prop
  | 0, v, _ => v = .int .i64 s
  | 1, v, _ => v = .bool false
  | 2, v, _ => v = .bool false
  | 3, v, _ => v = .int .i64 s
  | 4, v, _ => v = .bool false
  | 5, v, _ => v = .bool false
  | 6, v, _ => v = .bool false
  | 7, v, _ => v = .bool true
  | 8, v, _ => v = .bool false
  | 9, v, _ => v = .bool false
  | 10, v, _ => v = .bool false
  | 11, v, _ => v = .bool true
  | 12, v, _ => v = .bool false
  | 13, v, _ => v = .bool false
  | 14, v, _ => v = .bool false
  | 15, v, _ => v = va
  | 16, v, W => IsN 0 v W
  | 17, v, _ => v = .int .i64 (zcmp zn 0)
  | 18, v, _ => v = .bool false
  | 19, v, _ => v = .bool false
  | 20, v, _ => v = .bool false
  | 21, v, _ => v = vb
  | 22, v, W => IsN 0 v W
  | 23, v, _ => v = .int .i64 (zcmp zd 0)
  | 24, v, _ => v = .bool false
  | 25, v, _ => v = .bool false
  | _, _, _ => True
theorem q3F_mono {va vb : Value} {s zn zd : Int} {W W' : World} (hx : Ext W W') (j : Nat) (v : Value) (h : q3F va vb s zn zd j v W) : q3F va vb s zn zd j v W' := by
  match j, h with
  | 0, h | 1, h | 2, h | 3, h | 4, h | 5, h | 6, h | 7, h | 8, h | 9, h | 10, h | 11, h | 12, h | 13, h | 14, h | 15, h | 17, h | 18, h | 19, h | 20, h | 21, h | 23, h | 24, h | 25, h => exact h
  | 16, h => exact IsN.ext h hx
  | 22, h => exact IsN.ext h hx
  | _ + 26, _ => trivial
def q6F (va : Value) (s zn : Int) (b0 : Bool) : Nat → Value → World → Prop
  | 0, v, _ => v = .int .i64 s
  | 1, v, _ => v = .bool b0
  | 2, v, _ => v = .bool b0
  | 3, v, _ => if b0 then v = undef else v = va
  | 4, v, W => if b0 then v = undef else IsN 0 v W
  | 5, v, _ => if b0 then v = undef else v = .int .i64 (zcmp zn 0)
  | 6, v, _ => if b0 then v = undef else v = .bool (zcmp zn 0 == 0)
  | 7, v, _ => v = .bool (b0 || (zcmp zn 0 == 0))
  | _, _, _ => True
theorem q6x {b0 : Bool} {v : Value} {W W' : World} (h : if b0 then v = undef else IsN 0 v W) (hx : Ext W W') : if b0 then v = undef else IsN 0 v W' := by
  cases b0
  · exact IsN.ext h hx
  · exact h
theorem q6F_mono {va : Value} {s zn : Int} {b0 : Bool} {W W' : World} (hx : Ext W W') (j : Nat) (v : Value) (h : q6F va s zn b0 j v W) : q6F va s zn b0 j v W' := by
  match j, h with
  | 0, h | 1, h | 2, h | 3, h | 5, h | 6, h | 7, h => exact h
  | 4, h => exact q6x h hx
  | _ + 8, _ => trivial
theorem gcd_zero_left {z : Int} (h : 0 < z) : gcdZ 0 z = z := by
  unfold gcdZ
  rw [show (0 : Int).natAbs = 0 from rfl, Nat.gcd_zero_left]
  omega
theorem quo_pos {zn zd : Int} (h0 : 0 < zn) (h1 : 0 < zd) : 0 < zn / gcdZ zn zd := by
  have hg := gcdZ_pos (a := zn) h1
  have hle : gcdZ zn zd ≤ zn := by
    unfold gcdZ
    have := Nat.le_of_dvd (show 0 < zn.natAbs by omega) (Nat.gcd_dvd_left zn.natAbs zd.natAbs)
    omega
  exact Int.ediv_pos_of_pos_of_dvd h0 (by omega) (by
    unfold gcdZ
    exact Int.ofNat_dvd_left.2 (Nat.gcd_dvd_left _ _))
set_option maxRecDepth 100000 in
set_option maxHeartbeats 8000000 in
theorem r2of_one (va vb : Value) (a s zn zd : Int) (w : World) (ha : ZNum w.heap.size w va zn) (hb : ZNum w.heap.size w vb zd) (h0 : 0 ≤ zn) (h1 : 0 < zd) (hs : -1 ≤ s) (hs' : s ≤ 1) (hs0 : s ≠ 0) (hz0 : zn ≠ 0) :
    Calls Tryz.prog 14 #[.int .i64 a, .int .i64 s, va, vb] w (OfPost w a s zn zd) := by
  obtain ⟨p, c, rfl⟩ := ha.parts
  obtain ⟨q, c2, rfl⟩ := hb.parts
  have d0 : decide (zn < 0) = false := by simp; omega
  have d1 : decide (zd < 0) = false := by simp; omega
  rw [d0] at ha ⊢
  rw [d1] at hb ⊢
  generalize (digs zn.natAbs).length = n at *
  generalize (digs zd.natAbs).length = m at *
  obtain ⟨N, hN⟩ : ∃ N, N = ofN s zn zd := ⟨_, rfl⟩
  obtain ⟨M, hM⟩ : ∃ M, M = ofD s zn zd := ⟨_, rfl⟩
  obtain ⟨R, hR⟩ : ∃ R, R = OfPost w a s zn zd := ⟨_, rfl⟩
  rw [← hR]
  have hNM : zn / gcdZ zn zd = N ∧ zd / gcdZ zn zd = M := by
    rw [hN, hM]; unfold ofN ofD; rw [if_neg hs0, if_neg hs0]; exact ⟨rfl, rfl⟩
  have hsv : s = s * N.sign := by
    rw [← hNM.1, Int.sign_eq_one_of_pos (quo_pos (by omega) h1), Int.mul_one]
  have HRf : Hid (∀ (W : World) (g : Nat) (cs : Array Value), Ext w W → w.heap.size ≤ g → (fit8 N && fit8 M) = false → R (.returned (.tuple #[root0, .bool false])) (W.setRow g cs)) := by
    intro W g cs h1 h2 h3
    rw [hR]
    refine ⟨ext_setRow h1 h2 _, ?_⟩
    rw [← hN, ← hM, h3]
    rfl
  have HRs : Hid (∀ (W : World) (g : Nat) (cs : Array Value) (p5 : Option Addr) (n5 c5 : Nat) (p6 : Option Addr) (n6 c6 : Nat), Ext w W → w.heap.size ≤ g → (fit8 N && fit8 M) = true → ZNum W.heap.size (W.setRow g cs) (.agg #[.bool false, .slice p5 n5 c5]) N → ZNum W.heap.size (W.setRow g cs) (.agg #[.bool false, .slice p6 n6 c6]) M → R (.returned (.tuple #[.agg #[.int .i64 a, .int .i64 (s), .bool false, .slice p5 n5 c5, .bool false, .slice p6 n6 c6], .bool true])) (W.setRow g cs)) := by
    intro W g cs p5 n5 c5 p6 n6 c6 h1 h2 h3 h4 h5
    rw [hR]
    refine ⟨ext_setRow h1 h2 _, ?_⟩
    rw [← hN, ← hM, h3]
    exact ⟨_, rfl, _, _, _, _, _, _, by rw [← hsv], by rw [setRow_size]; exact h4, by rw [setRow_size]; exact h5⟩
  have HNM := Lib.hid hNM
  have Hc : Hid (zcmp zd 0 = 1) := by show zcmp zd 0 = 1; rw [zcmp_sign]; exact Int.sign_eq_one_of_pos h1
  have hzn3 : zcmp zn 0 = 0 ∨ zcmp zn 0 = 1 := by unfold zcmp; rw [if_neg (by omega)]; split <;> simp
  have Hn0 : Hid (¬ zcmp zn 0 < 0) := by show ¬ zcmp zn 0 < 0; omega
  clear hzn3
  have HS0 := Lib.hid hs0
  have HZ0 := Lib.hid hz0
  have H01 := Lib.hid (And.intro h0 h1)
  have Hsr := Lib.hid (And.intro hs hs')
  have ZA := Lib.hid ha
  have ZB := Lib.hid hb
  have E := Lib.hid (Ext.refl w)
  clear ha hb d0 d1 h0 h1 hs hs' hN hM hR hNM hsv hs0 hz0
  obtain ⟨W0a, hW0a⟩ : ∃ W0a, W0a = (((w.alloc (.cells #[.bool false, .slice p n c] 25)).alloc (.cells #[.bool false, .slice q m c2] 25)).alloc (.cells #[.int .i64 0, .int .i64 0, .bool false, .slice none 0 0, .bool false, .slice none 0 0] 32)) := ⟨_, rfl⟩
  have hx : Ext w W0a := by rw [hW0a]; exact (((Ext.alloc _ _).trans (Ext.alloc _ _)).trans (Ext.alloc _ _))
  have A_n : RowAt W0a (w.heap.size) 25 (numCells false p n c) := by rw [hW0a]; exact (((RowAt.new' _ _ (by simp)).alloc _).alloc _)
  have B_n : RowAt W0a (w.heap.size + 1) 25 (numCells false q m c2) := by rw [hW0a]; exact ((RowAt.new' _ _ (by simp)).alloc _)
  have P_n : RowAt W0a (w.heap.size + 1 + 1) 32 (rootCells 0 0 false none 0 0 false none 0 0) := by rw [hW0a]; exact (RowAt.new' _ _ (by simp))
  have ZA1 := Lib.hid (hx.num ZA.out)
  have ZB1 := Lib.hid (hx.num ZB.out)
  have E1 := Lib.hid (E.out.trans hx)
  clear ZA ZB E
  have A_1 := Lib.hid A_n
  have B_1 := Lib.hid B_n
  have P_1 := Lib.hid P_n
  have HW0a := Lib.hid hW0a
  clear hx hW0a A_n B_n P_n
  go_enter Tryz.func14, Tryz.ntmps14
  go_wp2_with fail
  rw [← HW0a.out]
  refine (rright_z _ zn W0a ZA1.out).mono ?_
  rintro e w2_ ⟨rfl, hx⟩
  have ZA2 := Lib.hid (hx.num ZA1.out)
  have ZB2 := Lib.hid (hx.num ZB1.out)
  have E2 := Lib.hid (E1.out.trans hx)
  have A_2 := Lib.hid (hx.row A_1.out)
  have B_2 := Lib.hid (hx.row B_1.out)
  have P_2 := Lib.hid (hx.row P_1.out)
  clear ZA1 ZB1 E1 A_1 B_1 P_1
  clear hx
  have cB__num0_2 := B_2.out.num0
  have cB__num1_2 := B_2.out.num1
  go_wp2_with fail
  refine (rright_z _ zd w2_ ZB2.out).mono ?_
  rintro e w3_ ⟨rfl, hx⟩
  clear cB__num0_2 cB__num1_2
  have ZA3 := Lib.hid (hx.num ZA2.out)
  have ZB3 := Lib.hid (hx.num ZB2.out)
  have E3 := Lib.hid (E2.out.trans hx)
  have A_3 := Lib.hid (hx.row A_2.out)
  have B_3 := Lib.hid (hx.row B_2.out)
  have P_3 := Lib.hid (hx.row P_2.out)
  clear ZA2 ZB2 E2 A_2 B_2 P_2
  clear hx
  go_upto_region 3 with fail
  refine wp_region_tail (fun D ac w' => ∃ vs : Nat → Value, ac = { tmps := #[Value.int IntKind.i64 a, Value.int IntKind.i64 s, Value.agg #[Value.bool false, Value.slice p n c], Value.agg #[Value.bool false, Value.slice q m c2], undef, undef, Value.pointer (some { block := w.heap.size, off := 0 }), Value.pointer (some { block := w.heap.size + 1, off := 0 }), Value.pointer (some { block := w.heap.size + 1 + 1, off := 0 }), Value.bool false, Value.bool true, Value.bool true, undef, undef, undef, Value.agg #[Value.bool false, Value.slice p n c], Value.bool true, Value.agg #[Value.bool false, Value.slice q m c2], Value.bool true, vs 0, vs 1, vs 2, vs 3, vs 4, vs 5, vs 6, vs 7, vs 8, vs 9, vs 10, vs 11, vs 12, vs 13, vs 14, vs 15, vs 16, vs 17, vs 18, vs 19, vs 20, vs 21, vs 22, vs 23, vs 24, vs 25, undef, undef, undef, undef, undef, undef, undef, undef, undef, undef, undef, undef, undef, undef, undef, undef, undef, undef, undef, undef, undef, undef, undef, undef, undef, undef, undef, undef, undef, undef, undef, undef, undef, undef, undef, undef, undef, undef, undef, undef, undef, undef, undef, undef, undef, undef, undef, undef, undef, undef, undef, undef, undef, undef, undef, undef, undef, undef], defers := [] } ∧ Ext w3_ w' ∧ ∀ j, D j → q3F (.agg #[.bool false, .slice p n c]) (.agg #[.bool false, .slice q m c2]) s zn zd j (vs j) w') 26 (by kernel_rfl) (by kernel_rfl) (by kernel_rfl) ?start3 ?step3 ?fin3
  case start3 => exact ⟨fun _ => undef, rfl, Ext.drew _, fun _ h => h.elim⟩
  case step3 =>
    rintro i o D ac wz hin hio hnd he ⟨vs, rfl, k0, hF⟩
    rcases i with _ | _ | _ | _ | _ | _ | _ | _ | _ | _ | _ | _ | _ | _ | _ | _ | _ | _ | _ | _ | _ | _ | _ | _ | _ | _ | i
    rotate_left 26
    · exact absurd hin (by omega)
    all_goals (obtain rfl := Option.some.inj (hio.symm.trans (by rfl)))
    · refine step_yes (wanted_of_none rfl _) ?_
      exact wp_of_run (run_mov (.tmp 1) rfl _ rfl) ⟨upd vs 0 _, rfl, k0, inv_step hF (fun _ _ h => h) rfl⟩
    · refine step_yes (wanted_of_none rfl _) ?_
      exact wp_of_run (run_lss_int (.tmp 19) (.const (.int .i64 (-1))) rfl _ _ (by exact (hF 0 (he ⟨0, .data⟩ (by simp) rfl))) rfl) ⟨upd vs 1 _, rfl, k0, inv_step hF (fun _ _ h => h) (by show Value.bool _ = _; rw [decide_eq_false (by have := Hsr.out; omega)])⟩
    · refine step_yes (wanted_of_none rfl _) ?_
      exact wp_of_run (run_mov (.tmp 20) rfl _ (by exact (hF 1 (he ⟨1, .data⟩ (by simp) rfl)))) ⟨upd vs 2 _, rfl, k0, inv_step hF (fun _ _ h => h) rfl⟩
    · refine step_yes (wanted_g (j := 2) (d := 21) rfl rfl rfl (hF 2 (he ⟨2, .guard⟩ (by simp) rfl))) ?_
      exact wp_of_run (run_mov (.tmp 1) rfl _ rfl) ⟨upd vs 3 _, rfl, k0, inv_step hF (fun _ _ h => h) rfl⟩
    · refine step_yes (wanted_g (j := 2) (d := 21) rfl rfl rfl (hF 2 (he ⟨2, .guard⟩ (by simp) rfl))) ?_
      exact wp_of_run (run_gtr_int (.tmp 22) (.const (.int .i64 1)) rfl _ _ (by exact (hF 3 (he ⟨3, .data⟩ (by simp) rfl))) rfl) ⟨upd vs 4 _, rfl, k0, inv_step hF (fun _ _ h => h) (by show Value.bool _ = _; rw [decide_eq_false (by have := Hsr.out; omega)])⟩
    · refine step_yes (wanted_of_none rfl _) ?_
      exact wp_of_run (run_pick_f (.tmp 21) (.const (.bool true)) (.tmp 23) rfl (by exact (hF 2 (he ⟨2, .data⟩ (by simp) rfl)))) ⟨upd vs 5 _, rfl, k0, inv_step hF (fun _ _ h => h) (hF 4 (he ⟨4, .data⟩ (by simp) rfl))⟩
    · refine step_yes (wanted_of_none rfl _) ?_
      exact wp_of_run (run_mov (.tmp 24) rfl _ (by exact (hF 5 (he ⟨5, .data⟩ (by simp) rfl)))) ⟨upd vs 6 _, rfl, k0, inv_step hF (fun _ _ h => h) rfl⟩
    · refine step_yes (wanted_g (j := 6) (d := 25) rfl rfl rfl (hF 6 (he ⟨6, .guard⟩ (by simp) rfl))) ?_
      exact wp_of_run (run_mov (.tmp 10) rfl _ rfl) ⟨upd vs 7 _, rfl, k0, inv_step hF (fun _ _ h => h) rfl⟩
    · refine step_yes (wanted_g (j := 6) (d := 25) rfl rfl rfl (hF 6 (he ⟨6, .guard⟩ (by simp) rfl))) ?_
      exact wp_of_run (run_notb (.tmp 26) rfl true (by exact (hF 7 (he ⟨7, .data⟩ (by simp) rfl)))) ⟨upd vs 8 _, rfl, k0, inv_step hF (fun _ _ h => h) rfl⟩
    · refine step_yes (wanted_of_none rfl _) ?_
      exact wp_of_run (run_pick_f (.tmp 25) (.const (.bool true)) (.tmp 27) rfl (by exact (hF 6 (he ⟨6, .data⟩ (by simp) rfl)))) ⟨upd vs 9 _, rfl, k0, inv_step hF (fun _ _ h => h) (hF 8 (he ⟨8, .data⟩ (by simp) rfl))⟩
    · refine step_yes (wanted_of_none rfl _) ?_
      exact wp_of_run (run_mov (.tmp 28) rfl _ (by exact (hF 9 (he ⟨9, .data⟩ (by simp) rfl)))) ⟨upd vs 10 _, rfl, k0, inv_step hF (fun _ _ h => h) rfl⟩
    · refine step_yes (wanted_g (j := 10) (d := 29) rfl rfl rfl (hF 10 (he ⟨10, .guard⟩ (by simp) rfl))) ?_
      exact wp_of_run (run_mov (.tmp 11) rfl _ rfl) ⟨upd vs 11 _, rfl, k0, inv_step hF (fun _ _ h => h) rfl⟩
    · refine step_yes (wanted_g (j := 10) (d := 29) rfl rfl rfl (hF 10 (he ⟨10, .guard⟩ (by simp) rfl))) ?_
      exact wp_of_run (run_notb (.tmp 30) rfl true (by exact (hF 11 (he ⟨11, .data⟩ (by simp) rfl)))) ⟨upd vs 12 _, rfl, k0, inv_step hF (fun _ _ h => h) rfl⟩
    · refine step_yes (wanted_of_none rfl _) ?_
      exact wp_of_run (run_pick_f (.tmp 29) (.const (.bool true)) (.tmp 31) rfl (by exact (hF 10 (he ⟨10, .data⟩ (by simp) rfl)))) ⟨upd vs 13 _, rfl, k0, inv_step hF (fun _ _ h => h) (hF 12 (he ⟨12, .data⟩ (by simp) rfl))⟩
    · refine step_yes (wanted_of_none rfl _) ?_
      exact wp_of_run (run_mov (.tmp 32) rfl _ (by exact (hF 13 (he ⟨13, .data⟩ (by simp) rfl)))) ⟨upd vs 14 _, rfl, k0, inv_step hF (fun _ _ h => h) rfl⟩
    · refine step_yes (wanted_g (j := 14) (d := 33) rfl rfl rfl (hF 14 (he ⟨14, .guard⟩ (by simp) rfl))) ?_
      exact wp_of_run (run_load_num (.tmp 6) rfl _ rfl _ _ _ _ _ (k0.row A_3.out)) ⟨upd vs 15 _, rfl, k0, inv_step hF (fun _ _ h => h) rfl⟩
    · refine step_yes (wanted_g (j := 14) (d := 33) rfl rfl rfl (hF 14 (he ⟨14, .chain⟩ (by simp) rfl))) ?_
      refine wp_of_callE (run_enter0 42 _ rfl ent_rzero) (rzero_n wz) ?_
      rintro e w' ⟨rr, rfl, hz, hx⟩
      exact ⟨_, rfl, upd vs 16 _, rfl, k0.trans hx, inv_step hF (fun j v h => q3F_mono hx j v h) hz⟩
    · refine step_yes (wanted_g (j := 14) (d := 33) rfl rfl rfl (hF 14 (he ⟨14, .guard⟩ (by simp) rfl))) ?_
      refine wp_of_callE (run_enter2 41 (.tmp 34) (.tmp 35) _ rfl _ _ (by exact (hF 15 (he ⟨15, .data⟩ (by simp) rfl))) rfl ent_rcmp1) (rcmp_ok _ _ zn 0 wz (k0.num ZA3.out) (hF 16 (he ⟨16, .data⟩ (by simp) rfl))) ?_
      rintro e w' ⟨rfl, hx⟩
      exact ⟨_, rfl, upd vs 17 _, rfl, k0.trans hx, inv_step hF (fun j v h => q3F_mono hx j v h) rfl⟩
    · refine step_yes (wanted_g (j := 14) (d := 33) rfl rfl rfl (hF 14 (he ⟨14, .guard⟩ (by simp) rfl))) ?_
      exact wp_of_run (run_lss_int (.tmp 36) (.const (.int .i64 0)) rfl _ _ (by exact (hF 17 (he ⟨17, .data⟩ (by simp) rfl))) rfl) ⟨upd vs 18 _, rfl, k0, inv_step hF (fun _ _ h => h) (by show Value.bool _ = _; rw [decide_eq_false (by have := Hn0.out; omega)])⟩
    · refine step_yes (wanted_of_none rfl _) ?_
      exact wp_of_run (run_pick_f (.tmp 33) (.const (.bool true)) (.tmp 37) rfl (by exact (hF 14 (he ⟨14, .data⟩ (by simp) rfl)))) ⟨upd vs 19 _, rfl, k0, inv_step hF (fun _ _ h => h) (hF 18 (he ⟨18, .data⟩ (by simp) rfl))⟩
    · refine step_yes (wanted_of_none rfl _) ?_
      exact wp_of_run (run_mov (.tmp 38) rfl _ (by exact (hF 19 (he ⟨19, .data⟩ (by simp) rfl)))) ⟨upd vs 20 _, rfl, k0, inv_step hF (fun _ _ h => h) rfl⟩
    · refine step_yes (wanted_g (j := 20) (d := 39) rfl rfl rfl (hF 20 (he ⟨20, .guard⟩ (by simp) rfl))) ?_
      exact wp_of_run (run_load_num (.tmp 7) rfl _ rfl _ _ _ _ _ (k0.row B_3.out)) ⟨upd vs 21 _, rfl, k0, inv_step hF (fun _ _ h => h) rfl⟩
    · refine step_yes (wanted_g (j := 20) (d := 39) rfl rfl rfl (hF 20 (he ⟨20, .chain⟩ (by simp) rfl))) ?_
      refine wp_of_callE (run_enter0 42 _ rfl ent_rzero) (rzero_n wz) ?_
      rintro e w' ⟨rr, rfl, hz, hx⟩
      exact ⟨_, rfl, upd vs 22 _, rfl, k0.trans hx, inv_step hF (fun j v h => q3F_mono hx j v h) hz⟩
    · refine step_yes (wanted_g (j := 20) (d := 39) rfl rfl rfl (hF 20 (he ⟨20, .guard⟩ (by simp) rfl))) ?_
      refine wp_of_callE (run_enter2 41 (.tmp 40) (.tmp 41) _ rfl _ _ (by exact (hF 21 (he ⟨21, .data⟩ (by simp) rfl))) rfl ent_rcmp1) (rcmp_ok _ _ zd 0 wz (k0.num ZB3.out) (hF 22 (he ⟨22, .data⟩ (by simp) rfl))) ?_
      rintro e w' ⟨rfl, hx⟩
      exact ⟨_, rfl, upd vs 23 _, rfl, k0.trans hx, inv_step hF (fun j v h => q3F_mono hx j v h) rfl⟩
    · refine step_yes (wanted_g (j := 20) (d := 39) rfl rfl rfl (hF 20 (he ⟨20, .guard⟩ (by simp) rfl))) ?_
      exact wp_of_run (run_leq_int (.tmp 42) (.const (.int .i64 0)) rfl _ _ (by exact (hF 23 (he ⟨23, .data⟩ (by simp) rfl))) rfl) ⟨upd vs 24 _, rfl, k0, inv_step hF (fun _ _ h => h) (by show Value.bool _ = _; rw [decide_eq_false (by rw [Hc.out]; decide)])⟩
    · refine step_yes (wanted_of_none rfl _) ?_
      exact wp_of_run (run_pick_f (.tmp 39) (.const (.bool true)) (.tmp 43) rfl (by exact (hF 20 (he ⟨20, .data⟩ (by simp) rfl)))) ⟨upd vs 25 _, rfl, k0, inv_step hF (fun _ _ h => h) (hF 24 (he ⟨24, .data⟩ (by simp) rfl))⟩
  case fin3 =>
    rintro D ac wf3 hD ⟨vs, rfl, k0, hF⟩
    change wpList _ _ _ [] _ _
    unfold wpList
    have h25 : vs 25 = .bool false := hF 25 (hD 25 (by decide))
    rw [h25]
    have ZA4 := Lib.hid (k0.num ZA3.out)
    have ZB4 := Lib.hid (k0.num ZB3.out)
    have E4 := Lib.hid (E3.out.trans k0)
    have A_4 := Lib.hid (k0.row A_3.out)
    have B_4 := Lib.hid (k0.row B_3.out)
    have P_4 := Lib.hid (k0.row P_3.out)
    clear ZA3 ZB3 E3 A_3 B_3 P_3
    clear hF hD h25 k0
    generalize vs = t3
    have cA__num0_4 := A_4.out.num0
    have cA__num1_4 := A_4.out.num1
    have cB__num0_4 := B_4.out.num0
    have cB__num1_4 := B_4.out.num1
    have LP3 := Lib.hid (show w.heap.size + 1 + 1 < wf3.heap.size from by have h := P_4.out.lt; exact h)
    obtain ⟨W4b, hW4b⟩ : ∃ W4b, W4b = (wf3.alloc (.cells #[.int .i64 0, .int .i64 0, .bool false, .slice none 0 0, .bool false, .slice none 0 0] 32)).setRow wf3.heap.size (rootCells a s false p n c false q m c2) := ⟨_, rfl⟩
    have hx : Ext wf3 W4b := by rw [hW4b]; exact ext_setRow (Ext.alloc _ _) (Nat.le_refl _) _
    have C_n : RowAt W4b wf3.heap.size 32 (rootCells a s false p n c false q m c2) := by rw [hW4b]; exact (RowAt.new _ _ _).setRow _
    have ZA5 := Lib.hid (hx.num ZA4.out)
    have ZB5 := Lib.hid (hx.num ZB4.out)
    have E5 := Lib.hid (E4.out.trans hx)
    have A_5 := Lib.hid (hx.row A_4.out)
    have B_5 := Lib.hid (hx.row B_4.out)
    have P_5 := Lib.hid (hx.row P_4.out)
    clear ZA4 ZB4 E4 A_4 B_4 P_4
    have C_5 := Lib.hid C_n
    have HW4b := Lib.hid hW4b
    clear hx hW4b C_n
    go_upto_region 6 with (first | (refine store_root rfl (.tmp 12) (.tmp 50) rfl wf3.heap.size rfl _ _ _ _ _ _ _ _ _ _ rfl _ _ (RowAt.new' _ _ rfl) rfl ?_; rw [← HW4b.out]))
    go_upto_region 6 with fail
    clear cA__num0_4 cA__num1_4 cB__num0_4 cB__num1_4
    refine wp_region_tail (fun D ac w' => ∃ vs : Nat → Value, ac = { tmps := #[Value.int IntKind.i64 a, Value.int IntKind.i64 s, Value.agg #[Value.bool false, Value.slice p n c], Value.agg #[Value.bool false, Value.slice q m c2], undef, undef, Value.pointer (some { block := w.heap.size, off := 0 }), Value.pointer (some { block := w.heap.size + 1, off := 0 }), Value.pointer (some { block := w.heap.size + 1 + 1, off := 0 }), Value.bool false, Value.bool true, Value.bool true, Value.pointer (some { block := wf3.heap.size, off := 0 }), undef, undef, Value.agg #[Value.bool false, Value.slice p n c], Value.bool true, Value.agg #[Value.bool false, Value.slice q m c2], Value.bool true, t3 0, t3 1, t3 2, t3 3, t3 4, t3 5, t3 6, t3 7, t3 8, t3 9, t3 10, t3 11, t3 12, t3 13, t3 14, t3 15, t3 16, t3 17, t3 18, t3 19, t3 20, t3 21, t3 22, t3 23, t3 24, Value.bool false, undef, Value.int IntKind.i64 a, Value.int IntKind.i64 s, Value.agg #[Value.bool false, Value.slice p n c], Value.agg #[Value.bool false, Value.slice q m c2], Value.agg #[Value.int IntKind.i64 a, Value.int IntKind.i64 s, Value.bool false, Value.slice p n c, Value.bool false, Value.slice q m c2], vs 0, vs 1, vs 2, vs 3, vs 4, vs 5, vs 6, vs 7, undef, undef, undef, undef, undef, undef, undef, undef, undef, undef, undef, undef, undef, undef, undef, undef, undef, undef, undef, undef, undef, undef, undef, undef, undef, undef, undef, undef, undef, undef, undef, undef, undef, undef, undef, undef, undef, undef, undef, undef, undef, undef, undef, undef], defers := [] } ∧ Ext W4b w' ∧ ∀ j, D j → q6F (.agg #[.bool false, .slice p n c]) s zn false j (vs j) w') 8 (by kernel_rfl) (by kernel_rfl) (by kernel_rfl) ?start6 ?step6 ?fin6
    case start6 => exact ⟨fun _ => undef, rfl, Ext.drew _, fun _ h => h.elim⟩
    case step6 =>
      rintro i o D ac wz hin hio hnd he ⟨vs, rfl, k0, hF⟩
      rcases i with _ | _ | _ | _ | _ | _ | _ | _ | i
      rotate_left 8
      · exact absurd hin (by omega)
      all_goals (obtain rfl := Option.some.inj (hio.symm.trans (by rfl)))
      · refine step_yes (wanted_of_none rfl _) ?_
        exact wp_of_run (run_mov (.tmp 1) rfl _ rfl) ⟨upd vs 0 _, rfl, k0, inv_step hF (fun _ _ h => h) rfl⟩
      · refine step_yes (wanted_of_none rfl _) ?_
        exact wp_of_run (run_eql_int (.tmp 51) (.const (.int .i64 0)) rfl _ _ (by exact (hF 0 (he ⟨0, .data⟩ (by simp) rfl))) rfl) ⟨upd vs 1 _, rfl, k0, inv_step hF (fun _ _ h => h) (by show Value.bool _ = _; have := HS0.out; simp [this])⟩
      · refine step_yes (wanted_of_none rfl _) ?_
        exact wp_of_run (run_mov (.tmp 52) rfl _ (by exact (hF 1 (he ⟨1, .data⟩ (by simp) rfl)))) ⟨upd vs 2 _, rfl, k0, inv_step hF (fun _ _ h => h) rfl⟩
      · refine step_yes (wanted_g (j := 2) (d := 53) rfl rfl rfl (hF 2 (he ⟨2, .guard⟩ (by simp) rfl))) ?_
        exact wp_of_run (run_load_num (.tmp 6) rfl _ rfl _ _ _ _ _ (k0.row A_5.out)) ⟨upd vs 3 _, rfl, k0, inv_step hF (fun _ _ h => h) rfl⟩
      · refine step_yes (wanted_g (j := 2) (d := 53) rfl rfl rfl (hF 2 (he ⟨2, .chain⟩ (by simp) rfl))) ?_
        refine wp_of_callE (run_enter0 42 _ rfl ent_rzero) (rzero_n wz) ?_
        rintro e w' ⟨rr, rfl, hz, hx⟩
        exact ⟨_, rfl, upd vs 4 _, rfl, k0.trans hx, inv_step hF (fun j v h => q6F_mono hx j v h) hz⟩
      · refine step_yes (wanted_g (j := 2) (d := 53) rfl rfl rfl (hF 2 (he ⟨2, .guard⟩ (by simp) rfl))) ?_
        refine wp_of_callE (run_enter2 41 (.tmp 54) (.tmp 55) _ rfl _ _ (by exact (hF 3 (he ⟨3, .data⟩ (by simp) rfl))) rfl ent_rcmp1) (rcmp_ok _ _ zn 0 wz (k0.num ZA5.out) (hF 4 (he ⟨4, .data⟩ (by simp) rfl))) ?_
        rintro e w' ⟨rfl, hx⟩
        exact ⟨_, rfl, upd vs 5 _, rfl, k0.trans hx, inv_step hF (fun j v h => q6F_mono hx j v h) rfl⟩
      · refine step_yes (wanted_g (j := 2) (d := 53) rfl rfl rfl (hF 2 (he ⟨2, .guard⟩ (by simp) rfl))) ?_
        exact wp_of_run (run_eql_int (.tmp 56) (.const (.int .i64 0)) rfl _ _ (by exact (hF 5 (he ⟨5, .data⟩ (by simp) rfl))) rfl) ⟨upd vs 6 _, rfl, k0, inv_step hF (fun _ _ h => h) rfl⟩
      · refine step_yes (wanted_of_none rfl _) ?_
        exact wp_of_run (run_pick_f (.tmp 53) (.const (.bool true)) (.tmp 57) rfl (by exact (hF 2 (he ⟨2, .data⟩ (by simp) rfl)))) ⟨upd vs 7 _, rfl, k0, inv_step hF (fun _ _ h => h) (hF 6 (he ⟨6, .data⟩ (by simp) rfl))⟩
    case fin6 =>
      rintro D ac wf6 hD ⟨vs, rfl, k0, hF⟩
      change wpList _ _ _ [] _ _
      unfold wpList
      have h7 : vs 7 = .bool false := by have h := hF 7 (hD 7 (by decide)); have hz : (zcmp zn 0 == 0) = false := (by rw [zcmp_sign]; have := HZ0.out; simpa using this); rw [show vs 7 = Value.bool (false || (zcmp zn 0 == 0)) from h, hz]; rfl
      rw [h7]
      have ZA6 := Lib.hid (k0.num ZA5.out)
      have ZB6 := Lib.hid (k0.num ZB5.out)
      have E6 := Lib.hid (E5.out.trans k0)
      have A_6 := Lib.hid (k0.row A_5.out)
      have B_6 := Lib.hid (k0.row B_5.out)
      have P_6 := Lib.hid (k0.row P_5.out)
      have C_6 := Lib.hid (k0.row C_5.out)
      clear ZA5 ZB5 E5 A_5 B_5 P_5 C_5
      clear hF hD h7 k0
      generalize vs = t6
      have LC := Lib.hid (show w.heap.size + 1 + 1 < wf3.heap.size from LP3.out)
      have cC__root2_6 := C_6.out.root2
      have cC__root3_6 := C_6.out.root3
      have cC__root4_6 := C_6.out.root4
      have cC__root5_6 := C_6.out.root5
      go_wp2_with fail
      refine (rgcd_z _ _ zn zd (gcdZ zn zd) wf6 ZA6.out ZB6.out rfl).mono ?_
      rintro e w7_ ⟨pg, ng, cg, rfl, hz, hx⟩
      clear cC__root2_6 cC__root3_6 cC__root4_6 cC__root5_6
      have ZA7 := Lib.hid (hx.num ZA6.out)
      have ZB7 := Lib.hid (hx.num ZB6.out)
      have E7 := Lib.hid (E6.out.trans hx)
      have A_7 := Lib.hid (hx.row A_6.out)
      have B_7 := Lib.hid (hx.row B_6.out)
      have P_7 := Lib.hid (hx.row P_6.out)
      have C_7 := Lib.hid (hx.row C_6.out)
      clear ZA6 ZB6 E6 A_6 B_6 P_6 C_6
      have ZG7 := Lib.hid hz
      clear hx hz
      have LG := Lib.hid (show wf3.heap.size < w7_.heap.size from C_7.out.lt)
      obtain ⟨W7b, hW7b⟩ : ∃ W7b, W7b = (w7_.alloc (.cells #[.bool false, .slice none 0 0] 25)).setRow w7_.heap.size (numCells false pg ng cg) := ⟨_, rfl⟩
      have hx : Ext w7_ W7b := by rw [hW7b]; exact ext_setRow (Ext.alloc _ _) (Nat.le_refl _) _
      have G_n : RowAt W7b w7_.heap.size 25 (numCells false pg ng cg) := by rw [hW7b]; exact (RowAt.new _ _ _).setRow _
      have ZA8 := Lib.hid (hx.num ZA7.out)
      have ZB8 := Lib.hid (hx.num ZB7.out)
      have E8 := Lib.hid (E7.out.trans hx)
      have A_8 := Lib.hid (hx.row A_7.out)
      have B_8 := Lib.hid (hx.row B_7.out)
      have P_8 := Lib.hid (hx.row P_7.out)
      have C_8 := Lib.hid (hx.row C_7.out)
      have ZG8 := Lib.hid (hx.num ZG7.out)
      clear ZA7 ZB7 E7 A_7 B_7 P_7 C_7 ZG7
      have G_8 := Lib.hid G_n
      have HW7b := Lib.hid hW7b
      clear hx hW7b G_n
      have cC__root2_8 := C_8.out.root2
      have cC__root3_8 := C_8.out.root3
      have cG__num0_8 := G_8.out.num0
      have cG__num1_8 := G_8.out.num1
      go_wp2_with (first | (refine store_num rfl (.tmp 13) (.tmp 69) rfl w7_.heap.size rfl _ _ _ _ rfl _ _ (RowAt.new' _ _ rfl) rfl ?_; rw [← HW7b.out]))
      refine (rdiv_ok _ _ zn (gcdZ zn zd) false false W7b ZA8.out ZG8.out (gcdZ_pos (by first | exact H01.out.2 | decide)) (by have h1 := gcdZ_pos (a := zn) (b := zd) (by first | exact H01.out.2 | decide); have h2 := Int.ediv_nonneg (a := zn) (b := gcdZ zn zd) (by first | exact H01.out.1 | (have := H01.out; omega) | decide) (by omega); simp <;> omega) (by have h1 := gcdZ_pos (a := zn) (b := zd) (by first | exact H01.out.2 | decide); have h2 := Int.emod_nonneg zn (b := gcdZ zn zd) (by omega); simp <;> omega)).mono ?_
      rintro e w9_ ⟨p5, n5, c5, p8, n8, c8, rfl, hz, hz8, hx⟩
      clear cC__root2_8 cC__root3_8 cG__num0_8 cG__num1_8
      have ZA9 := Lib.hid (hx.num ZA8.out)
      have ZB9 := Lib.hid (hx.num ZB8.out)
      have E9 := Lib.hid (E8.out.trans hx)
      have A_9 := Lib.hid (hx.row A_8.out)
      have B_9 := Lib.hid (hx.row B_8.out)
      have P_9 := Lib.hid (hx.row P_8.out)
      have C_9 := Lib.hid (hx.row C_8.out)
      have ZG9 := Lib.hid (hx.num ZG8.out)
      have G_9 := Lib.hid (hx.row G_8.out)
      clear ZA8 ZB8 E8 A_8 B_8 P_8 C_8 ZG8 G_8
      have ZQ9 := Lib.hid hz
      clear hx hz
      clear hz8
      obtain ⟨W9c, hW9c⟩ : ∃ W9c, W9c = w9_.setRow wf3.heap.size (rootCells a s false p5 n5 c5 false q m c2) := ⟨_, rfl⟩
      have ZA10 := Lib.hid (show ZNum W9c.heap.size W9c _ _ from by rw [hW9c, setRow_size]; exact ZA9.out.setRoot C_9.out _)
      have ZB10 := Lib.hid (show ZNum W9c.heap.size W9c _ _ from by rw [hW9c, setRow_size]; exact ZB9.out.setRoot C_9.out _)
      have E10 : Hid (Ext w W9c) := by rw [hW9c]; exact ext_setRow E9.out (by have := LC.out; omega) _
      have A_10 := Lib.hid (show RowAt W9c (w.heap.size) _ _ from by rw [hW9c]; exact A_9.out.setRowOther _ (by first | (have := LC.out; omega) | (have := LG.out; omega)))
      have B_10 := Lib.hid (show RowAt W9c (w.heap.size + 1) _ _ from by rw [hW9c]; exact B_9.out.setRowOther _ (by first | (have := LC.out; omega) | (have := LG.out; omega)))
      have P_10 := Lib.hid (show RowAt W9c (w.heap.size + 1 + 1) _ _ from by rw [hW9c]; exact P_9.out.setRowOther _ (by first | (have := LC.out; omega) | (have := LG.out; omega)))
      have C_10 : Hid (RowAt W9c wf3.heap.size 32 (rootCells a s false p5 n5 c5 false q m c2)) := by rw [hW9c]; exact C_9.out.setRow _
      have ZG10 := Lib.hid (show ZNum W9c.heap.size W9c _ _ from by rw [hW9c, setRow_size]; exact ZG9.out.setRoot C_9.out _)
      have G_10 := Lib.hid (show RowAt W9c w7_.heap.size _ _ from by rw [hW9c]; exact G_9.out.setRowOther _ (by first | (have := LC.out; omega) | (have := LG.out; omega)))
      have ZQ10 := Lib.hid (show ZNum W9c.heap.size W9c _ _ from by rw [hW9c, setRow_size]; exact ZQ9.out.setRoot C_9.out _)
      have HW9c := Lib.hid hW9c
      clear hW9c ZA9 ZB9 E9 A_9 B_9 P_9 ZG9 G_9 ZQ9
      have cC__root4_10 := C_10.out.root4
      have cC__root5_10 := C_10.out.root5
      have cG__num0_10 := G_10.out.num0
      have cG__num1_10 := G_10.out.num1
      go_wp2_with (first | (refine store_rN rfl (.tmp 79) (.tmp 76) rfl _ rfl false p5 n5 c5 rfl _ _ _ _ _ _ _ _ _ _ _ C_9.out ?_; rw [← HW9c.out]))
      refine (rdiv_ok _ _ zd (gcdZ zn zd) false false W9c ZB10.out ZG10.out (gcdZ_pos (by first | exact H01.out.2 | decide)) (by have h1 := gcdZ_pos (a := zn) (b := zd) (by first | exact H01.out.2 | decide); have h2 := Int.ediv_nonneg (a := zd) (b := gcdZ zn zd) (by first | exact H01.out.1 | (have := H01.out; omega) | decide) (by omega); simp <;> omega) (by have h1 := gcdZ_pos (a := zn) (b := zd) (by first | exact H01.out.2 | decide); have h2 := Int.emod_nonneg zd (b := gcdZ zn zd) (by omega); simp <;> omega)).mono ?_
      rintro e w11_ ⟨p6, n6, c6, p9, n9, c9, rfl, hz, hz8, hx⟩
      clear cC__root4_10 cC__root5_10 cG__num0_10 cG__num1_10
      have ZA11 := Lib.hid (hx.num ZA10.out)
      have ZB11 := Lib.hid (hx.num ZB10.out)
      have E11 := Lib.hid (E10.out.trans hx)
      have A_11 := Lib.hid (hx.row A_10.out)
      have B_11 := Lib.hid (hx.row B_10.out)
      have P_11 := Lib.hid (hx.row P_10.out)
      have C_11 := Lib.hid (hx.row C_10.out)
      have ZG11 := Lib.hid (hx.num ZG10.out)
      have G_11 := Lib.hid (hx.row G_10.out)
      have ZQ11 := Lib.hid (hx.num ZQ10.out)
      clear ZA10 ZB10 E10 A_10 B_10 P_10 C_10 ZG10 G_10 ZQ10
      have ZR11 := Lib.hid hz
      clear hx hz
      clear hz8
      obtain ⟨W11c, hW11c⟩ : ∃ W11c, W11c = w11_.setRow wf3.heap.size (rootCells a s false p5 n5 c5 false p6 n6 c6) := ⟨_, rfl⟩
      have ZA12 := Lib.hid (show ZNum W11c.heap.size W11c _ _ from by rw [hW11c, setRow_size]; exact ZA11.out.setRoot C_11.out _)
      have ZB12 := Lib.hid (show ZNum W11c.heap.size W11c _ _ from by rw [hW11c, setRow_size]; exact ZB11.out.setRoot C_11.out _)
      have E12 : Hid (Ext w W11c) := by rw [hW11c]; exact ext_setRow E11.out (by have := LC.out; omega) _
      have A_12 := Lib.hid (show RowAt W11c (w.heap.size) _ _ from by rw [hW11c]; exact A_11.out.setRowOther _ (by first | (have := LC.out; omega) | (have := LG.out; omega)))
      have B_12 := Lib.hid (show RowAt W11c (w.heap.size + 1) _ _ from by rw [hW11c]; exact B_11.out.setRowOther _ (by first | (have := LC.out; omega) | (have := LG.out; omega)))
      have P_12 := Lib.hid (show RowAt W11c (w.heap.size + 1 + 1) _ _ from by rw [hW11c]; exact P_11.out.setRowOther _ (by first | (have := LC.out; omega) | (have := LG.out; omega)))
      have C_12 : Hid (RowAt W11c wf3.heap.size 32 (rootCells a s false p5 n5 c5 false p6 n6 c6)) := by rw [hW11c]; exact C_11.out.setRow _
      have ZG12 := Lib.hid (show ZNum W11c.heap.size W11c _ _ from by rw [hW11c, setRow_size]; exact ZG11.out.setRoot C_11.out _)
      have G_12 := Lib.hid (show RowAt W11c w7_.heap.size _ _ from by rw [hW11c]; exact G_11.out.setRowOther _ (by first | (have := LC.out; omega) | (have := LG.out; omega)))
      have ZQ12 := Lib.hid (show ZNum W11c.heap.size W11c _ _ from by rw [hW11c, setRow_size]; exact ZQ11.out.setRoot C_11.out _)
      have ZR12 := Lib.hid (show ZNum W11c.heap.size W11c _ _ from by rw [hW11c, setRow_size]; exact ZR11.out.setRoot C_11.out _)
      have HW11c := Lib.hid hW11c
      clear hW11c ZA11 ZB11 E11 A_11 B_11 P_11 ZG11 G_11 ZQ11 ZR11
      have ZQx := Lib.hid (show ZNum W11c.heap.size W11c _ N from by rw [← HNM.out.1]; exact ZQ12.out)
      have ZRx := Lib.hid (show ZNum W11c.heap.size W11c _ M from by rw [← HNM.out.2]; exact ZR12.out)
      clear ZQ12 ZR12
      have Ln : Hid (fitK 8 N = decide (n5 ≤ 8)) := by show fitK 8 N = _; unfold fitK; rw [u32s_len (znum_slice ZQx.out)]
      have Lm : Hid (fitK 8 M = decide (n6 ≤ 8)) := by show fitK 8 M = _; unfold fitK; rw [u32s_len (znum_slice ZRx.out)]
      have cC__root0_12 := C_12.out.root0
      have cC__root1_12 := C_12.out.root1
      have cC__root2_12 := C_12.out.root2
      have cC__root3_12 := C_12.out.root3
      have cC__root4_12 := C_12.out.root4
      have cC__root5_12 := C_12.out.root5
      by_cases hf1 : 8 < n5
      · have hf1' : (8 : Int) < (n5 : Int) := by omega
        go_wp2_with (first | (refine store_rD rfl (.tmp 88) (.tmp 85) rfl _ rfl false p6 n6 c6 rfl _ _ _ _ _ _ _ _ _ _ _ C_11.out ?_; rw [← HW11c.out]) | (refine store_root rfl (.tmp 8) (.tmp 101) rfl _ rfl 0 0 false none 0 0 false none 0 0 rfl _ _ P_12.out rfl ?_) | (refine load_root rfl (.tmp 12) rfl _ rfl _ _ _ _ _ _ _ _ _ _ _ C_12.out ?_) | (refine store_root rfl (.tmp 8) (.tmp 102) rfl _ rfl _ _ _ _ _ _ _ _ _ _ rfl _ _ P_12.out rfl ?_))
        exact ret_root rfl _ rfl _ rfl _ _ _ _ _ _ _ _ _ _ _ (P_12.out.setRow _) (HRf.out _ _ _ E12.out (by omega) (by show (fitK 8 N && fitK 8 M) = false; rw [Ln.out, decide_eq_false (by omega)]; rfl))
      have hf1' : ¬ (8 : Int) < (n5 : Int) := by omega
      by_cases hf2 : 8 < n6
      · have hf2' : (8 : Int) < (n6 : Int) := by omega
        go_wp2_with (first | (refine store_rD rfl (.tmp 88) (.tmp 85) rfl _ rfl false p6 n6 c6 rfl _ _ _ _ _ _ _ _ _ _ _ C_11.out ?_; rw [← HW11c.out]) | (refine store_root rfl (.tmp 8) (.tmp 101) rfl _ rfl 0 0 false none 0 0 false none 0 0 rfl _ _ P_12.out rfl ?_) | (refine load_root rfl (.tmp 12) rfl _ rfl _ _ _ _ _ _ _ _ _ _ _ C_12.out ?_) | (refine store_root rfl (.tmp 8) (.tmp 102) rfl _ rfl _ _ _ _ _ _ _ _ _ _ rfl _ _ P_12.out rfl ?_))
        exact ret_root rfl _ rfl _ rfl _ _ _ _ _ _ _ _ _ _ _ (P_12.out.setRow _) (HRf.out _ _ _ E12.out (by omega) (by show (fitK 8 N && fitK 8 M) = false; rw [Lm.out, decide_eq_false (show ¬ n6 ≤ 8 by omega)]; simp))
      have hf2' : ¬ (8 : Int) < (n6 : Int) := by omega
      go_wp2_with (first | (refine store_rD rfl (.tmp 88) (.tmp 85) rfl _ rfl false p6 n6 c6 rfl _ _ _ _ _ _ _ _ _ _ _ C_11.out ?_; rw [← HW11c.out]) | (refine store_root rfl (.tmp 8) (.tmp 101) rfl _ rfl 0 0 false none 0 0 false none 0 0 rfl _ _ P_12.out rfl ?_) | (refine load_root rfl (.tmp 12) rfl _ rfl _ _ _ _ _ _ _ _ _ _ _ C_12.out ?_) | (refine store_root rfl (.tmp 8) (.tmp 102) rfl _ rfl _ _ _ _ _ _ _ _ _ _ rfl _ _ P_12.out rfl ?_))
      exact ret_root rfl _ rfl _ rfl _ _ _ _ _ _ _ _ _ _ _ (P_12.out.setRow _) (HRs.out _ _ _ _ _ _ _ _ _ E12.out (by omega) (by show (fitK 8 N && fitK 8 M) = true; rw [Ln.out, Lm.out, decide_eq_true (by omega), decide_eq_true (by omega)]; rfl) (ZNum.setRoot ZQx.out P_12.out _) (ZNum.setRoot ZRx.out P_12.out _))
end Go.Proofs.YtegjcikofmphjaaGreatDoor
/- The reference of layer 2: Of, of right numbers: another case. -/
namespace Go.Proofs.YtegjcikofmphjaaGreatDoor
open Go Go.RowKit Go.Shelf
set_option maxRecDepth 100000 in
set_option maxHeartbeats 8000000 in
theorem r2of_szero (va vb : Value) (a s zn zd : Int) (w : World) (ha : ZNum w.heap.size w va zn) (hb : ZNum w.heap.size w vb zd) (h0 : 0 ≤ zn) (h1 : 0 < zd) (hs : -1 ≤ s) (hs' : s ≤ 1) (hs0 : s = 0) (hz0 : True) :
    Calls Tryz.prog 14 #[.int .i64 a, .int .i64 s, va, vb] w (OfPost w a s zn zd) := by
  obtain ⟨p, c, rfl⟩ := ha.parts
  obtain ⟨q, c2, rfl⟩ := hb.parts
  have d0 : decide (zn < 0) = false := by simp; omega
  have d1 : decide (zd < 0) = false := by simp; omega
  rw [d0] at ha ⊢
  rw [d1] at hb ⊢
  generalize (digs zn.natAbs).length = n at *
  generalize (digs zd.natAbs).length = m at *
  obtain ⟨N, hN⟩ : ∃ N, N = ofN s zn zd := ⟨_, rfl⟩
  obtain ⟨M, hM⟩ : ∃ M, M = ofD s zn zd := ⟨_, rfl⟩
  obtain ⟨R, hR⟩ : ∃ R, R = OfPost w a s zn zd := ⟨_, rfl⟩
  rw [← hR]
  have hNM : (0 : Int) = N ∧ (1 : Int) = M := by
    rw [hN, hM]; unfold ofN ofD; rw [if_pos hs0, if_pos hs0]; exact ⟨rfl, rfl⟩
  have hsv : (0 : Int) = s * N.sign := by
    rw [hs0, Int.zero_mul]
  have HRf : Hid (∀ (W : World) (g : Nat) (cs : Array Value), Ext w W → w.heap.size ≤ g → (fit8 N && fit8 M) = false → R (.returned (.tuple #[root0, .bool false])) (W.setRow g cs)) := by
    intro W g cs h1 h2 h3
    rw [hR]
    refine ⟨ext_setRow h1 h2 _, ?_⟩
    rw [← hN, ← hM, h3]
    rfl
  have HRs : Hid (∀ (W : World) (g : Nat) (cs : Array Value) (p5 : Option Addr) (n5 c5 : Nat) (p6 : Option Addr) (n6 c6 : Nat), Ext w W → w.heap.size ≤ g → (fit8 N && fit8 M) = true → ZNum W.heap.size (W.setRow g cs) (.agg #[.bool false, .slice p5 n5 c5]) N → ZNum W.heap.size (W.setRow g cs) (.agg #[.bool false, .slice p6 n6 c6]) M → R (.returned (.tuple #[.agg #[.int .i64 a, .int .i64 ((0 : Int)), .bool false, .slice p5 n5 c5, .bool false, .slice p6 n6 c6], .bool true])) (W.setRow g cs)) := by
    intro W g cs p5 n5 c5 p6 n6 c6 h1 h2 h3 h4 h5
    rw [hR]
    refine ⟨ext_setRow h1 h2 _, ?_⟩
    rw [← hN, ← hM, h3]
    exact ⟨_, rfl, _, _, _, _, _, _, by rw [← hsv], by rw [setRow_size]; exact h4, by rw [setRow_size]; exact h5⟩
  have HNM := Lib.hid hNM
  have Hc : Hid (zcmp zd 0 = 1) := by show zcmp zd 0 = 1; rw [zcmp_sign]; exact Int.sign_eq_one_of_pos h1
  have hzn3 : zcmp zn 0 = 0 ∨ zcmp zn 0 = 1 := by unfold zcmp; rw [if_neg (by omega)]; split <;> simp
  have Hn0 : Hid (¬ zcmp zn 0 < 0) := by show ¬ zcmp zn 0 < 0; omega
  clear hzn3
  have HS0 := Lib.hid hs0
  have HZ0 := Lib.hid hz0
  have H01 := Lib.hid (And.intro h0 h1)
  have Hsr := Lib.hid (And.intro hs hs')
  have ZA := Lib.hid ha
  have ZB := Lib.hid hb
  have E := Lib.hid (Ext.refl w)
  clear ha hb d0 d1 h0 h1 hs hs' hN hM hR hNM hsv hs0 hz0
  obtain ⟨W0a, hW0a⟩ : ∃ W0a, W0a = (((w.alloc (.cells #[.bool false, .slice p n c] 25)).alloc (.cells #[.bool false, .slice q m c2] 25)).alloc (.cells #[.int .i64 0, .int .i64 0, .bool false, .slice none 0 0, .bool false, .slice none 0 0] 32)) := ⟨_, rfl⟩
  have hx : Ext w W0a := by rw [hW0a]; exact (((Ext.alloc _ _).trans (Ext.alloc _ _)).trans (Ext.alloc _ _))
  have A_n : RowAt W0a (w.heap.size) 25 (numCells false p n c) := by rw [hW0a]; exact (((RowAt.new' _ _ (by simp)).alloc _).alloc _)
  have B_n : RowAt W0a (w.heap.size + 1) 25 (numCells false q m c2) := by rw [hW0a]; exact ((RowAt.new' _ _ (by simp)).alloc _)
  have P_n : RowAt W0a (w.heap.size + 1 + 1) 32 (rootCells 0 0 false none 0 0 false none 0 0) := by rw [hW0a]; exact (RowAt.new' _ _ (by simp))
  have ZA1 := Lib.hid (hx.num ZA.out)
  have ZB1 := Lib.hid (hx.num ZB.out)
  have E1 := Lib.hid (E.out.trans hx)
  clear ZA ZB E
  have A_1 := Lib.hid A_n
  have B_1 := Lib.hid B_n
  have P_1 := Lib.hid P_n
  have HW0a := Lib.hid hW0a
  clear hx hW0a A_n B_n P_n
  go_enter Tryz.func14, Tryz.ntmps14
  go_wp2_with fail
  rw [← HW0a.out]
  refine (rright_z _ zn W0a ZA1.out).mono ?_
  rintro e w2_ ⟨rfl, hx⟩
  have ZA2 := Lib.hid (hx.num ZA1.out)
  have ZB2 := Lib.hid (hx.num ZB1.out)
  have E2 := Lib.hid (E1.out.trans hx)
  have A_2 := Lib.hid (hx.row A_1.out)
  have B_2 := Lib.hid (hx.row B_1.out)
  have P_2 := Lib.hid (hx.row P_1.out)
  clear ZA1 ZB1 E1 A_1 B_1 P_1
  clear hx
  have cB__num0_2 := B_2.out.num0
  have cB__num1_2 := B_2.out.num1
  go_wp2_with fail
  refine (rright_z _ zd w2_ ZB2.out).mono ?_
  rintro e w3_ ⟨rfl, hx⟩
  clear cB__num0_2 cB__num1_2
  have ZA3 := Lib.hid (hx.num ZA2.out)
  have ZB3 := Lib.hid (hx.num ZB2.out)
  have E3 := Lib.hid (E2.out.trans hx)
  have A_3 := Lib.hid (hx.row A_2.out)
  have B_3 := Lib.hid (hx.row B_2.out)
  have P_3 := Lib.hid (hx.row P_2.out)
  clear ZA2 ZB2 E2 A_2 B_2 P_2
  clear hx
  go_upto_region 3 with fail
  refine wp_region_tail (fun D ac w' => ∃ vs : Nat → Value, ac = { tmps := #[Value.int IntKind.i64 a, Value.int IntKind.i64 s, Value.agg #[Value.bool false, Value.slice p n c], Value.agg #[Value.bool false, Value.slice q m c2], undef, undef, Value.pointer (some { block := w.heap.size, off := 0 }), Value.pointer (some { block := w.heap.size + 1, off := 0 }), Value.pointer (some { block := w.heap.size + 1 + 1, off := 0 }), Value.bool false, Value.bool true, Value.bool true, undef, undef, undef, Value.agg #[Value.bool false, Value.slice p n c], Value.bool true, Value.agg #[Value.bool false, Value.slice q m c2], Value.bool true, vs 0, vs 1, vs 2, vs 3, vs 4, vs 5, vs 6, vs 7, vs 8, vs 9, vs 10, vs 11, vs 12, vs 13, vs 14, vs 15, vs 16, vs 17, vs 18, vs 19, vs 20, vs 21, vs 22, vs 23, vs 24, vs 25, undef, undef, undef, undef, undef, undef, undef, undef, undef, undef, undef, undef, undef, undef, undef, undef, undef, undef, undef, undef, undef, undef, undef, undef, undef, undef, undef, undef, undef, undef, undef, undef, undef, undef, undef, undef, undef, undef, undef, undef, undef, undef, undef, undef, undef, undef, undef, undef, undef, undef, undef, undef, undef, undef, undef, undef, undef, undef], defers := [] } ∧ Ext w3_ w' ∧ ∀ j, D j → q3F (.agg #[.bool false, .slice p n c]) (.agg #[.bool false, .slice q m c2]) s zn zd j (vs j) w') 26 (by kernel_rfl) (by kernel_rfl) (by kernel_rfl) ?start3 ?step3 ?fin3
  case start3 => exact ⟨fun _ => undef, rfl, Ext.drew _, fun _ h => h.elim⟩
  case step3 =>
    rintro i o D ac wz hin hio hnd he ⟨vs, rfl, k0, hF⟩
    rcases i with _ | _ | _ | _ | _ | _ | _ | _ | _ | _ | _ | _ | _ | _ | _ | _ | _ | _ | _ | _ | _ | _ | _ | _ | _ | _ | i
    rotate_left 26
    · exact absurd hin (by omega)
    all_goals (obtain rfl := Option.some.inj (hio.symm.trans (by rfl)))
    · refine step_yes (wanted_of_none rfl _) ?_
      exact wp_of_run (run_mov (.tmp 1) rfl _ rfl) ⟨upd vs 0 _, rfl, k0, inv_step hF (fun _ _ h => h) rfl⟩
    · refine step_yes (wanted_of_none rfl _) ?_
      exact wp_of_run (run_lss_int (.tmp 19) (.const (.int .i64 (-1))) rfl _ _ (by exact (hF 0 (he ⟨0, .data⟩ (by simp) rfl))) rfl) ⟨upd vs 1 _, rfl, k0, inv_step hF (fun _ _ h => h) (by show Value.bool _ = _; rw [decide_eq_false (by have := Hsr.out; omega)])⟩
    · refine step_yes (wanted_of_none rfl _) ?_
      exact wp_of_run (run_mov (.tmp 20) rfl _ (by exact (hF 1 (he ⟨1, .data⟩ (by simp) rfl)))) ⟨upd vs 2 _, rfl, k0, inv_step hF (fun _ _ h => h) rfl⟩
    · refine step_yes (wanted_g (j := 2) (d := 21) rfl rfl rfl (hF 2 (he ⟨2, .guard⟩ (by simp) rfl))) ?_
      exact wp_of_run (run_mov (.tmp 1) rfl _ rfl) ⟨upd vs 3 _, rfl, k0, inv_step hF (fun _ _ h => h) rfl⟩
    · refine step_yes (wanted_g (j := 2) (d := 21) rfl rfl rfl (hF 2 (he ⟨2, .guard⟩ (by simp) rfl))) ?_
      exact wp_of_run (run_gtr_int (.tmp 22) (.const (.int .i64 1)) rfl _ _ (by exact (hF 3 (he ⟨3, .data⟩ (by simp) rfl))) rfl) ⟨upd vs 4 _, rfl, k0, inv_step hF (fun _ _ h => h) (by show Value.bool _ = _; rw [decide_eq_false (by have := Hsr.out; omega)])⟩
    · refine step_yes (wanted_of_none rfl _) ?_
      exact wp_of_run (run_pick_f (.tmp 21) (.const (.bool true)) (.tmp 23) rfl (by exact (hF 2 (he ⟨2, .data⟩ (by simp) rfl)))) ⟨upd vs 5 _, rfl, k0, inv_step hF (fun _ _ h => h) (hF 4 (he ⟨4, .data⟩ (by simp) rfl))⟩
    · refine step_yes (wanted_of_none rfl _) ?_
      exact wp_of_run (run_mov (.tmp 24) rfl _ (by exact (hF 5 (he ⟨5, .data⟩ (by simp) rfl)))) ⟨upd vs 6 _, rfl, k0, inv_step hF (fun _ _ h => h) rfl⟩
    · refine step_yes (wanted_g (j := 6) (d := 25) rfl rfl rfl (hF 6 (he ⟨6, .guard⟩ (by simp) rfl))) ?_
      exact wp_of_run (run_mov (.tmp 10) rfl _ rfl) ⟨upd vs 7 _, rfl, k0, inv_step hF (fun _ _ h => h) rfl⟩
    · refine step_yes (wanted_g (j := 6) (d := 25) rfl rfl rfl (hF 6 (he ⟨6, .guard⟩ (by simp) rfl))) ?_
      exact wp_of_run (run_notb (.tmp 26) rfl true (by exact (hF 7 (he ⟨7, .data⟩ (by simp) rfl)))) ⟨upd vs 8 _, rfl, k0, inv_step hF (fun _ _ h => h) rfl⟩
    · refine step_yes (wanted_of_none rfl _) ?_
      exact wp_of_run (run_pick_f (.tmp 25) (.const (.bool true)) (.tmp 27) rfl (by exact (hF 6 (he ⟨6, .data⟩ (by simp) rfl)))) ⟨upd vs 9 _, rfl, k0, inv_step hF (fun _ _ h => h) (hF 8 (he ⟨8, .data⟩ (by simp) rfl))⟩
    · refine step_yes (wanted_of_none rfl _) ?_
      exact wp_of_run (run_mov (.tmp 28) rfl _ (by exact (hF 9 (he ⟨9, .data⟩ (by simp) rfl)))) ⟨upd vs 10 _, rfl, k0, inv_step hF (fun _ _ h => h) rfl⟩
    · refine step_yes (wanted_g (j := 10) (d := 29) rfl rfl rfl (hF 10 (he ⟨10, .guard⟩ (by simp) rfl))) ?_
      exact wp_of_run (run_mov (.tmp 11) rfl _ rfl) ⟨upd vs 11 _, rfl, k0, inv_step hF (fun _ _ h => h) rfl⟩
    · refine step_yes (wanted_g (j := 10) (d := 29) rfl rfl rfl (hF 10 (he ⟨10, .guard⟩ (by simp) rfl))) ?_
      exact wp_of_run (run_notb (.tmp 30) rfl true (by exact (hF 11 (he ⟨11, .data⟩ (by simp) rfl)))) ⟨upd vs 12 _, rfl, k0, inv_step hF (fun _ _ h => h) rfl⟩
    · refine step_yes (wanted_of_none rfl _) ?_
      exact wp_of_run (run_pick_f (.tmp 29) (.const (.bool true)) (.tmp 31) rfl (by exact (hF 10 (he ⟨10, .data⟩ (by simp) rfl)))) ⟨upd vs 13 _, rfl, k0, inv_step hF (fun _ _ h => h) (hF 12 (he ⟨12, .data⟩ (by simp) rfl))⟩
    · refine step_yes (wanted_of_none rfl _) ?_
      exact wp_of_run (run_mov (.tmp 32) rfl _ (by exact (hF 13 (he ⟨13, .data⟩ (by simp) rfl)))) ⟨upd vs 14 _, rfl, k0, inv_step hF (fun _ _ h => h) rfl⟩
    · refine step_yes (wanted_g (j := 14) (d := 33) rfl rfl rfl (hF 14 (he ⟨14, .guard⟩ (by simp) rfl))) ?_
      exact wp_of_run (run_load_num (.tmp 6) rfl _ rfl _ _ _ _ _ (k0.row A_3.out)) ⟨upd vs 15 _, rfl, k0, inv_step hF (fun _ _ h => h) rfl⟩
    · refine step_yes (wanted_g (j := 14) (d := 33) rfl rfl rfl (hF 14 (he ⟨14, .chain⟩ (by simp) rfl))) ?_
      refine wp_of_callE (run_enter0 42 _ rfl ent_rzero) (rzero_n wz) ?_
      rintro e w' ⟨rr, rfl, hz, hx⟩
      exact ⟨_, rfl, upd vs 16 _, rfl, k0.trans hx, inv_step hF (fun j v h => q3F_mono hx j v h) hz⟩
    · refine step_yes (wanted_g (j := 14) (d := 33) rfl rfl rfl (hF 14 (he ⟨14, .guard⟩ (by simp) rfl))) ?_
      refine wp_of_callE (run_enter2 41 (.tmp 34) (.tmp 35) _ rfl _ _ (by exact (hF 15 (he ⟨15, .data⟩ (by simp) rfl))) rfl ent_rcmp1) (rcmp_ok _ _ zn 0 wz (k0.num ZA3.out) (hF 16 (he ⟨16, .data⟩ (by simp) rfl))) ?_
      rintro e w' ⟨rfl, hx⟩
      exact ⟨_, rfl, upd vs 17 _, rfl, k0.trans hx, inv_step hF (fun j v h => q3F_mono hx j v h) rfl⟩
    · refine step_yes (wanted_g (j := 14) (d := 33) rfl rfl rfl (hF 14 (he ⟨14, .guard⟩ (by simp) rfl))) ?_
      exact wp_of_run (run_lss_int (.tmp 36) (.const (.int .i64 0)) rfl _ _ (by exact (hF 17 (he ⟨17, .data⟩ (by simp) rfl))) rfl) ⟨upd vs 18 _, rfl, k0, inv_step hF (fun _ _ h => h) (by show Value.bool _ = _; rw [decide_eq_false (by have := Hn0.out; omega)])⟩
    · refine step_yes (wanted_of_none rfl _) ?_
      exact wp_of_run (run_pick_f (.tmp 33) (.const (.bool true)) (.tmp 37) rfl (by exact (hF 14 (he ⟨14, .data⟩ (by simp) rfl)))) ⟨upd vs 19 _, rfl, k0, inv_step hF (fun _ _ h => h) (hF 18 (he ⟨18, .data⟩ (by simp) rfl))⟩
    · refine step_yes (wanted_of_none rfl _) ?_
      exact wp_of_run (run_mov (.tmp 38) rfl _ (by exact (hF 19 (he ⟨19, .data⟩ (by simp) rfl)))) ⟨upd vs 20 _, rfl, k0, inv_step hF (fun _ _ h => h) rfl⟩
    · refine step_yes (wanted_g (j := 20) (d := 39) rfl rfl rfl (hF 20 (he ⟨20, .guard⟩ (by simp) rfl))) ?_
      exact wp_of_run (run_load_num (.tmp 7) rfl _ rfl _ _ _ _ _ (k0.row B_3.out)) ⟨upd vs 21 _, rfl, k0, inv_step hF (fun _ _ h => h) rfl⟩
    · refine step_yes (wanted_g (j := 20) (d := 39) rfl rfl rfl (hF 20 (he ⟨20, .chain⟩ (by simp) rfl))) ?_
      refine wp_of_callE (run_enter0 42 _ rfl ent_rzero) (rzero_n wz) ?_
      rintro e w' ⟨rr, rfl, hz, hx⟩
      exact ⟨_, rfl, upd vs 22 _, rfl, k0.trans hx, inv_step hF (fun j v h => q3F_mono hx j v h) hz⟩
    · refine step_yes (wanted_g (j := 20) (d := 39) rfl rfl rfl (hF 20 (he ⟨20, .guard⟩ (by simp) rfl))) ?_
      refine wp_of_callE (run_enter2 41 (.tmp 40) (.tmp 41) _ rfl _ _ (by exact (hF 21 (he ⟨21, .data⟩ (by simp) rfl))) rfl ent_rcmp1) (rcmp_ok _ _ zd 0 wz (k0.num ZB3.out) (hF 22 (he ⟨22, .data⟩ (by simp) rfl))) ?_
      rintro e w' ⟨rfl, hx⟩
      exact ⟨_, rfl, upd vs 23 _, rfl, k0.trans hx, inv_step hF (fun j v h => q3F_mono hx j v h) rfl⟩
    · refine step_yes (wanted_g (j := 20) (d := 39) rfl rfl rfl (hF 20 (he ⟨20, .guard⟩ (by simp) rfl))) ?_
      exact wp_of_run (run_leq_int (.tmp 42) (.const (.int .i64 0)) rfl _ _ (by exact (hF 23 (he ⟨23, .data⟩ (by simp) rfl))) rfl) ⟨upd vs 24 _, rfl, k0, inv_step hF (fun _ _ h => h) (by show Value.bool _ = _; rw [decide_eq_false (by rw [Hc.out]; decide)])⟩
    · refine step_yes (wanted_of_none rfl _) ?_
      exact wp_of_run (run_pick_f (.tmp 39) (.const (.bool true)) (.tmp 43) rfl (by exact (hF 20 (he ⟨20, .data⟩ (by simp) rfl)))) ⟨upd vs 25 _, rfl, k0, inv_step hF (fun _ _ h => h) (hF 24 (he ⟨24, .data⟩ (by simp) rfl))⟩
  case fin3 =>
    rintro D ac wf3 hD ⟨vs, rfl, k0, hF⟩
    change wpList _ _ _ [] _ _
    unfold wpList
    have h25 : vs 25 = .bool false := hF 25 (hD 25 (by decide))
    rw [h25]
    have ZA4 := Lib.hid (k0.num ZA3.out)
    have ZB4 := Lib.hid (k0.num ZB3.out)
    have E4 := Lib.hid (E3.out.trans k0)
    have A_4 := Lib.hid (k0.row A_3.out)
    have B_4 := Lib.hid (k0.row B_3.out)
    have P_4 := Lib.hid (k0.row P_3.out)
    clear ZA3 ZB3 E3 A_3 B_3 P_3
    clear hF hD h25 k0
    generalize vs = t3
    have cA__num0_4 := A_4.out.num0
    have cA__num1_4 := A_4.out.num1
    have cB__num0_4 := B_4.out.num0
    have cB__num1_4 := B_4.out.num1
    have LP3 := Lib.hid (show w.heap.size + 1 + 1 < wf3.heap.size from by have h := P_4.out.lt; exact h)
    obtain ⟨W4b, hW4b⟩ : ∃ W4b, W4b = (wf3.alloc (.cells #[.int .i64 0, .int .i64 0, .bool false, .slice none 0 0, .bool false, .slice none 0 0] 32)).setRow wf3.heap.size (rootCells a s false p n c false q m c2) := ⟨_, rfl⟩
    have hx : Ext wf3 W4b := by rw [hW4b]; exact ext_setRow (Ext.alloc _ _) (Nat.le_refl _) _
    have C_n : RowAt W4b wf3.heap.size 32 (rootCells a s false p n c false q m c2) := by rw [hW4b]; exact (RowAt.new _ _ _).setRow _
    have ZA5 := Lib.hid (hx.num ZA4.out)
    have ZB5 := Lib.hid (hx.num ZB4.out)
    have E5 := Lib.hid (E4.out.trans hx)
    have A_5 := Lib.hid (hx.row A_4.out)
    have B_5 := Lib.hid (hx.row B_4.out)
    have P_5 := Lib.hid (hx.row P_4.out)
    clear ZA4 ZB4 E4 A_4 B_4 P_4
    have C_5 := Lib.hid C_n
    have HW4b := Lib.hid hW4b
    clear hx hW4b C_n
    go_upto_region 6 with (first | (refine store_root rfl (.tmp 12) (.tmp 50) rfl wf3.heap.size rfl _ _ _ _ _ _ _ _ _ _ rfl _ _ (RowAt.new' _ _ rfl) rfl ?_; rw [← HW4b.out]))
    go_upto_region 6 with fail
    clear cA__num0_4 cA__num1_4 cB__num0_4 cB__num1_4
    refine wp_region_tail (fun D ac w' => ∃ vs : Nat → Value, ac = { tmps := #[Value.int IntKind.i64 a, Value.int IntKind.i64 s, Value.agg #[Value.bool false, Value.slice p n c], Value.agg #[Value.bool false, Value.slice q m c2], undef, undef, Value.pointer (some { block := w.heap.size, off := 0 }), Value.pointer (some { block := w.heap.size + 1, off := 0 }), Value.pointer (some { block := w.heap.size + 1 + 1, off := 0 }), Value.bool false, Value.bool true, Value.bool true, Value.pointer (some { block := wf3.heap.size, off := 0 }), undef, undef, Value.agg #[Value.bool false, Value.slice p n c], Value.bool true, Value.agg #[Value.bool false, Value.slice q m c2], Value.bool true, t3 0, t3 1, t3 2, t3 3, t3 4, t3 5, t3 6, t3 7, t3 8, t3 9, t3 10, t3 11, t3 12, t3 13, t3 14, t3 15, t3 16, t3 17, t3 18, t3 19, t3 20, t3 21, t3 22, t3 23, t3 24, Value.bool false, undef, Value.int IntKind.i64 a, Value.int IntKind.i64 s, Value.agg #[Value.bool false, Value.slice p n c], Value.agg #[Value.bool false, Value.slice q m c2], Value.agg #[Value.int IntKind.i64 a, Value.int IntKind.i64 s, Value.bool false, Value.slice p n c, Value.bool false, Value.slice q m c2], vs 0, vs 1, vs 2, vs 3, vs 4, vs 5, vs 6, vs 7, undef, undef, undef, undef, undef, undef, undef, undef, undef, undef, undef, undef, undef, undef, undef, undef, undef, undef, undef, undef, undef, undef, undef, undef, undef, undef, undef, undef, undef, undef, undef, undef, undef, undef, undef, undef, undef, undef, undef, undef, undef, undef, undef, undef], defers := [] } ∧ Ext W4b w' ∧ ∀ j, D j → q6F (.agg #[.bool false, .slice p n c]) s zn true j (vs j) w') 8 (by kernel_rfl) (by kernel_rfl) (by kernel_rfl) ?start6 ?step6 ?fin6
    case start6 => exact ⟨fun _ => undef, rfl, Ext.drew _, fun _ h => h.elim⟩
    case step6 =>
      rintro i o D ac wz hin hio hnd he ⟨vs, rfl, k0, hF⟩
      rcases i with _ | _ | _ | _ | _ | _ | _ | _ | i
      rotate_left 8
      · exact absurd hin (by omega)
      all_goals (obtain rfl := Option.some.inj (hio.symm.trans (by rfl)))
      · refine step_yes (wanted_of_none rfl _) ?_
        exact wp_of_run (run_mov (.tmp 1) rfl _ rfl) ⟨upd vs 0 _, rfl, k0, inv_step hF (fun _ _ h => h) rfl⟩
      · refine step_yes (wanted_of_none rfl _) ?_
        exact wp_of_run (run_eql_int (.tmp 51) (.const (.int .i64 0)) rfl _ _ (by exact (hF 0 (he ⟨0, .data⟩ (by simp) rfl))) rfl) ⟨upd vs 1 _, rfl, k0, inv_step hF (fun _ _ h => h) (by show Value.bool _ = _; have := HS0.out; simp [this])⟩
      · refine step_yes (wanted_of_none rfl _) ?_
        exact wp_of_run (run_mov (.tmp 52) rfl _ (by exact (hF 1 (he ⟨1, .data⟩ (by simp) rfl)))) ⟨upd vs 2 _, rfl, k0, inv_step hF (fun _ _ h => h) rfl⟩
      · refine step_no (wanted_n (j := 2) (d := 53) rfl rfl rfl (hF 2 (he ⟨2, .guard⟩ (by simp) rfl)) (by decide)) ?_
        exact ⟨upd vs 3 undef, rfl, k0, inv_step hF (fun _ _ h => h) rfl⟩
      · refine step_no (wanted_n (j := 2) (d := 53) rfl rfl rfl (hF 2 (he ⟨2, .chain⟩ (by simp) rfl)) (by decide)) ?_
        exact ⟨upd vs 4 undef, rfl, k0, inv_step hF (fun _ _ h => h) rfl⟩
      · refine step_no (wanted_n (j := 2) (d := 53) rfl rfl rfl (hF 2 (he ⟨2, .guard⟩ (by simp) rfl)) (by decide)) ?_
        exact ⟨upd vs 5 undef, rfl, k0, inv_step hF (fun _ _ h => h) rfl⟩
      · refine step_no (wanted_n (j := 2) (d := 53) rfl rfl rfl (hF 2 (he ⟨2, .guard⟩ (by simp) rfl)) (by decide)) ?_
        exact ⟨upd vs 6 undef, rfl, k0, inv_step hF (fun _ _ h => h) rfl⟩
      · refine step_yes (wanted_of_none rfl _) ?_
        exact wp_of_run (run_pick_t (.tmp 53) (.const (.bool true)) (.tmp 57) rfl (by exact (hF 2 (he ⟨2, .data⟩ (by simp) rfl)))) ⟨upd vs 7 _, rfl, k0, inv_step hF (fun _ _ h => h) rfl⟩
    case fin6 =>
      rintro D ac wf6 hD ⟨vs, rfl, k0, hF⟩
      change wpList _ _ _ [] _ _
      unfold wpList
      have h7 : vs 7 = .bool true := hF 7 (hD 7 (by decide))
      rw [h7]
      have ZA6 := Lib.hid (k0.num ZA5.out)
      have ZB6 := Lib.hid (k0.num ZB5.out)
      have E6 := Lib.hid (E5.out.trans k0)
      have A_6 := Lib.hid (k0.row A_5.out)
      have B_6 := Lib.hid (k0.row B_5.out)
      have P_6 := Lib.hid (k0.row P_5.out)
      have C_6 := Lib.hid (k0.row C_5.out)
      clear ZA5 ZB5 E5 A_5 B_5 P_5 C_5
      clear hF hD h7 k0
      generalize vs = t6
      have LC := Lib.hid (show w.heap.size + 1 + 1 < wf3.heap.size from LP3.out)
      go_wp2_with fail
      refine (rzero_n wf6).mono ?_
      rintro e w7_ ⟨v0, rfl, hz, hx⟩
      have ZA7 := Lib.hid (hx.num ZA6.out)
      have ZB7 := Lib.hid (hx.num ZB6.out)
      have E7 := Lib.hid (E6.out.trans hx)
      have A_7 := Lib.hid (hx.row A_6.out)
      have B_7 := Lib.hid (hx.row B_6.out)
      have P_7 := Lib.hid (hx.row P_6.out)
      have C_7 := Lib.hid (hx.row C_6.out)
      clear ZA6 ZB6 E6 A_6 B_6 P_6 C_6
      have Z07 := Lib.hid hz
      clear hx hz
      obtain ⟨b0, p0, n0, c0, rfl⟩ := IsN.parts Z07.out
      go_wp2_with fail
      refine (rof_n 1 (by decide) w7_).mono ?_
      rintro e w8_ ⟨v1, rfl, hz, hx⟩
      have ZA8 := Lib.hid (hx.num ZA7.out)
      have ZB8 := Lib.hid (hx.num ZB7.out)
      have E8 := Lib.hid (E7.out.trans hx)
      have A_8 := Lib.hid (hx.row A_7.out)
      have B_8 := Lib.hid (hx.row B_7.out)
      have P_8 := Lib.hid (hx.row P_7.out)
      have C_8 := Lib.hid (hx.row C_7.out)
      have Z08 := Lib.hid (hx.num Z07.out)
      clear ZA7 ZB7 E7 A_7 B_7 P_7 C_7 Z07
      have Z18 := Lib.hid hz
      clear hx hz
      obtain ⟨b1, p1, n1, c1, rfl⟩ := IsN.parts Z18.out
      obtain rfl : b0 = false := by obtain ⟨_, _, e⟩ := ZNum.parts Z08.out; cases e; rfl
      obtain rfl : b1 = false := by obtain ⟨_, _, e⟩ := ZNum.parts Z18.out; cases e; rfl
      obtain ⟨W8c, hW8c⟩ : ∃ W8c, W8c = w8_.setRow wf3.heap.size (rootCells a 0 false p0 n0 c0 false p1 n1 c1) := ⟨_, rfl⟩
      have ZA9 := Lib.hid (show ZNum W8c.heap.size W8c _ _ from by rw [hW8c, setRow_size]; exact ZA8.out.setRoot C_8.out _)
      have ZB9 := Lib.hid (show ZNum W8c.heap.size W8c _ _ from by rw [hW8c, setRow_size]; exact ZB8.out.setRoot C_8.out _)
      have E9 : Hid (Ext w W8c) := by rw [hW8c]; exact ext_setRow E8.out (by have := LC.out; omega) _
      have A_9 := Lib.hid (show RowAt W8c (w.heap.size) _ _ from by rw [hW8c]; exact A_8.out.setRowOther _ (by have := LC.out; omega))
      have B_9 := Lib.hid (show RowAt W8c (w.heap.size + 1) _ _ from by rw [hW8c]; exact B_8.out.setRowOther _ (by have := LC.out; omega))
      have P_9 := Lib.hid (show RowAt W8c (w.heap.size + 1 + 1) _ _ from by rw [hW8c]; exact P_8.out.setRowOther _ (by have := LC.out; omega))
      have C_9 : Hid (RowAt W8c wf3.heap.size 32 (rootCells a 0 false p0 n0 c0 false p1 n1 c1)) := by rw [hW8c]; exact C_8.out.setRow _
      have Z09 := Lib.hid (show ZNum W8c.heap.size W8c _ _ from by rw [hW8c, setRow_size]; exact Z08.out.setRoot C_8.out _)
      have Z19 := Lib.hid (show ZNum W8c.heap.size W8c _ _ from by rw [hW8c, setRow_size]; exact Z18.out.setRoot C_8.out _)
      have HW8c := Lib.hid hW8c
      clear hW8c ZA8 ZB8 E8 A_8 B_8 P_8 Z08 Z18
      have cC__root2_9 := C_9.out.root2
      have cC__root3_9 := C_9.out.root3
      have cC__root4_9 := C_9.out.root4
      have cC__root5_9 := C_9.out.root5
      go_wp2_with (first | (refine store_root rfl (.tmp 12) (.tmp 62) rfl _ rfl a 0 false p0 n0 c0 false p1 n1 c1 rfl _ _ C_8.out rfl ?_; rw [← HW8c.out]))
      refine (rgcd_z _ _ 0 1 (gcdZ 0 1) W8c Z09.out Z19.out rfl).mono ?_
      rintro e w10_ ⟨pg, ng, cg, rfl, hz, hx⟩
      clear cC__root2_9 cC__root3_9 cC__root4_9 cC__root5_9
      have ZA10 := Lib.hid (hx.num ZA9.out)
      have ZB10 := Lib.hid (hx.num ZB9.out)
      have E10 := Lib.hid (E9.out.trans hx)
      have A_10 := Lib.hid (hx.row A_9.out)
      have B_10 := Lib.hid (hx.row B_9.out)
      have P_10 := Lib.hid (hx.row P_9.out)
      have C_10 := Lib.hid (hx.row C_9.out)
      have Z010 := Lib.hid (hx.num Z09.out)
      have Z110 := Lib.hid (hx.num Z19.out)
      clear ZA9 ZB9 E9 A_9 B_9 P_9 C_9 Z09 Z19
      have ZG10 := Lib.hid hz
      clear hx hz
      have LG := Lib.hid (show wf3.heap.size < w10_.heap.size from C_10.out.lt)
      obtain ⟨W10b, hW10b⟩ : ∃ W10b, W10b = (w10_.alloc (.cells #[.bool false, .slice none 0 0] 25)).setRow w10_.heap.size (numCells false pg ng cg) := ⟨_, rfl⟩
      have hx : Ext w10_ W10b := by rw [hW10b]; exact ext_setRow (Ext.alloc _ _) (Nat.le_refl _) _
      have G_n : RowAt W10b w10_.heap.size 25 (numCells false pg ng cg) := by rw [hW10b]; exact (RowAt.new _ _ _).setRow _
      have ZA11 := Lib.hid (hx.num ZA10.out)
      have ZB11 := Lib.hid (hx.num ZB10.out)
      have E11 := Lib.hid (E10.out.trans hx)
      have A_11 := Lib.hid (hx.row A_10.out)
      have B_11 := Lib.hid (hx.row B_10.out)
      have P_11 := Lib.hid (hx.row P_10.out)
      have C_11 := Lib.hid (hx.row C_10.out)
      have Z011 := Lib.hid (hx.num Z010.out)
      have Z111 := Lib.hid (hx.num Z110.out)
      have ZG11 := Lib.hid (hx.num ZG10.out)
      clear ZA10 ZB10 E10 A_10 B_10 P_10 C_10 Z010 Z110 ZG10
      have G_11 := Lib.hid G_n
      have HW10b := Lib.hid hW10b
      clear hx hW10b G_n
      have cC__root2_11 := C_11.out.root2
      have cC__root3_11 := C_11.out.root3
      have cG__num0_11 := G_11.out.num0
      have cG__num1_11 := G_11.out.num1
      go_wp2_with (first | (refine store_num rfl (.tmp 13) (.tmp 69) rfl w10_.heap.size rfl _ _ _ _ rfl _ _ (RowAt.new' _ _ rfl) rfl ?_; rw [← HW10b.out]))
      refine (rdiv_ok _ _ 0 (gcdZ 0 1) false false W10b Z011.out ZG11.out (gcdZ_pos (by first | exact H01.out.2 | decide)) (by have h1 := gcdZ_pos (a := 0) (b := 1) (by first | exact H01.out.2 | decide); have h2 := Int.ediv_nonneg (a := 0) (b := gcdZ 0 1) (by first | exact H01.out.1 | (have := H01.out; omega) | decide) (by omega); simp <;> omega) (by have h1 := gcdZ_pos (a := 0) (b := 1) (by first | exact H01.out.2 | decide); have h2 := Int.emod_nonneg 0 (b := gcdZ 0 1) (by omega); simp <;> omega)).mono ?_
      rintro e w12_ ⟨p5, n5, c5, p8, n8, c8, rfl, hz, hz8, hx⟩
      clear cC__root2_11 cC__root3_11 cG__num0_11 cG__num1_11
      have ZA12 := Lib.hid (hx.num ZA11.out)
      have ZB12 := Lib.hid (hx.num ZB11.out)
      have E12 := Lib.hid (E11.out.trans hx)
      have A_12 := Lib.hid (hx.row A_11.out)
      have B_12 := Lib.hid (hx.row B_11.out)
      have P_12 := Lib.hid (hx.row P_11.out)
      have C_12 := Lib.hid (hx.row C_11.out)
      have Z012 := Lib.hid (hx.num Z011.out)
      have Z112 := Lib.hid (hx.num Z111.out)
      have ZG12 := Lib.hid (hx.num ZG11.out)
      have G_12 := Lib.hid (hx.row G_11.out)
      clear ZA11 ZB11 E11 A_11 B_11 P_11 C_11 Z011 Z111 ZG11 G_11
      have ZQ12 := Lib.hid hz
      clear hx hz
      clear hz8
      obtain ⟨W12c, hW12c⟩ : ∃ W12c, W12c = w12_.setRow wf3.heap.size (rootCells a 0 false p5 n5 c5 false p1 n1 c1) := ⟨_, rfl⟩
      have ZA13 := Lib.hid (show ZNum W12c.heap.size W12c _ _ from by rw [hW12c, setRow_size]; exact ZA12.out.setRoot C_12.out _)
      have ZB13 := Lib.hid (show ZNum W12c.heap.size W12c _ _ from by rw [hW12c, setRow_size]; exact ZB12.out.setRoot C_12.out _)
      have E13 : Hid (Ext w W12c) := by rw [hW12c]; exact ext_setRow E12.out (by have := LC.out; omega) _
      have A_13 := Lib.hid (show RowAt W12c (w.heap.size) _ _ from by rw [hW12c]; exact A_12.out.setRowOther _ (by first | (have := LC.out; omega) | (have := LG.out; omega)))
      have B_13 := Lib.hid (show RowAt W12c (w.heap.size + 1) _ _ from by rw [hW12c]; exact B_12.out.setRowOther _ (by first | (have := LC.out; omega) | (have := LG.out; omega)))
      have P_13 := Lib.hid (show RowAt W12c (w.heap.size + 1 + 1) _ _ from by rw [hW12c]; exact P_12.out.setRowOther _ (by first | (have := LC.out; omega) | (have := LG.out; omega)))
      have C_13 : Hid (RowAt W12c wf3.heap.size 32 (rootCells a 0 false p5 n5 c5 false p1 n1 c1)) := by rw [hW12c]; exact C_12.out.setRow _
      have Z013 := Lib.hid (show ZNum W12c.heap.size W12c _ _ from by rw [hW12c, setRow_size]; exact Z012.out.setRoot C_12.out _)
      have Z113 := Lib.hid (show ZNum W12c.heap.size W12c _ _ from by rw [hW12c, setRow_size]; exact Z112.out.setRoot C_12.out _)
      have ZG13 := Lib.hid (show ZNum W12c.heap.size W12c _ _ from by rw [hW12c, setRow_size]; exact ZG12.out.setRoot C_12.out _)
      have G_13 := Lib.hid (show RowAt W12c w10_.heap.size _ _ from by rw [hW12c]; exact G_12.out.setRowOther _ (by first | (have := LC.out; omega) | (have := LG.out; omega)))
      have ZQ13 := Lib.hid (show ZNum W12c.heap.size W12c _ _ from by rw [hW12c, setRow_size]; exact ZQ12.out.setRoot C_12.out _)
      have HW12c := Lib.hid hW12c
      clear hW12c ZA12 ZB12 E12 A_12 B_12 P_12 Z012 Z112 ZG12 G_12 ZQ12
      have cC__root4_13 := C_13.out.root4
      have cC__root5_13 := C_13.out.root5
      have cG__num0_13 := G_13.out.num0
      have cG__num1_13 := G_13.out.num1
      go_wp2_with (first | (refine store_rN rfl (.tmp 79) (.tmp 76) rfl _ rfl false p5 n5 c5 rfl _ _ _ _ _ _ _ _ _ _ _ C_12.out ?_; rw [← HW12c.out]))
      refine (rdiv_ok _ _ 1 (gcdZ 0 1) false false W12c Z113.out ZG13.out (gcdZ_pos (by first | exact H01.out.2 | decide)) (by have h1 := gcdZ_pos (a := 0) (b := 1) (by first | exact H01.out.2 | decide); have h2 := Int.ediv_nonneg (a := 1) (b := gcdZ 0 1) (by first | exact H01.out.1 | (have := H01.out; omega) | decide) (by omega); simp <;> omega) (by have h1 := gcdZ_pos (a := 0) (b := 1) (by first | exact H01.out.2 | decide); have h2 := Int.emod_nonneg 1 (b := gcdZ 0 1) (by omega); simp <;> omega)).mono ?_
      rintro e w14_ ⟨p6, n6, c6, p9, n9, c9, rfl, hz, hz8, hx⟩
      clear cC__root4_13 cC__root5_13 cG__num0_13 cG__num1_13
      have ZA14 := Lib.hid (hx.num ZA13.out)
      have ZB14 := Lib.hid (hx.num ZB13.out)
      have E14 := Lib.hid (E13.out.trans hx)
      have A_14 := Lib.hid (hx.row A_13.out)
      have B_14 := Lib.hid (hx.row B_13.out)
      have P_14 := Lib.hid (hx.row P_13.out)
      have C_14 := Lib.hid (hx.row C_13.out)
      have Z014 := Lib.hid (hx.num Z013.out)
      have Z114 := Lib.hid (hx.num Z113.out)
      have ZG14 := Lib.hid (hx.num ZG13.out)
      have G_14 := Lib.hid (hx.row G_13.out)
      have ZQ14 := Lib.hid (hx.num ZQ13.out)
      clear ZA13 ZB13 E13 A_13 B_13 P_13 C_13 Z013 Z113 ZG13 G_13 ZQ13
      have ZR14 := Lib.hid hz
      clear hx hz
      clear hz8
      obtain ⟨W14c, hW14c⟩ : ∃ W14c, W14c = w14_.setRow wf3.heap.size (rootCells a 0 false p5 n5 c5 false p6 n6 c6) := ⟨_, rfl⟩
      have ZA15 := Lib.hid (show ZNum W14c.heap.size W14c _ _ from by rw [hW14c, setRow_size]; exact ZA14.out.setRoot C_14.out _)
      have ZB15 := Lib.hid (show ZNum W14c.heap.size W14c _ _ from by rw [hW14c, setRow_size]; exact ZB14.out.setRoot C_14.out _)
      have E15 : Hid (Ext w W14c) := by rw [hW14c]; exact ext_setRow E14.out (by have := LC.out; omega) _
      have A_15 := Lib.hid (show RowAt W14c (w.heap.size) _ _ from by rw [hW14c]; exact A_14.out.setRowOther _ (by first | (have := LC.out; omega) | (have := LG.out; omega)))
      have B_15 := Lib.hid (show RowAt W14c (w.heap.size + 1) _ _ from by rw [hW14c]; exact B_14.out.setRowOther _ (by first | (have := LC.out; omega) | (have := LG.out; omega)))
      have P_15 := Lib.hid (show RowAt W14c (w.heap.size + 1 + 1) _ _ from by rw [hW14c]; exact P_14.out.setRowOther _ (by first | (have := LC.out; omega) | (have := LG.out; omega)))
      have C_15 : Hid (RowAt W14c wf3.heap.size 32 (rootCells a 0 false p5 n5 c5 false p6 n6 c6)) := by rw [hW14c]; exact C_14.out.setRow _
      have Z015 := Lib.hid (show ZNum W14c.heap.size W14c _ _ from by rw [hW14c, setRow_size]; exact Z014.out.setRoot C_14.out _)
      have Z115 := Lib.hid (show ZNum W14c.heap.size W14c _ _ from by rw [hW14c, setRow_size]; exact Z114.out.setRoot C_14.out _)
      have ZG15 := Lib.hid (show ZNum W14c.heap.size W14c _ _ from by rw [hW14c, setRow_size]; exact ZG14.out.setRoot C_14.out _)
      have G_15 := Lib.hid (show RowAt W14c w10_.heap.size _ _ from by rw [hW14c]; exact G_14.out.setRowOther _ (by first | (have := LC.out; omega) | (have := LG.out; omega)))
      have ZQ15 := Lib.hid (show ZNum W14c.heap.size W14c _ _ from by rw [hW14c, setRow_size]; exact ZQ14.out.setRoot C_14.out _)
      have ZR15 := Lib.hid (show ZNum W14c.heap.size W14c _ _ from by rw [hW14c, setRow_size]; exact ZR14.out.setRoot C_14.out _)
      have HW14c := Lib.hid hW14c
      clear hW14c ZA14 ZB14 E14 A_14 B_14 P_14 Z014 Z114 ZG14 G_14 ZQ14 ZR14
      have ZQx := Lib.hid (show ZNum W14c.heap.size W14c _ N from by have h := ZQ15.out; rw [show (0 : Int) / gcdZ 0 1 = 0 from rfl] at h; rw [← HNM.out.1]; exact h)
      have ZRx := Lib.hid (show ZNum W14c.heap.size W14c _ M from by have h := ZR15.out; rw [show (1 : Int) / gcdZ 0 1 = 1 from rfl] at h; rw [← HNM.out.2]; exact h)
      clear ZQ15 ZR15
      have Ln : Hid (fitK 8 N = decide (n5 ≤ 8)) := by show fitK 8 N = _; unfold fitK; rw [u32s_len (znum_slice ZQx.out)]
      have Lm : Hid (fitK 8 M = decide (n6 ≤ 8)) := by show fitK 8 M = _; unfold fitK; rw [u32s_len (znum_slice ZRx.out)]
      have cC__root0_15 := C_15.out.root0
      have cC__root1_15 := C_15.out.root1
      have cC__root2_15 := C_15.out.root2
      have cC__root3_15 := C_15.out.root3
      have cC__root4_15 := C_15.out.root4
      have cC__root5_15 := C_15.out.root5
      by_cases hf1 : 8 < n5
      · have hf1' : (8 : Int) < (n5 : Int) := by omega
        go_wp2_with (first | (refine store_rD rfl (.tmp 88) (.tmp 85) rfl _ rfl false p6 n6 c6 rfl _ _ _ _ _ _ _ _ _ _ _ C_14.out ?_; rw [← HW14c.out]) | (refine store_root rfl (.tmp 8) (.tmp 101) rfl _ rfl 0 0 false none 0 0 false none 0 0 rfl _ _ P_15.out rfl ?_) | (refine load_root rfl (.tmp 12) rfl _ rfl _ _ _ _ _ _ _ _ _ _ _ C_15.out ?_) | (refine store_root rfl (.tmp 8) (.tmp 102) rfl _ rfl _ _ _ _ _ _ _ _ _ _ rfl _ _ P_15.out rfl ?_))
        exact ret_root rfl _ rfl _ rfl _ _ _ _ _ _ _ _ _ _ _ (P_15.out.setRow _) (HRf.out _ _ _ E15.out (by omega) (by show (fitK 8 N && fitK 8 M) = false; rw [Ln.out, decide_eq_false (by omega)]; rfl))
      have hf1' : ¬ (8 : Int) < (n5 : Int) := by omega
      by_cases hf2 : 8 < n6
      · have hf2' : (8 : Int) < (n6 : Int) := by omega
        go_wp2_with (first | (refine store_rD rfl (.tmp 88) (.tmp 85) rfl _ rfl false p6 n6 c6 rfl _ _ _ _ _ _ _ _ _ _ _ C_14.out ?_; rw [← HW14c.out]) | (refine store_root rfl (.tmp 8) (.tmp 101) rfl _ rfl 0 0 false none 0 0 false none 0 0 rfl _ _ P_15.out rfl ?_) | (refine load_root rfl (.tmp 12) rfl _ rfl _ _ _ _ _ _ _ _ _ _ _ C_15.out ?_) | (refine store_root rfl (.tmp 8) (.tmp 102) rfl _ rfl _ _ _ _ _ _ _ _ _ _ rfl _ _ P_15.out rfl ?_))
        exact ret_root rfl _ rfl _ rfl _ _ _ _ _ _ _ _ _ _ _ (P_15.out.setRow _) (HRf.out _ _ _ E15.out (by omega) (by show (fitK 8 N && fitK 8 M) = false; rw [Lm.out, decide_eq_false (show ¬ n6 ≤ 8 by omega)]; simp))
      have hf2' : ¬ (8 : Int) < (n6 : Int) := by omega
      go_wp2_with (first | (refine store_rD rfl (.tmp 88) (.tmp 85) rfl _ rfl false p6 n6 c6 rfl _ _ _ _ _ _ _ _ _ _ _ C_14.out ?_; rw [← HW14c.out]) | (refine store_root rfl (.tmp 8) (.tmp 101) rfl _ rfl 0 0 false none 0 0 false none 0 0 rfl _ _ P_15.out rfl ?_) | (refine load_root rfl (.tmp 12) rfl _ rfl _ _ _ _ _ _ _ _ _ _ _ C_15.out ?_) | (refine store_root rfl (.tmp 8) (.tmp 102) rfl _ rfl _ _ _ _ _ _ _ _ _ _ rfl _ _ P_15.out rfl ?_))
      exact ret_root rfl _ rfl _ rfl _ _ _ _ _ _ _ _ _ _ _ (P_15.out.setRow _) (HRs.out _ _ _ _ _ _ _ _ _ E15.out (by omega) (by show (fitK 8 N && fitK 8 M) = true; rw [Ln.out, Lm.out, decide_eq_true (by omega), decide_eq_true (by omega)]; rfl) (ZNum.setRoot ZQx.out P_15.out _) (ZNum.setRoot ZRx.out P_15.out _))
end Go.Proofs.YtegjcikofmphjaaGreatDoor
/- The reference of layer 2: Of, of right numbers: another case. -/
namespace Go.Proofs.YtegjcikofmphjaaGreatDoor
open Go Go.RowKit Go.Shelf
set_option maxRecDepth 100000 in
set_option maxHeartbeats 8000000 in
theorem r2of_nzero (va vb : Value) (a s zn zd : Int) (w : World) (ha : ZNum w.heap.size w va zn) (hb : ZNum w.heap.size w vb zd) (h0 : 0 ≤ zn) (h1 : 0 < zd) (hs : -1 ≤ s) (hs' : s ≤ 1) (hs0 : s ≠ 0) (hz0 : zn = 0) :
    Calls Tryz.prog 14 #[.int .i64 a, .int .i64 s, va, vb] w (OfPost w a s zn zd) := by
  obtain ⟨p, c, rfl⟩ := ha.parts
  obtain ⟨q, c2, rfl⟩ := hb.parts
  have d0 : decide (zn < 0) = false := by simp; omega
  have d1 : decide (zd < 0) = false := by simp; omega
  rw [d0] at ha ⊢
  rw [d1] at hb ⊢
  generalize (digs zn.natAbs).length = n at *
  generalize (digs zd.natAbs).length = m at *
  obtain ⟨N, hN⟩ : ∃ N, N = ofN s zn zd := ⟨_, rfl⟩
  obtain ⟨M, hM⟩ : ∃ M, M = ofD s zn zd := ⟨_, rfl⟩
  obtain ⟨R, hR⟩ : ∃ R, R = OfPost w a s zn zd := ⟨_, rfl⟩
  rw [← hR]
  have hNM : (0 : Int) = N ∧ (1 : Int) = M := by
    rw [hN, hM]; unfold ofN ofD; rw [if_neg hs0, if_neg hs0, hz0, gcd_zero_left h1]; exact ⟨(Int.zero_ediv _).symm, (Int.ediv_self (by omega)).symm⟩
  have hsv : (0 : Int) = s * N.sign := by
    rw [← hNM.1]; simp
  have HRf : Hid (∀ (W : World) (g : Nat) (cs : Array Value), Ext w W → w.heap.size ≤ g → (fit8 N && fit8 M) = false → R (.returned (.tuple #[root0, .bool false])) (W.setRow g cs)) := by
    intro W g cs h1 h2 h3
    rw [hR]
    refine ⟨ext_setRow h1 h2 _, ?_⟩
    rw [← hN, ← hM, h3]
    rfl
  have HRs : Hid (∀ (W : World) (g : Nat) (cs : Array Value) (p5 : Option Addr) (n5 c5 : Nat) (p6 : Option Addr) (n6 c6 : Nat), Ext w W → w.heap.size ≤ g → (fit8 N && fit8 M) = true → ZNum W.heap.size (W.setRow g cs) (.agg #[.bool false, .slice p5 n5 c5]) N → ZNum W.heap.size (W.setRow g cs) (.agg #[.bool false, .slice p6 n6 c6]) M → R (.returned (.tuple #[.agg #[.int .i64 a, .int .i64 ((0 : Int)), .bool false, .slice p5 n5 c5, .bool false, .slice p6 n6 c6], .bool true])) (W.setRow g cs)) := by
    intro W g cs p5 n5 c5 p6 n6 c6 h1 h2 h3 h4 h5
    rw [hR]
    refine ⟨ext_setRow h1 h2 _, ?_⟩
    rw [← hN, ← hM, h3]
    exact ⟨_, rfl, _, _, _, _, _, _, by rw [← hsv], by rw [setRow_size]; exact h4, by rw [setRow_size]; exact h5⟩
  have HNM := Lib.hid hNM
  have Hc : Hid (zcmp zd 0 = 1) := by show zcmp zd 0 = 1; rw [zcmp_sign]; exact Int.sign_eq_one_of_pos h1
  have hzn3 : zcmp zn 0 = 0 ∨ zcmp zn 0 = 1 := by unfold zcmp; rw [if_neg (by omega)]; split <;> simp
  have Hn0 : Hid (¬ zcmp zn 0 < 0) := by show ¬ zcmp zn 0 < 0; omega
  clear hzn3
  have HS0 := Lib.hid hs0
  have HZ0 := Lib.hid hz0
  have H01 := Lib.hid (And.intro h0 h1)
  have Hsr := Lib.hid (And.intro hs hs')
  have ZA := Lib.hid ha
  have ZB := Lib.hid hb
  have E := Lib.hid (Ext.refl w)
  clear ha hb d0 d1 h0 h1 hs hs' hN hM hR hNM hsv hs0 hz0
  obtain ⟨W0a, hW0a⟩ : ∃ W0a, W0a = (((w.alloc (.cells #[.bool false, .slice p n c] 25)).alloc (.cells #[.bool false, .slice q m c2] 25)).alloc (.cells #[.int .i64 0, .int .i64 0, .bool false, .slice none 0 0, .bool false, .slice none 0 0] 32)) := ⟨_, rfl⟩
  have hx : Ext w W0a := by rw [hW0a]; exact (((Ext.alloc _ _).trans (Ext.alloc _ _)).trans (Ext.alloc _ _))
  have A_n : RowAt W0a (w.heap.size) 25 (numCells false p n c) := by rw [hW0a]; exact (((RowAt.new' _ _ (by simp)).alloc _).alloc _)
  have B_n : RowAt W0a (w.heap.size + 1) 25 (numCells false q m c2) := by rw [hW0a]; exact ((RowAt.new' _ _ (by simp)).alloc _)
  have P_n : RowAt W0a (w.heap.size + 1 + 1) 32 (rootCells 0 0 false none 0 0 false none 0 0) := by rw [hW0a]; exact (RowAt.new' _ _ (by simp))
  have ZA1 := Lib.hid (hx.num ZA.out)
  have ZB1 := Lib.hid (hx.num ZB.out)
  have E1 := Lib.hid (E.out.trans hx)
  clear ZA ZB E
  have A_1 := Lib.hid A_n
  have B_1 := Lib.hid B_n
  have P_1 := Lib.hid P_n
  have HW0a := Lib.hid hW0a
  clear hx hW0a A_n B_n P_n
  go_enter Tryz.func14, Tryz.ntmps14
  go_wp2_with fail
  rw [← HW0a.out]
  refine (rright_z _ zn W0a ZA1.out).mono ?_
  rintro e w2_ ⟨rfl, hx⟩
  have ZA2 := Lib.hid (hx.num ZA1.out)
  have ZB2 := Lib.hid (hx.num ZB1.out)
  have E2 := Lib.hid (E1.out.trans hx)
  have A_2 := Lib.hid (hx.row A_1.out)
  have B_2 := Lib.hid (hx.row B_1.out)
  have P_2 := Lib.hid (hx.row P_1.out)
  clear ZA1 ZB1 E1 A_1 B_1 P_1
  clear hx
  have cB__num0_2 := B_2.out.num0
  have cB__num1_2 := B_2.out.num1
  go_wp2_with fail
  refine (rright_z _ zd w2_ ZB2.out).mono ?_
  rintro e w3_ ⟨rfl, hx⟩
  clear cB__num0_2 cB__num1_2
  have ZA3 := Lib.hid (hx.num ZA2.out)
  have ZB3 := Lib.hid (hx.num ZB2.out)
  have E3 := Lib.hid (E2.out.trans hx)
  have A_3 := Lib.hid (hx.row A_2.out)
  have B_3 := Lib.hid (hx.row B_2.out)
  have P_3 := Lib.hid (hx.row P_2.out)
  clear ZA2 ZB2 E2 A_2 B_2 P_2
  clear hx
  go_upto_region 3 with fail
  refine wp_region_tail (fun D ac w' => ∃ vs : Nat → Value, ac = { tmps := #[Value.int IntKind.i64 a, Value.int IntKind.i64 s, Value.agg #[Value.bool false, Value.slice p n c], Value.agg #[Value.bool false, Value.slice q m c2], undef, undef, Value.pointer (some { block := w.heap.size, off := 0 }), Value.pointer (some { block := w.heap.size + 1, off := 0 }), Value.pointer (some { block := w.heap.size + 1 + 1, off := 0 }), Value.bool false, Value.bool true, Value.bool true, undef, undef, undef, Value.agg #[Value.bool false, Value.slice p n c], Value.bool true, Value.agg #[Value.bool false, Value.slice q m c2], Value.bool true, vs 0, vs 1, vs 2, vs 3, vs 4, vs 5, vs 6, vs 7, vs 8, vs 9, vs 10, vs 11, vs 12, vs 13, vs 14, vs 15, vs 16, vs 17, vs 18, vs 19, vs 20, vs 21, vs 22, vs 23, vs 24, vs 25, undef, undef, undef, undef, undef, undef, undef, undef, undef, undef, undef, undef, undef, undef, undef, undef, undef, undef, undef, undef, undef, undef, undef, undef, undef, undef, undef, undef, undef, undef, undef, undef, undef, undef, undef, undef, undef, undef, undef, undef, undef, undef, undef, undef, undef, undef, undef, undef, undef, undef, undef, undef, undef, undef, undef, undef, undef, undef], defers := [] } ∧ Ext w3_ w' ∧ ∀ j, D j → q3F (.agg #[.bool false, .slice p n c]) (.agg #[.bool false, .slice q m c2]) s zn zd j (vs j) w') 26 (by kernel_rfl) (by kernel_rfl) (by kernel_rfl) ?start3 ?step3 ?fin3
  case start3 => exact ⟨fun _ => undef, rfl, Ext.drew _, fun _ h => h.elim⟩
  case step3 =>
    rintro i o D ac wz hin hio hnd he ⟨vs, rfl, k0, hF⟩
    rcases i with _ | _ | _ | _ | _ | _ | _ | _ | _ | _ | _ | _ | _ | _ | _ | _ | _ | _ | _ | _ | _ | _ | _ | _ | _ | _ | i
    rotate_left 26
    · exact absurd hin (by omega)
    all_goals (obtain rfl := Option.some.inj (hio.symm.trans (by rfl)))
    · refine step_yes (wanted_of_none rfl _) ?_
      exact wp_of_run (run_mov (.tmp 1) rfl _ rfl) ⟨upd vs 0 _, rfl, k0, inv_step hF (fun _ _ h => h) rfl⟩
    · refine step_yes (wanted_of_none rfl _) ?_
      exact wp_of_run (run_lss_int (.tmp 19) (.const (.int .i64 (-1))) rfl _ _ (by exact (hF 0 (he ⟨0, .data⟩ (by simp) rfl))) rfl) ⟨upd vs 1 _, rfl, k0, inv_step hF (fun _ _ h => h) (by show Value.bool _ = _; rw [decide_eq_false (by have := Hsr.out; omega)])⟩
    · refine step_yes (wanted_of_none rfl _) ?_
      exact wp_of_run (run_mov (.tmp 20) rfl _ (by exact (hF 1 (he ⟨1, .data⟩ (by simp) rfl)))) ⟨upd vs 2 _, rfl, k0, inv_step hF (fun _ _ h => h) rfl⟩
    · refine step_yes (wanted_g (j := 2) (d := 21) rfl rfl rfl (hF 2 (he ⟨2, .guard⟩ (by simp) rfl))) ?_
      exact wp_of_run (run_mov (.tmp 1) rfl _ rfl) ⟨upd vs 3 _, rfl, k0, inv_step hF (fun _ _ h => h) rfl⟩
    · refine step_yes (wanted_g (j := 2) (d := 21) rfl rfl rfl (hF 2 (he ⟨2, .guard⟩ (by simp) rfl))) ?_
      exact wp_of_run (run_gtr_int (.tmp 22) (.const (.int .i64 1)) rfl _ _ (by exact (hF 3 (he ⟨3, .data⟩ (by simp) rfl))) rfl) ⟨upd vs 4 _, rfl, k0, inv_step hF (fun _ _ h => h) (by show Value.bool _ = _; rw [decide_eq_false (by have := Hsr.out; omega)])⟩
    · refine step_yes (wanted_of_none rfl _) ?_
      exact wp_of_run (run_pick_f (.tmp 21) (.const (.bool true)) (.tmp 23) rfl (by exact (hF 2 (he ⟨2, .data⟩ (by simp) rfl)))) ⟨upd vs 5 _, rfl, k0, inv_step hF (fun _ _ h => h) (hF 4 (he ⟨4, .data⟩ (by simp) rfl))⟩
    · refine step_yes (wanted_of_none rfl _) ?_
      exact wp_of_run (run_mov (.tmp 24) rfl _ (by exact (hF 5 (he ⟨5, .data⟩ (by simp) rfl)))) ⟨upd vs 6 _, rfl, k0, inv_step hF (fun _ _ h => h) rfl⟩
    · refine step_yes (wanted_g (j := 6) (d := 25) rfl rfl rfl (hF 6 (he ⟨6, .guard⟩ (by simp) rfl))) ?_
      exact wp_of_run (run_mov (.tmp 10) rfl _ rfl) ⟨upd vs 7 _, rfl, k0, inv_step hF (fun _ _ h => h) rfl⟩
    · refine step_yes (wanted_g (j := 6) (d := 25) rfl rfl rfl (hF 6 (he ⟨6, .guard⟩ (by simp) rfl))) ?_
      exact wp_of_run (run_notb (.tmp 26) rfl true (by exact (hF 7 (he ⟨7, .data⟩ (by simp) rfl)))) ⟨upd vs 8 _, rfl, k0, inv_step hF (fun _ _ h => h) rfl⟩
    · refine step_yes (wanted_of_none rfl _) ?_
      exact wp_of_run (run_pick_f (.tmp 25) (.const (.bool true)) (.tmp 27) rfl (by exact (hF 6 (he ⟨6, .data⟩ (by simp) rfl)))) ⟨upd vs 9 _, rfl, k0, inv_step hF (fun _ _ h => h) (hF 8 (he ⟨8, .data⟩ (by simp) rfl))⟩
    · refine step_yes (wanted_of_none rfl _) ?_
      exact wp_of_run (run_mov (.tmp 28) rfl _ (by exact (hF 9 (he ⟨9, .data⟩ (by simp) rfl)))) ⟨upd vs 10 _, rfl, k0, inv_step hF (fun _ _ h => h) rfl⟩
    · refine step_yes (wanted_g (j := 10) (d := 29) rfl rfl rfl (hF 10 (he ⟨10, .guard⟩ (by simp) rfl))) ?_
      exact wp_of_run (run_mov (.tmp 11) rfl _ rfl) ⟨upd vs 11 _, rfl, k0, inv_step hF (fun _ _ h => h) rfl⟩
    · refine step_yes (wanted_g (j := 10) (d := 29) rfl rfl rfl (hF 10 (he ⟨10, .guard⟩ (by simp) rfl))) ?_
      exact wp_of_run (run_notb (.tmp 30) rfl true (by exact (hF 11 (he ⟨11, .data⟩ (by simp) rfl)))) ⟨upd vs 12 _, rfl, k0, inv_step hF (fun _ _ h => h) rfl⟩
    · refine step_yes (wanted_of_none rfl _) ?_
      exact wp_of_run (run_pick_f (.tmp 29) (.const (.bool true)) (.tmp 31) rfl (by exact (hF 10 (he ⟨10, .data⟩ (by simp) rfl)))) ⟨upd vs 13 _, rfl, k0, inv_step hF (fun _ _ h => h) (hF 12 (he ⟨12, .data⟩ (by simp) rfl))⟩
    · refine step_yes (wanted_of_none rfl _) ?_
      exact wp_of_run (run_mov (.tmp 32) rfl _ (by exact (hF 13 (he ⟨13, .data⟩ (by simp) rfl)))) ⟨upd vs 14 _, rfl, k0, inv_step hF (fun _ _ h => h) rfl⟩
    · refine step_yes (wanted_g (j := 14) (d := 33) rfl rfl rfl (hF 14 (he ⟨14, .guard⟩ (by simp) rfl))) ?_
      exact wp_of_run (run_load_num (.tmp 6) rfl _ rfl _ _ _ _ _ (k0.row A_3.out)) ⟨upd vs 15 _, rfl, k0, inv_step hF (fun _ _ h => h) rfl⟩
    · refine step_yes (wanted_g (j := 14) (d := 33) rfl rfl rfl (hF 14 (he ⟨14, .chain⟩ (by simp) rfl))) ?_
      refine wp_of_callE (run_enter0 42 _ rfl ent_rzero) (rzero_n wz) ?_
      rintro e w' ⟨rr, rfl, hz, hx⟩
      exact ⟨_, rfl, upd vs 16 _, rfl, k0.trans hx, inv_step hF (fun j v h => q3F_mono hx j v h) hz⟩
    · refine step_yes (wanted_g (j := 14) (d := 33) rfl rfl rfl (hF 14 (he ⟨14, .guard⟩ (by simp) rfl))) ?_
      refine wp_of_callE (run_enter2 41 (.tmp 34) (.tmp 35) _ rfl _ _ (by exact (hF 15 (he ⟨15, .data⟩ (by simp) rfl))) rfl ent_rcmp1) (rcmp_ok _ _ zn 0 wz (k0.num ZA3.out) (hF 16 (he ⟨16, .data⟩ (by simp) rfl))) ?_
      rintro e w' ⟨rfl, hx⟩
      exact ⟨_, rfl, upd vs 17 _, rfl, k0.trans hx, inv_step hF (fun j v h => q3F_mono hx j v h) rfl⟩
    · refine step_yes (wanted_g (j := 14) (d := 33) rfl rfl rfl (hF 14 (he ⟨14, .guard⟩ (by simp) rfl))) ?_
      exact wp_of_run (run_lss_int (.tmp 36) (.const (.int .i64 0)) rfl _ _ (by exact (hF 17 (he ⟨17, .data⟩ (by simp) rfl))) rfl) ⟨upd vs 18 _, rfl, k0, inv_step hF (fun _ _ h => h) (by show Value.bool _ = _; rw [decide_eq_false (by have := Hn0.out; omega)])⟩
    · refine step_yes (wanted_of_none rfl _) ?_
      exact wp_of_run (run_pick_f (.tmp 33) (.const (.bool true)) (.tmp 37) rfl (by exact (hF 14 (he ⟨14, .data⟩ (by simp) rfl)))) ⟨upd vs 19 _, rfl, k0, inv_step hF (fun _ _ h => h) (hF 18 (he ⟨18, .data⟩ (by simp) rfl))⟩
    · refine step_yes (wanted_of_none rfl _) ?_
      exact wp_of_run (run_mov (.tmp 38) rfl _ (by exact (hF 19 (he ⟨19, .data⟩ (by simp) rfl)))) ⟨upd vs 20 _, rfl, k0, inv_step hF (fun _ _ h => h) rfl⟩
    · refine step_yes (wanted_g (j := 20) (d := 39) rfl rfl rfl (hF 20 (he ⟨20, .guard⟩ (by simp) rfl))) ?_
      exact wp_of_run (run_load_num (.tmp 7) rfl _ rfl _ _ _ _ _ (k0.row B_3.out)) ⟨upd vs 21 _, rfl, k0, inv_step hF (fun _ _ h => h) rfl⟩
    · refine step_yes (wanted_g (j := 20) (d := 39) rfl rfl rfl (hF 20 (he ⟨20, .chain⟩ (by simp) rfl))) ?_
      refine wp_of_callE (run_enter0 42 _ rfl ent_rzero) (rzero_n wz) ?_
      rintro e w' ⟨rr, rfl, hz, hx⟩
      exact ⟨_, rfl, upd vs 22 _, rfl, k0.trans hx, inv_step hF (fun j v h => q3F_mono hx j v h) hz⟩
    · refine step_yes (wanted_g (j := 20) (d := 39) rfl rfl rfl (hF 20 (he ⟨20, .guard⟩ (by simp) rfl))) ?_
      refine wp_of_callE (run_enter2 41 (.tmp 40) (.tmp 41) _ rfl _ _ (by exact (hF 21 (he ⟨21, .data⟩ (by simp) rfl))) rfl ent_rcmp1) (rcmp_ok _ _ zd 0 wz (k0.num ZB3.out) (hF 22 (he ⟨22, .data⟩ (by simp) rfl))) ?_
      rintro e w' ⟨rfl, hx⟩
      exact ⟨_, rfl, upd vs 23 _, rfl, k0.trans hx, inv_step hF (fun j v h => q3F_mono hx j v h) rfl⟩
    · refine step_yes (wanted_g (j := 20) (d := 39) rfl rfl rfl (hF 20 (he ⟨20, .guard⟩ (by simp) rfl))) ?_
      exact wp_of_run (run_leq_int (.tmp 42) (.const (.int .i64 0)) rfl _ _ (by exact (hF 23 (he ⟨23, .data⟩ (by simp) rfl))) rfl) ⟨upd vs 24 _, rfl, k0, inv_step hF (fun _ _ h => h) (by show Value.bool _ = _; rw [decide_eq_false (by rw [Hc.out]; decide)])⟩
    · refine step_yes (wanted_of_none rfl _) ?_
      exact wp_of_run (run_pick_f (.tmp 39) (.const (.bool true)) (.tmp 43) rfl (by exact (hF 20 (he ⟨20, .data⟩ (by simp) rfl)))) ⟨upd vs 25 _, rfl, k0, inv_step hF (fun _ _ h => h) (hF 24 (he ⟨24, .data⟩ (by simp) rfl))⟩
  case fin3 =>
    rintro D ac wf3 hD ⟨vs, rfl, k0, hF⟩
    change wpList _ _ _ [] _ _
    unfold wpList
    have h25 : vs 25 = .bool false := hF 25 (hD 25 (by decide))
    rw [h25]
    have ZA4 := Lib.hid (k0.num ZA3.out)
    have ZB4 := Lib.hid (k0.num ZB3.out)
    have E4 := Lib.hid (E3.out.trans k0)
    have A_4 := Lib.hid (k0.row A_3.out)
    have B_4 := Lib.hid (k0.row B_3.out)
    have P_4 := Lib.hid (k0.row P_3.out)
    clear ZA3 ZB3 E3 A_3 B_3 P_3
    clear hF hD h25 k0
    generalize vs = t3
    have cA__num0_4 := A_4.out.num0
    have cA__num1_4 := A_4.out.num1
    have cB__num0_4 := B_4.out.num0
    have cB__num1_4 := B_4.out.num1
    have LP3 := Lib.hid (show w.heap.size + 1 + 1 < wf3.heap.size from by have h := P_4.out.lt; exact h)
    obtain ⟨W4b, hW4b⟩ : ∃ W4b, W4b = (wf3.alloc (.cells #[.int .i64 0, .int .i64 0, .bool false, .slice none 0 0, .bool false, .slice none 0 0] 32)).setRow wf3.heap.size (rootCells a s false p n c false q m c2) := ⟨_, rfl⟩
    have hx : Ext wf3 W4b := by rw [hW4b]; exact ext_setRow (Ext.alloc _ _) (Nat.le_refl _) _
    have C_n : RowAt W4b wf3.heap.size 32 (rootCells a s false p n c false q m c2) := by rw [hW4b]; exact (RowAt.new _ _ _).setRow _
    have ZA5 := Lib.hid (hx.num ZA4.out)
    have ZB5 := Lib.hid (hx.num ZB4.out)
    have E5 := Lib.hid (E4.out.trans hx)
    have A_5 := Lib.hid (hx.row A_4.out)
    have B_5 := Lib.hid (hx.row B_4.out)
    have P_5 := Lib.hid (hx.row P_4.out)
    clear ZA4 ZB4 E4 A_4 B_4 P_4
    have C_5 := Lib.hid C_n
    have HW4b := Lib.hid hW4b
    clear hx hW4b C_n
    go_upto_region 6 with (first | (refine store_root rfl (.tmp 12) (.tmp 50) rfl wf3.heap.size rfl _ _ _ _ _ _ _ _ _ _ rfl _ _ (RowAt.new' _ _ rfl) rfl ?_; rw [← HW4b.out]))
    go_upto_region 6 with fail
    clear cA__num0_4 cA__num1_4 cB__num0_4 cB__num1_4
    refine wp_region_tail (fun D ac w' => ∃ vs : Nat → Value, ac = { tmps := #[Value.int IntKind.i64 a, Value.int IntKind.i64 s, Value.agg #[Value.bool false, Value.slice p n c], Value.agg #[Value.bool false, Value.slice q m c2], undef, undef, Value.pointer (some { block := w.heap.size, off := 0 }), Value.pointer (some { block := w.heap.size + 1, off := 0 }), Value.pointer (some { block := w.heap.size + 1 + 1, off := 0 }), Value.bool false, Value.bool true, Value.bool true, Value.pointer (some { block := wf3.heap.size, off := 0 }), undef, undef, Value.agg #[Value.bool false, Value.slice p n c], Value.bool true, Value.agg #[Value.bool false, Value.slice q m c2], Value.bool true, t3 0, t3 1, t3 2, t3 3, t3 4, t3 5, t3 6, t3 7, t3 8, t3 9, t3 10, t3 11, t3 12, t3 13, t3 14, t3 15, t3 16, t3 17, t3 18, t3 19, t3 20, t3 21, t3 22, t3 23, t3 24, Value.bool false, undef, Value.int IntKind.i64 a, Value.int IntKind.i64 s, Value.agg #[Value.bool false, Value.slice p n c], Value.agg #[Value.bool false, Value.slice q m c2], Value.agg #[Value.int IntKind.i64 a, Value.int IntKind.i64 s, Value.bool false, Value.slice p n c, Value.bool false, Value.slice q m c2], vs 0, vs 1, vs 2, vs 3, vs 4, vs 5, vs 6, vs 7, undef, undef, undef, undef, undef, undef, undef, undef, undef, undef, undef, undef, undef, undef, undef, undef, undef, undef, undef, undef, undef, undef, undef, undef, undef, undef, undef, undef, undef, undef, undef, undef, undef, undef, undef, undef, undef, undef, undef, undef, undef, undef, undef, undef], defers := [] } ∧ Ext W4b w' ∧ ∀ j, D j → q6F (.agg #[.bool false, .slice p n c]) s zn false j (vs j) w') 8 (by kernel_rfl) (by kernel_rfl) (by kernel_rfl) ?start6 ?step6 ?fin6
    case start6 => exact ⟨fun _ => undef, rfl, Ext.drew _, fun _ h => h.elim⟩
    case step6 =>
      rintro i o D ac wz hin hio hnd he ⟨vs, rfl, k0, hF⟩
      rcases i with _ | _ | _ | _ | _ | _ | _ | _ | i
      rotate_left 8
      · exact absurd hin (by omega)
      all_goals (obtain rfl := Option.some.inj (hio.symm.trans (by rfl)))
      · refine step_yes (wanted_of_none rfl _) ?_
        exact wp_of_run (run_mov (.tmp 1) rfl _ rfl) ⟨upd vs 0 _, rfl, k0, inv_step hF (fun _ _ h => h) rfl⟩
      · refine step_yes (wanted_of_none rfl _) ?_
        exact wp_of_run (run_eql_int (.tmp 51) (.const (.int .i64 0)) rfl _ _ (by exact (hF 0 (he ⟨0, .data⟩ (by simp) rfl))) rfl) ⟨upd vs 1 _, rfl, k0, inv_step hF (fun _ _ h => h) (by show Value.bool _ = _; have := HS0.out; simp [this])⟩
      · refine step_yes (wanted_of_none rfl _) ?_
        exact wp_of_run (run_mov (.tmp 52) rfl _ (by exact (hF 1 (he ⟨1, .data⟩ (by simp) rfl)))) ⟨upd vs 2 _, rfl, k0, inv_step hF (fun _ _ h => h) rfl⟩
      · refine step_yes (wanted_g (j := 2) (d := 53) rfl rfl rfl (hF 2 (he ⟨2, .guard⟩ (by simp) rfl))) ?_
        exact wp_of_run (run_load_num (.tmp 6) rfl _ rfl _ _ _ _ _ (k0.row A_5.out)) ⟨upd vs 3 _, rfl, k0, inv_step hF (fun _ _ h => h) rfl⟩
      · refine step_yes (wanted_g (j := 2) (d := 53) rfl rfl rfl (hF 2 (he ⟨2, .chain⟩ (by simp) rfl))) ?_
        refine wp_of_callE (run_enter0 42 _ rfl ent_rzero) (rzero_n wz) ?_
        rintro e w' ⟨rr, rfl, hz, hx⟩
        exact ⟨_, rfl, upd vs 4 _, rfl, k0.trans hx, inv_step hF (fun j v h => q6F_mono hx j v h) hz⟩
      · refine step_yes (wanted_g (j := 2) (d := 53) rfl rfl rfl (hF 2 (he ⟨2, .guard⟩ (by simp) rfl))) ?_
        refine wp_of_callE (run_enter2 41 (.tmp 54) (.tmp 55) _ rfl _ _ (by exact (hF 3 (he ⟨3, .data⟩ (by simp) rfl))) rfl ent_rcmp1) (rcmp_ok _ _ zn 0 wz (k0.num ZA5.out) (hF 4 (he ⟨4, .data⟩ (by simp) rfl))) ?_
        rintro e w' ⟨rfl, hx⟩
        exact ⟨_, rfl, upd vs 5 _, rfl, k0.trans hx, inv_step hF (fun j v h => q6F_mono hx j v h) rfl⟩
      · refine step_yes (wanted_g (j := 2) (d := 53) rfl rfl rfl (hF 2 (he ⟨2, .guard⟩ (by simp) rfl))) ?_
        exact wp_of_run (run_eql_int (.tmp 56) (.const (.int .i64 0)) rfl _ _ (by exact (hF 5 (he ⟨5, .data⟩ (by simp) rfl))) rfl) ⟨upd vs 6 _, rfl, k0, inv_step hF (fun _ _ h => h) rfl⟩
      · refine step_yes (wanted_of_none rfl _) ?_
        exact wp_of_run (run_pick_f (.tmp 53) (.const (.bool true)) (.tmp 57) rfl (by exact (hF 2 (he ⟨2, .data⟩ (by simp) rfl)))) ⟨upd vs 7 _, rfl, k0, inv_step hF (fun _ _ h => h) (hF 6 (he ⟨6, .data⟩ (by simp) rfl))⟩
    case fin6 =>
      rintro D ac wf6 hD ⟨vs, rfl, k0, hF⟩
      change wpList _ _ _ [] _ _
      unfold wpList
      have h7 : vs 7 = .bool true := by have h := hF 7 (hD 7 (by decide)); rw [show vs 7 = Value.bool (false || (zcmp zn 0 == 0)) from h, HZ0.out]; rfl
      rw [h7]
      have ZA6 := Lib.hid (k0.num ZA5.out)
      have ZB6 := Lib.hid (k0.num ZB5.out)
      have E6 := Lib.hid (E5.out.trans k0)
      have A_6 := Lib.hid (k0.row A_5.out)
      have B_6 := Lib.hid (k0.row B_5.out)
      have P_6 := Lib.hid (k0.row P_5.out)
      have C_6 := Lib.hid (k0.row C_5.out)
      clear ZA5 ZB5 E5 A_5 B_5 P_5 C_5
      clear hF hD h7 k0
      generalize vs = t6
      have LC := Lib.hid (show w.heap.size + 1 + 1 < wf3.heap.size from LP3.out)
      go_wp2_with fail
      refine (rzero_n wf6).mono ?_
      rintro e w7_ ⟨v0, rfl, hz, hx⟩
      have ZA7 := Lib.hid (hx.num ZA6.out)
      have ZB7 := Lib.hid (hx.num ZB6.out)
      have E7 := Lib.hid (E6.out.trans hx)
      have A_7 := Lib.hid (hx.row A_6.out)
      have B_7 := Lib.hid (hx.row B_6.out)
      have P_7 := Lib.hid (hx.row P_6.out)
      have C_7 := Lib.hid (hx.row C_6.out)
      clear ZA6 ZB6 E6 A_6 B_6 P_6 C_6
      have Z07 := Lib.hid hz
      clear hx hz
      obtain ⟨b0, p0, n0, c0, rfl⟩ := IsN.parts Z07.out
      go_wp2_with fail
      refine (rof_n 1 (by decide) w7_).mono ?_
      rintro e w8_ ⟨v1, rfl, hz, hx⟩
      have ZA8 := Lib.hid (hx.num ZA7.out)
      have ZB8 := Lib.hid (hx.num ZB7.out)
      have E8 := Lib.hid (E7.out.trans hx)
      have A_8 := Lib.hid (hx.row A_7.out)
      have B_8 := Lib.hid (hx.row B_7.out)
      have P_8 := Lib.hid (hx.row P_7.out)
      have C_8 := Lib.hid (hx.row C_7.out)
      have Z08 := Lib.hid (hx.num Z07.out)
      clear ZA7 ZB7 E7 A_7 B_7 P_7 C_7 Z07
      have Z18 := Lib.hid hz
      clear hx hz
      obtain ⟨b1, p1, n1, c1, rfl⟩ := IsN.parts Z18.out
      obtain rfl : b0 = false := by obtain ⟨_, _, e⟩ := ZNum.parts Z08.out; cases e; rfl
      obtain rfl : b1 = false := by obtain ⟨_, _, e⟩ := ZNum.parts Z18.out; cases e; rfl
      obtain ⟨W8c, hW8c⟩ : ∃ W8c, W8c = w8_.setRow wf3.heap.size (rootCells a 0 false p0 n0 c0 false p1 n1 c1) := ⟨_, rfl⟩
      have ZA9 := Lib.hid (show ZNum W8c.heap.size W8c _ _ from by rw [hW8c, setRow_size]; exact ZA8.out.setRoot C_8.out _)
      have ZB9 := Lib.hid (show ZNum W8c.heap.size W8c _ _ from by rw [hW8c, setRow_size]; exact ZB8.out.setRoot C_8.out _)
      have E9 : Hid (Ext w W8c) := by rw [hW8c]; exact ext_setRow E8.out (by have := LC.out; omega) _
      have A_9 := Lib.hid (show RowAt W8c (w.heap.size) _ _ from by rw [hW8c]; exact A_8.out.setRowOther _ (by have := LC.out; omega))
      have B_9 := Lib.hid (show RowAt W8c (w.heap.size + 1) _ _ from by rw [hW8c]; exact B_8.out.setRowOther _ (by have := LC.out; omega))
      have P_9 := Lib.hid (show RowAt W8c (w.heap.size + 1 + 1) _ _ from by rw [hW8c]; exact P_8.out.setRowOther _ (by have := LC.out; omega))
      have C_9 : Hid (RowAt W8c wf3.heap.size 32 (rootCells a 0 false p0 n0 c0 false p1 n1 c1)) := by rw [hW8c]; exact C_8.out.setRow _
      have Z09 := Lib.hid (show ZNum W8c.heap.size W8c _ _ from by rw [hW8c, setRow_size]; exact Z08.out.setRoot C_8.out _)
      have Z19 := Lib.hid (show ZNum W8c.heap.size W8c _ _ from by rw [hW8c, setRow_size]; exact Z18.out.setRoot C_8.out _)
      have HW8c := Lib.hid hW8c
      clear hW8c ZA8 ZB8 E8 A_8 B_8 P_8 Z08 Z18
      have cC__root2_9 := C_9.out.root2
      have cC__root3_9 := C_9.out.root3
      have cC__root4_9 := C_9.out.root4
      have cC__root5_9 := C_9.out.root5
      go_wp2_with (first | (refine store_root rfl (.tmp 12) (.tmp 62) rfl _ rfl a 0 false p0 n0 c0 false p1 n1 c1 rfl _ _ C_8.out rfl ?_; rw [← HW8c.out]))
      refine (rgcd_z _ _ 0 1 (gcdZ 0 1) W8c Z09.out Z19.out rfl).mono ?_
      rintro e w10_ ⟨pg, ng, cg, rfl, hz, hx⟩
      clear cC__root2_9 cC__root3_9 cC__root4_9 cC__root5_9
      have ZA10 := Lib.hid (hx.num ZA9.out)
      have ZB10 := Lib.hid (hx.num ZB9.out)
      have E10 := Lib.hid (E9.out.trans hx)
      have A_10 := Lib.hid (hx.row A_9.out)
      have B_10 := Lib.hid (hx.row B_9.out)
      have P_10 := Lib.hid (hx.row P_9.out)
      have C_10 := Lib.hid (hx.row C_9.out)
      have Z010 := Lib.hid (hx.num Z09.out)
      have Z110 := Lib.hid (hx.num Z19.out)
      clear ZA9 ZB9 E9 A_9 B_9 P_9 C_9 Z09 Z19
      have ZG10 := Lib.hid hz
      clear hx hz
      have LG := Lib.hid (show wf3.heap.size < w10_.heap.size from C_10.out.lt)
      obtain ⟨W10b, hW10b⟩ : ∃ W10b, W10b = (w10_.alloc (.cells #[.bool false, .slice none 0 0] 25)).setRow w10_.heap.size (numCells false pg ng cg) := ⟨_, rfl⟩
      have hx : Ext w10_ W10b := by rw [hW10b]; exact ext_setRow (Ext.alloc _ _) (Nat.le_refl _) _
      have G_n : RowAt W10b w10_.heap.size 25 (numCells false pg ng cg) := by rw [hW10b]; exact (RowAt.new _ _ _).setRow _
      have ZA11 := Lib.hid (hx.num ZA10.out)
      have ZB11 := Lib.hid (hx.num ZB10.out)
      have E11 := Lib.hid (E10.out.trans hx)
      have A_11 := Lib.hid (hx.row A_10.out)
      have B_11 := Lib.hid (hx.row B_10.out)
      have P_11 := Lib.hid (hx.row P_10.out)
      have C_11 := Lib.hid (hx.row C_10.out)
      have Z011 := Lib.hid (hx.num Z010.out)
      have Z111 := Lib.hid (hx.num Z110.out)
      have ZG11 := Lib.hid (hx.num ZG10.out)
      clear ZA10 ZB10 E10 A_10 B_10 P_10 C_10 Z010 Z110 ZG10
      have G_11 := Lib.hid G_n
      have HW10b := Lib.hid hW10b
      clear hx hW10b G_n
      have cC__root2_11 := C_11.out.root2
      have cC__root3_11 := C_11.out.root3
      have cG__num0_11 := G_11.out.num0
      have cG__num1_11 := G_11.out.num1
      go_wp2_with (first | (refine store_num rfl (.tmp 13) (.tmp 69) rfl w10_.heap.size rfl _ _ _ _ rfl _ _ (RowAt.new' _ _ rfl) rfl ?_; rw [← HW10b.out]))
      refine (rdiv_ok _ _ 0 (gcdZ 0 1) false false W10b Z011.out ZG11.out (gcdZ_pos (by first | exact H01.out.2 | decide)) (by have h1 := gcdZ_pos (a := 0) (b := 1) (by first | exact H01.out.2 | decide); have h2 := Int.ediv_nonneg (a := 0) (b := gcdZ 0 1) (by first | exact H01.out.1 | (have := H01.out; omega) | decide) (by omega); simp <;> omega) (by have h1 := gcdZ_pos (a := 0) (b := 1) (by first | exact H01.out.2 | decide); have h2 := Int.emod_nonneg 0 (b := gcdZ 0 1) (by omega); simp <;> omega)).mono ?_
      rintro e w12_ ⟨p5, n5, c5, p8, n8, c8, rfl, hz, hz8, hx⟩
      clear cC__root2_11 cC__root3_11 cG__num0_11 cG__num1_11
      have ZA12 := Lib.hid (hx.num ZA11.out)
      have ZB12 := Lib.hid (hx.num ZB11.out)
      have E12 := Lib.hid (E11.out.trans hx)
      have A_12 := Lib.hid (hx.row A_11.out)
      have B_12 := Lib.hid (hx.row B_11.out)
      have P_12 := Lib.hid (hx.row P_11.out)
      have C_12 := Lib.hid (hx.row C_11.out)
      have Z012 := Lib.hid (hx.num Z011.out)
      have Z112 := Lib.hid (hx.num Z111.out)
      have ZG12 := Lib.hid (hx.num ZG11.out)
      have G_12 := Lib.hid (hx.row G_11.out)
      clear ZA11 ZB11 E11 A_11 B_11 P_11 C_11 Z011 Z111 ZG11 G_11
      have ZQ12 := Lib.hid hz
      clear hx hz
      clear hz8
      obtain ⟨W12c, hW12c⟩ : ∃ W12c, W12c = w12_.setRow wf3.heap.size (rootCells a 0 false p5 n5 c5 false p1 n1 c1) := ⟨_, rfl⟩
      have ZA13 := Lib.hid (show ZNum W12c.heap.size W12c _ _ from by rw [hW12c, setRow_size]; exact ZA12.out.setRoot C_12.out _)
      have ZB13 := Lib.hid (show ZNum W12c.heap.size W12c _ _ from by rw [hW12c, setRow_size]; exact ZB12.out.setRoot C_12.out _)
      have E13 : Hid (Ext w W12c) := by rw [hW12c]; exact ext_setRow E12.out (by have := LC.out; omega) _
      have A_13 := Lib.hid (show RowAt W12c (w.heap.size) _ _ from by rw [hW12c]; exact A_12.out.setRowOther _ (by first | (have := LC.out; omega) | (have := LG.out; omega)))
      have B_13 := Lib.hid (show RowAt W12c (w.heap.size + 1) _ _ from by rw [hW12c]; exact B_12.out.setRowOther _ (by first | (have := LC.out; omega) | (have := LG.out; omega)))
      have P_13 := Lib.hid (show RowAt W12c (w.heap.size + 1 + 1) _ _ from by rw [hW12c]; exact P_12.out.setRowOther _ (by first | (have := LC.out; omega) | (have := LG.out; omega)))
      have C_13 : Hid (RowAt W12c wf3.heap.size 32 (rootCells a 0 false p5 n5 c5 false p1 n1 c1)) := by rw [hW12c]; exact C_12.out.setRow _
      have Z013 := Lib.hid (show ZNum W12c.heap.size W12c _ _ from by rw [hW12c, setRow_size]; exact Z012.out.setRoot C_12.out _)
      have Z113 := Lib.hid (show ZNum W12c.heap.size W12c _ _ from by rw [hW12c, setRow_size]; exact Z112.out.setRoot C_12.out _)
      have ZG13 := Lib.hid (show ZNum W12c.heap.size W12c _ _ from by rw [hW12c, setRow_size]; exact ZG12.out.setRoot C_12.out _)
      have G_13 := Lib.hid (show RowAt W12c w10_.heap.size _ _ from by rw [hW12c]; exact G_12.out.setRowOther _ (by first | (have := LC.out; omega) | (have := LG.out; omega)))
      have ZQ13 := Lib.hid (show ZNum W12c.heap.size W12c _ _ from by rw [hW12c, setRow_size]; exact ZQ12.out.setRoot C_12.out _)
      have HW12c := Lib.hid hW12c
      clear hW12c ZA12 ZB12 E12 A_12 B_12 P_12 Z012 Z112 ZG12 G_12 ZQ12
      have cC__root4_13 := C_13.out.root4
      have cC__root5_13 := C_13.out.root5
      have cG__num0_13 := G_13.out.num0
      have cG__num1_13 := G_13.out.num1
      go_wp2_with (first | (refine store_rN rfl (.tmp 79) (.tmp 76) rfl _ rfl false p5 n5 c5 rfl _ _ _ _ _ _ _ _ _ _ _ C_12.out ?_; rw [← HW12c.out]))
      refine (rdiv_ok _ _ 1 (gcdZ 0 1) false false W12c Z113.out ZG13.out (gcdZ_pos (by first | exact H01.out.2 | decide)) (by have h1 := gcdZ_pos (a := 0) (b := 1) (by first | exact H01.out.2 | decide); have h2 := Int.ediv_nonneg (a := 1) (b := gcdZ 0 1) (by first | exact H01.out.1 | (have := H01.out; omega) | decide) (by omega); simp <;> omega) (by have h1 := gcdZ_pos (a := 0) (b := 1) (by first | exact H01.out.2 | decide); have h2 := Int.emod_nonneg 1 (b := gcdZ 0 1) (by omega); simp <;> omega)).mono ?_
      rintro e w14_ ⟨p6, n6, c6, p9, n9, c9, rfl, hz, hz8, hx⟩
      clear cC__root4_13 cC__root5_13 cG__num0_13 cG__num1_13
      have ZA14 := Lib.hid (hx.num ZA13.out)
      have ZB14 := Lib.hid (hx.num ZB13.out)
      have E14 := Lib.hid (E13.out.trans hx)
      have A_14 := Lib.hid (hx.row A_13.out)
      have B_14 := Lib.hid (hx.row B_13.out)
      have P_14 := Lib.hid (hx.row P_13.out)
      have C_14 := Lib.hid (hx.row C_13.out)
      have Z014 := Lib.hid (hx.num Z013.out)
      have Z114 := Lib.hid (hx.num Z113.out)
      have ZG14 := Lib.hid (hx.num ZG13.out)
      have G_14 := Lib.hid (hx.row G_13.out)
      have ZQ14 := Lib.hid (hx.num ZQ13.out)
      clear ZA13 ZB13 E13 A_13 B_13 P_13 C_13 Z013 Z113 ZG13 G_13 ZQ13
      have ZR14 := Lib.hid hz
      clear hx hz
      clear hz8
      obtain ⟨W14c, hW14c⟩ : ∃ W14c, W14c = w14_.setRow wf3.heap.size (rootCells a 0 false p5 n5 c5 false p6 n6 c6) := ⟨_, rfl⟩
      have ZA15 := Lib.hid (show ZNum W14c.heap.size W14c _ _ from by rw [hW14c, setRow_size]; exact ZA14.out.setRoot C_14.out _)
      have ZB15 := Lib.hid (show ZNum W14c.heap.size W14c _ _ from by rw [hW14c, setRow_size]; exact ZB14.out.setRoot C_14.out _)
      have E15 : Hid (Ext w W14c) := by rw [hW14c]; exact ext_setRow E14.out (by have := LC.out; omega) _
      have A_15 := Lib.hid (show RowAt W14c (w.heap.size) _ _ from by rw [hW14c]; exact A_14.out.setRowOther _ (by first | (have := LC.out; omega) | (have := LG.out; omega)))
      have B_15 := Lib.hid (show RowAt W14c (w.heap.size + 1) _ _ from by rw [hW14c]; exact B_14.out.setRowOther _ (by first | (have := LC.out; omega) | (have := LG.out; omega)))
      have P_15 := Lib.hid (show RowAt W14c (w.heap.size + 1 + 1) _ _ from by rw [hW14c]; exact P_14.out.setRowOther _ (by first | (have := LC.out; omega) | (have := LG.out; omega)))
      have C_15 : Hid (RowAt W14c wf3.heap.size 32 (rootCells a 0 false p5 n5 c5 false p6 n6 c6)) := by rw [hW14c]; exact C_14.out.setRow _
      have Z015 := Lib.hid (show ZNum W14c.heap.size W14c _ _ from by rw [hW14c, setRow_size]; exact Z014.out.setRoot C_14.out _)
      have Z115 := Lib.hid (show ZNum W14c.heap.size W14c _ _ from by rw [hW14c, setRow_size]; exact Z114.out.setRoot C_14.out _)
      have ZG15 := Lib.hid (show ZNum W14c.heap.size W14c _ _ from by rw [hW14c, setRow_size]; exact ZG14.out.setRoot C_14.out _)
      have G_15 := Lib.hid (show RowAt W14c w10_.heap.size _ _ from by rw [hW14c]; exact G_14.out.setRowOther _ (by first | (have := LC.out; omega) | (have := LG.out; omega)))
      have ZQ15 := Lib.hid (show ZNum W14c.heap.size W14c _ _ from by rw [hW14c, setRow_size]; exact ZQ14.out.setRoot C_14.out _)
      have ZR15 := Lib.hid (show ZNum W14c.heap.size W14c _ _ from by rw [hW14c, setRow_size]; exact ZR14.out.setRoot C_14.out _)
      have HW14c := Lib.hid hW14c
      clear hW14c ZA14 ZB14 E14 A_14 B_14 P_14 Z014 Z114 ZG14 G_14 ZQ14 ZR14
      have ZQx := Lib.hid (show ZNum W14c.heap.size W14c _ N from by have h := ZQ15.out; rw [show (0 : Int) / gcdZ 0 1 = 0 from rfl] at h; rw [← HNM.out.1]; exact h)
      have ZRx := Lib.hid (show ZNum W14c.heap.size W14c _ M from by have h := ZR15.out; rw [show (1 : Int) / gcdZ 0 1 = 1 from rfl] at h; rw [← HNM.out.2]; exact h)
      clear ZQ15 ZR15
      have Ln : Hid (fitK 8 N = decide (n5 ≤ 8)) := by show fitK 8 N = _; unfold fitK; rw [u32s_len (znum_slice ZQx.out)]
      have Lm : Hid (fitK 8 M = decide (n6 ≤ 8)) := by show fitK 8 M = _; unfold fitK; rw [u32s_len (znum_slice ZRx.out)]
      have cC__root0_15 := C_15.out.root0
      have cC__root1_15 := C_15.out.root1
      have cC__root2_15 := C_15.out.root2
      have cC__root3_15 := C_15.out.root3
      have cC__root4_15 := C_15.out.root4
      have cC__root5_15 := C_15.out.root5
      by_cases hf1 : 8 < n5
      · have hf1' : (8 : Int) < (n5 : Int) := by omega
        go_wp2_with (first | (refine store_rD rfl (.tmp 88) (.tmp 85) rfl _ rfl false p6 n6 c6 rfl _ _ _ _ _ _ _ _ _ _ _ C_14.out ?_; rw [← HW14c.out]) | (refine store_root rfl (.tmp 8) (.tmp 101) rfl _ rfl 0 0 false none 0 0 false none 0 0 rfl _ _ P_15.out rfl ?_) | (refine load_root rfl (.tmp 12) rfl _ rfl _ _ _ _ _ _ _ _ _ _ _ C_15.out ?_) | (refine store_root rfl (.tmp 8) (.tmp 102) rfl _ rfl _ _ _ _ _ _ _ _ _ _ rfl _ _ P_15.out rfl ?_))
        exact ret_root rfl _ rfl _ rfl _ _ _ _ _ _ _ _ _ _ _ (P_15.out.setRow _) (HRf.out _ _ _ E15.out (by omega) (by show (fitK 8 N && fitK 8 M) = false; rw [Ln.out, decide_eq_false (by omega)]; rfl))
      have hf1' : ¬ (8 : Int) < (n5 : Int) := by omega
      by_cases hf2 : 8 < n6
      · have hf2' : (8 : Int) < (n6 : Int) := by omega
        go_wp2_with (first | (refine store_rD rfl (.tmp 88) (.tmp 85) rfl _ rfl false p6 n6 c6 rfl _ _ _ _ _ _ _ _ _ _ _ C_14.out ?_; rw [← HW14c.out]) | (refine store_root rfl (.tmp 8) (.tmp 101) rfl _ rfl 0 0 false none 0 0 false none 0 0 rfl _ _ P_15.out rfl ?_) | (refine load_root rfl (.tmp 12) rfl _ rfl _ _ _ _ _ _ _ _ _ _ _ C_15.out ?_) | (refine store_root rfl (.tmp 8) (.tmp 102) rfl _ rfl _ _ _ _ _ _ _ _ _ _ rfl _ _ P_15.out rfl ?_))
        exact ret_root rfl _ rfl _ rfl _ _ _ _ _ _ _ _ _ _ _ (P_15.out.setRow _) (HRf.out _ _ _ E15.out (by omega) (by show (fitK 8 N && fitK 8 M) = false; rw [Lm.out, decide_eq_false (show ¬ n6 ≤ 8 by omega)]; simp))
      have hf2' : ¬ (8 : Int) < (n6 : Int) := by omega
      go_wp2_with (first | (refine store_rD rfl (.tmp 88) (.tmp 85) rfl _ rfl false p6 n6 c6 rfl _ _ _ _ _ _ _ _ _ _ _ C_14.out ?_; rw [← HW14c.out]) | (refine store_root rfl (.tmp 8) (.tmp 101) rfl _ rfl 0 0 false none 0 0 false none 0 0 rfl _ _ P_15.out rfl ?_) | (refine load_root rfl (.tmp 12) rfl _ rfl _ _ _ _ _ _ _ _ _ _ _ C_15.out ?_) | (refine store_root rfl (.tmp 8) (.tmp 102) rfl _ rfl _ _ _ _ _ _ _ _ _ _ rfl _ _ P_15.out rfl ?_))
      exact ret_root rfl _ rfl _ rfl _ _ _ _ _ _ _ _ _ _ _ (P_15.out.setRow _) (HRs.out _ _ _ _ _ _ _ _ _ E15.out (by omega) (by show (fitK 8 N && fitK 8 M) = true; rw [Ln.out, Lm.out, decide_eq_true (by omega), decide_eq_true (by omega)]; rfl) (ZNum.setRoot ZQx.out P_15.out _) (ZNum.setRoot ZRx.out P_15.out _))
end Go.Proofs.YtegjcikofmphjaaGreatDoor

