/- Texts that belong together. -/
import Derived.Test.YtegjcikofmphjaaGreatDoorQRootMw
import Derived.Deep.Cut
import Derived.Deep.CutRange
set_option linter.all false
/- The reference of layer 2: Made. -/
namespace Go.Proofs.YtegjcikofmphjaaGreatDoor
open Go Go.RowKit Go.Shelf
theorem run_enter4 {o : Oper} {a : Act} {w : World} (f : FuncId) (x y z t : Operand) (ts : Array TypeId) (ho : o.op = .call { callee := .value (.func f), args := #[x, y, z, t], argTypes := ts }) (u1 u2 u3 u4 : Value) (h1 : a.eval x = u1) (h2 : a.eval y = u2) (h3 : a.eval z = u3) (h4 : a.eval t = u4) (hf : ∀ args w, (callFunc f args).run Tryz.prog w = .ok (.enter f args) w) :
    (execOp a.eval o).run Tryz.prog w = .ok (.enter f #[u1, u2, u3, u4]) w := by
  have ef : a.eval (.func f) = .func (.func f) #[] #[] := rfl
  have hm : Array.map a.eval #[x, y, z, t] = #[u1, u2, u3, u4] := by rw [← h1, ← h2, ← h3, ← h4]; simp
  unfold execOp
  simp only [ho, resolve, Deferred.ofValue, invoke, ef, hm]
  simp [hf]
theorem abs_n {z : Int} {b : Bool} {s : Value} {W : World} (h : IsN z (.agg #[.bool b, s]) W) : IsN (z.natAbs : Int) (.agg #[.bool false, s]) W := by
  obtain ⟨⟨s', e, hu⟩, hl⟩ := h
  cases e
  have e1 : decide (((z.natAbs : Nat) : Int) < 0) = false := by simp
  have e2 : ((z.natAbs : Nat) : Int).natAbs = z.natAbs := by simp
  exact ⟨⟨s, by rw [e1], by rw [e2]; exact hu⟩, by rw [e2]; exact hl⟩
theorem store_neg {ops : Array Oper} {rest : List Oper} {o : Oper} {a : Act} {w : World} {Q : Exit → Act → World → Prop} (hgd : o.guard = none) (x : Operand) (ho : o.op = .store 4 x (.const (.bool false))) (g : Nat) (hx : a.eval x = .pointer (some ⟨g, 0, none⟩)) (neg : Bool) (p : Option Addr) (n c : Nat) (t : TypeId) (hg : RowAt w g t (numCells neg p n c))
    (h : wpList Tryz.prog ops Q rest (a.put o.dst undef) (w.setRow g (numCells false p n c))) : wpList Tryz.prog ops Q (o :: rest) a w := by
  refine wpList_plain hgd fun K hK => ?_
  have k1 : w.cell? ⟨g, 0, none⟩ = some (.bool neg) := hg.cell 0
  have f1 := hg.frozen 0
  have e1 : w.setCell ⟨g, 0, none⟩ (.bool false) = w.setRow g (numCells false p n c) := setCell_eq_setRow w g 0 _ t (0, 0) _ hg
  have e2 : a.eval (.const (.bool false)) = .bool false := rfl
  have hrun : (execOp a.eval o).run Tryz.prog w = .ok .skip (w.setRow g (numCells false p n c)) := by
    rw [← e1]
    unfold execOp
    simp only [ho, hx, e2]
    simp [go_sem, k1, f1]
  exact wp_of_skip hrun (hK _ _ h)
def md6F (g0 b0 : Nat) (q0 a s N d : Int) : Nat → Value → World → Prop
  | 0, v, _ => v = .pointer (some ⟨g0, 0, none⟩)
  | 1, v, _ => v = .int .i64 q0
  | 2, v, _ => v = .int .i64 a
  | 3, v, _ => v = .int .i64 s
  | 4, v, _ => v = .int .i64 N
  | 5, v, W => IsN N v W
  | 6, v, _ => v = .int .i64 d
  | 7, v, W => IsN d v W
  | 8, v, W => RightTrue v W
  | 9, v, W => RightTrue v W
  | 10, v, W => RightV v W
  | 11, v, _ => v = .bool true
  | 12, v, W => OwnR b0 v W
  | _, _, _ => True
theorem md6F_mono {g0 b0 : Nat} {q0 a s N d : Int} {W W' : World} (hx : Ext W W') (j : Nat) (v : Value) (h : md6F g0 b0 q0 a s N d j v W) : md6F g0 b0 q0 a s N d j v W' := by
  match j, h with
  | 0, h | 1, h | 2, h | 3, h | 4, h | 6, h | 11, h => exact h
  | 5, h => exact IsN.ext h hx
  | 7, h => exact IsN.ext h hx
  | 8, h => exact RightTrue.ext h hx
  | 9, h => exact RightTrue.ext h hx
  | 10, h => exact RightV.ext h hx
  | 12, h => exact OwnR.ext h hx
  | _ + 13, _ => trivial
def md10F (g0 : Nat) (q0 q3 s B y : Int) (bv : Value) : Nat → Value → World → Prop
  | 0, v, _ => v = .pointer (some ⟨g0, 0, none⟩)
  | 1, v, _ => v = .int .i64 q0
  | 2, v, _ => v = .int .i64 s
  | 3, v, _ => v = bv
  | 4, v, _ => v = bv
  | 5, v, W => IsN (B * B) v W
  | 6, v, _ => v = .pointer (some ⟨g0, 3, none⟩)
  | 7, v, _ => v = .int .i64 q3
  | 8, v, _ => v = .int .i64 y
  | 9, v, _ => v = .int .i64 (1 + y)
  | 10, v, W => IsN (1 + y) v W
  | 11, v, W => RightTrue v W
  | 12, v, W => RightTrue v W
  | 13, v, W => RightV v W
  | 14, v, _ => v = .bool true
  | _, _, _ => True
theorem md10F_mono {g0 : Nat} {q0 q3 s B y : Int} {bv : Value} {W W' : World} (hx : Ext W W') (j : Nat) (v : Value) (h : md10F g0 q0 q3 s B y bv j v W) : md10F g0 q0 q3 s B y bv j v W' := by
  match j, h with
  | 0, h | 1, h | 2, h | 3, h | 4, h | 6, h | 7, h | 8, h | 9, h | 14, h => exact h
  | 5, h => exact IsN.ext h hx
  | 10, h => exact IsN.ext h hx
  | 11, h => exact RightTrue.ext h hx
  | 12, h => exact RightTrue.ext h hx
  | 13, h => exact RightV.ext h hx
  | _ + 15, _ => trivial
set_option maxRecDepth 100000 in
set_option maxHeartbeats 16000000 in
theorem madeR_f (q0 q1 q2 q3 : Int) (w : World) (r0 : -9223372036854775808 ≤ q0 ∧ q0 ≤ 9223372036854775807) (r2 : -9223372036854775808 ≤ q2 ∧ q2 ≤ 9223372036854775807) (h7 : (q1.tmod 7 == 6) = false) :
    Calls Tryz.prog 16 #[.agg #[.int .i64 q0, .int .i64 q1, .int .i64 q2, .int .i64 q3]] w fun e w' => ∃ v, e = .returned v ∧ RightV v w' ∧ Ext w w' := by
  have M2 := Int.emod_nonneg q2 (show (100 : Int) ≠ 0 by decide)
  have M2' := Int.emod_lt_of_pos q2 (show (0 : Int) < 100 by decide)
  have M3 := Int.emod_nonneg q3 (show (12 : Int) ≠ 0 by decide)
  have M3' := Int.emod_lt_of_pos q3 (show (0 : Int) < 12 by decide)
  have M1 := Int.emod_nonneg q1 (show (3 : Int) ≠ 0 by decide)
  have M1' := Int.emod_lt_of_pos q1 (show (0 : Int) < 3 by decide)
  have M4 := Int.emod_nonneg q3 (show (1099511627776 : Int) ≠ 0 by decide)
  have M4' := Int.emod_lt_of_pos q3 (show (0 : Int) < 1099511627776 by decide)
  have h30 : -30 < q0.tmod 30 ∧ q0.tmod 30 < 30 := rem_inM q0 (by decide)
  have C2 := Lib.hid (refMod_ok q2 100)
  have C3 := Lib.hid (refMod_ok q3 12)
  have C1 := Lib.hid (refMod_ok q1 3)
  have C4 := Lib.hid (refMod_ok q3 1099511627776)
  obtain ⟨x2, hx2⟩ : ∃ x, x = q2 % 100 := ⟨_, rfl⟩
  obtain ⟨x3, hx3⟩ : ∃ x, x = q3 % 12 := ⟨_, rfl⟩
  obtain ⟨x1, hx1⟩ : ∃ x, x = q1 % 3 := ⟨_, rfl⟩
  obtain ⟨y3, hy3⟩ : ∃ x, x = q3 % 1099511627776 := ⟨_, rfl⟩
  obtain ⟨a0, ha0⟩ : ∃ x, x = q0.tmod 30 := ⟨_, rfl⟩
  rw [← hx2] at C2 M2 M2'
  rw [← hx3] at C3 M3 M3'
  rw [← hx1] at C1 M1 M1'
  rw [← hy3] at C4 M4 M4'
  rw [← ha0] at h30
  have HA0 := Lib.hid ha0.symm
  have H30 := Lib.hid h30
  have R0 := Lib.hid r0
  have R2 := Lib.hid r2
  have hms := mul_small M2 M2' (show 1 ≤ 1 + x3 by omega) (by omega)
  have hw1 : wrap64 (x2 * x2) = x2 * x2 := by unfold wrap64; omega
  have hw2 : wrap64 (x2 * x2 * (1 + x3)) = x2 * x2 * (1 + x3) := by unfold wrap64; omega
  have hw3 : wrap64 (1 + x3) = 1 + x3 := by unfold wrap64; omega
  have hw4 : wrap64 (x1 - 1) = x1 - 1 := by unfold wrap64; omega
  have hw5 : wrap64 (1 + y3) = 1 + y3 := by unfold wrap64; omega
  have HW5 := Lib.hid hw5
  have HY := Lib.hid (And.intro M4 M4')
  have HX3 := Lib.hid (And.intro M3 M3')
  have HX1 := Lib.hid (And.intro M1 M1')
  have H7 := Lib.hid h7
  have E := Lib.hid (Ext.refl w)
  obtain ⟨NN, hNN⟩ : ∃ n, n = (if (q1.tmod 5 == 4) = true then x2 * x2 * (1 + x3) else x2) := ⟨_, rfl⟩
  have HNN := Lib.hid hNN
  have RN : Hid (0 ≤ NN ∧ NN ≤ 117612) := by show _ ∧ _; rw [hNN]; split <;> omega
  clear hx2 hx3 hx1 hy3 ha0 h30 r0 r2 hms M1 M1' M2 M2' M3 M3' M4 M4' h7 hw5 hNN
  obtain ⟨W0a, hW0a⟩ : ∃ W0a, W0a = ((w.alloc (.cells #[.int .i64 q0, .int .i64 q1, .int .i64 q2, .int .i64 q3] 27)).alloc (.cells #[.int .i64 0, .int .i64 0, .bool false, .slice none 0 0, .bool false, .slice none 0 0] 32)) := ⟨_, rfl⟩
  have hx : Ext w W0a := by rw [hW0a]; exact ((Ext.alloc _ _).trans (Ext.alloc _ _))
  have Q_n : RowAt W0a (w.heap.size) 27 #[.int .i64 q0, .int .i64 q1, .int .i64 q2, .int .i64 q3] := by rw [hW0a]; exact ((RowAt.new' _ _ (by simp)).alloc _)
  have P_n : RowAt W0a (w.heap.size + 1) 32 (rootCells 0 0 false none 0 0 false none 0 0) := by rw [hW0a]; exact (RowAt.new' _ _ (by simp))
  have E1 := Lib.hid (E.out.trans hx)
  clear E
  have Q_1 := Lib.hid Q_n
  have P_1 := Lib.hid P_n
  have HW0a := Lib.hid hW0a
  clear hx hW0a Q_n P_n
  go_enter Tryz.func16, Tryz.ntmps16
  go_wp2_with fail
  rw [← HW0a.out]
  refine (C2.out W0a (by decide) (by decide)).mono ?_
  rintro e w2_ ⟨rfl, hx⟩
  have E2 := Lib.hid (E1.out.trans hx)
  have Q_2 := Lib.hid (hx.row Q_1.out)
  have P_2 := Lib.hid (hx.row P_1.out)
  clear E1 Q_1 P_1
  clear hx
  have cq3 := (show (w2_).cell? ⟨w.heap.size, 3, none⟩ = some (.int .i64 q3) from Q_2.out.cell 3)
  go_wp2_with fail
  refine (C3.out w2_ (by decide) (by decide)).mono ?_
  rintro e w3_ ⟨rfl, hx⟩
  have E3 := Lib.hid (E2.out.trans hx)
  have Q_3 := Lib.hid (hx.row Q_2.out)
  have P_3 := Lib.hid (hx.row P_2.out)
  clear E2 Q_2 P_2
  clear hx
  clear cq3
  have cq1 := (show (w3_).cell? ⟨w.heap.size, 1, none⟩ = some (.int .i64 q1) from Q_3.out.cell 1)
  go_upto_if 19 with (fail)
  clear cq1
  go_cut [3] from 19 to 24 (fun v wc => v = .int .i64 NN ∧ wc = w3_)
  case first =>
    cases h5 : (q1.tmod 5 == 4)
    · have e : NN = x2 := by rw [HNN.out, h5]; rfl
      have He := Lib.hid e
      clear e
      go_wp2_with fail
      go_meet
      exact ⟨by rw [He.out], rfl⟩
    · have e : NN = x2 * x2 * (1 + x3) := by rw [HNN.out, h5]; rfl
      have He := Lib.hid e
      clear e
      go_wp2_with fail
      go_meet
      exact ⟨by rw [He.out, hw2], rfl⟩
  case rest =>
    obtain ⟨rfl, rfl⟩ := hcut
    have cq1 := (show (wc).cell? ⟨w.heap.size, 1, none⟩ = some (.int .i64 q1) from Q_3.out.cell 1)
    go_wp2_with fail
    refine (C1.out wc (by decide) (by decide)).mono ?_
    rintro e w4_ ⟨rfl, hx⟩
    have E4 := Lib.hid (E3.out.trans hx)
    have Q_4 := Lib.hid (hx.row Q_3.out)
    have P_4 := Lib.hid (hx.row P_3.out)
    clear E3 Q_3 P_3
    clear hx
    clear cq1
    go_wp2_with fail
    rw [hw4]
    clear hw1 hw2 hw3 hw4
    refine wp_region_tail2 (fun D ac w' => ∃ vs : Nat → Value, ac = { tmps := #[Value.agg #[Value.int IntKind.i64 q0, Value.int IntKind.i64 q1, Value.int IntKind.i64 q2, Value.int IntKind.i64 q3], Value.pointer (some { block := w.heap.size, off := 0 }), Value.pointer (some { block := w.heap.size + 1, off := 0 }), Value.int IntKind.i64 NN, Value.int IntKind.i64 (1 + x3), Value.int IntKind.i64 (x1 - 1), vs 12, undef, undef, Value.pointer (some { block := w.heap.size, off := 2 }), Value.int IntKind.i64 q2, Value.int IntKind.i64 x2, Value.pointer (some { block := w.heap.size, off := 3 }), Value.int IntKind.i64 q3, Value.int IntKind.i64 x3, Value.int IntKind.i64 (1 + x3), Value.pointer (some { block := w.heap.size, off := 1 }), Value.int IntKind.i64 q1, Value.int IntKind.i64 (q1.tmod 5), u19, u20, u21, u22, u23, u24, Value.pointer (some { block := w.heap.size, off := 1 }), Value.int IntKind.i64 q1, Value.int IntKind.i64 x1, Value.int IntKind.i64 (x1 - 1), vs 9, vs 0, vs 1, vs 2, vs 3, vs 4, vs 5, vs 6, vs 7, vs 8, vs 10, vs 11, undef, undef, undef, undef, undef, undef, undef, undef, undef, undef, undef, undef, undef, undef, undef, undef, undef, undef, undef, undef, undef, undef, undef, undef], defers := [] } ∧ Ext w4_ w' ∧ ∀ j, D j → md6F w.heap.size w4_.heap.size q0 a0 (x1 - 1) NN (1 + x3) j (vs j) w') 13 11 (op := _) rfl (by kernel_rfl) (by kernel_rfl) (by kernel_rfl) ?start6 ?step6 ?fin6 ?fih6
    case start6 => exact ⟨fun _ => undef, rfl, Ext.drew _, fun _ h => h.elim⟩
    case step6 =>
      rintro i o D ac wz hin hio hnd he ⟨vs, rfl, k0, hF⟩
      rcases i with _ | _ | _ | _ | _ | _ | _ | _ | _ | _ | _ | _ | _ | i
      rotate_left 13
      · exact absurd hin (by omega)
      all_goals (obtain rfl := Option.some.inj (hio.symm.trans (by rfl)))
      · refine step_yes (wanted_of_none rfl _) ?_
        exact wp_of_run (run_ix4 0 (by decide) (.tmp 1) rfl _ rfl) ⟨upd vs 0 _, rfl, k0, inv_step hF (fun _ _ h => h) rfl⟩
      · refine step_yes (wanted_of_none rfl _) ?_
        exact wp_of_run (run_load_int_at (.tmp 30) rfl _ (by exact (hF 0 (he ⟨0, .data⟩ (by simp) rfl))) _ ((k0.row Q_4.out).cell 0)) ⟨upd vs 1 _, rfl, k0, inv_step hF (fun _ _ h => h) rfl⟩
      · refine step_yes (wanted_of_none rfl _) ?_
        exact wp_of_run (run_remI (.tmp 31) (.const (.int .i64 30)) rfl rfl _ 30 a0 (by decide) (by decide) HA0.out (by exact (hF 1 (he ⟨1, .data⟩ (by simp) rfl))) rfl) ⟨upd vs 2 _, rfl, k0, inv_step hF (fun _ _ h => h) rfl⟩
      · refine step_yes (wanted_of_none rfl _) ?_
        exact wp_of_run (run_mov (.tmp 5) rfl _ rfl) ⟨upd vs 3 _, rfl, k0, inv_step hF (fun _ _ h => h) rfl⟩
      · refine step_yes (wanted_of_none rfl _) ?_
        exact wp_of_run (run_mov (.tmp 3) rfl _ rfl) ⟨upd vs 4 _, rfl, k0, inv_step hF (fun _ _ h => h) rfl⟩
      · refine step_yes (wanted_of_none rfl _) ?_
        refine wp_of_callE (run_enter1 34 (.tmp 34) _ rfl _ (by exact (hF 4 (he ⟨4, .data⟩ (by simp) rfl))) ent_rof) (rof_n NN (by have := RN.out; omega) wz) ?_
        rintro e w' ⟨rr, rfl, hz, hx⟩
        exact ⟨_, rfl, upd vs 5 _, rfl, k0.trans hx, inv_step hF (fun j v h => md6F_mono hx j v h) hz⟩
      · refine step_yes (wanted_of_none rfl _) ?_
        exact wp_of_run (run_mov (.tmp 4) rfl _ rfl) ⟨upd vs 6 _, rfl, k0, inv_step hF (fun _ _ h => h) rfl⟩
      · refine step_yes (wanted_of_none rfl _) ?_
        refine wp_of_callE (run_enter1 34 (.tmp 36) _ rfl _ (by exact (hF 6 (he ⟨6, .data⟩ (by simp) rfl))) ent_rof) (rof_n (1 + x3) (by have := HX3.out; omega) wz) ?_
        rintro e w' ⟨rr, rfl, hz, hx⟩
        exact ⟨_, rfl, upd vs 7 _, rfl, k0.trans hx, inv_step hF (fun j v h => md6F_mono hx j v h) hz⟩
      · refine step_yes (wanted_of_none rfl _) ?_
        refine wp_of_callE (run_enter4 14 (.tmp 32) (.tmp 33) (.tmp 35) (.tmp 37) _ rfl _ _ _ _ (by exact (hF 2 (he ⟨2, .data⟩ (by simp) rfl))) (by exact (hF 3 (he ⟨3, .data⟩ (by simp) rfl))) rfl rfl ent_r2of) (r2of_right _ _ a0 (x1 - 1) NN (1 + x3) wz (hF 5 (he ⟨5, .data⟩ (by simp) rfl)) (hF 7 (he ⟨7, .data⟩ (by simp) rfl)) (by have := H30.out; omega) (by have := HX1.out; omega) (by have := HX1.out; omega) (by have := RN.out; omega) (by have := HX3.out; omega) (b8_small (by have := RN.out; omega) (by have := RN.out; omega)) (b8_small (by have := HX3.out; omega) (by have := HX3.out; omega))) ?_
        rintro e w' ⟨rr, rfl, hz, hx⟩
        exact ⟨_, rfl, upd vs 8 _, rfl, k0.trans hx, inv_step hF (fun j v h => md6F_mono hx j v h) hz⟩
      · refine step_yes (wanted_of_none rfl _) ?_
        exact wp_of_run (run_mov (.tmp 38) rfl _ rfl) ⟨upd vs 9 _, rfl, k0, inv_step hF (fun _ _ h => h) (hF 8 (he ⟨8, .data⟩ (by simp) rfl))⟩
      · refine step_yes (wanted_of_none rfl _) ?_
        obtain ⟨rr, er, hz⟩ := (hF 9 (he ⟨9, .data⟩ (by simp) rfl))
        exact wp_of_run (run_extract (.tmp 29) 0 rfl _ (by exact er) rr rfl) ⟨upd vs 10 _, rfl, k0, inv_step hF (fun _ _ h => h) hz⟩
      · refine step_yes (wanted_of_none rfl _) ?_
        obtain ⟨rr, er, hz⟩ := (hF 9 (he ⟨9, .data⟩ (by simp) rfl))
        exact wp_of_run (run_extract (.tmp 29) 1 rfl _ (by exact er) (.bool true) rfl) ⟨upd vs 11 _, rfl, k0, inv_step hF (fun _ _ h => h) rfl⟩
      · refine step_yes (wanted_of_none rfl _) ?_
        exact wp_of_run (run_alloc_root rfl) ⟨upd vs 12 _, rfl, k0.trans (Ext.alloc _ _), inv_step hF (fun j v h => md6F_mono (Ext.alloc _ _) j v h) (ownR_new k0 (Nat.le_refl _))⟩
    case fin6 =>
      rintro D ac wf6 hD ⟨vs, rfl, k0, hF⟩
      change wpList _ _ _ [_, _] _ _
      obtain ⟨vr, hvr, hrr⟩ : ∃ vr, vs 10 = vr ∧ RightV vr wf6 := ⟨_, rfl, hF 10 (hD 10 (by decide))⟩
      rw [hvr]
      obtain ⟨ra, rs, rp, rk, rc, rq, rm, re, rfl⟩ := hrr.parts
      obtain ⟨g6, hg, hle, hrow⟩ := hF 12 (hD 12 (by decide))
      rw [hg]
      have h11 : vs 11 = .bool true := hF 11 (hD 11 (by decide))
      rw [h11]
      clear h11
      have RV := Lib.hid hrr
      have RW := Lib.hid hrow
      have LQ := Lib.hid (show w.heap.size + 1 < w4_.heap.size from P_4.out.lt)
      have LE := Lib.hid hle
      have E5 := Lib.hid (E4.out.trans k0)
      have Q_5 := Lib.hid (k0.row Q_4.out)
      have P_5 := Lib.hid (k0.row P_4.out)
      clear E4 Q_4 P_4
      clear hF hD hg hvr hrr hrow hle k0
      generalize vs = t6
      obtain ⟨W5s, hW5s⟩ : ∃ W5s, W5s = wf6.setRow (g6) (rootCells ra rs false rp rk rc false rq rm re) := ⟨_, rfl⟩
      have E6 : Hid (Ext w W5s) := by rw [hW5s]; exact ext_setRow E5.out (by have := LQ.out; have := LE.out; omega) _
      have Q_6 := Lib.hid (show RowAt W5s ((w.heap.size)) _ _ from by rw [hW5s]; exact Q_5.out.setRowOther _ (by have := LQ.out; have := LE.out; omega))
      have P_6 := Lib.hid (show RowAt W5s ((w.heap.size + 1)) _ _ from by rw [hW5s]; exact P_5.out.setRowOther _ (by have := LQ.out; have := LE.out; omega))
      have RV6 := Lib.hid (show RightV _ W5s from by rw [hW5s]; exact RV.out.setAny RW.out rfl _)
      have RW6 : Hid (RowAt W5s (g6) 32 (rootCells ra rs false rp rk rc false rq rm re)) := by rw [hW5s]; exact RW.out.setRow _
      have HW5s := Lib.hid hW5s
      clear hW5s E5 Q_5 P_5 RV
      have cq1 := (show (W5s).cell? ⟨w.heap.size, 1, none⟩ = some (.int .i64 q1) from Q_6.out.cell 1)
      have h7 := H7.out
      have rw0 := RW6.out.root0
      have rw1 := RW6.out.root1
      have rw2 := RW6.out.root2
      have rw3 := RW6.out.root3
      have rw4 := RW6.out.root4
      have rw5 := RW6.out.root5
      obtain ⟨WE, hWE⟩ : ∃ WE, WE = W5s.setRow (w.heap.size + 1) (rootCells ra rs false rp rk rc false rq rm re) := ⟨_, rfl⟩
      have PE : Hid (RowAt WE (w.heap.size + 1) 32 (rootCells ra rs false rp rk rc false rq rm re)) := by rw [hWE]; exact P_6.out.setRow _
      have EE : Hid (Ext w WE) := by rw [hWE]; exact ext_setRow E6.out (by omega) _
      have RE := Lib.hid (show RightV _ WE from by rw [hWE]; exact RV6.out.setAny P_6.out rfl _)
      have HWE := Lib.hid hWE
      clear hWE
      go_wp2_with (first | (refine store_root rfl (.tmp 6) (.tmp 39) rfl (g6) rfl _ _ _ _ _ _ _ _ _ _ rfl _ _ RW.out rfl ?_; rw [← HW5s.out]) | (refine store_root rfl (.tmp 2) (.tmp 64) rfl (w.heap.size + 1) rfl _ _ _ _ _ _ _ _ _ _ rfl _ _ P_6.out rfl ?_; rw [← HWE.out]))
      exact ret_root1 rfl (w.heap.size + 1) rfl _ _ _ _ _ _ _ _ _ _ _ PE.out ⟨_, rfl, RE.out, EE.out⟩
    case fih6 =>
      rintro D ac wf6 hD hnp ⟨vs, rfl, k0, hF⟩
      refine ⟨_, rfl, ?_⟩
      change wpList _ _ _ [_, _, _] _ _
      obtain ⟨vr, hvr, hrr⟩ : ∃ vr, vs 10 = vr ∧ RightV vr wf6 := ⟨_, rfl, hF 10 (hD 10 (by decide) (by decide))⟩
      rw [hvr]
      obtain ⟨ra, rs, rp, rk, rc, rq, rm, re, rfl⟩ := hrr.parts
      obtain ⟨g6, hg, hle, hrow⟩ := hF 12 (hD 12 (by decide) (by decide))
      rw [hg]
      obtain ⟨rt, hrt, -⟩ := (show RightTrue (vs 9) wf6 from hF 9 (hD 9 (by decide) (by decide)))
      rw [hrt]
      clear hrt hnp
      have RV := Lib.hid hrr
      have RW := Lib.hid hrow
      have LQ := Lib.hid (show w.heap.size + 1 < w4_.heap.size from P_4.out.lt)
      have LE := Lib.hid hle
      have E5 := Lib.hid (E4.out.trans k0)
      have Q_5 := Lib.hid (k0.row Q_4.out)
      have P_5 := Lib.hid (k0.row P_4.out)
      clear E4 Q_4 P_4
      clear hF hD hg hvr hrr hrow hle k0
      generalize vs = t6
      obtain ⟨W5s, hW5s⟩ : ∃ W5s, W5s = wf6.setRow (g6) (rootCells ra rs false rp rk rc false rq rm re) := ⟨_, rfl⟩
      have E6 : Hid (Ext w W5s) := by rw [hW5s]; exact ext_setRow E5.out (by have := LQ.out; have := LE.out; omega) _
      have Q_6 := Lib.hid (show RowAt W5s ((w.heap.size)) _ _ from by rw [hW5s]; exact Q_5.out.setRowOther _ (by have := LQ.out; have := LE.out; omega))
      have P_6 := Lib.hid (show RowAt W5s ((w.heap.size + 1)) _ _ from by rw [hW5s]; exact P_5.out.setRowOther _ (by have := LQ.out; have := LE.out; omega))
      have RV6 := Lib.hid (show RightV _ W5s from by rw [hW5s]; exact RV.out.setAny RW.out rfl _)
      have RW6 : Hid (RowAt W5s (g6) 32 (rootCells ra rs false rp rk rc false rq rm re)) := by rw [hW5s]; exact RW.out.setRow _
      have HW5s := Lib.hid hW5s
      clear hW5s E5 Q_5 P_5 RV
      have cq1 := (show (W5s).cell? ⟨w.heap.size, 1, none⟩ = some (.int .i64 q1) from Q_6.out.cell 1)
      have h7 := H7.out
      have rw0 := RW6.out.root0
      have rw1 := RW6.out.root1
      have rw2 := RW6.out.root2
      have rw3 := RW6.out.root3
      have rw4 := RW6.out.root4
      have rw5 := RW6.out.root5
      obtain ⟨WE, hWE⟩ : ∃ WE, WE = W5s.setRow (w.heap.size + 1) (rootCells ra rs false rp rk rc false rq rm re) := ⟨_, rfl⟩
      have PE : Hid (RowAt WE (w.heap.size + 1) 32 (rootCells ra rs false rp rk rc false rq rm re)) := by rw [hWE]; exact P_6.out.setRow _
      have EE : Hid (Ext w WE) := by rw [hWE]; exact ext_setRow E6.out (by omega) _
      have RE := Lib.hid (show RightV _ WE from by rw [hWE]; exact RV6.out.setAny P_6.out rfl _)
      have HWE := Lib.hid hWE
      clear hWE
      go_wp2_with (first | (refine store_root rfl (.tmp 6) (.tmp 39) rfl (g6) rfl _ _ _ _ _ _ _ _ _ _ rfl _ _ RW.out rfl ?_; rw [← HW5s.out]) | (refine store_root rfl (.tmp 2) (.tmp 64) rfl (w.heap.size + 1) rfl _ _ _ _ _ _ _ _ _ _ rfl _ _ P_6.out rfl ?_; rw [← HWE.out]))
      exact ret_root1 rfl (w.heap.size + 1) rfl _ _ _ _ _ _ _ _ _ _ _ PE.out ⟨_, rfl, RE.out, EE.out⟩
set_option maxRecDepth 100000 in
set_option maxHeartbeats 16000000 in
theorem madeR_t (q0 q1 q2 q3 : Int) (w : World) (r0 : -9223372036854775808 ≤ q0 ∧ q0 ≤ 9223372036854775807) (r2 : -9223372036854775808 ≤ q2 ∧ q2 ≤ 9223372036854775807) (h7 : (q1.tmod 7 == 6) = true) :
    Calls Tryz.prog 16 #[.agg #[.int .i64 q0, .int .i64 q1, .int .i64 q2, .int .i64 q3]] w fun e w' => ∃ v, e = .returned v ∧ RightV v w' ∧ Ext w w' := by
  have M2 := Int.emod_nonneg q2 (show (100 : Int) ≠ 0 by decide)
  have M2' := Int.emod_lt_of_pos q2 (show (0 : Int) < 100 by decide)
  have M3 := Int.emod_nonneg q3 (show (12 : Int) ≠ 0 by decide)
  have M3' := Int.emod_lt_of_pos q3 (show (0 : Int) < 12 by decide)
  have M1 := Int.emod_nonneg q1 (show (3 : Int) ≠ 0 by decide)
  have M1' := Int.emod_lt_of_pos q1 (show (0 : Int) < 3 by decide)
  have M4 := Int.emod_nonneg q3 (show (1099511627776 : Int) ≠ 0 by decide)
  have M4' := Int.emod_lt_of_pos q3 (show (0 : Int) < 1099511627776 by decide)
  have h30 : -30 < q0.tmod 30 ∧ q0.tmod 30 < 30 := rem_inM q0 (by decide)
  have C2 := Lib.hid (refMod_ok q2 100)
  have C3 := Lib.hid (refMod_ok q3 12)
  have C1 := Lib.hid (refMod_ok q1 3)
  have C4 := Lib.hid (refMod_ok q3 1099511627776)
  obtain ⟨x2, hx2⟩ : ∃ x, x = q2 % 100 := ⟨_, rfl⟩
  obtain ⟨x3, hx3⟩ : ∃ x, x = q3 % 12 := ⟨_, rfl⟩
  obtain ⟨x1, hx1⟩ : ∃ x, x = q1 % 3 := ⟨_, rfl⟩
  obtain ⟨y3, hy3⟩ : ∃ x, x = q3 % 1099511627776 := ⟨_, rfl⟩
  obtain ⟨a0, ha0⟩ : ∃ x, x = q0.tmod 30 := ⟨_, rfl⟩
  rw [← hx2] at C2 M2 M2'
  rw [← hx3] at C3 M3 M3'
  rw [← hx1] at C1 M1 M1'
  rw [← hy3] at C4 M4 M4'
  rw [← ha0] at h30
  have HA0 := Lib.hid ha0.symm
  have H30 := Lib.hid h30
  have R0 := Lib.hid r0
  have R2 := Lib.hid r2
  have hms := mul_small M2 M2' (show 1 ≤ 1 + x3 by omega) (by omega)
  have hw1 : wrap64 (x2 * x2) = x2 * x2 := by unfold wrap64; omega
  have hw2 : wrap64 (x2 * x2 * (1 + x3)) = x2 * x2 * (1 + x3) := by unfold wrap64; omega
  have hw3 : wrap64 (1 + x3) = 1 + x3 := by unfold wrap64; omega
  have hw4 : wrap64 (x1 - 1) = x1 - 1 := by unfold wrap64; omega
  have hw5 : wrap64 (1 + y3) = 1 + y3 := by unfold wrap64; omega
  have HW5 := Lib.hid hw5
  have HY := Lib.hid (And.intro M4 M4')
  have HX3 := Lib.hid (And.intro M3 M3')
  have HX1 := Lib.hid (And.intro M1 M1')
  have H7 := Lib.hid h7
  have E := Lib.hid (Ext.refl w)
  obtain ⟨NN, hNN⟩ : ∃ n, n = (if (q1.tmod 5 == 4) = true then x2 * x2 * (1 + x3) else x2) := ⟨_, rfl⟩
  have HNN := Lib.hid hNN
  have RN : Hid (0 ≤ NN ∧ NN ≤ 117612) := by show _ ∧ _; rw [hNN]; split <;> omega
  clear hx2 hx3 hx1 hy3 ha0 h30 r0 r2 hms M1 M1' M2 M2' M3 M3' M4 M4' h7 hw5 hNN
  obtain ⟨W0a, hW0a⟩ : ∃ W0a, W0a = ((w.alloc (.cells #[.int .i64 q0, .int .i64 q1, .int .i64 q2, .int .i64 q3] 27)).alloc (.cells #[.int .i64 0, .int .i64 0, .bool false, .slice none 0 0, .bool false, .slice none 0 0] 32)) := ⟨_, rfl⟩
  have hx : Ext w W0a := by rw [hW0a]; exact ((Ext.alloc _ _).trans (Ext.alloc _ _))
  have Q_n : RowAt W0a (w.heap.size) 27 #[.int .i64 q0, .int .i64 q1, .int .i64 q2, .int .i64 q3] := by rw [hW0a]; exact ((RowAt.new' _ _ (by simp)).alloc _)
  have P_n : RowAt W0a (w.heap.size + 1) 32 (rootCells 0 0 false none 0 0 false none 0 0) := by rw [hW0a]; exact (RowAt.new' _ _ (by simp))
  have E1 := Lib.hid (E.out.trans hx)
  clear E
  have Q_1 := Lib.hid Q_n
  have P_1 := Lib.hid P_n
  have HW0a := Lib.hid hW0a
  clear hx hW0a Q_n P_n
  go_enter Tryz.func16, Tryz.ntmps16
  go_wp2_with fail
  rw [← HW0a.out]
  refine (C2.out W0a (by decide) (by decide)).mono ?_
  rintro e w2_ ⟨rfl, hx⟩
  have E2 := Lib.hid (E1.out.trans hx)
  have Q_2 := Lib.hid (hx.row Q_1.out)
  have P_2 := Lib.hid (hx.row P_1.out)
  clear E1 Q_1 P_1
  clear hx
  have cq3 := (show (w2_).cell? ⟨w.heap.size, 3, none⟩ = some (.int .i64 q3) from Q_2.out.cell 3)
  go_wp2_with fail
  refine (C3.out w2_ (by decide) (by decide)).mono ?_
  rintro e w3_ ⟨rfl, hx⟩
  have E3 := Lib.hid (E2.out.trans hx)
  have Q_3 := Lib.hid (hx.row Q_2.out)
  have P_3 := Lib.hid (hx.row P_2.out)
  clear E2 Q_2 P_2
  clear hx
  clear cq3
  have cq1 := (show (w3_).cell? ⟨w.heap.size, 1, none⟩ = some (.int .i64 q1) from Q_3.out.cell 1)
  go_upto_if 19 with (fail)
  clear cq1
  go_cut [3] from 19 to 24 (fun v wc => v = .int .i64 NN ∧ wc = w3_)
  case first =>
    cases h5 : (q1.tmod 5 == 4)
    · have e : NN = x2 := by rw [HNN.out, h5]; rfl
      have He := Lib.hid e
      clear e
      go_wp2_with fail
      go_meet
      exact ⟨by rw [He.out], rfl⟩
    · have e : NN = x2 * x2 * (1 + x3) := by rw [HNN.out, h5]; rfl
      have He := Lib.hid e
      clear e
      go_wp2_with fail
      go_meet
      exact ⟨by rw [He.out, hw2], rfl⟩
  case rest =>
    obtain ⟨rfl, rfl⟩ := hcut
    have cq1 := (show (wc).cell? ⟨w.heap.size, 1, none⟩ = some (.int .i64 q1) from Q_3.out.cell 1)
    go_wp2_with fail
    refine (C1.out wc (by decide) (by decide)).mono ?_
    rintro e w4_ ⟨rfl, hx⟩
    have E4 := Lib.hid (E3.out.trans hx)
    have Q_4 := Lib.hid (hx.row Q_3.out)
    have P_4 := Lib.hid (hx.row P_3.out)
    clear E3 Q_3 P_3
    clear hx
    clear cq1
    go_wp2_with fail
    rw [hw4]
    clear hw1 hw2 hw3 hw4
    refine wp_region_tail2 (fun D ac w' => ∃ vs : Nat → Value, ac = { tmps := #[Value.agg #[Value.int IntKind.i64 q0, Value.int IntKind.i64 q1, Value.int IntKind.i64 q2, Value.int IntKind.i64 q3], Value.pointer (some { block := w.heap.size, off := 0 }), Value.pointer (some { block := w.heap.size + 1, off := 0 }), Value.int IntKind.i64 NN, Value.int IntKind.i64 (1 + x3), Value.int IntKind.i64 (x1 - 1), vs 12, undef, undef, Value.pointer (some { block := w.heap.size, off := 2 }), Value.int IntKind.i64 q2, Value.int IntKind.i64 x2, Value.pointer (some { block := w.heap.size, off := 3 }), Value.int IntKind.i64 q3, Value.int IntKind.i64 x3, Value.int IntKind.i64 (1 + x3), Value.pointer (some { block := w.heap.size, off := 1 }), Value.int IntKind.i64 q1, Value.int IntKind.i64 (q1.tmod 5), u19, u20, u21, u22, u23, u24, Value.pointer (some { block := w.heap.size, off := 1 }), Value.int IntKind.i64 q1, Value.int IntKind.i64 x1, Value.int IntKind.i64 (x1 - 1), vs 9, vs 0, vs 1, vs 2, vs 3, vs 4, vs 5, vs 6, vs 7, vs 8, vs 10, vs 11, undef, undef, undef, undef, undef, undef, undef, undef, undef, undef, undef, undef, undef, undef, undef, undef, undef, undef, undef, undef, undef, undef, undef, undef], defers := [] } ∧ Ext w4_ w' ∧ ∀ j, D j → md6F w.heap.size w4_.heap.size q0 a0 (x1 - 1) NN (1 + x3) j (vs j) w') 13 11 (op := _) rfl (by kernel_rfl) (by kernel_rfl) (by kernel_rfl) ?start6 ?step6 ?fin6 ?fih6
    case start6 => exact ⟨fun _ => undef, rfl, Ext.drew _, fun _ h => h.elim⟩
    case step6 =>
      rintro i o D ac wz hin hio hnd he ⟨vs, rfl, k0, hF⟩
      rcases i with _ | _ | _ | _ | _ | _ | _ | _ | _ | _ | _ | _ | _ | i
      rotate_left 13
      · exact absurd hin (by omega)
      all_goals (obtain rfl := Option.some.inj (hio.symm.trans (by rfl)))
      · refine step_yes (wanted_of_none rfl _) ?_
        exact wp_of_run (run_ix4 0 (by decide) (.tmp 1) rfl _ rfl) ⟨upd vs 0 _, rfl, k0, inv_step hF (fun _ _ h => h) rfl⟩
      · refine step_yes (wanted_of_none rfl _) ?_
        exact wp_of_run (run_load_int_at (.tmp 30) rfl _ (by exact (hF 0 (he ⟨0, .data⟩ (by simp) rfl))) _ ((k0.row Q_4.out).cell 0)) ⟨upd vs 1 _, rfl, k0, inv_step hF (fun _ _ h => h) rfl⟩
      · refine step_yes (wanted_of_none rfl _) ?_
        exact wp_of_run (run_remI (.tmp 31) (.const (.int .i64 30)) rfl rfl _ 30 a0 (by decide) (by decide) HA0.out (by exact (hF 1 (he ⟨1, .data⟩ (by simp) rfl))) rfl) ⟨upd vs 2 _, rfl, k0, inv_step hF (fun _ _ h => h) rfl⟩
      · refine step_yes (wanted_of_none rfl _) ?_
        exact wp_of_run (run_mov (.tmp 5) rfl _ rfl) ⟨upd vs 3 _, rfl, k0, inv_step hF (fun _ _ h => h) rfl⟩
      · refine step_yes (wanted_of_none rfl _) ?_
        exact wp_of_run (run_mov (.tmp 3) rfl _ rfl) ⟨upd vs 4 _, rfl, k0, inv_step hF (fun _ _ h => h) rfl⟩
      · refine step_yes (wanted_of_none rfl _) ?_
        refine wp_of_callE (run_enter1 34 (.tmp 34) _ rfl _ (by exact (hF 4 (he ⟨4, .data⟩ (by simp) rfl))) ent_rof) (rof_n NN (by have := RN.out; omega) wz) ?_
        rintro e w' ⟨rr, rfl, hz, hx⟩
        exact ⟨_, rfl, upd vs 5 _, rfl, k0.trans hx, inv_step hF (fun j v h => md6F_mono hx j v h) hz⟩
      · refine step_yes (wanted_of_none rfl _) ?_
        exact wp_of_run (run_mov (.tmp 4) rfl _ rfl) ⟨upd vs 6 _, rfl, k0, inv_step hF (fun _ _ h => h) rfl⟩
      · refine step_yes (wanted_of_none rfl _) ?_
        refine wp_of_callE (run_enter1 34 (.tmp 36) _ rfl _ (by exact (hF 6 (he ⟨6, .data⟩ (by simp) rfl))) ent_rof) (rof_n (1 + x3) (by have := HX3.out; omega) wz) ?_
        rintro e w' ⟨rr, rfl, hz, hx⟩
        exact ⟨_, rfl, upd vs 7 _, rfl, k0.trans hx, inv_step hF (fun j v h => md6F_mono hx j v h) hz⟩
      · refine step_yes (wanted_of_none rfl _) ?_
        refine wp_of_callE (run_enter4 14 (.tmp 32) (.tmp 33) (.tmp 35) (.tmp 37) _ rfl _ _ _ _ (by exact (hF 2 (he ⟨2, .data⟩ (by simp) rfl))) (by exact (hF 3 (he ⟨3, .data⟩ (by simp) rfl))) rfl rfl ent_r2of) (r2of_right _ _ a0 (x1 - 1) NN (1 + x3) wz (hF 5 (he ⟨5, .data⟩ (by simp) rfl)) (hF 7 (he ⟨7, .data⟩ (by simp) rfl)) (by have := H30.out; omega) (by have := HX1.out; omega) (by have := HX1.out; omega) (by have := RN.out; omega) (by have := HX3.out; omega) (b8_small (by have := RN.out; omega) (by have := RN.out; omega)) (b8_small (by have := HX3.out; omega) (by have := HX3.out; omega))) ?_
        rintro e w' ⟨rr, rfl, hz, hx⟩
        exact ⟨_, rfl, upd vs 8 _, rfl, k0.trans hx, inv_step hF (fun j v h => md6F_mono hx j v h) hz⟩
      · refine step_yes (wanted_of_none rfl _) ?_
        exact wp_of_run (run_mov (.tmp 38) rfl _ rfl) ⟨upd vs 9 _, rfl, k0, inv_step hF (fun _ _ h => h) (hF 8 (he ⟨8, .data⟩ (by simp) rfl))⟩
      · refine step_yes (wanted_of_none rfl _) ?_
        obtain ⟨rr, er, hz⟩ := (hF 9 (he ⟨9, .data⟩ (by simp) rfl))
        exact wp_of_run (run_extract (.tmp 29) 0 rfl _ (by exact er) rr rfl) ⟨upd vs 10 _, rfl, k0, inv_step hF (fun _ _ h => h) hz⟩
      · refine step_yes (wanted_of_none rfl _) ?_
        obtain ⟨rr, er, hz⟩ := (hF 9 (he ⟨9, .data⟩ (by simp) rfl))
        exact wp_of_run (run_extract (.tmp 29) 1 rfl _ (by exact er) (.bool true) rfl) ⟨upd vs 11 _, rfl, k0, inv_step hF (fun _ _ h => h) rfl⟩
      · refine step_yes (wanted_of_none rfl _) ?_
        exact wp_of_run (run_alloc_root rfl) ⟨upd vs 12 _, rfl, k0.trans (Ext.alloc _ _), inv_step hF (fun j v h => md6F_mono (Ext.alloc _ _) j v h) (ownR_new k0 (Nat.le_refl _))⟩
    case fin6 =>
      rintro D ac wf6 hD ⟨vs, rfl, k0, hF⟩
      change wpList _ _ _ [_, _] _ _
      obtain ⟨vr, hvr, hrr⟩ : ∃ vr, vs 10 = vr ∧ RightV vr wf6 := ⟨_, rfl, hF 10 (hD 10 (by decide))⟩
      rw [hvr]
      obtain ⟨ra, rs, rp, rk, rc, rq, rm, re, rfl⟩ := hrr.parts
      obtain ⟨g6, hg, hle, hrow⟩ := hF 12 (hD 12 (by decide))
      rw [hg]
      have h11 : vs 11 = .bool true := hF 11 (hD 11 (by decide))
      rw [h11]
      clear h11
      have RV := Lib.hid hrr
      have RW := Lib.hid hrow
      have LQ := Lib.hid (show w.heap.size + 1 < w4_.heap.size from P_4.out.lt)
      have LE := Lib.hid hle
      have E5 := Lib.hid (E4.out.trans k0)
      have Q_5 := Lib.hid (k0.row Q_4.out)
      have P_5 := Lib.hid (k0.row P_4.out)
      clear E4 Q_4 P_4
      clear hF hD hg hvr hrr hrow hle k0
      generalize vs = t6
      obtain ⟨W5s, hW5s⟩ : ∃ W5s, W5s = wf6.setRow (g6) (rootCells ra rs false rp rk rc false rq rm re) := ⟨_, rfl⟩
      have E6 : Hid (Ext w W5s) := by rw [hW5s]; exact ext_setRow E5.out (by have := LQ.out; have := LE.out; omega) _
      have Q_6 := Lib.hid (show RowAt W5s ((w.heap.size)) _ _ from by rw [hW5s]; exact Q_5.out.setRowOther _ (by have := LQ.out; have := LE.out; omega))
      have P_6 := Lib.hid (show RowAt W5s ((w.heap.size + 1)) _ _ from by rw [hW5s]; exact P_5.out.setRowOther _ (by have := LQ.out; have := LE.out; omega))
      have RV6 := Lib.hid (show RightV _ W5s from by rw [hW5s]; exact RV.out.setAny RW.out rfl _)
      have RW6 : Hid (RowAt W5s (g6) 32 (rootCells ra rs false rp rk rc false rq rm re)) := by rw [hW5s]; exact RW.out.setRow _
      have HW5s := Lib.hid hW5s
      clear hW5s E5 Q_5 P_5 RV
      have cq1 := (show (W5s).cell? ⟨w.heap.size, 1, none⟩ = some (.int .i64 q1) from Q_6.out.cell 1)
      have h7 := H7.out
      have cq2 := (show (W5s).cell? ⟨w.heap.size, 2, none⟩ = some (.int .i64 q2) from Q_6.out.cell 2)
      go_wp2_with (first | (refine store_root rfl (.tmp 6) (.tmp 39) rfl (g6) rfl _ _ _ _ _ _ _ _ _ _ rfl _ _ RW.out rfl ?_; rw [← HW5s.out]))
      clear cq1 cq2 h7
      refine (rof_n q2 R2.out W5s).mono ?_; rintro e w8 ⟨v8, rfl, hz, hx⟩
      have E7 := Lib.hid (E6.out.trans hx)
      have Q_7 := Lib.hid (hx.row Q_6.out)
      have P_7 := Lib.hid (hx.row P_6.out)
      have RV7 := Lib.hid (RightV.ext RV6.out hx)
      have RW7 := Lib.hid (hx.row RW6.out)
      clear E6 Q_6 P_6 RV6 RW6
      have ZB := Lib.hid hz
      clear hx hz
      obtain ⟨n8, p8, l8, c8, rfl⟩ := IsN.parts ZB.out
      have ZC := Lib.hid (abs_n ZB.out)
      clear ZB
      have LG := Lib.hid (show g6 < w8.heap.size ∧ w.heap.size + 1 < w8.heap.size from ⟨RW7.out.lt, P_7.out.lt⟩)
      obtain ⟨W7b, hW7b⟩ : ∃ W7b, W7b = (w8.alloc (.cells #[.bool false, .slice none 0 0] 25)).setRow w8.heap.size (numCells n8 p8 l8 c8) := ⟨_, rfl⟩
      have hx : Ext w8 W7b := by rw [hW7b]; exact ext_setRow (Ext.alloc _ _) (Nat.le_refl _) _
      have G_n : RowAt W7b w8.heap.size 25 (numCells n8 p8 l8 c8) := by rw [hW7b]; exact (RowAt.new _ _ _).setRow _
      have E8 := Lib.hid (E7.out.trans hx)
      have Q_8 := Lib.hid (hx.row Q_7.out)
      have P_8 := Lib.hid (hx.row P_7.out)
      have RV8 := Lib.hid (RightV.ext RV7.out hx)
      have RW8 := Lib.hid (hx.row RW7.out)
      have ZC8 := Lib.hid (hx.num ZC.out)
      clear E7 Q_7 P_7 RV7 RW7 ZC
      have G_8 := Lib.hid G_n
      have HW7b := Lib.hid hW7b
      clear hx hW7b G_n
      obtain ⟨W8t, hW8t⟩ : ∃ W8t, W8t = W7b.setRow (w8.heap.size) (numCells false p8 l8 c8) := ⟨_, rfl⟩
      have E9 : Hid (Ext w W8t) := by rw [hW8t]; exact ext_setRow E8.out (by have := LG.out; omega) _
      have Q_9 := Lib.hid (show RowAt W8t ((w.heap.size)) _ _ from by rw [hW8t]; exact Q_8.out.setRowOther _ (by have := LG.out; have := LQ.out; omega))
      have P_9 := Lib.hid (show RowAt W8t ((w.heap.size + 1)) _ _ from by rw [hW8t]; exact P_8.out.setRowOther _ (by have := LG.out; have := LQ.out; omega))
      have RV9 := Lib.hid (show RightV _ W8t from by rw [hW8t]; exact RV8.out.setAny G_8.out rfl _)
      have RW9 := Lib.hid (show RowAt W8t (g6) _ _ from by rw [hW8t]; exact RW8.out.setRowOther _ (by have := LG.out; have := LQ.out; omega))
      have ZC9 := Lib.hid (show IsN _ _ W8t from by rw [hW8t]; show ZNum _ _ _ _; rw [setRow_size]; exact ZNum.setAny ZC8.out G_8.out rfl _)
      have G_9 : Hid (RowAt W8t (w8.heap.size) 25 (numCells false p8 l8 c8)) := by rw [hW8t]; exact G_8.out.setRow _
      have HW8t := Lib.hid hW8t
      clear hW8t E8 Q_8 P_8 RV8 RW8 ZC8
      go_wp2_with (first | (refine store_num rfl (.tmp 8) (.tmp 47) rfl w8.heap.size rfl _ _ _ _ rfl _ _ (RowAt.new' _ _ rfl) rfl ?_; rw [← HW7b.out]) | (refine store_neg rfl (.tmp 48) rfl (w8.heap.size) rfl _ _ _ _ _ G_8.out ?_; rw [← HW8t.out]))
      refine wp_region_tail2 (fun D ac w' => ∃ vs : Nat → Value, ac = { tmps := #[Value.agg #[Value.int IntKind.i64 q0, Value.int IntKind.i64 q1, Value.int IntKind.i64 q2, Value.int IntKind.i64 q3], Value.pointer (some { block := w.heap.size, off := 0 }), Value.pointer (some { block := w.heap.size + 1, off := 0 }), Value.int IntKind.i64 NN, Value.int IntKind.i64 (1 + x3), Value.int IntKind.i64 (x1 - 1), Value.pointer (some { block := g6, off := 0 }), Value.bool true, Value.pointer (some { block := w8.heap.size, off := 0 }), Value.pointer (some { block := w.heap.size, off := 2 }), Value.int IntKind.i64 q2, Value.int IntKind.i64 x2, Value.pointer (some { block := w.heap.size, off := 3 }), Value.int IntKind.i64 q3, Value.int IntKind.i64 x3, Value.int IntKind.i64 (1 + x3), Value.pointer (some { block := w.heap.size, off := 1 }), Value.int IntKind.i64 q1, Value.int IntKind.i64 (q1.tmod 5), u19, u20, u21, u22, u23, u24, Value.pointer (some { block := w.heap.size, off := 1 }), Value.int IntKind.i64 q1, Value.int IntKind.i64 x1, Value.int IntKind.i64 (x1 - 1), t6 9, t6 0, t6 1, t6 2, t6 3, t6 4, t6 5, t6 6, t6 7, t6 8, Value.agg #[Value.int IntKind.i64 ra, Value.int IntKind.i64 rs, Value.bool false, Value.slice rp rk rc, Value.bool false, Value.slice rq rm re], Value.bool true, Value.pointer (some { block := w.heap.size, off := 1 }), Value.int IntKind.i64 q1, Value.int IntKind.i64 (q1.tmod 7), Value.bool true, Value.pointer (some { block := w.heap.size, off := 2 }), Value.int IntKind.i64 q2, Value.agg #[Value.bool n8, Value.slice p8 l8 c8], Value.pointer (some { block := w8.heap.size, off := 0 }), vs 12, vs 0, vs 1, vs 2, vs 3, vs 4, vs 5, vs 6, vs 7, vs 8, vs 9, vs 10, vs 11, vs 13, vs 14, undef], defers := [] } ∧ Ext W8t w' ∧ ∀ j, D j → md10F w.heap.size q0 q3 (x1 - 1) (q2.natAbs : Int) y3 (.agg #[.bool false, .slice p8 l8 c8]) j (vs j) w') 15 14 (op := _) rfl (by kernel_rfl) (by kernel_rfl) (by kernel_rfl) ?start10 ?step10 ?fin10 ?fih10
      case start10 => exact ⟨fun _ => undef, rfl, Ext.drew _, fun _ h => h.elim⟩
      case step10 =>
        rintro i o D ac wz hin hio hnd he ⟨vs, rfl, k0, hF⟩
        rcases i with _ | _ | _ | _ | _ | _ | _ | _ | _ | _ | _ | _ | _ | _ | _ | i
        rotate_left 15
        · exact absurd hin (by omega)
        all_goals (obtain rfl := Option.some.inj (hio.symm.trans (by rfl)))
        · refine step_yes (wanted_of_none rfl _) ?_
          exact wp_of_run (run_ix4 0 (by decide) (.tmp 1) rfl _ rfl) ⟨upd vs 0 _, rfl, k0, inv_step hF (fun _ _ h => h) rfl⟩
        · refine step_yes (wanted_of_none rfl _) ?_
          exact wp_of_run (run_load_int_at (.tmp 50) rfl _ (by exact (hF 0 (he ⟨0, .data⟩ (by simp) rfl))) _ ((k0.row Q_9.out).cell 0)) ⟨upd vs 1 _, rfl, k0, inv_step hF (fun _ _ h => h) rfl⟩
        · refine step_yes (wanted_of_none rfl _) ?_
          exact wp_of_run (run_mov (.tmp 5) rfl _ rfl) ⟨upd vs 2 _, rfl, k0, inv_step hF (fun _ _ h => h) rfl⟩
        · refine step_yes (wanted_of_none rfl _) ?_
          exact wp_of_run (run_load_num (.tmp 8) rfl _ rfl _ _ _ _ _ (k0.row G_9.out)) ⟨upd vs 3 _, rfl, k0, inv_step hF (fun _ _ h => h) rfl⟩
        · refine step_yes (wanted_of_none rfl _) ?_
          exact wp_of_run (run_load_num (.tmp 8) rfl _ rfl _ _ _ _ _ (k0.row G_9.out)) ⟨upd vs 4 _, rfl, k0, inv_step hF (fun _ _ h => h) rfl⟩
        · refine step_yes (wanted_of_none rfl _) ?_
          refine wp_of_callE (run_enter2 47 (.tmp 53) (.tmp 54) _ rfl _ _ (by exact (hF 3 (he ⟨3, .data⟩ (by simp) rfl))) (by exact (hF 4 (he ⟨4, .data⟩ (by simp) rfl))) ent_r2times) (r2times_n _ _ _ _ _ wz (k0.num ZC9.out) (k0.num ZC9.out) rfl (Nat.lt_of_lt_of_le (sq_lim R2.out).2 (Nat.pow_le_pow_right (by decide) (by decide)))) ?_
          rintro e w' ⟨rr, rfl, hz, hx⟩
          exact ⟨_, rfl, upd vs 5 _, rfl, k0.trans hx, inv_step hF (fun j v h => md10F_mono hx j v h) hz⟩
        · refine step_yes (wanted_of_none rfl _) ?_
          exact wp_of_run (run_ix4 3 (by decide) (.tmp 1) rfl _ rfl) ⟨upd vs 6 _, rfl, k0, inv_step hF (fun _ _ h => h) rfl⟩
        · refine step_yes (wanted_of_none rfl _) ?_
          exact wp_of_run (run_load_int_at (.tmp 56) rfl _ (by exact (hF 6 (he ⟨6, .data⟩ (by simp) rfl))) _ ((k0.row Q_9.out).cell 3)) ⟨upd vs 7 _, rfl, k0, inv_step hF (fun _ _ h => h) rfl⟩
        · refine step_yes (wanted_of_none rfl _) ?_
          refine wp_of_callE (run_enter2 46 (.tmp 57) (.const (.int .i64 1099511627776)) _ rfl _ _ (by exact (hF 7 (he ⟨7, .data⟩ (by simp) rfl))) rfl ent_mod) (C4.out wz (by decide) (by decide)) ?_
          rintro e w' ⟨rfl, hx⟩
          exact ⟨_, rfl, upd vs 8 _, rfl, k0.trans hx, inv_step hF (fun j v h => md10F_mono hx j v h) rfl⟩
        · refine step_yes (wanted_of_none rfl _) ?_
          exact wp_of_run (run_add (.const (.int .i64 1)) (.tmp 58) rfl rfl _ _ rfl (by exact (hF 8 (he ⟨8, .data⟩ (by simp) rfl))) (by have := HY.out; rw [IntKind.wrap_i64]; omega)) ⟨upd vs 9 _, rfl, k0, inv_step hF (fun _ _ h => h) rfl⟩
        · refine step_yes (wanted_of_none rfl _) ?_
          refine wp_of_callE (run_enter1 34 (.tmp 59) _ rfl _ (by exact (hF 9 (he ⟨9, .data⟩ (by simp) rfl))) ent_rof) (rof_n (1 + y3) (by have := HY.out; omega) wz) ?_
          rintro e w' ⟨rr, rfl, hz, hx⟩
          exact ⟨_, rfl, upd vs 10 _, rfl, k0.trans hx, inv_step hF (fun j v h => md10F_mono hx j v h) hz⟩
        · refine step_yes (wanted_of_none rfl _) ?_
          refine wp_of_callE (run_enter4 14 (.tmp 51) (.tmp 52) (.tmp 55) (.tmp 60) _ rfl _ _ _ _ (by exact (hF 1 (he ⟨1, .data⟩ (by simp) rfl))) (by exact (hF 2 (he ⟨2, .data⟩ (by simp) rfl))) rfl rfl ent_r2of) (r2of_right _ _ q0 (x1 - 1) _ (1 + y3) wz (hF 5 (he ⟨5, .data⟩ (by simp) rfl)) (hF 10 (he ⟨10, .data⟩ (by simp) rfl)) R0.out (by have := HX1.out; omega) (by have := HX1.out; omega) (sq_lim R2.out).1 (by have := HY.out; omega) (sq_lim R2.out).2 (b8_small (by have := HY.out; omega) (by have := HY.out; omega))) ?_
          rintro e w' ⟨rr, rfl, hz, hx⟩
          exact ⟨_, rfl, upd vs 11 _, rfl, k0.trans hx, inv_step hF (fun j v h => md10F_mono hx j v h) hz⟩
        · refine step_yes (wanted_of_none rfl _) ?_
          exact wp_of_run (run_mov (.tmp 61) rfl _ rfl) ⟨upd vs 12 _, rfl, k0, inv_step hF (fun _ _ h => h) (hF 11 (he ⟨11, .data⟩ (by simp) rfl))⟩
        · refine step_yes (wanted_of_none rfl _) ?_
          obtain ⟨rr, er, hz⟩ := (hF 12 (he ⟨12, .data⟩ (by simp) rfl))
          exact wp_of_run (run_extract (.tmp 49) 0 rfl _ (by exact er) rr rfl) ⟨upd vs 13 _, rfl, k0, inv_step hF (fun _ _ h => h) hz⟩
        · refine step_yes (wanted_of_none rfl _) ?_
          obtain ⟨rr, er, hz⟩ := (hF 12 (he ⟨12, .data⟩ (by simp) rfl))
          exact wp_of_run (run_extract (.tmp 49) 1 rfl _ (by exact er) (.bool true) rfl) ⟨upd vs 14 _, rfl, k0, inv_step hF (fun _ _ h => h) rfl⟩
      case fin10 =>
        rintro D ac wfa hD ⟨vs, rfl, k0, hF⟩
        change wpList _ _ _ [_] _ _
        obtain ⟨vr, hvr, hrr⟩ : ∃ vr, vs 13 = vr ∧ RightV vr wfa := ⟨_, rfl, hF 13 (hD 13 (by decide))⟩
        rw [hvr]
        obtain ⟨sa, ss, sp, sk, sc, sq, sm, se, rfl⟩ := hrr.parts
        clear RV9
        clear ZC9
        clear G_9
        have RV := Lib.hid hrr
        have E10 := Lib.hid (E9.out.trans k0)
        have Q_10 := Lib.hid (k0.row Q_9.out)
        have P_10 := Lib.hid (k0.row P_9.out)
        have RW10 := Lib.hid (k0.row RW9.out)
        clear E9 Q_9 P_9 RW9
        clear hF hD hvr hrr k0
        generalize vs = ta
        obtain ⟨W10s, hW10s⟩ : ∃ W10s, W10s = wfa.setRow (g6) (rootCells sa ss false sp sk sc false sq sm se) := ⟨_, rfl⟩
        have E11 : Hid (Ext w W10s) := by rw [hW10s]; exact ext_setRow E10.out (by have := LQ.out; have := LE.out; omega) _
        have Q_11 := Lib.hid (show RowAt W10s ((w.heap.size)) _ _ from by rw [hW10s]; exact Q_10.out.setRowOther _ (by have := LQ.out; have := LE.out; omega))
        have P_11 := Lib.hid (show RowAt W10s ((w.heap.size + 1)) _ _ from by rw [hW10s]; exact P_10.out.setRowOther _ (by have := LQ.out; have := LE.out; omega))
        have RW11 : Hid (RowAt W10s (g6) 32 (rootCells sa ss false sp sk sc false sq sm se)) := by rw [hW10s]; exact RW10.out.setRow _
        have RV11 := Lib.hid (show RightV _ W10s from by rw [hW10s]; exact RV.out.setAny RW10.out rfl _)
        have HW10s := Lib.hid hW10s
        clear hW10s E10 Q_10 P_10 RV
        have rw0 := RW11.out.root0
        have rw1 := RW11.out.root1
        have rw2 := RW11.out.root2
        have rw3 := RW11.out.root3
        have rw4 := RW11.out.root4
        have rw5 := RW11.out.root5
        obtain ⟨WE, hWE⟩ : ∃ WE, WE = W10s.setRow (w.heap.size + 1) (rootCells sa ss false sp sk sc false sq sm se) := ⟨_, rfl⟩
        have PE : Hid (RowAt WE (w.heap.size + 1) 32 (rootCells sa ss false sp sk sc false sq sm se)) := by rw [hWE]; exact P_11.out.setRow _
        have EE : Hid (Ext w WE) := by rw [hWE]; exact ext_setRow E11.out (by omega) _
        have RE := Lib.hid (show RightV _ WE from by rw [hWE]; exact RV11.out.setAny P_11.out rfl _)
        have HWE := Lib.hid hWE
        clear hWE
        go_wp2_with (first | (refine store_root rfl (.tmp 6) (.tmp 62) rfl (g6) rfl _ _ _ _ _ _ _ _ _ _ rfl _ _ RW10.out rfl ?_; rw [← HW10s.out]) | (refine store_root rfl (.tmp 2) (.tmp 64) rfl (w.heap.size + 1) rfl _ _ _ _ _ _ _ _ _ _ rfl _ _ P_11.out rfl ?_; rw [← HWE.out]))
        exact ret_root1 rfl (w.heap.size + 1) rfl _ _ _ _ _ _ _ _ _ _ _ PE.out ⟨_, rfl, RE.out, EE.out⟩
      case fih10 =>
        rintro D ac wfa hD hnp ⟨vs, rfl, k0, hF⟩
        refine ⟨_, rfl, ?_⟩
        change wpList _ _ _ [_, _] _ _
        obtain ⟨vr, hvr, hrr⟩ : ∃ vr, vs 13 = vr ∧ RightV vr wfa := ⟨_, rfl, hF 13 (hD 13 (by decide) (by decide))⟩
        rw [hvr]
        obtain ⟨sa, ss, sp, sk, sc, sq, sm, se, rfl⟩ := hrr.parts
        obtain ⟨rt, hrt, -⟩ := (show RightTrue (vs 12) wfa from hF 12 (hD 12 (by decide) (by decide)))
        rw [hrt]
        clear hrt hnp
        clear RV9
        clear ZC9
        clear G_9
        have RV := Lib.hid hrr
        have E10 := Lib.hid (E9.out.trans k0)
        have Q_10 := Lib.hid (k0.row Q_9.out)
        have P_10 := Lib.hid (k0.row P_9.out)
        have RW10 := Lib.hid (k0.row RW9.out)
        clear E9 Q_9 P_9 RW9
        clear hF hD hvr hrr k0
        generalize vs = ta
        obtain ⟨W10s, hW10s⟩ : ∃ W10s, W10s = wfa.setRow (g6) (rootCells sa ss false sp sk sc false sq sm se) := ⟨_, rfl⟩
        have E11 : Hid (Ext w W10s) := by rw [hW10s]; exact ext_setRow E10.out (by have := LQ.out; have := LE.out; omega) _
        have Q_11 := Lib.hid (show RowAt W10s ((w.heap.size)) _ _ from by rw [hW10s]; exact Q_10.out.setRowOther _ (by have := LQ.out; have := LE.out; omega))
        have P_11 := Lib.hid (show RowAt W10s ((w.heap.size + 1)) _ _ from by rw [hW10s]; exact P_10.out.setRowOther _ (by have := LQ.out; have := LE.out; omega))
        have RW11 : Hid (RowAt W10s (g6) 32 (rootCells sa ss false sp sk sc false sq sm se)) := by rw [hW10s]; exact RW10.out.setRow _
        have RV11 := Lib.hid (show RightV _ W10s from by rw [hW10s]; exact RV.out.setAny RW10.out rfl _)
        have HW10s := Lib.hid hW10s
        clear hW10s E10 Q_10 P_10 RV
        have rw0 := RW11.out.root0
        have rw1 := RW11.out.root1
        have rw2 := RW11.out.root2
        have rw3 := RW11.out.root3
        have rw4 := RW11.out.root4
        have rw5 := RW11.out.root5
        obtain ⟨WE, hWE⟩ : ∃ WE, WE = W10s.setRow (w.heap.size + 1) (rootCells sa ss false sp sk sc false sq sm se) := ⟨_, rfl⟩
        have PE : Hid (RowAt WE (w.heap.size + 1) 32 (rootCells sa ss false sp sk sc false sq sm se)) := by rw [hWE]; exact P_11.out.setRow _
        have EE : Hid (Ext w WE) := by rw [hWE]; exact ext_setRow E11.out (by omega) _
        have RE := Lib.hid (show RightV _ WE from by rw [hWE]; exact RV11.out.setAny P_11.out rfl _)
        have HWE := Lib.hid hWE
        clear hWE
        go_wp2_with (first | (refine store_root rfl (.tmp 6) (.tmp 62) rfl (g6) rfl _ _ _ _ _ _ _ _ _ _ rfl _ _ RW10.out rfl ?_; rw [← HW10s.out]) | (refine store_root rfl (.tmp 2) (.tmp 64) rfl (w.heap.size + 1) rfl _ _ _ _ _ _ _ _ _ _ rfl _ _ P_11.out rfl ?_; rw [← HWE.out]))
        exact ret_root1 rfl (w.heap.size + 1) rfl _ _ _ _ _ _ _ _ _ _ _ PE.out ⟨_, rfl, RE.out, EE.out⟩
    case fih6 =>
      rintro D ac wf6 hD hnp ⟨vs, rfl, k0, hF⟩
      refine ⟨_, rfl, ?_⟩
      change wpList _ _ _ [_, _, _] _ _
      obtain ⟨vr, hvr, hrr⟩ : ∃ vr, vs 10 = vr ∧ RightV vr wf6 := ⟨_, rfl, hF 10 (hD 10 (by decide) (by decide))⟩
      rw [hvr]
      obtain ⟨ra, rs, rp, rk, rc, rq, rm, re, rfl⟩ := hrr.parts
      obtain ⟨g6, hg, hle, hrow⟩ := hF 12 (hD 12 (by decide) (by decide))
      rw [hg]
      obtain ⟨rt, hrt, -⟩ := (show RightTrue (vs 9) wf6 from hF 9 (hD 9 (by decide) (by decide)))
      rw [hrt]
      clear hrt hnp
      have RV := Lib.hid hrr
      have RW := Lib.hid hrow
      have LQ := Lib.hid (show w.heap.size + 1 < w4_.heap.size from P_4.out.lt)
      have LE := Lib.hid hle
      have E5 := Lib.hid (E4.out.trans k0)
      have Q_5 := Lib.hid (k0.row Q_4.out)
      have P_5 := Lib.hid (k0.row P_4.out)
      clear E4 Q_4 P_4
      clear hF hD hg hvr hrr hrow hle k0
      generalize vs = t6
      obtain ⟨W5s, hW5s⟩ : ∃ W5s, W5s = wf6.setRow (g6) (rootCells ra rs false rp rk rc false rq rm re) := ⟨_, rfl⟩
      have E6 : Hid (Ext w W5s) := by rw [hW5s]; exact ext_setRow E5.out (by have := LQ.out; have := LE.out; omega) _
      have Q_6 := Lib.hid (show RowAt W5s ((w.heap.size)) _ _ from by rw [hW5s]; exact Q_5.out.setRowOther _ (by have := LQ.out; have := LE.out; omega))
      have P_6 := Lib.hid (show RowAt W5s ((w.heap.size + 1)) _ _ from by rw [hW5s]; exact P_5.out.setRowOther _ (by have := LQ.out; have := LE.out; omega))
      have RV6 := Lib.hid (show RightV _ W5s from by rw [hW5s]; exact RV.out.setAny RW.out rfl _)
      have RW6 : Hid (RowAt W5s (g6) 32 (rootCells ra rs false rp rk rc false rq rm re)) := by rw [hW5s]; exact RW.out.setRow _
      have HW5s := Lib.hid hW5s
      clear hW5s E5 Q_5 P_5 RV
      have cq1 := (show (W5s).cell? ⟨w.heap.size, 1, none⟩ = some (.int .i64 q1) from Q_6.out.cell 1)
      have h7 := H7.out
      have cq2 := (show (W5s).cell? ⟨w.heap.size, 2, none⟩ = some (.int .i64 q2) from Q_6.out.cell 2)
      go_wp2_with (first | (refine store_root rfl (.tmp 6) (.tmp 39) rfl (g6) rfl _ _ _ _ _ _ _ _ _ _ rfl _ _ RW.out rfl ?_; rw [← HW5s.out]))
      clear cq1 cq2 h7
      refine (rof_n q2 R2.out W5s).mono ?_; rintro e w8 ⟨v8, rfl, hz, hx⟩
      have E7 := Lib.hid (E6.out.trans hx)
      have Q_7 := Lib.hid (hx.row Q_6.out)
      have P_7 := Lib.hid (hx.row P_6.out)
      have RV7 := Lib.hid (RightV.ext RV6.out hx)
      have RW7 := Lib.hid (hx.row RW6.out)
      clear E6 Q_6 P_6 RV6 RW6
      have ZB := Lib.hid hz
      clear hx hz
      obtain ⟨n8, p8, l8, c8, rfl⟩ := IsN.parts ZB.out
      have ZC := Lib.hid (abs_n ZB.out)
      clear ZB
      have LG := Lib.hid (show g6 < w8.heap.size ∧ w.heap.size + 1 < w8.heap.size from ⟨RW7.out.lt, P_7.out.lt⟩)
      obtain ⟨W7b, hW7b⟩ : ∃ W7b, W7b = (w8.alloc (.cells #[.bool false, .slice none 0 0] 25)).setRow w8.heap.size (numCells n8 p8 l8 c8) := ⟨_, rfl⟩
      have hx : Ext w8 W7b := by rw [hW7b]; exact ext_setRow (Ext.alloc _ _) (Nat.le_refl _) _
      have G_n : RowAt W7b w8.heap.size 25 (numCells n8 p8 l8 c8) := by rw [hW7b]; exact (RowAt.new _ _ _).setRow _
      have E8 := Lib.hid (E7.out.trans hx)
      have Q_8 := Lib.hid (hx.row Q_7.out)
      have P_8 := Lib.hid (hx.row P_7.out)
      have RV8 := Lib.hid (RightV.ext RV7.out hx)
      have RW8 := Lib.hid (hx.row RW7.out)
      have ZC8 := Lib.hid (hx.num ZC.out)
      clear E7 Q_7 P_7 RV7 RW7 ZC
      have G_8 := Lib.hid G_n
      have HW7b := Lib.hid hW7b
      clear hx hW7b G_n
      obtain ⟨W8t, hW8t⟩ : ∃ W8t, W8t = W7b.setRow (w8.heap.size) (numCells false p8 l8 c8) := ⟨_, rfl⟩
      have E9 : Hid (Ext w W8t) := by rw [hW8t]; exact ext_setRow E8.out (by have := LG.out; omega) _
      have Q_9 := Lib.hid (show RowAt W8t ((w.heap.size)) _ _ from by rw [hW8t]; exact Q_8.out.setRowOther _ (by have := LG.out; have := LQ.out; omega))
      have P_9 := Lib.hid (show RowAt W8t ((w.heap.size + 1)) _ _ from by rw [hW8t]; exact P_8.out.setRowOther _ (by have := LG.out; have := LQ.out; omega))
      have RV9 := Lib.hid (show RightV _ W8t from by rw [hW8t]; exact RV8.out.setAny G_8.out rfl _)
      have RW9 := Lib.hid (show RowAt W8t (g6) _ _ from by rw [hW8t]; exact RW8.out.setRowOther _ (by have := LG.out; have := LQ.out; omega))
      have ZC9 := Lib.hid (show IsN _ _ W8t from by rw [hW8t]; show ZNum _ _ _ _; rw [setRow_size]; exact ZNum.setAny ZC8.out G_8.out rfl _)
      have G_9 : Hid (RowAt W8t (w8.heap.size) 25 (numCells false p8 l8 c8)) := by rw [hW8t]; exact G_8.out.setRow _
      have HW8t := Lib.hid hW8t
      clear hW8t E8 Q_8 P_8 RV8 RW8 ZC8
      go_wp2_with (first | (refine store_num rfl (.tmp 8) (.tmp 47) rfl w8.heap.size rfl _ _ _ _ rfl _ _ (RowAt.new' _ _ rfl) rfl ?_; rw [← HW7b.out]) | (refine store_neg rfl (.tmp 48) rfl (w8.heap.size) rfl _ _ _ _ _ G_8.out ?_; rw [← HW8t.out]))
      refine wp_region_tail2 (fun D ac w' => ∃ vs : Nat → Value, ac = { tmps := #[Value.agg #[Value.int IntKind.i64 q0, Value.int IntKind.i64 q1, Value.int IntKind.i64 q2, Value.int IntKind.i64 q3], Value.pointer (some { block := w.heap.size, off := 0 }), Value.pointer (some { block := w.heap.size + 1, off := 0 }), Value.int IntKind.i64 NN, Value.int IntKind.i64 (1 + x3), Value.int IntKind.i64 (x1 - 1), Value.pointer (some { block := g6, off := 0 }), Value.bool true, Value.pointer (some { block := w8.heap.size, off := 0 }), Value.pointer (some { block := w.heap.size, off := 2 }), Value.int IntKind.i64 q2, Value.int IntKind.i64 x2, Value.pointer (some { block := w.heap.size, off := 3 }), Value.int IntKind.i64 q3, Value.int IntKind.i64 x3, Value.int IntKind.i64 (1 + x3), Value.pointer (some { block := w.heap.size, off := 1 }), Value.int IntKind.i64 q1, Value.int IntKind.i64 (q1.tmod 5), u19, u20, u21, u22, u23, u24, Value.pointer (some { block := w.heap.size, off := 1 }), Value.int IntKind.i64 q1, Value.int IntKind.i64 x1, Value.int IntKind.i64 (x1 - 1), Value.tuple #[rt, Value.bool true], t6 0, t6 1, t6 2, t6 3, t6 4, t6 5, t6 6, t6 7, t6 8, Value.agg #[Value.int IntKind.i64 ra, Value.int IntKind.i64 rs, Value.bool false, Value.slice rp rk rc, Value.bool false, Value.slice rq rm re], Value.bool true, Value.pointer (some { block := w.heap.size, off := 1 }), Value.int IntKind.i64 q1, Value.int IntKind.i64 (q1.tmod 7), Value.bool true, Value.pointer (some { block := w.heap.size, off := 2 }), Value.int IntKind.i64 q2, Value.agg #[Value.bool n8, Value.slice p8 l8 c8], Value.pointer (some { block := w8.heap.size, off := 0 }), vs 12, vs 0, vs 1, vs 2, vs 3, vs 4, vs 5, vs 6, vs 7, vs 8, vs 9, vs 10, vs 11, vs 13, vs 14, undef], defers := [] } ∧ Ext W8t w' ∧ ∀ j, D j → md10F w.heap.size q0 q3 (x1 - 1) (q2.natAbs : Int) y3 (.agg #[.bool false, .slice p8 l8 c8]) j (vs j) w') 15 14 (op := _) rfl (by kernel_rfl) (by kernel_rfl) (by kernel_rfl) ?start10 ?step10 ?fin10 ?fih10
      case start10 => exact ⟨fun _ => undef, rfl, Ext.drew _, fun _ h => h.elim⟩
      case step10 =>
        rintro i o D ac wz hin hio hnd he ⟨vs, rfl, k0, hF⟩
        rcases i with _ | _ | _ | _ | _ | _ | _ | _ | _ | _ | _ | _ | _ | _ | _ | i
        rotate_left 15
        · exact absurd hin (by omega)
        all_goals (obtain rfl := Option.some.inj (hio.symm.trans (by rfl)))
        · refine step_yes (wanted_of_none rfl _) ?_
          exact wp_of_run (run_ix4 0 (by decide) (.tmp 1) rfl _ rfl) ⟨upd vs 0 _, rfl, k0, inv_step hF (fun _ _ h => h) rfl⟩
        · refine step_yes (wanted_of_none rfl _) ?_
          exact wp_of_run (run_load_int_at (.tmp 50) rfl _ (by exact (hF 0 (he ⟨0, .data⟩ (by simp) rfl))) _ ((k0.row Q_9.out).cell 0)) ⟨upd vs 1 _, rfl, k0, inv_step hF (fun _ _ h => h) rfl⟩
        · refine step_yes (wanted_of_none rfl _) ?_
          exact wp_of_run (run_mov (.tmp 5) rfl _ rfl) ⟨upd vs 2 _, rfl, k0, inv_step hF (fun _ _ h => h) rfl⟩
        · refine step_yes (wanted_of_none rfl _) ?_
          exact wp_of_run (run_load_num (.tmp 8) rfl _ rfl _ _ _ _ _ (k0.row G_9.out)) ⟨upd vs 3 _, rfl, k0, inv_step hF (fun _ _ h => h) rfl⟩
        · refine step_yes (wanted_of_none rfl _) ?_
          exact wp_of_run (run_load_num (.tmp 8) rfl _ rfl _ _ _ _ _ (k0.row G_9.out)) ⟨upd vs 4 _, rfl, k0, inv_step hF (fun _ _ h => h) rfl⟩
        · refine step_yes (wanted_of_none rfl _) ?_
          refine wp_of_callE (run_enter2 47 (.tmp 53) (.tmp 54) _ rfl _ _ (by exact (hF 3 (he ⟨3, .data⟩ (by simp) rfl))) (by exact (hF 4 (he ⟨4, .data⟩ (by simp) rfl))) ent_r2times) (r2times_n _ _ _ _ _ wz (k0.num ZC9.out) (k0.num ZC9.out) rfl (Nat.lt_of_lt_of_le (sq_lim R2.out).2 (Nat.pow_le_pow_right (by decide) (by decide)))) ?_
          rintro e w' ⟨rr, rfl, hz, hx⟩
          exact ⟨_, rfl, upd vs 5 _, rfl, k0.trans hx, inv_step hF (fun j v h => md10F_mono hx j v h) hz⟩
        · refine step_yes (wanted_of_none rfl _) ?_
          exact wp_of_run (run_ix4 3 (by decide) (.tmp 1) rfl _ rfl) ⟨upd vs 6 _, rfl, k0, inv_step hF (fun _ _ h => h) rfl⟩
        · refine step_yes (wanted_of_none rfl _) ?_
          exact wp_of_run (run_load_int_at (.tmp 56) rfl _ (by exact (hF 6 (he ⟨6, .data⟩ (by simp) rfl))) _ ((k0.row Q_9.out).cell 3)) ⟨upd vs 7 _, rfl, k0, inv_step hF (fun _ _ h => h) rfl⟩
        · refine step_yes (wanted_of_none rfl _) ?_
          refine wp_of_callE (run_enter2 46 (.tmp 57) (.const (.int .i64 1099511627776)) _ rfl _ _ (by exact (hF 7 (he ⟨7, .data⟩ (by simp) rfl))) rfl ent_mod) (C4.out wz (by decide) (by decide)) ?_
          rintro e w' ⟨rfl, hx⟩
          exact ⟨_, rfl, upd vs 8 _, rfl, k0.trans hx, inv_step hF (fun j v h => md10F_mono hx j v h) rfl⟩
        · refine step_yes (wanted_of_none rfl _) ?_
          exact wp_of_run (run_add (.const (.int .i64 1)) (.tmp 58) rfl rfl _ _ rfl (by exact (hF 8 (he ⟨8, .data⟩ (by simp) rfl))) (by have := HY.out; rw [IntKind.wrap_i64]; omega)) ⟨upd vs 9 _, rfl, k0, inv_step hF (fun _ _ h => h) rfl⟩
        · refine step_yes (wanted_of_none rfl _) ?_
          refine wp_of_callE (run_enter1 34 (.tmp 59) _ rfl _ (by exact (hF 9 (he ⟨9, .data⟩ (by simp) rfl))) ent_rof) (rof_n (1 + y3) (by have := HY.out; omega) wz) ?_
          rintro e w' ⟨rr, rfl, hz, hx⟩
          exact ⟨_, rfl, upd vs 10 _, rfl, k0.trans hx, inv_step hF (fun j v h => md10F_mono hx j v h) hz⟩
        · refine step_yes (wanted_of_none rfl _) ?_
          refine wp_of_callE (run_enter4 14 (.tmp 51) (.tmp 52) (.tmp 55) (.tmp 60) _ rfl _ _ _ _ (by exact (hF 1 (he ⟨1, .data⟩ (by simp) rfl))) (by exact (hF 2 (he ⟨2, .data⟩ (by simp) rfl))) rfl rfl ent_r2of) (r2of_right _ _ q0 (x1 - 1) _ (1 + y3) wz (hF 5 (he ⟨5, .data⟩ (by simp) rfl)) (hF 10 (he ⟨10, .data⟩ (by simp) rfl)) R0.out (by have := HX1.out; omega) (by have := HX1.out; omega) (sq_lim R2.out).1 (by have := HY.out; omega) (sq_lim R2.out).2 (b8_small (by have := HY.out; omega) (by have := HY.out; omega))) ?_
          rintro e w' ⟨rr, rfl, hz, hx⟩
          exact ⟨_, rfl, upd vs 11 _, rfl, k0.trans hx, inv_step hF (fun j v h => md10F_mono hx j v h) hz⟩
        · refine step_yes (wanted_of_none rfl _) ?_
          exact wp_of_run (run_mov (.tmp 61) rfl _ rfl) ⟨upd vs 12 _, rfl, k0, inv_step hF (fun _ _ h => h) (hF 11 (he ⟨11, .data⟩ (by simp) rfl))⟩
        · refine step_yes (wanted_of_none rfl _) ?_
          obtain ⟨rr, er, hz⟩ := (hF 12 (he ⟨12, .data⟩ (by simp) rfl))
          exact wp_of_run (run_extract (.tmp 49) 0 rfl _ (by exact er) rr rfl) ⟨upd vs 13 _, rfl, k0, inv_step hF (fun _ _ h => h) hz⟩
        · refine step_yes (wanted_of_none rfl _) ?_
          obtain ⟨rr, er, hz⟩ := (hF 12 (he ⟨12, .data⟩ (by simp) rfl))
          exact wp_of_run (run_extract (.tmp 49) 1 rfl _ (by exact er) (.bool true) rfl) ⟨upd vs 14 _, rfl, k0, inv_step hF (fun _ _ h => h) rfl⟩
      case fin10 =>
        rintro D ac wfa hD ⟨vs, rfl, k0, hF⟩
        change wpList _ _ _ [_] _ _
        obtain ⟨vr, hvr, hrr⟩ : ∃ vr, vs 13 = vr ∧ RightV vr wfa := ⟨_, rfl, hF 13 (hD 13 (by decide))⟩
        rw [hvr]
        obtain ⟨sa, ss, sp, sk, sc, sq, sm, se, rfl⟩ := hrr.parts
        clear RV9
        clear ZC9
        clear G_9
        have RV := Lib.hid hrr
        have E10 := Lib.hid (E9.out.trans k0)
        have Q_10 := Lib.hid (k0.row Q_9.out)
        have P_10 := Lib.hid (k0.row P_9.out)
        have RW10 := Lib.hid (k0.row RW9.out)
        clear E9 Q_9 P_9 RW9
        clear hF hD hvr hrr k0
        generalize vs = ta
        obtain ⟨W10s, hW10s⟩ : ∃ W10s, W10s = wfa.setRow (g6) (rootCells sa ss false sp sk sc false sq sm se) := ⟨_, rfl⟩
        have E11 : Hid (Ext w W10s) := by rw [hW10s]; exact ext_setRow E10.out (by have := LQ.out; have := LE.out; omega) _
        have Q_11 := Lib.hid (show RowAt W10s ((w.heap.size)) _ _ from by rw [hW10s]; exact Q_10.out.setRowOther _ (by have := LQ.out; have := LE.out; omega))
        have P_11 := Lib.hid (show RowAt W10s ((w.heap.size + 1)) _ _ from by rw [hW10s]; exact P_10.out.setRowOther _ (by have := LQ.out; have := LE.out; omega))
        have RW11 : Hid (RowAt W10s (g6) 32 (rootCells sa ss false sp sk sc false sq sm se)) := by rw [hW10s]; exact RW10.out.setRow _
        have RV11 := Lib.hid (show RightV _ W10s from by rw [hW10s]; exact RV.out.setAny RW10.out rfl _)
        have HW10s := Lib.hid hW10s
        clear hW10s E10 Q_10 P_10 RV
        have rw0 := RW11.out.root0
        have rw1 := RW11.out.root1
        have rw2 := RW11.out.root2
        have rw3 := RW11.out.root3
        have rw4 := RW11.out.root4
        have rw5 := RW11.out.root5
        obtain ⟨WE, hWE⟩ : ∃ WE, WE = W10s.setRow (w.heap.size + 1) (rootCells sa ss false sp sk sc false sq sm se) := ⟨_, rfl⟩
        have PE : Hid (RowAt WE (w.heap.size + 1) 32 (rootCells sa ss false sp sk sc false sq sm se)) := by rw [hWE]; exact P_11.out.setRow _
        have EE : Hid (Ext w WE) := by rw [hWE]; exact ext_setRow E11.out (by omega) _
        have RE := Lib.hid (show RightV _ WE from by rw [hWE]; exact RV11.out.setAny P_11.out rfl _)
        have HWE := Lib.hid hWE
        clear hWE
        go_wp2_with (first | (refine store_root rfl (.tmp 6) (.tmp 62) rfl (g6) rfl _ _ _ _ _ _ _ _ _ _ rfl _ _ RW10.out rfl ?_; rw [← HW10s.out]) | (refine store_root rfl (.tmp 2) (.tmp 64) rfl (w.heap.size + 1) rfl _ _ _ _ _ _ _ _ _ _ rfl _ _ P_11.out rfl ?_; rw [← HWE.out]))
        exact ret_root1 rfl (w.heap.size + 1) rfl _ _ _ _ _ _ _ _ _ _ _ PE.out ⟨_, rfl, RE.out, EE.out⟩
      case fih10 =>
        rintro D ac wfa hD hnp ⟨vs, rfl, k0, hF⟩
        refine ⟨_, rfl, ?_⟩
        change wpList _ _ _ [_, _] _ _
        obtain ⟨vr, hvr, hrr⟩ : ∃ vr, vs 13 = vr ∧ RightV vr wfa := ⟨_, rfl, hF 13 (hD 13 (by decide) (by decide))⟩
        rw [hvr]
        obtain ⟨sa, ss, sp, sk, sc, sq, sm, se, rfl⟩ := hrr.parts
        obtain ⟨rt, hrt, -⟩ := (show RightTrue (vs 12) wfa from hF 12 (hD 12 (by decide) (by decide)))
        rw [hrt]
        clear hrt hnp
        clear RV9
        clear ZC9
        clear G_9
        have RV := Lib.hid hrr
        have E10 := Lib.hid (E9.out.trans k0)
        have Q_10 := Lib.hid (k0.row Q_9.out)
        have P_10 := Lib.hid (k0.row P_9.out)
        have RW10 := Lib.hid (k0.row RW9.out)
        clear E9 Q_9 P_9 RW9
        clear hF hD hvr hrr k0
        generalize vs = ta
        obtain ⟨W10s, hW10s⟩ : ∃ W10s, W10s = wfa.setRow (g6) (rootCells sa ss false sp sk sc false sq sm se) := ⟨_, rfl⟩
        have E11 : Hid (Ext w W10s) := by rw [hW10s]; exact ext_setRow E10.out (by have := LQ.out; have := LE.out; omega) _
        have Q_11 := Lib.hid (show RowAt W10s ((w.heap.size)) _ _ from by rw [hW10s]; exact Q_10.out.setRowOther _ (by have := LQ.out; have := LE.out; omega))
        have P_11 := Lib.hid (show RowAt W10s ((w.heap.size + 1)) _ _ from by rw [hW10s]; exact P_10.out.setRowOther _ (by have := LQ.out; have := LE.out; omega))
        have RW11 : Hid (RowAt W10s (g6) 32 (rootCells sa ss false sp sk sc false sq sm se)) := by rw [hW10s]; exact RW10.out.setRow _
        have RV11 := Lib.hid (show RightV _ W10s from by rw [hW10s]; exact RV.out.setAny RW10.out rfl _)
        have HW10s := Lib.hid hW10s
        clear hW10s E10 Q_10 P_10 RV
        have rw0 := RW11.out.root0
        have rw1 := RW11.out.root1
        have rw2 := RW11.out.root2
        have rw3 := RW11.out.root3
        have rw4 := RW11.out.root4
        have rw5 := RW11.out.root5
        obtain ⟨WE, hWE⟩ : ∃ WE, WE = W10s.setRow (w.heap.size + 1) (rootCells sa ss false sp sk sc false sq sm se) := ⟨_, rfl⟩
        have PE : Hid (RowAt WE (w.heap.size + 1) 32 (rootCells sa ss false sp sk sc false sq sm se)) := by rw [hWE]; exact P_11.out.setRow _
        have EE : Hid (Ext w WE) := by rw [hWE]; exact ext_setRow E11.out (by omega) _
        have RE := Lib.hid (show RightV _ WE from by rw [hWE]; exact RV11.out.setAny P_11.out rfl _)
        have HWE := Lib.hid hWE
        clear hWE
        go_wp2_with (first | (refine store_root rfl (.tmp 6) (.tmp 62) rfl (g6) rfl _ _ _ _ _ _ _ _ _ _ rfl _ _ RW10.out rfl ?_; rw [← HW10s.out]) | (refine store_root rfl (.tmp 2) (.tmp 64) rfl (w.heap.size + 1) rfl _ _ _ _ _ _ _ _ _ _ rfl _ _ P_11.out rfl ?_; rw [← HWE.out]))
        exact ret_root1 rfl (w.heap.size + 1) rfl _ _ _ _ _ _ _ _ _ _ _ PE.out ⟨_, rfl, RE.out, EE.out⟩
end Go.Proofs.YtegjcikofmphjaaGreatDoor

