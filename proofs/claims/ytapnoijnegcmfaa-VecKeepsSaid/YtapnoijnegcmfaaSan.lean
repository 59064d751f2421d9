/- vec: the laws' sanity. -/
import Derived.Test.YtapnoijnegcmfaaInv
import Derived.Deep.Cut
set_option linter.all false
namespace Go.Proofs.Ytapnoijnegcmfaa
open Go Go.RowKit Go.Shelf


def sanV2 (w w1 w2 W2 : World) : Nat → Value
  | 0 => .agg #[.int .i64 2, .int .i64 3]
  | 1 => .agg #[.int .i64 4, .int .i64 (-1)]
  | 2 => .int .i64 (-14)
  | 3 => .bool true
  | 4 => .bool true
  | 5 => .agg #[.int .i64 2, .int .i64 3]
  | 6 => .agg #[.int .i64 4, .int .i64 (-1)]
  | 7 => .int .i64 5
  | 8 => .bool true
  | 9 => .bool true
  | 10 => .bool true
  | 11 => .agg #[.int .i64 0, .int .i64 0]
  | 12 => .agg #[.int .i64 4, .int .i64 0]
  | 13 => .agg #[.int .i64 1, .int .i64 2]
  | 14 => .int .i64 1
  | 15 => .bool true
  | 16 => .bool true
  | 17 => .bool true
  | 18 => .agg #[.int .i64 0, .int .i64 0]
  | 19 => .agg #[.int .i64 4, .int .i64 0]
  | 20 => .agg #[.int .i64 1, .int .i64 0]
  | 21 => .int .i64 0
  | 22 => .bool true
  | 23 => .bool true
  | 24 => .bool true
  | 25 => .agg #[.int .i64 0, .int .i64 0]
  | 26 => .agg #[.int .i64 4, .int .i64 0]
  | 27 => .agg #[.int .i64 1, .int .i64 (-5)]
  | 28 => .int .i64 (-1)
  | 29 => .bool true
  | 30 => .bool true
  | _ => undef
def sanF2 (w w1 w2 W2 : World) (j : Nat) (v : Value) : Prop := v = sanV2 w w1 w2 W2 j
def sanV3 (w w1 w2 W2 : World) (wf2 : World) (tv2 : Nat → Value) : Nat → Value
  | 0 => .agg #[.int .i64 1, .int .i64 1]
  | 1 => .agg #[.int .i64 1, .int .i64 0]
  | 2 => .agg #[.int .i64 0, .int .i64 1]
  | 3 => .bool true
  | 4 => .bool true
  | 5 => .agg #[.int .i64 (-1), .int .i64 1]
  | 6 => .agg #[.int .i64 1, .int .i64 0]
  | 7 => .agg #[.int .i64 0, .int .i64 1]
  | 8 => .bool false
  | 9 => .bool true
  | 10 => .bool true
  | 11 => .bool true
  | 12 => .agg #[.int .i64 0, .int .i64 0]
  | 13 => .agg #[.int .i64 1, .int .i64 0]
  | 14 => .agg #[.int .i64 0, .int .i64 1]
  | 15 => .bool true
  | 16 => .bool true
  | 17 => .bool true
  | 18 => .agg #[.int .i64 67108864, .int .i64 (-67108864)]
  | 19 => .bool true
  | 20 => .bool true
  | 21 => .bool true
  | 22 => .agg #[.int .i64 0, .int .i64 67108865]
  | 23 => .bool false
  | 24 => .bool true
  | 25 => .bool true
  | _ => undef
def sanF3 (w w1 w2 W2 : World) (wf2 : World) (tv2 : Nat → Value) (j : Nat) (v : Value) : Prop := v = sanV3 w w1 w2 W2 wf2 tv2 j
def sanV6 (w w1 w2 W2 : World) (wf2 : World) (tv2 : Nat → Value) (wf3 : World) (tv3 : Nat → Value) (w4 W4 w5 W5 : World) : Nat → Value
  | 0 => .agg #[.int .i64 10, .int .i64 20, .int .i64 1, .bool false]
  | 1 => .agg #[.int .i64 3, .int .i64 4]
  | 2 => .agg #[.int .i64 6, .int .i64 23]
  | 3 => .agg #[.int .i64 6, .int .i64 23]
  | 4 => .bool true
  | 5 => .bool true
  | 6 => .agg #[.int .i64 0, .int .i64 0, .int .i64 0, .bool true]
  | 7 => .agg #[.int .i64 3, .int .i64 4]
  | 8 => .agg #[.int .i64 (-3), .int .i64 4]
  | 9 => .agg #[.int .i64 (-3), .int .i64 4]
  | 10 => .bool true
  | 11 => .bool true
  | 12 => .bool true
  | 13 => .agg #[.int .i64 10, .int .i64 20, .int .i64 1, .bool true]
  | 14 => .agg #[.int .i64 3, .int .i64 4]
  | 15 => .agg #[.int .i64 6, .int .i64 17]
  | 16 => .agg #[.int .i64 6, .int .i64 17]
  | 17 => .bool true
  | 18 => .bool true
  | _ => undef
def sanF6 (w w1 w2 W2 : World) (wf2 : World) (tv2 : Nat → Value) (wf3 : World) (tv3 : Nat → Value) (w4 W4 w5 W5 : World) (j : Nat) (v : Value) : Prop := v = sanV6 w w1 w2 W2 wf2 tv2 wf3 tv3 w4 W4 w5 W5 j
def sanV7 (w w1 w2 W2 : World) (wf2 : World) (tv2 : Nat → Value) (wf3 : World) (tv3 : Nat → Value) (w4 W4 w5 W5 : World) (wf6 : World) (tv6 : Nat → Value) : Nat → Value
  | 0 => .agg #[.int .i64 10, .int .i64 20, .int .i64 1, .bool false]
  | 1 => .agg #[.int .i64 1, .int .i64 2]
  | 2 => .agg #[.int .i64 1, .int .i64 2, .int .i64 3, .bool true]
  | 3 => .agg #[.int .i64 8, .int .i64 21, .int .i64 0, .bool true]
  | 4 => .agg #[.int .i64 8, .int .i64 21]
  | 5 => .agg #[.int .i64 8, .int .i64 21, .int .i64 0, .bool true]
  | 6 => .bool true
  | 7 => .bool true
  | 8 => .agg #[.int .i64 10, .int .i64 20, .int .i64 1, .bool false]
  | 9 => .agg #[.int .i64 (-20), .int .i64 10, .int .i64 3, .bool false]
  | 10 => .agg #[.int .i64 (-20), .int .i64 10]
  | 11 => .agg #[.int .i64 (-20), .int .i64 10, .int .i64 3, .bool false]
  | 12 => .bool true
  | 13 => .bool true
  | 14 => .bool true
  | 15 => .agg #[.int .i64 10, .int .i64 20, .int .i64 1, .bool true]
  | 16 => .agg #[.int .i64 20, .int .i64 10, .int .i64 1, .bool true]
  | 17 => .agg #[.int .i64 20, .int .i64 10]
  | 18 => .agg #[.int .i64 20, .int .i64 10, .int .i64 1, .bool true]
  | 19 => .bool true
  | 20 => .bool true
  | _ => undef
def sanF7 (w w1 w2 W2 : World) (wf2 : World) (tv2 : Nat → Value) (wf3 : World) (tv3 : Nat → Value) (w4 W4 w5 W5 : World) (wf6 : World) (tv6 : Nat → Value) (j : Nat) (v : Value) : Prop := v = sanV7 w w1 w2 W2 wf2 tv2 wf3 tv3 w4 W4 w5 W5 wf6 tv6 j
def sanV8 (w w1 w2 W2 : World) (wf2 : World) (tv2 : Nat → Value) (wf3 : World) (tv3 : Nat → Value) (w4 W4 w5 W5 : World) (wf6 : World) (tv6 : Nat → Value) (wf7 : World) (tv7 : Nat → Value) : Nat → Value
  | 0 => .bool true
  | 1 => .bool true
  | 2 => .bool true
  | 3 => .bool true
  | 4 => .bool true
  | 5 => .bool true
  | 6 => .bool true
  | 7 => .bool true
  | 8 => .bool true
  | 9 => .bool true
  | 10 => .bool true
  | 11 => .agg #[.int .i64 2, .int .i64 3]
  | 12 => .agg #[.int .i64 4, .int .i64 (-1)]
  | 13 => .agg #[.int .i64 6, .int .i64 2]
  | 14 => .agg #[.int .i64 6, .int .i64 2]
  | 15 => .bool true
  | 16 => .bool true
  | 17 => .bool true
  | 18 => .agg #[.int .i64 2, .int .i64 3]
  | 19 => .agg #[.int .i64 4, .int .i64 (-1)]
  | 20 => .agg #[.int .i64 (-2), .int .i64 4]
  | 21 => .agg #[.int .i64 (-2), .int .i64 4]
  | 22 => .bool true
  | 23 => .bool true
  | _ => undef
def sanF8 (w w1 w2 W2 : World) (wf2 : World) (tv2 : Nat → Value) (wf3 : World) (tv3 : Nat → Value) (w4 W4 w5 W5 : World) (wf6 : World) (tv6 : Nat → Value) (wf7 : World) (tv7 : Nat → Value) (j : Nat) (v : Value) : Prop := v = sanV8 w w1 w2 W2 wf2 tv2 wf3 tv3 w4 W4 w5 W5 wf6 tv6 wf7 tv7 j
set_option maxRecDepth 100000 in
set_option maxHeartbeats 4000000 in
theorem sanity_c (w : World) : Calls Try.prog 8 #[] w fun e w' => e = .returned (.bool true) ∧ Ext w w' := by
  have E0 := Lib.hid (Ext.refl w)
  go_enter Try.func8, Try.ntmps8
  go_wp2_with fail
  refine (lat 2 3 _).mono ?_; rintro e w1 ⟨rfl, hx⟩
  have E1 := Lib.hid (E0.out.trans hx)
  clear E0
  clear hx
  go_wp2_with fail
  refine (lat 4 (-1) _).mono ?_; rintro e w2 ⟨rfl, hx⟩
  have E2 := Lib.hid (E1.out.trans hx)
  clear E1
  clear hx
  go_upto_region 2 with (fail)
  obtain ⟨W2, hW2⟩ : ∃ W2, W2 = (w2.alloc (.cells #[.int .i64 2, .int .i64 3] 23)).alloc (.cells #[.int .i64 4, .int .i64 (-1)] 23) := ⟨_, rfl⟩
  have hx : Ext w2 W2 := by rw [hW2]; exact Ext.alloc2 _ _ _
  have A_0 := Lib.hid (show RowAt W2 w2.heap.size 23 _ from by rw [hW2]; exact (RowAt.new _ _ _).alloc _)
  have B_0 := Lib.hid (show RowAt W2 (w2.heap.size + 1) 23 _ from by rw [hW2]; exact RowAt.new' _ _ (by simp))
  have E3 := Lib.hid (E2.out.trans hx)
  clear E2
  clear hx
  rw [← hW2]
  clear hW2
  refine wp_region_seq (fun D ac w' => ∃ vs : Nat → Value, ac = { tmps := #[Value.bool false, Value.pointer (some { block := w2.heap.size, off := 0 }), Value.pointer (some { block := w2.heap.size + 1, off := 0 }), undef, undef, undef, undef, undef, undef, Value.agg #[Value.int IntKind.i64 2, Value.int IntKind.i64 3], Value.agg #[Value.int IntKind.i64 4, Value.int IntKind.i64 (-1)], vs 0, vs 1, vs 2, vs 3, vs 4, vs 5, vs 6, vs 7, vs 8, vs 9, vs 10, vs 11, vs 12, vs 13, vs 14, vs 15, vs 16, vs 17, vs 18, vs 19, vs 20, vs 21, vs 22, vs 23, vs 24, vs 25, vs 26, vs 27, vs 28, vs 29, vs 30, undef, undef, undef, undef, undef, undef, undef, undef, undef, undef, undef, undef, undef, undef, undef, undef, undef, undef, undef, undef, undef, undef, undef, undef, undef, undef, undef, undef, undef, undef, undef, undef, undef, undef, undef, undef, undef, undef, undef, undef, undef, undef, undef, undef, undef, undef, undef, undef, undef, undef, undef, undef, undef, undef, undef, undef, undef, undef, undef, undef, undef, undef, undef, undef, undef, undef, undef, undef, undef, undef, undef, undef, undef, undef, undef, undef, undef, undef, undef, undef, undef, undef, undef, undef, undef, undef, undef, undef, undef, undef, undef, undef, undef, undef], defers := [] } ∧ Ext W2 w' ∧ ∀ j, D j → sanF2 w w1 w2 W2 j (vs j)) 31 (by kernel_rfl) (by kernel_rfl) ?startsan2 ?stepsan2 ?finsan2
  case startsan2 => exact ⟨fun _ => undef, rfl, Ext.refl _, fun _ h => h.elim⟩
  case stepsan2 =>
    rintro i o D ac wz hin hio hnd he ⟨vs, rfl, k0, hF⟩
    rcases i with _ | _ | _ | _ | _ | _ | _ | _ | _ | _ | _ | _ | _ | _ | _ | _ | _ | _ | _ | _ | _ | _ | _ | _ | _ | _ | _ | _ | _ | _ | _ | i
    rotate_left 31
    · exact absurd hin (by omega)
    all_goals (obtain rfl := Option.some.inj (hio.symm.trans (by rfl)))
    · refine step_yes (wanted_of_none rfl _) ?_
      exact wp_of_run (run_ld_pt (.tmp 1) rfl _ _ rfl _ _ ((k0.row A_0.out).cell 0) ((k0.row A_0.out).cell 1)) ⟨upd vs 0 _, rfl, k0, inv_same hF rfl⟩
    · refine step_yes (wanted_of_none rfl _) ?_
      exact wp_of_run (run_ld_pt (.tmp 2) rfl _ _ rfl _ _ ((k0.row B_0.out).cell 0) ((k0.row B_0.out).cell 1)) ⟨upd vs 1 _, rfl, k0, inv_same hF rfl⟩
    · refine step_yes (wanted_of_none rfl _) ?_
      refine wp_of_callE (run_enter2 15 (.tmp 11) (.tmp 12) _ rfl _ _ (by exact (hF 0 (he ⟨0, .data⟩ (by simp) rfl))) (by exact (hF 1 (he ⟨1, .data⟩ (by simp) rfl))) (fun args w => enters_of Try.func15 (by kernel_rfl) rfl args w)) (cal_of (vcross 2 3 4 (-1) wz) (v' := .int .i64 (-14)) (by kernel_rfl)) ?_
      rintro e w' ⟨rfl, hx⟩
      exact ⟨_, rfl, upd vs 2 _, rfl, k0.trans hx, inv_same hF rfl⟩
    · refine step_yes (wanted_of_none rfl _) ?_
      exact wp_of_run (run_eqi (.tmp 13) (.const (.int .i64 (-14))) rfl _ _ (by exact (hF 2 (he ⟨2, .data⟩ (by simp) rfl))) rfl _ (by simp)) ⟨upd vs 3 _, rfl, k0, inv_same hF rfl⟩
    · refine step_yes (wanted_of_none rfl _) ?_
      exact wp_of_run (run_mov (.tmp 14) rfl _ (by exact (hF 3 (he ⟨3, .data⟩ (by simp) rfl)))) ⟨upd vs 4 _, rfl, k0, inv_same hF rfl⟩
    · refine step_yes (wanted_g (j := 4) (d := 15) rfl rfl rfl (hF 4 (he ⟨4, .guard⟩ (by simp) rfl))) ?_
      exact wp_of_run (run_ld_pt (.tmp 1) rfl _ _ rfl _ _ ((k0.row A_0.out).cell 0) ((k0.row A_0.out).cell 1)) ⟨upd vs 5 _, rfl, k0, inv_same hF rfl⟩
    · refine step_yes (wanted_g (j := 4) (d := 15) rfl rfl rfl (hF 4 (he ⟨4, .guard⟩ (by simp) rfl))) ?_
      exact wp_of_run (run_ld_pt (.tmp 2) rfl _ _ rfl _ _ ((k0.row B_0.out).cell 0) ((k0.row B_0.out).cell 1)) ⟨upd vs 6 _, rfl, k0, inv_same hF rfl⟩
    · refine step_yes (wanted_g (j := 4) (d := 15) rfl rfl rfl (hF 4 (he ⟨4, .chain⟩ (by simp) rfl))) ?_
      refine wp_of_callE (run_enter2 17 (.tmp 16) (.tmp 17) _ rfl _ _ (by exact (hF 5 (he ⟨5, .data⟩ (by simp) rfl))) (by exact (hF 6 (he ⟨6, .data⟩ (by simp) rfl))) (fun args w => enters_of Try.func17 (by kernel_rfl) rfl args w)) (cal_of (vdot 2 3 4 (-1) wz) (v' := .int .i64 5) (by kernel_rfl)) ?_
      rintro e w' ⟨rfl, hx⟩
      exact ⟨_, rfl, upd vs 7 _, rfl, k0.trans hx, inv_same hF rfl⟩
    · refine step_yes (wanted_g (j := 4) (d := 15) rfl rfl rfl (hF 4 (he ⟨4, .guard⟩ (by simp) rfl))) ?_
      exact wp_of_run (run_eqi (.tmp 18) (.const (.int .i64 5)) rfl _ _ (by exact (hF 7 (he ⟨7, .data⟩ (by simp) rfl))) rfl _ (by simp)) ⟨upd vs 8 _, rfl, k0, inv_same hF rfl⟩
    · refine step_yes (wanted_of_none rfl _) ?_
      exact wp_of_run (run_pick_t (.tmp 15) (.tmp 19) (.const (.bool false)) rfl (by exact (hF 4 (he ⟨4, .data⟩ (by simp) rfl))) _ (by exact (hF 8 (he ⟨8, .data⟩ (by simp) rfl)))) ⟨upd vs 9 _, rfl, k0, inv_same hF rfl⟩
    · refine step_yes (wanted_of_none rfl _) ?_
      exact wp_of_run (run_mov (.tmp 20) rfl _ (by exact (hF 9 (he ⟨9, .data⟩ (by simp) rfl)))) ⟨upd vs 10 _, rfl, k0, inv_same hF rfl⟩
    · refine step_yes (wanted_g (j := 10) (d := 21) rfl rfl rfl (hF 10 (he ⟨10, .chain⟩ (by simp) rfl))) ?_
      refine wp_of_callE (run_enter2 23 (.const (.int .i64 0)) (.const (.int .i64 0)) _ rfl _ _ rfl rfl (fun args w => enters_of Try.func23 (by kernel_rfl) rfl args w)) (lat 0 0 wz) ?_
      rintro e w' ⟨rfl, hx⟩
      exact ⟨_, rfl, upd vs 11 _, rfl, k0.trans hx, inv_same hF rfl⟩
    · refine step_yes (wanted_g (j := 10) (d := 21) rfl rfl rfl (hF 10 (he ⟨10, .guard⟩ (by simp) rfl))) ?_
      refine wp_of_callE (run_enter2 23 (.const (.int .i64 4)) (.const (.int .i64 0)) _ rfl _ _ rfl rfl (fun args w => enters_of Try.func23 (by kernel_rfl) rfl args w)) (lat 4 0 wz) ?_
      rintro e w' ⟨rfl, hx⟩
      exact ⟨_, rfl, upd vs 12 _, rfl, k0.trans hx, inv_same hF rfl⟩
    · refine step_yes (wanted_g (j := 10) (d := 21) rfl rfl rfl (hF 10 (he ⟨10, .guard⟩ (by simp) rfl))) ?_
      refine wp_of_callE (run_enter2 23 (.const (.int .i64 1)) (.const (.int .i64 2)) _ rfl _ _ rfl rfl (fun args w => enters_of Try.func23 (by kernel_rfl) rfl args w)) (lat 1 2 wz) ?_
      rintro e w' ⟨rfl, hx⟩
      exact ⟨_, rfl, upd vs 13 _, rfl, k0.trans hx, inv_same hF rfl⟩
    · refine step_yes (wanted_g (j := 10) (d := 21) rfl rfl rfl (hF 10 (he ⟨10, .guard⟩ (by simp) rfl))) ?_
      refine wp_of_callE (run_enter3 19 (.tmp 22) (.tmp 23) (.tmp 24) _ rfl _ _ _ (by exact (hF 11 (he ⟨11, .data⟩ (by simp) rfl))) (by exact (hF 12 (he ⟨12, .data⟩ (by simp) rfl))) (by exact (hF 13 (he ⟨13, .data⟩ (by simp) rfl))) (fun args w => enters_of Try.func19 (by kernel_rfl) rfl args w)) (cal_of (vside 0 0 4 0 1 2 wz) (v' := .int .i64 1) (by kernel_rfl)) ?_
      rintro e w' ⟨rfl, hx⟩
      exact ⟨_, rfl, upd vs 14 _, rfl, k0.trans hx, inv_same hF rfl⟩
    · refine step_yes (wanted_g (j := 10) (d := 21) rfl rfl rfl (hF 10 (he ⟨10, .guard⟩ (by simp) rfl))) ?_
      exact wp_of_run (run_eqi (.tmp 25) (.const (.int .i64 1)) rfl _ _ (by exact (hF 14 (he ⟨14, .data⟩ (by simp) rfl))) rfl _ (by simp)) ⟨upd vs 15 _, rfl, k0, inv_same hF rfl⟩
    · refine step_yes (wanted_of_none rfl _) ?_
      exact wp_of_run (run_pick_t (.tmp 21) (.tmp 26) (.const (.bool false)) rfl (by exact (hF 10 (he ⟨10, .data⟩ (by simp) rfl))) _ (by exact (hF 15 (he ⟨15, .data⟩ (by simp) rfl)))) ⟨upd vs 16 _, rfl, k0, inv_same hF rfl⟩
    · refine step_yes (wanted_of_none rfl _) ?_
      exact wp_of_run (run_mov (.tmp 27) rfl _ (by exact (hF 16 (he ⟨16, .data⟩ (by simp) rfl)))) ⟨upd vs 17 _, rfl, k0, inv_same hF rfl⟩
    · refine step_yes (wanted_g (j := 17) (d := 28) rfl rfl rfl (hF 17 (he ⟨17, .chain⟩ (by simp) rfl))) ?_
      refine wp_of_callE (run_enter2 23 (.const (.int .i64 0)) (.const (.int .i64 0)) _ rfl _ _ rfl rfl (fun args w => enters_of Try.func23 (by kernel_rfl) rfl args w)) (lat 0 0 wz) ?_
      rintro e w' ⟨rfl, hx⟩
      exact ⟨_, rfl, upd vs 18 _, rfl, k0.trans hx, inv_same hF rfl⟩
    · refine step_yes (wanted_g (j := 17) (d := 28) rfl rfl rfl (hF 17 (he ⟨17, .guard⟩ (by simp) rfl))) ?_
      refine wp_of_callE (run_enter2 23 (.const (.int .i64 4)) (.const (.int .i64 0)) _ rfl _ _ rfl rfl (fun args w => enters_of Try.func23 (by kernel_rfl) rfl args w)) (lat 4 0 wz) ?_
      rintro e w' ⟨rfl, hx⟩
      exact ⟨_, rfl, upd vs 19 _, rfl, k0.trans hx, inv_same hF rfl⟩
    · refine step_yes (wanted_g (j := 17) (d := 28) rfl rfl rfl (hF 17 (he ⟨17, .guard⟩ (by simp) rfl))) ?_
      refine wp_of_callE (run_enter2 23 (.const (.int .i64 1)) (.const (.int .i64 0)) _ rfl _ _ rfl rfl (fun args w => enters_of Try.func23 (by kernel_rfl) rfl args w)) (lat 1 0 wz) ?_
      rintro e w' ⟨rfl, hx⟩
      exact ⟨_, rfl, upd vs 20 _, rfl, k0.trans hx, inv_same hF rfl⟩
    · refine step_yes (wanted_g (j := 17) (d := 28) rfl rfl rfl (hF 17 (he ⟨17, .guard⟩ (by simp) rfl))) ?_
      refine wp_of_callE (run_enter3 19 (.tmp 29) (.tmp 30) (.tmp 31) _ rfl _ _ _ (by exact (hF 18 (he ⟨18, .data⟩ (by simp) rfl))) (by exact (hF 19 (he ⟨19, .data⟩ (by simp) rfl))) (by exact (hF 20 (he ⟨20, .data⟩ (by simp) rfl))) (fun args w => enters_of Try.func19 (by kernel_rfl) rfl args w)) (cal_of (vside 0 0 4 0 1 0 wz) (v' := .int .i64 0) (by kernel_rfl)) ?_
      rintro e w' ⟨rfl, hx⟩
      exact ⟨_, rfl, upd vs 21 _, rfl, k0.trans hx, inv_same hF rfl⟩
    · refine step_yes (wanted_g (j := 17) (d := 28) rfl rfl rfl (hF 17 (he ⟨17, .guard⟩ (by simp) rfl))) ?_
      exact wp_of_run (run_eqi (.tmp 32) (.const (.int .i64 0)) rfl _ _ (by exact (hF 21 (he ⟨21, .data⟩ (by simp) rfl))) rfl _ (by simp)) ⟨upd vs 22 _, rfl, k0, inv_same hF rfl⟩
    · refine step_yes (wanted_of_none rfl _) ?_
      exact wp_of_run (run_pick_t (.tmp 28) (.tmp 33) (.const (.bool false)) rfl (by exact (hF 17 (he ⟨17, .data⟩ (by simp) rfl))) _ (by exact (hF 22 (he ⟨22, .data⟩ (by simp) rfl)))) ⟨upd vs 23 _, rfl, k0, inv_same hF rfl⟩
    · refine step_yes (wanted_of_none rfl _) ?_
      exact wp_of_run (run_mov (.tmp 34) rfl _ (by exact (hF 23 (he ⟨23, .data⟩ (by simp) rfl)))) ⟨upd vs 24 _, rfl, k0, inv_same hF rfl⟩
    · refine step_yes (wanted_g (j := 24) (d := 35) rfl rfl rfl (hF 24 (he ⟨24, .chain⟩ (by simp) rfl))) ?_
      refine wp_of_callE (run_enter2 23 (.const (.int .i64 0)) (.const (.int .i64 0)) _ rfl _ _ rfl rfl (fun args w => enters_of Try.func23 (by kernel_rfl) rfl args w)) (lat 0 0 wz) ?_
      rintro e w' ⟨rfl, hx⟩
      exact ⟨_, rfl, upd vs 25 _, rfl, k0.trans hx, inv_same hF rfl⟩
    · refine step_yes (wanted_g (j := 24) (d := 35) rfl rfl rfl (hF 24 (he ⟨24, .guard⟩ (by simp) rfl))) ?_
      refine wp_of_callE (run_enter2 23 (.const (.int .i64 4)) (.const (.int .i64 0)) _ rfl _ _ rfl rfl (fun args w => enters_of Try.func23 (by kernel_rfl) rfl args w)) (lat 4 0 wz) ?_
      rintro e w' ⟨rfl, hx⟩
      exact ⟨_, rfl, upd vs 26 _, rfl, k0.trans hx, inv_same hF rfl⟩
    · refine step_yes (wanted_g (j := 24) (d := 35) rfl rfl rfl (hF 24 (he ⟨24, .guard⟩ (by simp) rfl))) ?_
      refine wp_of_callE (run_enter2 23 (.const (.int .i64 1)) (.const (.int .i64 (-5))) _ rfl _ _ rfl rfl (fun args w => enters_of Try.func23 (by kernel_rfl) rfl args w)) (lat 1 (-5) wz) ?_
      rintro e w' ⟨rfl, hx⟩
      exact ⟨_, rfl, upd vs 27 _, rfl, k0.trans hx, inv_same hF rfl⟩
    · refine step_yes (wanted_g (j := 24) (d := 35) rfl rfl rfl (hF 24 (he ⟨24, .guard⟩ (by simp) rfl))) ?_
      refine wp_of_callE (run_enter3 19 (.tmp 36) (.tmp 37) (.tmp 38) _ rfl _ _ _ (by exact (hF 25 (he ⟨25, .data⟩ (by simp) rfl))) (by exact (hF 26 (he ⟨26, .data⟩ (by simp) rfl))) (by exact (hF 27 (he ⟨27, .data⟩ (by simp) rfl))) (fun args w => enters_of Try.func19 (by kernel_rfl) rfl args w)) (cal_of (vside 0 0 4 0 1 (-5) wz) (v' := .int .i64 (-1)) (by kernel_rfl)) ?_
      rintro e w' ⟨rfl, hx⟩
      exact ⟨_, rfl, upd vs 28 _, rfl, k0.trans hx, inv_same hF rfl⟩
    · refine step_yes (wanted_g (j := 24) (d := 35) rfl rfl rfl (hF 24 (he ⟨24, .guard⟩ (by simp) rfl))) ?_
      exact wp_of_run (run_eqi (.tmp 39) (.const (.int .i64 (-1))) rfl _ _ (by exact (hF 28 (he ⟨28, .data⟩ (by simp) rfl))) rfl _ (by simp)) ⟨upd vs 29 _, rfl, k0, inv_same hF rfl⟩
    · refine step_yes (wanted_of_none rfl _) ?_
      exact wp_of_run (run_pick_t (.tmp 35) (.tmp 40) (.const (.bool false)) rfl (by exact (hF 24 (he ⟨24, .data⟩ (by simp) rfl))) _ (by exact (hF 29 (he ⟨29, .data⟩ (by simp) rfl)))) ⟨upd vs 30 _, rfl, k0, inv_same hF rfl⟩
  case finsan2 =>
    rintro D ac wf2 hD ⟨vs, rfl, k0, hF⟩
    change wpList _ _ _ [_] _ _
    have hl : vs 30 = .bool true := hF 30 (hD 30 (by decide))
    rw [hl]
    clear hF hD hl
    generalize vs = tv2
    have E4 := Lib.hid (E3.out.trans k0)
    have A_4 := Lib.hid (k0.row A_0.out)
    have B_4 := Lib.hid (k0.row B_0.out)
    clear E3 A_0 B_0
    clear k0
    go_upto_region 3 with (fail)
    refine wp_region_seq (fun D ac w' => ∃ vs : Nat → Value, ac = { tmps := #[Value.bool false, Value.pointer (some { block := w2.heap.size, off := 0 }), Value.pointer (some { block := w2.heap.size + 1, off := 0 }), Value.bool true, undef, undef, undef, undef, undef, Value.agg #[Value.int IntKind.i64 2, Value.int IntKind.i64 3], Value.agg #[Value.int IntKind.i64 4, Value.int IntKind.i64 (-1)], tv2 0, tv2 1, tv2 2, tv2 3, tv2 4, tv2 5, tv2 6, tv2 7, tv2 8, tv2 9, tv2 10, tv2 11, tv2 12, tv2 13, tv2 14, tv2 15, tv2 16, tv2 17, tv2 18, tv2 19, tv2 20, tv2 21, tv2 22, tv2 23, tv2 24, tv2 25, tv2 26, tv2 27, tv2 28, tv2 29, Value.bool true, vs 0, vs 1, vs 2, vs 3, vs 4, vs 5, vs 6, vs 7, vs 8, vs 9, vs 10, vs 11, vs 12, vs 13, vs 14, vs 15, vs 16, vs 17, vs 18, vs 19, vs 20, vs 21, vs 22, vs 23, vs 24, vs 25, undef, undef, undef, undef, undef, undef, undef, undef, undef, undef, undef, undef, undef, undef, undef, undef, undef, undef, undef, undef, undef, undef, undef, undef, undef, undef, undef, undef, undef, undef, undef, undef, undef, undef, undef, undef, undef, undef, undef, undef, undef, undef, undef, undef, undef, undef, undef, undef, undef, undef, undef, undef, undef, undef, undef, undef, undef, undef, undef, undef, undef, undef, undef, undef, undef, undef, undef, undef], defers := [] } ∧ Ext wf2 w' ∧ ∀ j, D j → sanF3 w w1 w2 W2 wf2 tv2 j (vs j)) 26 (by kernel_rfl) (by kernel_rfl) ?startsan3 ?stepsan3 ?finsan3
    case startsan3 => exact ⟨fun _ => undef, rfl, Ext.refl _, fun _ h => h.elim⟩
    case stepsan3 =>
      rintro i o D ac wz hin hio hnd he ⟨vs, rfl, k0, hF⟩
      rcases i with _ | _ | _ | _ | _ | _ | _ | _ | _ | _ | _ | _ | _ | _ | _ | _ | _ | _ | _ | _ | _ | _ | _ | _ | _ | _ | i
      rotate_left 26
      · exact absurd hin (by omega)
      all_goals (obtain rfl := Option.some.inj (hio.symm.trans (by rfl)))
      · refine step_yes (wanted_of_none rfl _) ?_
        refine wp_of_callE (run_enter2 23 (.const (.int .i64 1)) (.const (.int .i64 1)) _ rfl _ _ rfl rfl (fun args w => enters_of Try.func23 (by kernel_rfl) rfl args w)) (lat 1 1 wz) ?_
        rintro e w' ⟨rfl, hx⟩
        exact ⟨_, rfl, upd vs 0 _, rfl, k0.trans hx, inv_same hF rfl⟩
      · refine step_yes (wanted_of_none rfl _) ?_
        refine wp_of_callE (run_enter2 23 (.const (.int .i64 1)) (.const (.int .i64 0)) _ rfl _ _ rfl rfl (fun args w => enters_of Try.func23 (by kernel_rfl) rfl args w)) (lat 1 0 wz) ?_
        rintro e w' ⟨rfl, hx⟩
        exact ⟨_, rfl, upd vs 1 _, rfl, k0.trans hx, inv_same hF rfl⟩
      · refine step_yes (wanted_of_none rfl _) ?_
        refine wp_of_callE (run_enter2 23 (.const (.int .i64 0)) (.const (.int .i64 1)) _ rfl _ _ rfl rfl (fun args w => enters_of Try.func23 (by kernel_rfl) rfl args w)) (lat 0 1 wz) ?_
        rintro e w' ⟨rfl, hx⟩
        exact ⟨_, rfl, upd vs 2 _, rfl, k0.trans hx, inv_same hF rfl⟩
      · refine step_yes (wanted_of_none rfl _) ?_
        refine wp_of_callE (run_enter3 21 (.tmp 42) (.tmp 43) (.tmp 44) _ rfl _ _ _ (by exact (hF 0 (he ⟨0, .data⟩ (by simp) rfl))) (by exact (hF 1 (he ⟨1, .data⟩ (by simp) rfl))) (by exact (hF 2 (he ⟨2, .data⟩ (by simp) rfl))) (fun args w => enters_of Try.func21 (by kernel_rfl) rfl args w)) (cal_of (vwithin 1 1 1 0 0 1 wz) (v' := .bool true) (by kernel_rfl)) ?_
        rintro e w' ⟨rfl, hx⟩
        exact ⟨_, rfl, upd vs 3 _, rfl, k0.trans hx, inv_same hF rfl⟩
      · refine step_yes (wanted_of_none rfl _) ?_
        exact wp_of_run (run_mov (.tmp 45) rfl _ (by exact (hF 3 (he ⟨3, .data⟩ (by simp) rfl)))) ⟨upd vs 4 _, rfl, k0, inv_same hF rfl⟩
      · refine step_yes (wanted_g (j := 4) (d := 46) rfl rfl rfl (hF 4 (he ⟨4, .chain⟩ (by simp) rfl))) ?_
        refine wp_of_callE (run_enter2 23 (.const (.int .i64 (-1))) (.const (.int .i64 1)) _ rfl _ _ rfl rfl (fun args w => enters_of Try.func23 (by kernel_rfl) rfl args w)) (lat (-1) 1 wz) ?_
        rintro e w' ⟨rfl, hx⟩
        exact ⟨_, rfl, upd vs 5 _, rfl, k0.trans hx, inv_same hF rfl⟩
      · refine step_yes (wanted_g (j := 4) (d := 46) rfl rfl rfl (hF 4 (he ⟨4, .guard⟩ (by simp) rfl))) ?_
        refine wp_of_callE (run_enter2 23 (.const (.int .i64 1)) (.const (.int .i64 0)) _ rfl _ _ rfl rfl (fun args w => enters_of Try.func23 (by kernel_rfl) rfl args w)) (lat 1 0 wz) ?_
        rintro e w' ⟨rfl, hx⟩
        exact ⟨_, rfl, upd vs 6 _, rfl, k0.trans hx, inv_same hF rfl⟩
      · refine step_yes (wanted_g (j := 4) (d := 46) rfl rfl rfl (hF 4 (he ⟨4, .guard⟩ (by simp) rfl))) ?_
        refine wp_of_callE (run_enter2 23 (.const (.int .i64 0)) (.const (.int .i64 1)) _ rfl _ _ rfl rfl (fun args w => enters_of Try.func23 (by kernel_rfl) rfl args w)) (lat 0 1 wz) ?_
        rintro e w' ⟨rfl, hx⟩
        exact ⟨_, rfl, upd vs 7 _, rfl, k0.trans hx, inv_same hF rfl⟩
      · refine step_yes (wanted_g (j := 4) (d := 46) rfl rfl rfl (hF 4 (he ⟨4, .guard⟩ (by simp) rfl))) ?_
        refine wp_of_callE (run_enter3 21 (.tmp 47) (.tmp 48) (.tmp 49) _ rfl _ _ _ (by exact (hF 5 (he ⟨5, .data⟩ (by simp) rfl))) (by exact (hF 6 (he ⟨6, .data⟩ (by simp) rfl))) (by exact (hF 7 (he ⟨7, .data⟩ (by simp) rfl))) (fun args w => enters_of Try.func21 (by kernel_rfl) rfl args w)) (cal_of (vwithin (-1) 1 1 0 0 1 wz) (v' := .bool false) (by kernel_rfl)) ?_
        rintro e w' ⟨rfl, hx⟩
        exact ⟨_, rfl, upd vs 8 _, rfl, k0.trans hx, inv_same hF rfl⟩
      · refine step_yes (wanted_g (j := 4) (d := 46) rfl rfl rfl (hF 4 (he ⟨4, .guard⟩ (by simp) rfl))) ?_
        exact wp_of_run (run_notb (.tmp 50) rfl false (by exact (hF 8 (he ⟨8, .data⟩ (by simp) rfl)))) ⟨upd vs 9 _, rfl, k0, inv_same hF rfl⟩
      · refine step_yes (wanted_of_none rfl _) ?_
        exact wp_of_run (run_pick_t (.tmp 46) (.tmp 51) (.const (.bool false)) rfl (by exact (hF 4 (he ⟨4, .data⟩ (by simp) rfl))) _ (by exact (hF 9 (he ⟨9, .data⟩ (by simp) rfl)))) ⟨upd vs 10 _, rfl, k0, inv_same hF rfl⟩
      · refine step_yes (wanted_of_none rfl _) ?_
        exact wp_of_run (run_mov (.tmp 52) rfl _ (by exact (hF 10 (he ⟨10, .data⟩ (by simp) rfl)))) ⟨upd vs 11 _, rfl, k0, inv_same hF rfl⟩
      · refine step_yes (wanted_g (j := 11) (d := 53) rfl rfl rfl (hF 11 (he ⟨11, .chain⟩ (by simp) rfl))) ?_
        refine wp_of_callE (run_enter2 23 (.const (.int .i64 0)) (.const (.int .i64 0)) _ rfl _ _ rfl rfl (fun args w => enters_of Try.func23 (by kernel_rfl) rfl args w)) (lat 0 0 wz) ?_
        rintro e w' ⟨rfl, hx⟩
        exact ⟨_, rfl, upd vs 12 _, rfl, k0.trans hx, inv_same hF rfl⟩
      · refine step_yes (wanted_g (j := 11) (d := 53) rfl rfl rfl (hF 11 (he ⟨11, .guard⟩ (by simp) rfl))) ?_
        refine wp_of_callE (run_enter2 23 (.const (.int .i64 1)) (.const (.int .i64 0)) _ rfl _ _ rfl rfl (fun args w => enters_of Try.func23 (by kernel_rfl) rfl args w)) (lat 1 0 wz) ?_
        rintro e w' ⟨rfl, hx⟩
        exact ⟨_, rfl, upd vs 13 _, rfl, k0.trans hx, inv_same hF rfl⟩
      · refine step_yes (wanted_g (j := 11) (d := 53) rfl rfl rfl (hF 11 (he ⟨11, .guard⟩ (by simp) rfl))) ?_
        refine wp_of_callE (run_enter2 23 (.const (.int .i64 0)) (.const (.int .i64 1)) _ rfl _ _ rfl rfl (fun args w => enters_of Try.func23 (by kernel_rfl) rfl args w)) (lat 0 1 wz) ?_
        rintro e w' ⟨rfl, hx⟩
        exact ⟨_, rfl, upd vs 14 _, rfl, k0.trans hx, inv_same hF rfl⟩
      · refine step_yes (wanted_g (j := 11) (d := 53) rfl rfl rfl (hF 11 (he ⟨11, .guard⟩ (by simp) rfl))) ?_
        refine wp_of_callE (run_enter3 21 (.tmp 54) (.tmp 55) (.tmp 56) _ rfl _ _ _ (by exact (hF 12 (he ⟨12, .data⟩ (by simp) rfl))) (by exact (hF 13 (he ⟨13, .data⟩ (by simp) rfl))) (by exact (hF 14 (he ⟨14, .data⟩ (by simp) rfl))) (fun args w => enters_of Try.func21 (by kernel_rfl) rfl args w)) (cal_of (vwithin 0 0 1 0 0 1 wz) (v' := .bool true) (by kernel_rfl)) ?_
        rintro e w' ⟨rfl, hx⟩
        exact ⟨_, rfl, upd vs 15 _, rfl, k0.trans hx, inv_same hF rfl⟩
      · refine step_yes (wanted_of_none rfl _) ?_
        exact wp_of_run (run_pick_t (.tmp 53) (.tmp 57) (.const (.bool false)) rfl (by exact (hF 11 (he ⟨11, .data⟩ (by simp) rfl))) _ (by exact (hF 15 (he ⟨15, .data⟩ (by simp) rfl)))) ⟨upd vs 16 _, rfl, k0, inv_same hF rfl⟩
      · refine step_yes (wanted_of_none rfl _) ?_
        exact wp_of_run (run_mov (.tmp 58) rfl _ (by exact (hF 16 (he ⟨16, .data⟩ (by simp) rfl)))) ⟨upd vs 17 _, rfl, k0, inv_same hF rfl⟩
      · refine step_yes (wanted_g (j := 17) (d := 59) rfl rfl rfl (hF 17 (he ⟨17, .chain⟩ (by simp) rfl))) ?_
        refine wp_of_callE (run_enter2 23 (.const (.int .i64 67108864)) (.const (.int .i64 (-67108864))) _ rfl _ _ rfl rfl (fun args w => enters_of Try.func23 (by kernel_rfl) rfl args w)) (lat 67108864 (-67108864) wz) ?_
        rintro e w' ⟨rfl, hx⟩
        exact ⟨_, rfl, upd vs 18 _, rfl, k0.trans hx, inv_same hF rfl⟩
      · refine step_yes (wanted_g (j := 17) (d := 59) rfl rfl rfl (hF 17 (he ⟨17, .guard⟩ (by simp) rfl))) ?_
        refine wp_of_callE (run_enter1 9 (.tmp 60) _ rfl _ (by exact (hF 18 (he ⟨18, .data⟩ (by simp) rfl))) (fun args w => enters_of Try.func9 (by kernel_rfl) rfl args w)) (cal_of (vright 67108864 (-67108864) wz) (v' := .bool true) (by kernel_rfl)) ?_
        rintro e w' ⟨rfl, hx⟩
        exact ⟨_, rfl, upd vs 19 _, rfl, k0.trans hx, inv_same hF rfl⟩
      · refine step_yes (wanted_of_none rfl _) ?_
        exact wp_of_run (run_pick_t (.tmp 59) (.tmp 61) (.const (.bool false)) rfl (by exact (hF 17 (he ⟨17, .data⟩ (by simp) rfl))) _ (by exact (hF 19 (he ⟨19, .data⟩ (by simp) rfl)))) ⟨upd vs 20 _, rfl, k0, inv_same hF rfl⟩
      · refine step_yes (wanted_of_none rfl _) ?_
        exact wp_of_run (run_mov (.tmp 62) rfl _ (by exact (hF 20 (he ⟨20, .data⟩ (by simp) rfl)))) ⟨upd vs 21 _, rfl, k0, inv_same hF rfl⟩
      · refine step_yes (wanted_g (j := 21) (d := 63) rfl rfl rfl (hF 21 (he ⟨21, .chain⟩ (by simp) rfl))) ?_
        refine wp_of_callE (run_enter2 23 (.const (.int .i64 0)) (.const (.int .i64 67108865)) _ rfl _ _ rfl rfl (fun args w => enters_of Try.func23 (by kernel_rfl) rfl args w)) (lat 0 67108865 wz) ?_
        rintro e w' ⟨rfl, hx⟩
        exact ⟨_, rfl, upd vs 22 _, rfl, k0.trans hx, inv_same hF rfl⟩
      · refine step_yes (wanted_g (j := 21) (d := 63) rfl rfl rfl (hF 21 (he ⟨21, .guard⟩ (by simp) rfl))) ?_
        refine wp_of_callE (run_enter1 9 (.tmp 64) _ rfl _ (by exact (hF 22 (he ⟨22, .data⟩ (by simp) rfl))) (fun args w => enters_of Try.func9 (by kernel_rfl) rfl args w)) (cal_of (vright 0 67108865 wz) (v' := .bool false) (by kernel_rfl)) ?_
        rintro e w' ⟨rfl, hx⟩
        exact ⟨_, rfl, upd vs 23 _, rfl, k0.trans hx, inv_same hF rfl⟩
      · refine step_yes (wanted_g (j := 21) (d := 63) rfl rfl rfl (hF 21 (he ⟨21, .guard⟩ (by simp) rfl))) ?_
        exact wp_of_run (run_notb (.tmp 65) rfl false (by exact (hF 23 (he ⟨23, .data⟩ (by simp) rfl)))) ⟨upd vs 24 _, rfl, k0, inv_same hF rfl⟩
      · refine step_yes (wanted_of_none rfl _) ?_
        exact wp_of_run (run_pick_t (.tmp 63) (.tmp 66) (.const (.bool false)) rfl (by exact (hF 21 (he ⟨21, .data⟩ (by simp) rfl))) _ (by exact (hF 24 (he ⟨24, .data⟩ (by simp) rfl)))) ⟨upd vs 25 _, rfl, k0, inv_same hF rfl⟩
    case finsan3 =>
      rintro D ac wf3 hD ⟨vs, rfl, k0, hF⟩
      change wpList _ _ _ [_] _ _
      have hl : vs 25 = .bool true := hF 25 (hD 25 (by decide))
      rw [hl]
      clear hF hD hl
      generalize vs = tv3
      have E5 := Lib.hid (E4.out.trans k0)
      have A_5 := Lib.hid (k0.row A_4.out)
      have B_5 := Lib.hid (k0.row B_4.out)
      clear E4 A_4 B_4
      clear k0
      go_wp2_with fail
      refine (lat 10 20 _).mono ?_; rintro e w4 ⟨rfl, hx⟩
      have E6 := Lib.hid (E5.out.trans hx)
      have A_6 := Lib.hid (hx.row A_5.out)
      have B_6 := Lib.hid (hx.row B_5.out)
      clear E5 A_5 B_5
      clear hx
      go_wp2_with fail
      obtain ⟨W4, hW4⟩ : ∃ W4, W4 = w4.alloc (.cells #[.int .i64 10, .int .i64 20, .int .i64 1, .bool false] 34) := ⟨_, rfl⟩
      have hx : Ext w4 W4 := by rw [hW4]; exact Ext.alloc _ _
      have C_0 := Lib.hid (show RowAt W4 w4.heap.size 34 _ from by rw [hW4]; exact RowAt.new _ _ _)
      have E7 := Lib.hid (E6.out.trans hx)
      have A_7 := Lib.hid (hx.row A_6.out)
      have B_7 := Lib.hid (hx.row B_6.out)
      clear E6 A_6 B_6
      clear hx
      rw [← hW4]
      clear hW4
      go_wp2_with fail
      refine (lat 10 20 _).mono ?_; rintro e w5 ⟨rfl, hx⟩
      have E8 := Lib.hid (E7.out.trans hx)
      have A_8 := Lib.hid (hx.row A_7.out)
      have B_8 := Lib.hid (hx.row B_7.out)
      have C_8 := Lib.hid (hx.row C_0.out)
      clear E7 A_7 B_7 C_0
      clear hx
      go_wp2_with fail
      obtain ⟨W5, hW5⟩ : ∃ W5, W5 = w5.alloc (.cells #[.int .i64 10, .int .i64 20, .int .i64 1, .bool true] 34) := ⟨_, rfl⟩
      have hx : Ext w5 W5 := by rw [hW5]; exact Ext.alloc _ _
      have D_0 := Lib.hid (show RowAt W5 w5.heap.size 34 _ from by rw [hW5]; exact RowAt.new _ _ _)
      have E9 := Lib.hid (E8.out.trans hx)
      have A_9 := Lib.hid (hx.row A_8.out)
      have B_9 := Lib.hid (hx.row B_8.out)
      have C_9 := Lib.hid (hx.row C_8.out)
      clear E8 A_8 B_8 C_8
      clear hx
      rw [← hW5]
      clear hW5
      go_wp2_with fail
      refine wp_region_tail (fun D ac w' => ∃ vs : Nat → Value, ac = { tmps := #[Value.bool false, Value.pointer (some { block := w2.heap.size, off := 0 }), Value.pointer (some { block := w2.heap.size + 1, off := 0 }), Value.bool true, Value.bool true, Value.pointer (some { block := w4.heap.size, off := 0 }), Value.pointer (some { block := w5.heap.size, off := 0 }), undef, undef, Value.agg #[Value.int IntKind.i64 2, Value.int IntKind.i64 3], Value.agg #[Value.int IntKind.i64 4, Value.int IntKind.i64 (-1)], tv2 0, tv2 1, tv2 2, tv2 3, tv2 4, tv2 5, tv2 6, tv2 7, tv2 8, tv2 9, tv2 10, tv2 11, tv2 12, tv2 13, tv2 14, tv2 15, tv2 16, tv2 17, tv2 18, tv2 19, tv2 20, tv2 21, tv2 22, tv2 23, tv2 24, tv2 25, tv2 26, tv2 27, tv2 28, tv2 29, Value.bool true, tv3 0, tv3 1, tv3 2, tv3 3, tv3 4, tv3 5, tv3 6, tv3 7, tv3 8, tv3 9, tv3 10, tv3 11, tv3 12, tv3 13, tv3 14, tv3 15, tv3 16, tv3 17, tv3 18, tv3 19, tv3 20, tv3 21, tv3 22, tv3 23, tv3 24, Value.bool true, Value.agg #[Value.int IntKind.i64 10, Value.int IntKind.i64 20], Value.agg #[Value.int IntKind.i64 10, Value.int IntKind.i64 20, Value.int IntKind.i64 1, Value.bool false], Value.agg #[Value.int IntKind.i64 10, Value.int IntKind.i64 20], Value.agg #[Value.int IntKind.i64 10, Value.int IntKind.i64 20, Value.int IntKind.i64 1, Value.bool true], vs 0, vs 1, vs 2, vs 3, vs 4, vs 5, vs 6, vs 7, vs 8, vs 9, vs 10, vs 11, vs 12, vs 13, vs 14, vs 15, vs 16, vs 17, vs 18, undef, undef, undef, undef, undef, undef, undef, undef, undef, undef, undef, undef, undef, undef, undef, undef, undef, undef, undef, undef, undef, undef, undef, undef, undef, undef, undef, undef, undef, undef, undef, undef, undef, undef, undef, undef, undef, undef, undef, undef, undef, undef, undef, undef, undef], defers := [] } ∧ Ext W5 w' ∧ ∀ j, D j → sanF6 w w1 w2 W2 wf2 tv2 wf3 tv3 w4 W4 w5 W5 j (vs j)) 19 (by kernel_rfl) (by kernel_rfl) (by kernel_rfl) ?startsan6 ?stepsan6 ?finsan6
      case startsan6 => exact ⟨fun _ => undef, rfl, Ext.drew _, fun _ h => h.elim⟩
      case stepsan6 =>
        rintro i o D ac wz hin hio hnd he ⟨vs, rfl, k0, hF⟩
        rcases i with _ | _ | _ | _ | _ | _ | _ | _ | _ | _ | _ | _ | _ | _ | _ | _ | _ | _ | _ | i
        rotate_left 19
        · exact absurd hin (by omega)
        all_goals (obtain rfl := Option.some.inj (hio.symm.trans (by rfl)))
        · refine step_yes (wanted_of_none rfl _) ?_
          exact wp_of_run (run_ld_mo (.tmp 5) rfl _ _ rfl _ _ _ _ ((k0.row C_9.out).cell 0) ((k0.row C_9.out).cell 1) ((k0.row C_9.out).cell 2) ((k0.row C_9.out).cell 3)) ⟨upd vs 0 _, rfl, k0, inv_same hF rfl⟩
        · refine step_yes (wanted_of_none rfl _) ?_
          refine wp_of_callE (run_enter2 23 (.const (.int .i64 3)) (.const (.int .i64 4)) _ rfl _ _ rfl rfl (fun args w => enters_of Try.func23 (by kernel_rfl) rfl args w)) (lat 3 4 wz) ?_
          rintro e w' ⟨rfl, hx⟩
          exact ⟨_, rfl, upd vs 1 _, rfl, k0.trans hx, inv_same hF rfl⟩
        · refine step_yes (wanted_of_none rfl _) ?_
          refine wp_of_callE (run_enter2 24 (.tmp 72) (.tmp 73) _ rfl _ _ (by exact (hF 0 (he ⟨0, .data⟩ (by simp) rfl))) (by exact (hF 1 (he ⟨1, .data⟩ (by simp) rfl))) (fun args w => enters_of Try.func24 (by kernel_rfl) rfl args w)) (cal_of (vapply 10 20 1 false 3 4 wz) (v' := .agg #[.int .i64 6, .int .i64 23]) (by kernel_rfl)) ?_
          rintro e w' ⟨rfl, hx⟩
          exact ⟨_, rfl, upd vs 2 _, rfl, k0.trans hx, inv_same hF rfl⟩
        · refine step_yes (wanted_of_none rfl _) ?_
          refine wp_of_callE (run_enter2 23 (.const (.int .i64 6)) (.const (.int .i64 23)) _ rfl _ _ rfl rfl (fun args w => enters_of Try.func23 (by kernel_rfl) rfl args w)) (lat 6 23 wz) ?_
          rintro e w' ⟨rfl, hx⟩
          exact ⟨_, rfl, upd vs 3 _, rfl, k0.trans hx, inv_same hF rfl⟩
        · refine step_yes (wanted_of_none rfl _) ?_
          exact wp_of_run (run_eq_pt (.tmp 74) (.tmp 75) rfl _ _ _ _ (by exact (hF 2 (he ⟨2, .data⟩ (by simp) rfl))) (by exact (hF 3 (he ⟨3, .data⟩ (by simp) rfl))) _ (by simp)) ⟨upd vs 4 _, rfl, k0, inv_same hF rfl⟩
        · refine step_yes (wanted_of_none rfl _) ?_
          exact wp_of_run (run_mov (.tmp 76) rfl _ (by exact (hF 4 (he ⟨4, .data⟩ (by simp) rfl)))) ⟨upd vs 5 _, rfl, k0, inv_same hF rfl⟩
        · refine step_yes (wanted_g (j := 5) (d := 77) rfl rfl rfl (hF 5 (he ⟨5, .guard⟩ (by simp) rfl))) ?_
          exact wp_of_run (run_build_mob (.const (.bool true)) rfl _ rfl) ⟨upd vs 6 _, rfl, k0, inv_same hF rfl⟩
        · refine step_yes (wanted_g (j := 5) (d := 77) rfl rfl rfl (hF 5 (he ⟨5, .chain⟩ (by simp) rfl))) ?_
          refine wp_of_callE (run_enter2 23 (.const (.int .i64 3)) (.const (.int .i64 4)) _ rfl _ _ rfl rfl (fun args w => enters_of Try.func23 (by kernel_rfl) rfl args w)) (lat 3 4 wz) ?_
          rintro e w' ⟨rfl, hx⟩
          exact ⟨_, rfl, upd vs 7 _, rfl, k0.trans hx, inv_same hF rfl⟩
        · refine step_yes (wanted_g (j := 5) (d := 77) rfl rfl rfl (hF 5 (he ⟨5, .guard⟩ (by simp) rfl))) ?_
          refine wp_of_callE (run_enter2 24 (.tmp 78) (.tmp 79) _ rfl _ _ (by exact (hF 6 (he ⟨6, .data⟩ (by simp) rfl))) (by exact (hF 7 (he ⟨7, .data⟩ (by simp) rfl))) (fun args w => enters_of Try.func24 (by kernel_rfl) rfl args w)) (cal_of (vapply 0 0 0 true 3 4 wz) (v' := .agg #[.int .i64 (-3), .int .i64 4]) (by kernel_rfl)) ?_
          rintro e w' ⟨rfl, hx⟩
          exact ⟨_, rfl, upd vs 8 _, rfl, k0.trans hx, inv_same hF rfl⟩
        · refine step_yes (wanted_g (j := 5) (d := 77) rfl rfl rfl (hF 5 (he ⟨5, .guard⟩ (by simp) rfl))) ?_
          refine wp_of_callE (run_enter2 23 (.const (.int .i64 (-3))) (.const (.int .i64 4)) _ rfl _ _ rfl rfl (fun args w => enters_of Try.func23 (by kernel_rfl) rfl args w)) (lat (-3) 4 wz) ?_
          rintro e w' ⟨rfl, hx⟩
          exact ⟨_, rfl, upd vs 9 _, rfl, k0.trans hx, inv_same hF rfl⟩
        · refine step_yes (wanted_g (j := 5) (d := 77) rfl rfl rfl (hF 5 (he ⟨5, .guard⟩ (by simp) rfl))) ?_
          exact wp_of_run (run_eq_pt (.tmp 80) (.tmp 81) rfl _ _ _ _ (by exact (hF 8 (he ⟨8, .data⟩ (by simp) rfl))) (by exact (hF 9 (he ⟨9, .data⟩ (by simp) rfl))) _ (by simp)) ⟨upd vs 10 _, rfl, k0, inv_same hF rfl⟩
        · refine step_yes (wanted_of_none rfl _) ?_
          exact wp_of_run (run_pick_t (.tmp 77) (.tmp 82) (.const (.bool false)) rfl (by exact (hF 5 (he ⟨5, .data⟩ (by simp) rfl))) _ (by exact (hF 10 (he ⟨10, .data⟩ (by simp) rfl)))) ⟨upd vs 11 _, rfl, k0, inv_same hF rfl⟩
        · refine step_yes (wanted_of_none rfl _) ?_
          exact wp_of_run (run_mov (.tmp 83) rfl _ (by exact (hF 11 (he ⟨11, .data⟩ (by simp) rfl)))) ⟨upd vs 12 _, rfl, k0, inv_same hF rfl⟩
        · refine step_yes (wanted_g (j := 12) (d := 84) rfl rfl rfl (hF 12 (he ⟨12, .guard⟩ (by simp) rfl))) ?_
          exact wp_of_run (run_ld_mo (.tmp 6) rfl _ _ rfl _ _ _ _ ((k0.row D_0.out).cell 0) ((k0.row D_0.out).cell 1) ((k0.row D_0.out).cell 2) ((k0.row D_0.out).cell 3)) ⟨upd vs 13 _, rfl, k0, inv_same hF rfl⟩
        · refine step_yes (wanted_g (j := 12) (d := 84) rfl rfl rfl (hF 12 (he ⟨12, .chain⟩ (by simp) rfl))) ?_
          refine wp_of_callE (run_enter2 23 (.const (.int .i64 3)) (.const (.int .i64 4)) _ rfl _ _ rfl rfl (fun args w => enters_of Try.func23 (by kernel_rfl) rfl args w)) (lat 3 4 wz) ?_
          rintro e w' ⟨rfl, hx⟩
          exact ⟨_, rfl, upd vs 14 _, rfl, k0.trans hx, inv_same hF rfl⟩
        · refine step_yes (wanted_g (j := 12) (d := 84) rfl rfl rfl (hF 12 (he ⟨12, .guard⟩ (by simp) rfl))) ?_
          refine wp_of_callE (run_enter2 24 (.tmp 85) (.tmp 86) _ rfl _ _ (by exact (hF 13 (he ⟨13, .data⟩ (by simp) rfl))) (by exact (hF 14 (he ⟨14, .data⟩ (by simp) rfl))) (fun args w => enters_of Try.func24 (by kernel_rfl) rfl args w)) (cal_of (vapply 10 20 1 true 3 4 wz) (v' := .agg #[.int .i64 6, .int .i64 17]) (by kernel_rfl)) ?_
          rintro e w' ⟨rfl, hx⟩
          exact ⟨_, rfl, upd vs 15 _, rfl, k0.trans hx, inv_same hF rfl⟩
        · refine step_yes (wanted_g (j := 12) (d := 84) rfl rfl rfl (hF 12 (he ⟨12, .guard⟩ (by simp) rfl))) ?_
          refine wp_of_callE (run_enter2 23 (.const (.int .i64 6)) (.const (.int .i64 17)) _ rfl _ _ rfl rfl (fun args w => enters_of Try.func23 (by kernel_rfl) rfl args w)) (lat 6 17 wz) ?_
          rintro e w' ⟨rfl, hx⟩
          exact ⟨_, rfl, upd vs 16 _, rfl, k0.trans hx, inv_same hF rfl⟩
        · refine step_yes (wanted_g (j := 12) (d := 84) rfl rfl rfl (hF 12 (he ⟨12, .guard⟩ (by simp) rfl))) ?_
          exact wp_of_run (run_eq_pt (.tmp 87) (.tmp 88) rfl _ _ _ _ (by exact (hF 15 (he ⟨15, .data⟩ (by simp) rfl))) (by exact (hF 16 (he ⟨16, .data⟩ (by simp) rfl))) _ (by simp)) ⟨upd vs 17 _, rfl, k0, inv_same hF rfl⟩
        · refine step_yes (wanted_of_none rfl _) ?_
          exact wp_of_run (run_pick_t (.tmp 84) (.tmp 89) (.const (.bool false)) rfl (by exact (hF 12 (he ⟨12, .data⟩ (by simp) rfl))) _ (by exact (hF 17 (he ⟨17, .data⟩ (by simp) rfl)))) ⟨upd vs 18 _, rfl, k0, inv_same hF rfl⟩
      case finsan6 =>
        rintro D ac wf6 hD ⟨vs, rfl, k0, hF⟩
        change wpList _ _ _ [_] _ _
        have hl : vs 18 = .bool true := hF 18 (hD 18 (by decide))
        rw [hl]
        clear hF hD hl
        generalize vs = tv6
        have E10 := Lib.hid (E9.out.trans k0)
        have A_10 := Lib.hid (k0.row A_9.out)
        have B_10 := Lib.hid (k0.row B_9.out)
        have C_10 := Lib.hid (k0.row C_9.out)
        have D_10 := Lib.hid (k0.row D_0.out)
        clear E9 A_9 B_9 C_9 D_0
        clear k0
        go_wp2_with fail
        refine wp_region_tail (fun D ac w' => ∃ vs : Nat → Value, ac = { tmps := #[Value.bool false, Value.pointer (some { block := w2.heap.size, off := 0 }), Value.pointer (some { block := w2.heap.size + 1, off := 0 }), Value.bool true, Value.bool true, Value.pointer (some { block := w4.heap.size, off := 0 }), Value.pointer (some { block := w5.heap.size, off := 0 }), Value.bool true, undef, Value.agg #[Value.int IntKind.i64 2, Value.int IntKind.i64 3], Value.agg #[Value.int IntKind.i64 4, Value.int IntKind.i64 (-1)], tv2 0, tv2 1, tv2 2, tv2 3, tv2 4, tv2 5, tv2 6, tv2 7, tv2 8, tv2 9, tv2 10, tv2 11, tv2 12, tv2 13, tv2 14, tv2 15, tv2 16, tv2 17, tv2 18, tv2 19, tv2 20, tv2 21, tv2 22, tv2 23, tv2 24, tv2 25, tv2 26, tv2 27, tv2 28, tv2 29, Value.bool true, tv3 0, tv3 1, tv3 2, tv3 3, tv3 4, tv3 5, tv3 6, tv3 7, tv3 8, tv3 9, tv3 10, tv3 11, tv3 12, tv3 13, tv3 14, tv3 15, tv3 16, tv3 17, tv3 18, tv3 19, tv3 20, tv3 21, tv3 22, tv3 23, tv3 24, Value.bool true, Value.agg #[Value.int IntKind.i64 10, Value.int IntKind.i64 20], Value.agg #[Value.int IntKind.i64 10, Value.int IntKind.i64 20, Value.int IntKind.i64 1, Value.bool false], Value.agg #[Value.int IntKind.i64 10, Value.int IntKind.i64 20], Value.agg #[Value.int IntKind.i64 10, Value.int IntKind.i64 20, Value.int IntKind.i64 1, Value.bool true], tv6 0, tv6 1, tv6 2, tv6 3, tv6 4, tv6 5, tv6 6, tv6 7, tv6 8, tv6 9, tv6 10, tv6 11, tv6 12, tv6 13, tv6 14, tv6 15, tv6 16, tv6 17, Value.bool true, vs 0, vs 1, vs 2, vs 3, vs 4, vs 5, vs 6, vs 7, vs 8, vs 9, vs 10, vs 11, vs 12, vs 13, vs 14, vs 15, vs 16, vs 17, vs 18, vs 19, vs 20, undef, undef, undef, undef, undef, undef, undef, undef, undef, undef, undef, undef, undef, undef, undef, undef, undef, undef, undef, undef, undef, undef, undef, undef], defers := [] } ∧ Ext wf6 w' ∧ ∀ j, D j → sanF7 w w1 w2 W2 wf2 tv2 wf3 tv3 w4 W4 w5 W5 wf6 tv6 j (vs j)) 21 (by kernel_rfl) (by kernel_rfl) (by kernel_rfl) ?startsan7 ?stepsan7 ?finsan7
        case startsan7 => exact ⟨fun _ => undef, rfl, Ext.drew _, fun _ h => h.elim⟩
        case stepsan7 =>
          rintro i o D ac wz hin hio hnd he ⟨vs, rfl, k0, hF⟩
          rcases i with _ | _ | _ | _ | _ | _ | _ | _ | _ | _ | _ | _ | _ | _ | _ | _ | _ | _ | _ | _ | _ | i
          rotate_left 21
          · exact absurd hin (by omega)
          all_goals (obtain rfl := Option.some.inj (hio.symm.trans (by rfl)))
          · refine step_yes (wanted_of_none rfl _) ?_
            exact wp_of_run (run_ld_mo (.tmp 5) rfl _ _ rfl _ _ _ _ ((k0.row C_10.out).cell 0) ((k0.row C_10.out).cell 1) ((k0.row C_10.out).cell 2) ((k0.row C_10.out).cell 3)) ⟨upd vs 0 _, rfl, k0, inv_same hF rfl⟩
          · refine step_yes (wanted_of_none rfl _) ?_
            refine wp_of_callE (run_enter2 23 (.const (.int .i64 1)) (.const (.int .i64 2)) _ rfl _ _ rfl rfl (fun args w => enters_of Try.func23 (by kernel_rfl) rfl args w)) (lat 1 2 wz) ?_
            rintro e w' ⟨rfl, hx⟩
            exact ⟨_, rfl, upd vs 1 _, rfl, k0.trans hx, inv_same hF rfl⟩
          · refine step_yes (wanted_of_none rfl _) ?_
            exact wp_of_run (run_build_mo3 (.tmp 92) (.const (.int .i64 3)) (.const (.bool true)) rfl _ _ _ _ (by exact (hF 1 (he ⟨1, .data⟩ (by simp) rfl))) rfl rfl) ⟨upd vs 2 _, rfl, k0, inv_same hF rfl⟩
          · refine step_yes (wanted_of_none rfl _) ?_
            refine wp_of_callE (run_enter2 26 (.tmp 91) (.tmp 93) _ rfl _ _ (by exact (hF 0 (he ⟨0, .data⟩ (by simp) rfl))) (by exact (hF 2 (he ⟨2, .data⟩ (by simp) rfl))) (fun args w => enters_of Try.func26 (by kernel_rfl) rfl args w)) (cal_of (vcompose 10 20 1 false 1 2 3 true wz) (v' := .agg #[.int .i64 8, .int .i64 21, .int .i64 0, .bool true]) (by kernel_rfl)) ?_
            rintro e w' ⟨rfl, hx⟩
            exact ⟨_, rfl, upd vs 3 _, rfl, k0.trans hx, inv_same hF rfl⟩
          · refine step_yes (wanted_of_none rfl _) ?_
            refine wp_of_callE (run_enter2 23 (.const (.int .i64 8)) (.const (.int .i64 21)) _ rfl _ _ rfl rfl (fun args w => enters_of Try.func23 (by kernel_rfl) rfl args w)) (lat 8 21 wz) ?_
            rintro e w' ⟨rfl, hx⟩
            exact ⟨_, rfl, upd vs 4 _, rfl, k0.trans hx, inv_same hF rfl⟩
          · refine step_yes (wanted_of_none rfl _) ?_
            exact wp_of_run (run_build_mo02 (.tmp 95) (.const (.bool true)) rfl _ _ _ (by exact (hF 4 (he ⟨4, .data⟩ (by simp) rfl))) rfl) ⟨upd vs 5 _, rfl, k0, inv_same hF rfl⟩
          · refine step_yes (wanted_of_none rfl _) ?_
            exact wp_of_run (run_eq_mo (.tmp 94) (.tmp 96) rfl _ _ _ _ (by exact (hF 3 (he ⟨3, .data⟩ (by simp) rfl))) (by exact (hF 5 (he ⟨5, .data⟩ (by simp) rfl)))) ⟨upd vs 6 _, rfl, k0, inv_same hF rfl⟩
          · refine step_yes (wanted_of_none rfl _) ?_
            exact wp_of_run (run_mov (.tmp 97) rfl _ (by exact (hF 6 (he ⟨6, .data⟩ (by simp) rfl)))) ⟨upd vs 7 _, rfl, k0, inv_same hF rfl⟩
          · refine step_yes (wanted_g (j := 7) (d := 98) rfl rfl rfl (hF 7 (he ⟨7, .guard⟩ (by simp) rfl))) ?_
            exact wp_of_run (run_ld_mo (.tmp 5) rfl _ _ rfl _ _ _ _ ((k0.row C_10.out).cell 0) ((k0.row C_10.out).cell 1) ((k0.row C_10.out).cell 2) ((k0.row C_10.out).cell 3)) ⟨upd vs 8 _, rfl, k0, inv_same hF rfl⟩
          · refine step_yes (wanted_g (j := 7) (d := 98) rfl rfl rfl (hF 7 (he ⟨7, .chain⟩ (by simp) rfl))) ?_
            refine wp_of_callE (run_enter1 28 (.tmp 99) _ rfl _ (by exact (hF 8 (he ⟨8, .data⟩ (by simp) rfl))) (fun args w => enters_of Try.func28 (by kernel_rfl) rfl args w)) (cal_of (vinverse 10 20 1 false wz) (v' := .agg #[.int .i64 (-20), .int .i64 10, .int .i64 3, .bool false]) (by kernel_rfl)) ?_
            rintro e w' ⟨rfl, hx⟩
            exact ⟨_, rfl, upd vs 9 _, rfl, k0.trans hx, inv_same hF rfl⟩
          · refine step_yes (wanted_g (j := 7) (d := 98) rfl rfl rfl (hF 7 (he ⟨7, .guard⟩ (by simp) rfl))) ?_
            refine wp_of_callE (run_enter2 23 (.const (.int .i64 (-20))) (.const (.int .i64 10)) _ rfl _ _ rfl rfl (fun args w => enters_of Try.func23 (by kernel_rfl) rfl args w)) (lat (-20) 10 wz) ?_
            rintro e w' ⟨rfl, hx⟩
            exact ⟨_, rfl, upd vs 10 _, rfl, k0.trans hx, inv_same hF rfl⟩
          · refine step_yes (wanted_g (j := 7) (d := 98) rfl rfl rfl (hF 7 (he ⟨7, .guard⟩ (by simp) rfl))) ?_
            exact wp_of_run (run_build_mo01 (.tmp 101) (.const (.int .i64 3)) rfl _ _ _ (by exact (hF 10 (he ⟨10, .data⟩ (by simp) rfl))) rfl) ⟨upd vs 11 _, rfl, k0, inv_same hF rfl⟩
          · refine step_yes (wanted_g (j := 7) (d := 98) rfl rfl rfl (hF 7 (he ⟨7, .guard⟩ (by simp) rfl))) ?_
            exact wp_of_run (run_eq_mo (.tmp 100) (.tmp 102) rfl _ _ _ _ (by exact (hF 9 (he ⟨9, .data⟩ (by simp) rfl))) (by exact (hF 11 (he ⟨11, .data⟩ (by simp) rfl)))) ⟨upd vs 12 _, rfl, k0, inv_same hF rfl⟩
          · refine step_yes (wanted_of_none rfl _) ?_
            exact wp_of_run (run_pick_t (.tmp 98) (.tmp 103) (.const (.bool false)) rfl (by exact (hF 7 (he ⟨7, .data⟩ (by simp) rfl))) _ (by exact (hF 12 (he ⟨12, .data⟩ (by simp) rfl)))) ⟨upd vs 13 _, rfl, k0, inv_same hF rfl⟩
          · refine step_yes (wanted_of_none rfl _) ?_
            exact wp_of_run (run_mov (.tmp 104) rfl _ (by exact (hF 13 (he ⟨13, .data⟩ (by simp) rfl)))) ⟨upd vs 14 _, rfl, k0, inv_same hF rfl⟩
          · refine step_yes (wanted_g (j := 14) (d := 105) rfl rfl rfl (hF 14 (he ⟨14, .guard⟩ (by simp) rfl))) ?_
            exact wp_of_run (run_ld_mo (.tmp 6) rfl _ _ rfl _ _ _ _ ((k0.row D_10.out).cell 0) ((k0.row D_10.out).cell 1) ((k0.row D_10.out).cell 2) ((k0.row D_10.out).cell 3)) ⟨upd vs 15 _, rfl, k0, inv_same hF rfl⟩
          · refine step_yes (wanted_g (j := 14) (d := 105) rfl rfl rfl (hF 14 (he ⟨14, .chain⟩ (by simp) rfl))) ?_
            refine wp_of_callE (run_enter1 28 (.tmp 106) _ rfl _ (by exact (hF 15 (he ⟨15, .data⟩ (by simp) rfl))) (fun args w => enters_of Try.func28 (by kernel_rfl) rfl args w)) (cal_of (vinverse 10 20 1 true wz) (v' := .agg #[.int .i64 20, .int .i64 10, .int .i64 1, .bool true]) (by kernel_rfl)) ?_
            rintro e w' ⟨rfl, hx⟩
            exact ⟨_, rfl, upd vs 16 _, rfl, k0.trans hx, inv_same hF rfl⟩
          · refine step_yes (wanted_g (j := 14) (d := 105) rfl rfl rfl (hF 14 (he ⟨14, .guard⟩ (by simp) rfl))) ?_
            refine wp_of_callE (run_enter2 23 (.const (.int .i64 20)) (.const (.int .i64 10)) _ rfl _ _ rfl rfl (fun args w => enters_of Try.func23 (by kernel_rfl) rfl args w)) (lat 20 10 wz) ?_
            rintro e w' ⟨rfl, hx⟩
            exact ⟨_, rfl, upd vs 17 _, rfl, k0.trans hx, inv_same hF rfl⟩
          · refine step_yes (wanted_g (j := 14) (d := 105) rfl rfl rfl (hF 14 (he ⟨14, .guard⟩ (by simp) rfl))) ?_
            exact wp_of_run (run_build_mo3 (.tmp 108) (.const (.int .i64 1)) (.const (.bool true)) rfl _ _ _ _ (by exact (hF 17 (he ⟨17, .data⟩ (by simp) rfl))) rfl rfl) ⟨upd vs 18 _, rfl, k0, inv_same hF rfl⟩
          · refine step_yes (wanted_g (j := 14) (d := 105) rfl rfl rfl (hF 14 (he ⟨14, .guard⟩ (by simp) rfl))) ?_
            exact wp_of_run (run_eq_mo (.tmp 107) (.tmp 109) rfl _ _ _ _ (by exact (hF 16 (he ⟨16, .data⟩ (by simp) rfl))) (by exact (hF 18 (he ⟨18, .data⟩ (by simp) rfl)))) ⟨upd vs 19 _, rfl, k0, inv_same hF rfl⟩
          · refine step_yes (wanted_of_none rfl _) ?_
            exact wp_of_run (run_pick_t (.tmp 105) (.tmp 110) (.const (.bool false)) rfl (by exact (hF 14 (he ⟨14, .data⟩ (by simp) rfl))) _ (by exact (hF 19 (he ⟨19, .data⟩ (by simp) rfl)))) ⟨upd vs 20 _, rfl, k0, inv_same hF rfl⟩
        case finsan7 =>
          rintro D ac wf7 hD ⟨vs, rfl, k0, hF⟩
          change wpList _ _ _ [_] _ _
          have hl : vs 20 = .bool true := hF 20 (hD 20 (by decide))
          rw [hl]
          clear hF hD hl
          generalize vs = tv7
          have E11 := Lib.hid (E10.out.trans k0)
          have A_11 := Lib.hid (k0.row A_10.out)
          have B_11 := Lib.hid (k0.row B_10.out)
          have C_11 := Lib.hid (k0.row C_10.out)
          have D_11 := Lib.hid (k0.row D_10.out)
          clear E10 A_10 B_10 C_10 D_10
          clear k0
          go_upto_region 8 with (fail)
          refine wp_region_seq (fun D ac w' => ∃ vs : Nat → Value, ac = { tmps := #[Value.bool false, Value.pointer (some { block := w2.heap.size, off := 0 }), Value.pointer (some { block := w2.heap.size + 1, off := 0 }), Value.bool true, Value.bool true, Value.pointer (some { block := w4.heap.size, off := 0 }), Value.pointer (some { block := w5.heap.size, off := 0 }), Value.bool true, Value.bool true, Value.agg #[Value.int IntKind.i64 2, Value.int IntKind.i64 3], Value.agg #[Value.int IntKind.i64 4, Value.int IntKind.i64 (-1)], tv2 0, tv2 1, tv2 2, tv2 3, tv2 4, tv2 5, tv2 6, tv2 7, tv2 8, tv2 9, tv2 10, tv2 11, tv2 12, tv2 13, tv2 14, tv2 15, tv2 16, tv2 17, tv2 18, tv2 19, tv2 20, tv2 21, tv2 22, tv2 23, tv2 24, tv2 25, tv2 26, tv2 27, tv2 28, tv2 29, Value.bool true, tv3 0, tv3 1, tv3 2, tv3 3, tv3 4, tv3 5, tv3 6, tv3 7, tv3 8, tv3 9, tv3 10, tv3 11, tv3 12, tv3 13, tv3 14, tv3 15, tv3 16, tv3 17, tv3 18, tv3 19, tv3 20, tv3 21, tv3 22, tv3 23, tv3 24, Value.bool true, Value.agg #[Value.int IntKind.i64 10, Value.int IntKind.i64 20], Value.agg #[Value.int IntKind.i64 10, Value.int IntKind.i64 20, Value.int IntKind.i64 1, Value.bool false], Value.agg #[Value.int IntKind.i64 10, Value.int IntKind.i64 20], Value.agg #[Value.int IntKind.i64 10, Value.int IntKind.i64 20, Value.int IntKind.i64 1, Value.bool true], tv6 0, tv6 1, tv6 2, tv6 3, tv6 4, tv6 5, tv6 6, tv6 7, tv6 8, tv6 9, tv6 10, tv6 11, tv6 12, tv6 13, tv6 14, tv6 15, tv6 16, tv6 17, Value.bool true, tv7 0, tv7 1, tv7 2, tv7 3, tv7 4, tv7 5, tv7 6, tv7 7, tv7 8, tv7 9, tv7 10, tv7 11, tv7 12, tv7 13, tv7 14, tv7 15, tv7 16, tv7 17, tv7 18, tv7 19, Value.bool true, vs 0, vs 1, vs 2, vs 3, vs 4, vs 5, vs 6, vs 7, vs 8, vs 9, vs 10, vs 11, vs 12, vs 13, vs 14, vs 15, vs 16, vs 17, vs 18, vs 19, vs 20, vs 21, vs 22, vs 23], defers := [] } ∧ Ext wf7 w' ∧ ∀ j, D j → sanF8 w w1 w2 W2 wf2 tv2 wf3 tv3 w4 W4 w5 W5 wf6 tv6 wf7 tv7 j (vs j)) 24 (by kernel_rfl) (by kernel_rfl) ?startsan8 ?stepsan8 ?finsan8
          case startsan8 => exact ⟨fun _ => undef, rfl, Ext.refl _, fun _ h => h.elim⟩
          case stepsan8 =>
            rintro i o D ac wz hin hio hnd he ⟨vs, rfl, k0, hF⟩
            rcases i with _ | _ | _ | _ | _ | _ | _ | _ | _ | _ | _ | _ | _ | _ | _ | _ | _ | _ | _ | _ | _ | _ | _ | _ | i
            rotate_left 24
            · exact absurd hin (by omega)
            all_goals (obtain rfl := Option.some.inj (hio.symm.trans (by rfl)))
            · refine step_yes (wanted_of_none rfl _) ?_
              exact wp_of_run (run_mov (.tmp 3) rfl _ rfl) ⟨upd vs 0 _, rfl, k0, inv_same hF rfl⟩
            · refine step_yes (wanted_of_none rfl _) ?_
              exact wp_of_run (run_mov (.tmp 112) rfl _ (by exact (hF 0 (he ⟨0, .data⟩ (by simp) rfl)))) ⟨upd vs 1 _, rfl, k0, inv_same hF rfl⟩
            · refine step_yes (wanted_g (j := 1) (d := 113) rfl rfl rfl (hF 1 (he ⟨1, .guard⟩ (by simp) rfl))) ?_
              exact wp_of_run (run_mov (.tmp 4) rfl _ rfl) ⟨upd vs 2 _, rfl, k0, inv_same hF rfl⟩
            · refine step_yes (wanted_of_none rfl _) ?_
              exact wp_of_run (run_pick_t (.tmp 113) (.tmp 114) (.const (.bool false)) rfl (by exact (hF 1 (he ⟨1, .data⟩ (by simp) rfl))) _ (by exact (hF 2 (he ⟨2, .data⟩ (by simp) rfl)))) ⟨upd vs 3 _, rfl, k0, inv_same hF rfl⟩
            · refine step_yes (wanted_of_none rfl _) ?_
              exact wp_of_run (run_mov (.tmp 115) rfl _ (by exact (hF 3 (he ⟨3, .data⟩ (by simp) rfl)))) ⟨upd vs 4 _, rfl, k0, inv_same hF rfl⟩
            · refine step_yes (wanted_g (j := 4) (d := 116) rfl rfl rfl (hF 4 (he ⟨4, .guard⟩ (by simp) rfl))) ?_
              exact wp_of_run (run_mov (.tmp 7) rfl _ rfl) ⟨upd vs 5 _, rfl, k0, inv_same hF rfl⟩
            · refine step_yes (wanted_of_none rfl _) ?_
              exact wp_of_run (run_pick_t (.tmp 116) (.tmp 117) (.const (.bool false)) rfl (by exact (hF 4 (he ⟨4, .data⟩ (by simp) rfl))) _ (by exact (hF 5 (he ⟨5, .data⟩ (by simp) rfl)))) ⟨upd vs 6 _, rfl, k0, inv_same hF rfl⟩
            · refine step_yes (wanted_of_none rfl _) ?_
              exact wp_of_run (run_mov (.tmp 118) rfl _ (by exact (hF 6 (he ⟨6, .data⟩ (by simp) rfl)))) ⟨upd vs 7 _, rfl, k0, inv_same hF rfl⟩
            · refine step_yes (wanted_g (j := 7) (d := 119) rfl rfl rfl (hF 7 (he ⟨7, .guard⟩ (by simp) rfl))) ?_
              exact wp_of_run (run_mov (.tmp 8) rfl _ rfl) ⟨upd vs 8 _, rfl, k0, inv_same hF rfl⟩
            · refine step_yes (wanted_of_none rfl _) ?_
              exact wp_of_run (run_pick_t (.tmp 119) (.tmp 120) (.const (.bool false)) rfl (by exact (hF 7 (he ⟨7, .data⟩ (by simp) rfl))) _ (by exact (hF 8 (he ⟨8, .data⟩ (by simp) rfl)))) ⟨upd vs 9 _, rfl, k0, inv_same hF rfl⟩
            · refine step_yes (wanted_of_none rfl _) ?_
              exact wp_of_run (run_mov (.tmp 121) rfl _ (by exact (hF 9 (he ⟨9, .data⟩ (by simp) rfl)))) ⟨upd vs 10 _, rfl, k0, inv_same hF rfl⟩
            · refine step_yes (wanted_g (j := 10) (d := 122) rfl rfl rfl (hF 10 (he ⟨10, .guard⟩ (by simp) rfl))) ?_
              exact wp_of_run (run_ld_pt (.tmp 1) rfl _ _ rfl _ _ ((k0.row A_11.out).cell 0) ((k0.row A_11.out).cell 1)) ⟨upd vs 11 _, rfl, k0, inv_same hF rfl⟩
            · refine step_yes (wanted_g (j := 10) (d := 122) rfl rfl rfl (hF 10 (he ⟨10, .guard⟩ (by simp) rfl))) ?_
              exact wp_of_run (run_ld_pt (.tmp 2) rfl _ _ rfl _ _ ((k0.row B_11.out).cell 0) ((k0.row B_11.out).cell 1)) ⟨upd vs 12 _, rfl, k0, inv_same hF rfl⟩
            · refine step_yes (wanted_g (j := 10) (d := 122) rfl rfl rfl (hF 10 (he ⟨10, .chain⟩ (by simp) rfl))) ?_
              refine wp_of_callE (run_enter2 11 (.tmp 123) (.tmp 124) _ rfl _ _ (by exact (hF 11 (he ⟨11, .data⟩ (by simp) rfl))) (by exact (hF 12 (he ⟨12, .data⟩ (by simp) rfl))) (fun args w => enters_of Try.func11 (by kernel_rfl) rfl args w)) (cal_of (vadd 2 3 4 (-1) wz) (v' := .agg #[.int .i64 6, .int .i64 2]) (by kernel_rfl)) ?_
              rintro e w' ⟨rfl, hx⟩
              exact ⟨_, rfl, upd vs 13 _, rfl, k0.trans hx, inv_same hF rfl⟩
            · refine step_yes (wanted_g (j := 10) (d := 122) rfl rfl rfl (hF 10 (he ⟨10, .guard⟩ (by simp) rfl))) ?_
              refine wp_of_callE (run_enter2 23 (.const (.int .i64 6)) (.const (.int .i64 2)) _ rfl _ _ rfl rfl (fun args w => enters_of Try.func23 (by kernel_rfl) rfl args w)) (lat 6 2 wz) ?_
              rintro e w' ⟨rfl, hx⟩
              exact ⟨_, rfl, upd vs 14 _, rfl, k0.trans hx, inv_same hF rfl⟩
            · refine step_yes (wanted_g (j := 10) (d := 122) rfl rfl rfl (hF 10 (he ⟨10, .guard⟩ (by simp) rfl))) ?_
              exact wp_of_run (run_eq_pt (.tmp 125) (.tmp 126) rfl _ _ _ _ (by exact (hF 13 (he ⟨13, .data⟩ (by simp) rfl))) (by exact (hF 14 (he ⟨14, .data⟩ (by simp) rfl))) _ (by simp)) ⟨upd vs 15 _, rfl, k0, inv_same hF rfl⟩
            · refine step_yes (wanted_of_none rfl _) ?_
              exact wp_of_run (run_pick_t (.tmp 122) (.tmp 127) (.const (.bool false)) rfl (by exact (hF 10 (he ⟨10, .data⟩ (by simp) rfl))) _ (by exact (hF 15 (he ⟨15, .data⟩ (by simp) rfl)))) ⟨upd vs 16 _, rfl, k0, inv_same hF rfl⟩
            · refine step_yes (wanted_of_none rfl _) ?_
              exact wp_of_run (run_mov (.tmp 128) rfl _ (by exact (hF 16 (he ⟨16, .data⟩ (by simp) rfl)))) ⟨upd vs 17 _, rfl, k0, inv_same hF rfl⟩
            · refine step_yes (wanted_g (j := 17) (d := 129) rfl rfl rfl (hF 17 (he ⟨17, .guard⟩ (by simp) rfl))) ?_
              exact wp_of_run (run_ld_pt (.tmp 1) rfl _ _ rfl _ _ ((k0.row A_11.out).cell 0) ((k0.row A_11.out).cell 1)) ⟨upd vs 18 _, rfl, k0, inv_same hF rfl⟩
            · refine step_yes (wanted_g (j := 17) (d := 129) rfl rfl rfl (hF 17 (he ⟨17, .guard⟩ (by simp) rfl))) ?_
              exact wp_of_run (run_ld_pt (.tmp 2) rfl _ _ rfl _ _ ((k0.row B_11.out).cell 0) ((k0.row B_11.out).cell 1)) ⟨upd vs 19 _, rfl, k0, inv_same hF rfl⟩
            · refine step_yes (wanted_g (j := 17) (d := 129) rfl rfl rfl (hF 17 (he ⟨17, .chain⟩ (by simp) rfl))) ?_
              refine wp_of_callE (run_enter2 13 (.tmp 130) (.tmp 131) _ rfl _ _ (by exact (hF 18 (he ⟨18, .data⟩ (by simp) rfl))) (by exact (hF 19 (he ⟨19, .data⟩ (by simp) rfl))) (fun args w => enters_of Try.func13 (by kernel_rfl) rfl args w)) (cal_of (vsub 2 3 4 (-1) wz) (v' := .agg #[.int .i64 (-2), .int .i64 4]) (by kernel_rfl)) ?_
              rintro e w' ⟨rfl, hx⟩
              exact ⟨_, rfl, upd vs 20 _, rfl, k0.trans hx, inv_same hF rfl⟩
            · refine step_yes (wanted_g (j := 17) (d := 129) rfl rfl rfl (hF 17 (he ⟨17, .guard⟩ (by simp) rfl))) ?_
              refine wp_of_callE (run_enter2 23 (.const (.int .i64 (-2))) (.const (.int .i64 4)) _ rfl _ _ rfl rfl (fun args w => enters_of Try.func23 (by kernel_rfl) rfl args w)) (lat (-2) 4 wz) ?_
              rintro e w' ⟨rfl, hx⟩
              exact ⟨_, rfl, upd vs 21 _, rfl, k0.trans hx, inv_same hF rfl⟩
            · refine step_yes (wanted_g (j := 17) (d := 129) rfl rfl rfl (hF 17 (he ⟨17, .guard⟩ (by simp) rfl))) ?_
              exact wp_of_run (run_eq_pt (.tmp 132) (.tmp 133) rfl _ _ _ _ (by exact (hF 20 (he ⟨20, .data⟩ (by simp) rfl))) (by exact (hF 21 (he ⟨21, .data⟩ (by simp) rfl))) _ (by simp)) ⟨upd vs 22 _, rfl, k0, inv_same hF rfl⟩
            · refine step_yes (wanted_of_none rfl _) ?_
              exact wp_of_run (run_pick_t (.tmp 129) (.tmp 134) (.const (.bool false)) rfl (by exact (hF 17 (he ⟨17, .data⟩ (by simp) rfl))) _ (by exact (hF 22 (he ⟨22, .data⟩ (by simp) rfl)))) ⟨upd vs 23 _, rfl, k0, inv_same hF rfl⟩
          case finsan8 =>
            rintro D ac wf8 hD ⟨vs, rfl, k0, hF⟩
            change wpList _ _ _ [_] _ _
            have hl : vs 23 = .bool true := hF 23 (hD 23 (by decide))
            rw [hl]
            clear hF hD hl
            generalize vs = tv8
            have E12 := Lib.hid (E11.out.trans k0)
            have A_12 := Lib.hid (k0.row A_11.out)
            have B_12 := Lib.hid (k0.row B_11.out)
            have C_12 := Lib.hid (k0.row C_11.out)
            have D_12 := Lib.hid (k0.row D_11.out)
            clear E11 A_11 B_11 C_11 D_11
            clear k0
            go_wp2_with fail
            go_ret
            exact ⟨rfl, E12.out⟩

end Go.Proofs.Ytapnoijnegcmfaa
