/- VecMotions and VecComposes, as walks. -/
import Derived.Test.YtapnoijnegcmfaaMath
import Derived.Deep.Cut
set_option linter.all false
namespace Go.Proofs.Ytapnoijnegcmfaa
open Go Go.RowKit Go.Shelf

def mot2V (w : World) (ax ay t : Int) (m : Bool) (bx by' u : Int) (k : Bool) (x y : Int) (W0 : World) (w1 : World) : Nat → Value
  | 0 => .bool true
  | 1 => .bool true
  | 2 => .agg #[.int .i64 ax, .int .i64 ay, .int .i64 t, .bool m]
  | 3 => .agg #[.int .i64 x, .int .i64 y]
  | 4 => .agg #[.int .i64 (apX ax t m x y), .int .i64 (apY ay t m x y)]
  | 5 => .agg #[.int .i64 ax, .int .i64 ay, .int .i64 t, .bool m]
  | 6 => .agg #[.int .i64 x, .int .i64 y]
  | 7 => .agg #[.int .i64 (apX ax t m x y), .int .i64 (apY ay t m x y)]
  | 8 => .bool true
  | 9 => .bool true
  | 10 => .bool true
  | 11 => .agg #[.int .i64 ax, .int .i64 ay, .int .i64 t, .bool m]
  | 12 => .agg #[.int .i64 bx, .int .i64 by', .int .i64 u, .bool k]
  | 13 => .agg #[.int .i64 (apX ax t m bx by'), .int .i64 (apY ay t m bx by'), .int .i64 (coT t m u), .bool (m != k)]
  | 14 => .agg #[.int .i64 ax, .int .i64 ay, .int .i64 t, .bool m]
  | 15 => .agg #[.int .i64 bx, .int .i64 by', .int .i64 u, .bool k]
  | 16 => .agg #[.int .i64 (apX ax t m bx by'), .int .i64 (apY ay t m bx by'), .int .i64 (coT t m u), .bool (m != k)]
  | 17 => .bool true
  | 18 => .bool true
  | 19 => .bool true
  | 20 => .agg #[.int .i64 ax, .int .i64 ay, .int .i64 t, .bool m]
  | 21 => .agg #[.int .i64 (inX ax ay t m), .int .i64 (inY ax ay t m), .int .i64 (inT t m), .bool m]
  | 22 => .agg #[.int .i64 ax, .int .i64 ay, .int .i64 t, .bool m]
  | 23 => .agg #[.int .i64 (inX ax ay t m), .int .i64 (inY ax ay t m), .int .i64 (inT t m), .bool m]
  | 24 => .bool true
  | 25 => .bool true
  | _ => undef
def mot2F (w : World) (ax ay t : Int) (m : Bool) (bx by' u : Int) (k : Bool) (x y : Int) (W0 : World) (w1 : World) (j : Nat) (v : Value) : Prop := v = mot2V w ax ay t m bx by' u k x y W0 w1 j
set_option maxRecDepth 100000 in
set_option maxHeartbeats 4000000 in
theorem vecMotions_walk (ax ay t : Int) (m : Bool) (bx by' u : Int) (k : Bool) (x y : Int) (w : World) : Calls Try.prog 4 #[.agg #[.int .i64 ax, .int .i64 ay, .int .i64 t, .bool m], .agg #[.int .i64 bx, .int .i64 by', .int .i64 u, .bool k], .agg #[.int .i64 x, .int .i64 y]] w fun e w' => e = .returned (.bool true) ∧ Ext w w' := by
  have E0 := Lib.hid (Ext.refl w)
  go_enter Try.func4, Try.ntmps4
  go_wp2_with fail
  obtain ⟨W0, hW0⟩ : ∃ W0, W0 = (((w.alloc (.cells #[.int .i64 ax, .int .i64 ay, .int .i64 t, .bool m] 34)).alloc (.cells #[.int .i64 bx, .int .i64 by', .int .i64 u, .bool k] 34)).alloc (.cells #[.int .i64 x, .int .i64 y] 23)) := ⟨_, rfl⟩
  have hx : Ext w W0 := by rw [hW0]; exact ((Ext.alloc _ _).trans (Ext.alloc _ _)).trans (Ext.alloc _ _)
  have A_0 := Lib.hid (show RowAt W0 (w.heap.size) 34 #[.int .i64 ax, .int .i64 ay, .int .i64 t, .bool m] from by rw [hW0]; exact (((RowAt.new' _ _ (by simp)).alloc _).alloc _))
  have B_0 := Lib.hid (show RowAt W0 (w.heap.size + 1) 34 #[.int .i64 bx, .int .i64 by', .int .i64 u, .bool k] from by rw [hW0]; exact ((RowAt.new' _ _ (by simp)).alloc _))
  have C_0 := Lib.hid (show RowAt W0 (w.heap.size + 1 + 1) 23 #[.int .i64 x, .int .i64 y] from by rw [hW0]; exact (RowAt.new' _ _ (by simp)))
  have SZW0 := Lib.hid (show W0.heap.size = w.heap.size + 1 + 1 + 1 from by rw [hW0]; simp)
  have E1 := Lib.hid (E0.out.trans hx)
  clear E0
  clear hx
  rw [← hW0]
  clear hW0
  refine (sanity_c _).mono ?_; rintro e w1 ⟨rfl, hx⟩
  have E2 := Lib.hid (E1.out.trans hx)
  have A_2 := Lib.hid (hx.row A_0.out)
  have B_2 := Lib.hid (hx.row B_0.out)
  have C_2 := Lib.hid (hx.row C_0.out)
  clear E1 A_0 B_0 C_0
  clear hx
  go_wp2_with fail
  refine wp_region_tail (fun D ac w' => ∃ vs : Nat → Value, ac = { tmps := #[Value.agg #[Value.int IntKind.i64 ax, Value.int IntKind.i64 ay, Value.int IntKind.i64 t, Value.bool m], Value.agg #[Value.int IntKind.i64 bx, Value.int IntKind.i64 by', Value.int IntKind.i64 u, Value.bool k], Value.agg #[Value.int IntKind.i64 x, Value.int IntKind.i64 y], Value.pointer (some { block := w.heap.size, off := 0 }), Value.pointer (some { block := w.heap.size + 1, off := 0 }), Value.pointer (some { block := w.heap.size + 1 + 1, off := 0 }), Value.bool false, Value.bool true, Value.bool true, vs 0, vs 1, vs 2, vs 3, vs 4, vs 5, vs 6, vs 7, vs 8, vs 9, vs 10, vs 11, vs 12, vs 13, vs 14, vs 15, vs 16, vs 17, vs 18, vs 19, vs 20, vs 21, vs 22, vs 23, vs 24, vs 25], defers := [] } ∧ Ext w1 w' ∧ ∀ j, D j → mot2F w ax ay t m bx by' u k x y W0 w1 j (vs j)) 26 (by kernel_rfl) (by kernel_rfl) (by kernel_rfl) ?startmot2 ?stepmot2 ?finmot2
  case startmot2 => exact ⟨fun _ => undef, rfl, Ext.drew _, fun _ h => h.elim⟩
  case stepmot2 =>
    rintro i o D ac wz hin hio hnd he ⟨vs, rfl, k0, hF⟩
    rcases i with _ | _ | _ | _ | _ | _ | _ | _ | _ | _ | _ | _ | _ | _ | _ | _ | _ | _ | _ | _ | _ | _ | _ | _ | _ | _ | i
    rotate_left 26
    · exact absurd hin (by omega)
    all_goals (obtain rfl := Option.some.inj (hio.symm.trans (by rfl)))
    · refine step_yes (wanted_of_none rfl _) ?_
      exact wp_of_run (run_mov (.tmp 7) rfl _ rfl) ⟨upd vs 0 _, rfl, k0, inv_same hF rfl⟩
    · refine step_yes (wanted_of_none rfl _) ?_
      exact wp_of_run (run_mov (.tmp 9) rfl _ (by exact (hF 0 (he ⟨0, .data⟩ (by simp) rfl)))) ⟨upd vs 1 _, rfl, k0, inv_same hF rfl⟩
    · refine step_yes (wanted_g (j := 1) (d := 10) rfl rfl rfl (hF 1 (he ⟨1, .guard⟩ (by simp) rfl))) ?_
      exact wp_of_run (run_ld_mo (.tmp 3) rfl _ _ rfl _ _ _ _ ((k0.row A_2.out).cell 0) ((k0.row A_2.out).cell 1) ((k0.row A_2.out).cell 2) ((k0.row A_2.out).cell 3)) ⟨upd vs 2 _, rfl, k0, inv_same hF rfl⟩
    · refine step_yes (wanted_g (j := 1) (d := 10) rfl rfl rfl (hF 1 (he ⟨1, .guard⟩ (by simp) rfl))) ?_
      exact wp_of_run (run_ld_pt (.tmp 5) rfl _ _ rfl _ _ ((k0.row C_2.out).cell 0) ((k0.row C_2.out).cell 1)) ⟨upd vs 3 _, rfl, k0, inv_same hF rfl⟩
    · refine step_yes (wanted_g (j := 1) (d := 10) rfl rfl rfl (hF 1 (he ⟨1, .chain⟩ (by simp) rfl))) ?_
      refine wp_of_callE (run_enter2 24 (.tmp 11) (.tmp 12) _ rfl _ _ (by exact (hF 2 (he ⟨2, .data⟩ (by simp) rfl))) (by exact (hF 3 (he ⟨3, .data⟩ (by simp) rfl))) (fun args w => enters_of Try.func24 (by kernel_rfl) rfl args w)) (vapply ax ay t m x y wz) ?_
      rintro e w' ⟨rfl, hx⟩
      exact ⟨_, rfl, upd vs 4 _, rfl, k0.trans hx, inv_same hF rfl⟩
    · refine step_yes (wanted_g (j := 1) (d := 10) rfl rfl rfl (hF 1 (he ⟨1, .guard⟩ (by simp) rfl))) ?_
      exact wp_of_run (run_ld_mo (.tmp 3) rfl _ _ rfl _ _ _ _ ((k0.row A_2.out).cell 0) ((k0.row A_2.out).cell 1) ((k0.row A_2.out).cell 2) ((k0.row A_2.out).cell 3)) ⟨upd vs 5 _, rfl, k0, inv_same hF rfl⟩
    · refine step_yes (wanted_g (j := 1) (d := 10) rfl rfl rfl (hF 1 (he ⟨1, .guard⟩ (by simp) rfl))) ?_
      exact wp_of_run (run_ld_pt (.tmp 5) rfl _ _ rfl _ _ ((k0.row C_2.out).cell 0) ((k0.row C_2.out).cell 1)) ⟨upd vs 6 _, rfl, k0, inv_same hF rfl⟩
    · refine step_yes (wanted_g (j := 1) (d := 10) rfl rfl rfl (hF 1 (he ⟨1, .guard⟩ (by simp) rfl))) ?_
      refine wp_of_callE (run_enter2 25 (.tmp 14) (.tmp 15) _ rfl _ _ (by exact (hF 5 (he ⟨5, .data⟩ (by simp) rfl))) (by exact (hF 6 (he ⟨6, .data⟩ (by simp) rfl))) (fun args w => enters_of Try.func25 (by kernel_rfl) rfl args w)) (rapply ax ay t m x y wz) ?_
      rintro e w' ⟨rfl, hx⟩
      exact ⟨_, rfl, upd vs 7 _, rfl, k0.trans hx, inv_same hF rfl⟩
    · refine step_yes (wanted_g (j := 1) (d := 10) rfl rfl rfl (hF 1 (he ⟨1, .guard⟩ (by simp) rfl))) ?_
      exact wp_of_run (run_eq_pt (.tmp 13) (.tmp 16) rfl _ _ _ _ (by exact (hF 4 (he ⟨4, .data⟩ (by simp) rfl))) (by exact (hF 7 (he ⟨7, .data⟩ (by simp) rfl))) _ (by simp)) ⟨upd vs 8 _, rfl, k0, inv_same hF rfl⟩
    · refine step_yes (wanted_of_none rfl _) ?_
      exact wp_of_run (run_pick_t (.tmp 10) (.tmp 17) (.const (.bool false)) rfl (by exact (hF 1 (he ⟨1, .data⟩ (by simp) rfl))) _ (by exact (hF 8 (he ⟨8, .data⟩ (by simp) rfl)))) ⟨upd vs 9 _, rfl, k0, inv_same hF rfl⟩
    · refine step_yes (wanted_of_none rfl _) ?_
      exact wp_of_run (run_mov (.tmp 18) rfl _ (by exact (hF 9 (he ⟨9, .data⟩ (by simp) rfl)))) ⟨upd vs 10 _, rfl, k0, inv_same hF rfl⟩
    · refine step_yes (wanted_g (j := 10) (d := 19) rfl rfl rfl (hF 10 (he ⟨10, .guard⟩ (by simp) rfl))) ?_
      exact wp_of_run (run_ld_mo (.tmp 3) rfl _ _ rfl _ _ _ _ ((k0.row A_2.out).cell 0) ((k0.row A_2.out).cell 1) ((k0.row A_2.out).cell 2) ((k0.row A_2.out).cell 3)) ⟨upd vs 11 _, rfl, k0, inv_same hF rfl⟩
    · refine step_yes (wanted_g (j := 10) (d := 19) rfl rfl rfl (hF 10 (he ⟨10, .guard⟩ (by simp) rfl))) ?_
      exact wp_of_run (run_ld_mo (.tmp 4) rfl _ _ rfl _ _ _ _ ((k0.row B_2.out).cell 0) ((k0.row B_2.out).cell 1) ((k0.row B_2.out).cell 2) ((k0.row B_2.out).cell 3)) ⟨upd vs 12 _, rfl, k0, inv_same hF rfl⟩
    · refine step_yes (wanted_g (j := 10) (d := 19) rfl rfl rfl (hF 10 (he ⟨10, .chain⟩ (by simp) rfl))) ?_
      refine wp_of_callE (run_enter2 26 (.tmp 20) (.tmp 21) _ rfl _ _ (by exact (hF 11 (he ⟨11, .data⟩ (by simp) rfl))) (by exact (hF 12 (he ⟨12, .data⟩ (by simp) rfl))) (fun args w => enters_of Try.func26 (by kernel_rfl) rfl args w)) (vcompose ax ay t m bx by' u k wz) ?_
      rintro e w' ⟨rfl, hx⟩
      exact ⟨_, rfl, upd vs 13 _, rfl, k0.trans hx, inv_same hF rfl⟩
    · refine step_yes (wanted_g (j := 10) (d := 19) rfl rfl rfl (hF 10 (he ⟨10, .guard⟩ (by simp) rfl))) ?_
      exact wp_of_run (run_ld_mo (.tmp 3) rfl _ _ rfl _ _ _ _ ((k0.row A_2.out).cell 0) ((k0.row A_2.out).cell 1) ((k0.row A_2.out).cell 2) ((k0.row A_2.out).cell 3)) ⟨upd vs 14 _, rfl, k0, inv_same hF rfl⟩
    · refine step_yes (wanted_g (j := 10) (d := 19) rfl rfl rfl (hF 10 (he ⟨10, .guard⟩ (by simp) rfl))) ?_
      exact wp_of_run (run_ld_mo (.tmp 4) rfl _ _ rfl _ _ _ _ ((k0.row B_2.out).cell 0) ((k0.row B_2.out).cell 1) ((k0.row B_2.out).cell 2) ((k0.row B_2.out).cell 3)) ⟨upd vs 15 _, rfl, k0, inv_same hF rfl⟩
    · refine step_yes (wanted_g (j := 10) (d := 19) rfl rfl rfl (hF 10 (he ⟨10, .guard⟩ (by simp) rfl))) ?_
      refine wp_of_callE (run_enter2 27 (.tmp 23) (.tmp 24) _ rfl _ _ (by exact (hF 14 (he ⟨14, .data⟩ (by simp) rfl))) (by exact (hF 15 (he ⟨15, .data⟩ (by simp) rfl))) (fun args w => enters_of Try.func27 (by kernel_rfl) rfl args w)) (rcompose ax ay t m bx by' u k wz) ?_
      rintro e w' ⟨rfl, hx⟩
      exact ⟨_, rfl, upd vs 16 _, rfl, k0.trans hx, inv_same hF rfl⟩
    · refine step_yes (wanted_g (j := 10) (d := 19) rfl rfl rfl (hF 10 (he ⟨10, .guard⟩ (by simp) rfl))) ?_
      exact wp_of_run (run_eq_mo (.tmp 22) (.tmp 25) rfl _ _ _ _ (by exact (hF 13 (he ⟨13, .data⟩ (by simp) rfl))) (by exact (hF 16 (he ⟨16, .data⟩ (by simp) rfl)))) ⟨upd vs 17 _, rfl, k0, inv_same hF rfl⟩
    · refine step_yes (wanted_of_none rfl _) ?_
      exact wp_of_run (run_pick_t (.tmp 19) (.tmp 26) (.const (.bool false)) rfl (by exact (hF 10 (he ⟨10, .data⟩ (by simp) rfl))) _ (by exact (hF 17 (he ⟨17, .data⟩ (by simp) rfl)))) ⟨upd vs 18 _, rfl, k0, inv_same hF rfl⟩
    · refine step_yes (wanted_of_none rfl _) ?_
      exact wp_of_run (run_mov (.tmp 27) rfl _ (by exact (hF 18 (he ⟨18, .data⟩ (by simp) rfl)))) ⟨upd vs 19 _, rfl, k0, inv_same hF rfl⟩
    · refine step_yes (wanted_g (j := 19) (d := 28) rfl rfl rfl (hF 19 (he ⟨19, .guard⟩ (by simp) rfl))) ?_
      exact wp_of_run (run_ld_mo (.tmp 3) rfl _ _ rfl _ _ _ _ ((k0.row A_2.out).cell 0) ((k0.row A_2.out).cell 1) ((k0.row A_2.out).cell 2) ((k0.row A_2.out).cell 3)) ⟨upd vs 20 _, rfl, k0, inv_same hF rfl⟩
    · refine step_yes (wanted_g (j := 19) (d := 28) rfl rfl rfl (hF 19 (he ⟨19, .chain⟩ (by simp) rfl))) ?_
      refine wp_of_callE (run_enter1 28 (.tmp 29) _ rfl _ (by exact (hF 20 (he ⟨20, .data⟩ (by simp) rfl))) (fun args w => enters_of Try.func28 (by kernel_rfl) rfl args w)) (vinverse ax ay t m wz) ?_
      rintro e w' ⟨rfl, hx⟩
      exact ⟨_, rfl, upd vs 21 _, rfl, k0.trans hx, inv_same hF rfl⟩
    · refine step_yes (wanted_g (j := 19) (d := 28) rfl rfl rfl (hF 19 (he ⟨19, .guard⟩ (by simp) rfl))) ?_
      exact wp_of_run (run_ld_mo (.tmp 3) rfl _ _ rfl _ _ _ _ ((k0.row A_2.out).cell 0) ((k0.row A_2.out).cell 1) ((k0.row A_2.out).cell 2) ((k0.row A_2.out).cell 3)) ⟨upd vs 22 _, rfl, k0, inv_same hF rfl⟩
    · refine step_yes (wanted_g (j := 19) (d := 28) rfl rfl rfl (hF 19 (he ⟨19, .guard⟩ (by simp) rfl))) ?_
      refine wp_of_callE (run_enter1 29 (.tmp 31) _ rfl _ (by exact (hF 22 (he ⟨22, .data⟩ (by simp) rfl))) (fun args w => enters_of Try.func29 (by kernel_rfl) rfl args w)) (rinverse ax ay t m wz) ?_
      rintro e w' ⟨rfl, hx⟩
      exact ⟨_, rfl, upd vs 23 _, rfl, k0.trans hx, inv_same hF rfl⟩
    · refine step_yes (wanted_g (j := 19) (d := 28) rfl rfl rfl (hF 19 (he ⟨19, .guard⟩ (by simp) rfl))) ?_
      exact wp_of_run (run_eq_mo (.tmp 30) (.tmp 32) rfl _ _ _ _ (by exact (hF 21 (he ⟨21, .data⟩ (by simp) rfl))) (by exact (hF 23 (he ⟨23, .data⟩ (by simp) rfl)))) ⟨upd vs 24 _, rfl, k0, inv_same hF rfl⟩
    · refine step_yes (wanted_of_none rfl _) ?_
      exact wp_of_run (run_pick_t (.tmp 28) (.tmp 33) (.const (.bool false)) rfl (by exact (hF 19 (he ⟨19, .data⟩ (by simp) rfl))) _ (by exact (hF 24 (he ⟨24, .data⟩ (by simp) rfl)))) ⟨upd vs 25 _, rfl, k0, inv_same hF rfl⟩
  case finmot2 =>
    rintro D ac wfmot2 hD ⟨vs, rfl, k0, hF⟩
    change wpList _ _ _ [_] _ _
    have hl25 : vs 25 = .bool true := hF 25 (hD 25 (by decide))
    rw [hl25]
    clear hl25
    clear hF hD
    generalize vs = tvmot2
    have E3 := Lib.hid (E2.out.trans k0)
    have A_3 := Lib.hid (k0.row A_2.out)
    have B_3 := Lib.hid (k0.row B_2.out)
    have C_3 := Lib.hid (k0.row C_2.out)
    clear E2 A_2 B_2 C_2
    clear k0
    go_wp2_with fail
    go_ret
    exact ⟨rfl, E3.out⟩

def cmp2V (w : World) (ax ay t : Int) (m : Bool) (bx by' u : Int) (k : Bool) (cx cy cv : Int) (l : Bool) (x y : Int) (W0 : World) (w1 : World) : Nat → Value
  | 0 => .agg #[.int .i64 ax, .int .i64 ay, .int .i64 t, .bool m]
  | 1 => .agg #[.int .i64 bx, .int .i64 by', .int .i64 u, .bool k]
  | 2 => .agg #[.int .i64 (apX ax t m bx by'), .int .i64 (apY ay t m bx by'), .int .i64 (coT t m u), .bool (m != k)]
  | 3 => .pointer (some ⟨w.heap.size + 1 + 1, 4, none⟩)
  | 4 => .agg #[.int .i64 x, .int .i64 y]
  | 5 => .agg #[.int .i64 (apX (apX ax t m bx by') (coT t m u) (m != k) x y), .int .i64 (apY (apY ay t m bx by') (coT t m u) (m != k) x y)]
  | 6 => .agg #[.int .i64 ax, .int .i64 ay, .int .i64 t, .bool m]
  | 7 => .agg #[.int .i64 bx, .int .i64 by', .int .i64 u, .bool k]
  | 8 => .pointer (some ⟨w.heap.size + 1 + 1, 4, none⟩)
  | 9 => .agg #[.int .i64 x, .int .i64 y]
  | 10 => .agg #[.int .i64 (apX bx u k x y), .int .i64 (apY by' u k x y)]
  | 11 => .agg #[.int .i64 (apX ax t m (apX bx u k x y) (apY by' u k x y)), .int .i64 (apY ay t m (apX bx u k x y) (apY by' u k x y))]
  | 12 => .bool true
  | _ => undef
def cmp2F (w : World) (ax ay t : Int) (m : Bool) (bx by' u : Int) (k : Bool) (cx cy cv : Int) (l : Bool) (x y : Int) (W0 : World) (w1 : World) (j : Nat) (v : Value) : Prop := v = cmp2V w ax ay t m bx by' u k cx cy cv l x y W0 w1 j
def cmp3V (w : World) (ax ay t : Int) (m : Bool) (bx by' u : Int) (k : Bool) (cx cy cv : Int) (l : Bool) (x y : Int) (W0 : World) (w1 : World) (wfcmp2 : World) (tvcmp2 : Nat → Value) : Nat → Value
  | 0 => .agg #[.int .i64 ax, .int .i64 ay, .int .i64 t, .bool m]
  | 1 => .agg #[.int .i64 (inX ax ay t m), .int .i64 (inY ax ay t m), .int .i64 (inT t m), .bool m]
  | 2 => .agg #[.int .i64 ax, .int .i64 ay, .int .i64 t, .bool m]
  | 3 => .pointer (some ⟨w.heap.size + 1 + 1, 4, none⟩)
  | 4 => .agg #[.int .i64 x, .int .i64 y]
  | 5 => .agg #[.int .i64 (apX ax t m x y), .int .i64 (apY ay t m x y)]
  | 6 => .agg #[.int .i64 (apX (inX ax ay t m) (inT t m) m (apX ax t m x y) (apY ay t m x y)), .int .i64 (apY (inY ax ay t m) (inT t m) m (apX ax t m x y) (apY ay t m x y))]
  | 7 => .pointer (some ⟨w.heap.size + 1 + 1, 4, none⟩)
  | 8 => .agg #[.int .i64 x, .int .i64 y]
  | 9 => .bool true
  | 10 => .bool true
  | 11 => .agg #[.int .i64 ax, .int .i64 ay, .int .i64 t, .bool m]
  | 12 => .agg #[.int .i64 ax, .int .i64 ay, .int .i64 t, .bool m]
  | 13 => .agg #[.int .i64 (inX ax ay t m), .int .i64 (inY ax ay t m), .int .i64 (inT t m), .bool m]
  | 14 => .pointer (some ⟨w.heap.size + 1 + 1, 4, none⟩)
  | 15 => .agg #[.int .i64 x, .int .i64 y]
  | 16 => .agg #[.int .i64 (apX (inX ax ay t m) (inT t m) m x y), .int .i64 (apY (inY ax ay t m) (inT t m) m x y)]
  | 17 => .agg #[.int .i64 (apX ax t m (apX (inX ax ay t m) (inT t m) m x y) (apY (inY ax ay t m) (inT t m) m x y)), .int .i64 (apY ay t m (apX (inX ax ay t m) (inT t m) m x y) (apY (inY ax ay t m) (inT t m) m x y))]
  | 18 => .pointer (some ⟨w.heap.size + 1 + 1, 4, none⟩)
  | 19 => .agg #[.int .i64 x, .int .i64 y]
  | 20 => .bool true
  | 21 => .bool true
  | _ => undef
def cmp3F (w : World) (ax ay t : Int) (m : Bool) (bx by' u : Int) (k : Bool) (cx cy cv : Int) (l : Bool) (x y : Int) (W0 : World) (w1 : World) (wfcmp2 : World) (tvcmp2 : Nat → Value) (j : Nat) (v : Value) : Prop := v = cmp3V w ax ay t m bx by' u k cx cy cv l x y W0 w1 wfcmp2 tvcmp2 j
def cmp4V (w : World) (ax ay t : Int) (m : Bool) (bx by' u : Int) (k : Bool) (cx cy cv : Int) (l : Bool) (x y : Int) (W0 : World) (w1 : World) (wfcmp2 : World) (tvcmp2 : Nat → Value) (wfcmp3 : World) (tvcmp3 : Nat → Value) : Nat → Value
  | 0 => .agg #[.int .i64 ax, .int .i64 ay, .int .i64 t, .bool m]
  | 1 => .agg #[.int .i64 bx, .int .i64 by', .int .i64 u, .bool k]
  | 2 => .agg #[.int .i64 (apX ax t m bx by'), .int .i64 (apY ay t m bx by'), .int .i64 (coT t m u), .bool (m != k)]
  | 3 => .pointer (some ⟨w.heap.size + 1 + 1, 0, none⟩)
  | 4 => .agg #[.int .i64 cx, .int .i64 cy, .int .i64 cv, .bool l]
  | 5 => .agg #[.int .i64 (apX (apX ax t m bx by') (coT t m u) (m != k) cx cy), .int .i64 (apY (apY ay t m bx by') (coT t m u) (m != k) cx cy), .int .i64 (coT (coT t m u) (m != k) cv), .bool ((m != k) != l)]
  | 6 => .agg #[.int .i64 ax, .int .i64 ay, .int .i64 t, .bool m]
  | 7 => .agg #[.int .i64 bx, .int .i64 by', .int .i64 u, .bool k]
  | 8 => .pointer (some ⟨w.heap.size + 1 + 1, 0, none⟩)
  | 9 => .agg #[.int .i64 cx, .int .i64 cy, .int .i64 cv, .bool l]
  | 10 => .agg #[.int .i64 (apX bx u k cx cy), .int .i64 (apY by' u k cx cy), .int .i64 (coT u k cv), .bool (k != l)]
  | 11 => .agg #[.int .i64 (apX ax t m (apX bx u k cx cy) (apY by' u k cx cy)), .int .i64 (apY ay t m (apX bx u k cx cy) (apY by' u k cx cy)), .int .i64 (coT t m (coT u k cv)), .bool (m != (k != l))]
  | 12 => .bool true
  | 13 => .bool true
  | 14 => .agg #[.int .i64 ax, .int .i64 ay, .int .i64 t, .bool m]
  | 15 => .agg #[.int .i64 (inX ax ay t m), .int .i64 (inY ax ay t m), .int .i64 (inT t m), .bool m]
  | 16 => .agg #[.int .i64 (inX (inX ax ay t m) (inY ax ay t m) (inT t m) m), .int .i64 (inY (inX ax ay t m) (inY ax ay t m) (inT t m) m), .int .i64 (inT (inT t m) m), .bool m]
  | 17 => .agg #[.int .i64 ax, .int .i64 ay, .int .i64 t, .bool m]
  | 18 => .agg #[.int .i64 0, .int .i64 0, .int .i64 0, .bool false]
  | 19 => .agg #[.int .i64 (apX ax t m 0 0), .int .i64 (apY ay t m 0 0), .int .i64 (coT t m 0), .bool (m != false)]
  | 20 => .bool true
  | 21 => .bool true
  | _ => undef
def cmp4F (w : World) (ax ay t : Int) (m : Bool) (bx by' u : Int) (k : Bool) (cx cy cv : Int) (l : Bool) (x y : Int) (W0 : World) (w1 : World) (wfcmp2 : World) (tvcmp2 : Nat → Value) (wfcmp3 : World) (tvcmp3 : Nat → Value) (j : Nat) (v : Value) : Prop := v = cmp4V w ax ay t m bx by' u k cx cy cv l x y W0 w1 wfcmp2 tvcmp2 wfcmp3 tvcmp3 j
def cmp5V (w : World) (ax ay t : Int) (m : Bool) (bx by' u : Int) (k : Bool) (cx cy cv : Int) (l : Bool) (x y : Int) (W0 : World) (w1 : World) (wfcmp2 : World) (tvcmp2 : Nat → Value) (wfcmp3 : World) (tvcmp3 : Nat → Value) (wfcmp4 : World) (tvcmp4 : Nat → Value) : Nat → Value
  | 0 => .bool true
  | 1 => .bool true
  | 2 => .bool true
  | 3 => .bool true
  | 4 => .bool true
  | 5 => .bool true
  | 6 => .bool true
  | 7 => .bool true
  | 8 => .bool true
  | 9 => .bool true
  | 10 => .bool true
  | 11 => .agg #[.int .i64 ax, .int .i64 ay, .int .i64 t, .bool m]
  | 12 => .agg #[.int .i64 (inX ax ay t m), .int .i64 (inY ax ay t m), .int .i64 (inT t m), .bool m]
  | 13 => .agg #[.int .i64 ax, .int .i64 ay, .int .i64 t, .bool m]
  | 14 => .agg #[.int .i64 (apX (inX ax ay t m) (inT t m) m ax ay), .int .i64 (apY (inY ax ay t m) (inT t m) m ax ay), .int .i64 (coT (inT t m) m t), .bool (m != m)]
  | 15 => .agg #[.int .i64 0, .int .i64 0, .int .i64 0, .bool false]
  | 16 => .bool true
  | 17 => .bool true
  | _ => undef
def cmp5F (w : World) (ax ay t : Int) (m : Bool) (bx by' u : Int) (k : Bool) (cx cy cv : Int) (l : Bool) (x y : Int) (W0 : World) (w1 : World) (wfcmp2 : World) (tvcmp2 : Nat → Value) (wfcmp3 : World) (tvcmp3 : Nat → Value) (wfcmp4 : World) (tvcmp4 : Nat → Value) (j : Nat) (v : Value) : Prop := v = cmp5V w ax ay t m bx by' u k cx cy cv l x y W0 w1 wfcmp2 tvcmp2 wfcmp3 tvcmp3 wfcmp4 tvcmp4 j
set_option maxRecDepth 100000 in
set_option maxHeartbeats 4000000 in
theorem vecComposes_walk (ax ay t : Int) (m : Bool) (bx by' u : Int) (k : Bool) (cx cy cv : Int) (l : Bool) (x y : Int) (w : World) (hx : wrap64 x = x) (hy : wrap64 y = y) : Calls Try.prog 5 #[.agg #[.int .i64 ax, .int .i64 ay, .int .i64 t, .bool m], .agg #[.int .i64 bx, .int .i64 by', .int .i64 u, .bool k], .agg #[.int .i64 cx, .int .i64 cy, .int .i64 cv, .bool l, .int .i64 x, .int .i64 y]] w fun e w' => e = .returned (.bool true) ∧ Ext w w' := by
  have E0 := Lib.hid (Ext.refl w)
  have HX := Lib.hid hx
  have HY := Lib.hid hy
  clear hx hy
  go_enter Try.func5, Try.ntmps5
  go_wp2_with fail
  obtain ⟨W0, hW0⟩ : ∃ W0, W0 = (((w.alloc (.cells #[.int .i64 ax, .int .i64 ay, .int .i64 t, .bool m] 34)).alloc (.cells #[.int .i64 bx, .int .i64 by', .int .i64 u, .bool k] 34)).alloc (.cells #[.int .i64 cx, .int .i64 cy, .int .i64 cv, .bool l, .int .i64 x, .int .i64 y] 40)) := ⟨_, rfl⟩
  have hx : Ext w W0 := by rw [hW0]; exact ((Ext.alloc _ _).trans (Ext.alloc _ _)).trans (Ext.alloc _ _)
  have A_0 := Lib.hid (show RowAt W0 (w.heap.size) 34 #[.int .i64 ax, .int .i64 ay, .int .i64 t, .bool m] from by rw [hW0]; exact (((RowAt.new' _ _ (by simp)).alloc _).alloc _))
  have B_0 := Lib.hid (show RowAt W0 (w.heap.size + 1) 34 #[.int .i64 bx, .int .i64 by', .int .i64 u, .bool k] from by rw [hW0]; exact ((RowAt.new' _ _ (by simp)).alloc _))
  have C_0 := Lib.hid (show RowAt W0 (w.heap.size + 1 + 1) 40 #[.int .i64 cx, .int .i64 cy, .int .i64 cv, .bool l, .int .i64 x, .int .i64 y] from by rw [hW0]; exact (RowAt.new' _ _ (by simp)))
  have SZW0 := Lib.hid (show W0.heap.size = w.heap.size + 1 + 1 + 1 from by rw [hW0]; simp)
  have E1 := Lib.hid (E0.out.trans hx)
  clear E0
  clear hx
  rw [← hW0]
  clear hW0
  refine (sanity_c _).mono ?_; rintro e w1 ⟨rfl, hx⟩
  have E2 := Lib.hid (E1.out.trans hx)
  have A_2 := Lib.hid (hx.row A_0.out)
  have B_2 := Lib.hid (hx.row B_0.out)
  have C_2 := Lib.hid (hx.row C_0.out)
  clear E1 A_0 B_0 C_0
  clear hx
  go_wp2_with fail
  refine wp_region_tail (fun D ac w' => ∃ vs : Nat → Value, ac = { tmps := #[Value.agg #[Value.int IntKind.i64 ax, Value.int IntKind.i64 ay, Value.int IntKind.i64 t, Value.bool m], Value.agg #[Value.int IntKind.i64 bx, Value.int IntKind.i64 by', Value.int IntKind.i64 u, Value.bool k], Value.agg #[Value.int IntKind.i64 cx, Value.int IntKind.i64 cy, Value.int IntKind.i64 cv, Value.bool l, Value.int IntKind.i64 x, Value.int IntKind.i64 y], Value.pointer (some { block := w.heap.size, off := 0 }), Value.pointer (some { block := w.heap.size + 1, off := 0 }), Value.pointer (some { block := w.heap.size + 1 + 1, off := 0 }), Value.bool false, Value.bool true, undef, undef, undef, Value.bool true, vs 0, vs 1, vs 2, vs 3, vs 4, vs 5, vs 6, vs 7, vs 8, vs 9, vs 10, vs 11, vs 12, undef, undef, undef, undef, undef, undef, undef, undef, undef, undef, undef, undef, undef, undef, undef, undef, undef, undef, undef, undef, undef, undef, undef, undef, undef, undef, undef, undef, undef, undef, undef, undef, undef, undef, undef, undef, undef, undef, undef, undef, undef, undef, undef, undef, undef, undef, undef, undef, undef, undef, undef, undef, undef, undef, undef, undef, undef, undef, undef, undef, undef, undef], defers := [] } ∧ Ext w1 w' ∧ ∀ j, D j → cmp2F w ax ay t m bx by' u k cx cy cv l x y W0 w1 j (vs j)) 13 (by kernel_rfl) (by kernel_rfl) (by kernel_rfl) ?startcmp2 ?stepcmp2 ?fincmp2
  case startcmp2 => exact ⟨fun _ => undef, rfl, Ext.drew _, fun _ h => h.elim⟩
  case stepcmp2 =>
    rintro i o D ac wz hin hio hnd he ⟨vs, rfl, k0, hF⟩
    rcases i with _ | _ | _ | _ | _ | _ | _ | _ | _ | _ | _ | _ | _ | i
    rotate_left 13
    · exact absurd hin (by omega)
    all_goals (obtain rfl := Option.some.inj (hio.symm.trans (by rfl)))
    · refine step_yes (wanted_of_none rfl _) ?_
      exact wp_of_run (run_ld_mo (.tmp 3) rfl _ _ rfl _ _ _ _ ((k0.row A_2.out).cell 0) ((k0.row A_2.out).cell 1) ((k0.row A_2.out).cell 2) ((k0.row A_2.out).cell 3)) ⟨upd vs 0 _, rfl, k0, inv_same hF rfl⟩
    · refine step_yes (wanted_of_none rfl _) ?_
      exact wp_of_run (run_ld_mo (.tmp 4) rfl _ _ rfl _ _ _ _ ((k0.row B_2.out).cell 0) ((k0.row B_2.out).cell 1) ((k0.row B_2.out).cell 2) ((k0.row B_2.out).cell 3)) ⟨upd vs 1 _, rfl, k0, inv_same hF rfl⟩
    · refine step_yes (wanted_of_none rfl _) ?_
      refine wp_of_callE (run_enter2 26 (.tmp 12) (.tmp 13) _ rfl _ _ (by exact (hF 0 (he ⟨0, .data⟩ (by simp) rfl))) (by exact (hF 1 (he ⟨1, .data⟩ (by simp) rfl))) (fun args w => enters_of Try.func26 (by kernel_rfl) rfl args w)) (vcompose ax ay t m bx by' u k wz) ?_
      rintro e w' ⟨rfl, hx⟩
      exact ⟨_, rfl, upd vs 2 _, rfl, k0.trans hx, inv_same hF rfl⟩
    · refine step_yes (wanted_of_none rfl _) ?_
      exact wp_of_run (run_fld_mv1 (.tmp 5) rfl _ _ rfl) ⟨upd vs 3 _, rfl, k0, inv_same hF rfl⟩
    · refine step_yes (wanted_of_none rfl _) ?_
      exact wp_of_run (run_ld_pt (.tmp 15) rfl _ _ (by exact (hF 3 (he ⟨3, .data⟩ (by simp) rfl))) _ _ ((k0.row C_2.out).cell 4) ((k0.row C_2.out).cell 5)) ⟨upd vs 4 _, rfl, k0, inv_same hF rfl⟩
    · refine step_yes (wanted_of_none rfl _) ?_
      refine wp_of_callE (run_enter2 24 (.tmp 14) (.tmp 16) _ rfl _ _ (by exact (hF 2 (he ⟨2, .data⟩ (by simp) rfl))) (by exact (hF 4 (he ⟨4, .data⟩ (by simp) rfl))) (fun args w => enters_of Try.func24 (by kernel_rfl) rfl args w)) (vapply (apX ax t m bx by') (apY ay t m bx by') (coT t m u) (m != k) x y wz) ?_
      rintro e w' ⟨rfl, hx⟩
      exact ⟨_, rfl, upd vs 5 _, rfl, k0.trans hx, inv_same hF rfl⟩
    · refine step_yes (wanted_of_none rfl _) ?_
      exact wp_of_run (run_ld_mo (.tmp 3) rfl _ _ rfl _ _ _ _ ((k0.row A_2.out).cell 0) ((k0.row A_2.out).cell 1) ((k0.row A_2.out).cell 2) ((k0.row A_2.out).cell 3)) ⟨upd vs 6 _, rfl, k0, inv_same hF rfl⟩
    · refine step_yes (wanted_of_none rfl _) ?_
      exact wp_of_run (run_ld_mo (.tmp 4) rfl _ _ rfl _ _ _ _ ((k0.row B_2.out).cell 0) ((k0.row B_2.out).cell 1) ((k0.row B_2.out).cell 2) ((k0.row B_2.out).cell 3)) ⟨upd vs 7 _, rfl, k0, inv_same hF rfl⟩
    · refine step_yes (wanted_of_none rfl _) ?_
      exact wp_of_run (run_fld_mv1 (.tmp 5) rfl _ _ rfl) ⟨upd vs 8 _, rfl, k0, inv_same hF rfl⟩
    · refine step_yes (wanted_of_none rfl _) ?_
      exact wp_of_run (run_ld_pt (.tmp 20) rfl _ _ (by exact (hF 8 (he ⟨8, .data⟩ (by simp) rfl))) _ _ ((k0.row C_2.out).cell 4) ((k0.row C_2.out).cell 5)) ⟨upd vs 9 _, rfl, k0, inv_same hF rfl⟩
    · refine step_yes (wanted_of_none rfl _) ?_
      refine wp_of_callE (run_enter2 24 (.tmp 19) (.tmp 21) _ rfl _ _ (by exact (hF 7 (he ⟨7, .data⟩ (by simp) rfl))) (by exact (hF 9 (he ⟨9, .data⟩ (by simp) rfl))) (fun args w => enters_of Try.func24 (by kernel_rfl) rfl args w)) (vapply bx by' u k x y wz) ?_
      rintro e w' ⟨rfl, hx⟩
      exact ⟨_, rfl, upd vs 10 _, rfl, k0.trans hx, inv_same hF rfl⟩
    · refine step_yes (wanted_of_none rfl _) ?_
      refine wp_of_callE (run_enter2 24 (.tmp 18) (.tmp 22) _ rfl _ _ (by exact (hF 6 (he ⟨6, .data⟩ (by simp) rfl))) (by exact (hF 10 (he ⟨10, .data⟩ (by simp) rfl))) (fun args w => enters_of Try.func24 (by kernel_rfl) rfl args w)) (vapply ax ay t m (apX bx u k x y) (apY by' u k x y) wz) ?_
      rintro e w' ⟨rfl, hx⟩
      exact ⟨_, rfl, upd vs 11 _, rfl, k0.trans hx, inv_same hF rfl⟩
    · refine step_yes (wanted_of_none rfl _) ?_
      exact wp_of_run (run_eq_pt (.tmp 17) (.tmp 23) rfl _ _ _ _ (by exact (hF 5 (he ⟨5, .data⟩ (by simp) rfl))) (by exact (hF 11 (he ⟨11, .data⟩ (by simp) rfl))) _ (by rw [decide_eq_true (comp_X ax ay t m bx by' u k x y), decide_eq_true (comp_Y ax ay t m bx by' u k x y)]; rfl)) ⟨upd vs 12 _, rfl, k0, inv_same hF rfl⟩
  case fincmp2 =>
    rintro D ac wfcmp2 hD ⟨vs, rfl, k0, hF⟩
    change wpList _ _ _ [_] _ _
    have hl12 : vs 12 = .bool true := hF 12 (hD 12 (by decide))
    rw [hl12]
    clear hl12
    clear hF hD
    generalize vs = tvcmp2
    have E3 := Lib.hid (E2.out.trans k0)
    have A_3 := Lib.hid (k0.row A_2.out)
    have B_3 := Lib.hid (k0.row B_2.out)
    have C_3 := Lib.hid (k0.row C_2.out)
    clear E2 A_2 B_2 C_2
    clear k0
    go_wp2_with fail
    refine wp_region_tail (fun D ac w' => ∃ vs : Nat → Value, ac = { tmps := #[Value.agg #[Value.int IntKind.i64 ax, Value.int IntKind.i64 ay, Value.int IntKind.i64 t, Value.bool m], Value.agg #[Value.int IntKind.i64 bx, Value.int IntKind.i64 by', Value.int IntKind.i64 u, Value.bool k], Value.agg #[Value.int IntKind.i64 cx, Value.int IntKind.i64 cy, Value.int IntKind.i64 cv, Value.bool l, Value.int IntKind.i64 x, Value.int IntKind.i64 y], Value.pointer (some { block := w.heap.size, off := 0 }), Value.pointer (some { block := w.heap.size + 1, off := 0 }), Value.pointer (some { block := w.heap.size + 1 + 1, off := 0 }), Value.bool false, Value.bool true, Value.bool true, undef, undef, Value.bool true, tvcmp2 0, tvcmp2 1, tvcmp2 2, tvcmp2 3, tvcmp2 4, tvcmp2 5, tvcmp2 6, tvcmp2 7, tvcmp2 8, tvcmp2 9, tvcmp2 10, tvcmp2 11, Value.bool true, vs 0, vs 1, vs 2, vs 3, vs 4, vs 5, vs 6, vs 7, vs 8, vs 9, vs 10, vs 11, vs 12, vs 13, vs 14, vs 15, vs 16, vs 17, vs 18, vs 19, vs 20, vs 21, undef, undef, undef, undef, undef, undef, undef, undef, undef, undef, undef, undef, undef, undef, undef, undef, undef, undef, undef, undef, undef, undef, undef, undef, undef, undef, undef, undef, undef, undef, undef, undef, undef, undef, undef, undef, undef, undef, undef, undef], defers := [] } ∧ Ext wfcmp2 w' ∧ ∀ j, D j → cmp3F w ax ay t m bx by' u k cx cy cv l x y W0 w1 wfcmp2 tvcmp2 j (vs j)) 22 (by kernel_rfl) (by kernel_rfl) (by kernel_rfl) ?startcmp3 ?stepcmp3 ?fincmp3
    case startcmp3 => exact ⟨fun _ => undef, rfl, Ext.drew _, fun _ h => h.elim⟩
    case stepcmp3 =>
      rintro i o D ac wz hin hio hnd he ⟨vs, rfl, k0, hF⟩
      rcases i with _ | _ | _ | _ | _ | _ | _ | _ | _ | _ | _ | _ | _ | _ | _ | _ | _ | _ | _ | _ | _ | _ | i
      rotate_left 22
      · exact absurd hin (by omega)
      all_goals (obtain rfl := Option.some.inj (hio.symm.trans (by rfl)))
      · refine step_yes (wanted_of_none rfl _) ?_
        exact wp_of_run (run_ld_mo (.tmp 3) rfl _ _ rfl _ _ _ _ ((k0.row A_3.out).cell 0) ((k0.row A_3.out).cell 1) ((k0.row A_3.out).cell 2) ((k0.row A_3.out).cell 3)) ⟨upd vs 0 _, rfl, k0, inv_same hF rfl⟩
      · refine step_yes (wanted_of_none rfl _) ?_
        refine wp_of_callE (run_enter1 28 (.tmp 25) _ rfl _ (by exact (hF 0 (he ⟨0, .data⟩ (by simp) rfl))) (fun args w => enters_of Try.func28 (by kernel_rfl) rfl args w)) (vinverse ax ay t m wz) ?_
        rintro e w' ⟨rfl, hx⟩
        exact ⟨_, rfl, upd vs 1 _, rfl, k0.trans hx, inv_same hF rfl⟩
      · refine step_yes (wanted_of_none rfl _) ?_
        exact wp_of_run (run_ld_mo (.tmp 3) rfl _ _ rfl _ _ _ _ ((k0.row A_3.out).cell 0) ((k0.row A_3.out).cell 1) ((k0.row A_3.out).cell 2) ((k0.row A_3.out).cell 3)) ⟨upd vs 2 _, rfl, k0, inv_same hF rfl⟩
      · refine step_yes (wanted_of_none rfl _) ?_
        exact wp_of_run (run_fld_mv1 (.tmp 5) rfl _ _ rfl) ⟨upd vs 3 _, rfl, k0, inv_same hF rfl⟩
      · refine step_yes (wanted_of_none rfl _) ?_
        exact wp_of_run (run_ld_pt (.tmp 28) rfl _ _ (by exact (hF 3 (he ⟨3, .data⟩ (by simp) rfl))) _ _ ((k0.row C_3.out).cell 4) ((k0.row C_3.out).cell 5)) ⟨upd vs 4 _, rfl, k0, inv_same hF rfl⟩
      · refine step_yes (wanted_of_none rfl _) ?_
        refine wp_of_callE (run_enter2 24 (.tmp 27) (.tmp 29) _ rfl _ _ (by exact (hF 2 (he ⟨2, .data⟩ (by simp) rfl))) (by exact (hF 4 (he ⟨4, .data⟩ (by simp) rfl))) (fun args w => enters_of Try.func24 (by kernel_rfl) rfl args w)) (vapply ax ay t m x y wz) ?_
        rintro e w' ⟨rfl, hx⟩
        exact ⟨_, rfl, upd vs 5 _, rfl, k0.trans hx, inv_same hF rfl⟩
      · refine step_yes (wanted_of_none rfl _) ?_
        refine wp_of_callE (run_enter2 24 (.tmp 26) (.tmp 30) _ rfl _ _ (by exact (hF 1 (he ⟨1, .data⟩ (by simp) rfl))) (by exact (hF 5 (he ⟨5, .data⟩ (by simp) rfl))) (fun args w => enters_of Try.func24 (by kernel_rfl) rfl args w)) (vapply (inX ax ay t m) (inY ax ay t m) (inT t m) m (apX ax t m x y) (apY ay t m x y) wz) ?_
        rintro e w' ⟨rfl, hx⟩
        exact ⟨_, rfl, upd vs 6 _, rfl, k0.trans hx, inv_same hF rfl⟩
      · refine step_yes (wanted_of_none rfl _) ?_
        exact wp_of_run (run_fld_mv1 (.tmp 5) rfl _ _ rfl) ⟨upd vs 7 _, rfl, k0, inv_same hF rfl⟩
      · refine step_yes (wanted_of_none rfl _) ?_
        exact wp_of_run (run_ld_pt (.tmp 32) rfl _ _ (by exact (hF 7 (he ⟨7, .data⟩ (by simp) rfl))) _ _ ((k0.row C_3.out).cell 4) ((k0.row C_3.out).cell 5)) ⟨upd vs 8 _, rfl, k0, inv_same hF rfl⟩
      · refine step_yes (wanted_of_none rfl _) ?_
        exact wp_of_run (run_eq_pt (.tmp 31) (.tmp 33) rfl _ _ _ _ (by exact (hF 6 (he ⟨6, .data⟩ (by simp) rfl))) (by exact (hF 8 (he ⟨8, .data⟩ (by simp) rfl))) _ (by rw [decide_eq_true ((undo_X ax ay t m x y).trans HX.out), decide_eq_true ((undo_Y ax ay t m x y).trans HY.out)]; rfl)) ⟨upd vs 9 _, rfl, k0, inv_same hF rfl⟩
      · refine step_yes (wanted_of_none rfl _) ?_
        exact wp_of_run (run_mov (.tmp 34) rfl _ (by exact (hF 9 (he ⟨9, .data⟩ (by simp) rfl)))) ⟨upd vs 10 _, rfl, k0, inv_same hF rfl⟩
      · refine step_yes (wanted_g (j := 10) (d := 35) rfl rfl rfl (hF 10 (he ⟨10, .guard⟩ (by simp) rfl))) ?_
        exact wp_of_run (run_ld_mo (.tmp 3) rfl _ _ rfl _ _ _ _ ((k0.row A_3.out).cell 0) ((k0.row A_3.out).cell 1) ((k0.row A_3.out).cell 2) ((k0.row A_3.out).cell 3)) ⟨upd vs 11 _, rfl, k0, inv_same hF rfl⟩
      · refine step_yes (wanted_g (j := 10) (d := 35) rfl rfl rfl (hF 10 (he ⟨10, .guard⟩ (by simp) rfl))) ?_
        exact wp_of_run (run_ld_mo (.tmp 3) rfl _ _ rfl _ _ _ _ ((k0.row A_3.out).cell 0) ((k0.row A_3.out).cell 1) ((k0.row A_3.out).cell 2) ((k0.row A_3.out).cell 3)) ⟨upd vs 12 _, rfl, k0, inv_same hF rfl⟩
      · refine step_yes (wanted_g (j := 10) (d := 35) rfl rfl rfl (hF 10 (he ⟨10, .chain⟩ (by simp) rfl))) ?_
        refine wp_of_callE (run_enter1 28 (.tmp 37) _ rfl _ (by exact (hF 12 (he ⟨12, .data⟩ (by simp) rfl))) (fun args w => enters_of Try.func28 (by kernel_rfl) rfl args w)) (vinverse ax ay t m wz) ?_
        rintro e w' ⟨rfl, hx⟩
        exact ⟨_, rfl, upd vs 13 _, rfl, k0.trans hx, inv_same hF rfl⟩
      · refine step_yes (wanted_g (j := 10) (d := 35) rfl rfl rfl (hF 10 (he ⟨10, .guard⟩ (by simp) rfl))) ?_
        exact wp_of_run (run_fld_mv1 (.tmp 5) rfl _ _ rfl) ⟨upd vs 14 _, rfl, k0, inv_same hF rfl⟩
      · refine step_yes (wanted_g (j := 10) (d := 35) rfl rfl rfl (hF 10 (he ⟨10, .guard⟩ (by simp) rfl))) ?_
        exact wp_of_run (run_ld_pt (.tmp 39) rfl _ _ (by exact (hF 14 (he ⟨14, .data⟩ (by simp) rfl))) _ _ ((k0.row C_3.out).cell 4) ((k0.row C_3.out).cell 5)) ⟨upd vs 15 _, rfl, k0, inv_same hF rfl⟩
      · refine step_yes (wanted_g (j := 10) (d := 35) rfl rfl rfl (hF 10 (he ⟨10, .guard⟩ (by simp) rfl))) ?_
        refine wp_of_callE (run_enter2 24 (.tmp 38) (.tmp 40) _ rfl _ _ (by exact (hF 13 (he ⟨13, .data⟩ (by simp) rfl))) (by exact (hF 15 (he ⟨15, .data⟩ (by simp) rfl))) (fun args w => enters_of Try.func24 (by kernel_rfl) rfl args w)) (vapply (inX ax ay t m) (inY ax ay t m) (inT t m) m x y wz) ?_
        rintro e w' ⟨rfl, hx⟩
        exact ⟨_, rfl, upd vs 16 _, rfl, k0.trans hx, inv_same hF rfl⟩
      · refine step_yes (wanted_g (j := 10) (d := 35) rfl rfl rfl (hF 10 (he ⟨10, .guard⟩ (by simp) rfl))) ?_
        refine wp_of_callE (run_enter2 24 (.tmp 36) (.tmp 41) _ rfl _ _ (by exact (hF 11 (he ⟨11, .data⟩ (by simp) rfl))) (by exact (hF 16 (he ⟨16, .data⟩ (by simp) rfl))) (fun args w => enters_of Try.func24 (by kernel_rfl) rfl args w)) (vapply ax ay t m (apX (inX ax ay t m) (inT t m) m x y) (apY (inY ax ay t m) (inT t m) m x y) wz) ?_
        rintro e w' ⟨rfl, hx⟩
        exact ⟨_, rfl, upd vs 17 _, rfl, k0.trans hx, inv_same hF rfl⟩
      · refine step_yes (wanted_g (j := 10) (d := 35) rfl rfl rfl (hF 10 (he ⟨10, .guard⟩ (by simp) rfl))) ?_
        exact wp_of_run (run_fld_mv1 (.tmp 5) rfl _ _ rfl) ⟨upd vs 18 _, rfl, k0, inv_same hF rfl⟩
      · refine step_yes (wanted_g (j := 10) (d := 35) rfl rfl rfl (hF 10 (he ⟨10, .guard⟩ (by simp) rfl))) ?_
        exact wp_of_run (run_ld_pt (.tmp 43) rfl _ _ (by exact (hF 18 (he ⟨18, .data⟩ (by simp) rfl))) _ _ ((k0.row C_3.out).cell 4) ((k0.row C_3.out).cell 5)) ⟨upd vs 19 _, rfl, k0, inv_same hF rfl⟩
      · refine step_yes (wanted_g (j := 10) (d := 35) rfl rfl rfl (hF 10 (he ⟨10, .guard⟩ (by simp) rfl))) ?_
        exact wp_of_run (run_eq_pt (.tmp 42) (.tmp 44) rfl _ _ _ _ (by exact (hF 17 (he ⟨17, .data⟩ (by simp) rfl))) (by exact (hF 19 (he ⟨19, .data⟩ (by simp) rfl))) _ (by rw [decide_eq_true ((redo_X ax ay t m x y).trans HX.out), decide_eq_true ((redo_Y ax ay t m x y).trans HY.out)]; rfl)) ⟨upd vs 20 _, rfl, k0, inv_same hF rfl⟩
      · refine step_yes (wanted_of_none rfl _) ?_
        exact wp_of_run (run_pick_t (.tmp 35) (.tmp 45) (.const (.bool false)) rfl (by exact (hF 10 (he ⟨10, .data⟩ (by simp) rfl))) _ (by exact (hF 20 (he ⟨20, .data⟩ (by simp) rfl)))) ⟨upd vs 21 _, rfl, k0, inv_same hF rfl⟩
    case fincmp3 =>
      rintro D ac wfcmp3 hD ⟨vs, rfl, k0, hF⟩
      change wpList _ _ _ [_] _ _
      have hl21 : vs 21 = .bool true := hF 21 (hD 21 (by decide))
      rw [hl21]
      clear hl21
      clear hF hD
      generalize vs = tvcmp3
      have E4 := Lib.hid (E3.out.trans k0)
      have A_4 := Lib.hid (k0.row A_3.out)
      have B_4 := Lib.hid (k0.row B_3.out)
      have C_4 := Lib.hid (k0.row C_3.out)
      clear E3 A_3 B_3 C_3
      clear k0
      go_wp2_with fail
      refine wp_region_tail (fun D ac w' => ∃ vs : Nat → Value, ac = { tmps := #[Value.agg #[Value.int IntKind.i64 ax, Value.int IntKind.i64 ay, Value.int IntKind.i64 t, Value.bool m], Value.agg #[Value.int IntKind.i64 bx, Value.int IntKind.i64 by', Value.int IntKind.i64 u, Value.bool k], Value.agg #[Value.int IntKind.i64 cx, Value.int IntKind.i64 cy, Value.int IntKind.i64 cv, Value.bool l, Value.int IntKind.i64 x, Value.int IntKind.i64 y], Value.pointer (some { block := w.heap.size, off := 0 }), Value.pointer (some { block := w.heap.size + 1, off := 0 }), Value.pointer (some { block := w.heap.size + 1 + 1, off := 0 }), Value.bool false, Value.bool true, Value.bool true, Value.bool true, undef, Value.bool true, tvcmp2 0, tvcmp2 1, tvcmp2 2, tvcmp2 3, tvcmp2 4, tvcmp2 5, tvcmp2 6, tvcmp2 7, tvcmp2 8, tvcmp2 9, tvcmp2 10, tvcmp2 11, Value.bool true, tvcmp3 0, tvcmp3 1, tvcmp3 2, tvcmp3 3, tvcmp3 4, tvcmp3 5, tvcmp3 6, tvcmp3 7, tvcmp3 8, tvcmp3 9, tvcmp3 10, tvcmp3 11, tvcmp3 12, tvcmp3 13, tvcmp3 14, tvcmp3 15, tvcmp3 16, tvcmp3 17, tvcmp3 18, tvcmp3 19, tvcmp3 20, Value.bool true, vs 0, vs 1, vs 2, vs 3, vs 4, vs 5, vs 6, vs 7, vs 8, vs 9, vs 10, vs 11, vs 12, vs 13, vs 14, vs 15, vs 16, vs 17, vs 18, vs 19, vs 20, vs 21, undef, undef, undef, undef, undef, undef, undef, undef, undef, undef, undef, undef, undef, undef, undef, undef, undef, undef], defers := [] } ∧ Ext wfcmp3 w' ∧ ∀ j, D j → cmp4F w ax ay t m bx by' u k cx cy cv l x y W0 w1 wfcmp2 tvcmp2 wfcmp3 tvcmp3 j (vs j)) 22 (by kernel_rfl) (by kernel_rfl) (by kernel_rfl) ?startcmp4 ?stepcmp4 ?fincmp4
      case startcmp4 => exact ⟨fun _ => undef, rfl, Ext.drew _, fun _ h => h.elim⟩
      case stepcmp4 =>
        rintro i o D ac wz hin hio hnd he ⟨vs, rfl, k0, hF⟩
        rcases i with _ | _ | _ | _ | _ | _ | _ | _ | _ | _ | _ | _ | _ | _ | _ | _ | _ | _ | _ | _ | _ | _ | i
        rotate_left 22
        · exact absurd hin (by omega)
        all_goals (obtain rfl := Option.some.inj (hio.symm.trans (by rfl)))
        · refine step_yes (wanted_of_none rfl _) ?_
          exact wp_of_run (run_ld_mo (.tmp 3) rfl _ _ rfl _ _ _ _ ((k0.row A_4.out).cell 0) ((k0.row A_4.out).cell 1) ((k0.row A_4.out).cell 2) ((k0.row A_4.out).cell 3)) ⟨upd vs 0 _, rfl, k0, inv_same hF rfl⟩
        · refine step_yes (wanted_of_none rfl _) ?_
          exact wp_of_run (run_ld_mo (.tmp 4) rfl _ _ rfl _ _ _ _ ((k0.row B_4.out).cell 0) ((k0.row B_4.out).cell 1) ((k0.row B_4.out).cell 2) ((k0.row B_4.out).cell 3)) ⟨upd vs 1 _, rfl, k0, inv_same hF rfl⟩
        · refine step_yes (wanted_of_none rfl _) ?_
          refine wp_of_callE (run_enter2 26 (.tmp 47) (.tmp 48) _ rfl _ _ (by exact (hF 0 (he ⟨0, .data⟩ (by simp) rfl))) (by exact (hF 1 (he ⟨1, .data⟩ (by simp) rfl))) (fun args w => enters_of Try.func26 (by kernel_rfl) rfl args w)) (vcompose ax ay t m bx by' u k wz) ?_
          rintro e w' ⟨rfl, hx⟩
          exact ⟨_, rfl, upd vs 2 _, rfl, k0.trans hx, inv_same hF rfl⟩
        · refine step_yes (wanted_of_none rfl _) ?_
          exact wp_of_run (run_fld_mv0 (.tmp 5) rfl _ _ rfl) ⟨upd vs 3 _, rfl, k0, inv_same hF rfl⟩
        · refine step_yes (wanted_of_none rfl _) ?_
          exact wp_of_run (run_ld_mo (.tmp 50) rfl _ _ (by exact (hF 3 (he ⟨3, .data⟩ (by simp) rfl))) _ _ _ _ ((k0.row C_4.out).cell 0) ((k0.row C_4.out).cell 1) ((k0.row C_4.out).cell 2) ((k0.row C_4.out).cell 3)) ⟨upd vs 4 _, rfl, k0, inv_same hF rfl⟩
        · refine step_yes (wanted_of_none rfl _) ?_
          refine wp_of_callE (run_enter2 26 (.tmp 49) (.tmp 51) _ rfl _ _ (by exact (hF 2 (he ⟨2, .data⟩ (by simp) rfl))) (by exact (hF 4 (he ⟨4, .data⟩ (by simp) rfl))) (fun args w => enters_of Try.func26 (by kernel_rfl) rfl args w)) (vcompose (apX ax t m bx by') (apY ay t m bx by') (coT t m u) (m != k) cx cy cv l wz) ?_
          rintro e w' ⟨rfl, hx⟩
          exact ⟨_, rfl, upd vs 5 _, rfl, k0.trans hx, inv_same hF rfl⟩
        · refine step_yes (wanted_of_none rfl _) ?_
          exact wp_of_run (run_ld_mo (.tmp 3) rfl _ _ rfl _ _ _ _ ((k0.row A_4.out).cell 0) ((k0.row A_4.out).cell 1) ((k0.row A_4.out).cell 2) ((k0.row A_4.out).cell 3)) ⟨upd vs 6 _, rfl, k0, inv_same hF rfl⟩
        · refine step_yes (wanted_of_none rfl _) ?_
          exact wp_of_run (run_ld_mo (.tmp 4) rfl _ _ rfl _ _ _ _ ((k0.row B_4.out).cell 0) ((k0.row B_4.out).cell 1) ((k0.row B_4.out).cell 2) ((k0.row B_4.out).cell 3)) ⟨upd vs 7 _, rfl, k0, inv_same hF rfl⟩
        · refine step_yes (wanted_of_none rfl _) ?_
          exact wp_of_run (run_fld_mv0 (.tmp 5) rfl _ _ rfl) ⟨upd vs 8 _, rfl, k0, inv_same hF rfl⟩
        · refine step_yes (wanted_of_none rfl _) ?_
          exact wp_of_run (run_ld_mo (.tmp 55) rfl _ _ (by exact (hF 8 (he ⟨8, .data⟩ (by simp) rfl))) _ _ _ _ ((k0.row C_4.out).cell 0) ((k0.row C_4.out).cell 1) ((k0.row C_4.out).cell 2) ((k0.row C_4.out).cell 3)) ⟨upd vs 9 _, rfl, k0, inv_same hF rfl⟩
        · refine step_yes (wanted_of_none rfl _) ?_
          refine wp_of_callE (run_enter2 26 (.tmp 54) (.tmp 56) _ rfl _ _ (by exact (hF 7 (he ⟨7, .data⟩ (by simp) rfl))) (by exact (hF 9 (he ⟨9, .data⟩ (by simp) rfl))) (fun args w => enters_of Try.func26 (by kernel_rfl) rfl args w)) (vcompose bx by' u k cx cy cv l wz) ?_
          rintro e w' ⟨rfl, hx⟩
          exact ⟨_, rfl, upd vs 10 _, rfl, k0.trans hx, inv_same hF rfl⟩
        · refine step_yes (wanted_of_none rfl _) ?_
          refine wp_of_callE (run_enter2 26 (.tmp 53) (.tmp 57) _ rfl _ _ (by exact (hF 6 (he ⟨6, .data⟩ (by simp) rfl))) (by exact (hF 10 (he ⟨10, .data⟩ (by simp) rfl))) (fun args w => enters_of Try.func26 (by kernel_rfl) rfl args w)) (vcompose ax ay t m (apX bx u k cx cy) (apY by' u k cx cy) (coT u k cv) (k != l) wz) ?_
          rintro e w' ⟨rfl, hx⟩
          exact ⟨_, rfl, upd vs 11 _, rfl, k0.trans hx, inv_same hF rfl⟩
        · refine step_yes (wanted_of_none rfl _) ?_
          exact wp_of_run (run_eq_mo4 (.tmp 52) (.tmp 58) rfl _ _ _ _ _ _ _ _ (by exact (hF 5 (he ⟨5, .data⟩ (by simp) rfl))) (by exact (hF 11 (he ⟨11, .data⟩ (by simp) rfl))) (comp_X ax ay t m bx by' u k cx cy) (comp_Y ax ay t m bx by' u k cx cy) (co_assoc t m u k cv) (ne_assoc m k l)) ⟨upd vs 12 _, rfl, k0, inv_same hF rfl⟩
        · refine step_yes (wanted_of_none rfl _) ?_
          exact wp_of_run (run_mov (.tmp 59) rfl _ (by exact (hF 12 (he ⟨12, .data⟩ (by simp) rfl)))) ⟨upd vs 13 _, rfl, k0, inv_same hF rfl⟩
        · refine step_yes (wanted_g (j := 13) (d := 60) rfl rfl rfl (hF 13 (he ⟨13, .guard⟩ (by simp) rfl))) ?_
          exact wp_of_run (run_ld_mo (.tmp 3) rfl _ _ rfl _ _ _ _ ((k0.row A_4.out).cell 0) ((k0.row A_4.out).cell 1) ((k0.row A_4.out).cell 2) ((k0.row A_4.out).cell 3)) ⟨upd vs 14 _, rfl, k0, inv_same hF rfl⟩
        · refine step_yes (wanted_g (j := 13) (d := 60) rfl rfl rfl (hF 13 (he ⟨13, .chain⟩ (by simp) rfl))) ?_
          refine wp_of_callE (run_enter1 28 (.tmp 61) _ rfl _ (by exact (hF 14 (he ⟨14, .data⟩ (by simp) rfl))) (fun args w => enters_of Try.func28 (by kernel_rfl) rfl args w)) (vinverse ax ay t m wz) ?_
          rintro e w' ⟨rfl, hx⟩
          exact ⟨_, rfl, upd vs 15 _, rfl, k0.trans hx, inv_same hF rfl⟩
        · refine step_yes (wanted_g (j := 13) (d := 60) rfl rfl rfl (hF 13 (he ⟨13, .guard⟩ (by simp) rfl))) ?_
          refine wp_of_callE (run_enter1 28 (.tmp 62) _ rfl _ (by exact (hF 15 (he ⟨15, .data⟩ (by simp) rfl))) (fun args w => enters_of Try.func28 (by kernel_rfl) rfl args w)) (vinverse (inX ax ay t m) (inY ax ay t m) (inT t m) m wz) ?_
          rintro e w' ⟨rfl, hx⟩
          exact ⟨_, rfl, upd vs 16 _, rfl, k0.trans hx, inv_same hF rfl⟩
        · refine step_yes (wanted_g (j := 13) (d := 60) rfl rfl rfl (hF 13 (he ⟨13, .guard⟩ (by simp) rfl))) ?_
          exact wp_of_run (run_ld_mo (.tmp 3) rfl _ _ rfl _ _ _ _ ((k0.row A_4.out).cell 0) ((k0.row A_4.out).cell 1) ((k0.row A_4.out).cell 2) ((k0.row A_4.out).cell 3)) ⟨upd vs 17 _, rfl, k0, inv_same hF rfl⟩
        · refine step_yes (wanted_g (j := 13) (d := 60) rfl rfl rfl (hF 13 (he ⟨13, .guard⟩ (by simp) rfl))) ?_
          exact wp_of_run (run_build_mo0 rfl) ⟨upd vs 18 _, rfl, k0, inv_same hF rfl⟩
        · refine step_yes (wanted_g (j := 13) (d := 60) rfl rfl rfl (hF 13 (he ⟨13, .guard⟩ (by simp) rfl))) ?_
          refine wp_of_callE (run_enter2 26 (.tmp 64) (.tmp 65) _ rfl _ _ (by exact (hF 17 (he ⟨17, .data⟩ (by simp) rfl))) (by exact (hF 18 (he ⟨18, .data⟩ (by simp) rfl))) (fun args w => enters_of Try.func26 (by kernel_rfl) rfl args w)) (vcompose ax ay t m 0 0 0 false wz) ?_
          rintro e w' ⟨rfl, hx⟩
          exact ⟨_, rfl, upd vs 19 _, rfl, k0.trans hx, inv_same hF rfl⟩
        · refine step_yes (wanted_g (j := 13) (d := 60) rfl rfl rfl (hF 13 (he ⟨13, .guard⟩ (by simp) rfl))) ?_
          exact wp_of_run (run_eq_mo4 (.tmp 63) (.tmp 66) rfl _ _ _ _ _ _ _ _ (by exact (hF 16 (he ⟨16, .data⟩ (by simp) rfl))) (by exact (hF 19 (he ⟨19, .data⟩ (by simp) rfl))) (in_in_X ax ay t m) (in_in_Y ax ay t m) (inT_in t m) (by cases m <;> rfl)) ⟨upd vs 20 _, rfl, k0, inv_same hF rfl⟩
        · refine step_yes (wanted_of_none rfl _) ?_
          exact wp_of_run (run_pick_t (.tmp 60) (.tmp 67) (.const (.bool false)) rfl (by exact (hF 13 (he ⟨13, .data⟩ (by simp) rfl))) _ (by exact (hF 20 (he ⟨20, .data⟩ (by simp) rfl)))) ⟨upd vs 21 _, rfl, k0, inv_same hF rfl⟩
      case fincmp4 =>
        rintro D ac wfcmp4 hD ⟨vs, rfl, k0, hF⟩
        change wpList _ _ _ [_] _ _
        have hl21 : vs 21 = .bool true := hF 21 (hD 21 (by decide))
        rw [hl21]
        clear hl21
        clear hF hD
        generalize vs = tvcmp4
        have E5 := Lib.hid (E4.out.trans k0)
        have A_5 := Lib.hid (k0.row A_4.out)
        have B_5 := Lib.hid (k0.row B_4.out)
        have C_5 := Lib.hid (k0.row C_4.out)
        clear E4 A_4 B_4 C_4
        clear k0
        go_wp2_with fail
        refine wp_region_tail (fun D ac w' => ∃ vs : Nat → Value, ac = { tmps := #[Value.agg #[Value.int IntKind.i64 ax, Value.int IntKind.i64 ay, Value.int IntKind.i64 t, Value.bool m], Value.agg #[Value.int IntKind.i64 bx, Value.int IntKind.i64 by', Value.int IntKind.i64 u, Value.bool k], Value.agg #[Value.int IntKind.i64 cx, Value.int IntKind.i64 cy, Value.int IntKind.i64 cv, Value.bool l, Value.int IntKind.i64 x, Value.int IntKind.i64 y], Value.pointer (some { block := w.heap.size, off := 0 }), Value.pointer (some { block := w.heap.size + 1, off := 0 }), Value.pointer (some { block := w.heap.size + 1 + 1, off := 0 }), Value.bool false, Value.bool true, Value.bool true, Value.bool true, Value.bool true, Value.bool true, tvcmp2 0, tvcmp2 1, tvcmp2 2, tvcmp2 3, tvcmp2 4, tvcmp2 5, tvcmp2 6, tvcmp2 7, tvcmp2 8, tvcmp2 9, tvcmp2 10, tvcmp2 11, Value.bool true, tvcmp3 0, tvcmp3 1, tvcmp3 2, tvcmp3 3, tvcmp3 4, tvcmp3 5, tvcmp3 6, tvcmp3 7, tvcmp3 8, tvcmp3 9, tvcmp3 10, tvcmp3 11, tvcmp3 12, tvcmp3 13, tvcmp3 14, tvcmp3 15, tvcmp3 16, tvcmp3 17, tvcmp3 18, tvcmp3 19, tvcmp3 20, Value.bool true, tvcmp4 0, tvcmp4 1, tvcmp4 2, tvcmp4 3, tvcmp4 4, tvcmp4 5, tvcmp4 6, tvcmp4 7, tvcmp4 8, tvcmp4 9, tvcmp4 10, tvcmp4 11, tvcmp4 12, tvcmp4 13, tvcmp4 14, tvcmp4 15, tvcmp4 16, tvcmp4 17, tvcmp4 18, tvcmp4 19, tvcmp4 20, Value.bool true, vs 0, vs 1, vs 2, vs 3, vs 4, vs 5, vs 6, vs 7, vs 8, vs 9, vs 10, vs 11, vs 12, vs 13, vs 14, vs 15, vs 16, vs 17], defers := [] } ∧ Ext wfcmp4 w' ∧ ∀ j, D j → cmp5F w ax ay t m bx by' u k cx cy cv l x y W0 w1 wfcmp2 tvcmp2 wfcmp3 tvcmp3 wfcmp4 tvcmp4 j (vs j)) 18 (by kernel_rfl) (by kernel_rfl) (by kernel_rfl) ?startcmp5 ?stepcmp5 ?fincmp5
        case startcmp5 => exact ⟨fun _ => undef, rfl, Ext.drew _, fun _ h => h.elim⟩
        case stepcmp5 =>
          rintro i o D ac wz hin hio hnd he ⟨vs, rfl, k0, hF⟩
          rcases i with _ | _ | _ | _ | _ | _ | _ | _ | _ | _ | _ | _ | _ | _ | _ | _ | _ | _ | i
          rotate_left 18
          · exact absurd hin (by omega)
          all_goals (obtain rfl := Option.some.inj (hio.symm.trans (by rfl)))
          · refine step_yes (wanted_of_none rfl _) ?_
            exact wp_of_run (run_mov (.tmp 7) rfl _ rfl) ⟨upd vs 0 _, rfl, k0, inv_same hF rfl⟩
          · refine step_yes (wanted_of_none rfl _) ?_
            exact wp_of_run (run_mov (.tmp 69) rfl _ (by exact (hF 0 (he ⟨0, .data⟩ (by simp) rfl)))) ⟨upd vs 1 _, rfl, k0, inv_same hF rfl⟩
          · refine step_yes (wanted_g (j := 1) (d := 70) rfl rfl rfl (hF 1 (he ⟨1, .guard⟩ (by simp) rfl))) ?_
            exact wp_of_run (run_mov (.tmp 8) rfl _ rfl) ⟨upd vs 2 _, rfl, k0, inv_same hF rfl⟩
          · refine step_yes (wanted_of_none rfl _) ?_
            exact wp_of_run (run_pick_t (.tmp 70) (.tmp 71) (.const (.bool false)) rfl (by exact (hF 1 (he ⟨1, .data⟩ (by simp) rfl))) _ (by exact (hF 2 (he ⟨2, .data⟩ (by simp) rfl)))) ⟨upd vs 3 _, rfl, k0, inv_same hF rfl⟩
          · refine step_yes (wanted_of_none rfl _) ?_
            exact wp_of_run (run_mov (.tmp 72) rfl _ (by exact (hF 3 (he ⟨3, .data⟩ (by simp) rfl)))) ⟨upd vs 4 _, rfl, k0, inv_same hF rfl⟩
          · refine step_yes (wanted_g (j := 4) (d := 73) rfl rfl rfl (hF 4 (he ⟨4, .guard⟩ (by simp) rfl))) ?_
            exact wp_of_run (run_mov (.tmp 9) rfl _ rfl) ⟨upd vs 5 _, rfl, k0, inv_same hF rfl⟩
          · refine step_yes (wanted_of_none rfl _) ?_
            exact wp_of_run (run_pick_t (.tmp 73) (.tmp 74) (.const (.bool false)) rfl (by exact (hF 4 (he ⟨4, .data⟩ (by simp) rfl))) _ (by exact (hF 5 (he ⟨5, .data⟩ (by simp) rfl)))) ⟨upd vs 6 _, rfl, k0, inv_same hF rfl⟩
          · refine step_yes (wanted_of_none rfl _) ?_
            exact wp_of_run (run_mov (.tmp 75) rfl _ (by exact (hF 6 (he ⟨6, .data⟩ (by simp) rfl)))) ⟨upd vs 7 _, rfl, k0, inv_same hF rfl⟩
          · refine step_yes (wanted_g (j := 7) (d := 76) rfl rfl rfl (hF 7 (he ⟨7, .guard⟩ (by simp) rfl))) ?_
            exact wp_of_run (run_mov (.tmp 10) rfl _ rfl) ⟨upd vs 8 _, rfl, k0, inv_same hF rfl⟩
          · refine step_yes (wanted_of_none rfl _) ?_
            exact wp_of_run (run_pick_t (.tmp 76) (.tmp 77) (.const (.bool false)) rfl (by exact (hF 7 (he ⟨7, .data⟩ (by simp) rfl))) _ (by exact (hF 8 (he ⟨8, .data⟩ (by simp) rfl)))) ⟨upd vs 9 _, rfl, k0, inv_same hF rfl⟩
          · refine step_yes (wanted_of_none rfl _) ?_
            exact wp_of_run (run_mov (.tmp 78) rfl _ (by exact (hF 9 (he ⟨9, .data⟩ (by simp) rfl)))) ⟨upd vs 10 _, rfl, k0, inv_same hF rfl⟩
          · refine step_yes (wanted_g (j := 10) (d := 79) rfl rfl rfl (hF 10 (he ⟨10, .guard⟩ (by simp) rfl))) ?_
            exact wp_of_run (run_ld_mo (.tmp 3) rfl _ _ rfl _ _ _ _ ((k0.row A_5.out).cell 0) ((k0.row A_5.out).cell 1) ((k0.row A_5.out).cell 2) ((k0.row A_5.out).cell 3)) ⟨upd vs 11 _, rfl, k0, inv_same hF rfl⟩
          · refine step_yes (wanted_g (j := 10) (d := 79) rfl rfl rfl (hF 10 (he ⟨10, .chain⟩ (by simp) rfl))) ?_
            refine wp_of_callE (run_enter1 28 (.tmp 80) _ rfl _ (by exact (hF 11 (he ⟨11, .data⟩ (by simp) rfl))) (fun args w => enters_of Try.func28 (by kernel_rfl) rfl args w)) (vinverse ax ay t m wz) ?_
            rintro e w' ⟨rfl, hx⟩
            exact ⟨_, rfl, upd vs 12 _, rfl, k0.trans hx, inv_same hF rfl⟩
          · refine step_yes (wanted_g (j := 10) (d := 79) rfl rfl rfl (hF 10 (he ⟨10, .guard⟩ (by simp) rfl))) ?_
            exact wp_of_run (run_ld_mo (.tmp 3) rfl _ _ rfl _ _ _ _ ((k0.row A_5.out).cell 0) ((k0.row A_5.out).cell 1) ((k0.row A_5.out).cell 2) ((k0.row A_5.out).cell 3)) ⟨upd vs 13 _, rfl, k0, inv_same hF rfl⟩
          · refine step_yes (wanted_g (j := 10) (d := 79) rfl rfl rfl (hF 10 (he ⟨10, .guard⟩ (by simp) rfl))) ?_
            refine wp_of_callE (run_enter2 26 (.tmp 81) (.tmp 82) _ rfl _ _ (by exact (hF 12 (he ⟨12, .data⟩ (by simp) rfl))) (by exact (hF 13 (he ⟨13, .data⟩ (by simp) rfl))) (fun args w => enters_of Try.func26 (by kernel_rfl) rfl args w)) (vcompose (inX ax ay t m) (inY ax ay t m) (inT t m) m ax ay t m wz) ?_
            rintro e w' ⟨rfl, hx⟩
            exact ⟨_, rfl, upd vs 14 _, rfl, k0.trans hx, inv_same hF rfl⟩
          · refine step_yes (wanted_g (j := 10) (d := 79) rfl rfl rfl (hF 10 (he ⟨10, .guard⟩ (by simp) rfl))) ?_
            exact wp_of_run (run_build_mo0 rfl) ⟨upd vs 15 _, rfl, k0, inv_same hF rfl⟩
          · refine step_yes (wanted_g (j := 10) (d := 79) rfl rfl rfl (hF 10 (he ⟨10, .guard⟩ (by simp) rfl))) ?_
            exact wp_of_run (run_eq_mo4 (.tmp 83) (.tmp 84) rfl _ _ _ _ _ _ _ _ (by exact (hF 14 (he ⟨14, .data⟩ (by simp) rfl))) (by exact (hF 15 (he ⟨15, .data⟩ (by simp) rfl))) (back_X ax ay t m) (back_Y ax ay t m) (back_T t m) (by cases m <;> rfl)) ⟨upd vs 16 _, rfl, k0, inv_same hF rfl⟩
          · refine step_yes (wanted_of_none rfl _) ?_
            exact wp_of_run (run_pick_t (.tmp 79) (.tmp 85) (.const (.bool false)) rfl (by exact (hF 10 (he ⟨10, .data⟩ (by simp) rfl))) _ (by exact (hF 16 (he ⟨16, .data⟩ (by simp) rfl)))) ⟨upd vs 17 _, rfl, k0, inv_same hF rfl⟩
        case fincmp5 =>
          rintro D ac wfcmp5 hD ⟨vs, rfl, k0, hF⟩
          change wpList _ _ _ [_] _ _
          have hl17 : vs 17 = .bool true := hF 17 (hD 17 (by decide))
          rw [hl17]
          clear hl17
          clear hF hD
          generalize vs = tvcmp5
          have E6 := Lib.hid (E5.out.trans k0)
          have A_6 := Lib.hid (k0.row A_5.out)
          have B_6 := Lib.hid (k0.row B_5.out)
          have C_6 := Lib.hid (k0.row C_5.out)
          clear E5 A_5 B_5 C_5
          clear k0
          go_wp2_with fail
          go_ret
          exact ⟨rfl, E6.out⟩

end Go.Proofs.Ytapnoijnegcmfaa
