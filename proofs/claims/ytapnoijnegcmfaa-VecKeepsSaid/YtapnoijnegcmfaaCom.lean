/- vec and its reference: motions composed. -/
import Derived.Test.YtapnoijnegcmfaaFun
set_option linter.all false
namespace Go.Proofs.Ytapnoijnegcmfaa
open Go Go.RowKit Go.Shelf


def vcomtV1 (w : World) (x y t : Int) (c d u : Int) (k : Bool) : Nat → Value
  | 0 => .agg #[.int .i64 x, .int .i64 y, .int .i64 t, .bool true]
  | 1 => .pointer (some ⟨w.heap.size + 1, 0, none⟩)
  | 2 => .agg #[.int .i64 c, .int .i64 d]
  | 3 => .agg #[.int .i64 (apX x t true c d), .int .i64 (apY y t true c d)]
  | 4 => .pointer (some ⟨w.heap.size, 2, none⟩)
  | 5 => .int .i64 t
  | 6 => .int .i64 (wrap64 (-u))
  | 7 => .int .i64 (wrap64 (t + (wrap64 (-u))))
  | 8 => .int .i64 ((wrap64 (t + (wrap64 (-u)))) % 4)
  | 9 => .pointer (some ⟨w.heap.size, 3, none⟩)
  | 10 => .bool true
  | 11 => .pointer (some ⟨w.heap.size + 1, 3, none⟩)
  | 12 => .bool k
  | 13 => .bool (true != k)
  | 14 => .agg #[.int .i64 (apX x t true c d), .int .i64 (apY y t true c d), .int .i64 ((wrap64 (t + (wrap64 (-u)))) % 4), .bool (true != k)]
  | _ => undef
def vcomtF1 (w : World) (x y t : Int) (c d u : Int) (k : Bool) (j : Nat) (v : Value) : Prop := v = vcomtV1 w x y t c d u k j
set_option maxRecDepth 100000 in
set_option maxHeartbeats 4000000 in
theorem vcompose_t (x y t : Int) (c d u : Int) (k : Bool) (w : World) : Calls Try.prog 26 #[.agg #[.int .i64 x, .int .i64 y, .int .i64 t, .bool true], .agg #[.int .i64 c, .int .i64 d, .int .i64 u, .bool k]] w fun e w' => e = .returned (.agg #[.int .i64 (apX x t true c d), .int .i64 (apY y t true c d), .int .i64 (coT t true u), .bool (true != k)]) ∧ Ext w w' := by
  go_enter Try.func26, Try.ntmps26
  go_wp2_with fail
  obtain ⟨W, hW⟩ : ∃ W, W = (((w.alloc (.cells #[.int .i64 x, .int .i64 y, .int .i64 t, .bool true] 34)).alloc (.cells #[.int .i64 c, .int .i64 d, .int .i64 u, .bool k] 34)).alloc (.cells #[.int .i64 0, .int .i64 0, .int .i64 0, .bool false] 34)) := ⟨_, rfl⟩
  have bW_0 : RowAt W (w.heap.size) 34 #[.int .i64 x, .int .i64 y, .int .i64 t, .bool true] := by rw [hW]; exact (((RowAt.new' _ _ (by simp)).alloc _).alloc _)
  have BW_0 := Lib.hid bW_0
  have bW_1 : RowAt W (w.heap.size + 1) 34 #[.int .i64 c, .int .i64 d, .int .i64 u, .bool k] := by rw [hW]; exact ((RowAt.new' _ _ (by simp)).alloc _)
  have BW_1 := Lib.hid bW_1
  have bW_2 : RowAt W (w.heap.size + 1 + 1) 34 #[.int .i64 0, .int .i64 0, .int .i64 0, .bool false] := by rw [hW]; exact (RowAt.new' _ _ (by simp))
  have BW_2 := Lib.hid bW_2
  have XW := Lib.hid (show Ext w W from by rw [hW]; exact ((Ext.alloc _ _).trans (Ext.alloc _ _)).trans (Ext.alloc _ _))
  rw [← hW]
  clear hW bW_0 bW_1 bW_2
  refine wp_region_tail (fun D ac w' => ∃ vs : Nat → Value, ac = { tmps := #[.agg #[.int .i64 x, .int .i64 y, .int .i64 t, .bool true], .agg #[.int .i64 c, .int .i64 d, .int .i64 u, .bool k], .pointer (some ⟨w.heap.size, 0, none⟩), .pointer (some ⟨w.heap.size + 1, 0, none⟩), .pointer (some ⟨w.heap.size + 1 + 1, 0, none⟩), .int .i64 (wrap64 (-u)), .pointer (some ⟨w.heap.size + 1, 2, none⟩), .int .i64 u, .pointer (some ⟨w.heap.size, 3, none⟩), .bool true, .int .i64 u, .int .i64 (wrap64 (-u)), vs 0, vs 1, vs 2, vs 3, vs 4, vs 5, vs 6, vs 7, vs 8, vs 9, vs 10, vs 11, vs 12, vs 13, vs 14], defers := [] } ∧ Ext W w' ∧ ∀ j, D j → vcomtF1 w x y t c d u k j (vs j)) 15 (by kernel_rfl) (by kernel_rfl) (by kernel_rfl) ?startvcomt1 ?stepvcomt1 ?finvcomt1
  case startvcomt1 => exact ⟨fun _ => undef, rfl, Ext.drew _, fun _ h => h.elim⟩
  case stepvcomt1 =>
    rintro i o D ac wz hin hio hnd he ⟨vs, rfl, k0, hF⟩
    rcases i with _ | _ | _ | _ | _ | _ | _ | _ | _ | _ | _ | _ | _ | _ | _ | i
    rotate_left 15
    · exact absurd hin (by omega)
    all_goals (obtain rfl := Option.some.inj (hio.symm.trans (by rfl)))
    · refine step_yes (wanted_of_none rfl _) ?_
      exact wp_of_run (run_ld_mo (.tmp 2) rfl _ _ rfl _ _ _ _ ((k0.row BW_0.out).cell 0) ((k0.row BW_0.out).cell 1) ((k0.row BW_0.out).cell 2) ((k0.row BW_0.out).cell 3)) ⟨upd vs 0 _, rfl, k0, inv_same hF rfl⟩
    · refine step_yes (wanted_of_none rfl _) ?_
      exact wp_of_run (run_fld_mo0 (.tmp 3) rfl _ _ rfl) ⟨upd vs 1 _, rfl, k0, inv_same hF rfl⟩
    · refine step_yes (wanted_of_none rfl _) ?_
      exact wp_of_run (run_ld_pt (.tmp 13) rfl _ _ (by exact (hF 1 (he ⟨1, .data⟩ (by simp) rfl))) _ _ ((k0.row BW_1.out).cell 0) ((k0.row BW_1.out).cell 1)) ⟨upd vs 2 _, rfl, k0, inv_same hF rfl⟩
    · refine step_yes (wanted_of_none rfl _) ?_
      refine wp_of_callE (run_enter2 24 (.tmp 12) (.tmp 14) _ rfl _ _ (by exact (hF 0 (he ⟨0, .data⟩ (by simp) rfl))) (by exact (hF 2 (he ⟨2, .data⟩ (by simp) rfl))) (fun args w => enters_of Try.func24 (by kernel_rfl) rfl args w)) (vapply x y t true c d wz) ?_
      rintro e w' ⟨rfl, hx⟩
      exact ⟨_, rfl, upd vs 3 _, rfl, k0.trans hx, inv_same hF rfl⟩
    · refine step_yes (wanted_of_none rfl _) ?_
      exact wp_of_run (run_fld_mo1 (.tmp 2) rfl _ _ rfl) ⟨upd vs 4 _, rfl, k0, inv_same hF rfl⟩
    · refine step_yes (wanted_of_none rfl _) ?_
      exact wp_of_run (run_ldi (.tmp 16) rfl _ _ (by exact (hF 4 (he ⟨4, .data⟩ (by simp) rfl))) _ ((k0.row BW_0.out).cell 2)) ⟨upd vs 5 _, rfl, k0, inv_same hF rfl⟩
    · refine step_yes (wanted_of_none rfl _) ?_
      exact wp_of_run (run_mov (.tmp 5) rfl _ rfl) ⟨upd vs 6 _, rfl, k0, inv_same hF rfl⟩
    · refine step_yes (wanted_of_none rfl _) ?_
      exact wp_of_run (run_addi (.tmp 17) (.tmp 18) rfl rfl _ _ (by exact (hF 5 (he ⟨5, .data⟩ (by simp) rfl))) (by exact (hF 6 (he ⟨6, .data⟩ (by simp) rfl)))) ⟨upd vs 7 _, rfl, k0, inv_same hF rfl⟩
    · refine step_yes (wanted_of_none rfl _) ?_
      refine wp_of_callE (run_enter1 32 (.tmp 19) _ rfl _ (by exact (hF 7 (he ⟨7, .data⟩ (by simp) rfl))) (fun args w => enters_of Try.func32 (by kernel_rfl) rfl args w)) (ext_of (vturns (wrap64 (t + (wrap64 (-u)))) wz)) ?_
      rintro e w' ⟨rfl, hx⟩
      exact ⟨_, rfl, upd vs 8 _, rfl, k0.trans hx, inv_same hF rfl⟩
    · refine step_yes (wanted_of_none rfl _) ?_
      exact wp_of_run (run_fld_mo2 (.tmp 2) rfl _ _ rfl) ⟨upd vs 9 _, rfl, k0, inv_same hF rfl⟩
    · refine step_yes (wanted_of_none rfl _) ?_
      exact wp_of_run (run_ldb (.tmp 21) rfl _ _ (by exact (hF 9 (he ⟨9, .data⟩ (by simp) rfl))) _ ((k0.row BW_0.out).cell 3)) ⟨upd vs 10 _, rfl, k0, inv_same hF rfl⟩
    · refine step_yes (wanted_of_none rfl _) ?_
      exact wp_of_run (run_fld_mo2 (.tmp 3) rfl _ _ rfl) ⟨upd vs 11 _, rfl, k0, inv_same hF rfl⟩
    · refine step_yes (wanted_of_none rfl _) ?_
      exact wp_of_run (run_ldb (.tmp 23) rfl _ _ (by exact (hF 11 (he ⟨11, .data⟩ (by simp) rfl))) _ ((k0.row BW_1.out).cell 3)) ⟨upd vs 12 _, rfl, k0, inv_same hF rfl⟩
    · refine step_yes (wanted_of_none rfl _) ?_
      exact wp_of_run (run_neb (.tmp 22) (.tmp 24) rfl _ _ (by exact (hF 10 (he ⟨10, .data⟩ (by simp) rfl))) (by exact (hF 12 (he ⟨12, .data⟩ (by simp) rfl)))) ⟨upd vs 13 _, rfl, k0, inv_same hF rfl⟩
    · refine step_yes (wanted_of_none rfl _) ?_
      exact wp_of_run (run_build_mo3 (.tmp 15) (.tmp 20) (.tmp 25) rfl _ _ _ _ (by exact (hF 3 (he ⟨3, .data⟩ (by simp) rfl))) (by exact (hF 8 (he ⟨8, .data⟩ (by simp) rfl))) (by exact (hF 13 (he ⟨13, .data⟩ (by simp) rfl)))) ⟨upd vs 14 _, rfl, k0, inv_same hF rfl⟩
  case finvcomt1 =>
    rintro D ac wf hD ⟨vs, rfl, k0, hF⟩
    change wpList _ _ _ [_] _ _
    have h9 : vs 14 = .agg #[.int .i64 (apX x t true c d), .int .i64 (apY y t true c d), .int .i64 ((wrap64 (t + (wrap64 (-u)))) % 4), .bool (true != k)] := hF 14 (hD 14 (by decide))
    rw [h9]
    clear h9 hF hD
    generalize vs = tv1
    have r := Lib.hid (k0.row BW_2.out)
    have E := Lib.hid (XW.out.trans k0)
    clear k0
    go_wp2_with (refine store_mo rfl (.tmp 4) (.tmp 26) rfl _ rfl _ _ _ _ rfl _ _ _ _ _ r.out ?_)
    exact ret_mo rfl _ rfl _ _ _ _ _ (r.out.setRow _) ⟨ret_eq (mo_eq rfl rfl (by unfold coT; try unfold wrap64; simp; omega)), ext_setRow E.out (by omega) _⟩

def vcomfV1 (w : World) (x y t : Int) (c d u : Int) (k : Bool) : Nat → Value
  | 0 => .agg #[.int .i64 x, .int .i64 y, .int .i64 t, .bool false]
  | 1 => .pointer (some ⟨w.heap.size + 1, 0, none⟩)
  | 2 => .agg #[.int .i64 c, .int .i64 d]
  | 3 => .agg #[.int .i64 (apX x t false c d), .int .i64 (apY y t false c d)]
  | 4 => .pointer (some ⟨w.heap.size, 2, none⟩)
  | 5 => .int .i64 t
  | 6 => .int .i64 u
  | 7 => .int .i64 (wrap64 (t + u))
  | 8 => .int .i64 ((wrap64 (t + u)) % 4)
  | 9 => .pointer (some ⟨w.heap.size, 3, none⟩)
  | 10 => .bool false
  | 11 => .pointer (some ⟨w.heap.size + 1, 3, none⟩)
  | 12 => .bool k
  | 13 => .bool (false != k)
  | 14 => .agg #[.int .i64 (apX x t false c d), .int .i64 (apY y t false c d), .int .i64 ((wrap64 (t + u)) % 4), .bool (false != k)]
  | _ => undef
def vcomfF1 (w : World) (x y t : Int) (c d u : Int) (k : Bool) (j : Nat) (v : Value) : Prop := v = vcomfV1 w x y t c d u k j
set_option maxRecDepth 100000 in
set_option maxHeartbeats 4000000 in
theorem vcompose_f (x y t : Int) (c d u : Int) (k : Bool) (w : World) : Calls Try.prog 26 #[.agg #[.int .i64 x, .int .i64 y, .int .i64 t, .bool false], .agg #[.int .i64 c, .int .i64 d, .int .i64 u, .bool k]] w fun e w' => e = .returned (.agg #[.int .i64 (apX x t false c d), .int .i64 (apY y t false c d), .int .i64 (coT t false u), .bool (false != k)]) ∧ Ext w w' := by
  go_enter Try.func26, Try.ntmps26
  go_wp2_with fail
  obtain ⟨W, hW⟩ : ∃ W, W = (((w.alloc (.cells #[.int .i64 x, .int .i64 y, .int .i64 t, .bool false] 34)).alloc (.cells #[.int .i64 c, .int .i64 d, .int .i64 u, .bool k] 34)).alloc (.cells #[.int .i64 0, .int .i64 0, .int .i64 0, .bool false] 34)) := ⟨_, rfl⟩
  have bW_0 : RowAt W (w.heap.size) 34 #[.int .i64 x, .int .i64 y, .int .i64 t, .bool false] := by rw [hW]; exact (((RowAt.new' _ _ (by simp)).alloc _).alloc _)
  have BW_0 := Lib.hid bW_0
  have bW_1 : RowAt W (w.heap.size + 1) 34 #[.int .i64 c, .int .i64 d, .int .i64 u, .bool k] := by rw [hW]; exact ((RowAt.new' _ _ (by simp)).alloc _)
  have BW_1 := Lib.hid bW_1
  have bW_2 : RowAt W (w.heap.size + 1 + 1) 34 #[.int .i64 0, .int .i64 0, .int .i64 0, .bool false] := by rw [hW]; exact (RowAt.new' _ _ (by simp))
  have BW_2 := Lib.hid bW_2
  have XW := Lib.hid (show Ext w W from by rw [hW]; exact ((Ext.alloc _ _).trans (Ext.alloc _ _)).trans (Ext.alloc _ _))
  rw [← hW]
  clear hW bW_0 bW_1 bW_2
  refine wp_region_tail (fun D ac w' => ∃ vs : Nat → Value, ac = { tmps := #[.agg #[.int .i64 x, .int .i64 y, .int .i64 t, .bool false], .agg #[.int .i64 c, .int .i64 d, .int .i64 u, .bool k], .pointer (some ⟨w.heap.size, 0, none⟩), .pointer (some ⟨w.heap.size + 1, 0, none⟩), .pointer (some ⟨w.heap.size + 1 + 1, 0, none⟩), .int .i64 u, .pointer (some ⟨w.heap.size + 1, 2, none⟩), .int .i64 u, .pointer (some ⟨w.heap.size, 3, none⟩), .bool false, undef, undef, vs 0, vs 1, vs 2, vs 3, vs 4, vs 5, vs 6, vs 7, vs 8, vs 9, vs 10, vs 11, vs 12, vs 13, vs 14], defers := [] } ∧ Ext W w' ∧ ∀ j, D j → vcomfF1 w x y t c d u k j (vs j)) 15 (by kernel_rfl) (by kernel_rfl) (by kernel_rfl) ?startvcomf1 ?stepvcomf1 ?finvcomf1
  case startvcomf1 => exact ⟨fun _ => undef, rfl, Ext.drew _, fun _ h => h.elim⟩
  case stepvcomf1 =>
    rintro i o D ac wz hin hio hnd he ⟨vs, rfl, k0, hF⟩
    rcases i with _ | _ | _ | _ | _ | _ | _ | _ | _ | _ | _ | _ | _ | _ | _ | i
    rotate_left 15
    · exact absurd hin (by omega)
    all_goals (obtain rfl := Option.some.inj (hio.symm.trans (by rfl)))
    · refine step_yes (wanted_of_none rfl _) ?_
      exact wp_of_run (run_ld_mo (.tmp 2) rfl _ _ rfl _ _ _ _ ((k0.row BW_0.out).cell 0) ((k0.row BW_0.out).cell 1) ((k0.row BW_0.out).cell 2) ((k0.row BW_0.out).cell 3)) ⟨upd vs 0 _, rfl, k0, inv_same hF rfl⟩
    · refine step_yes (wanted_of_none rfl _) ?_
      exact wp_of_run (run_fld_mo0 (.tmp 3) rfl _ _ rfl) ⟨upd vs 1 _, rfl, k0, inv_same hF rfl⟩
    · refine step_yes (wanted_of_none rfl _) ?_
      exact wp_of_run (run_ld_pt (.tmp 13) rfl _ _ (by exact (hF 1 (he ⟨1, .data⟩ (by simp) rfl))) _ _ ((k0.row BW_1.out).cell 0) ((k0.row BW_1.out).cell 1)) ⟨upd vs 2 _, rfl, k0, inv_same hF rfl⟩
    · refine step_yes (wanted_of_none rfl _) ?_
      refine wp_of_callE (run_enter2 24 (.tmp 12) (.tmp 14) _ rfl _ _ (by exact (hF 0 (he ⟨0, .data⟩ (by simp) rfl))) (by exact (hF 2 (he ⟨2, .data⟩ (by simp) rfl))) (fun args w => enters_of Try.func24 (by kernel_rfl) rfl args w)) (vapply x y t false c d wz) ?_
      rintro e w' ⟨rfl, hx⟩
      exact ⟨_, rfl, upd vs 3 _, rfl, k0.trans hx, inv_same hF rfl⟩
    · refine step_yes (wanted_of_none rfl _) ?_
      exact wp_of_run (run_fld_mo1 (.tmp 2) rfl _ _ rfl) ⟨upd vs 4 _, rfl, k0, inv_same hF rfl⟩
    · refine step_yes (wanted_of_none rfl _) ?_
      exact wp_of_run (run_ldi (.tmp 16) rfl _ _ (by exact (hF 4 (he ⟨4, .data⟩ (by simp) rfl))) _ ((k0.row BW_0.out).cell 2)) ⟨upd vs 5 _, rfl, k0, inv_same hF rfl⟩
    · refine step_yes (wanted_of_none rfl _) ?_
      exact wp_of_run (run_mov (.tmp 5) rfl _ rfl) ⟨upd vs 6 _, rfl, k0, inv_same hF rfl⟩
    · refine step_yes (wanted_of_none rfl _) ?_
      exact wp_of_run (run_addi (.tmp 17) (.tmp 18) rfl rfl _ _ (by exact (hF 5 (he ⟨5, .data⟩ (by simp) rfl))) (by exact (hF 6 (he ⟨6, .data⟩ (by simp) rfl)))) ⟨upd vs 7 _, rfl, k0, inv_same hF rfl⟩
    · refine step_yes (wanted_of_none rfl _) ?_
      refine wp_of_callE (run_enter1 32 (.tmp 19) _ rfl _ (by exact (hF 7 (he ⟨7, .data⟩ (by simp) rfl))) (fun args w => enters_of Try.func32 (by kernel_rfl) rfl args w)) (ext_of (vturns (wrap64 (t + u)) wz)) ?_
      rintro e w' ⟨rfl, hx⟩
      exact ⟨_, rfl, upd vs 8 _, rfl, k0.trans hx, inv_same hF rfl⟩
    · refine step_yes (wanted_of_none rfl _) ?_
      exact wp_of_run (run_fld_mo2 (.tmp 2) rfl _ _ rfl) ⟨upd vs 9 _, rfl, k0, inv_same hF rfl⟩
    · refine step_yes (wanted_of_none rfl _) ?_
      exact wp_of_run (run_ldb (.tmp 21) rfl _ _ (by exact (hF 9 (he ⟨9, .data⟩ (by simp) rfl))) _ ((k0.row BW_0.out).cell 3)) ⟨upd vs 10 _, rfl, k0, inv_same hF rfl⟩
    · refine step_yes (wanted_of_none rfl _) ?_
      exact wp_of_run (run_fld_mo2 (.tmp 3) rfl _ _ rfl) ⟨upd vs 11 _, rfl, k0, inv_same hF rfl⟩
    · refine step_yes (wanted_of_none rfl _) ?_
      exact wp_of_run (run_ldb (.tmp 23) rfl _ _ (by exact (hF 11 (he ⟨11, .data⟩ (by simp) rfl))) _ ((k0.row BW_1.out).cell 3)) ⟨upd vs 12 _, rfl, k0, inv_same hF rfl⟩
    · refine step_yes (wanted_of_none rfl _) ?_
      exact wp_of_run (run_neb (.tmp 22) (.tmp 24) rfl _ _ (by exact (hF 10 (he ⟨10, .data⟩ (by simp) rfl))) (by exact (hF 12 (he ⟨12, .data⟩ (by simp) rfl)))) ⟨upd vs 13 _, rfl, k0, inv_same hF rfl⟩
    · refine step_yes (wanted_of_none rfl _) ?_
      exact wp_of_run (run_build_mo3 (.tmp 15) (.tmp 20) (.tmp 25) rfl _ _ _ _ (by exact (hF 3 (he ⟨3, .data⟩ (by simp) rfl))) (by exact (hF 8 (he ⟨8, .data⟩ (by simp) rfl))) (by exact (hF 13 (he ⟨13, .data⟩ (by simp) rfl)))) ⟨upd vs 14 _, rfl, k0, inv_same hF rfl⟩
  case finvcomf1 =>
    rintro D ac wf hD ⟨vs, rfl, k0, hF⟩
    change wpList _ _ _ [_] _ _
    have h9 : vs 14 = .agg #[.int .i64 (apX x t false c d), .int .i64 (apY y t false c d), .int .i64 ((wrap64 (t + u)) % 4), .bool (false != k)] := hF 14 (hD 14 (by decide))
    rw [h9]
    clear h9 hF hD
    generalize vs = tv1
    have r := Lib.hid (k0.row BW_2.out)
    have E := Lib.hid (XW.out.trans k0)
    clear k0
    go_wp2_with (refine store_mo rfl (.tmp 4) (.tmp 26) rfl _ rfl _ _ _ _ rfl _ _ _ _ _ r.out ?_)
    exact ret_mo rfl _ rfl _ _ _ _ _ (r.out.setRow _) ⟨ret_eq (mo_eq rfl rfl (by unfold coT; try unfold wrap64; simp; omega)), ext_setRow E.out (by omega) _⟩

theorem vcompose (x y t : Int) (m : Bool) (c d u : Int) (k : Bool) (w : World) : Calls Try.prog 26 #[.agg #[.int .i64 x, .int .i64 y, .int .i64 t, .bool m], .agg #[.int .i64 c, .int .i64 d, .int .i64 u, .bool k]] w fun e w' => e = .returned (.agg #[.int .i64 (apX x t m c d), .int .i64 (apY y t m c d), .int .i64 (coT t m u), .bool (m != k)]) ∧ Ext w w' := by
  cases m
  · exact vcompose_f x y t c d u k w
  · exact vcompose_t x y t c d u k w

def rcomtV1 (w : World) (x y t : Int) (c d u : Int) (k : Bool) : Nat → Value
  | 0 => .agg #[.int .i64 x, .int .i64 y, .int .i64 t, .bool true]
  | 1 => .pointer (some ⟨w.heap.size + 1, 0, none⟩)
  | 2 => .agg #[.int .i64 c, .int .i64 d]
  | 3 => .agg #[.int .i64 (apX x t true c d), .int .i64 (apY y t true c d)]
  | 4 => .pointer (some ⟨w.heap.size, 2, none⟩)
  | 5 => .int .i64 t
  | 6 => .int .i64 (t % 4)
  | 7 => .int .i64 (4 - u % 4)
  | 8 => .int .i64 (wrap64 ((t % 4) + (4 - u % 4)))
  | 9 => .int .i64 ((wrap64 ((t % 4) + (4 - u % 4))) % 4)
  | 10 => .pointer (some ⟨w.heap.size, 3, none⟩)
  | 11 => .bool true
  | 12 => .pointer (some ⟨w.heap.size + 1, 3, none⟩)
  | 13 => .bool k
  | 14 => .bool (true != k)
  | 15 => .agg #[.int .i64 (apX x t true c d), .int .i64 (apY y t true c d), .int .i64 ((wrap64 ((t % 4) + (4 - u % 4))) % 4), .bool (true != k)]
  | _ => undef
def rcomtF1 (w : World) (x y t : Int) (c d u : Int) (k : Bool) (j : Nat) (v : Value) : Prop := v = rcomtV1 w x y t c d u k j
set_option maxRecDepth 100000 in
set_option maxHeartbeats 4000000 in
theorem rcompose_t (x y t : Int) (c d u : Int) (k : Bool) (w : World) : Calls Try.prog 27 #[.agg #[.int .i64 x, .int .i64 y, .int .i64 t, .bool true], .agg #[.int .i64 c, .int .i64 d, .int .i64 u, .bool k]] w fun e w' => e = .returned (.agg #[.int .i64 (apX x t true c d), .int .i64 (apY y t true c d), .int .i64 (coT t true u), .bool (true != k)]) ∧ Ext w w' := by
  go_enter Try.func27, Try.ntmps27
  go_wp2_with fail
  refine (rturns _ _).mono ?_; rintro e w' ⟨rfl, rfl⟩
  go_wp2_with fail
  obtain ⟨W, hW⟩ : ∃ W, W = (((w.alloc (.cells #[.int .i64 x, .int .i64 y, .int .i64 t, .bool true] 34)).alloc (.cells #[.int .i64 c, .int .i64 d, .int .i64 u, .bool k] 34)).alloc (.cells #[.int .i64 0, .int .i64 0, .int .i64 0, .bool false] 34)) := ⟨_, rfl⟩
  have bW_0 : RowAt W (w.heap.size) 34 #[.int .i64 x, .int .i64 y, .int .i64 t, .bool true] := by rw [hW]; exact (((RowAt.new' _ _ (by simp)).alloc _).alloc _)
  have BW_0 := Lib.hid bW_0
  have bW_1 : RowAt W (w.heap.size + 1) 34 #[.int .i64 c, .int .i64 d, .int .i64 u, .bool k] := by rw [hW]; exact ((RowAt.new' _ _ (by simp)).alloc _)
  have BW_1 := Lib.hid bW_1
  have bW_2 : RowAt W (w.heap.size + 1 + 1) 34 #[.int .i64 0, .int .i64 0, .int .i64 0, .bool false] := by rw [hW]; exact (RowAt.new' _ _ (by simp))
  have BW_2 := Lib.hid bW_2
  have XW := Lib.hid (show Ext w W from by rw [hW]; exact ((Ext.alloc _ _).trans (Ext.alloc _ _)).trans (Ext.alloc _ _))
  rw [← hW]
  clear hW bW_0 bW_1 bW_2
  refine wp_region_tail (fun D ac w' => ∃ vs : Nat → Value, ac = { tmps := #[.agg #[.int .i64 x, .int .i64 y, .int .i64 t, .bool true], .agg #[.int .i64 c, .int .i64 d, .int .i64 u, .bool k], .pointer (some ⟨w.heap.size, 0, none⟩), .pointer (some ⟨w.heap.size + 1, 0, none⟩), .pointer (some ⟨w.heap.size + 1 + 1, 0, none⟩), .int .i64 (4 - u % 4), .pointer (some ⟨w.heap.size + 1, 2, none⟩), .int .i64 u, .int .i64 (u % 4), .pointer (some ⟨w.heap.size, 3, none⟩), .bool true, .int .i64 (u % 4), .int .i64 (4 - u % 4), vs 0, vs 1, vs 2, vs 3, vs 4, vs 5, vs 6, vs 7, vs 8, vs 9, vs 10, vs 11, vs 12, vs 13, vs 14, vs 15], defers := [] } ∧ Ext W w' ∧ ∀ j, D j → rcomtF1 w x y t c d u k j (vs j)) 16 (by kernel_rfl) (by kernel_rfl) (by kernel_rfl) ?startrcomt1 ?steprcomt1 ?finrcomt1
  case startrcomt1 => exact ⟨fun _ => undef, rfl, Ext.drew _, fun _ h => h.elim⟩
  case steprcomt1 =>
    rintro i o D ac wz hin hio hnd he ⟨vs, rfl, k0, hF⟩
    rcases i with _ | _ | _ | _ | _ | _ | _ | _ | _ | _ | _ | _ | _ | _ | _ | _ | i
    rotate_left 16
    · exact absurd hin (by omega)
    all_goals (obtain rfl := Option.some.inj (hio.symm.trans (by rfl)))
    · refine step_yes (wanted_of_none rfl _) ?_
      exact wp_of_run (run_ld_mo (.tmp 2) rfl _ _ rfl _ _ _ _ ((k0.row BW_0.out).cell 0) ((k0.row BW_0.out).cell 1) ((k0.row BW_0.out).cell 2) ((k0.row BW_0.out).cell 3)) ⟨upd vs 0 _, rfl, k0, inv_same hF rfl⟩
    · refine step_yes (wanted_of_none rfl _) ?_
      exact wp_of_run (run_fld_mo0 (.tmp 3) rfl _ _ rfl) ⟨upd vs 1 _, rfl, k0, inv_same hF rfl⟩
    · refine step_yes (wanted_of_none rfl _) ?_
      exact wp_of_run (run_ld_pt (.tmp 14) rfl _ _ (by exact (hF 1 (he ⟨1, .data⟩ (by simp) rfl))) _ _ ((k0.row BW_1.out).cell 0) ((k0.row BW_1.out).cell 1)) ⟨upd vs 2 _, rfl, k0, inv_same hF rfl⟩
    · refine step_yes (wanted_of_none rfl _) ?_
      refine wp_of_callE (run_enter2 25 (.tmp 13) (.tmp 15) _ rfl _ _ (by exact (hF 0 (he ⟨0, .data⟩ (by simp) rfl))) (by exact (hF 2 (he ⟨2, .data⟩ (by simp) rfl))) (fun args w => enters_of Try.func25 (by kernel_rfl) rfl args w)) (rapply x y t true c d wz) ?_
      rintro e w' ⟨rfl, hx⟩
      exact ⟨_, rfl, upd vs 3 _, rfl, k0.trans hx, inv_same hF rfl⟩
    · refine step_yes (wanted_of_none rfl _) ?_
      exact wp_of_run (run_fld_mo1 (.tmp 2) rfl _ _ rfl) ⟨upd vs 4 _, rfl, k0, inv_same hF rfl⟩
    · refine step_yes (wanted_of_none rfl _) ?_
      exact wp_of_run (run_ldi (.tmp 17) rfl _ _ (by exact (hF 4 (he ⟨4, .data⟩ (by simp) rfl))) _ ((k0.row BW_0.out).cell 2)) ⟨upd vs 5 _, rfl, k0, inv_same hF rfl⟩
    · refine step_yes (wanted_of_none rfl _) ?_
      refine wp_of_callE (run_enter1 35 (.tmp 18) _ rfl _ (by exact (hF 5 (he ⟨5, .data⟩ (by simp) rfl))) (fun args w => enters_of Try.func35 (by kernel_rfl) rfl args w)) (ext_of (rturns t wz)) ?_
      rintro e w' ⟨rfl, hx⟩
      exact ⟨_, rfl, upd vs 6 _, rfl, k0.trans hx, inv_same hF rfl⟩
    · refine step_yes (wanted_of_none rfl _) ?_
      exact wp_of_run (run_mov (.tmp 5) rfl _ rfl) ⟨upd vs 7 _, rfl, k0, inv_same hF rfl⟩
    · refine step_yes (wanted_of_none rfl _) ?_
      exact wp_of_run (run_addi (.tmp 19) (.tmp 20) rfl rfl _ _ (by exact (hF 6 (he ⟨6, .data⟩ (by simp) rfl))) (by exact (hF 7 (he ⟨7, .data⟩ (by simp) rfl)))) ⟨upd vs 8 _, rfl, k0, inv_same hF rfl⟩
    · refine step_yes (wanted_of_none rfl _) ?_
      refine wp_of_callE (run_enter1 35 (.tmp 21) _ rfl _ (by exact (hF 8 (he ⟨8, .data⟩ (by simp) rfl))) (fun args w => enters_of Try.func35 (by kernel_rfl) rfl args w)) (ext_of (rturns (wrap64 ((t % 4) + (4 - u % 4))) wz)) ?_
      rintro e w' ⟨rfl, hx⟩
      exact ⟨_, rfl, upd vs 9 _, rfl, k0.trans hx, inv_same hF rfl⟩
    · refine step_yes (wanted_of_none rfl _) ?_
      exact wp_of_run (run_fld_mo2 (.tmp 2) rfl _ _ rfl) ⟨upd vs 10 _, rfl, k0, inv_same hF rfl⟩
    · refine step_yes (wanted_of_none rfl _) ?_
      exact wp_of_run (run_ldb (.tmp 23) rfl _ _ (by exact (hF 10 (he ⟨10, .data⟩ (by simp) rfl))) _ ((k0.row BW_0.out).cell 3)) ⟨upd vs 11 _, rfl, k0, inv_same hF rfl⟩
    · refine step_yes (wanted_of_none rfl _) ?_
      exact wp_of_run (run_fld_mo2 (.tmp 3) rfl _ _ rfl) ⟨upd vs 12 _, rfl, k0, inv_same hF rfl⟩
    · refine step_yes (wanted_of_none rfl _) ?_
      exact wp_of_run (run_ldb (.tmp 25) rfl _ _ (by exact (hF 12 (he ⟨12, .data⟩ (by simp) rfl))) _ ((k0.row BW_1.out).cell 3)) ⟨upd vs 13 _, rfl, k0, inv_same hF rfl⟩
    · refine step_yes (wanted_of_none rfl _) ?_
      exact wp_of_run (run_neb (.tmp 24) (.tmp 26) rfl _ _ (by exact (hF 11 (he ⟨11, .data⟩ (by simp) rfl))) (by exact (hF 13 (he ⟨13, .data⟩ (by simp) rfl)))) ⟨upd vs 14 _, rfl, k0, inv_same hF rfl⟩
    · refine step_yes (wanted_of_none rfl _) ?_
      exact wp_of_run (run_build_mo3 (.tmp 16) (.tmp 22) (.tmp 27) rfl _ _ _ _ (by exact (hF 3 (he ⟨3, .data⟩ (by simp) rfl))) (by exact (hF 9 (he ⟨9, .data⟩ (by simp) rfl))) (by exact (hF 14 (he ⟨14, .data⟩ (by simp) rfl)))) ⟨upd vs 15 _, rfl, k0, inv_same hF rfl⟩
  case finrcomt1 =>
    rintro D ac wf hD ⟨vs, rfl, k0, hF⟩
    change wpList _ _ _ [_] _ _
    have h9 : vs 15 = .agg #[.int .i64 (apX x t true c d), .int .i64 (apY y t true c d), .int .i64 ((wrap64 ((t % 4) + (4 - u % 4))) % 4), .bool (true != k)] := hF 15 (hD 15 (by decide))
    rw [h9]
    clear h9 hF hD
    generalize vs = tv1
    have r := Lib.hid (k0.row BW_2.out)
    have E := Lib.hid (XW.out.trans k0)
    clear k0
    go_wp2_with (refine store_mo rfl (.tmp 4) (.tmp 28) rfl _ rfl _ _ _ _ rfl _ _ _ _ _ r.out ?_)
    exact ret_mo rfl _ rfl _ _ _ _ _ (r.out.setRow _) ⟨ret_eq (mo_eq rfl rfl (by unfold coT; try unfold wrap64; simp; omega)), ext_setRow E.out (by omega) _⟩

def rcomfV1 (w : World) (x y t : Int) (c d u : Int) (k : Bool) : Nat → Value
  | 0 => .agg #[.int .i64 x, .int .i64 y, .int .i64 t, .bool false]
  | 1 => .pointer (some ⟨w.heap.size + 1, 0, none⟩)
  | 2 => .agg #[.int .i64 c, .int .i64 d]
  | 3 => .agg #[.int .i64 (apX x t false c d), .int .i64 (apY y t false c d)]
  | 4 => .pointer (some ⟨w.heap.size, 2, none⟩)
  | 5 => .int .i64 t
  | 6 => .int .i64 (t % 4)
  | 7 => .int .i64 (u % 4)
  | 8 => .int .i64 (wrap64 ((t % 4) + (u % 4)))
  | 9 => .int .i64 ((wrap64 ((t % 4) + (u % 4))) % 4)
  | 10 => .pointer (some ⟨w.heap.size, 3, none⟩)
  | 11 => .bool false
  | 12 => .pointer (some ⟨w.heap.size + 1, 3, none⟩)
  | 13 => .bool k
  | 14 => .bool (false != k)
  | 15 => .agg #[.int .i64 (apX x t false c d), .int .i64 (apY y t false c d), .int .i64 ((wrap64 ((t % 4) + (u % 4))) % 4), .bool (false != k)]
  | _ => undef
def rcomfF1 (w : World) (x y t : Int) (c d u : Int) (k : Bool) (j : Nat) (v : Value) : Prop := v = rcomfV1 w x y t c d u k j
set_option maxRecDepth 100000 in
set_option maxHeartbeats 4000000 in
theorem rcompose_f (x y t : Int) (c d u : Int) (k : Bool) (w : World) : Calls Try.prog 27 #[.agg #[.int .i64 x, .int .i64 y, .int .i64 t, .bool false], .agg #[.int .i64 c, .int .i64 d, .int .i64 u, .bool k]] w fun e w' => e = .returned (.agg #[.int .i64 (apX x t false c d), .int .i64 (apY y t false c d), .int .i64 (coT t false u), .bool (false != k)]) ∧ Ext w w' := by
  go_enter Try.func27, Try.ntmps27
  go_wp2_with fail
  refine (rturns _ _).mono ?_; rintro e w' ⟨rfl, rfl⟩
  go_wp2_with fail
  obtain ⟨W, hW⟩ : ∃ W, W = (((w.alloc (.cells #[.int .i64 x, .int .i64 y, .int .i64 t, .bool false] 34)).alloc (.cells #[.int .i64 c, .int .i64 d, .int .i64 u, .bool k] 34)).alloc (.cells #[.int .i64 0, .int .i64 0, .int .i64 0, .bool false] 34)) := ⟨_, rfl⟩
  have bW_0 : RowAt W (w.heap.size) 34 #[.int .i64 x, .int .i64 y, .int .i64 t, .bool false] := by rw [hW]; exact (((RowAt.new' _ _ (by simp)).alloc _).alloc _)
  have BW_0 := Lib.hid bW_0
  have bW_1 : RowAt W (w.heap.size + 1) 34 #[.int .i64 c, .int .i64 d, .int .i64 u, .bool k] := by rw [hW]; exact ((RowAt.new' _ _ (by simp)).alloc _)
  have BW_1 := Lib.hid bW_1
  have bW_2 : RowAt W (w.heap.size + 1 + 1) 34 #[.int .i64 0, .int .i64 0, .int .i64 0, .bool false] := by rw [hW]; exact (RowAt.new' _ _ (by simp))
  have BW_2 := Lib.hid bW_2
  have XW := Lib.hid (show Ext w W from by rw [hW]; exact ((Ext.alloc _ _).trans (Ext.alloc _ _)).trans (Ext.alloc _ _))
  rw [← hW]
  clear hW bW_0 bW_1 bW_2
  refine wp_region_tail (fun D ac w' => ∃ vs : Nat → Value, ac = { tmps := #[.agg #[.int .i64 x, .int .i64 y, .int .i64 t, .bool false], .agg #[.int .i64 c, .int .i64 d, .int .i64 u, .bool k], .pointer (some ⟨w.heap.size, 0, none⟩), .pointer (some ⟨w.heap.size + 1, 0, none⟩), .pointer (some ⟨w.heap.size + 1 + 1, 0, none⟩), .int .i64 (u % 4), .pointer (some ⟨w.heap.size + 1, 2, none⟩), .int .i64 u, .int .i64 (u % 4), .pointer (some ⟨w.heap.size, 3, none⟩), .bool false, undef, undef, vs 0, vs 1, vs 2, vs 3, vs 4, vs 5, vs 6, vs 7, vs 8, vs 9, vs 10, vs 11, vs 12, vs 13, vs 14, vs 15], defers := [] } ∧ Ext W w' ∧ ∀ j, D j → rcomfF1 w x y t c d u k j (vs j)) 16 (by kernel_rfl) (by kernel_rfl) (by kernel_rfl) ?startrcomf1 ?steprcomf1 ?finrcomf1
  case startrcomf1 => exact ⟨fun _ => undef, rfl, Ext.drew _, fun _ h => h.elim⟩
  case steprcomf1 =>
    rintro i o D ac wz hin hio hnd he ⟨vs, rfl, k0, hF⟩
    rcases i with _ | _ | _ | _ | _ | _ | _ | _ | _ | _ | _ | _ | _ | _ | _ | _ | i
    rotate_left 16
    · exact absurd hin (by omega)
    all_goals (obtain rfl := Option.some.inj (hio.symm.trans (by rfl)))
    · refine step_yes (wanted_of_none rfl _) ?_
      exact wp_of_run (run_ld_mo (.tmp 2) rfl _ _ rfl _ _ _ _ ((k0.row BW_0.out).cell 0) ((k0.row BW_0.out).cell 1) ((k0.row BW_0.out).cell 2) ((k0.row BW_0.out).cell 3)) ⟨upd vs 0 _, rfl, k0, inv_same hF rfl⟩
    · refine step_yes (wanted_of_none rfl _) ?_
      exact wp_of_run (run_fld_mo0 (.tmp 3) rfl _ _ rfl) ⟨upd vs 1 _, rfl, k0, inv_same hF rfl⟩
    · refine step_yes (wanted_of_none rfl _) ?_
      exact wp_of_run (run_ld_pt (.tmp 14) rfl _ _ (by exact (hF 1 (he ⟨1, .data⟩ (by simp) rfl))) _ _ ((k0.row BW_1.out).cell 0) ((k0.row BW_1.out).cell 1)) ⟨upd vs 2 _, rfl, k0, inv_same hF rfl⟩
    · refine step_yes (wanted_of_none rfl _) ?_
      refine wp_of_callE (run_enter2 25 (.tmp 13) (.tmp 15) _ rfl _ _ (by exact (hF 0 (he ⟨0, .data⟩ (by simp) rfl))) (by exact (hF 2 (he ⟨2, .data⟩ (by simp) rfl))) (fun args w => enters_of Try.func25 (by kernel_rfl) rfl args w)) (rapply x y t false c d wz) ?_
      rintro e w' ⟨rfl, hx⟩
      exact ⟨_, rfl, upd vs 3 _, rfl, k0.trans hx, inv_same hF rfl⟩
    · refine step_yes (wanted_of_none rfl _) ?_
      exact wp_of_run (run_fld_mo1 (.tmp 2) rfl _ _ rfl) ⟨upd vs 4 _, rfl, k0, inv_same hF rfl⟩
    · refine step_yes (wanted_of_none rfl _) ?_
      exact wp_of_run (run_ldi (.tmp 17) rfl _ _ (by exact (hF 4 (he ⟨4, .data⟩ (by simp) rfl))) _ ((k0.row BW_0.out).cell 2)) ⟨upd vs 5 _, rfl, k0, inv_same hF rfl⟩
    · refine step_yes (wanted_of_none rfl _) ?_
      refine wp_of_callE (run_enter1 35 (.tmp 18) _ rfl _ (by exact (hF 5 (he ⟨5, .data⟩ (by simp) rfl))) (fun args w => enters_of Try.func35 (by kernel_rfl) rfl args w)) (ext_of (rturns t wz)) ?_
      rintro e w' ⟨rfl, hx⟩
      exact ⟨_, rfl, upd vs 6 _, rfl, k0.trans hx, inv_same hF rfl⟩
    · refine step_yes (wanted_of_none rfl _) ?_
      exact wp_of_run (run_mov (.tmp 5) rfl _ rfl) ⟨upd vs 7 _, rfl, k0, inv_same hF rfl⟩
    · refine step_yes (wanted_of_none rfl _) ?_
      exact wp_of_run (run_addi (.tmp 19) (.tmp 20) rfl rfl _ _ (by exact (hF 6 (he ⟨6, .data⟩ (by simp) rfl))) (by exact (hF 7 (he ⟨7, .data⟩ (by simp) rfl)))) ⟨upd vs 8 _, rfl, k0, inv_same hF rfl⟩
    · refine step_yes (wanted_of_none rfl _) ?_
      refine wp_of_callE (run_enter1 35 (.tmp 21) _ rfl _ (by exact (hF 8 (he ⟨8, .data⟩ (by simp) rfl))) (fun args w => enters_of Try.func35 (by kernel_rfl) rfl args w)) (ext_of (rturns (wrap64 ((t % 4) + (u % 4))) wz)) ?_
      rintro e w' ⟨rfl, hx⟩
      exact ⟨_, rfl, upd vs 9 _, rfl, k0.trans hx, inv_same hF rfl⟩
    · refine step_yes (wanted_of_none rfl _) ?_
      exact wp_of_run (run_fld_mo2 (.tmp 2) rfl _ _ rfl) ⟨upd vs 10 _, rfl, k0, inv_same hF rfl⟩
    · refine step_yes (wanted_of_none rfl _) ?_
      exact wp_of_run (run_ldb (.tmp 23) rfl _ _ (by exact (hF 10 (he ⟨10, .data⟩ (by simp) rfl))) _ ((k0.row BW_0.out).cell 3)) ⟨upd vs 11 _, rfl, k0, inv_same hF rfl⟩
    · refine step_yes (wanted_of_none rfl _) ?_
      exact wp_of_run (run_fld_mo2 (.tmp 3) rfl _ _ rfl) ⟨upd vs 12 _, rfl, k0, inv_same hF rfl⟩
    · refine step_yes (wanted_of_none rfl _) ?_
      exact wp_of_run (run_ldb (.tmp 25) rfl _ _ (by exact (hF 12 (he ⟨12, .data⟩ (by simp) rfl))) _ ((k0.row BW_1.out).cell 3)) ⟨upd vs 13 _, rfl, k0, inv_same hF rfl⟩
    · refine step_yes (wanted_of_none rfl _) ?_
      exact wp_of_run (run_neb (.tmp 24) (.tmp 26) rfl _ _ (by exact (hF 11 (he ⟨11, .data⟩ (by simp) rfl))) (by exact (hF 13 (he ⟨13, .data⟩ (by simp) rfl)))) ⟨upd vs 14 _, rfl, k0, inv_same hF rfl⟩
    · refine step_yes (wanted_of_none rfl _) ?_
      exact wp_of_run (run_build_mo3 (.tmp 16) (.tmp 22) (.tmp 27) rfl _ _ _ _ (by exact (hF 3 (he ⟨3, .data⟩ (by simp) rfl))) (by exact (hF 9 (he ⟨9, .data⟩ (by simp) rfl))) (by exact (hF 14 (he ⟨14, .data⟩ (by simp) rfl)))) ⟨upd vs 15 _, rfl, k0, inv_same hF rfl⟩
  case finrcomf1 =>
    rintro D ac wf hD ⟨vs, rfl, k0, hF⟩
    change wpList _ _ _ [_] _ _
    have h9 : vs 15 = .agg #[.int .i64 (apX x t false c d), .int .i64 (apY y t false c d), .int .i64 ((wrap64 ((t % 4) + (u % 4))) % 4), .bool (false != k)] := hF 15 (hD 15 (by decide))
    rw [h9]
    clear h9 hF hD
    generalize vs = tv1
    have r := Lib.hid (k0.row BW_2.out)
    have E := Lib.hid (XW.out.trans k0)
    clear k0
    go_wp2_with (refine store_mo rfl (.tmp 4) (.tmp 28) rfl _ rfl _ _ _ _ rfl _ _ _ _ _ r.out ?_)
    exact ret_mo rfl _ rfl _ _ _ _ _ (r.out.setRow _) ⟨ret_eq (mo_eq rfl rfl (by unfold coT; try unfold wrap64; simp; omega)), ext_setRow E.out (by omega) _⟩

theorem rcompose (x y t : Int) (m : Bool) (c d u : Int) (k : Bool) (w : World) : Calls Try.prog 27 #[.agg #[.int .i64 x, .int .i64 y, .int .i64 t, .bool m], .agg #[.int .i64 c, .int .i64 d, .int .i64 u, .bool k]] w fun e w' => e = .returned (.agg #[.int .i64 (apX x t m c d), .int .i64 (apY y t m c d), .int .i64 (coT t m u), .bool (m != k)]) ∧ Ext w w' := by
  cases m
  · exact rcompose_f x y t c d u k w
  · exact rcompose_t x y t c d u k w

end Go.Proofs.Ytapnoijnegcmfaa
