/- vec and its reference: inverse motions. -/
import Derived.Test.YtapnoijnegcmfaaSeq
set_option linter.all false
namespace Go.Proofs.Ytapnoijnegcmfaa
open Go Go.RowKit Go.Shelf

theorem com_tt (k : Int) (w : World) : Calls Try.prog 26 #[.agg #[.int .i64 0, .int .i64 0, .int .i64 k, .bool true], .agg #[.int .i64 0, .int .i64 0, .int .i64 k, .bool true]] w fun e w' => e = .returned (.agg #[.int .i64 0, .int .i64 0, .int .i64 0, .bool false]) ∧ Ext w w' := by
  refine cal_of (vcompose 0 0 k true 0 0 k true w) ?_
  have e1 : apX 0 k true 0 0 = 0 := by unfold apX tuX miX wrap64; simp
  have e2 : apY 0 k true 0 0 = 0 := by unfold apY tuY miX wrap64; simp
  have e3 : coT k true k = 0 := by unfold coT; simp; omega
  rw [e1, e2, e3]; rfl

def vinv0V1 (w : World) (x y t : Int) (k : Int) : Nat → Value
  | 0 => .pointer (some ⟨w.heap.size, 2, none⟩)
  | 1 => .int .i64 t
  | 2 => .int .i64 k
  | 3 => .pointer (some ⟨w.heap.size, 3, none⟩)
  | 4 => .bool true
  | 5 => .agg #[.int .i64 0, .int .i64 0, .int .i64 k, .bool true]
  | _ => undef
def vinv0F1 (w : World) (x y t : Int) (k : Int) (b : Nat) : Nat → Value → World → Prop
  | 6, v, W => Own1 b 34 #[.int .i64 0, .int .i64 0, .int .i64 0, .bool false] v W
  | j, v, _ => v = vinv0V1 w x y t k j
theorem vinv0F1_mono {w : World} {x y t : Int} {k : Int} {b : Nat} {W W' : World} (hx : Ext W W') (j : Nat) (v : Value) (h : vinv0F1 w x y t k b j v W) : vinv0F1 w x y t k b j v W' := by
  match j, h with
  | 6, h => exact Own1.ext h hx
  | 0, h | 1, h | 2, h | 3, h | 4, h | 5, h => exact h
  | k + 7, h => exact h
def vinv0V4 (w : World) (g : Nat) (tv1 : Nat → Value) (x y t : Int) (k : Int) : Nat → Value
  | 0 => .agg #[.int .i64 0, .int .i64 0, .int .i64 k, .bool true]
  | 1 => .agg #[.int .i64 0, .int .i64 0]
  | 2 => .pointer (some ⟨w.heap.size, 0, none⟩)
  | 3 => .agg #[.int .i64 x, .int .i64 y]
  | 4 => .agg #[.int .i64 (wrap64 (0 - x)), .int .i64 (wrap64 (0 - y))]
  | 5 => .agg #[.int .i64 (apX 0 k true (wrap64 (0 - x)) (wrap64 (0 - y))), .int .i64 (apY 0 k true (wrap64 (0 - x)) (wrap64 (0 - y)))]
  | _ => undef
def vinv0F4 (w : World) (g : Nat) (tv1 : Nat → Value) (x y t : Int) (k : Int) (j : Nat) (v : Value) : Prop := v = vinv0V4 w g tv1 x y t k j
set_option maxRecDepth 100000 in
set_option maxHeartbeats 4000000 in
theorem vinv_0 (x y t : Int) (k : Int) (w : World) (hk : t % 4 = k) : Calls Try.prog 28 #[.agg #[.int .i64 x, .int .i64 y, .int .i64 t, .bool true]] w fun e w' => e = .returned (.agg #[.int .i64 (inX x y t true), .int .i64 (inY x y t true), .int .i64 (inT t true), .bool true]) ∧ Ext w w' := by
  have HK := Lib.hid hk
  clear hk
  go_enter Try.func28, Try.ntmps28
  go_wp2_with fail
  obtain ⟨W, hW⟩ : ∃ W, W = ((w.alloc (.cells #[.int .i64 x, .int .i64 y, .int .i64 t, .bool true] 34)).alloc (.cells #[.int .i64 0, .int .i64 0, .int .i64 0, .bool false] 34)) := ⟨_, rfl⟩
  have bW_0 : RowAt W (w.heap.size) 34 #[.int .i64 x, .int .i64 y, .int .i64 t, .bool true] := by rw [hW]; exact ((RowAt.new' _ _ (by simp)).alloc _)
  have BW_0 := Lib.hid bW_0
  have bW_1 : RowAt W (w.heap.size + 1) 34 #[.int .i64 0, .int .i64 0, .int .i64 0, .bool false] := by rw [hW]; exact (RowAt.new' _ _ (by simp))
  have BW_1 := Lib.hid bW_1
  have SZW := Lib.hid (show W.heap.size = w.heap.size + 1 + 1 from by rw [hW]; simp)
  have XW := Lib.hid (show Ext w W from by rw [hW]; exact (Ext.alloc _ _).trans (Ext.alloc _ _))
  rw [← hW]
  clear hW bW_0 bW_1
  refine wp_region_tail (fun D ac w' => ∃ vs : Nat → Value, ac = { tmps := #[.agg #[.int .i64 x, .int .i64 y, .int .i64 t, .bool true], .pointer (some ⟨w.heap.size, 0, none⟩), .pointer (some ⟨w.heap.size + 1, 0, none⟩), vs 6, vs 0, vs 1, vs 2, vs 3, vs 4, vs 5, undef, undef, undef, undef, undef, undef, undef, undef, undef, undef, undef, undef, undef, undef, undef, undef, undef], defers := [] } ∧ Ext W w' ∧ ∀ j, D j → vinv0F1 w x y t k W.heap.size j (vs j) w') 7 (by kernel_rfl) (by kernel_rfl) (by kernel_rfl) ?startvinv0_1 ?stepvinv0_1 ?finvinv0_1
  case startvinv0_1 => exact ⟨fun _ => undef, rfl, Ext.drew _, fun _ h => h.elim⟩
  case stepvinv0_1 =>
    rintro i o D ac wz hin hio hnd he ⟨vs, rfl, k0, hF⟩
    rcases i with _ | _ | _ | _ | _ | _ | _ | i
    rotate_left 7
    · exact absurd hin (by omega)
    all_goals (obtain rfl := Option.some.inj (hio.symm.trans (by rfl)))
    · refine step_yes (wanted_of_none rfl _) ?_
      exact wp_of_run (run_fld_mo1 (.tmp 1) rfl _ _ rfl) ⟨upd vs 0 _, rfl, k0, inv_step hF (fun _ _ h => h) rfl⟩
    · refine step_yes (wanted_of_none rfl _) ?_
      exact wp_of_run (run_ldi (.tmp 4) rfl _ _ (by exact (hF 0 (he ⟨0, .data⟩ (by simp) rfl))) _ ((k0.row BW_0.out).cell 2)) ⟨upd vs 1 _, rfl, k0, inv_step hF (fun _ _ h => h) rfl⟩
    · refine step_yes (wanted_of_none rfl _) ?_
      refine wp_of_callE (run_enter1 32 (.tmp 5) _ rfl _ (by exact (hF 1 (he ⟨1, .data⟩ (by simp) rfl))) (fun args w => enters_of Try.func32 (by kernel_rfl) rfl args w)) (ext_of (vturns_k t k HK.out wz)) ?_
      rintro e w' ⟨rfl, hx⟩
      exact ⟨_, rfl, upd vs 2 _, rfl, k0.trans hx, inv_step hF (fun j v h => vinv0F1_mono hx j v h) rfl⟩
    · refine step_yes (wanted_of_none rfl _) ?_
      exact wp_of_run (run_fld_mo2 (.tmp 1) rfl _ _ rfl) ⟨upd vs 3 _, rfl, k0, inv_step hF (fun _ _ h => h) rfl⟩
    · refine step_yes (wanted_of_none rfl _) ?_
      exact wp_of_run (run_ldb (.tmp 7) rfl _ _ (by exact (hF 3 (he ⟨3, .data⟩ (by simp) rfl))) _ ((k0.row BW_0.out).cell 3)) ⟨upd vs 4 _, rfl, k0, inv_step hF (fun _ _ h => h) rfl⟩
    · refine step_yes (wanted_of_none rfl _) ?_
      exact wp_of_run (run_build_mo2 (.tmp 6) (.tmp 8) rfl _ _ (by exact (hF 2 (he ⟨2, .data⟩ (by simp) rfl))) (by exact (hF 4 (he ⟨4, .data⟩ (by simp) rfl)))) ⟨upd vs 5 _, rfl, k0, inv_step hF (fun _ _ h => h) rfl⟩
    · refine step_yes (wanted_of_none rfl _) ?_
      exact wp_of_run (run_alloc_mo rfl) ⟨upd vs 6 _, rfl, k0.trans (Ext.alloc _ _), inv_step hF (fun j v h => vinv0F1_mono (Ext.alloc _ _) j v h) (own_new _ _ k0 (Nat.le_refl _))⟩
  case finvinv0_1 =>
    rintro D ac wf hD ⟨vs, rfl, k0, hF⟩
    change wpList _ _ _ [_] _ _
    obtain ⟨g, hg, hle, hr⟩ := hF 6 (hD 6 (by decide))
    have h5 : vs 5 = .agg #[.int .i64 0, .int .i64 0, .int .i64 k, .bool true] := hF 5 (hD 5 (by decide))
    rw [hg, h5]
    clear hF hD h5 hg
    generalize vs = tv1
    obtain ⟨W2, hW2⟩ : ∃ W2, W2 = wf.setRow g #[.int .i64 0, .int .i64 0, .int .i64 k, .bool true] := ⟨_, rfl⟩
    have rg := Lib.hid (show RowAt W2 g 34 #[.int .i64 0, .int .i64 0, .int .i64 k, .bool true] from by rw [hW2]; exact hr.setRow _)
    have hsz := SZW.out
    have r0 := Lib.hid (show RowAt W2 w.heap.size _ _ from by rw [hW2]; exact (k0.row BW_0.out).setRowOther _ (by omega))
    have r1 := Lib.hid (show RowAt W2 (w.heap.size + 1) _ _ from by rw [hW2]; exact (k0.row BW_1.out).setRowOther _ (by omega))
    have E2 := Lib.hid (show Ext w W2 from by rw [hW2]; exact ext_setRow (XW.out.trans k0) (by omega) _)
    have HR := Lib.hid hr
    have HW2 := Lib.hid hW2
    have HLE := Lib.hid (show w.heap.size + 1 + 1 ≤ g from by omega)
    clear hr hW2 hle hsz k0
    have c0 := rg.out.cell 0
    have c1 := rg.out.cell 1
    have c2 := rg.out.cell 2
    have c3 := rg.out.cell 3
    simp at c0 c1 c2 c3
    go_wp2_with (refine store_mo rfl (.tmp 3) (.tmp 9) rfl g rfl _ _ _ _ rfl _ _ _ _ _ HR.out ?_; rw [← HW2.out])
    refine (com_tt k _).mono ?_; rintro e w3 ⟨rfl, hx3⟩
    clear c0 c1 c2 c3
    have rg3 := Lib.hid (hx3.row rg.out)
    have r03 := Lib.hid (hx3.row r0.out)
    have r13 := Lib.hid (hx3.row r1.out)
    have E3 := Lib.hid (E2.out.trans hx3)
    clear hx3 rg r0 r1 E2
    have c0 := rg3.out.cell 0
    have c1 := rg3.out.cell 1
    have c2 := rg3.out.cell 2
    have c3 := rg3.out.cell 3
    simp at c0 c1 c2 c3
    go_wp2_with fail
    clear c0 c1 c2 c3
    refine wp_region_tail (fun D ac w' => ∃ vs : Nat → Value, ac = { tmps := #[Value.agg #[Value.int IntKind.i64 x, Value.int IntKind.i64 y, Value.int IntKind.i64 t, Value.bool true], Value.pointer (some { block := w.heap.size, off := 0 }), Value.pointer (some { block := w.heap.size + 1, off := 0 }), Value.pointer (some { block := g, off := 0 }), tv1 0, tv1 1, tv1 2, tv1 3, tv1 4, Value.agg #[Value.int IntKind.i64 0, Value.int IntKind.i64 0, Value.int IntKind.i64 k, Value.bool true], Value.agg #[Value.int IntKind.i64 0, Value.int IntKind.i64 0, Value.int IntKind.i64 k, Value.bool true], Value.agg #[Value.int IntKind.i64 0, Value.int IntKind.i64 0, Value.int IntKind.i64 k, Value.bool true], Value.agg #[Value.int IntKind.i64 0, Value.int IntKind.i64 0, Value.int IntKind.i64 0, Value.bool false], Value.agg #[Value.int IntKind.i64 0, Value.int IntKind.i64 0, Value.int IntKind.i64 0, Value.bool false], Value.bool false, undef, undef, undef, undef, vs 0, vs 1, vs 2, vs 3, vs 4, vs 5, undef, undef], defers := [] } ∧ Ext w3 w' ∧ ∀ j, D j → vinv0F4 w g tv1 x y t k j (vs j)) 6 (by kernel_rfl) (by kernel_rfl) (by kernel_rfl) ?startvinv0_4 ?stepvinv0_4 ?finvinv0_4
    case startvinv0_4 => exact ⟨fun _ => undef, rfl, Ext.drew _, fun _ h => h.elim⟩
    case stepvinv0_4 =>
      rintro i o D ac wz hin hio hnd he ⟨vs, rfl, k0, hF⟩
      rcases i with _ | _ | _ | _ | _ | _ | i
      rotate_left 6
      · exact absurd hin (by omega)
      all_goals (obtain rfl := Option.some.inj (hio.symm.trans (by rfl)))
      · refine step_yes (wanted_of_none rfl _) ?_
        exact wp_of_run (run_ld_mo (.tmp 3) rfl _ _ rfl _ _ _ _ ((k0.row rg3.out).cell 0) ((k0.row rg3.out).cell 1) ((k0.row rg3.out).cell 2) ((k0.row rg3.out).cell 3)) ⟨upd vs 0 _, rfl, k0, inv_same hF rfl⟩
      · refine step_yes (wanted_of_none rfl _) ?_
        exact wp_of_run (run_build_pt0 rfl) ⟨upd vs 1 _, rfl, k0, inv_same hF rfl⟩
      · refine step_yes (wanted_of_none rfl _) ?_
        exact wp_of_run (run_fld_mo0 (.tmp 1) rfl _ _ rfl) ⟨upd vs 2 _, rfl, k0, inv_same hF rfl⟩
      · refine step_yes (wanted_of_none rfl _) ?_
        exact wp_of_run (run_ld_pt (.tmp 21) rfl _ _ (by exact (hF 2 (he ⟨2, .data⟩ (by simp) rfl))) _ _ ((k0.row r03.out).cell 0) ((k0.row r03.out).cell 1)) ⟨upd vs 3 _, rfl, k0, inv_same hF rfl⟩
      · refine step_yes (wanted_of_none rfl _) ?_
        refine wp_of_callE (run_enter2 13 (.tmp 20) (.tmp 22) _ rfl _ _ (by exact (hF 1 (he ⟨1, .data⟩ (by simp) rfl))) (by exact (hF 3 (he ⟨3, .data⟩ (by simp) rfl))) (fun args w => enters_of Try.func13 (by kernel_rfl) rfl args w)) (vsub 0 0 x y wz) ?_
        rintro e w' ⟨rfl, hx⟩
        exact ⟨_, rfl, upd vs 4 _, rfl, k0.trans hx, inv_same hF rfl⟩
      · refine step_yes (wanted_of_none rfl _) ?_
        refine wp_of_callE (run_enter2 24 (.tmp 19) (.tmp 23) _ rfl _ _ (by exact (hF 0 (he ⟨0, .data⟩ (by simp) rfl))) (by exact (hF 4 (he ⟨4, .data⟩ (by simp) rfl))) (fun args w => enters_of Try.func24 (by kernel_rfl) rfl args w)) (vapply 0 0 k true (wrap64 (0 - x)) (wrap64 (0 - y)) wz) ?_
        rintro e w' ⟨rfl, hx⟩
        exact ⟨_, rfl, upd vs 5 _, rfl, k0.trans hx, inv_same hF rfl⟩
    case finvinv0_4 =>
      rintro D ac wg hD ⟨vs, rfl, k0, hF⟩
      change wpList _ _ _ [_, _] _ _
      have h5 : vs 5 = .agg #[.int .i64 (apX 0 k true (wrap64 (0 - x)) (wrap64 (0 - y))), .int .i64 (apY 0 k true (wrap64 (0 - x)) (wrap64 (0 - y)))] := hF 5 (hD 5 (by decide))
      rw [h5]
      clear hF hD h5
      generalize vs = tv2
      have ra := Lib.hid (k0.row rg3.out)
      have rb := Lib.hid (k0.row r13.out)
      have Ea := Lib.hid (E3.out.trans k0)
      obtain ⟨W5, hW5⟩ : ∃ W5, W5 = wg.setRow g #[.int .i64 (apX 0 k true (wrap64 (0 - x)) (wrap64 (0 - y))), .int .i64 (apY 0 k true (wrap64 (0 - x)) (wrap64 (0 - y))), .int .i64 k, .bool true] := ⟨_, rfl⟩
      have rg5 := Lib.hid (show RowAt W5 g 34 #[.int .i64 (apX 0 k true (wrap64 (0 - x)) (wrap64 (0 - y))), .int .i64 (apY 0 k true (wrap64 (0 - x)) (wrap64 (0 - y))), .int .i64 k, .bool true] from by rw [hW5]; exact ra.out.setRow _)
      have r15 := Lib.hid (show RowAt W5 (w.heap.size + 1) _ _ from by rw [hW5]; exact rb.out.setRowOther _ (by have := HLE.out; omega))
      have E5 := Lib.hid (show Ext w W5 from by rw [hW5]; exact ext_setRow Ea.out (by have := HLE.out; omega) _)
      have HW5 := Lib.hid hW5
      clear hW5 k0
      have c0 := rg5.out.cell 0
      have c1 := rg5.out.cell 1
      have c2 := rg5.out.cell 2
      have c3 := rg5.out.cell 3
      simp at c0 c1 c2 c3
      go_wp2_with (first | (refine store_pt_at rfl (.tmp 25) (.tmp 24) rfl g 0 rfl _ _ rfl _ _ _ _ (#[.int .i64 (apX 0 k true (wrap64 (0 - x)) (wrap64 (0 - y))), .int .i64 (apY 0 k true (wrap64 (0 - x)) (wrap64 (0 - y))), .int .i64 k, .bool true]) ra.out rfl rfl rfl ?_; rw [← HW5.out]) | (refine store_mo rfl (.tmp 2) (.tmp 26) rfl _ rfl _ _ _ _ rfl _ _ _ _ _ r15.out ?_))
      have hI : inT t true = k := by have := HK.out; unfold inT; simp; omega
      exact ret_mo rfl _ rfl _ _ _ _ _ (r15.out.setRow _) ⟨ret_eq (mo_eq (by unfold inX; rw [hI]; simp) (by unfold inY; rw [hI]; simp) hI.symm), ext_setRow E5.out (by omega) _⟩

def vinv1V1 (w : World) (x y t : Int) : Nat → Value
  | 0 => .pointer (some ⟨w.heap.size, 2, none⟩)
  | 1 => .int .i64 t
  | 2 => .int .i64 0
  | 3 => .pointer (some ⟨w.heap.size, 3, none⟩)
  | 4 => .bool false
  | 5 => .agg #[.int .i64 0, .int .i64 0, .int .i64 0, .bool false]
  | _ => undef
def vinv1F1 (w : World) (x y t : Int) (b : Nat) : Nat → Value → World → Prop
  | 6, v, W => Own1 b 34 #[.int .i64 0, .int .i64 0, .int .i64 0, .bool false] v W
  | j, v, _ => v = vinv1V1 w x y t j
theorem vinv1F1_mono {w : World} {x y t : Int} {b : Nat} {W W' : World} (hx : Ext W W') (j : Nat) (v : Value) (h : vinv1F1 w x y t b j v W) : vinv1F1 w x y t b j v W' := by
  match j, h with
  | 6, h => exact Own1.ext h hx
  | 0, h | 1, h | 2, h | 3, h | 4, h | 5, h => exact h
  | k + 7, h => exact h
def vinv1V4 (w : World) (g : Nat) (tv1 : Nat → Value) (x y t : Int) : Nat → Value
  | 0 => .agg #[.int .i64 0, .int .i64 0, .int .i64 0, .bool false]
  | 1 => .agg #[.int .i64 0, .int .i64 0]
  | 2 => .pointer (some ⟨w.heap.size, 0, none⟩)
  | 3 => .agg #[.int .i64 x, .int .i64 y]
  | 4 => .agg #[.int .i64 (wrap64 (0 - x)), .int .i64 (wrap64 (0 - y))]
  | 5 => .agg #[.int .i64 (apX 0 0 false (wrap64 (0 - x)) (wrap64 (0 - y))), .int .i64 (apY 0 0 false (wrap64 (0 - x)) (wrap64 (0 - y)))]
  | _ => undef
def vinv1F4 (w : World) (g : Nat) (tv1 : Nat → Value) (x y t : Int) (j : Nat) (v : Value) : Prop := v = vinv1V4 w g tv1 x y t j
set_option maxRecDepth 100000 in
set_option maxHeartbeats 4000000 in
theorem vinv_1 (x y t : Int) (w : World) (hk : t % 4 = 0) : Calls Try.prog 28 #[.agg #[.int .i64 x, .int .i64 y, .int .i64 t, .bool false]] w fun e w' => e = .returned (.agg #[.int .i64 (inX x y t false), .int .i64 (inY x y t false), .int .i64 (inT t false), .bool false]) ∧ Ext w w' := by
  have HK := Lib.hid hk
  clear hk
  go_enter Try.func28, Try.ntmps28
  go_wp2_with fail
  obtain ⟨W, hW⟩ : ∃ W, W = ((w.alloc (.cells #[.int .i64 x, .int .i64 y, .int .i64 t, .bool false] 34)).alloc (.cells #[.int .i64 0, .int .i64 0, .int .i64 0, .bool false] 34)) := ⟨_, rfl⟩
  have bW_0 : RowAt W (w.heap.size) 34 #[.int .i64 x, .int .i64 y, .int .i64 t, .bool false] := by rw [hW]; exact ((RowAt.new' _ _ (by simp)).alloc _)
  have BW_0 := Lib.hid bW_0
  have bW_1 : RowAt W (w.heap.size + 1) 34 #[.int .i64 0, .int .i64 0, .int .i64 0, .bool false] := by rw [hW]; exact (RowAt.new' _ _ (by simp))
  have BW_1 := Lib.hid bW_1
  have SZW := Lib.hid (show W.heap.size = w.heap.size + 1 + 1 from by rw [hW]; simp)
  have XW := Lib.hid (show Ext w W from by rw [hW]; exact (Ext.alloc _ _).trans (Ext.alloc _ _))
  rw [← hW]
  clear hW bW_0 bW_1
  refine wp_region_tail (fun D ac w' => ∃ vs : Nat → Value, ac = { tmps := #[.agg #[.int .i64 x, .int .i64 y, .int .i64 t, .bool false], .pointer (some ⟨w.heap.size, 0, none⟩), .pointer (some ⟨w.heap.size + 1, 0, none⟩), vs 6, vs 0, vs 1, vs 2, vs 3, vs 4, vs 5, undef, undef, undef, undef, undef, undef, undef, undef, undef, undef, undef, undef, undef, undef, undef, undef, undef], defers := [] } ∧ Ext W w' ∧ ∀ j, D j → vinv1F1 w x y t W.heap.size j (vs j) w') 7 (by kernel_rfl) (by kernel_rfl) (by kernel_rfl) ?startvinv1_1 ?stepvinv1_1 ?finvinv1_1
  case startvinv1_1 => exact ⟨fun _ => undef, rfl, Ext.drew _, fun _ h => h.elim⟩
  case stepvinv1_1 =>
    rintro i o D ac wz hin hio hnd he ⟨vs, rfl, k0, hF⟩
    rcases i with _ | _ | _ | _ | _ | _ | _ | i
    rotate_left 7
    · exact absurd hin (by omega)
    all_goals (obtain rfl := Option.some.inj (hio.symm.trans (by rfl)))
    · refine step_yes (wanted_of_none rfl _) ?_
      exact wp_of_run (run_fld_mo1 (.tmp 1) rfl _ _ rfl) ⟨upd vs 0 _, rfl, k0, inv_step hF (fun _ _ h => h) rfl⟩
    · refine step_yes (wanted_of_none rfl _) ?_
      exact wp_of_run (run_ldi (.tmp 4) rfl _ _ (by exact (hF 0 (he ⟨0, .data⟩ (by simp) rfl))) _ ((k0.row BW_0.out).cell 2)) ⟨upd vs 1 _, rfl, k0, inv_step hF (fun _ _ h => h) rfl⟩
    · refine step_yes (wanted_of_none rfl _) ?_
      refine wp_of_callE (run_enter1 32 (.tmp 5) _ rfl _ (by exact (hF 1 (he ⟨1, .data⟩ (by simp) rfl))) (fun args w => enters_of Try.func32 (by kernel_rfl) rfl args w)) (ext_of (vturns_k t 0 HK.out wz)) ?_
      rintro e w' ⟨rfl, hx⟩
      exact ⟨_, rfl, upd vs 2 _, rfl, k0.trans hx, inv_step hF (fun j v h => vinv1F1_mono hx j v h) rfl⟩
    · refine step_yes (wanted_of_none rfl _) ?_
      exact wp_of_run (run_fld_mo2 (.tmp 1) rfl _ _ rfl) ⟨upd vs 3 _, rfl, k0, inv_step hF (fun _ _ h => h) rfl⟩
    · refine step_yes (wanted_of_none rfl _) ?_
      exact wp_of_run (run_ldb (.tmp 7) rfl _ _ (by exact (hF 3 (he ⟨3, .data⟩ (by simp) rfl))) _ ((k0.row BW_0.out).cell 3)) ⟨upd vs 4 _, rfl, k0, inv_step hF (fun _ _ h => h) rfl⟩
    · refine step_yes (wanted_of_none rfl _) ?_
      exact wp_of_run (run_build_mo2 (.tmp 6) (.tmp 8) rfl _ _ (by exact (hF 2 (he ⟨2, .data⟩ (by simp) rfl))) (by exact (hF 4 (he ⟨4, .data⟩ (by simp) rfl)))) ⟨upd vs 5 _, rfl, k0, inv_step hF (fun _ _ h => h) rfl⟩
    · refine step_yes (wanted_of_none rfl _) ?_
      exact wp_of_run (run_alloc_mo rfl) ⟨upd vs 6 _, rfl, k0.trans (Ext.alloc _ _), inv_step hF (fun j v h => vinv1F1_mono (Ext.alloc _ _) j v h) (own_new _ _ k0 (Nat.le_refl _))⟩
  case finvinv1_1 =>
    rintro D ac wf hD ⟨vs, rfl, k0, hF⟩
    change wpList _ _ _ [_] _ _
    obtain ⟨g, hg, hle, hr⟩ := hF 6 (hD 6 (by decide))
    have h5 : vs 5 = .agg #[.int .i64 0, .int .i64 0, .int .i64 0, .bool false] := hF 5 (hD 5 (by decide))
    rw [hg, h5]
    clear hF hD h5 hg
    generalize vs = tv1
    obtain ⟨W2, hW2⟩ : ∃ W2, W2 = wf.setRow g #[.int .i64 0, .int .i64 0, .int .i64 0, .bool false] := ⟨_, rfl⟩
    have rg := Lib.hid (show RowAt W2 g 34 #[.int .i64 0, .int .i64 0, .int .i64 0, .bool false] from by rw [hW2]; exact hr.setRow _)
    have hsz := SZW.out
    have r0 := Lib.hid (show RowAt W2 w.heap.size _ _ from by rw [hW2]; exact (k0.row BW_0.out).setRowOther _ (by omega))
    have r1 := Lib.hid (show RowAt W2 (w.heap.size + 1) _ _ from by rw [hW2]; exact (k0.row BW_1.out).setRowOther _ (by omega))
    have E2 := Lib.hid (show Ext w W2 from by rw [hW2]; exact ext_setRow (XW.out.trans k0) (by omega) _)
    have HR := Lib.hid hr
    have HW2 := Lib.hid hW2
    have HLE := Lib.hid (show w.heap.size + 1 + 1 ≤ g from by omega)
    clear hr hW2 hle hsz k0
    have c0 := rg.out.cell 0
    have c1 := rg.out.cell 1
    have c2 := rg.out.cell 2
    have c3 := rg.out.cell 3
    simp at c0 c1 c2 c3
    go_wp2_with (refine store_mo rfl (.tmp 3) (.tmp 9) rfl g rfl _ _ _ _ rfl _ _ _ _ _ HR.out ?_; rw [← HW2.out])
    refine (cal_of (vcompose 0 0 0 false 0 0 0 false _) (v' := .agg #[.int .i64 0, .int .i64 0, .int .i64 0, .bool false]) (by kernel_rfl)).mono ?_; rintro e w3 ⟨rfl, hx3⟩
    clear c0 c1 c2 c3
    have rg3 := Lib.hid (hx3.row rg.out)
    have r03 := Lib.hid (hx3.row r0.out)
    have r13 := Lib.hid (hx3.row r1.out)
    have E3 := Lib.hid (E2.out.trans hx3)
    clear hx3 rg r0 r1 E2
    have c0 := rg3.out.cell 0
    have c1 := rg3.out.cell 1
    have c2 := rg3.out.cell 2
    have c3 := rg3.out.cell 3
    simp at c0 c1 c2 c3
    go_wp2_with fail
    clear c0 c1 c2 c3
    refine wp_region_tail (fun D ac w' => ∃ vs : Nat → Value, ac = { tmps := #[Value.agg #[Value.int IntKind.i64 x, Value.int IntKind.i64 y, Value.int IntKind.i64 t, Value.bool false], Value.pointer (some { block := w.heap.size, off := 0 }), Value.pointer (some { block := w.heap.size + 1, off := 0 }), Value.pointer (some { block := g, off := 0 }), tv1 0, tv1 1, tv1 2, tv1 3, tv1 4, Value.agg #[Value.int IntKind.i64 0, Value.int IntKind.i64 0, Value.int IntKind.i64 0, Value.bool false], Value.agg #[Value.int IntKind.i64 0, Value.int IntKind.i64 0, Value.int IntKind.i64 0, Value.bool false], Value.agg #[Value.int IntKind.i64 0, Value.int IntKind.i64 0, Value.int IntKind.i64 0, Value.bool false], Value.agg #[Value.int IntKind.i64 0, Value.int IntKind.i64 0, Value.int IntKind.i64 0, Value.bool false], Value.agg #[Value.int IntKind.i64 0, Value.int IntKind.i64 0, Value.int IntKind.i64 0, Value.bool false], Value.bool false, undef, undef, undef, undef, vs 0, vs 1, vs 2, vs 3, vs 4, vs 5, undef, undef], defers := [] } ∧ Ext w3 w' ∧ ∀ j, D j → vinv1F4 w g tv1 x y t j (vs j)) 6 (by kernel_rfl) (by kernel_rfl) (by kernel_rfl) ?startvinv1_4 ?stepvinv1_4 ?finvinv1_4
    case startvinv1_4 => exact ⟨fun _ => undef, rfl, Ext.drew _, fun _ h => h.elim⟩
    case stepvinv1_4 =>
      rintro i o D ac wz hin hio hnd he ⟨vs, rfl, k0, hF⟩
      rcases i with _ | _ | _ | _ | _ | _ | i
      rotate_left 6
      · exact absurd hin (by omega)
      all_goals (obtain rfl := Option.some.inj (hio.symm.trans (by rfl)))
      · refine step_yes (wanted_of_none rfl _) ?_
        exact wp_of_run (run_ld_mo (.tmp 3) rfl _ _ rfl _ _ _ _ ((k0.row rg3.out).cell 0) ((k0.row rg3.out).cell 1) ((k0.row rg3.out).cell 2) ((k0.row rg3.out).cell 3)) ⟨upd vs 0 _, rfl, k0, inv_same hF rfl⟩
      · refine step_yes (wanted_of_none rfl _) ?_
        exact wp_of_run (run_build_pt0 rfl) ⟨upd vs 1 _, rfl, k0, inv_same hF rfl⟩
      · refine step_yes (wanted_of_none rfl _) ?_
        exact wp_of_run (run_fld_mo0 (.tmp 1) rfl _ _ rfl) ⟨upd vs 2 _, rfl, k0, inv_same hF rfl⟩
      · refine step_yes (wanted_of_none rfl _) ?_
        exact wp_of_run (run_ld_pt (.tmp 21) rfl _ _ (by exact (hF 2 (he ⟨2, .data⟩ (by simp) rfl))) _ _ ((k0.row r03.out).cell 0) ((k0.row r03.out).cell 1)) ⟨upd vs 3 _, rfl, k0, inv_same hF rfl⟩
      · refine step_yes (wanted_of_none rfl _) ?_
        refine wp_of_callE (run_enter2 13 (.tmp 20) (.tmp 22) _ rfl _ _ (by exact (hF 1 (he ⟨1, .data⟩ (by simp) rfl))) (by exact (hF 3 (he ⟨3, .data⟩ (by simp) rfl))) (fun args w => enters_of Try.func13 (by kernel_rfl) rfl args w)) (vsub 0 0 x y wz) ?_
        rintro e w' ⟨rfl, hx⟩
        exact ⟨_, rfl, upd vs 4 _, rfl, k0.trans hx, inv_same hF rfl⟩
      · refine step_yes (wanted_of_none rfl _) ?_
        refine wp_of_callE (run_enter2 24 (.tmp 19) (.tmp 23) _ rfl _ _ (by exact (hF 0 (he ⟨0, .data⟩ (by simp) rfl))) (by exact (hF 4 (he ⟨4, .data⟩ (by simp) rfl))) (fun args w => enters_of Try.func24 (by kernel_rfl) rfl args w)) (vapply 0 0 0 false (wrap64 (0 - x)) (wrap64 (0 - y)) wz) ?_
        rintro e w' ⟨rfl, hx⟩
        exact ⟨_, rfl, upd vs 5 _, rfl, k0.trans hx, inv_same hF rfl⟩
    case finvinv1_4 =>
      rintro D ac wg hD ⟨vs, rfl, k0, hF⟩
      change wpList _ _ _ [_, _] _ _
      have h5 : vs 5 = .agg #[.int .i64 (apX 0 0 false (wrap64 (0 - x)) (wrap64 (0 - y))), .int .i64 (apY 0 0 false (wrap64 (0 - x)) (wrap64 (0 - y)))] := hF 5 (hD 5 (by decide))
      rw [h5]
      clear hF hD h5
      generalize vs = tv2
      have ra := Lib.hid (k0.row rg3.out)
      have rb := Lib.hid (k0.row r13.out)
      have Ea := Lib.hid (E3.out.trans k0)
      obtain ⟨W5, hW5⟩ : ∃ W5, W5 = wg.setRow g #[.int .i64 (apX 0 0 false (wrap64 (0 - x)) (wrap64 (0 - y))), .int .i64 (apY 0 0 false (wrap64 (0 - x)) (wrap64 (0 - y))), .int .i64 0, .bool false] := ⟨_, rfl⟩
      have rg5 := Lib.hid (show RowAt W5 g 34 #[.int .i64 (apX 0 0 false (wrap64 (0 - x)) (wrap64 (0 - y))), .int .i64 (apY 0 0 false (wrap64 (0 - x)) (wrap64 (0 - y))), .int .i64 0, .bool false] from by rw [hW5]; exact ra.out.setRow _)
      have r15 := Lib.hid (show RowAt W5 (w.heap.size + 1) _ _ from by rw [hW5]; exact rb.out.setRowOther _ (by have := HLE.out; omega))
      have E5 := Lib.hid (show Ext w W5 from by rw [hW5]; exact ext_setRow Ea.out (by have := HLE.out; omega) _)
      have HW5 := Lib.hid hW5
      clear hW5 k0
      have c0 := rg5.out.cell 0
      have c1 := rg5.out.cell 1
      have c2 := rg5.out.cell 2
      have c3 := rg5.out.cell 3
      simp at c0 c1 c2 c3
      go_wp2_with (first | (refine store_pt_at rfl (.tmp 25) (.tmp 24) rfl g 0 rfl _ _ rfl _ _ _ _ (#[.int .i64 (apX 0 0 false (wrap64 (0 - x)) (wrap64 (0 - y))), .int .i64 (apY 0 0 false (wrap64 (0 - x)) (wrap64 (0 - y))), .int .i64 0, .bool false]) ra.out rfl rfl rfl ?_; rw [← HW5.out]) | (refine store_mo rfl (.tmp 2) (.tmp 26) rfl _ rfl _ _ _ _ rfl _ _ _ _ _ r15.out ?_))
      have hI : inT t false = 0 := by have := HK.out; unfold inT; simp; omega
      exact ret_mo rfl _ rfl _ _ _ _ _ (r15.out.setRow _) ⟨ret_eq (mo_eq (by unfold inX; rw [hI]; simp) (by unfold inY; rw [hI]; simp) hI.symm), ext_setRow E5.out (by omega) _⟩

def vinv2V1 (w : World) (x y t : Int) : Nat → Value
  | 0 => .pointer (some ⟨w.heap.size, 2, none⟩)
  | 1 => .int .i64 t
  | 2 => .int .i64 1
  | 3 => .pointer (some ⟨w.heap.size, 3, none⟩)
  | 4 => .bool false
  | 5 => .agg #[.int .i64 0, .int .i64 0, .int .i64 1, .bool false]
  | _ => undef
def vinv2F1 (w : World) (x y t : Int) (b : Nat) : Nat → Value → World → Prop
  | 6, v, W => Own1 b 34 #[.int .i64 0, .int .i64 0, .int .i64 0, .bool false] v W
  | j, v, _ => v = vinv2V1 w x y t j
theorem vinv2F1_mono {w : World} {x y t : Int} {b : Nat} {W W' : World} (hx : Ext W W') (j : Nat) (v : Value) (h : vinv2F1 w x y t b j v W) : vinv2F1 w x y t b j v W' := by
  match j, h with
  | 6, h => exact Own1.ext h hx
  | 0, h | 1, h | 2, h | 3, h | 4, h | 5, h => exact h
  | k + 7, h => exact h
def vinv2V4 (w : World) (g : Nat) (tv1 : Nat → Value) (x y t : Int) : Nat → Value
  | 0 => .agg #[.int .i64 0, .int .i64 0, .int .i64 3, .bool false]
  | 1 => .agg #[.int .i64 0, .int .i64 0]
  | 2 => .pointer (some ⟨w.heap.size, 0, none⟩)
  | 3 => .agg #[.int .i64 x, .int .i64 y]
  | 4 => .agg #[.int .i64 (wrap64 (0 - x)), .int .i64 (wrap64 (0 - y))]
  | 5 => .agg #[.int .i64 (apX 0 3 false (wrap64 (0 - x)) (wrap64 (0 - y))), .int .i64 (apY 0 3 false (wrap64 (0 - x)) (wrap64 (0 - y)))]
  | _ => undef
def vinv2F4 (w : World) (g : Nat) (tv1 : Nat → Value) (x y t : Int) (j : Nat) (v : Value) : Prop := v = vinv2V4 w g tv1 x y t j
set_option maxRecDepth 100000 in
set_option maxHeartbeats 4000000 in
theorem vinv_2 (x y t : Int) (w : World) (hk : t % 4 = 1) : Calls Try.prog 28 #[.agg #[.int .i64 x, .int .i64 y, .int .i64 t, .bool false]] w fun e w' => e = .returned (.agg #[.int .i64 (inX x y t false), .int .i64 (inY x y t false), .int .i64 (inT t false), .bool false]) ∧ Ext w w' := by
  have HK := Lib.hid hk
  clear hk
  go_enter Try.func28, Try.ntmps28
  go_wp2_with fail
  obtain ⟨W, hW⟩ : ∃ W, W = ((w.alloc (.cells #[.int .i64 x, .int .i64 y, .int .i64 t, .bool false] 34)).alloc (.cells #[.int .i64 0, .int .i64 0, .int .i64 0, .bool false] 34)) := ⟨_, rfl⟩
  have bW_0 : RowAt W (w.heap.size) 34 #[.int .i64 x, .int .i64 y, .int .i64 t, .bool false] := by rw [hW]; exact ((RowAt.new' _ _ (by simp)).alloc _)
  have BW_0 := Lib.hid bW_0
  have bW_1 : RowAt W (w.heap.size + 1) 34 #[.int .i64 0, .int .i64 0, .int .i64 0, .bool false] := by rw [hW]; exact (RowAt.new' _ _ (by simp))
  have BW_1 := Lib.hid bW_1
  have SZW := Lib.hid (show W.heap.size = w.heap.size + 1 + 1 from by rw [hW]; simp)
  have XW := Lib.hid (show Ext w W from by rw [hW]; exact (Ext.alloc _ _).trans (Ext.alloc _ _))
  rw [← hW]
  clear hW bW_0 bW_1
  refine wp_region_tail (fun D ac w' => ∃ vs : Nat → Value, ac = { tmps := #[.agg #[.int .i64 x, .int .i64 y, .int .i64 t, .bool false], .pointer (some ⟨w.heap.size, 0, none⟩), .pointer (some ⟨w.heap.size + 1, 0, none⟩), vs 6, vs 0, vs 1, vs 2, vs 3, vs 4, vs 5, undef, undef, undef, undef, undef, undef, undef, undef, undef, undef, undef, undef, undef, undef, undef, undef, undef], defers := [] } ∧ Ext W w' ∧ ∀ j, D j → vinv2F1 w x y t W.heap.size j (vs j) w') 7 (by kernel_rfl) (by kernel_rfl) (by kernel_rfl) ?startvinv2_1 ?stepvinv2_1 ?finvinv2_1
  case startvinv2_1 => exact ⟨fun _ => undef, rfl, Ext.drew _, fun _ h => h.elim⟩
  case stepvinv2_1 =>
    rintro i o D ac wz hin hio hnd he ⟨vs, rfl, k0, hF⟩
    rcases i with _ | _ | _ | _ | _ | _ | _ | i
    rotate_left 7
    · exact absurd hin (by omega)
    all_goals (obtain rfl := Option.some.inj (hio.symm.trans (by rfl)))
    · refine step_yes (wanted_of_none rfl _) ?_
      exact wp_of_run (run_fld_mo1 (.tmp 1) rfl _ _ rfl) ⟨upd vs 0 _, rfl, k0, inv_step hF (fun _ _ h => h) rfl⟩
    · refine step_yes (wanted_of_none rfl _) ?_
      exact wp_of_run (run_ldi (.tmp 4) rfl _ _ (by exact (hF 0 (he ⟨0, .data⟩ (by simp) rfl))) _ ((k0.row BW_0.out).cell 2)) ⟨upd vs 1 _, rfl, k0, inv_step hF (fun _ _ h => h) rfl⟩
    · refine step_yes (wanted_of_none rfl _) ?_
      refine wp_of_callE (run_enter1 32 (.tmp 5) _ rfl _ (by exact (hF 1 (he ⟨1, .data⟩ (by simp) rfl))) (fun args w => enters_of Try.func32 (by kernel_rfl) rfl args w)) (ext_of (vturns_k t 1 HK.out wz)) ?_
      rintro e w' ⟨rfl, hx⟩
      exact ⟨_, rfl, upd vs 2 _, rfl, k0.trans hx, inv_step hF (fun j v h => vinv2F1_mono hx j v h) rfl⟩
    · refine step_yes (wanted_of_none rfl _) ?_
      exact wp_of_run (run_fld_mo2 (.tmp 1) rfl _ _ rfl) ⟨upd vs 3 _, rfl, k0, inv_step hF (fun _ _ h => h) rfl⟩
    · refine step_yes (wanted_of_none rfl _) ?_
      exact wp_of_run (run_ldb (.tmp 7) rfl _ _ (by exact (hF 3 (he ⟨3, .data⟩ (by simp) rfl))) _ ((k0.row BW_0.out).cell 3)) ⟨upd vs 4 _, rfl, k0, inv_step hF (fun _ _ h => h) rfl⟩
    · refine step_yes (wanted_of_none rfl _) ?_
      exact wp_of_run (run_build_mo2 (.tmp 6) (.tmp 8) rfl _ _ (by exact (hF 2 (he ⟨2, .data⟩ (by simp) rfl))) (by exact (hF 4 (he ⟨4, .data⟩ (by simp) rfl)))) ⟨upd vs 5 _, rfl, k0, inv_step hF (fun _ _ h => h) rfl⟩
    · refine step_yes (wanted_of_none rfl _) ?_
      exact wp_of_run (run_alloc_mo rfl) ⟨upd vs 6 _, rfl, k0.trans (Ext.alloc _ _), inv_step hF (fun j v h => vinv2F1_mono (Ext.alloc _ _) j v h) (own_new _ _ k0 (Nat.le_refl _))⟩
  case finvinv2_1 =>
    rintro D ac wf hD ⟨vs, rfl, k0, hF⟩
    change wpList _ _ _ [_] _ _
    obtain ⟨g, hg, hle, hr⟩ := hF 6 (hD 6 (by decide))
    have h5 : vs 5 = .agg #[.int .i64 0, .int .i64 0, .int .i64 1, .bool false] := hF 5 (hD 5 (by decide))
    rw [hg, h5]
    clear hF hD h5 hg
    generalize vs = tv1
    obtain ⟨W2, hW2⟩ : ∃ W2, W2 = wf.setRow g #[.int .i64 0, .int .i64 0, .int .i64 1, .bool false] := ⟨_, rfl⟩
    have rg := Lib.hid (show RowAt W2 g 34 #[.int .i64 0, .int .i64 0, .int .i64 1, .bool false] from by rw [hW2]; exact hr.setRow _)
    have hsz := SZW.out
    have r0 := Lib.hid (show RowAt W2 w.heap.size _ _ from by rw [hW2]; exact (k0.row BW_0.out).setRowOther _ (by omega))
    have r1 := Lib.hid (show RowAt W2 (w.heap.size + 1) _ _ from by rw [hW2]; exact (k0.row BW_1.out).setRowOther _ (by omega))
    have E2 := Lib.hid (show Ext w W2 from by rw [hW2]; exact ext_setRow (XW.out.trans k0) (by omega) _)
    have HR := Lib.hid hr
    have HW2 := Lib.hid hW2
    have HLE := Lib.hid (show w.heap.size + 1 + 1 ≤ g from by omega)
    clear hr hW2 hle hsz k0
    have c0 := rg.out.cell 0
    have c1 := rg.out.cell 1
    have c2 := rg.out.cell 2
    have c3 := rg.out.cell 3
    simp at c0 c1 c2 c3
    go_wp2_with (refine store_mo rfl (.tmp 3) (.tmp 9) rfl g rfl _ _ _ _ rfl _ _ _ _ _ HR.out ?_; rw [← HW2.out])
    refine (cal_of (vcompose 0 0 1 false 0 0 1 false _) (v' := .agg #[.int .i64 0, .int .i64 0, .int .i64 2, .bool false]) (by kernel_rfl)).mono ?_; rintro e w3 ⟨rfl, hx3⟩
    clear c0 c1 c2 c3
    have rg3 := Lib.hid (hx3.row rg.out)
    have r03 := Lib.hid (hx3.row r0.out)
    have r13 := Lib.hid (hx3.row r1.out)
    have E3 := Lib.hid (E2.out.trans hx3)
    clear hx3 rg r0 r1 E2
    have c0 := rg3.out.cell 0
    have c1 := rg3.out.cell 1
    have c2 := rg3.out.cell 2
    have c3 := rg3.out.cell 3
    simp at c0 c1 c2 c3
    obtain ⟨W4, hW4⟩ : ∃ W4, W4 = w3.setRow g #[.int .i64 0, .int .i64 0, .int .i64 3, .bool false] := ⟨_, rfl⟩
    have rg4 := Lib.hid (show RowAt W4 g 34 #[.int .i64 0, .int .i64 0, .int .i64 3, .bool false] from by rw [hW4]; exact rg3.out.setRow _)
    have r04 := Lib.hid (show RowAt W4 w.heap.size _ _ from by rw [hW4]; exact r03.out.setRowOther _ (by have := HLE.out; omega))
    have r14 := Lib.hid (show RowAt W4 (w.heap.size + 1) _ _ from by rw [hW4]; exact r13.out.setRowOther _ (by have := HLE.out; omega))
    have E4 := Lib.hid (show Ext w W4 from by rw [hW4]; exact ext_setRow E3.out (by have := HLE.out; omega) _)
    have HW4 := Lib.hid hW4
    clear hW4
    go_wp2_with (refine store_i_at rfl (.tmp 18) (.tmp 17) rfl g 2 rfl _ rfl _ _ _ (#[.int .i64 0, .int .i64 0, .int .i64 3, .bool false]) rg3.out rfl rfl ?_; rw [← HW4.out])
    clear c0 c1 c2 c3
    refine wp_region_tail (fun D ac w' => ∃ vs : Nat → Value, ac = { tmps := #[Value.agg #[Value.int IntKind.i64 x, Value.int IntKind.i64 y, Value.int IntKind.i64 t, Value.bool false], Value.pointer (some { block := w.heap.size, off := 0 }), Value.pointer (some { block := w.heap.size + 1, off := 0 }), Value.pointer (some { block := g, off := 0 }), tv1 0, tv1 1, tv1 2, tv1 3, tv1 4, Value.agg #[Value.int IntKind.i64 0, Value.int IntKind.i64 0, Value.int IntKind.i64 1, Value.bool false], Value.agg #[Value.int IntKind.i64 0, Value.int IntKind.i64 0, Value.int IntKind.i64 1, Value.bool false], Value.agg #[Value.int IntKind.i64 0, Value.int IntKind.i64 0, Value.int IntKind.i64 1, Value.bool false], Value.agg #[Value.int IntKind.i64 0, Value.int IntKind.i64 0, Value.int IntKind.i64 2, Value.bool false], Value.agg #[Value.int IntKind.i64 0, Value.int IntKind.i64 0, Value.int IntKind.i64 0, Value.bool false], Value.bool true, Value.pointer (some { block := g, off := 2 }), Value.int IntKind.i64 1, Value.int IntKind.i64 3, Value.pointer (some { block := g, off := 2 }), vs 0, vs 1, vs 2, vs 3, vs 4, vs 5, undef, undef], defers := [] } ∧ Ext W4 w' ∧ ∀ j, D j → vinv2F4 w g tv1 x y t j (vs j)) 6 (by kernel_rfl) (by kernel_rfl) (by kernel_rfl) ?startvinv2_4 ?stepvinv2_4 ?finvinv2_4
    case startvinv2_4 => exact ⟨fun _ => undef, rfl, Ext.drew _, fun _ h => h.elim⟩
    case stepvinv2_4 =>
      rintro i o D ac wz hin hio hnd he ⟨vs, rfl, k0, hF⟩
      rcases i with _ | _ | _ | _ | _ | _ | i
      rotate_left 6
      · exact absurd hin (by omega)
      all_goals (obtain rfl := Option.some.inj (hio.symm.trans (by rfl)))
      · refine step_yes (wanted_of_none rfl _) ?_
        exact wp_of_run (run_ld_mo (.tmp 3) rfl _ _ rfl _ _ _ _ ((k0.row rg4.out).cell 0) ((k0.row rg4.out).cell 1) ((k0.row rg4.out).cell 2) ((k0.row rg4.out).cell 3)) ⟨upd vs 0 _, rfl, k0, inv_same hF rfl⟩
      · refine step_yes (wanted_of_none rfl _) ?_
        exact wp_of_run (run_build_pt0 rfl) ⟨upd vs 1 _, rfl, k0, inv_same hF rfl⟩
      · refine step_yes (wanted_of_none rfl _) ?_
        exact wp_of_run (run_fld_mo0 (.tmp 1) rfl _ _ rfl) ⟨upd vs 2 _, rfl, k0, inv_same hF rfl⟩
      · refine step_yes (wanted_of_none rfl _) ?_
        exact wp_of_run (run_ld_pt (.tmp 21) rfl _ _ (by exact (hF 2 (he ⟨2, .data⟩ (by simp) rfl))) _ _ ((k0.row r04.out).cell 0) ((k0.row r04.out).cell 1)) ⟨upd vs 3 _, rfl, k0, inv_same hF rfl⟩
      · refine step_yes (wanted_of_none rfl _) ?_
        refine wp_of_callE (run_enter2 13 (.tmp 20) (.tmp 22) _ rfl _ _ (by exact (hF 1 (he ⟨1, .data⟩ (by simp) rfl))) (by exact (hF 3 (he ⟨3, .data⟩ (by simp) rfl))) (fun args w => enters_of Try.func13 (by kernel_rfl) rfl args w)) (vsub 0 0 x y wz) ?_
        rintro e w' ⟨rfl, hx⟩
        exact ⟨_, rfl, upd vs 4 _, rfl, k0.trans hx, inv_same hF rfl⟩
      · refine step_yes (wanted_of_none rfl _) ?_
        refine wp_of_callE (run_enter2 24 (.tmp 19) (.tmp 23) _ rfl _ _ (by exact (hF 0 (he ⟨0, .data⟩ (by simp) rfl))) (by exact (hF 4 (he ⟨4, .data⟩ (by simp) rfl))) (fun args w => enters_of Try.func24 (by kernel_rfl) rfl args w)) (vapply 0 0 3 false (wrap64 (0 - x)) (wrap64 (0 - y)) wz) ?_
        rintro e w' ⟨rfl, hx⟩
        exact ⟨_, rfl, upd vs 5 _, rfl, k0.trans hx, inv_same hF rfl⟩
    case finvinv2_4 =>
      rintro D ac wg hD ⟨vs, rfl, k0, hF⟩
      change wpList _ _ _ [_, _] _ _
      have h5 : vs 5 = .agg #[.int .i64 (apX 0 3 false (wrap64 (0 - x)) (wrap64 (0 - y))), .int .i64 (apY 0 3 false (wrap64 (0 - x)) (wrap64 (0 - y)))] := hF 5 (hD 5 (by decide))
      rw [h5]
      clear hF hD h5
      generalize vs = tv2
      have ra := Lib.hid (k0.row rg4.out)
      have rb := Lib.hid (k0.row r14.out)
      have Ea := Lib.hid (E4.out.trans k0)
      obtain ⟨W5, hW5⟩ : ∃ W5, W5 = wg.setRow g #[.int .i64 (apX 0 3 false (wrap64 (0 - x)) (wrap64 (0 - y))), .int .i64 (apY 0 3 false (wrap64 (0 - x)) (wrap64 (0 - y))), .int .i64 3, .bool false] := ⟨_, rfl⟩
      have rg5 := Lib.hid (show RowAt W5 g 34 #[.int .i64 (apX 0 3 false (wrap64 (0 - x)) (wrap64 (0 - y))), .int .i64 (apY 0 3 false (wrap64 (0 - x)) (wrap64 (0 - y))), .int .i64 3, .bool false] from by rw [hW5]; exact ra.out.setRow _)
      have r15 := Lib.hid (show RowAt W5 (w.heap.size + 1) _ _ from by rw [hW5]; exact rb.out.setRowOther _ (by have := HLE.out; omega))
      have E5 := Lib.hid (show Ext w W5 from by rw [hW5]; exact ext_setRow Ea.out (by have := HLE.out; omega) _)
      have HW5 := Lib.hid hW5
      clear hW5 k0
      have c0 := rg5.out.cell 0
      have c1 := rg5.out.cell 1
      have c2 := rg5.out.cell 2
      have c3 := rg5.out.cell 3
      simp at c0 c1 c2 c3
      go_wp2_with (first | (refine store_pt_at rfl (.tmp 25) (.tmp 24) rfl g 0 rfl _ _ rfl _ _ _ _ (#[.int .i64 (apX 0 3 false (wrap64 (0 - x)) (wrap64 (0 - y))), .int .i64 (apY 0 3 false (wrap64 (0 - x)) (wrap64 (0 - y))), .int .i64 3, .bool false]) ra.out rfl rfl rfl ?_; rw [← HW5.out]) | (refine store_mo rfl (.tmp 2) (.tmp 26) rfl _ rfl _ _ _ _ rfl _ _ _ _ _ r15.out ?_))
      have hI : inT t false = 3 := by have := HK.out; unfold inT; simp; omega
      exact ret_mo rfl _ rfl _ _ _ _ _ (r15.out.setRow _) ⟨ret_eq (mo_eq (by unfold inX; rw [hI]; simp) (by unfold inY; rw [hI]; simp) hI.symm), ext_setRow E5.out (by omega) _⟩

def vinv3V1 (w : World) (x y t : Int) : Nat → Value
  | 0 => .pointer (some ⟨w.heap.size, 2, none⟩)
  | 1 => .int .i64 t
  | 2 => .int .i64 2
  | 3 => .pointer (some ⟨w.heap.size, 3, none⟩)
  | 4 => .bool false
  | 5 => .agg #[.int .i64 0, .int .i64 0, .int .i64 2, .bool false]
  | _ => undef
def vinv3F1 (w : World) (x y t : Int) (b : Nat) : Nat → Value → World → Prop
  | 6, v, W => Own1 b 34 #[.int .i64 0, .int .i64 0, .int .i64 0, .bool false] v W
  | j, v, _ => v = vinv3V1 w x y t j
theorem vinv3F1_mono {w : World} {x y t : Int} {b : Nat} {W W' : World} (hx : Ext W W') (j : Nat) (v : Value) (h : vinv3F1 w x y t b j v W) : vinv3F1 w x y t b j v W' := by
  match j, h with
  | 6, h => exact Own1.ext h hx
  | 0, h | 1, h | 2, h | 3, h | 4, h | 5, h => exact h
  | k + 7, h => exact h
def vinv3V4 (w : World) (g : Nat) (tv1 : Nat → Value) (x y t : Int) : Nat → Value
  | 0 => .agg #[.int .i64 0, .int .i64 0, .int .i64 2, .bool false]
  | 1 => .agg #[.int .i64 0, .int .i64 0]
  | 2 => .pointer (some ⟨w.heap.size, 0, none⟩)
  | 3 => .agg #[.int .i64 x, .int .i64 y]
  | 4 => .agg #[.int .i64 (wrap64 (0 - x)), .int .i64 (wrap64 (0 - y))]
  | 5 => .agg #[.int .i64 (apX 0 2 false (wrap64 (0 - x)) (wrap64 (0 - y))), .int .i64 (apY 0 2 false (wrap64 (0 - x)) (wrap64 (0 - y)))]
  | _ => undef
def vinv3F4 (w : World) (g : Nat) (tv1 : Nat → Value) (x y t : Int) (j : Nat) (v : Value) : Prop := v = vinv3V4 w g tv1 x y t j
set_option maxRecDepth 100000 in
set_option maxHeartbeats 4000000 in
theorem vinv_3 (x y t : Int) (w : World) (hk : t % 4 = 2) : Calls Try.prog 28 #[.agg #[.int .i64 x, .int .i64 y, .int .i64 t, .bool false]] w fun e w' => e = .returned (.agg #[.int .i64 (inX x y t false), .int .i64 (inY x y t false), .int .i64 (inT t false), .bool false]) ∧ Ext w w' := by
  have HK := Lib.hid hk
  clear hk
  go_enter Try.func28, Try.ntmps28
  go_wp2_with fail
  obtain ⟨W, hW⟩ : ∃ W, W = ((w.alloc (.cells #[.int .i64 x, .int .i64 y, .int .i64 t, .bool false] 34)).alloc (.cells #[.int .i64 0, .int .i64 0, .int .i64 0, .bool false] 34)) := ⟨_, rfl⟩
  have bW_0 : RowAt W (w.heap.size) 34 #[.int .i64 x, .int .i64 y, .int .i64 t, .bool false] := by rw [hW]; exact ((RowAt.new' _ _ (by simp)).alloc _)
  have BW_0 := Lib.hid bW_0
  have bW_1 : RowAt W (w.heap.size + 1) 34 #[.int .i64 0, .int .i64 0, .int .i64 0, .bool false] := by rw [hW]; exact (RowAt.new' _ _ (by simp))
  have BW_1 := Lib.hid bW_1
  have SZW := Lib.hid (show W.heap.size = w.heap.size + 1 + 1 from by rw [hW]; simp)
  have XW := Lib.hid (show Ext w W from by rw [hW]; exact (Ext.alloc _ _).trans (Ext.alloc _ _))
  rw [← hW]
  clear hW bW_0 bW_1
  refine wp_region_tail (fun D ac w' => ∃ vs : Nat → Value, ac = { tmps := #[.agg #[.int .i64 x, .int .i64 y, .int .i64 t, .bool false], .pointer (some ⟨w.heap.size, 0, none⟩), .pointer (some ⟨w.heap.size + 1, 0, none⟩), vs 6, vs 0, vs 1, vs 2, vs 3, vs 4, vs 5, undef, undef, undef, undef, undef, undef, undef, undef, undef, undef, undef, undef, undef, undef, undef, undef, undef], defers := [] } ∧ Ext W w' ∧ ∀ j, D j → vinv3F1 w x y t W.heap.size j (vs j) w') 7 (by kernel_rfl) (by kernel_rfl) (by kernel_rfl) ?startvinv3_1 ?stepvinv3_1 ?finvinv3_1
  case startvinv3_1 => exact ⟨fun _ => undef, rfl, Ext.drew _, fun _ h => h.elim⟩
  case stepvinv3_1 =>
    rintro i o D ac wz hin hio hnd he ⟨vs, rfl, k0, hF⟩
    rcases i with _ | _ | _ | _ | _ | _ | _ | i
    rotate_left 7
    · exact absurd hin (by omega)
    all_goals (obtain rfl := Option.some.inj (hio.symm.trans (by rfl)))
    · refine step_yes (wanted_of_none rfl _) ?_
      exact wp_of_run (run_fld_mo1 (.tmp 1) rfl _ _ rfl) ⟨upd vs 0 _, rfl, k0, inv_step hF (fun _ _ h => h) rfl⟩
    · refine step_yes (wanted_of_none rfl _) ?_
      exact wp_of_run (run_ldi (.tmp 4) rfl _ _ (by exact (hF 0 (he ⟨0, .data⟩ (by simp) rfl))) _ ((k0.row BW_0.out).cell 2)) ⟨upd vs 1 _, rfl, k0, inv_step hF (fun _ _ h => h) rfl⟩
    · refine step_yes (wanted_of_none rfl _) ?_
      refine wp_of_callE (run_enter1 32 (.tmp 5) _ rfl _ (by exact (hF 1 (he ⟨1, .data⟩ (by simp) rfl))) (fun args w => enters_of Try.func32 (by kernel_rfl) rfl args w)) (ext_of (vturns_k t 2 HK.out wz)) ?_
      rintro e w' ⟨rfl, hx⟩
      exact ⟨_, rfl, upd vs 2 _, rfl, k0.trans hx, inv_step hF (fun j v h => vinv3F1_mono hx j v h) rfl⟩
    · refine step_yes (wanted_of_none rfl _) ?_
      exact wp_of_run (run_fld_mo2 (.tmp 1) rfl _ _ rfl) ⟨upd vs 3 _, rfl, k0, inv_step hF (fun _ _ h => h) rfl⟩
    · refine step_yes (wanted_of_none rfl _) ?_
      exact wp_of_run (run_ldb (.tmp 7) rfl _ _ (by exact (hF 3 (he ⟨3, .data⟩ (by simp) rfl))) _ ((k0.row BW_0.out).cell 3)) ⟨upd vs 4 _, rfl, k0, inv_step hF (fun _ _ h => h) rfl⟩
    · refine step_yes (wanted_of_none rfl _) ?_
      exact wp_of_run (run_build_mo2 (.tmp 6) (.tmp 8) rfl _ _ (by exact (hF 2 (he ⟨2, .data⟩ (by simp) rfl))) (by exact (hF 4 (he ⟨4, .data⟩ (by simp) rfl)))) ⟨upd vs 5 _, rfl, k0, inv_step hF (fun _ _ h => h) rfl⟩
    · refine step_yes (wanted_of_none rfl _) ?_
      exact wp_of_run (run_alloc_mo rfl) ⟨upd vs 6 _, rfl, k0.trans (Ext.alloc _ _), inv_step hF (fun j v h => vinv3F1_mono (Ext.alloc _ _) j v h) (own_new _ _ k0 (Nat.le_refl _))⟩
  case finvinv3_1 =>
    rintro D ac wf hD ⟨vs, rfl, k0, hF⟩
    change wpList _ _ _ [_] _ _
    obtain ⟨g, hg, hle, hr⟩ := hF 6 (hD 6 (by decide))
    have h5 : vs 5 = .agg #[.int .i64 0, .int .i64 0, .int .i64 2, .bool false] := hF 5 (hD 5 (by decide))
    rw [hg, h5]
    clear hF hD h5 hg
    generalize vs = tv1
    obtain ⟨W2, hW2⟩ : ∃ W2, W2 = wf.setRow g #[.int .i64 0, .int .i64 0, .int .i64 2, .bool false] := ⟨_, rfl⟩
    have rg := Lib.hid (show RowAt W2 g 34 #[.int .i64 0, .int .i64 0, .int .i64 2, .bool false] from by rw [hW2]; exact hr.setRow _)
    have hsz := SZW.out
    have r0 := Lib.hid (show RowAt W2 w.heap.size _ _ from by rw [hW2]; exact (k0.row BW_0.out).setRowOther _ (by omega))
    have r1 := Lib.hid (show RowAt W2 (w.heap.size + 1) _ _ from by rw [hW2]; exact (k0.row BW_1.out).setRowOther _ (by omega))
    have E2 := Lib.hid (show Ext w W2 from by rw [hW2]; exact ext_setRow (XW.out.trans k0) (by omega) _)
    have HR := Lib.hid hr
    have HW2 := Lib.hid hW2
    have HLE := Lib.hid (show w.heap.size + 1 + 1 ≤ g from by omega)
    clear hr hW2 hle hsz k0
    have c0 := rg.out.cell 0
    have c1 := rg.out.cell 1
    have c2 := rg.out.cell 2
    have c3 := rg.out.cell 3
    simp at c0 c1 c2 c3
    go_wp2_with (refine store_mo rfl (.tmp 3) (.tmp 9) rfl g rfl _ _ _ _ rfl _ _ _ _ _ HR.out ?_; rw [← HW2.out])
    refine (cal_of (vcompose 0 0 2 false 0 0 2 false _) (v' := .agg #[.int .i64 0, .int .i64 0, .int .i64 0, .bool false]) (by kernel_rfl)).mono ?_; rintro e w3 ⟨rfl, hx3⟩
    clear c0 c1 c2 c3
    have rg3 := Lib.hid (hx3.row rg.out)
    have r03 := Lib.hid (hx3.row r0.out)
    have r13 := Lib.hid (hx3.row r1.out)
    have E3 := Lib.hid (E2.out.trans hx3)
    clear hx3 rg r0 r1 E2
    have c0 := rg3.out.cell 0
    have c1 := rg3.out.cell 1
    have c2 := rg3.out.cell 2
    have c3 := rg3.out.cell 3
    simp at c0 c1 c2 c3
    go_wp2_with fail
    clear c0 c1 c2 c3
    refine wp_region_tail (fun D ac w' => ∃ vs : Nat → Value, ac = { tmps := #[Value.agg #[Value.int IntKind.i64 x, Value.int IntKind.i64 y, Value.int IntKind.i64 t, Value.bool false], Value.pointer (some { block := w.heap.size, off := 0 }), Value.pointer (some { block := w.heap.size + 1, off := 0 }), Value.pointer (some { block := g, off := 0 }), tv1 0, tv1 1, tv1 2, tv1 3, tv1 4, Value.agg #[Value.int IntKind.i64 0, Value.int IntKind.i64 0, Value.int IntKind.i64 2, Value.bool false], Value.agg #[Value.int IntKind.i64 0, Value.int IntKind.i64 0, Value.int IntKind.i64 2, Value.bool false], Value.agg #[Value.int IntKind.i64 0, Value.int IntKind.i64 0, Value.int IntKind.i64 2, Value.bool false], Value.agg #[Value.int IntKind.i64 0, Value.int IntKind.i64 0, Value.int IntKind.i64 0, Value.bool false], Value.agg #[Value.int IntKind.i64 0, Value.int IntKind.i64 0, Value.int IntKind.i64 0, Value.bool false], Value.bool false, undef, undef, undef, undef, vs 0, vs 1, vs 2, vs 3, vs 4, vs 5, undef, undef], defers := [] } ∧ Ext w3 w' ∧ ∀ j, D j → vinv3F4 w g tv1 x y t j (vs j)) 6 (by kernel_rfl) (by kernel_rfl) (by kernel_rfl) ?startvinv3_4 ?stepvinv3_4 ?finvinv3_4
    case startvinv3_4 => exact ⟨fun _ => undef, rfl, Ext.drew _, fun _ h => h.elim⟩
    case stepvinv3_4 =>
      rintro i o D ac wz hin hio hnd he ⟨vs, rfl, k0, hF⟩
      rcases i with _ | _ | _ | _ | _ | _ | i
      rotate_left 6
      · exact absurd hin (by omega)
      all_goals (obtain rfl := Option.some.inj (hio.symm.trans (by rfl)))
      · refine step_yes (wanted_of_none rfl _) ?_
        exact wp_of_run (run_ld_mo (.tmp 3) rfl _ _ rfl _ _ _ _ ((k0.row rg3.out).cell 0) ((k0.row rg3.out).cell 1) ((k0.row rg3.out).cell 2) ((k0.row rg3.out).cell 3)) ⟨upd vs 0 _, rfl, k0, inv_same hF rfl⟩
      · refine step_yes (wanted_of_none rfl _) ?_
        exact wp_of_run (run_build_pt0 rfl) ⟨upd vs 1 _, rfl, k0, inv_same hF rfl⟩
      · refine step_yes (wanted_of_none rfl _) ?_
        exact wp_of_run (run_fld_mo0 (.tmp 1) rfl _ _ rfl) ⟨upd vs 2 _, rfl, k0, inv_same hF rfl⟩
      · refine step_yes (wanted_of_none rfl _) ?_
        exact wp_of_run (run_ld_pt (.tmp 21) rfl _ _ (by exact (hF 2 (he ⟨2, .data⟩ (by simp) rfl))) _ _ ((k0.row r03.out).cell 0) ((k0.row r03.out).cell 1)) ⟨upd vs 3 _, rfl, k0, inv_same hF rfl⟩
      · refine step_yes (wanted_of_none rfl _) ?_
        refine wp_of_callE (run_enter2 13 (.tmp 20) (.tmp 22) _ rfl _ _ (by exact (hF 1 (he ⟨1, .data⟩ (by simp) rfl))) (by exact (hF 3 (he ⟨3, .data⟩ (by simp) rfl))) (fun args w => enters_of Try.func13 (by kernel_rfl) rfl args w)) (vsub 0 0 x y wz) ?_
        rintro e w' ⟨rfl, hx⟩
        exact ⟨_, rfl, upd vs 4 _, rfl, k0.trans hx, inv_same hF rfl⟩
      · refine step_yes (wanted_of_none rfl _) ?_
        refine wp_of_callE (run_enter2 24 (.tmp 19) (.tmp 23) _ rfl _ _ (by exact (hF 0 (he ⟨0, .data⟩ (by simp) rfl))) (by exact (hF 4 (he ⟨4, .data⟩ (by simp) rfl))) (fun args w => enters_of Try.func24 (by kernel_rfl) rfl args w)) (vapply 0 0 2 false (wrap64 (0 - x)) (wrap64 (0 - y)) wz) ?_
        rintro e w' ⟨rfl, hx⟩
        exact ⟨_, rfl, upd vs 5 _, rfl, k0.trans hx, inv_same hF rfl⟩
    case finvinv3_4 =>
      rintro D ac wg hD ⟨vs, rfl, k0, hF⟩
      change wpList _ _ _ [_, _] _ _
      have h5 : vs 5 = .agg #[.int .i64 (apX 0 2 false (wrap64 (0 - x)) (wrap64 (0 - y))), .int .i64 (apY 0 2 false (wrap64 (0 - x)) (wrap64 (0 - y)))] := hF 5 (hD 5 (by decide))
      rw [h5]
      clear hF hD h5
      generalize vs = tv2
      have ra := Lib.hid (k0.row rg3.out)
      have rb := Lib.hid (k0.row r13.out)
      have Ea := Lib.hid (E3.out.trans k0)
      obtain ⟨W5, hW5⟩ : ∃ W5, W5 = wg.setRow g #[.int .i64 (apX 0 2 false (wrap64 (0 - x)) (wrap64 (0 - y))), .int .i64 (apY 0 2 false (wrap64 (0 - x)) (wrap64 (0 - y))), .int .i64 2, .bool false] := ⟨_, rfl⟩
      have rg5 := Lib.hid (show RowAt W5 g 34 #[.int .i64 (apX 0 2 false (wrap64 (0 - x)) (wrap64 (0 - y))), .int .i64 (apY 0 2 false (wrap64 (0 - x)) (wrap64 (0 - y))), .int .i64 2, .bool false] from by rw [hW5]; exact ra.out.setRow _)
      have r15 := Lib.hid (show RowAt W5 (w.heap.size + 1) _ _ from by rw [hW5]; exact rb.out.setRowOther _ (by have := HLE.out; omega))
      have E5 := Lib.hid (show Ext w W5 from by rw [hW5]; exact ext_setRow Ea.out (by have := HLE.out; omega) _)
      have HW5 := Lib.hid hW5
      clear hW5 k0
      have c0 := rg5.out.cell 0
      have c1 := rg5.out.cell 1
      have c2 := rg5.out.cell 2
      have c3 := rg5.out.cell 3
      simp at c0 c1 c2 c3
      go_wp2_with (first | (refine store_pt_at rfl (.tmp 25) (.tmp 24) rfl g 0 rfl _ _ rfl _ _ _ _ (#[.int .i64 (apX 0 2 false (wrap64 (0 - x)) (wrap64 (0 - y))), .int .i64 (apY 0 2 false (wrap64 (0 - x)) (wrap64 (0 - y))), .int .i64 2, .bool false]) ra.out rfl rfl rfl ?_; rw [← HW5.out]) | (refine store_mo rfl (.tmp 2) (.tmp 26) rfl _ rfl _ _ _ _ rfl _ _ _ _ _ r15.out ?_))
      have hI : inT t false = 2 := by have := HK.out; unfold inT; simp; omega
      exact ret_mo rfl _ rfl _ _ _ _ _ (r15.out.setRow _) ⟨ret_eq (mo_eq (by unfold inX; rw [hI]; simp) (by unfold inY; rw [hI]; simp) hI.symm), ext_setRow E5.out (by omega) _⟩

def vinv4V1 (w : World) (x y t : Int) : Nat → Value
  | 0 => .pointer (some ⟨w.heap.size, 2, none⟩)
  | 1 => .int .i64 t
  | 2 => .int .i64 3
  | 3 => .pointer (some ⟨w.heap.size, 3, none⟩)
  | 4 => .bool false
  | 5 => .agg #[.int .i64 0, .int .i64 0, .int .i64 3, .bool false]
  | _ => undef
def vinv4F1 (w : World) (x y t : Int) (b : Nat) : Nat → Value → World → Prop
  | 6, v, W => Own1 b 34 #[.int .i64 0, .int .i64 0, .int .i64 0, .bool false] v W
  | j, v, _ => v = vinv4V1 w x y t j
theorem vinv4F1_mono {w : World} {x y t : Int} {b : Nat} {W W' : World} (hx : Ext W W') (j : Nat) (v : Value) (h : vinv4F1 w x y t b j v W) : vinv4F1 w x y t b j v W' := by
  match j, h with
  | 6, h => exact Own1.ext h hx
  | 0, h | 1, h | 2, h | 3, h | 4, h | 5, h => exact h
  | k + 7, h => exact h
def vinv4V4 (w : World) (g : Nat) (tv1 : Nat → Value) (x y t : Int) : Nat → Value
  | 0 => .agg #[.int .i64 0, .int .i64 0, .int .i64 1, .bool false]
  | 1 => .agg #[.int .i64 0, .int .i64 0]
  | 2 => .pointer (some ⟨w.heap.size, 0, none⟩)
  | 3 => .agg #[.int .i64 x, .int .i64 y]
  | 4 => .agg #[.int .i64 (wrap64 (0 - x)), .int .i64 (wrap64 (0 - y))]
  | 5 => .agg #[.int .i64 (apX 0 1 false (wrap64 (0 - x)) (wrap64 (0 - y))), .int .i64 (apY 0 1 false (wrap64 (0 - x)) (wrap64 (0 - y)))]
  | _ => undef
def vinv4F4 (w : World) (g : Nat) (tv1 : Nat → Value) (x y t : Int) (j : Nat) (v : Value) : Prop := v = vinv4V4 w g tv1 x y t j
set_option maxRecDepth 100000 in
set_option maxHeartbeats 4000000 in
theorem vinv_4 (x y t : Int) (w : World) (hk : t % 4 = 3) : Calls Try.prog 28 #[.agg #[.int .i64 x, .int .i64 y, .int .i64 t, .bool false]] w fun e w' => e = .returned (.agg #[.int .i64 (inX x y t false), .int .i64 (inY x y t false), .int .i64 (inT t false), .bool false]) ∧ Ext w w' := by
  have HK := Lib.hid hk
  clear hk
  go_enter Try.func28, Try.ntmps28
  go_wp2_with fail
  obtain ⟨W, hW⟩ : ∃ W, W = ((w.alloc (.cells #[.int .i64 x, .int .i64 y, .int .i64 t, .bool false] 34)).alloc (.cells #[.int .i64 0, .int .i64 0, .int .i64 0, .bool false] 34)) := ⟨_, rfl⟩
  have bW_0 : RowAt W (w.heap.size) 34 #[.int .i64 x, .int .i64 y, .int .i64 t, .bool false] := by rw [hW]; exact ((RowAt.new' _ _ (by simp)).alloc _)
  have BW_0 := Lib.hid bW_0
  have bW_1 : RowAt W (w.heap.size + 1) 34 #[.int .i64 0, .int .i64 0, .int .i64 0, .bool false] := by rw [hW]; exact (RowAt.new' _ _ (by simp))
  have BW_1 := Lib.hid bW_1
  have SZW := Lib.hid (show W.heap.size = w.heap.size + 1 + 1 from by rw [hW]; simp)
  have XW := Lib.hid (show Ext w W from by rw [hW]; exact (Ext.alloc _ _).trans (Ext.alloc _ _))
  rw [← hW]
  clear hW bW_0 bW_1
  refine wp_region_tail (fun D ac w' => ∃ vs : Nat → Value, ac = { tmps := #[.agg #[.int .i64 x, .int .i64 y, .int .i64 t, .bool false], .pointer (some ⟨w.heap.size, 0, none⟩), .pointer (some ⟨w.heap.size + 1, 0, none⟩), vs 6, vs 0, vs 1, vs 2, vs 3, vs 4, vs 5, undef, undef, undef, undef, undef, undef, undef, undef, undef, undef, undef, undef, undef, undef, undef, undef, undef], defers := [] } ∧ Ext W w' ∧ ∀ j, D j → vinv4F1 w x y t W.heap.size j (vs j) w') 7 (by kernel_rfl) (by kernel_rfl) (by kernel_rfl) ?startvinv4_1 ?stepvinv4_1 ?finvinv4_1
  case startvinv4_1 => exact ⟨fun _ => undef, rfl, Ext.drew _, fun _ h => h.elim⟩
  case stepvinv4_1 =>
    rintro i o D ac wz hin hio hnd he ⟨vs, rfl, k0, hF⟩
    rcases i with _ | _ | _ | _ | _ | _ | _ | i
    rotate_left 7
    · exact absurd hin (by omega)
    all_goals (obtain rfl := Option.some.inj (hio.symm.trans (by rfl)))
    · refine step_yes (wanted_of_none rfl _) ?_
      exact wp_of_run (run_fld_mo1 (.tmp 1) rfl _ _ rfl) ⟨upd vs 0 _, rfl, k0, inv_step hF (fun _ _ h => h) rfl⟩
    · refine step_yes (wanted_of_none rfl _) ?_
      exact wp_of_run (run_ldi (.tmp 4) rfl _ _ (by exact (hF 0 (he ⟨0, .data⟩ (by simp) rfl))) _ ((k0.row BW_0.out).cell 2)) ⟨upd vs 1 _, rfl, k0, inv_step hF (fun _ _ h => h) rfl⟩
    · refine step_yes (wanted_of_none rfl _) ?_
      refine wp_of_callE (run_enter1 32 (.tmp 5) _ rfl _ (by exact (hF 1 (he ⟨1, .data⟩ (by simp) rfl))) (fun args w => enters_of Try.func32 (by kernel_rfl) rfl args w)) (ext_of (vturns_k t 3 HK.out wz)) ?_
      rintro e w' ⟨rfl, hx⟩
      exact ⟨_, rfl, upd vs 2 _, rfl, k0.trans hx, inv_step hF (fun j v h => vinv4F1_mono hx j v h) rfl⟩
    · refine step_yes (wanted_of_none rfl _) ?_
      exact wp_of_run (run_fld_mo2 (.tmp 1) rfl _ _ rfl) ⟨upd vs 3 _, rfl, k0, inv_step hF (fun _ _ h => h) rfl⟩
    · refine step_yes (wanted_of_none rfl _) ?_
      exact wp_of_run (run_ldb (.tmp 7) rfl _ _ (by exact (hF 3 (he ⟨3, .data⟩ (by simp) rfl))) _ ((k0.row BW_0.out).cell 3)) ⟨upd vs 4 _, rfl, k0, inv_step hF (fun _ _ h => h) rfl⟩
    · refine step_yes (wanted_of_none rfl _) ?_
      exact wp_of_run (run_build_mo2 (.tmp 6) (.tmp 8) rfl _ _ (by exact (hF 2 (he ⟨2, .data⟩ (by simp) rfl))) (by exact (hF 4 (he ⟨4, .data⟩ (by simp) rfl)))) ⟨upd vs 5 _, rfl, k0, inv_step hF (fun _ _ h => h) rfl⟩
    · refine step_yes (wanted_of_none rfl _) ?_
      exact wp_of_run (run_alloc_mo rfl) ⟨upd vs 6 _, rfl, k0.trans (Ext.alloc _ _), inv_step hF (fun j v h => vinv4F1_mono (Ext.alloc _ _) j v h) (own_new _ _ k0 (Nat.le_refl _))⟩
  case finvinv4_1 =>
    rintro D ac wf hD ⟨vs, rfl, k0, hF⟩
    change wpList _ _ _ [_] _ _
    obtain ⟨g, hg, hle, hr⟩ := hF 6 (hD 6 (by decide))
    have h5 : vs 5 = .agg #[.int .i64 0, .int .i64 0, .int .i64 3, .bool false] := hF 5 (hD 5 (by decide))
    rw [hg, h5]
    clear hF hD h5 hg
    generalize vs = tv1
    obtain ⟨W2, hW2⟩ : ∃ W2, W2 = wf.setRow g #[.int .i64 0, .int .i64 0, .int .i64 3, .bool false] := ⟨_, rfl⟩
    have rg := Lib.hid (show RowAt W2 g 34 #[.int .i64 0, .int .i64 0, .int .i64 3, .bool false] from by rw [hW2]; exact hr.setRow _)
    have hsz := SZW.out
    have r0 := Lib.hid (show RowAt W2 w.heap.size _ _ from by rw [hW2]; exact (k0.row BW_0.out).setRowOther _ (by omega))
    have r1 := Lib.hid (show RowAt W2 (w.heap.size + 1) _ _ from by rw [hW2]; exact (k0.row BW_1.out).setRowOther _ (by omega))
    have E2 := Lib.hid (show Ext w W2 from by rw [hW2]; exact ext_setRow (XW.out.trans k0) (by omega) _)
    have HR := Lib.hid hr
    have HW2 := Lib.hid hW2
    have HLE := Lib.hid (show w.heap.size + 1 + 1 ≤ g from by omega)
    clear hr hW2 hle hsz k0
    have c0 := rg.out.cell 0
    have c1 := rg.out.cell 1
    have c2 := rg.out.cell 2
    have c3 := rg.out.cell 3
    simp at c0 c1 c2 c3
    go_wp2_with (refine store_mo rfl (.tmp 3) (.tmp 9) rfl g rfl _ _ _ _ rfl _ _ _ _ _ HR.out ?_; rw [← HW2.out])
    refine (cal_of (vcompose 0 0 3 false 0 0 3 false _) (v' := .agg #[.int .i64 0, .int .i64 0, .int .i64 2, .bool false]) (by kernel_rfl)).mono ?_; rintro e w3 ⟨rfl, hx3⟩
    clear c0 c1 c2 c3
    have rg3 := Lib.hid (hx3.row rg.out)
    have r03 := Lib.hid (hx3.row r0.out)
    have r13 := Lib.hid (hx3.row r1.out)
    have E3 := Lib.hid (E2.out.trans hx3)
    clear hx3 rg r0 r1 E2
    have c0 := rg3.out.cell 0
    have c1 := rg3.out.cell 1
    have c2 := rg3.out.cell 2
    have c3 := rg3.out.cell 3
    simp at c0 c1 c2 c3
    obtain ⟨W4, hW4⟩ : ∃ W4, W4 = w3.setRow g #[.int .i64 0, .int .i64 0, .int .i64 1, .bool false] := ⟨_, rfl⟩
    have rg4 := Lib.hid (show RowAt W4 g 34 #[.int .i64 0, .int .i64 0, .int .i64 1, .bool false] from by rw [hW4]; exact rg3.out.setRow _)
    have r04 := Lib.hid (show RowAt W4 w.heap.size _ _ from by rw [hW4]; exact r03.out.setRowOther _ (by have := HLE.out; omega))
    have r14 := Lib.hid (show RowAt W4 (w.heap.size + 1) _ _ from by rw [hW4]; exact r13.out.setRowOther _ (by have := HLE.out; omega))
    have E4 := Lib.hid (show Ext w W4 from by rw [hW4]; exact ext_setRow E3.out (by have := HLE.out; omega) _)
    have HW4 := Lib.hid hW4
    clear hW4
    go_wp2_with (refine store_i_at rfl (.tmp 18) (.tmp 17) rfl g 2 rfl _ rfl _ _ _ (#[.int .i64 0, .int .i64 0, .int .i64 1, .bool false]) rg3.out rfl rfl ?_; rw [← HW4.out])
    clear c0 c1 c2 c3
    refine wp_region_tail (fun D ac w' => ∃ vs : Nat → Value, ac = { tmps := #[Value.agg #[Value.int IntKind.i64 x, Value.int IntKind.i64 y, Value.int IntKind.i64 t, Value.bool false], Value.pointer (some { block := w.heap.size, off := 0 }), Value.pointer (some { block := w.heap.size + 1, off := 0 }), Value.pointer (some { block := g, off := 0 }), tv1 0, tv1 1, tv1 2, tv1 3, tv1 4, Value.agg #[Value.int IntKind.i64 0, Value.int IntKind.i64 0, Value.int IntKind.i64 3, Value.bool false], Value.agg #[Value.int IntKind.i64 0, Value.int IntKind.i64 0, Value.int IntKind.i64 3, Value.bool false], Value.agg #[Value.int IntKind.i64 0, Value.int IntKind.i64 0, Value.int IntKind.i64 3, Value.bool false], Value.agg #[Value.int IntKind.i64 0, Value.int IntKind.i64 0, Value.int IntKind.i64 2, Value.bool false], Value.agg #[Value.int IntKind.i64 0, Value.int IntKind.i64 0, Value.int IntKind.i64 0, Value.bool false], Value.bool true, Value.pointer (some { block := g, off := 2 }), Value.int IntKind.i64 3, Value.int IntKind.i64 1, Value.pointer (some { block := g, off := 2 }), vs 0, vs 1, vs 2, vs 3, vs 4, vs 5, undef, undef], defers := [] } ∧ Ext W4 w' ∧ ∀ j, D j → vinv4F4 w g tv1 x y t j (vs j)) 6 (by kernel_rfl) (by kernel_rfl) (by kernel_rfl) ?startvinv4_4 ?stepvinv4_4 ?finvinv4_4
    case startvinv4_4 => exact ⟨fun _ => undef, rfl, Ext.drew _, fun _ h => h.elim⟩
    case stepvinv4_4 =>
      rintro i o D ac wz hin hio hnd he ⟨vs, rfl, k0, hF⟩
      rcases i with _ | _ | _ | _ | _ | _ | i
      rotate_left 6
      · exact absurd hin (by omega)
      all_goals (obtain rfl := Option.some.inj (hio.symm.trans (by rfl)))
      · refine step_yes (wanted_of_none rfl _) ?_
        exact wp_of_run (run_ld_mo (.tmp 3) rfl _ _ rfl _ _ _ _ ((k0.row rg4.out).cell 0) ((k0.row rg4.out).cell 1) ((k0.row rg4.out).cell 2) ((k0.row rg4.out).cell 3)) ⟨upd vs 0 _, rfl, k0, inv_same hF rfl⟩
      · refine step_yes (wanted_of_none rfl _) ?_
        exact wp_of_run (run_build_pt0 rfl) ⟨upd vs 1 _, rfl, k0, inv_same hF rfl⟩
      · refine step_yes (wanted_of_none rfl _) ?_
        exact wp_of_run (run_fld_mo0 (.tmp 1) rfl _ _ rfl) ⟨upd vs 2 _, rfl, k0, inv_same hF rfl⟩
      · refine step_yes (wanted_of_none rfl _) ?_
        exact wp_of_run (run_ld_pt (.tmp 21) rfl _ _ (by exact (hF 2 (he ⟨2, .data⟩ (by simp) rfl))) _ _ ((k0.row r04.out).cell 0) ((k0.row r04.out).cell 1)) ⟨upd vs 3 _, rfl, k0, inv_same hF rfl⟩
      · refine step_yes (wanted_of_none rfl _) ?_
        refine wp_of_callE (run_enter2 13 (.tmp 20) (.tmp 22) _ rfl _ _ (by exact (hF 1 (he ⟨1, .data⟩ (by simp) rfl))) (by exact (hF 3 (he ⟨3, .data⟩ (by simp) rfl))) (fun args w => enters_of Try.func13 (by kernel_rfl) rfl args w)) (vsub 0 0 x y wz) ?_
        rintro e w' ⟨rfl, hx⟩
        exact ⟨_, rfl, upd vs 4 _, rfl, k0.trans hx, inv_same hF rfl⟩
      · refine step_yes (wanted_of_none rfl _) ?_
        refine wp_of_callE (run_enter2 24 (.tmp 19) (.tmp 23) _ rfl _ _ (by exact (hF 0 (he ⟨0, .data⟩ (by simp) rfl))) (by exact (hF 4 (he ⟨4, .data⟩ (by simp) rfl))) (fun args w => enters_of Try.func24 (by kernel_rfl) rfl args w)) (vapply 0 0 1 false (wrap64 (0 - x)) (wrap64 (0 - y)) wz) ?_
        rintro e w' ⟨rfl, hx⟩
        exact ⟨_, rfl, upd vs 5 _, rfl, k0.trans hx, inv_same hF rfl⟩
    case finvinv4_4 =>
      rintro D ac wg hD ⟨vs, rfl, k0, hF⟩
      change wpList _ _ _ [_, _] _ _
      have h5 : vs 5 = .agg #[.int .i64 (apX 0 1 false (wrap64 (0 - x)) (wrap64 (0 - y))), .int .i64 (apY 0 1 false (wrap64 (0 - x)) (wrap64 (0 - y)))] := hF 5 (hD 5 (by decide))
      rw [h5]
      clear hF hD h5
      generalize vs = tv2
      have ra := Lib.hid (k0.row rg4.out)
      have rb := Lib.hid (k0.row r14.out)
      have Ea := Lib.hid (E4.out.trans k0)
      obtain ⟨W5, hW5⟩ : ∃ W5, W5 = wg.setRow g #[.int .i64 (apX 0 1 false (wrap64 (0 - x)) (wrap64 (0 - y))), .int .i64 (apY 0 1 false (wrap64 (0 - x)) (wrap64 (0 - y))), .int .i64 1, .bool false] := ⟨_, rfl⟩
      have rg5 := Lib.hid (show RowAt W5 g 34 #[.int .i64 (apX 0 1 false (wrap64 (0 - x)) (wrap64 (0 - y))), .int .i64 (apY 0 1 false (wrap64 (0 - x)) (wrap64 (0 - y))), .int .i64 1, .bool false] from by rw [hW5]; exact ra.out.setRow _)
      have r15 := Lib.hid (show RowAt W5 (w.heap.size + 1) _ _ from by rw [hW5]; exact rb.out.setRowOther _ (by have := HLE.out; omega))
      have E5 := Lib.hid (show Ext w W5 from by rw [hW5]; exact ext_setRow Ea.out (by have := HLE.out; omega) _)
      have HW5 := Lib.hid hW5
      clear hW5 k0
      have c0 := rg5.out.cell 0
      have c1 := rg5.out.cell 1
      have c2 := rg5.out.cell 2
      have c3 := rg5.out.cell 3
      simp at c0 c1 c2 c3
      go_wp2_with (first | (refine store_pt_at rfl (.tmp 25) (.tmp 24) rfl g 0 rfl _ _ rfl _ _ _ _ (#[.int .i64 (apX 0 1 false (wrap64 (0 - x)) (wrap64 (0 - y))), .int .i64 (apY 0 1 false (wrap64 (0 - x)) (wrap64 (0 - y))), .int .i64 1, .bool false]) ra.out rfl rfl rfl ?_; rw [← HW5.out]) | (refine store_mo rfl (.tmp 2) (.tmp 26) rfl _ rfl _ _ _ _ rfl _ _ _ _ _ r15.out ?_))
      have hI : inT t false = 1 := by have := HK.out; unfold inT; simp; omega
      exact ret_mo rfl _ rfl _ _ _ _ _ (r15.out.setRow _) ⟨ret_eq (mo_eq (by unfold inX; rw [hI]; simp) (by unfold inY; rw [hI]; simp) hI.symm), ext_setRow E5.out (by omega) _⟩

theorem inX_neg (k : Int) (m : Bool) (x y : Int) : wrap64 (-(apX 0 k m x y)) = apX 0 k m (wrap64 (0 - x)) (wrap64 (0 - y)) := by
  have hk : k % 4 = 0 ∨ k % 4 = 1 ∨ k % 4 = 2 ∨ k % 4 = 3 := by omega
  unfold apX tuX miX
  rcases hk with hk | hk | hk | hk <;> cases m <;> simp [hk] <;> unfold wrap64 <;> omega
theorem inY_neg (k : Int) (m : Bool) (x y : Int) : wrap64 (-(apY 0 k m x y)) = apY 0 k m (wrap64 (0 - x)) (wrap64 (0 - y)) := by
  have hk : k % 4 = 0 ∨ k % 4 = 1 ∨ k % 4 = 2 ∨ k % 4 = 3 := by omega
  unfold apY tuY miX
  rcases hk with hk | hk | hk | hk <;> cases m <;> simp [hk] <;> unfold wrap64 <;> omega
theorem vinverse (x y t : Int) (m : Bool) (w : World) : Calls Try.prog 28 #[.agg #[.int .i64 x, .int .i64 y, .int .i64 t, .bool m]] w fun e w' => e = .returned (.agg #[.int .i64 (inX x y t m), .int .i64 (inY x y t m), .int .i64 (inT t m), .bool m]) ∧ Ext w w' := by
  cases m
  · have hk : t % 4 = 0 ∨ t % 4 = 1 ∨ t % 4 = 2 ∨ t % 4 = 3 := by omega
    rcases hk with hk | hk | hk | hk
    · exact vinv_1 x y t w hk
    · exact vinv_2 x y t w hk
    · exact vinv_3 x y t w hk
    · exact vinv_4 x y t w hk
  · exact vinv_0 x y t _ w rfl

def rinvtV1 (w : World) (x y t k1 k2 : Int) : Nat → Value
  | 0 => .pointer (some ⟨w.heap.size, 2, none⟩)
  | 1 => .int .i64 t
  | 2 => .int .i64 k1
  | 3 => .int .i64 (wrap64 (4 - k1))
  | 4 => .int .i64 k2
  | 5 => .pointer (some ⟨w.heap.size, 3, none⟩)
  | 6 => .bool true
  | 7 => .agg #[.int .i64 0, .int .i64 0, .int .i64 k2, .bool true]
  | _ => undef
def rinvtF1 (w : World) (x y t k1 k2 : Int) (b : Nat) : Nat → Value → World → Prop
  | 8, v, W => Own1 b 34 #[.int .i64 0, .int .i64 0, .int .i64 0, .bool false] v W
  | j, v, _ => v = rinvtV1 w x y t k1 k2 j
theorem rinvtF1_mono {w : World} {x y t k1 k2 : Int} {b : Nat} {W W' : World} (hx : Ext W W') (j : Nat) (v : Value) (h : rinvtF1 w x y t k1 k2 b j v W) : rinvtF1 w x y t k1 k2 b j v W' := by
  match j, h with
  | 8, h => exact Own1.ext h hx
  | 0, h | 1, h | 2, h | 3, h | 4, h | 5, h | 6, h | 7, h => exact h
  | k + 9, h => exact h
set_option maxRecDepth 100000 in
set_option maxHeartbeats 4000000 in
theorem rinv_t (x y t k1 k2 : Int) (w : World) (h1 : t % 4 = k1) (h2 : wrap64 (4 - k1) % 4 = k2) : Calls Try.prog 29 #[.agg #[.int .i64 x, .int .i64 y, .int .i64 t, .bool true]] w fun e w' => e = .returned (.agg #[.int .i64 (inX x y t true), .int .i64 (inY x y t true), .int .i64 (inT t true), .bool true]) ∧ Ext w w' := by
  have H1 := Lib.hid h1
  have H2 := Lib.hid h2
  clear h1 h2
  go_enter Try.func29, Try.ntmps29
  go_wp2_with fail
  obtain ⟨W, hW⟩ : ∃ W, W = ((w.alloc (.cells #[.int .i64 x, .int .i64 y, .int .i64 t, .bool true] 34)).alloc (.cells #[.int .i64 0, .int .i64 0, .int .i64 0, .bool false] 34)) := ⟨_, rfl⟩
  have bW_0 : RowAt W (w.heap.size) 34 #[.int .i64 x, .int .i64 y, .int .i64 t, .bool true] := by rw [hW]; exact ((RowAt.new' _ _ (by simp)).alloc _)
  have BW_0 := Lib.hid bW_0
  have bW_1 : RowAt W (w.heap.size + 1) 34 #[.int .i64 0, .int .i64 0, .int .i64 0, .bool false] := by rw [hW]; exact (RowAt.new' _ _ (by simp))
  have BW_1 := Lib.hid bW_1
  have SZW := Lib.hid (show W.heap.size = w.heap.size + 1 + 1 from by rw [hW]; simp)
  have XW := Lib.hid (show Ext w W from by rw [hW]; exact (Ext.alloc _ _).trans (Ext.alloc _ _))
  rw [← hW]
  clear hW bW_0 bW_1
  refine wp_region_tail (fun D ac w' => ∃ vs : Nat → Value, ac = { tmps := #[.agg #[.int .i64 x, .int .i64 y, .int .i64 t, .bool true], .pointer (some ⟨w.heap.size, 0, none⟩), .pointer (some ⟨w.heap.size + 1, 0, none⟩), vs 8, undef, vs 0, vs 1, vs 2, vs 3, vs 4, vs 5, vs 6, vs 7, undef, undef, undef, undef, undef, undef, undef, undef, undef, undef, undef, undef, undef, undef, undef, undef, undef, undef, undef], defers := [] } ∧ Ext W w' ∧ ∀ j, D j → rinvtF1 w x y t k1 k2 W.heap.size j (vs j) w') 9 (by kernel_rfl) (by kernel_rfl) (by kernel_rfl) ?startrinvt_1 ?steprinvt_1 ?finrinvt_1
  case startrinvt_1 => exact ⟨fun _ => undef, rfl, Ext.drew _, fun _ h => h.elim⟩
  case steprinvt_1 =>
    rintro i o D ac wz hin hio hnd he ⟨vs, rfl, k0, hF⟩
    rcases i with _ | _ | _ | _ | _ | _ | _ | _ | _ | i
    rotate_left 9
    · exact absurd hin (by omega)
    all_goals (obtain rfl := Option.some.inj (hio.symm.trans (by rfl)))
    · refine step_yes (wanted_of_none rfl _) ?_
      exact wp_of_run (run_fld_mo1 (.tmp 1) rfl _ _ rfl) ⟨upd vs 0 _, rfl, k0, inv_step hF (fun _ _ h => h) rfl⟩
    · refine step_yes (wanted_of_none rfl _) ?_
      exact wp_of_run (run_ldi (.tmp 5) rfl _ _ (by exact (hF 0 (he ⟨0, .data⟩ (by simp) rfl))) _ ((k0.row BW_0.out).cell 2)) ⟨upd vs 1 _, rfl, k0, inv_step hF (fun _ _ h => h) rfl⟩
    · refine step_yes (wanted_of_none rfl _) ?_
      refine wp_of_callE (run_enter1 35 (.tmp 6) _ rfl _ (by exact (hF 1 (he ⟨1, .data⟩ (by simp) rfl))) (fun args w => enters_of Try.func35 (by kernel_rfl) rfl args w)) (ext_of (rturns_k t k1 H1.out wz)) ?_
      rintro e w' ⟨rfl, hx⟩
      exact ⟨_, rfl, upd vs 2 _, rfl, k0.trans hx, inv_step hF (fun j v h => rinvtF1_mono hx j v h) rfl⟩
    · refine step_yes (wanted_of_none rfl _) ?_
      exact wp_of_run (run_subi (.const (.int .i64 4)) (.tmp 7) rfl rfl _ _ rfl (by exact (hF 2 (he ⟨2, .data⟩ (by simp) rfl)))) ⟨upd vs 3 _, rfl, k0, inv_step hF (fun _ _ h => h) rfl⟩
    · refine step_yes (wanted_of_none rfl _) ?_
      refine wp_of_callE (run_enter1 35 (.tmp 8) _ rfl _ (by exact (hF 3 (he ⟨3, .data⟩ (by simp) rfl))) (fun args w => enters_of Try.func35 (by kernel_rfl) rfl args w)) (ext_of (rturns_k (wrap64 (4 - k1)) k2 H2.out wz)) ?_
      rintro e w' ⟨rfl, hx⟩
      exact ⟨_, rfl, upd vs 4 _, rfl, k0.trans hx, inv_step hF (fun j v h => rinvtF1_mono hx j v h) rfl⟩
    · refine step_yes (wanted_of_none rfl _) ?_
      exact wp_of_run (run_fld_mo2 (.tmp 1) rfl _ _ rfl) ⟨upd vs 5 _, rfl, k0, inv_step hF (fun _ _ h => h) rfl⟩
    · refine step_yes (wanted_of_none rfl _) ?_
      exact wp_of_run (run_ldb (.tmp 10) rfl _ _ (by exact (hF 5 (he ⟨5, .data⟩ (by simp) rfl))) _ ((k0.row BW_0.out).cell 3)) ⟨upd vs 6 _, rfl, k0, inv_step hF (fun _ _ h => h) rfl⟩
    · refine step_yes (wanted_of_none rfl _) ?_
      exact wp_of_run (run_build_mo2 (.tmp 9) (.tmp 11) rfl _ _ (by exact (hF 4 (he ⟨4, .data⟩ (by simp) rfl))) (by exact (hF 6 (he ⟨6, .data⟩ (by simp) rfl)))) ⟨upd vs 7 _, rfl, k0, inv_step hF (fun _ _ h => h) rfl⟩
    · refine step_yes (wanted_of_none rfl _) ?_
      exact wp_of_run (run_alloc_mo rfl) ⟨upd vs 8 _, rfl, k0.trans (Ext.alloc _ _), inv_step hF (fun j v h => rinvtF1_mono (Ext.alloc _ _) j v h) (own_new _ _ k0 (Nat.le_refl _))⟩
  case finrinvt_1 =>
    rintro D ac wf hD ⟨vs, rfl, k0, hF⟩
    change wpList _ _ _ [_] _ _
    obtain ⟨g, hg, hle, hr⟩ := hF 8 (hD 8 (by decide))
    have h7 : vs 7 = .agg #[.int .i64 0, .int .i64 0, .int .i64 k2, .bool true] := hF 7 (hD 7 (by decide))
    rw [hg, h7]
    clear hF hD h7 hg
    generalize vs = tv1
    have hsz := SZW.out
    have HLE := Lib.hid (show w.heap.size + 1 + 1 ≤ g from by omega)
    have HR := Lib.hid hr
    have R0 := Lib.hid (k0.row BW_0.out)
    have R1 := Lib.hid (k0.row BW_1.out)
    have E1 := Lib.hid (XW.out.trans k0)
    clear hsz hle hr k0
    obtain ⟨W2, hW2⟩ : ∃ W2, W2 = wf.setRow g #[.int .i64 0, .int .i64 0, .int .i64 k2, .bool true] := ⟨_, rfl⟩
    have rgW2 := Lib.hid (show RowAt W2 g 34 #[.int .i64 0, .int .i64 0, .int .i64 k2, .bool true] from by rw [hW2]; exact HR.out.setRow _)
    have r0W2 := Lib.hid (show RowAt W2 (w.heap.size) _ _ from by rw [hW2]; exact R0.out.setRowOther _ (by have := HLE.out; omega))
    have r1W2 := Lib.hid (show RowAt W2 (w.heap.size + 1) _ _ from by rw [hW2]; exact R1.out.setRowOther _ (by have := HLE.out; omega))
    have EW2 := Lib.hid (show Ext w W2 from by rw [hW2]; exact ext_setRow E1.out (by have := HLE.out; omega) _)
    have HW2 := Lib.hid hW2
    clear hW2
    have c0 := r0W2.out.cell 0
    have c1 := r0W2.out.cell 1
    have c2 := r0W2.out.cell 2
    have c3 := r0W2.out.cell 3
    simp at c0 c1 c2 c3
    have d0 := rgW2.out.cell 0
    have d1 := rgW2.out.cell 1
    have d2 := rgW2.out.cell 2
    have d3 := rgW2.out.cell 3
    simp at d0 d1 d2 d3
    go_wp2_with (refine store_mo rfl (.tmp 3) (.tmp 12) rfl g rfl _ _ _ _ rfl _ _ _ _ _ HR.out ?_; rw [← HW2.out])
    refine (rturns_k t k1 H1.out _).mono ?_; rintro e w' ⟨rfl, rfl⟩
    obtain ⟨W3, hW3⟩ : ∃ W3, W3 = W2.setRow g #[.int .i64 0, .int .i64 0, .int .i64 k1, .bool true] := ⟨_, rfl⟩
    have rgW3 := Lib.hid (show RowAt W3 g 34 #[.int .i64 0, .int .i64 0, .int .i64 k1, .bool true] from by rw [hW3]; exact rgW2.out.setRow _)
    have r0W3 := Lib.hid (show RowAt W3 (w.heap.size) _ _ from by rw [hW3]; exact r0W2.out.setRowOther _ (by have := HLE.out; omega))
    have r1W3 := Lib.hid (show RowAt W3 (w.heap.size + 1) _ _ from by rw [hW3]; exact r1W2.out.setRowOther _ (by have := HLE.out; omega))
    have EW3 := Lib.hid (show Ext w W3 from by rw [hW3]; exact ext_setRow EW2.out (by have := HLE.out; omega) _)
    have HW3 := Lib.hid hW3
    clear hW3
    clear c0 c1 c2 c3 d0 d1 d2 d3
    have c0 := r0W3.out.cell 0
    have c1 := r0W3.out.cell 1
    have c2 := r0W3.out.cell 2
    have c3 := r0W3.out.cell 3
    simp at c0 c1 c2 c3
    have d0 := rgW3.out.cell 0
    have d1 := rgW3.out.cell 1
    have d2 := rgW3.out.cell 2
    have d3 := rgW3.out.cell 3
    simp at d0 d1 d2 d3
    go_wp2_with (refine store_i_at rfl (.tmp 18) (.tmp 17) rfl g 2 rfl _ rfl _ _ _ (#[.int .i64 0, .int .i64 0, .int .i64 k1, .bool true]) rgW2.out rfl rfl ?_; rw [← HW3.out])
    refine (rapply 0 0 k1 true x y _).mono ?_; rintro e w4 ⟨rfl, hx⟩
    clear c0 c1 c2 c3 d0 d1 d2 d3
    have rg4 := Lib.hid (hx.row rgW3.out)
    have r14 := Lib.hid (hx.row r1W3.out)
    have E4 := Lib.hid (EW3.out.trans hx)
    clear hx
    obtain ⟨X, hX⟩ : ∃ X, X = apX 0 k1 true x y := ⟨_, rfl⟩
    obtain ⟨Y, hY⟩ : ∃ Y, Y = apY 0 k1 true x y := ⟨_, rfl⟩
    rw [← hX, ← hY]
    have HX := Lib.hid hX
    have HY := Lib.hid hY
    clear hX hY
    obtain ⟨W5, hW5⟩ : ∃ W5, W5 = w4.alloc (.cells #[.int .i64 X, .int .i64 Y] 23) := ⟨_, rfl⟩
    have rb5 := Lib.hid (show RowAt W5 w4.heap.size _ _ from by rw [hW5]; exact RowAt.new _ _ _)
    have rg5 := Lib.hid (show RowAt W5 g _ _ from by rw [hW5]; exact rg4.out.alloc _)
    have r15 := Lib.hid (show RowAt W5 (w.heap.size + 1) _ _ from by rw [hW5]; exact r14.out.alloc _)
    have E5 := Lib.hid (show Ext w W5 from by rw [hW5]; exact E4.out.trans (Ext.alloc _ _))
    have HW5 := Lib.hid hW5
    clear hW5
    obtain ⟨W6, hW6⟩ : ∃ W6, W6 = W5.setRow g #[.int .i64 (wrap64 (-X)), .int .i64 (wrap64 (-Y)), .int .i64 k1, .bool true] := ⟨_, rfl⟩
    have rgW6 := Lib.hid (show RowAt W6 g 34 #[.int .i64 (wrap64 (-X)), .int .i64 (wrap64 (-Y)), .int .i64 k1, .bool true] from by rw [hW6]; exact rg5.out.setRow _)
    have r1W6 := Lib.hid (show RowAt W6 (w.heap.size + 1) _ _ from by rw [hW6]; exact r15.out.setRowOther _ (by have := HLE.out; omega))
    have EW6 := Lib.hid (show Ext w W6 from by rw [hW6]; exact ext_setRow E5.out (by have := HLE.out; omega) _)
    have HW6 := Lib.hid hW6
    clear hW6
    have c0 := rb5.out.cell 0
    have c1 := rb5.out.cell 1
    simp at c0 c1
    have d0 := rgW6.out.cell 0
    have d1 := rgW6.out.cell 1
    have d2 := rgW6.out.cell 2
    have d3 := rgW6.out.cell 3
    simp at d0 d1 d2 d3
    have HF : Hid (w4.alloc (.cells #[.int .i64 X, .int .i64 Y] 23) = W5) := HW5.out.symm
    go_wp2_with (first | (rw [show (w4.alloc (Obj.cells #[.int .i64 X, .int .i64 Y] 23)) = W5 from HF.out]; refine store_pt_at rfl (.tmp 30) (.tmp 29) rfl g 0 rfl _ _ rfl _ _ _ _ (#[.int .i64 (wrap64 (-X)), .int .i64 (wrap64 (-Y)), .int .i64 k1, .bool true]) rg5.out rfl rfl rfl ?_; rw [← HW6.out]) | (refine store_mo rfl (.tmp 2) (.tmp 31) rfl _ rfl _ _ _ _ rfl _ _ _ _ _ r1W6.out ?_))
    have hI : inT t true = k1 := by have := H1.out; have := H2.out; unfold inT; unfold wrap64 at *; simp; omega
    exact ret_mo rfl _ rfl _ _ _ _ _ (r1W6.out.setRow _) ⟨ret_eq (mo_eq (by unfold inX; rw [hI, HX.out, inX_neg]) (by unfold inY; rw [hI, HY.out, inY_neg]) hI.symm), ext_setRow EW6.out (by omega) _⟩

def rinvfV1 (w : World) (x y t k1 k2 : Int) : Nat → Value
  | 0 => .pointer (some ⟨w.heap.size, 2, none⟩)
  | 1 => .int .i64 t
  | 2 => .int .i64 k1
  | 3 => .int .i64 (wrap64 (4 - k1))
  | 4 => .int .i64 k2
  | 5 => .pointer (some ⟨w.heap.size, 3, none⟩)
  | 6 => .bool false
  | 7 => .agg #[.int .i64 0, .int .i64 0, .int .i64 k2, .bool false]
  | _ => undef
def rinvfF1 (w : World) (x y t k1 k2 : Int) (b : Nat) : Nat → Value → World → Prop
  | 8, v, W => Own1 b 34 #[.int .i64 0, .int .i64 0, .int .i64 0, .bool false] v W
  | j, v, _ => v = rinvfV1 w x y t k1 k2 j
theorem rinvfF1_mono {w : World} {x y t k1 k2 : Int} {b : Nat} {W W' : World} (hx : Ext W W') (j : Nat) (v : Value) (h : rinvfF1 w x y t k1 k2 b j v W) : rinvfF1 w x y t k1 k2 b j v W' := by
  match j, h with
  | 8, h => exact Own1.ext h hx
  | 0, h | 1, h | 2, h | 3, h | 4, h | 5, h | 6, h | 7, h => exact h
  | k + 9, h => exact h
set_option maxRecDepth 100000 in
set_option maxHeartbeats 4000000 in
theorem rinv_f (x y t k1 k2 : Int) (w : World) (h1 : t % 4 = k1) (h2 : wrap64 (4 - k1) % 4 = k2) : Calls Try.prog 29 #[.agg #[.int .i64 x, .int .i64 y, .int .i64 t, .bool false]] w fun e w' => e = .returned (.agg #[.int .i64 (inX x y t false), .int .i64 (inY x y t false), .int .i64 (inT t false), .bool false]) ∧ Ext w w' := by
  have H1 := Lib.hid h1
  have H2 := Lib.hid h2
  clear h1 h2
  go_enter Try.func29, Try.ntmps29
  go_wp2_with fail
  obtain ⟨W, hW⟩ : ∃ W, W = ((w.alloc (.cells #[.int .i64 x, .int .i64 y, .int .i64 t, .bool false] 34)).alloc (.cells #[.int .i64 0, .int .i64 0, .int .i64 0, .bool false] 34)) := ⟨_, rfl⟩
  have bW_0 : RowAt W (w.heap.size) 34 #[.int .i64 x, .int .i64 y, .int .i64 t, .bool false] := by rw [hW]; exact ((RowAt.new' _ _ (by simp)).alloc _)
  have BW_0 := Lib.hid bW_0
  have bW_1 : RowAt W (w.heap.size + 1) 34 #[.int .i64 0, .int .i64 0, .int .i64 0, .bool false] := by rw [hW]; exact (RowAt.new' _ _ (by simp))
  have BW_1 := Lib.hid bW_1
  have SZW := Lib.hid (show W.heap.size = w.heap.size + 1 + 1 from by rw [hW]; simp)
  have XW := Lib.hid (show Ext w W from by rw [hW]; exact (Ext.alloc _ _).trans (Ext.alloc _ _))
  rw [← hW]
  clear hW bW_0 bW_1
  refine wp_region_tail (fun D ac w' => ∃ vs : Nat → Value, ac = { tmps := #[.agg #[.int .i64 x, .int .i64 y, .int .i64 t, .bool false], .pointer (some ⟨w.heap.size, 0, none⟩), .pointer (some ⟨w.heap.size + 1, 0, none⟩), vs 8, undef, vs 0, vs 1, vs 2, vs 3, vs 4, vs 5, vs 6, vs 7, undef, undef, undef, undef, undef, undef, undef, undef, undef, undef, undef, undef, undef, undef, undef, undef, undef, undef, undef], defers := [] } ∧ Ext W w' ∧ ∀ j, D j → rinvfF1 w x y t k1 k2 W.heap.size j (vs j) w') 9 (by kernel_rfl) (by kernel_rfl) (by kernel_rfl) ?startrinvf_1 ?steprinvf_1 ?finrinvf_1
  case startrinvf_1 => exact ⟨fun _ => undef, rfl, Ext.drew _, fun _ h => h.elim⟩
  case steprinvf_1 =>
    rintro i o D ac wz hin hio hnd he ⟨vs, rfl, k0, hF⟩
    rcases i with _ | _ | _ | _ | _ | _ | _ | _ | _ | i
    rotate_left 9
    · exact absurd hin (by omega)
    all_goals (obtain rfl := Option.some.inj (hio.symm.trans (by rfl)))
    · refine step_yes (wanted_of_none rfl _) ?_
      exact wp_of_run (run_fld_mo1 (.tmp 1) rfl _ _ rfl) ⟨upd vs 0 _, rfl, k0, inv_step hF (fun _ _ h => h) rfl⟩
    · refine step_yes (wanted_of_none rfl _) ?_
      exact wp_of_run (run_ldi (.tmp 5) rfl _ _ (by exact (hF 0 (he ⟨0, .data⟩ (by simp) rfl))) _ ((k0.row BW_0.out).cell 2)) ⟨upd vs 1 _, rfl, k0, inv_step hF (fun _ _ h => h) rfl⟩
    · refine step_yes (wanted_of_none rfl _) ?_
      refine wp_of_callE (run_enter1 35 (.tmp 6) _ rfl _ (by exact (hF 1 (he ⟨1, .data⟩ (by simp) rfl))) (fun args w => enters_of Try.func35 (by kernel_rfl) rfl args w)) (ext_of (rturns_k t k1 H1.out wz)) ?_
      rintro e w' ⟨rfl, hx⟩
      exact ⟨_, rfl, upd vs 2 _, rfl, k0.trans hx, inv_step hF (fun j v h => rinvfF1_mono hx j v h) rfl⟩
    · refine step_yes (wanted_of_none rfl _) ?_
      exact wp_of_run (run_subi (.const (.int .i64 4)) (.tmp 7) rfl rfl _ _ rfl (by exact (hF 2 (he ⟨2, .data⟩ (by simp) rfl)))) ⟨upd vs 3 _, rfl, k0, inv_step hF (fun _ _ h => h) rfl⟩
    · refine step_yes (wanted_of_none rfl _) ?_
      refine wp_of_callE (run_enter1 35 (.tmp 8) _ rfl _ (by exact (hF 3 (he ⟨3, .data⟩ (by simp) rfl))) (fun args w => enters_of Try.func35 (by kernel_rfl) rfl args w)) (ext_of (rturns_k (wrap64 (4 - k1)) k2 H2.out wz)) ?_
      rintro e w' ⟨rfl, hx⟩
      exact ⟨_, rfl, upd vs 4 _, rfl, k0.trans hx, inv_step hF (fun j v h => rinvfF1_mono hx j v h) rfl⟩
    · refine step_yes (wanted_of_none rfl _) ?_
      exact wp_of_run (run_fld_mo2 (.tmp 1) rfl _ _ rfl) ⟨upd vs 5 _, rfl, k0, inv_step hF (fun _ _ h => h) rfl⟩
    · refine step_yes (wanted_of_none rfl _) ?_
      exact wp_of_run (run_ldb (.tmp 10) rfl _ _ (by exact (hF 5 (he ⟨5, .data⟩ (by simp) rfl))) _ ((k0.row BW_0.out).cell 3)) ⟨upd vs 6 _, rfl, k0, inv_step hF (fun _ _ h => h) rfl⟩
    · refine step_yes (wanted_of_none rfl _) ?_
      exact wp_of_run (run_build_mo2 (.tmp 9) (.tmp 11) rfl _ _ (by exact (hF 4 (he ⟨4, .data⟩ (by simp) rfl))) (by exact (hF 6 (he ⟨6, .data⟩ (by simp) rfl)))) ⟨upd vs 7 _, rfl, k0, inv_step hF (fun _ _ h => h) rfl⟩
    · refine step_yes (wanted_of_none rfl _) ?_
      exact wp_of_run (run_alloc_mo rfl) ⟨upd vs 8 _, rfl, k0.trans (Ext.alloc _ _), inv_step hF (fun j v h => rinvfF1_mono (Ext.alloc _ _) j v h) (own_new _ _ k0 (Nat.le_refl _))⟩
  case finrinvf_1 =>
    rintro D ac wf hD ⟨vs, rfl, k0, hF⟩
    change wpList _ _ _ [_] _ _
    obtain ⟨g, hg, hle, hr⟩ := hF 8 (hD 8 (by decide))
    have h7 : vs 7 = .agg #[.int .i64 0, .int .i64 0, .int .i64 k2, .bool false] := hF 7 (hD 7 (by decide))
    rw [hg, h7]
    clear hF hD h7 hg
    generalize vs = tv1
    have hsz := SZW.out
    have HLE := Lib.hid (show w.heap.size + 1 + 1 ≤ g from by omega)
    have HR := Lib.hid hr
    have R0 := Lib.hid (k0.row BW_0.out)
    have R1 := Lib.hid (k0.row BW_1.out)
    have E1 := Lib.hid (XW.out.trans k0)
    clear hsz hle hr k0
    obtain ⟨W2, hW2⟩ : ∃ W2, W2 = wf.setRow g #[.int .i64 0, .int .i64 0, .int .i64 k2, .bool false] := ⟨_, rfl⟩
    have rgW2 := Lib.hid (show RowAt W2 g 34 #[.int .i64 0, .int .i64 0, .int .i64 k2, .bool false] from by rw [hW2]; exact HR.out.setRow _)
    have r0W2 := Lib.hid (show RowAt W2 (w.heap.size) _ _ from by rw [hW2]; exact R0.out.setRowOther _ (by have := HLE.out; omega))
    have r1W2 := Lib.hid (show RowAt W2 (w.heap.size + 1) _ _ from by rw [hW2]; exact R1.out.setRowOther _ (by have := HLE.out; omega))
    have EW2 := Lib.hid (show Ext w W2 from by rw [hW2]; exact ext_setRow E1.out (by have := HLE.out; omega) _)
    have HW2 := Lib.hid hW2
    clear hW2
    have c0 := r0W2.out.cell 0
    have c1 := r0W2.out.cell 1
    have c2 := r0W2.out.cell 2
    have c3 := r0W2.out.cell 3
    simp at c0 c1 c2 c3
    have d0 := rgW2.out.cell 0
    have d1 := rgW2.out.cell 1
    have d2 := rgW2.out.cell 2
    have d3 := rgW2.out.cell 3
    simp at d0 d1 d2 d3
    go_wp2_with (refine store_mo rfl (.tmp 3) (.tmp 12) rfl g rfl _ _ _ _ rfl _ _ _ _ _ HR.out ?_; rw [← HW2.out])
    refine (rapply 0 0 k2 false x y _).mono ?_; rintro e w4 ⟨rfl, hx⟩
    clear c0 c1 c2 c3 d0 d1 d2 d3
    have rg4 := Lib.hid (hx.row rgW2.out)
    have r14 := Lib.hid (hx.row r1W2.out)
    have E4 := Lib.hid (EW2.out.trans hx)
    clear hx
    obtain ⟨X, hX⟩ : ∃ X, X = apX 0 k2 false x y := ⟨_, rfl⟩
    obtain ⟨Y, hY⟩ : ∃ Y, Y = apY 0 k2 false x y := ⟨_, rfl⟩
    rw [← hX, ← hY]
    have HX := Lib.hid hX
    have HY := Lib.hid hY
    clear hX hY
    obtain ⟨W5, hW5⟩ : ∃ W5, W5 = w4.alloc (.cells #[.int .i64 X, .int .i64 Y] 23) := ⟨_, rfl⟩
    have rb5 := Lib.hid (show RowAt W5 w4.heap.size _ _ from by rw [hW5]; exact RowAt.new _ _ _)
    have rg5 := Lib.hid (show RowAt W5 g _ _ from by rw [hW5]; exact rg4.out.alloc _)
    have r15 := Lib.hid (show RowAt W5 (w.heap.size + 1) _ _ from by rw [hW5]; exact r14.out.alloc _)
    have E5 := Lib.hid (show Ext w W5 from by rw [hW5]; exact E4.out.trans (Ext.alloc _ _))
    have HW5 := Lib.hid hW5
    clear hW5
    obtain ⟨W6, hW6⟩ : ∃ W6, W6 = W5.setRow g #[.int .i64 (wrap64 (-X)), .int .i64 (wrap64 (-Y)), .int .i64 k2, .bool false] := ⟨_, rfl⟩
    have rgW6 := Lib.hid (show RowAt W6 g 34 #[.int .i64 (wrap64 (-X)), .int .i64 (wrap64 (-Y)), .int .i64 k2, .bool false] from by rw [hW6]; exact rg5.out.setRow _)
    have r1W6 := Lib.hid (show RowAt W6 (w.heap.size + 1) _ _ from by rw [hW6]; exact r15.out.setRowOther _ (by have := HLE.out; omega))
    have EW6 := Lib.hid (show Ext w W6 from by rw [hW6]; exact ext_setRow E5.out (by have := HLE.out; omega) _)
    have HW6 := Lib.hid hW6
    clear hW6
    have c0 := rb5.out.cell 0
    have c1 := rb5.out.cell 1
    simp at c0 c1
    have d0 := rgW6.out.cell 0
    have d1 := rgW6.out.cell 1
    have d2 := rgW6.out.cell 2
    have d3 := rgW6.out.cell 3
    simp at d0 d1 d2 d3
    have HF : Hid (w4.alloc (.cells #[.int .i64 X, .int .i64 Y] 23) = W5) := HW5.out.symm
    go_wp2_with (first | (rw [show (w4.alloc (Obj.cells #[.int .i64 X, .int .i64 Y] 23)) = W5 from HF.out]; refine store_pt_at rfl (.tmp 30) (.tmp 29) rfl g 0 rfl _ _ rfl _ _ _ _ (#[.int .i64 (wrap64 (-X)), .int .i64 (wrap64 (-Y)), .int .i64 k2, .bool false]) rg5.out rfl rfl rfl ?_; rw [← HW6.out]) | (refine store_mo rfl (.tmp 2) (.tmp 31) rfl _ rfl _ _ _ _ rfl _ _ _ _ _ r1W6.out ?_))
    have hI : inT t false = k2 := by have := H1.out; have := H2.out; unfold inT; unfold wrap64 at *; simp; omega
    exact ret_mo rfl _ rfl _ _ _ _ _ (r1W6.out.setRow _) ⟨ret_eq (mo_eq (by unfold inX; rw [hI, HX.out, inX_neg]) (by unfold inY; rw [hI, HY.out, inY_neg]) hI.symm), ext_setRow EW6.out (by omega) _⟩

theorem rinverse (x y t : Int) (m : Bool) (w : World) : Calls Try.prog 29 #[.agg #[.int .i64 x, .int .i64 y, .int .i64 t, .bool m]] w fun e w' => e = .returned (.agg #[.int .i64 (inX x y t m), .int .i64 (inY x y t m), .int .i64 (inT t m), .bool m]) ∧ Ext w w' := by
  cases m
  · exact rinv_f x y t _ _ w rfl rfl
  · exact rinv_t x y t _ _ w rfl rfl

end Go.Proofs.Ytapnoijnegcmfaa
