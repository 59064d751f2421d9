/- vec and its reference: sides, turned points, motions applied. -/
import Derived.Test.YtapnoijnegcmfaaPts2
set_option linter.all false
namespace Go.Proofs.Ytapnoijnegcmfaa
open Go Go.RowKit Go.Shelf

def sideZ (a b c d e f : Int) : Int := sgnZ (crossZ (wrap64 (c - a)) (wrap64 (d - b)) (wrap64 (e - a)) (wrap64 (f - b)))
def miX (m : Bool) (x : Int) : Int := if m then wrap64 (-x) else x
def tuX (t x y : Int) : Int := if t % 4 = 1 then wrap64 (-y) else if t % 4 = 2 then wrap64 (-x) else if t % 4 = 3 then y else x
def tuY (t x y : Int) : Int := if t % 4 = 1 then x else if t % 4 = 2 then wrap64 (-y) else if t % 4 = 3 then wrap64 (-x) else y
def apX (a t : Int) (m : Bool) (x y : Int) : Int := wrap64 (tuX t (miX m x) y + a)
def apY (a t : Int) (m : Bool) (x y : Int) : Int := wrap64 (tuY t (miX m x) y + a)
def coT (t : Int) (m : Bool) (u : Int) : Int := (t + if m then -u else u) % 4
def inT (t : Int) (m : Bool) : Int := if m then t % 4 else (-t) % 4
theorem store_pt {ops : Array Oper} {rest : List Oper} {o : Oper} {a : Act} {w : World} {Q : Exit → Act → World → Prop} (hgd : o.guard = none) (x y : Operand) (ho : o.op = .store 23 x y)
    (g : Nat) (hx : a.eval x = .pointer (some ⟨g, 0, none⟩)) (u v : Int) (hy : a.eval y = .agg #[.int .i64 u, .int .i64 v]) (t : TypeId) (c d : Value) (hg : RowAt w g t #[c, d])
    (h : wpList Try.prog ops Q rest (a.put o.dst undef) (w.setRow g #[.int .i64 u, .int .i64 v])) : wpList Try.prog ops Q (o :: rest) a w :=
  wpList_plain hgd fun _ hK => wp_store_row 23 x y ho g #[.int .i64 u, .int .i64 v] hx hy t _ hg pt_info rfl (by simp [Value.oneCell']) (hK _ _ h)
theorem store_mo {ops : Array Oper} {rest : List Oper} {o : Oper} {a : Act} {w : World} {Q : Exit → Act → World → Prop} (hgd : o.guard = none) (x y : Operand) (ho : o.op = .store 34 x y)
    (g : Nat) (hx : a.eval x = .pointer (some ⟨g, 0, none⟩)) (u v z : Int) (b : Bool) (hy : a.eval y = .agg #[.int .i64 u, .int .i64 v, .int .i64 z, .bool b]) (t : TypeId) (c d e f : Value) (hg : RowAt w g t #[c, d, e, f])
    (h : wpList Try.prog ops Q rest (a.put o.dst undef) (w.setRow g #[.int .i64 u, .int .i64 v, .int .i64 z, .bool b])) : wpList Try.prog ops Q (o :: rest) a w :=
  wpList_plain hgd fun _ hK => wp_store_row 34 x y ho g #[.int .i64 u, .int .i64 v, .int .i64 z, .bool b] hx hy t _ hg mo_info rfl (by simp [Value.oneCell']) (hK _ _ h)
def inX (x y t : Int) (m : Bool) : Int := apX 0 (inT t m) m (wrap64 (0 - x)) (wrap64 (0 - y))
def inY (x y t : Int) (m : Bool) : Int := apY 0 (inT t m) m (wrap64 (0 - x)) (wrap64 (0 - y))
theorem bcell {W w1 : World} (hb : Ext W w1) : (∀ b o, b < W.heap.size → w1.cell? ⟨b, o, none⟩ = W.cell? ⟨b, o, none⟩) ∧ (∀ b o, b < W.heap.size → w1.frozen? ⟨b, o, none⟩ = W.frozen? ⟨b, o, none⟩) :=
  ⟨fun b o h => hb.cell (p := ⟨b, o, none⟩) h, fun b o h => hb.frozen (p := ⟨b, o, none⟩) h⟩
theorem sgn_0 (n : Int) : sgnZ (n - 0) = sgnZ n := by rw [Int.sub_zero]
section
variable {o : Oper} {a : Act} {w : World}
theorem run_build_pt0 (ho : o.op = .build 23 #[]) : (execOp a.eval o).run Try.prog w = .ok (.value (.agg #[.int .i64 0, .int .i64 0])) w := by
  unfold execOp
  simp only [ho]
  simp [go_sem]
theorem run_build_mo0 (ho : o.op = .build 34 #[]) : (execOp a.eval o).run Try.prog w = .ok (.value (.agg #[.int .i64 0, .int .i64 0, .int .i64 0, .bool false])) w := by
  unfold execOp
  simp only [ho]
  simp [go_sem]
theorem run_build_mo3 (x y z : Operand) (ho : o.op = .build 34 #[(0, x), (1, y), (2, z)]) (u v t : Int) (b : Bool) (hx : a.eval x = .agg #[.int .i64 u, .int .i64 v]) (hy : a.eval y = .int .i64 t) (hz : a.eval z = .bool b) : (execOp a.eval o).run Try.prog w = .ok (.value (.agg #[.int .i64 u, .int .i64 v, .int .i64 t, .bool b])) w := by
  unfold execOp
  simp only [ho, List.map_toArray, List.map_cons, List.map_nil, hx, hy, hz]
  simp [go_sem]
theorem run_build_mo2 (y z : Operand) (ho : o.op = .build 34 #[(1, y), (2, z)]) (t : Int) (b : Bool) (hy : a.eval y = .int .i64 t) (hz : a.eval z = .bool b) : (execOp a.eval o).run Try.prog w = .ok (.value (.agg #[.int .i64 0, .int .i64 0, .int .i64 t, .bool b])) w := by
  unfold execOp
  simp only [ho, List.map_toArray, List.map_cons, List.map_nil, hy, hz]
  simp [go_sem]
theorem run_neb (x y : Operand) (ho : o.op = .binOp .neq 4 x y 4) (u v : Bool) (hx : a.eval x = .bool u) (hy : a.eval y = .bool v) : (execOp a.eval o).run Try.prog w = .ok (.value (.bool (u != v))) w := by
  unfold execOp
  simp only [ho, hx, hy]
  simp [go_sem]
  cases u <;> cases v <;> rfl
end

def vsideV1 (x0 y0 x1 y1 x2 y2 : Int) : Nat → Value
  | 0 => .agg #[.int .i64 x1, .int .i64 y1]
  | 1 => .agg #[.int .i64 x0, .int .i64 y0]
  | 2 => .agg #[.int .i64 (wrap64 (x1 - x0)), .int .i64 (wrap64 (y1 - y0))]
  | 3 => .agg #[.int .i64 x2, .int .i64 y2]
  | 4 => .agg #[.int .i64 x0, .int .i64 y0]
  | 5 => .agg #[.int .i64 (wrap64 (x2 - x0)), .int .i64 (wrap64 (y2 - y0))]
  | 6 => .int .i64 (crossZ (wrap64 (x1 - x0)) (wrap64 (y1 - y0)) (wrap64 (x2 - x0)) (wrap64 (y2 - y0)))
  | 7 => .int .i64 (sgnZ ((crossZ (wrap64 (x1 - x0)) (wrap64 (y1 - y0)) (wrap64 (x2 - x0)) (wrap64 (y2 - y0))) - 0))
  | _ => undef
def vsideF1 (x0 y0 x1 y1 x2 y2 : Int) (j : Nat) (v : Value) : Prop := v = vsideV1 x0 y0 x1 y1 x2 y2 j
set_option maxRecDepth 100000 in
set_option maxHeartbeats 4000000 in
theorem vside (x0 y0 x1 y1 x2 y2 : Int) (w : World) : Calls Try.prog 19 #[.agg #[.int .i64 x0, .int .i64 y0], .agg #[.int .i64 x1, .int .i64 y1], .agg #[.int .i64 x2, .int .i64 y2]] w fun e w' => e = .returned (.int .i64 (sideZ x0 y0 x1 y1 x2 y2)) ∧ Ext w w' := by
  go_enter Try.func19, Try.ntmps19
  go_wp2_with fail
  obtain ⟨W, hW⟩ : ∃ W, W = (((w.alloc (.cells #[.int .i64 x0, .int .i64 y0] 23)).alloc (.cells #[.int .i64 x1, .int .i64 y1] 23)).alloc (.cells #[.int .i64 x2, .int .i64 y2] 23)) := ⟨_, rfl⟩
  have bW_0 : RowAt W (w.heap.size) 23 #[.int .i64 x0, .int .i64 y0] := by rw [hW]; exact (((RowAt.new' _ _ (by simp)).alloc _).alloc _)
  have BW_0 := Lib.hid bW_0
  have bW_1 : RowAt W (w.heap.size + 1) 23 #[.int .i64 x1, .int .i64 y1] := by rw [hW]; exact ((RowAt.new' _ _ (by simp)).alloc _)
  have BW_1 := Lib.hid bW_1
  have bW_2 : RowAt W (w.heap.size + 1 + 1) 23 #[.int .i64 x2, .int .i64 y2] := by rw [hW]; exact (RowAt.new' _ _ (by simp))
  have BW_2 := Lib.hid bW_2
  have SZW := Lib.hid (show W.heap.size = w.heap.size + 1 + 1 + 1 from by rw [hW]; simp)
  have XW := Lib.hid (show Ext w W from by rw [hW]; exact ((Ext.alloc _ _).trans (Ext.alloc _ _)).trans (Ext.alloc _ _))
  rw [← hW]
  clear hW bW_0 bW_1 bW_2
  refine wp_region_tail (fun D ac w' => ∃ vs : Nat → Value, ac = { tmps := #[.agg #[.int .i64 x0, .int .i64 y0], .agg #[.int .i64 x1, .int .i64 y1], .agg #[.int .i64 x2, .int .i64 y2], .pointer (some ⟨w.heap.size, 0, none⟩), .pointer (some ⟨w.heap.size + 1, 0, none⟩), .pointer (some ⟨w.heap.size + 1 + 1, 0, none⟩), .int .i64 0, vs 0, vs 1, vs 2, vs 3, vs 4, vs 5, vs 6, vs 7], defers := [] } ∧ Ext W w' ∧ ∀ j, D j → vsideF1 x0 y0 x1 y1 x2 y2 j (vs j)) 8 (by kernel_rfl) (by kernel_rfl) (by kernel_rfl) ?startvside1 ?stepvside1 ?finvside1
  case startvside1 => exact ⟨fun _ => undef, rfl, Ext.drew _, fun _ h => h.elim⟩
  case stepvside1 =>
    rintro i o D ac wz hin hio hnd he ⟨vs, rfl, k0, hF⟩
    rcases i with _ | _ | _ | _ | _ | _ | _ | _ | i
    rotate_left 8
    · exact absurd hin (by omega)
    all_goals (obtain rfl := Option.some.inj (hio.symm.trans (by rfl)))
    · refine step_yes (wanted_of_none rfl _) ?_
      exact wp_of_run (run_ld_pt (.tmp 4) rfl _ _ rfl _ _ ((k0.row BW_1.out).cell 0) ((k0.row BW_1.out).cell 1)) ⟨upd vs 0 _, rfl, k0, inv_same hF rfl⟩
    · refine step_yes (wanted_of_none rfl _) ?_
      exact wp_of_run (run_ld_pt (.tmp 3) rfl _ _ rfl _ _ ((k0.row BW_0.out).cell 0) ((k0.row BW_0.out).cell 1)) ⟨upd vs 1 _, rfl, k0, inv_same hF rfl⟩
    · refine step_yes (wanted_of_none rfl _) ?_
      refine wp_of_callE (run_enter2 13 (.tmp 7) (.tmp 8) _ rfl _ _ (by exact (hF 0 (he ⟨0, .data⟩ (by simp) rfl))) (by exact (hF 1 (he ⟨1, .data⟩ (by simp) rfl))) (fun args w => enters_of Try.func13 (by kernel_rfl) rfl args w)) (vsub x1 y1 x0 y0 wz) ?_
      rintro e w' ⟨rfl, hx⟩
      exact ⟨_, rfl, upd vs 2 _, rfl, k0.trans hx, inv_same hF rfl⟩
    · refine step_yes (wanted_of_none rfl _) ?_
      exact wp_of_run (run_ld_pt (.tmp 5) rfl _ _ rfl _ _ ((k0.row BW_2.out).cell 0) ((k0.row BW_2.out).cell 1)) ⟨upd vs 3 _, rfl, k0, inv_same hF rfl⟩
    · refine step_yes (wanted_of_none rfl _) ?_
      exact wp_of_run (run_ld_pt (.tmp 3) rfl _ _ rfl _ _ ((k0.row BW_0.out).cell 0) ((k0.row BW_0.out).cell 1)) ⟨upd vs 4 _, rfl, k0, inv_same hF rfl⟩
    · refine step_yes (wanted_of_none rfl _) ?_
      refine wp_of_callE (run_enter2 13 (.tmp 10) (.tmp 11) _ rfl _ _ (by exact (hF 3 (he ⟨3, .data⟩ (by simp) rfl))) (by exact (hF 4 (he ⟨4, .data⟩ (by simp) rfl))) (fun args w => enters_of Try.func13 (by kernel_rfl) rfl args w)) (vsub x2 y2 x0 y0 wz) ?_
      rintro e w' ⟨rfl, hx⟩
      exact ⟨_, rfl, upd vs 5 _, rfl, k0.trans hx, inv_same hF rfl⟩
    · refine step_yes (wanted_of_none rfl _) ?_
      refine wp_of_callE (run_enter2 15 (.tmp 9) (.tmp 12) _ rfl _ _ (by exact (hF 2 (he ⟨2, .data⟩ (by simp) rfl))) (by exact (hF 5 (he ⟨5, .data⟩ (by simp) rfl))) (fun args w => enters_of Try.func15 (by kernel_rfl) rfl args w)) (vcross (wrap64 (x1 - x0)) (wrap64 (y1 - y0)) (wrap64 (x2 - x0)) (wrap64 (y2 - y0)) wz) ?_
      rintro e w' ⟨rfl, hx⟩
      exact ⟨_, rfl, upd vs 6 _, rfl, k0.trans hx, inv_same hF rfl⟩
    · refine step_yes (wanted_of_none rfl _) ?_
      refine wp_of_callE (run_enter2 31 (.tmp 13) (.const (.int .i64 0)) _ rfl _ _ (by exact (hF 6 (he ⟨6, .data⟩ (by simp) rfl))) rfl (fun args w => enters_of Try.func31 (by kernel_rfl) rfl args w)) (ext_of (cmpi (crossZ (wrap64 (x1 - x0)) (wrap64 (y1 - y0)) (wrap64 (x2 - x0)) (wrap64 (y2 - y0))) 0 wz)) ?_
      rintro e w' ⟨rfl, hx⟩
      exact ⟨_, rfl, upd vs 7 _, rfl, k0.trans hx, inv_same hF rfl⟩
  case finvside1 =>
    rintro D ac wf hD ⟨vs, rfl, k0, hF⟩
    change wpList _ _ _ [_] _ _
    have h7 : vs 7 = .int .i64 (sgnZ ((crossZ (wrap64 (x1 - x0)) (wrap64 (y1 - y0)) (wrap64 (x2 - x0)) (wrap64 (y2 - y0))) - 0)) := hF 7 (hD 7 (by decide))
    rw [h7]
    clear h7 hF hD
    generalize vs = tv1
    go_wp2_with fail
    go_ret
    exact ⟨ret_eq (int_eq (by unfold sideZ; rw [Int.sub_zero])), XW.out.trans k0⟩

def rsideV1 (x0 y0 x1 y1 x2 y2 : Int) : Nat → Value
  | 0 => .agg #[.int .i64 x1, .int .i64 y1]
  | 1 => .agg #[.int .i64 x0, .int .i64 y0]
  | 2 => .agg #[.int .i64 (wrap64 (x1 - x0)), .int .i64 (wrap64 (y1 - y0))]
  | 3 => .agg #[.int .i64 x2, .int .i64 y2]
  | 4 => .agg #[.int .i64 x0, .int .i64 y0]
  | 5 => .agg #[.int .i64 (wrap64 (x2 - x0)), .int .i64 (wrap64 (y2 - y0))]
  | 6 => .int .i64 (crossZ (wrap64 (x1 - x0)) (wrap64 (y1 - y0)) (wrap64 (x2 - x0)) (wrap64 (y2 - y0)))
  | _ => undef
def rsideF1 (x0 y0 x1 y1 x2 y2 : Int) (j : Nat) (v : Value) : Prop := v = rsideV1 x0 y0 x1 y1 x2 y2 j
set_option maxRecDepth 100000 in
set_option maxHeartbeats 4000000 in
theorem rside (x0 y0 x1 y1 x2 y2 : Int) (w : World) : Calls Try.prog 20 #[.agg #[.int .i64 x0, .int .i64 y0], .agg #[.int .i64 x1, .int .i64 y1], .agg #[.int .i64 x2, .int .i64 y2]] w fun e w' => e = .returned (.int .i64 (sideZ x0 y0 x1 y1 x2 y2)) ∧ Ext w w' := by
  unfold sideZ
  obtain ⟨c, hc⟩ : ∃ c, c = crossZ (wrap64 (x1 - x0)) (wrap64 (y1 - y0)) (wrap64 (x2 - x0)) (wrap64 (y2 - y0)) := ⟨_, rfl⟩
  rw [← hc]
  have HC := Lib.hid hc
  clear hc
  go_enter Try.func20, Try.ntmps20
  go_wp2_with fail
  obtain ⟨W, hW⟩ : ∃ W, W = (((w.alloc (.cells #[.int .i64 x0, .int .i64 y0] 23)).alloc (.cells #[.int .i64 x1, .int .i64 y1] 23)).alloc (.cells #[.int .i64 x2, .int .i64 y2] 23)) := ⟨_, rfl⟩
  have bW_0 : RowAt W (w.heap.size) 23 #[.int .i64 x0, .int .i64 y0] := by rw [hW]; exact (((RowAt.new' _ _ (by simp)).alloc _).alloc _)
  have BW_0 := Lib.hid bW_0
  have bW_1 : RowAt W (w.heap.size + 1) 23 #[.int .i64 x1, .int .i64 y1] := by rw [hW]; exact ((RowAt.new' _ _ (by simp)).alloc _)
  have BW_1 := Lib.hid bW_1
  have bW_2 : RowAt W (w.heap.size + 1 + 1) 23 #[.int .i64 x2, .int .i64 y2] := by rw [hW]; exact (RowAt.new' _ _ (by simp))
  have BW_2 := Lib.hid bW_2
  have SZW := Lib.hid (show W.heap.size = w.heap.size + 1 + 1 + 1 from by rw [hW]; simp)
  have XW := Lib.hid (show Ext w W from by rw [hW]; exact ((Ext.alloc _ _).trans (Ext.alloc _ _)).trans (Ext.alloc _ _))
  rw [← hW]
  clear hW bW_0 bW_1 bW_2
  refine wp_region_tail (fun D ac w' => ∃ vs : Nat → Value, ac = { tmps := #[.agg #[.int .i64 x0, .int .i64 y0], .agg #[.int .i64 x1, .int .i64 y1], .agg #[.int .i64 x2, .int .i64 y2], .pointer (some ⟨w.heap.size, 0, none⟩), .pointer (some ⟨w.heap.size + 1, 0, none⟩), .pointer (some ⟨w.heap.size + 1 + 1, 0, none⟩), .int .i64 0, undef, vs 0, vs 1, vs 2, vs 3, vs 4, vs 5, vs 6, undef, undef, undef, undef, undef, undef], defers := [] } ∧ Ext W w' ∧ ∀ j, D j → rsideF1 x0 y0 x1 y1 x2 y2 j (vs j)) 7 (by kernel_rfl) (by kernel_rfl) (by kernel_rfl) ?startrside1 ?steprside1 ?finrside1
  case startrside1 => exact ⟨fun _ => undef, rfl, Ext.drew _, fun _ h => h.elim⟩
  case steprside1 =>
    rintro i o D ac wz hin hio hnd he ⟨vs, rfl, k0, hF⟩
    rcases i with _ | _ | _ | _ | _ | _ | _ | i
    rotate_left 7
    · exact absurd hin (by omega)
    all_goals (obtain rfl := Option.some.inj (hio.symm.trans (by rfl)))
    · refine step_yes (wanted_of_none rfl _) ?_
      exact wp_of_run (run_ld_pt (.tmp 4) rfl _ _ rfl _ _ ((k0.row BW_1.out).cell 0) ((k0.row BW_1.out).cell 1)) ⟨upd vs 0 _, rfl, k0, inv_same hF rfl⟩
    · refine step_yes (wanted_of_none rfl _) ?_
      exact wp_of_run (run_ld_pt (.tmp 3) rfl _ _ rfl _ _ ((k0.row BW_0.out).cell 0) ((k0.row BW_0.out).cell 1)) ⟨upd vs 1 _, rfl, k0, inv_same hF rfl⟩
    · refine step_yes (wanted_of_none rfl _) ?_
      refine wp_of_callE (run_enter2 14 (.tmp 8) (.tmp 9) _ rfl _ _ (by exact (hF 0 (he ⟨0, .data⟩ (by simp) rfl))) (by exact (hF 1 (he ⟨1, .data⟩ (by simp) rfl))) (fun args w => enters_of Try.func14 (by kernel_rfl) rfl args w)) (rsub x1 y1 x0 y0 wz) ?_
      rintro e w' ⟨rfl, hx⟩
      exact ⟨_, rfl, upd vs 2 _, rfl, k0.trans hx, inv_same hF rfl⟩
    · refine step_yes (wanted_of_none rfl _) ?_
      exact wp_of_run (run_ld_pt (.tmp 5) rfl _ _ rfl _ _ ((k0.row BW_2.out).cell 0) ((k0.row BW_2.out).cell 1)) ⟨upd vs 3 _, rfl, k0, inv_same hF rfl⟩
    · refine step_yes (wanted_of_none rfl _) ?_
      exact wp_of_run (run_ld_pt (.tmp 3) rfl _ _ rfl _ _ ((k0.row BW_0.out).cell 0) ((k0.row BW_0.out).cell 1)) ⟨upd vs 4 _, rfl, k0, inv_same hF rfl⟩
    · refine step_yes (wanted_of_none rfl _) ?_
      refine wp_of_callE (run_enter2 14 (.tmp 11) (.tmp 12) _ rfl _ _ (by exact (hF 3 (he ⟨3, .data⟩ (by simp) rfl))) (by exact (hF 4 (he ⟨4, .data⟩ (by simp) rfl))) (fun args w => enters_of Try.func14 (by kernel_rfl) rfl args w)) (rsub x2 y2 x0 y0 wz) ?_
      rintro e w' ⟨rfl, hx⟩
      exact ⟨_, rfl, upd vs 5 _, rfl, k0.trans hx, inv_same hF rfl⟩
    · refine step_yes (wanted_of_none rfl _) ?_
      refine wp_of_callE (run_enter2 16 (.tmp 10) (.tmp 13) _ rfl _ _ (by exact (hF 2 (he ⟨2, .data⟩ (by simp) rfl))) (by exact (hF 5 (he ⟨5, .data⟩ (by simp) rfl))) (fun args w => enters_of Try.func16 (by kernel_rfl) rfl args w)) (rcross (wrap64 (x1 - x0)) (wrap64 (y1 - y0)) (wrap64 (x2 - x0)) (wrap64 (y2 - y0)) wz) ?_
      rintro e w' ⟨rfl, hx⟩
      exact ⟨_, rfl, upd vs 6 _, rfl, k0.trans hx, inv_same hF rfl⟩
  case finrside1 =>
    rintro D ac wf hD ⟨vs, rfl, k0, hF⟩
    change wpList _ _ _ [_] _ _
    have h6 : vs 6 = .int .i64 (crossZ (wrap64 (x1 - x0)) (wrap64 (y1 - y0)) (wrap64 (x2 - x0)) (wrap64 (y2 - y0))) := hF 6 (hD 6 (by decide))
    rw [h6, ← HC.out]
    clear h6 hF hD HC
    generalize vs = tv1
    have HK := Lib.hid (XW.out.trans k0)
    clear k0
    rcases Int.lt_trichotomy c 0 with h | h | h
    · have h2 : ¬ 0 < c := by omega
      have hs : sgnZ c = -1 := by unfold sgnZ; rw [if_neg h2, if_pos h]
      have HS := Lib.hid hs
      clear hs
      go_wp2_with fail
      go_ret
      exact ⟨ret_eq (int_eq HS.out.symm), HK.out⟩
    · subst h
      have hs : sgnZ 0 = 0 := rfl
      have HS := Lib.hid hs
      clear hs
      go_wp2_with fail
      go_ret
      exact ⟨ret_eq (int_eq HS.out.symm), HK.out⟩
    · have h2 : ¬ c < 0 := by omega
      have hs : sgnZ c = 1 := by unfold sgnZ; rw [if_pos h]
      have HS := Lib.hid hs
      clear hs
      go_wp2_with fail
      go_ret
      exact ⟨ret_eq (int_eq HS.out.symm), HK.out⟩

set_option maxRecDepth 100000 in
set_option maxHeartbeats 4000000 in
theorem vwithin (x0 y0 x1 y1 x2 y2 : Int) (w : World) : Calls Try.prog 21 #[.agg #[.int .i64 x0, .int .i64 y0], .agg #[.int .i64 x1, .int .i64 y1], .agg #[.int .i64 x2, .int .i64 y2]] w fun e w' => e = .returned (.bool (withinB x0 y0 x1 y1 x2 y2)) ∧ Ext w w' := by
  obtain ⟨b, hb⟩ : ∃ b, b = withinB x0 y0 x1 y1 x2 y2 := ⟨_, rfl⟩
  rw [← hb]
  unfold withinB at hb
  obtain ⟨c, hc⟩ : ∃ c, c = crossZ x1 y1 x0 y0 := ⟨_, rfl⟩
  obtain ⟨d, hd⟩ : ∃ d, d = crossZ x0 y0 x2 y2 := ⟨_, rfl⟩
  have H1 := vcross x1 y1 x0 y0
  have H2 := vcross x0 y0 x2 y2
  rw [← hc] at hb H1
  rw [← hd] at hb H2
  have G1 := Lib.hid H1
  have G2 := Lib.hid H2
  clear hc hd H1 H2
  by_cases h1 : 0 ≤ c
  · by_cases h2 : 0 ≤ d
    · have hb' : b = true := by rw [hb]; simp [h1, h2]
      subst hb'; clear hb
      go_enter Try.func21, Try.ntmps21
      go_wp2_with fail
      refine (G1.out _).mono ?_; rintro e w1 ⟨rfl, hx1⟩
      obtain ⟨hc1, hf1⟩ := bcell hx1
      have Hx1 := Lib.hid hx1
      clear hx1
      go_wp2_with fail
      refine (G2.out _).mono ?_; rintro e w2 ⟨rfl, hx2⟩
      go_wp2_with fail
      go_ret
      exact ⟨rfl, (Ext.alloc3 _ _ _ _).trans (Hx1.out.trans hx2)⟩
    · have hb' : b = false := by rw [hb]; simp [h2]
      subst hb'; clear hb
      go_enter Try.func21, Try.ntmps21
      go_wp2_with fail
      refine (G1.out _).mono ?_; rintro e w1 ⟨rfl, hx1⟩
      obtain ⟨hc1, hf1⟩ := bcell hx1
      have Hx1 := Lib.hid hx1
      clear hx1
      go_wp2_with fail
      refine (G2.out _).mono ?_; rintro e w2 ⟨rfl, hx2⟩
      go_wp2_with fail
      go_ret
      exact ⟨ret_eq (show Value.bool (decide (0 ≤ d)) = _ by rw [decide_eq_false (by omega)]), (Ext.alloc3 _ _ _ _).trans (Hx1.out.trans hx2)⟩
  · have hb' : b = false := by rw [hb]; simp; omega
    subst hb'; clear hb
    go_enter Try.func21, Try.ntmps21
    go_wp2_with fail
    refine (G1.out _).mono ?_; rintro e w1 ⟨rfl, hx1⟩
    go_wp2_with fail
    go_ret
    exact ⟨rfl, (Ext.alloc3 _ _ _ _).trans hx1⟩

set_option maxRecDepth 100000 in
set_option maxHeartbeats 4000000 in
theorem rwithin (x0 y0 x1 y1 x2 y2 : Int) (w : World) : Calls Try.prog 22 #[.agg #[.int .i64 x0, .int .i64 y0], .agg #[.int .i64 x1, .int .i64 y1], .agg #[.int .i64 x2, .int .i64 y2]] w fun e w' => e = .returned (.bool (withinB x0 y0 x1 y1 x2 y2)) ∧ Ext w w' := by
  obtain ⟨b, hb⟩ : ∃ b, b = withinB x0 y0 x1 y1 x2 y2 := ⟨_, rfl⟩
  rw [← hb]
  unfold withinB at hb
  obtain ⟨c, hc⟩ : ∃ c, c = crossZ x1 y1 x0 y0 := ⟨_, rfl⟩
  obtain ⟨d, hd⟩ : ∃ d, d = crossZ x0 y0 x2 y2 := ⟨_, rfl⟩
  have H1 := rcross x1 y1 x0 y0
  have H2 := rcross x0 y0 x2 y2
  rw [← hc] at hb H1
  rw [← hd] at hb H2
  have G1 := Lib.hid H1
  have G2 := Lib.hid H2
  clear hc hd H1 H2
  by_cases h1 : 0 ≤ c
  · by_cases h2 : 0 ≤ d
    · have hb' : b = true := by rw [hb]; simp [h1, h2]
      subst hb'; clear hb
      go_enter Try.func22, Try.ntmps22
      go_wp2_with fail
      refine (G1.out _).mono ?_; rintro e w1 ⟨rfl, hx1⟩
      obtain ⟨hc1, hf1⟩ := bcell hx1
      have Hx1 := Lib.hid hx1
      clear hx1
      go_wp2_with fail
      refine (G2.out _).mono ?_; rintro e w2 ⟨rfl, hx2⟩
      go_wp2_with fail
      go_ret
      exact ⟨rfl, (Ext.alloc3 _ _ _ _).trans (Hx1.out.trans hx2)⟩
    · have hb' : b = false := by rw [hb]; simp [h2]
      subst hb'; clear hb
      go_enter Try.func22, Try.ntmps22
      go_wp2_with fail
      refine (G1.out _).mono ?_; rintro e w1 ⟨rfl, hx1⟩
      obtain ⟨hc1, hf1⟩ := bcell hx1
      have Hx1 := Lib.hid hx1
      clear hx1
      go_wp2_with fail
      refine (G2.out _).mono ?_; rintro e w2 ⟨rfl, hx2⟩
      go_wp2_with fail
      go_ret
      exact ⟨ret_eq (show Value.bool (decide (0 ≤ d)) = _ by rw [decide_eq_false (by omega)]), (Ext.alloc3 _ _ _ _).trans (Hx1.out.trans hx2)⟩
  · have hb' : b = false := by rw [hb]; simp; omega
    subst hb'; clear hb
    go_enter Try.func22, Try.ntmps22
    go_wp2_with fail
    refine (G1.out _).mono ?_; rintro e w1 ⟨rfl, hx1⟩
    go_wp2_with fail
    go_ret
    exact ⟨rfl, (Ext.alloc3 _ _ _ _).trans hx1⟩

theorem rturns_k (t k : Int) (h : t % 4 = k) (w : World) : Calls Try.prog 35 #[.int .i64 t] w fun e w' => e = .returned (.int .i64 k) ∧ w = w' := by subst h; exact rturns t w
theorem vturns_k (t k : Int) (h : t % 4 = k) (w : World) : Calls Try.prog 32 #[.int .i64 t] w fun e w' => e = .returned (.int .i64 k) ∧ w = w' := by subst h; exact vturns t w
set_option maxRecDepth 100000 in
set_option maxHeartbeats 4000000 in
theorem rturned (x y t : Int) (w : World) : Calls Try.prog 33 #[.agg #[.int .i64 x, .int .i64 y], .int .i64 t] w fun e w' => e = .returned (.agg #[.int .i64 (tuX t x y), .int .i64 (tuY t x y)]) ∧ Ext w w' := by
  have hk : t % 4 = 0 ∨ t % 4 = 1 ∨ t % 4 = 2 ∨ t % 4 = 3 := by omega
  obtain ⟨u, hu⟩ : ∃ u, u = tuX t x y := ⟨_, rfl⟩
  obtain ⟨v, hv⟩ : ∃ v, v = tuY t x y := ⟨_, rfl⟩
  rw [← hu, ← hv]
  unfold tuX at hu
  unfold tuY at hv
  rcases hk with hk | hk | hk | hk
  · simp [hk] at hu hv
    subst hu hv
    have HK := Lib.hid hk
    clear hk
    go_enter Try.func33, Try.ntmps33
    go_wp2_with fail
    refine (rturns_k t 0 HK.out _).mono ?_; rintro e w' ⟨rfl, rfl⟩
    go_wp2_with fail
    exact ret_pt rfl _ rfl _ _ _ (RowAt.new' _ _ (by simp)) ⟨rfl, Ext.alloc2 _ _ _⟩
  · simp [hk] at hu hv
    subst hu hv
    have HK := Lib.hid hk
    clear hk
    go_enter Try.func33, Try.ntmps33
    go_wp2_with fail
    refine (rturns_k t 1 HK.out _).mono ?_; rintro e w' ⟨rfl, rfl⟩
    go_wp2_with fail
    exact ret_pt rfl _ rfl _ _ _ (RowAt.new' _ _ (by simp)) ⟨rfl, Ext.alloc2 _ _ _⟩
  · simp [hk] at hu hv
    subst hu hv
    have HK := Lib.hid hk
    clear hk
    go_enter Try.func33, Try.ntmps33
    go_wp2_with fail
    refine (rturns_k t 2 HK.out _).mono ?_; rintro e w' ⟨rfl, rfl⟩
    go_wp2_with fail
    exact ret_pt rfl _ rfl _ _ _ (RowAt.new' _ _ (by simp)) ⟨rfl, Ext.alloc2 _ _ _⟩
  · simp [hk] at hu hv
    subst hu hv
    have HK := Lib.hid hk
    clear hk
    go_enter Try.func33, Try.ntmps33
    go_wp2_with fail
    refine (rturns_k t 3 HK.out _).mono ?_; rintro e w' ⟨rfl, rfl⟩
    go_wp2_with fail
    exact ret_pt rfl _ rfl _ _ _ (RowAt.new' _ _ (by simp)) ⟨rfl, Ext.alloc2 _ _ _⟩
set_option maxRecDepth 100000 in
set_option maxHeartbeats 4000000 in
theorem rmirrored (x y : Int) (m : Bool) (w : World) : Calls Try.prog 34 #[.agg #[.int .i64 x, .int .i64 y], .bool m] w fun e w' => e = .returned (.agg #[.int .i64 (miX m x), .int .i64 y]) ∧ Ext w w' := by
  cases m
  all_goals
    unfold miX
    go_enter Try.func34, Try.ntmps34
    go_wp2_with fail
    exact ret_pt rfl _ rfl _ _ _ (RowAt.new' _ _ (by simp)) ⟨rfl, Ext.alloc2 _ _ _⟩

def rapplyV1 (w : World) (ax ay t : Int) (m : Bool) (x y : Int) : Nat → Value
  | 0 => .agg #[.int .i64 x, .int .i64 y]
  | 1 => .pointer (some ⟨w.heap.size, 3, none⟩)
  | 2 => .bool m
  | 3 => .agg #[.int .i64 (miX m x), .int .i64 y]
  | 4 => .pointer (some ⟨w.heap.size, 2, none⟩)
  | 5 => .int .i64 t
  | 6 => .agg #[.int .i64 (tuX t (miX m x) y), .int .i64 (tuY t (miX m x) y)]
  | 7 => .pointer (some ⟨w.heap.size, 0, none⟩)
  | 8 => .agg #[.int .i64 ax, .int .i64 ay]
  | 9 => .agg #[.int .i64 (wrap64 ((tuX t (miX m x) y) + ax)), .int .i64 (wrap64 ((tuY t (miX m x) y) + ay))]
  | _ => undef
def rapplyF1 (w : World) (ax ay t : Int) (m : Bool) (x y : Int) (j : Nat) (v : Value) : Prop := v = rapplyV1 w ax ay t m x y j
set_option maxRecDepth 100000 in
set_option maxHeartbeats 4000000 in
theorem rapply (ax ay t : Int) (m : Bool) (x y : Int) (w : World) : Calls Try.prog 25 #[.agg #[.int .i64 ax, .int .i64 ay, .int .i64 t, .bool m], .agg #[.int .i64 x, .int .i64 y]] w fun e w' => e = .returned (.agg #[.int .i64 (apX ax t m x y), .int .i64 (apY ay t m x y)]) ∧ Ext w w' := by
  go_enter Try.func25, Try.ntmps25
  go_wp2_with fail
  obtain ⟨W, hW⟩ : ∃ W, W = (((w.alloc (.cells #[.int .i64 ax, .int .i64 ay, .int .i64 t, .bool m] 34)).alloc (.cells #[.int .i64 x, .int .i64 y] 23)).alloc (.cells #[.int .i64 0, .int .i64 0] 23)) := ⟨_, rfl⟩
  have bW_0 : RowAt W (w.heap.size) 34 #[.int .i64 ax, .int .i64 ay, .int .i64 t, .bool m] := by rw [hW]; exact (((RowAt.new' _ _ (by simp)).alloc _).alloc _)
  have BW_0 := Lib.hid bW_0
  have bW_1 : RowAt W (w.heap.size + 1) 23 #[.int .i64 x, .int .i64 y] := by rw [hW]; exact ((RowAt.new' _ _ (by simp)).alloc _)
  have BW_1 := Lib.hid bW_1
  have bW_2 : RowAt W (w.heap.size + 1 + 1) 23 #[.int .i64 0, .int .i64 0] := by rw [hW]; exact (RowAt.new' _ _ (by simp))
  have BW_2 := Lib.hid bW_2
  have SZW := Lib.hid (show W.heap.size = w.heap.size + 1 + 1 + 1 from by rw [hW]; simp)
  have XW := Lib.hid (show Ext w W from by rw [hW]; exact ((Ext.alloc _ _).trans (Ext.alloc _ _)).trans (Ext.alloc _ _))
  rw [← hW]
  clear hW bW_0 bW_1 bW_2
  refine wp_region_tail (fun D ac w' => ∃ vs : Nat → Value, ac = { tmps := #[.agg #[.int .i64 ax, .int .i64 ay, .int .i64 t, .bool m], .agg #[.int .i64 x, .int .i64 y], .pointer (some ⟨w.heap.size, 0, none⟩), .pointer (some ⟨w.heap.size + 1, 0, none⟩), .pointer (some ⟨w.heap.size + 1 + 1, 0, none⟩), vs 0, vs 1, vs 2, vs 3, vs 4, vs 5, vs 6, vs 7, vs 8, vs 9], defers := [] } ∧ Ext W w' ∧ ∀ j, D j → rapplyF1 w ax ay t m x y j (vs j)) 10 (by kernel_rfl) (by kernel_rfl) (by kernel_rfl) ?startrapply1 ?steprapply1 ?finrapply1
  case startrapply1 => exact ⟨fun _ => undef, rfl, Ext.drew _, fun _ h => h.elim⟩
  case steprapply1 =>
    rintro i o D ac wz hin hio hnd he ⟨vs, rfl, k0, hF⟩
    rcases i with _ | _ | _ | _ | _ | _ | _ | _ | _ | _ | i
    rotate_left 10
    · exact absurd hin (by omega)
    all_goals (obtain rfl := Option.some.inj (hio.symm.trans (by rfl)))
    · refine step_yes (wanted_of_none rfl _) ?_
      exact wp_of_run (run_ld_pt (.tmp 3) rfl _ _ rfl _ _ ((k0.row BW_1.out).cell 0) ((k0.row BW_1.out).cell 1)) ⟨upd vs 0 _, rfl, k0, inv_same hF rfl⟩
    · refine step_yes (wanted_of_none rfl _) ?_
      exact wp_of_run (run_fld_mo2 (.tmp 2) rfl _ _ rfl) ⟨upd vs 1 _, rfl, k0, inv_same hF rfl⟩
    · refine step_yes (wanted_of_none rfl _) ?_
      exact wp_of_run (run_ldb (.tmp 6) rfl _ _ (by exact (hF 1 (he ⟨1, .data⟩ (by simp) rfl))) _ ((k0.row BW_0.out).cell 3)) ⟨upd vs 2 _, rfl, k0, inv_same hF rfl⟩
    · refine step_yes (wanted_of_none rfl _) ?_
      refine wp_of_callE (run_enter2 34 (.tmp 5) (.tmp 7) _ rfl _ _ (by exact (hF 0 (he ⟨0, .data⟩ (by simp) rfl))) (by exact (hF 2 (he ⟨2, .data⟩ (by simp) rfl))) (fun args w => enters_of Try.func34 (by kernel_rfl) rfl args w)) (rmirrored x y m wz) ?_
      rintro e w' ⟨rfl, hx⟩
      exact ⟨_, rfl, upd vs 3 _, rfl, k0.trans hx, inv_same hF rfl⟩
    · refine step_yes (wanted_of_none rfl _) ?_
      exact wp_of_run (run_fld_mo1 (.tmp 2) rfl _ _ rfl) ⟨upd vs 4 _, rfl, k0, inv_same hF rfl⟩
    · refine step_yes (wanted_of_none rfl _) ?_
      exact wp_of_run (run_ldi (.tmp 9) rfl _ _ (by exact (hF 4 (he ⟨4, .data⟩ (by simp) rfl))) _ ((k0.row BW_0.out).cell 2)) ⟨upd vs 5 _, rfl, k0, inv_same hF rfl⟩
    · refine step_yes (wanted_of_none rfl _) ?_
      refine wp_of_callE (run_enter2 33 (.tmp 8) (.tmp 10) _ rfl _ _ (by exact (hF 3 (he ⟨3, .data⟩ (by simp) rfl))) (by exact (hF 5 (he ⟨5, .data⟩ (by simp) rfl))) (fun args w => enters_of Try.func33 (by kernel_rfl) rfl args w)) (rturned (miX m x) y t wz) ?_
      rintro e w' ⟨rfl, hx⟩
      exact ⟨_, rfl, upd vs 6 _, rfl, k0.trans hx, inv_same hF rfl⟩
    · refine step_yes (wanted_of_none rfl _) ?_
      exact wp_of_run (run_fld_mo0 (.tmp 2) rfl _ _ rfl) ⟨upd vs 7 _, rfl, k0, inv_same hF rfl⟩
    · refine step_yes (wanted_of_none rfl _) ?_
      exact wp_of_run (run_ld_pt (.tmp 12) rfl _ _ (by exact (hF 7 (he ⟨7, .data⟩ (by simp) rfl))) _ _ ((k0.row BW_0.out).cell 0) ((k0.row BW_0.out).cell 1)) ⟨upd vs 8 _, rfl, k0, inv_same hF rfl⟩
    · refine step_yes (wanted_of_none rfl _) ?_
      refine wp_of_callE (run_enter2 12 (.tmp 11) (.tmp 13) _ rfl _ _ (by exact (hF 6 (he ⟨6, .data⟩ (by simp) rfl))) (by exact (hF 8 (he ⟨8, .data⟩ (by simp) rfl))) (fun args w => enters_of Try.func12 (by kernel_rfl) rfl args w)) (radd (tuX t (miX m x) y) (tuY t (miX m x) y) ax ay wz) ?_
      rintro e w' ⟨rfl, hx⟩
      exact ⟨_, rfl, upd vs 9 _, rfl, k0.trans hx, inv_same hF rfl⟩
  case finrapply1 =>
    rintro D ac wf hD ⟨vs, rfl, k0, hF⟩
    change wpList _ _ _ [_] _ _
    have h9 : vs 9 = .agg #[.int .i64 (apX ax t m x y), .int .i64 (apY ay t m x y)] := hF 9 (hD 9 (by decide))
    rw [h9]
    clear h9 hF hD
    generalize vs = tv1
    have r := Lib.hid (k0.row BW_2.out)
    have hc0 := r.out.cell 0
    have hc1 := r.out.cell 1
    have hf0 := r.out.frozen 0
    have hf1 := r.out.frozen 1
    have E := Lib.hid (XW.out.trans k0)
    clear k0
    go_wp2_with (refine store_pt rfl (.tmp 4) (.tmp 14) rfl _ rfl _ _ rfl _ _ _ r.out ?_)
    exact ret_pt rfl _ rfl _ _ _ (r.out.setRow _) ⟨rfl, ext_setRow E.out (by omega) _⟩

set_option maxRecDepth 100000 in
set_option maxHeartbeats 4000000 in
theorem vapply (ax ay t : Int) (m : Bool) (x y : Int) (w : World) : Calls Try.prog 24 #[.agg #[.int .i64 ax, .int .i64 ay, .int .i64 t, .bool m], .agg #[.int .i64 x, .int .i64 y]] w fun e w' => e = .returned (.agg #[.int .i64 (apX ax t m x y), .int .i64 (apY ay t m x y)]) ∧ Ext w w' := by
  have hk : t % 4 = 0 ∨ t % 4 = 1 ∨ t % 4 = 2 ∨ t % 4 = 3 := by omega
  rcases hk with hk | hk | hk | hk
  · have HK := Lib.hid hk
    clear hk
    cases m
    all_goals
      go_enter Try.func24, Try.ntmps24
      go_wp2_with fail
      refine (vturns_k t 0 HK.out _).mono ?_; rintro e w' ⟨rfl, rfl⟩
      go_wp2_with fail
      refine wp_loop_rounds 1 ?_
      rw [rounds_succ]
      go_wp2_with fail
      refine (vadd _ _ _ _ _).mono ?_; rintro e w' ⟨rfl, hx⟩
      have r := Lib.hid (hx.row (RowAt.new' (g := w.heap.size + 1 + 1) 23 _ (by simp)))
      have E := Lib.hid ((Ext.alloc3 _ _ _ _).trans hx)
      clear hx
      go_wp2_with (refine store_pt rfl (.tmp 4) (.tmp 26) rfl _ rfl _ _ rfl _ _ _ r.out ?_)
      exact ret_pt rfl _ rfl _ _ _ (r.out.setRow _) ⟨ret_eq (pt_eq (by have hk := HK.out; unfold apX tuX miX; simp [hk]; try (unfold wrap64; omega)) (by have hk := HK.out; unfold apY tuY miX; simp [hk]; try (unfold wrap64; omega))), ext_setRow E.out (by omega) _⟩
  · have HK := Lib.hid hk
    clear hk
    cases m
    all_goals
      go_enter Try.func24, Try.ntmps24
      go_wp2_with fail
      refine (vturns_k t 1 HK.out _).mono ?_; rintro e w' ⟨rfl, rfl⟩
      go_wp2_with fail
      refine wp_loop_rounds 2 ?_
      rw [rounds_succ]
      go_wp2_with fail
      rw [rounds_succ]
      go_wp2_with fail
      refine (vadd _ _ _ _ _).mono ?_; rintro e w' ⟨rfl, hx⟩
      have r := Lib.hid (hx.row (RowAt.new' (g := w.heap.size + 1 + 1) 23 _ (by simp)))
      have E := Lib.hid ((Ext.alloc3 _ _ _ _).trans hx)
      clear hx
      go_wp2_with (refine store_pt rfl (.tmp 4) (.tmp 26) rfl _ rfl _ _ rfl _ _ _ r.out ?_)
      exact ret_pt rfl _ rfl _ _ _ (r.out.setRow _) ⟨ret_eq (pt_eq (by have hk := HK.out; unfold apX tuX miX; simp [hk]; try (unfold wrap64; omega)) (by have hk := HK.out; unfold apY tuY miX; simp [hk]; try (unfold wrap64; omega))), ext_setRow E.out (by omega) _⟩
  · have HK := Lib.hid hk
    clear hk
    cases m
    all_goals
      go_enter Try.func24, Try.ntmps24
      go_wp2_with fail
      refine (vturns_k t 2 HK.out _).mono ?_; rintro e w' ⟨rfl, rfl⟩
      go_wp2_with fail
      refine wp_loop_rounds 3 ?_
      rw [rounds_succ]
      go_wp2_with fail
      rw [rounds_succ]
      go_wp2_with fail
      rw [rounds_succ]
      go_wp2_with fail
      refine (vadd _ _ _ _ _).mono ?_; rintro e w' ⟨rfl, hx⟩
      have r := Lib.hid (hx.row (RowAt.new' (g := w.heap.size + 1 + 1) 23 _ (by simp)))
      have E := Lib.hid ((Ext.alloc3 _ _ _ _).trans hx)
      clear hx
      go_wp2_with (refine store_pt rfl (.tmp 4) (.tmp 26) rfl _ rfl _ _ rfl _ _ _ r.out ?_)
      exact ret_pt rfl _ rfl _ _ _ (r.out.setRow _) ⟨ret_eq (pt_eq (by have hk := HK.out; unfold apX tuX miX; simp [hk]; try (unfold wrap64; omega)) (by have hk := HK.out; unfold apY tuY miX; simp [hk]; try (unfold wrap64; omega))), ext_setRow E.out (by omega) _⟩
  · have HK := Lib.hid hk
    clear hk
    cases m
    all_goals
      go_enter Try.func24, Try.ntmps24
      go_wp2_with fail
      refine (vturns_k t 3 HK.out _).mono ?_; rintro e w' ⟨rfl, rfl⟩
      go_wp2_with fail
      refine wp_loop_rounds 4 ?_
      rw [rounds_succ]
      go_wp2_with fail
      rw [rounds_succ]
      go_wp2_with fail
      rw [rounds_succ]
      go_wp2_with fail
      rw [rounds_succ]
      go_wp2_with fail
      refine (vadd _ _ _ _ _).mono ?_; rintro e w' ⟨rfl, hx⟩
      have r := Lib.hid (hx.row (RowAt.new' (g := w.heap.size + 1 + 1) 23 _ (by simp)))
      have E := Lib.hid ((Ext.alloc3 _ _ _ _).trans hx)
      clear hx
      go_wp2_with (refine store_pt rfl (.tmp 4) (.tmp 26) rfl _ rfl _ _ rfl _ _ _ r.out ?_)
      exact ret_pt rfl _ rfl _ _ _ (r.out.setRow _) ⟨ret_eq (pt_eq (by have hk := HK.out; unfold apX tuX miX; simp [hk]; try (unfold wrap64; omega)) (by have hk := HK.out; unfold apY tuY miX; simp [hk]; try (unfold wrap64; omega))), ext_setRow E.out (by omega) _⟩

end Go.Proofs.Ytapnoijnegcmfaa
