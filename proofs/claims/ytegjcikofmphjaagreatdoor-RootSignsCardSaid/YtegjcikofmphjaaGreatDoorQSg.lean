/- Texts that belong together. -/
import Derived.Test.YtegjcikofmphjaaGreatDoorQRootMw
import Derived.Lib.MinMax
import Derived.LoopN
set_option linter.all false
namespace Go.Proofs.YtegjcikofmphjaaGreatDoor
open Go Go.RowKit Go.Shelf
theorem ANum.of {w : World} {v : Value} {z : Int} (h : ZNum w.heap.size w v z) : ANum w v (decide (z < 0)) (digs z.natAbs) := by
  obtain ⟨⟨s, rfl, hu⟩, hl⟩ := h
  obtain ⟨p, c, rfl, -, -⟩ := id hu
  exact ⟨⟨p, _, c, rfl, hu⟩, digs_digits _⟩
end Go.Proofs.YtegjcikofmphjaaGreatDoor
/- The reference of layer 2: side. -/
namespace Go.Proofs.YtegjcikofmphjaaGreatDoor
open Go Go.RowKit Go.Shelf
def OwnN (b : Nat) (v : Value) (w : World) : Prop := ∃ g, v = .pointer (some ⟨g, 0, none⟩) ∧ b ≤ g ∧ RowAt w g 25 (numCells false none 0 0)
theorem OwnN.ext {b : Nat} {v : Value} {w w' : World} (h : OwnN b v w) (hx : Ext w w') : OwnN b v w' := by
  obtain ⟨g, e, l, r⟩ := h
  exact ⟨g, e, l, hx.row r⟩
theorem ownN_new {b : Nat} {w0 w : World} (h : Ext w0 w) (hb : b ≤ w0.heap.size) : OwnN b (.pointer (some ⟨w.heap.size, 0, none⟩)) (w.alloc (.cells (numCells false none 0 0) 25)) :=
  ⟨_, rfl, Nat.le_trans hb (Below.size h), RowAt.new _ _ _⟩
theorem sideZ_sg (a b c : Int) : RM.sideZ a b c = if b.sign = 0 ∨ c.sign = 0 then a.sign else if a.sign = 0 ∨ a.sign = b.sign then b.sign else a.sign * zcmp (a * a) (b * b * c) := by
  rw [zcmp_sub]
  unfold RM.sideZ
  simp only [Int.sign_eq_zero_iff_zero]
def sd1F (va : Value) (x : Int) : Nat → Value → World → Prop
  | 0, v, _ => v = va
  | 1, v, W => IsN 0 v W
  | 2, v, _ => v = .int .i64 x
  | _, _, _ => True
theorem sd1F_mono {va : Value} {x : Int} {W W' : World} (hx : Ext W W') (j : Nat) (v : Value) (h : sd1F va x j v W) : sd1F va x j v W' := by
  match j, h with
  | 0, h | 2, h => exact h
  | 1, h => exact IsN.ext h hx
  | _ + 3, _ => trivial
def sd3T (vc : Value) (z y : Int) : Nat → Value → World → Prop
  | 0, v, _ => v = vc
  | 1, v, W => IsN 0 v W
  | 2, v, _ => v = .int .i64 z
  | 3, v, _ => v = .bool true
  | 4, v, _ => v = .bool true
  | 5, v, _ => v = undef
  | 6, v, _ => v = undef
  | 7, v, _ => v = .bool true
  | _, _, _ => True
theorem sd3T_mono {vc : Value} {z y : Int} {W W' : World} (hx : Ext W W') (j : Nat) (v : Value) (h : sd3T vc z y j v W) : sd3T vc z y j v W' := by
  match j, h with
  | 0, h | 2, h | 3, h | 4, h | 5, h | 6, h | 7, h => exact h
  | 1, h => exact IsN.ext h hx
  | _ + 8, _ => trivial
def sd3E (vc : Value) (z y : Int) : Nat → Value → World → Prop
  | 0, v, _ => v = vc
  | 1, v, W => IsN 0 v W
  | 2, v, _ => v = .int .i64 z
  | 3, v, _ => v = .bool false
  | 4, v, _ => v = .bool false
  | 5, v, _ => v = .int .i64 y
  | 6, v, _ => v = .bool (y == 0)
  | 7, v, _ => v = .bool (y == 0)
  | _, _, _ => True
theorem sd3E_mono {vc : Value} {z y : Int} {W W' : World} (hx : Ext W W') (j : Nat) (v : Value) (h : sd3E vc z y j v W) : sd3E vc z y j v W' := by
  match j, h with
  | 0, h | 2, h | 3, h | 4, h | 5, h | 6, h | 7, h => exact h
  | 1, h => exact IsN.ext h hx
  | _ + 8, _ => trivial
def sd8F (b0 : Nat) (vb vc : Value) (b c : Int) : Nat → Value → World → Prop
  | 0, v, _ => v = vb
  | 1, v, _ => v = vb
  | 2, v, W => IsN (b * b) v W
  | 3, v, _ => v = vc
  | 4, v, W => IsN (b * b * c) v W
  | 5, v, W => OwnN b0 v W
  | _, _, _ => True
theorem sd8F_mono {b0 : Nat} {vb vc : Value} {b c : Int} {W W' : World} (hx : Ext W W') (j : Nat) (v : Value) (h : sd8F b0 vb vc b c j v W) : sd8F b0 vb vc b c j v W' := by
  match j, h with
  | 0, h | 1, h | 3, h => exact h
  | 2, h => exact IsN.ext h hx
  | 4, h => exact IsN.ext h hx
  | 5, h => exact OwnN.ext h hx
  | _ + 6, _ => trivial
set_option maxRecDepth 100000 in
set_option maxHeartbeats 16000000 in
theorem r2side_n (va vb vc : Value) (a b c : Int) (w : World) (ha : IsN a va w) (hb : IsN b vb w) (hc : IsN c vc w) (l1 : (a * a).natAbs < B32 ^ 64) (l2 : (b * b).natAbs < B32 ^ 64) (l3 : (b * b * c).natAbs < B32 ^ 64) :
    Calls Tryz.prog 56 #[va, vb, vc] w fun e w' => e = .returned (.int .i64 (RM.sideZ a b c)) ∧ Ext w w' := by
  rw [sideZ_sg a b c]
  obtain ⟨na, p, n, k, rfl⟩ := IsN.parts ha
  obtain ⟨nb, q, m, k2, rfl⟩ := IsN.parts hb
  obtain ⟨nc, s, l, k3, rfl⟩ := IsN.parts hc
  have S0 := Lib.hid (zcmp_sign a)
  have S1 := Lib.hid (zcmp_sign b)
  have S2 := Lib.hid (zcmp_sign c)
  have SX := Lib.hid (sgn3 a)
  have L1 := Lib.hid l1
  have L2 := Lib.hid l2
  have L3 := Lib.hid l3
  have ZA := Lib.hid ha
  have ZB := Lib.hid hb
  have ZC := Lib.hid hc
  have E := Lib.hid (Ext.refl w)
  generalize a.sign = x at *
  generalize b.sign = y at *
  generalize c.sign = z at *
  obtain ⟨rv, hrv⟩ : ∃ rv, rv = if y = 0 ∨ z = 0 then x else if x = 0 ∨ x = y then y else x * zcmp (a * a) (b * b * c) := ⟨_, rfl⟩
  rw [← hrv]
  have Hrv := Lib.hid hrv
  clear ha hb hc l1 l2 l3 hrv
  obtain ⟨W0a, hW0a⟩ : ∃ W0a, W0a = (((w.alloc (.cells #[.bool na, .slice p n k] 25)).alloc (.cells #[.bool nb, .slice q m k2] 25)).alloc (.cells #[.bool nc, .slice s l k3] 25)) := ⟨_, rfl⟩
  have hx : Ext w W0a := by rw [hW0a]; exact (((Ext.alloc _ _).trans (Ext.alloc _ _)).trans (Ext.alloc _ _))
  have A_n : RowAt W0a (w.heap.size) 25 (numCells na p n k) := by rw [hW0a]; exact (((RowAt.new' _ _ (by simp)).alloc _).alloc _)
  have B_n : RowAt W0a (w.heap.size + 1) 25 (numCells nb q m k2) := by rw [hW0a]; exact ((RowAt.new' _ _ (by simp)).alloc _)
  have C_n : RowAt W0a (w.heap.size + 1 + 1) 25 (numCells nc s l k3) := by rw [hW0a]; exact (RowAt.new' _ _ (by simp))
  have ZA1 := Lib.hid (hx.num ZA.out)
  have ZB1 := Lib.hid (hx.num ZB.out)
  have ZC1 := Lib.hid (hx.num ZC.out)
  have E1 := Lib.hid (E.out.trans hx)
  clear ZA ZB ZC E
  have A_1 := Lib.hid A_n
  have B_1 := Lib.hid B_n
  have C_1 := Lib.hid C_n
  have HW0a := Lib.hid hW0a
  clear hx hW0a A_n B_n C_n
  go_enter Tryz.func56, Tryz.ntmps56
  go_upto_region 1 with fail
  rw [← HW0a.out]
  refine wp_region_tail (fun D ac w' => ∃ vs : Nat → Value, ac = { tmps := #[.agg #[.bool na, .slice p n k], .agg #[.bool nb, .slice q m k2], .agg #[.bool nc, .slice s l k3], .pointer (some ⟨w.heap.size, 0, none⟩), .pointer (some ⟨w.heap.size + 1, 0, none⟩), .pointer (some ⟨w.heap.size + 1 + 1, 0, none⟩), .int .i64 0, undef, undef, undef, undef, vs 0, vs 1, vs 2, undef, undef, undef, undef, undef, undef, undef, undef, undef, undef, undef, undef, undef, undef, undef, undef, undef, undef, undef, undef, undef, undef, undef, undef, undef, undef, undef, undef, undef, undef, undef, undef, undef], defers := [] } ∧ Ext W0a w' ∧ ∀ j, D j → sd1F (.agg #[.bool na, .slice p n k]) x j (vs j) w') 3 (by kernel_rfl) (by kernel_rfl) (by kernel_rfl) ?start1 ?step1 ?fin1
  case start1 => exact ⟨fun _ => undef, rfl, Ext.drew _, fun _ h => h.elim⟩
  case step1 =>
    rintro i o D ac wz hin hio hnd he ⟨vs, rfl, k0, hF⟩
    rcases i with _ | _ | _ | i
    rotate_left 3
    · exact absurd hin (by omega)
    all_goals (obtain rfl := Option.some.inj (hio.symm.trans (by rfl)))
    · refine step_yes (wanted_of_none rfl _) ?_
      exact wp_of_run (run_load_num (.tmp 3) rfl _ rfl _ _ _ _ _ (k0.row A_1.out)) ⟨upd vs 0 _, rfl, k0, inv_step hF (fun _ _ h => h) rfl⟩
    · refine step_yes (wanted_of_none rfl _) ?_
      refine wp_of_callE (run_enter0 42 _ rfl ent_rzero) (rzero_n wz) ?_
      rintro e w' ⟨rr, rfl, hz, hx⟩
      exact ⟨_, rfl, upd vs 1 _, rfl, k0.trans hx, inv_step hF (fun j v h => sd1F_mono hx j v h) hz⟩
    · refine step_yes (wanted_of_none rfl _) ?_
      refine wp_of_callE (run_enter2 41 (.tmp 11) (.tmp 12) _ rfl _ _ (by exact (hF 0 (he ⟨0, .data⟩ (by simp) rfl))) rfl ent_rcmp1) (rcmp_ok _ _ a 0 wz (k0.num ZA1.out) (hF 1 (he ⟨1, .data⟩ (by simp) rfl))) ?_
      rintro e w' ⟨rfl, hx⟩
      exact ⟨_, rfl, upd vs 2 _, rfl, k0.trans hx, inv_step hF (fun j v h => sd1F_mono hx j v h) (by rw [S0.out]; rfl)⟩
  case fin1 =>
    rintro D ac wf1 hD ⟨vs, rfl, k0, hF⟩
    change wpList _ _ _ [_] _ _
    have h2 : vs 2 = .int .i64 x := hF 2 (hD 2 (by decide))
    rw [h2]
    have ZA2 := Lib.hid (k0.num ZA1.out)
    have ZB2 := Lib.hid (k0.num ZB1.out)
    have ZC2 := Lib.hid (k0.num ZC1.out)
    have E2 := Lib.hid (E1.out.trans k0)
    have A_2 := Lib.hid (k0.row A_1.out)
    have B_2 := Lib.hid (k0.row B_1.out)
    have C_2 := Lib.hid (k0.row C_1.out)
    clear ZA1 ZB1 ZC1 E1 A_1 B_1 C_1
    clear hF hD h2 k0
    generalize vs = t1
    go_upto_region 2 with fail
    refine wp_region_tail (fun D ac w' => ∃ vs : Nat → Value, ac = { tmps := #[Value.agg #[Value.bool na, Value.slice p n k], Value.agg #[Value.bool nb, Value.slice q m k2], Value.agg #[Value.bool nc, Value.slice s l k3], Value.pointer (some { block := w.heap.size, off := 0 }), Value.pointer (some { block := w.heap.size + 1, off := 0 }), Value.pointer (some { block := w.heap.size + 1 + 1, off := 0 }), Value.int IntKind.i64 0, Value.int IntKind.i64 x, undef, undef, undef, t1 0, t1 1, Value.int IntKind.i64 x, vs 0, vs 1, vs 2, undef, undef, undef, undef, undef, undef, undef, undef, undef, undef, undef, undef, undef, undef, undef, undef, undef, undef, undef, undef, undef, undef, undef, undef, undef, undef, undef, undef, undef, undef], defers := [] } ∧ Ext wf1 w' ∧ ∀ j, D j → sd1F (.agg #[.bool nb, .slice q m k2]) y j (vs j) w') 3 (by kernel_rfl) (by kernel_rfl) (by kernel_rfl) ?start2 ?step2 ?fin2
    case start2 => exact ⟨fun _ => undef, rfl, Ext.drew _, fun _ h => h.elim⟩
    case step2 =>
      rintro i o D ac wz hin hio hnd he ⟨vs, rfl, k0, hF⟩
      rcases i with _ | _ | _ | i
      rotate_left 3
      · exact absurd hin (by omega)
      all_goals (obtain rfl := Option.some.inj (hio.symm.trans (by rfl)))
      · refine step_yes (wanted_of_none rfl _) ?_
        exact wp_of_run (run_load_num (.tmp 4) rfl _ rfl _ _ _ _ _ (k0.row B_2.out)) ⟨upd vs 0 _, rfl, k0, inv_step hF (fun _ _ h => h) rfl⟩
      · refine step_yes (wanted_of_none rfl _) ?_
        refine wp_of_callE (run_enter0 42 _ rfl ent_rzero) (rzero_n wz) ?_
        rintro e w' ⟨rr, rfl, hz, hx⟩
        exact ⟨_, rfl, upd vs 1 _, rfl, k0.trans hx, inv_step hF (fun j v h => sd1F_mono hx j v h) hz⟩
      · refine step_yes (wanted_of_none rfl _) ?_
        refine wp_of_callE (run_enter2 41 (.tmp 14) (.tmp 15) _ rfl _ _ (by exact (hF 0 (he ⟨0, .data⟩ (by simp) rfl))) rfl ent_rcmp1) (rcmp_ok _ _ b 0 wz (k0.num ZB2.out) (hF 1 (he ⟨1, .data⟩ (by simp) rfl))) ?_
        rintro e w' ⟨rfl, hx⟩
        exact ⟨_, rfl, upd vs 2 _, rfl, k0.trans hx, inv_step hF (fun j v h => sd1F_mono hx j v h) (by rw [S1.out]; rfl)⟩
    case fin2 =>
      rintro D ac wf2 hD ⟨vs, rfl, k0, hF⟩
      change wpList _ _ _ [_] _ _
      have h2 : vs 2 = .int .i64 y := hF 2 (hD 2 (by decide))
      rw [h2]
      have ZA3 := Lib.hid (k0.num ZA2.out)
      have ZB3 := Lib.hid (k0.num ZB2.out)
      have ZC3 := Lib.hid (k0.num ZC2.out)
      have E3 := Lib.hid (E2.out.trans k0)
      have A_3 := Lib.hid (k0.row A_2.out)
      have B_3 := Lib.hid (k0.row B_2.out)
      have C_3 := Lib.hid (k0.row C_2.out)
      clear ZA2 ZB2 ZC2 E2 A_2 B_2 C_2
      clear hF hD h2 k0
      generalize vs = t2
      go_upto_region 3 with fail
      cases hz0 : (z == 0)
      · have HZb := Lib.hid hz0
        clear hz0
        refine wp_region_tail (fun D ac w' => ∃ vs : Nat → Value, ac = { tmps := #[Value.agg #[Value.bool na, Value.slice p n k], Value.agg #[Value.bool nb, Value.slice q m k2], Value.agg #[Value.bool nc, Value.slice s l k3], Value.pointer (some { block := w.heap.size, off := 0 }), Value.pointer (some { block := w.heap.size + 1, off := 0 }), Value.pointer (some { block := w.heap.size + 1 + 1, off := 0 }), Value.int IntKind.i64 0, Value.int IntKind.i64 x, Value.int IntKind.i64 y, undef, undef, t1 0, t1 1, Value.int IntKind.i64 x, t2 0, t2 1, Value.int IntKind.i64 y, vs 0, vs 1, vs 2, vs 3, vs 4, vs 5, vs 6, vs 7, undef, undef, undef, undef, undef, undef, undef, undef, undef, undef, undef, undef, undef, undef, undef, undef, undef, undef, undef, undef, undef, undef], defers := [] } ∧ Ext wf2 w' ∧ ∀ j, D j → sd3E (.agg #[.bool nc, .slice s l k3]) z y j (vs j) w') 8 (by kernel_rfl) (by kernel_rfl) (by kernel_rfl) ?start3f ?step3f ?fin3f
        case start3f => exact ⟨fun _ => undef, rfl, Ext.drew _, fun _ h => h.elim⟩
        case step3f =>
          rintro i o D ac wz hin hio hnd he ⟨vs, rfl, k0, hF⟩
          rcases i with _ | _ | _ | _ | _ | _ | _ | _ | i
          rotate_left 8
          · exact absurd hin (by omega)
          all_goals (obtain rfl := Option.some.inj (hio.symm.trans (by rfl)))
          · refine step_yes (wanted_of_none rfl _) ?_
            exact wp_of_run (run_load_num (.tmp 5) rfl _ rfl _ _ _ _ _ (k0.row C_3.out)) ⟨upd vs 0 _, rfl, k0, inv_step hF (fun _ _ h => h) rfl⟩
          · refine step_yes (wanted_of_none rfl _) ?_
            refine wp_of_callE (run_enter0 42 _ rfl ent_rzero) (rzero_n wz) ?_
            rintro e w' ⟨rr, rfl, hz, hx⟩
            exact ⟨_, rfl, upd vs 1 _, rfl, k0.trans hx, inv_step hF (fun j v h => sd3E_mono hx j v h) hz⟩
          · refine step_yes (wanted_of_none rfl _) ?_
            refine wp_of_callE (run_enter2 41 (.tmp 17) (.tmp 18) _ rfl _ _ (by exact (hF 0 (he ⟨0, .data⟩ (by simp) rfl))) rfl ent_rcmp1) (rcmp_ok _ _ c 0 wz (k0.num ZC3.out) (hF 1 (he ⟨1, .data⟩ (by simp) rfl))) ?_
            rintro e w' ⟨rfl, hx⟩
            exact ⟨_, rfl, upd vs 2 _, rfl, k0.trans hx, inv_step hF (fun j v h => sd3E_mono hx j v h) (by rw [S2.out]; rfl)⟩
          · refine step_yes (wanted_of_none rfl _) ?_
            exact wp_of_run (run_eql_int (.tmp 19) (.const (.int .i64 0)) rfl _ _ (by exact (hF 2 (he ⟨2, .data⟩ (by simp) rfl))) rfl) ⟨upd vs 3 _, rfl, k0, inv_step hF (fun _ _ h => h) (by show Value.bool _ = _; rw [HZb.out])⟩
          · refine step_yes (wanted_of_none rfl _) ?_
            exact wp_of_run (run_mov (.tmp 20) rfl _ (by exact (hF 3 (he ⟨3, .data⟩ (by simp) rfl)))) ⟨upd vs 4 _, rfl, k0, inv_step hF (fun _ _ h => h) rfl⟩
          · refine step_yes (wanted_g (j := 4) (d := 21) rfl rfl rfl (hF 4 (he ⟨4, .guard⟩ (by simp) rfl))) ?_
            exact wp_of_run (run_mov (.tmp 8) rfl _ rfl) ⟨upd vs 5 _, rfl, k0, inv_step hF (fun _ _ h => h) rfl⟩
          · refine step_yes (wanted_g (j := 4) (d := 21) rfl rfl rfl (hF 4 (he ⟨4, .guard⟩ (by simp) rfl))) ?_
            exact wp_of_run (run_eql_int (.tmp 22) (.const (.int .i64 0)) rfl _ _ (by exact (hF 5 (he ⟨5, .data⟩ (by simp) rfl))) rfl) ⟨upd vs 6 _, rfl, k0, inv_step hF (fun _ _ h => h) rfl⟩
          · refine step_yes (wanted_of_none rfl _) ?_
            exact wp_of_run (run_pick_f (.tmp 21) (.const (.bool true)) (.tmp 23) rfl (by exact (hF 4 (he ⟨4, .data⟩ (by simp) rfl)))) ⟨upd vs 7 _, rfl, k0, inv_step hF (fun _ _ h => h) (hF 6 (he ⟨6, .data⟩ (by simp) rfl))⟩
        case fin3f =>
          rintro D ac wf3 hD ⟨vs, rfl, k0, hF⟩
          change wpList _ _ _ [] _ _
          unfold wpList
          have h7 : vs 7 = .bool (y == 0) := hF 7 (hD 7 (by decide))
          rw [h7]
          have ZA4 := Lib.hid (k0.num ZA3.out)
          have ZB4 := Lib.hid (k0.num ZB3.out)
          have ZC4 := Lib.hid (k0.num ZC3.out)
          have E4 := Lib.hid (E3.out.trans k0)
          have A_4 := Lib.hid (k0.row A_3.out)
          have B_4 := Lib.hid (k0.row B_3.out)
          have C_4 := Lib.hid (k0.row C_3.out)
          clear ZA3 ZB3 ZC3 E3 A_3 B_3 C_3
          clear hF hD h7 k0
          generalize vs = t3
          have hz1 : Hid (¬ z = 0) := by show ¬ _; have := HZb.out; simpa using this
          cases hy0 : (y == 0)
          · have HY0 : Hid (¬ y = 0) := by show ¬ _; simpa using hy0
            cases hx0 : (x == 0)
            · have HX0 : Hid (¬ x = 0) := by show ¬ _; simpa using hx0
              cases hxy : (x == y)
              · have HXY : Hid (¬ x = y) := by show ¬ _; simpa using hxy
                have Hr : Hid (rv = x * zcmp (a * a) (b * b * c)) := by show rv = _; rw [Hrv.out, if_neg (by have := HY0.out; have := hz1.out; simp_all), if_neg (by have := HX0.out; have := HXY.out; simp_all)]
                have cA__num0_4 := A_4.out.num0
                have cA__num1_4 := A_4.out.num1
                go_wp2_with fail
                clear cA__num0_4 cA__num1_4
                refine (r2times_n _ _ a a _ wf3 ZA4.out ZA4.out rfl L1.out).mono ?_
                rintro e w7 ⟨vr, rfl, hz, hx⟩
                have ZA5 := Lib.hid (hx.num ZA4.out)
                have ZB5 := Lib.hid (hx.num ZB4.out)
                have ZC5 := Lib.hid (hx.num ZC4.out)
                have E5 := Lib.hid (E4.out.trans hx)
                have A_5 := Lib.hid (hx.row A_4.out)
                have B_5 := Lib.hid (hx.row B_4.out)
                have C_5 := Lib.hid (hx.row C_4.out)
                clear ZA4 ZB4 ZC4 E4 A_4 B_4 C_4
                have ZQ := Lib.hid hz
                clear hx hz
                obtain ⟨n7, p7, l7, c7, rfl⟩ := IsN.parts ZQ.out
                obtain ⟨W5b, hW5b⟩ : ∃ W5b, W5b = (w7.alloc (.cells #[.bool false, .slice none 0 0] 25)).setRow w7.heap.size (numCells n7 p7 l7 c7) := ⟨_, rfl⟩
                have hx : Ext w7 W5b := by rw [hW5b]; exact ext_setRow (Ext.alloc _ _) (Nat.le_refl _) _
                have G_n : RowAt W5b w7.heap.size 25 (numCells n7 p7 l7 c7) := by rw [hW5b]; exact (RowAt.new _ _ _).setRow _
                have ZA6 := Lib.hid (hx.num ZA5.out)
                have ZB6 := Lib.hid (hx.num ZB5.out)
                have ZC6 := Lib.hid (hx.num ZC5.out)
                have E6 := Lib.hid (E5.out.trans hx)
                have A_6 := Lib.hid (hx.row A_5.out)
                have B_6 := Lib.hid (hx.row B_5.out)
                have C_6 := Lib.hid (hx.row C_5.out)
                have ZQ6 := Lib.hid (hx.num ZQ.out)
                clear ZA5 ZB5 ZC5 E5 A_5 B_5 C_5 ZQ
                have G_6 := Lib.hid G_n
                have HW5b := Lib.hid hW5b
                clear hx hW5b G_n
                go_wp2_with (first | (refine store_num rfl (.tmp 9) (.tmp 36) rfl w7.heap.size rfl _ _ _ _ rfl _ _ (RowAt.new' _ _ rfl) rfl ?_; rw [← HW5b.out]))
                refine wp_region_tail (fun D ac w' => ∃ vs : Nat → Value, ac = { tmps := #[Value.agg #[Value.bool na, Value.slice p n k], Value.agg #[Value.bool nb, Value.slice q m k2], Value.agg #[Value.bool nc, Value.slice s l k3], Value.pointer (some { block := w.heap.size, off := 0 }), Value.pointer (some { block := w.heap.size + 1, off := 0 }), Value.pointer (some { block := w.heap.size + 1 + 1, off := 0 }), Value.int IntKind.i64 0, Value.int IntKind.i64 x, Value.int IntKind.i64 y, Value.pointer (some { block := w7.heap.size, off := 0 }), vs 5, t1 0, t1 1, Value.int IntKind.i64 x, t2 0, t2 1, Value.int IntKind.i64 y, t3 0, t3 1, t3 2, t3 3, t3 4, t3 5, t3 6, Value.bool false, undef, Value.int IntKind.i64 x, Value.bool false, Value.bool false, Value.int IntKind.i64 x, Value.int IntKind.i64 y, Value.bool false, Value.bool false, undef, Value.agg #[Value.bool na, Value.slice p n k], Value.agg #[Value.bool na, Value.slice p n k], Value.agg #[Value.bool n7, Value.slice p7 l7 c7], vs 0, vs 1, vs 2, vs 3, vs 4, undef, undef, undef, undef, undef], defers := [] } ∧ Ext W5b w' ∧ ∀ j, D j → sd8F W5b.heap.size (.agg #[.bool nb, .slice q m k2]) (.agg #[.bool nc, .slice s l k3]) b c j (vs j) w') 6 (by kernel_rfl) (by kernel_rfl) (by kernel_rfl) ?start8 ?step8 ?fin8
                case start8 => exact ⟨fun _ => undef, rfl, Ext.drew _, fun _ h => h.elim⟩
                case step8 =>
                  rintro i o D ac wz hin hio hnd he ⟨vs, rfl, k0, hF⟩
                  rcases i with _ | _ | _ | _ | _ | _ | i
                  rotate_left 6
                  · exact absurd hin (by omega)
                  all_goals (obtain rfl := Option.some.inj (hio.symm.trans (by rfl)))
                  · refine step_yes (wanted_of_none rfl _) ?_
                    exact wp_of_run (run_load_num (.tmp 4) rfl _ rfl _ _ _ _ _ (k0.row B_6.out)) ⟨upd vs 0 _, rfl, k0, inv_step hF (fun _ _ h => h) rfl⟩
                  · refine step_yes (wanted_of_none rfl _) ?_
                    exact wp_of_run (run_load_num (.tmp 4) rfl _ rfl _ _ _ _ _ (k0.row B_6.out)) ⟨upd vs 1 _, rfl, k0, inv_step hF (fun _ _ h => h) rfl⟩
                  · refine step_yes (wanted_of_none rfl _) ?_
                    refine wp_of_callE (run_enter2 47 (.tmp 37) (.tmp 38) _ rfl _ _ (by exact (hF 0 (he ⟨0, .data⟩ (by simp) rfl))) (by exact (hF 1 (he ⟨1, .data⟩ (by simp) rfl))) ent_r2times) (r2times_n _ _ b b _ wz (k0.num ZB6.out) (k0.num ZB6.out) rfl L2.out) ?_
                    rintro e w' ⟨rr, rfl, hz, hx⟩
                    exact ⟨_, rfl, upd vs 2 _, rfl, k0.trans hx, inv_step hF (fun j v h => sd8F_mono hx j v h) hz⟩
                  · refine step_yes (wanted_of_none rfl _) ?_
                    exact wp_of_run (run_load_num (.tmp 5) rfl _ rfl _ _ _ _ _ (k0.row C_6.out)) ⟨upd vs 3 _, rfl, k0, inv_step hF (fun _ _ h => h) rfl⟩
                  · refine step_yes (wanted_of_none rfl _) ?_
                    refine wp_of_callE (run_enter2 47 (.tmp 39) (.tmp 40) _ rfl _ _ rfl (by exact (hF 3 (he ⟨3, .data⟩ (by simp) rfl))) ent_r2times) (r2times_n _ _ (b * b) c _ wz (hF 2 (he ⟨2, .data⟩ (by simp) rfl)) (k0.num ZC6.out) rfl L3.out) ?_
                    rintro e w' ⟨rr, rfl, hz, hx⟩
                    exact ⟨_, rfl, upd vs 4 _, rfl, k0.trans hx, inv_step hF (fun j v h => sd8F_mono hx j v h) hz⟩
                  · refine step_yes (wanted_of_none rfl _) ?_
                    exact wp_of_run (run_alloc_num rfl) ⟨upd vs 5 _, rfl, k0.trans (Ext.alloc _ _), inv_step hF (fun j v h => sd8F_mono (Ext.alloc _ _) j v h) (ownN_new k0 (Nat.le_refl _))⟩
                case fin8 =>
                  rintro D ac wf8 hD ⟨vs, rfl, k0, hF⟩
                  change wpList _ _ _ [_] _ _
                  obtain ⟨vr, hvr, hrr⟩ : ∃ vr, vs 4 = vr ∧ IsN (b * b * c) vr wf8 := ⟨_, rfl, hF 4 (hD 4 (by decide))⟩
                  rw [hvr]
                  obtain ⟨n8, p8, l8, c8, rfl⟩ := IsN.parts hrr
                  obtain ⟨g8, hg, hle, hrow⟩ := hF 5 (hD 5 (by decide))
                  rw [hg]
                  have ZP := Lib.hid hrr
                  have P_ := Lib.hid hrow
                  have LE := Lib.hid hle
                  have LG := Lib.hid (show w7.heap.size < W5b.heap.size from G_6.out.lt)
                  have LA := Lib.hid (show w.heap.size + 1 + 1 < W5b.heap.size from C_6.out.lt)
                  have ZA7 := Lib.hid (k0.num ZA6.out)
                  have ZB7 := Lib.hid (k0.num ZB6.out)
                  have ZC7 := Lib.hid (k0.num ZC6.out)
                  have E7 := Lib.hid (E6.out.trans k0)
                  have A_7 := Lib.hid (k0.row A_6.out)
                  have B_7 := Lib.hid (k0.row B_6.out)
                  have C_7 := Lib.hid (k0.row C_6.out)
                  have ZQ7 := Lib.hid (k0.num ZQ6.out)
                  have G_7 := Lib.hid (k0.row G_6.out)
                  clear ZA6 ZB6 ZC6 E6 A_6 B_6 C_6 ZQ6 G_6
                  clear hF hD hg hvr hrr hrow hle k0
                  generalize vs = t8
                  obtain ⟨W7c, hW7c⟩ : ∃ W7c, W7c = wf8.setRow g8 (numCells n8 p8 l8 c8) := ⟨_, rfl⟩
                  have ZA8 := Lib.hid (show ZNum W7c.heap.size W7c _ _ from by rw [hW7c, setRow_size]; exact ZA7.out.setNum P_.out _)
                  have ZB8 := Lib.hid (show ZNum W7c.heap.size W7c _ _ from by rw [hW7c, setRow_size]; exact ZB7.out.setNum P_.out _)
                  have ZC8 := Lib.hid (show ZNum W7c.heap.size W7c _ _ from by rw [hW7c, setRow_size]; exact ZC7.out.setNum P_.out _)
                  have E8 : Hid (Ext w W7c) := by rw [hW7c]; exact ext_setRow E7.out (by have := LE.out; have := LG.out; have := LA.out; omega) _
                  have A_8 := Lib.hid (show RowAt W7c (w.heap.size) _ _ from by rw [hW7c]; exact A_7.out.setRowOther _ (by have := LE.out; have := LG.out; have := LA.out; omega))
                  have B_8 := Lib.hid (show RowAt W7c (w.heap.size + 1) _ _ from by rw [hW7c]; exact B_7.out.setRowOther _ (by have := LE.out; have := LG.out; have := LA.out; omega))
                  have C_8 := Lib.hid (show RowAt W7c (w.heap.size + 1 + 1) _ _ from by rw [hW7c]; exact C_7.out.setRowOther _ (by have := LE.out; have := LG.out; have := LA.out; omega))
                  have ZQ8 := Lib.hid (show ZNum W7c.heap.size W7c _ _ from by rw [hW7c, setRow_size]; exact ZQ7.out.setNum P_.out _)
                  have G_8 := Lib.hid (show RowAt W7c w7.heap.size _ _ from by rw [hW7c]; exact G_7.out.setRowOther _ (by have := LE.out; have := LG.out; have := LA.out; omega))
                  have ZP8 := Lib.hid (show ZNum W7c.heap.size W7c _ _ from by rw [hW7c, setRow_size]; exact ZP.out.setNum P_.out _)
                  have P_8 : Hid (RowAt W7c g8 25 (numCells n8 p8 l8 c8)) := by rw [hW7c]; exact P_.out.setRow _
                  have HW7c := Lib.hid hW7c
                  clear hW7c ZA7 ZB7 ZC7 E7 A_7 B_7 C_7 ZQ7 G_7 ZP
                  have cG__num0_8 := G_8.out.num0
                  have cG__num1_8 := G_8.out.num1
                  have cP__num0_8 := P_8.out.num0
                  have cP__num1_8 := P_8.out.num1
                  go_wp2_with (first | (refine store_num rfl (.tmp 10) (.tmp 41) rfl g8 rfl _ _ _ _ rfl _ _ P_.out rfl ?_; rw [← HW7c.out]))
                  clear cG__num0_8 cG__num1_8 cP__num0_8 cP__num1_8
                  refine (rcmp_ok _ _ (a * a) (b * b * c) W7c ZQ8.out ZP8.out).mono ?_
                  rintro e w9 ⟨rfl, hx⟩
                  have ZA9 := Lib.hid (hx.num ZA8.out)
                  have ZB9 := Lib.hid (hx.num ZB8.out)
                  have ZC9 := Lib.hid (hx.num ZC8.out)
                  have E9 := Lib.hid (E8.out.trans hx)
                  have A_9 := Lib.hid (hx.row A_8.out)
                  have B_9 := Lib.hid (hx.row B_8.out)
                  have C_9 := Lib.hid (hx.row C_8.out)
                  have ZQ9 := Lib.hid (hx.num ZQ8.out)
                  have G_9 := Lib.hid (hx.row G_8.out)
                  have ZP9 := Lib.hid (hx.num ZP8.out)
                  have P_9 := Lib.hid (hx.row P_8.out)
                  clear ZA8 ZB8 ZC8 E8 A_8 B_8 C_8 ZQ8 G_8 ZP8 P_8
                  clear hx
                  have hw9 := Hr.out
                  have hwr : wrap64 (x * zcmp (a * a) (b * b * c)) = x * zcmp (a * a) (b * b * c) := by rcases SX.out with h | h | h <;> rcases zc3 (a * a) (b * b * c) with h' | h' | h' <;> rw [h, h'] <;> unfold wrap64 <;> omega
                  clear hw9
                  go_wp2
                  go_ret
                  exact ⟨by rw [Hr.out]; exact congrArg (fun t => Ending.returned (Value.int .i64 t)) hwr, E9.out⟩
              · have HXY : Hid (x = y) := by show _ = _; simpa using hxy
                have Hr : Hid (rv = y) := by show rv = _; rw [Hrv.out, if_neg (by have := HY0.out; have := hz1.out; simp_all), if_pos (Or.inr HXY.out)]
                have hyy := hxy
                clear hyy
                go_wp2
                go_ret
                exact ⟨by rw [Hr.out]; rfl, E4.out⟩
            · have HX0 : Hid (x = 0) := by show _ = _; simpa using hx0
              have Hr : Hid (rv = y) := by show rv = _; rw [Hrv.out, if_neg (by have := HY0.out; have := hz1.out; simp_all), if_pos (Or.inl HX0.out)]
              go_wp2
              go_ret
              exact ⟨by rw [Hr.out]; rfl, E4.out⟩
          · have HY0 : Hid (y = 0) := by show _ = _; simpa using hy0
            have Hr : Hid (rv = x) := by show rv = _; rw [Hrv.out, if_pos (Or.inl HY0.out)]
            go_wp2
            go_ret
            exact ⟨by rw [Hr.out]; rfl, E4.out⟩
      · have HZb := Lib.hid hz0
        clear hz0
        refine wp_region_tail (fun D ac w' => ∃ vs : Nat → Value, ac = { tmps := #[Value.agg #[Value.bool na, Value.slice p n k], Value.agg #[Value.bool nb, Value.slice q m k2], Value.agg #[Value.bool nc, Value.slice s l k3], Value.pointer (some { block := w.heap.size, off := 0 }), Value.pointer (some { block := w.heap.size + 1, off := 0 }), Value.pointer (some { block := w.heap.size + 1 + 1, off := 0 }), Value.int IntKind.i64 0, Value.int IntKind.i64 x, Value.int IntKind.i64 y, undef, undef, t1 0, t1 1, Value.int IntKind.i64 x, t2 0, t2 1, Value.int IntKind.i64 y, vs 0, vs 1, vs 2, vs 3, vs 4, vs 5, vs 6, vs 7, undef, undef, undef, undef, undef, undef, undef, undef, undef, undef, undef, undef, undef, undef, undef, undef, undef, undef, undef, undef, undef, undef], defers := [] } ∧ Ext wf2 w' ∧ ∀ j, D j → sd3T (.agg #[.bool nc, .slice s l k3]) z y j (vs j) w') 8 (by kernel_rfl) (by kernel_rfl) (by kernel_rfl) ?start3t ?step3t ?fin3t
        case start3t => exact ⟨fun _ => undef, rfl, Ext.drew _, fun _ h => h.elim⟩
        case step3t =>
          rintro i o D ac wz hin hio hnd he ⟨vs, rfl, k0, hF⟩
          rcases i with _ | _ | _ | _ | _ | _ | _ | _ | i
          rotate_left 8
          · exact absurd hin (by omega)
          all_goals (obtain rfl := Option.some.inj (hio.symm.trans (by rfl)))
          · refine step_yes (wanted_of_none rfl _) ?_
            exact wp_of_run (run_load_num (.tmp 5) rfl _ rfl _ _ _ _ _ (k0.row C_3.out)) ⟨upd vs 0 _, rfl, k0, inv_step hF (fun _ _ h => h) rfl⟩
          · refine step_yes (wanted_of_none rfl _) ?_
            refine wp_of_callE (run_enter0 42 _ rfl ent_rzero) (rzero_n wz) ?_
            rintro e w' ⟨rr, rfl, hz, hx⟩
            exact ⟨_, rfl, upd vs 1 _, rfl, k0.trans hx, inv_step hF (fun j v h => sd3T_mono hx j v h) hz⟩
          · refine step_yes (wanted_of_none rfl _) ?_
            refine wp_of_callE (run_enter2 41 (.tmp 17) (.tmp 18) _ rfl _ _ (by exact (hF 0 (he ⟨0, .data⟩ (by simp) rfl))) rfl ent_rcmp1) (rcmp_ok _ _ c 0 wz (k0.num ZC3.out) (hF 1 (he ⟨1, .data⟩ (by simp) rfl))) ?_
            rintro e w' ⟨rfl, hx⟩
            exact ⟨_, rfl, upd vs 2 _, rfl, k0.trans hx, inv_step hF (fun j v h => sd3T_mono hx j v h) (by rw [S2.out]; rfl)⟩
          · refine step_yes (wanted_of_none rfl _) ?_
            exact wp_of_run (run_eql_int (.tmp 19) (.const (.int .i64 0)) rfl _ _ (by exact (hF 2 (he ⟨2, .data⟩ (by simp) rfl))) rfl) ⟨upd vs 3 _, rfl, k0, inv_step hF (fun _ _ h => h) (by show Value.bool _ = _; rw [HZb.out])⟩
          · refine step_yes (wanted_of_none rfl _) ?_
            exact wp_of_run (run_mov (.tmp 20) rfl _ (by exact (hF 3 (he ⟨3, .data⟩ (by simp) rfl)))) ⟨upd vs 4 _, rfl, k0, inv_step hF (fun _ _ h => h) rfl⟩
          · refine step_no (wanted_n (j := 4) (d := 21) rfl rfl rfl (hF 4 (he ⟨4, .guard⟩ (by simp) rfl)) (by decide)) ?_
            exact ⟨upd vs 5 undef, rfl, k0, inv_step hF (fun _ _ h => h) rfl⟩
          · refine step_no (wanted_n (j := 4) (d := 21) rfl rfl rfl (hF 4 (he ⟨4, .guard⟩ (by simp) rfl)) (by decide)) ?_
            exact ⟨upd vs 6 undef, rfl, k0, inv_step hF (fun _ _ h => h) rfl⟩
          · refine step_yes (wanted_of_none rfl _) ?_
            exact wp_of_run (run_pick_t (.tmp 21) (.const (.bool true)) (.tmp 23) rfl (by exact (hF 4 (he ⟨4, .data⟩ (by simp) rfl)))) ⟨upd vs 7 _, rfl, k0, inv_step hF (fun _ _ h => h) rfl⟩
        case fin3t =>
          rintro D ac wf3 hD ⟨vs, rfl, k0, hF⟩
          change wpList _ _ _ [] _ _
          unfold wpList
          have h7 : vs 7 = .bool true := hF 7 (hD 7 (by decide))
          rw [h7]
          have ZA4 := Lib.hid (k0.num ZA3.out)
          have ZB4 := Lib.hid (k0.num ZB3.out)
          have ZC4 := Lib.hid (k0.num ZC3.out)
          have E4 := Lib.hid (E3.out.trans k0)
          have A_4 := Lib.hid (k0.row A_3.out)
          have B_4 := Lib.hid (k0.row B_3.out)
          have C_4 := Lib.hid (k0.row C_3.out)
          clear ZA3 ZB3 ZC3 E3 A_3 B_3 C_3
          clear hF hD h7 k0
          generalize vs = t3
          have HZ0 : Hid (z = 0) := by show _ = _; have := HZb.out; simpa using this
          have Hr : Hid (rv = x) := by show rv = _; rw [Hrv.out, if_pos (Or.inr HZ0.out)]
          go_wp2
          go_ret
          exact ⟨by rw [Hr.out]; rfl, E4.out⟩
end Go.Proofs.YtegjcikofmphjaaGreatDoor
/- Layer 2: Sign at numbers that are not all right and short. -/
namespace Go.Proofs.YtegjcikofmphjaaGreatDoor
open Go Go.RowKit Go.Shelf
set_option maxRecDepth 100000 in
set_option maxHeartbeats 4000000 in
theorem sign_no (na nb nc : Bool) (p q s : Option Addr) (n k m k2 l k3 : Nat) (da db dc : List Nat) (w : World) (ha : U32s w.heap.size w (.slice p n k) da) (hb : U32s w.heap.size w (.slice q m k2) db) (hc : U32s w.heap.size w (.slice s l k3) dc)
    (hno : ((rightB na da && decide (n ≤ 20)) && (rightB nb db && decide (m ≤ 20)) && (rightB nc dc && decide (l ≤ 20)) && !nc) = false) :
    Calls Tryz.prog 21 #[.agg #[.bool na, .slice p n k], .agg #[.bool nb, .slice q m k2], .agg #[.bool nc, .slice s l k3]] w fun e w' => e = .returned (.int .i64 0) ∧ Ext w w' := by
  have ZA := Lib.hid ha
  have ZB := Lib.hid hb
  have ZC := Lib.hid hc
  have SA : Hid (∀ W, U32s W.heap.size W (.slice p n k) da → Calls Tryz.prog 38 #[.agg #[.bool na, .slice p n k], .int .i64 20] W fun e w' => e = .returned (.bool (rightB na da && decide (n ≤ 20))) ∧ Ext W w') := fun W h => short_calls na p n k da 20 W h
  have SB : Hid (∀ W, U32s W.heap.size W (.slice q m k2) db → Calls Tryz.prog 38 #[.agg #[.bool nb, .slice q m k2], .int .i64 20] W fun e w' => e = .returned (.bool (rightB nb db && decide (m ≤ 20))) ∧ Ext W w') := fun W h => short_calls nb q m k2 db 20 W h
  have SC : Hid (∀ W, U32s W.heap.size W (.slice s l k3) dc → Calls Tryz.prog 38 #[.agg #[.bool nc, .slice s l k3], .int .i64 20] W fun e w' => e = .returned (.bool (rightB nc dc && decide (l ≤ 20))) ∧ Ext W w') := fun W h => short_calls nc s l k3 dc 20 W h
  have E := Lib.hid (Ext.refl w)
  generalize (rightB na da && decide (n ≤ 20)) = fa at *
  generalize (rightB nb db && decide (m ≤ 20)) = fb at *
  generalize (rightB nc dc && decide (l ≤ 20)) = fc at *
  clear ha hb hc
  obtain ⟨W0a, hW0a⟩ : ∃ W0a, W0a = (((w.alloc (.cells #[.bool na, .slice p n k] 25)).alloc (.cells #[.bool nb, .slice q m k2] 25)).alloc (.cells #[.bool nc, .slice s l k3] 25)) := ⟨_, rfl⟩
  have hx : Ext w W0a := by rw [hW0a]; exact (((Ext.alloc _ _).trans (Ext.alloc _ _)).trans (Ext.alloc _ _))
  have A_n : RowAt W0a (w.heap.size) 25 (numCells na p n k) := by rw [hW0a]; exact (((RowAt.new' _ _ (by simp)).alloc _).alloc _)
  have B_n : RowAt W0a (w.heap.size + 1) 25 (numCells nb q m k2) := by rw [hW0a]; exact ((RowAt.new' _ _ (by simp)).alloc _)
  have C_n : RowAt W0a (w.heap.size + 1 + 1) 25 (numCells nc s l k3) := by rw [hW0a]; exact (RowAt.new' _ _ (by simp))
  have ZA1 := Lib.hid (hx.u32s ZA.out)
  have ZB1 := Lib.hid (hx.u32s ZB.out)
  have ZC1 := Lib.hid (hx.u32s ZC.out)
  have E1 := Lib.hid (E.out.trans hx)
  clear ZA ZB ZC E
  have A_1 := Lib.hid A_n
  have B_1 := Lib.hid B_n
  have C_1 := Lib.hid C_n
  have HW0a := Lib.hid hW0a
  clear hx hW0a A_n B_n C_n
  go_enter Tryz.func21, Tryz.ntmps21
  go_wp2_with fail
  rw [← HW0a.out]
  refine (SA.out W0a ZA1.out).mono ?_
  rintro e w2_ ⟨rfl, hx⟩
  have ZA2 := Lib.hid (hx.u32s ZA1.out)
  have ZB2 := Lib.hid (hx.u32s ZB1.out)
  have ZC2 := Lib.hid (hx.u32s ZC1.out)
  have E2 := Lib.hid (E1.out.trans hx)
  have A_2 := Lib.hid (hx.row A_1.out)
  have B_2 := Lib.hid (hx.row B_1.out)
  have C_2 := Lib.hid (hx.row C_1.out)
  clear ZA1 ZB1 ZC1 E1 A_1 B_1 C_1
  clear hx
  cases fa
  · clear hno
    go_wp2
    go_ret
    exact ⟨rfl, E2.out⟩
  · skip
    have cB__num0_2 := B_2.out.num0
    have cB__num1_2 := B_2.out.num1
    go_wp2_with fail
    refine (SB.out w2_ ZB2.out).mono ?_
    rintro e w3_ ⟨rfl, hx⟩
    clear cB__num0_2 cB__num1_2
    have ZA3 := Lib.hid (hx.u32s ZA2.out)
    have ZB3 := Lib.hid (hx.u32s ZB2.out)
    have ZC3 := Lib.hid (hx.u32s ZC2.out)
    have E3 := Lib.hid (E2.out.trans hx)
    have A_3 := Lib.hid (hx.row A_2.out)
    have B_3 := Lib.hid (hx.row B_2.out)
    have C_3 := Lib.hid (hx.row C_2.out)
    clear ZA2 ZB2 ZC2 E2 A_2 B_2 C_2
    clear hx
    cases fb
    · clear hno
      go_wp2
      go_ret
      exact ⟨rfl, E3.out⟩
    · skip
      have cC__num0_3 := C_3.out.num0
      have cC__num1_3 := C_3.out.num1
      go_wp2_with fail
      refine (SC.out w3_ ZC3.out).mono ?_
      rintro e w4_ ⟨rfl, hx⟩
      clear cC__num0_3 cC__num1_3
      have ZA4 := Lib.hid (hx.u32s ZA3.out)
      have ZB4 := Lib.hid (hx.u32s ZB3.out)
      have ZC4 := Lib.hid (hx.u32s ZC3.out)
      have E4 := Lib.hid (E3.out.trans hx)
      have A_4 := Lib.hid (hx.row A_3.out)
      have B_4 := Lib.hid (hx.row B_3.out)
      have C_4 := Lib.hid (hx.row C_3.out)
      clear ZA3 ZB3 ZC3 E3 A_3 B_3 C_3
      clear hx
      cases fc
      · clear hno
        go_wp2
        go_ret
        exact ⟨rfl, E4.out⟩
      · have hn : nc = true := by simpa using hno
        subst hn
        clear hno
        have cC__num0_4 := C_4.out.num0
        have cC__num1_4 := C_4.out.num1
        go_wp2
        go_ret
        exact ⟨rfl, E4.out⟩
end Go.Proofs.YtegjcikofmphjaaGreatDoor
/- The reference of layer 2: Sign; both at any numbers. -/
namespace Go.Proofs.YtegjcikofmphjaaGreatDoor
open Go Go.RowKit Go.Shelf
def sgC (na nb nc : Bool) (da db dc : List Nat) (n m l : Nat) : Bool := (rightB na da && decide (n ≤ 20)) && (rightB nb db && decide (m ≤ 20)) && (rightB nc dc && decide (l ≤ 20)) && !nc
set_option maxRecDepth 100000 in
set_option maxHeartbeats 16000000 in
theorem r2sign_n (na nb nc : Bool) (p q s : Option Addr) (n k m k2 l k3 : Nat) (da db dc : List Nat) (w : World) (ha : U32s w.heap.size w (.slice p n k) da) (hb : U32s w.heap.size w (.slice q m k2) db) (hc : U32s w.heap.size w (.slice s l k3) dc) (rr : Int)
    (hno : sgC na nb nc da db dc n m l = false → rr = 0)
    (hyes : sgC na nb nc da db dc n m l = true → ∃ a b c : Int, (IsN a (.agg #[.bool na, .slice p n k]) w ∧ IsN b (.agg #[.bool nb, .slice q m k2]) w ∧ IsN c (.agg #[.bool nc, .slice s l k3]) w) ∧ ((a * a).natAbs < B32 ^ 64 ∧ (b * b).natAbs < B32 ^ 64 ∧ (b * b * c).natAbs < B32 ^ 64) ∧ RM.sideZ a b c = rr) :
    Calls Tryz.prog 22 #[.agg #[.bool na, .slice p n k], .agg #[.bool nb, .slice q m k2], .agg #[.bool nc, .slice s l k3]] w fun e w' => e = .returned (.int .i64 rr) ∧ Ext w w' := by
  have ZA := Lib.hid ha
  have ZB := Lib.hid hb
  have ZC := Lib.hid hc
  have RA : Hid (∀ W, U32s W.heap.size W (.slice p n k) da → Calls Tryz.prog 40 #[.agg #[.bool na, .slice p n k]] W fun e w' => e = .returned (.bool (rightB na da)) ∧ Ext W w') := fun W h => rright_calls na _ da W h
  have RB : Hid (∀ W, U32s W.heap.size W (.slice q m k2) db → Calls Tryz.prog 40 #[.agg #[.bool nb, .slice q m k2]] W fun e w' => e = .returned (.bool (rightB nb db)) ∧ Ext W w') := fun W h => rright_calls nb _ db W h
  have RC : Hid (∀ W, U32s W.heap.size W (.slice s l k3) dc → Calls Tryz.prog 40 #[.agg #[.bool nc, .slice s l k3]] W fun e w' => e = .returned (.bool (rightB nc dc)) ∧ Ext W w') := fun W h => rright_calls nc _ dc W h
  have E := Lib.hid (Ext.refl w)
  unfold sgC at hno hyes
  generalize rightB na da = fa at *
  generalize rightB nb db = fb at *
  generalize rightB nc dc = fc at *
  have HNO := Lib.hid hno
  have HYES := Lib.hid hyes
  clear ha hb hc hno hyes
  obtain ⟨W0a, hW0a⟩ : ∃ W0a, W0a = ((((w.alloc (.cells #[.bool na, .slice p n k] 25)).alloc (.cells #[.bool nb, .slice q m k2] 25)).alloc (.cells #[.bool nc, .slice s l k3] 25)).alloc (.cells #[.bool na, .slice p n k, .bool nb, .slice q m k2, .bool nc, .slice s l k3] 40)) := ⟨_, rfl⟩
  have hx : Ext w W0a := by rw [hW0a]; exact ((((Ext.alloc _ _).trans (Ext.alloc _ _)).trans (Ext.alloc _ _)).trans (Ext.alloc _ _))
  have A_n : RowAt W0a (w.heap.size) 25 (numCells na p n k) := by rw [hW0a]; exact ((((RowAt.new' _ _ (by simp)).alloc _).alloc _).alloc _)
  have B_n : RowAt W0a (w.heap.size + 1) 25 (numCells nb q m k2) := by rw [hW0a]; exact (((RowAt.new' _ _ (by simp)).alloc _).alloc _)
  have C_n : RowAt W0a (w.heap.size + 1 + 1) 25 (numCells nc s l k3) := by rw [hW0a]; exact ((RowAt.new' _ _ (by simp)).alloc _)
  have L_n : RowAt W0a (w.heap.size + 1 + 1 + 1) 40 #[.bool na, .slice p n k, .bool nb, .slice q m k2, .bool nc, .slice s l k3] := by rw [hW0a]; exact (RowAt.new' _ _ (by simp))
  have ZA1 := Lib.hid (hx.u32s ZA.out)
  have ZB1 := Lib.hid (hx.u32s ZB.out)
  have ZC1 := Lib.hid (hx.u32s ZC.out)
  have E1 := Lib.hid (E.out.trans hx)
  clear ZA ZB ZC E
  have A_1 := Lib.hid A_n
  have B_1 := Lib.hid B_n
  have C_1 := Lib.hid C_n
  have L_1 := Lib.hid L_n
  have HW0a := Lib.hid hW0a
  clear hx hW0a A_n B_n C_n L_n
  go_enter Tryz.func22, Tryz.ntmps22
  go_wp2_with fail
  rw [← HW0a.out]
  refine wp_loop_rounds 4 ?_
  rw [rounds_succ]
  have cl0 := (show (W0a).cell? ⟨w.heap.size + 1 + 1 + 1, 0, none⟩ = some (.bool na) from L_1.out.cell 0)
  have cl1 := (show (W0a).cell? ⟨w.heap.size + 1 + 1 + 1, 1, none⟩ = some (.slice p n k) from L_1.out.cell 1)
  go_wp2_with fail
  refine (RA.out W0a ZA1.out).mono ?_
  rintro e w2_ ⟨rfl, hx⟩
  have ZA2 := Lib.hid (hx.u32s ZA1.out)
  have ZB2 := Lib.hid (hx.u32s ZB1.out)
  have ZC2 := Lib.hid (hx.u32s ZC1.out)
  have E2 := Lib.hid (E1.out.trans hx)
  have A_2 := Lib.hid (hx.row A_1.out)
  have B_2 := Lib.hid (hx.row B_1.out)
  have C_2 := Lib.hid (hx.row C_1.out)
  have L_2 := Lib.hid (hx.row L_1.out)
  clear ZA1 ZB1 ZC1 E1 A_1 B_1 C_1 L_1
  clear hx
  clear cl0 cl1
  cases fa
  · have Hr : Hid (rr = 0) := HNO.out (by simp)
    go_wp2
    go_ret
    exact ⟨by rw [Hr.out]; rfl, E2.out⟩
  · skip
    by_cases h0 : n ≤ 20
    · have g0 : (n : Int) ≤ 20 := by omega
      have D0 := Lib.hid h0
      clear h0
      have cl0 := (show (w2_).cell? ⟨w.heap.size + 1 + 1 + 1, 0, none⟩ = some (.bool na) from L_2.out.cell 0)
      have cl1 := (show (w2_).cell? ⟨w.heap.size + 1 + 1 + 1, 1, none⟩ = some (.slice p n k) from L_2.out.cell 1)
      go_wp2_with fail
      clear cl0 cl1 g0
      rw [rounds_succ]
      have cl2 := (show (w2_).cell? ⟨w.heap.size + 1 + 1 + 1, 2, none⟩ = some (.bool nb) from L_2.out.cell 2)
      have cl3 := (show (w2_).cell? ⟨w.heap.size + 1 + 1 + 1, 3, none⟩ = some (.slice q m k2) from L_2.out.cell 3)
      go_wp2_with fail
      refine (RB.out w2_ ZB2.out).mono ?_
      rintro e w3_ ⟨rfl, hx⟩
      have ZA3 := Lib.hid (hx.u32s ZA2.out)
      have ZB3 := Lib.hid (hx.u32s ZB2.out)
      have ZC3 := Lib.hid (hx.u32s ZC2.out)
      have E3 := Lib.hid (E2.out.trans hx)
      have A_3 := Lib.hid (hx.row A_2.out)
      have B_3 := Lib.hid (hx.row B_2.out)
      have C_3 := Lib.hid (hx.row C_2.out)
      have L_3 := Lib.hid (hx.row L_2.out)
      clear ZA2 ZB2 ZC2 E2 A_2 B_2 C_2 L_2
      clear hx
      clear cl2 cl3
      cases fb
      · have Hr : Hid (rr = 0) := HNO.out (by simp)
        go_wp2
        go_ret
        exact ⟨by rw [Hr.out]; rfl, E3.out⟩
      · skip
        by_cases h1 : m ≤ 20
        · have g1 : (m : Int) ≤ 20 := by omega
          have D1 := Lib.hid h1
          clear h1
          have cl2 := (show (w3_).cell? ⟨w.heap.size + 1 + 1 + 1, 2, none⟩ = some (.bool nb) from L_3.out.cell 2)
          have cl3 := (show (w3_).cell? ⟨w.heap.size + 1 + 1 + 1, 3, none⟩ = some (.slice q m k2) from L_3.out.cell 3)
          go_wp2_with fail
          clear cl2 cl3 g1
          rw [rounds_succ]
          have cl4 := (show (w3_).cell? ⟨w.heap.size + 1 + 1 + 1, 4, none⟩ = some (.bool nc) from L_3.out.cell 4)
          have cl5 := (show (w3_).cell? ⟨w.heap.size + 1 + 1 + 1, 5, none⟩ = some (.slice s l k3) from L_3.out.cell 5)
          go_wp2_with fail
          refine (RC.out w3_ ZC3.out).mono ?_
          rintro e w4_ ⟨rfl, hx⟩
          have ZA4 := Lib.hid (hx.u32s ZA3.out)
          have ZB4 := Lib.hid (hx.u32s ZB3.out)
          have ZC4 := Lib.hid (hx.u32s ZC3.out)
          have E4 := Lib.hid (E3.out.trans hx)
          have A_4 := Lib.hid (hx.row A_3.out)
          have B_4 := Lib.hid (hx.row B_3.out)
          have C_4 := Lib.hid (hx.row C_3.out)
          have L_4 := Lib.hid (hx.row L_3.out)
          clear ZA3 ZB3 ZC3 E3 A_3 B_3 C_3 L_3
          clear hx
          clear cl4 cl5
          cases fc
          · have Hr : Hid (rr = 0) := HNO.out (by simp)
            go_wp2
            go_ret
            exact ⟨by rw [Hr.out]; rfl, E4.out⟩
          · skip
            by_cases h2 : l ≤ 20
            · have g2 : (l : Int) ≤ 20 := by omega
              have D2 := Lib.hid h2
              clear h2
              have cl4 := (show (w4_).cell? ⟨w.heap.size + 1 + 1 + 1, 4, none⟩ = some (.bool nc) from L_4.out.cell 4)
              have cl5 := (show (w4_).cell? ⟨w.heap.size + 1 + 1 + 1, 5, none⟩ = some (.slice s l k3) from L_4.out.cell 5)
              go_wp2_with fail
              clear cl4 cl5 g2
              rw [rounds_succ]
              cases nc
              · have hy := HYES.out (by simp [D0.out, D1.out, D2.out])
                obtain ⟨a, b, c, ⟨ia, ib, ic⟩, ⟨l1, l2, l3⟩, hs⟩ := hy
                have IA := Lib.hid ((E4.out).num ia)
                have IB := Lib.hid ((E4.out).num ib)
                have IC := Lib.hid ((E4.out).num ic)
                have L1 := Lib.hid l1
                have L2 := Lib.hid l2
                have L3 := Lib.hid l3
                have HS := Lib.hid hs
                clear ia ib ic l1 l2 l3 hs
                have cA__num0_4 := A_4.out.num0
                have cA__num1_4 := A_4.out.num1
                have cB__num0_4 := B_4.out.num0
                have cB__num1_4 := B_4.out.num1
                have cC__num0_4 := C_4.out.num0
                have cC__num1_4 := C_4.out.num1
                go_wp2_with fail
                clear cA__num0_4 cA__num1_4 cB__num0_4 cB__num1_4 cC__num0_4 cC__num1_4
                refine (r2side_n _ _ _ a b c w4_ IA.out IB.out IC.out L1.out L2.out L3.out).mono ?_
                rintro e wz ⟨rfl, hx⟩
                rw [HS.out]
                have ZA5 := Lib.hid (hx.u32s ZA4.out)
                have ZB5 := Lib.hid (hx.u32s ZB4.out)
                have ZC5 := Lib.hid (hx.u32s ZC4.out)
                have E5 := Lib.hid (E4.out.trans hx)
                have A_5 := Lib.hid (hx.row A_4.out)
                have B_5 := Lib.hid (hx.row B_4.out)
                have C_5 := Lib.hid (hx.row C_4.out)
                have L_5 := Lib.hid (hx.row L_4.out)
                clear ZA4 ZB4 ZC4 E4 A_4 B_4 C_4 L_4
                clear hx
                go_wp2
                go_ret
                exact ⟨rfl, E5.out⟩
              · have Hr : Hid (rr = 0) := HNO.out (by simp)
                have cC__num0_4 := C_4.out.num0
                have cC__num1_4 := C_4.out.num1
                go_wp2
                go_ret
                exact ⟨by rw [Hr.out]; rfl, E4.out⟩
            · have Hr : Hid (rr = 0) := HNO.out (by simp [h2])
              have g2 : 20 < (l : Int) := by omega
              clear h2
              have cl4 := (show (w4_).cell? ⟨w.heap.size + 1 + 1 + 1, 4, none⟩ = some (.bool nc) from L_4.out.cell 4)
              have cl5 := (show (w4_).cell? ⟨w.heap.size + 1 + 1 + 1, 5, none⟩ = some (.slice s l k3) from L_4.out.cell 5)
              go_wp2
              go_ret
              exact ⟨by rw [Hr.out]; rfl, E4.out⟩
        · have Hr : Hid (rr = 0) := HNO.out (by simp [h1])
          have g1 : 20 < (m : Int) := by omega
          clear h1
          have cl2 := (show (w3_).cell? ⟨w.heap.size + 1 + 1 + 1, 2, none⟩ = some (.bool nb) from L_3.out.cell 2)
          have cl3 := (show (w3_).cell? ⟨w.heap.size + 1 + 1 + 1, 3, none⟩ = some (.slice q m k2) from L_3.out.cell 3)
          go_wp2
          go_ret
          exact ⟨by rw [Hr.out]; rfl, E3.out⟩
    · have Hr : Hid (rr = 0) := HNO.out (by simp [h0])
      have g0 : 20 < (n : Int) := by omega
      clear h0
      have cl0 := (show (w2_).cell? ⟨w.heap.size + 1 + 1 + 1, 0, none⟩ = some (.bool na) from L_2.out.cell 0)
      have cl1 := (show (w2_).cell? ⟨w.heap.size + 1 + 1 + 1, 1, none⟩ = some (.slice p n k) from L_2.out.cell 1)
      go_wp2
      go_ret
      exact ⟨by rw [Hr.out]; rfl, E2.out⟩
end Go.Proofs.YtegjcikofmphjaaGreatDoor
/- Layer 2's laws: short. -/
namespace Go.Proofs.YtegjcikofmphjaaGreatDoor
open Go Go.RowKit Go.Shelf
theorem cut_u32n {B : Nat} {w : World} {p : Option Addr} {n c k : Nat} {ds : List Nat} (h : U32s B w (.slice p n c) ds) : U32s B w (.slice p (min n k) c) (ds.take k) := by
  obtain ⟨p', cap, e, hl, hc⟩ := h
  cases e
  have hlen : (ds.take k).length = min ds.length k := by rw [List.length_take, Nat.min_comm]
  refine ⟨p, c, by rw [hlen], by omega, fun h0 => ?_⟩
  obtain ⟨b, off, h1, h2, h3⟩ := hc (by omega)
  refine ⟨b, off, h1, h2, fun j hj => ?_⟩
  rw [h3 j (by omega), List.getElem?_take_of_lt (by omega)]
set_option maxRecDepth 100000 in
set_option maxHeartbeats 4000000 in
theorem lshort_calls (neg : Bool) (p : Option Addr) (n c k : Nat) (ds : List Nat) (w : World) (hu : U32s w.heap.size w (.slice p n c) ds) (hc : n ≤ c) (hk : k ≤ 64) :
    Calls Tryz.prog 11 #[.agg #[.bool neg, .slice p n c], .int .i64 (k : Int)] w fun e w' => e = .returned (.agg #[.bool neg, .slice p (min n k) c]) ∧ Ext w w' := by
  have hmm : min (n : Int) (k : Int) = ((min n k : Nat) : Int) := by omega
  have hmc : ((min n k : Nat) : Int) ≤ (c : Int) := by omega
  clear hu hc hk
  generalize min n k = mk at *
  go_enter Tryz.func11, Tryz.ntmps11
  go_wp2_with fail
  exact ret_num1 rfl (w.heap.size + 1) rfl _ _ _ _ _ (RowAt.new' _ _ (by simp)) ⟨rfl, (Ext.alloc _ _).trans (Ext.alloc _ _)⟩
theorem lshort_any {W : World} {neg : Bool} {p : Option Addr} {n c k : Nat} {ds : List Nat} (h : ANum W (.agg #[.bool neg, .slice p n c]) neg ds) : ANum W (.agg #[.bool neg, .slice p (min n k) c]) neg (ds.take k) := by
  obtain ⟨p', n', c', e, hu⟩ := h.shape
  cases e
  exact ⟨⟨p, _, c, rfl, cut_u32n hu⟩, h.dig.take _⟩
theorem sgC_yes {W : World} {va : Value} {na : Bool} {da : List Nat} {p : Option Addr} {n c : Nat} (ha : ANum W va na da) (e : va = .agg #[.bool na, .slice p n c]) (h : (rightB na da && decide (n ≤ 20)) = true) : ZNum W.heap.size W va (madeZ na (val da)) ∧ fitK 20 (madeZ na (val da)) = true := by
  simp only [Bool.and_eq_true, decide_eq_true_eq] at h
  obtain ⟨p', n', c', e', hu⟩ := ha.shape
  rw [e] at e'
  cases e'
  obtain ⟨p'', c'', e'', -, -⟩ := id hu
  cases e''
  refine ⟨ha.right h.1, ?_⟩
  obtain ⟨h1, -, -⟩ := right_digs h.1 ha.dig
  unfold fitK
  rw [madeZ_abs, ← h1]
  simpa using h.2
theorem sign_any {w : World} {va vb vc : Value} {na nb nc : Bool} {da db dc : List Nat} (ha : ANum w va na da) (hb : ANum w vb nb db) (hc : ANum w vc nc dc) :
    ∃ r : Int, ∀ W, Ext w W → (Calls Tryz.prog 21 #[va, vb, vc] W fun e w' => e = .returned (.int .i64 r) ∧ Ext W w') ∧ (Calls Tryz.prog 22 #[va, vb, vc] W fun e w' => e = .returned (.int .i64 r) ∧ Ext W w') := by
  obtain ⟨p, n, k, rfl, hu⟩ := ha.shape
  obtain ⟨q, m, k2, rfl, hv⟩ := hb.shape
  obtain ⟨s, l, k3, rfl, ht⟩ := hc.shape
  by_cases h : sgC na nb nc da db dc n m l = true
  · have h' := h
    unfold sgC at h'
    rw [Bool.and_eq_true, Bool.and_eq_true, Bool.and_eq_true] at h'
    obtain ⟨⟨⟨h1, h2⟩, h3⟩, h4⟩ := h'
    have h0 : 0 ≤ madeZ nc (val dc) := by
      cases nc
      · simp [madeZ]
      · exact absurd h4 (by decide)
    refine ⟨RM.sideZ (madeZ na (val da)) (madeZ nb (val db)) (madeZ nc (val dc)), fun W hx => ?_⟩
    have sa := sgC_yes (ha.ext hx) rfl h1
    have sb := sgC_yes (hb.ext hx) rfl h2
    have sc := sgC_yes (hc.ext hx) rfl h3
    refine ⟨sign_ok _ _ _ _ _ _ W sa.1 sb.1 sc.1 h0 sa.2 sb.2 sc.2, ?_⟩
    refine r2sign_n na nb nc p q s n k m k2 l k3 da db dc W (hx.u32s hu) (hx.u32s hv) (hx.u32s ht) _ (fun e => absurd (h.symm.trans e) (by decide)) (fun _ => ⟨_, _, _, ⟨sa.1, sb.1, sc.1⟩, ⟨?_, ?_, ?_⟩, rfl⟩)
    · exact lim_64 (lim_mulB (fitK_lim sa.2) (fitK_lim sa.2)) (by decide)
    · exact lim_64 (lim_mulB (fitK_lim sb.2) (fitK_lim sb.2)) (by decide)
    · exact lim_64 (lim_mulB (lim_mulB (fitK_lim sb.2) (fitK_lim sb.2)) (fitK_lim sc.2)) (by decide)
  · have h : sgC na nb nc da db dc n m l = false := by simpa using h
    refine ⟨0, fun W hx => ⟨sign_no na nb nc p q s n k m k2 l k3 da db dc W (hx.u32s hu) (hx.u32s hv) (hx.u32s ht) h, ?_⟩⟩
    exact r2sign_n na nb nc p q s n k m k2 l k3 da db dc W (hx.u32s hu) (hx.u32s hv) (hx.u32s ht) 0 (fun _ => rfl) (fun e => absurd (h.symm.trans e) (by decide))
end Go.Proofs.YtegjcikofmphjaaGreatDoor
/- The law RootSigns. -/
namespace Go.Proofs.YtegjcikofmphjaaGreatDoor
open Go Go.RowKit Go.Shelf
theorem ent_sign (args : Array Value) (w : World) : (callFunc 21 args).run Tryz.prog w = .ok (.enter 21 args) w := enters_of Tryz.func21 (by kernel_rfl) rfl args w
theorem ent_r2sign (args : Array Value) (w : World) : (callFunc 22 args).run Tryz.prog w = .ok (.enter 22 args) w := enters_of Tryz.func22 (by kernel_rfl) rfl args w
theorem ANum.u32 {W : World} {neg : Bool} {p : Option Addr} {n c : Nat} {ds : List Nat} (h : ANum W (.agg #[.bool neg, .slice p n c]) neg ds) : U32s W.heap.size W (.slice p n c) ds := by
  obtain ⟨p', n', c', e, hu⟩ := h.shape
  cases e
  exact hu
theorem ANum.setAny {W : World} {v : Value} {neg : Bool} {ds : List Nat} {g : Nat} {t : TypeId} {old : Array Value} (h : ANum W v neg ds) (hr : RowAt W g t old) (hn : noU32 old = true) (cs : Array Value) : ANum (W.setRow g cs) v neg ds := by
  obtain ⟨p, n, c, e, hu⟩ := h.shape
  exact ⟨⟨p, n, c, e, by rw [setRow_size]; exact hu.setAny hr hn cs⟩, h.dig⟩
def Nums3 (a b c : Int) (v : Value) (W : World) : Prop := ∃ n0 p0 l0 k0 n1 p1 l1 k1 n2 p2 l2 k2, v = .agg #[.bool n0, .slice p0 l0 k0, .bool n1, .slice p1 l1 k1, .bool n2, .slice p2 l2 k2] ∧ IsN a (.agg #[.bool n0, .slice p0 l0 k0]) W ∧ IsN b (.agg #[.bool n1, .slice p1 l1 k1]) W ∧ IsN c (.agg #[.bool n2, .slice p2 l2 k2]) W
theorem Nums3.ext {a b c : Int} {v : Value} {W W' : World} (h : Nums3 a b c v W) (hx : Ext W W') : Nums3 a b c v W' := by
  obtain ⟨n0, p0, l0, k0, n1, p1, l1, k1, n2, p2, l2, k2, e, h0, h1, h2⟩ := h
  exact ⟨n0, p0, l0, k0, n1, p1, l1, k1, n2, p2, l2, k2, e, h0.ext hx, h1.ext hx, h2.ext hx⟩
def zero3 : Array Value := #[.bool false, .slice none 0 0, .bool false, .slice none 0 0, .bool false, .slice none 0 0]
def OwnA (b : Nat) (v : Value) (w : World) : Prop := ∃ g, v = .pointer (some ⟨g, 0, none⟩) ∧ b ≤ g ∧ RowAt w g 40 zero3
theorem OwnA.ext {b : Nat} {v : Value} {w w' : World} (h : OwnA b v w) (hx : Ext w w') : OwnA b v w' := by
  obtain ⟨g, e, l, r⟩ := h
  exact ⟨g, e, l, hx.row r⟩
theorem ownA_new {b : Nat} {w0 w : World} (h : Ext w0 w) (hb : b ≤ w0.heap.size) : OwnA b (.pointer (some ⟨w.heap.size, 0, none⟩)) (w.alloc (.cells zero3 40)) :=
  ⟨_, rfl, Nat.le_trans hb (Below.size h), RowAt.new _ _ _⟩
theorem isN_any {z : Int} {b : Bool} {s : Value} {W : World} (h : IsN z (.agg #[.bool b, s]) W) : ANum W (.agg #[.bool b, s]) b (digs z.natAbs) := by
  obtain ⟨neg, p, n, c, e⟩ := IsN.parts h
  have h2 := ANum.of h
  obtain ⟨p', n', c', e', hu⟩ := h2.shape
  cases e'
  exact ⟨⟨_, _, _, rfl, hu⟩, h2.dig⟩
section
variable {o : Oper} {a : Act} {w : World}
theorem run_alloc_a3 (ho : o.op = .alloc 40) : (execOp a.eval o).run Tryz.prog w = .ok (.value (.pointer (some ⟨w.heap.size, 0, none⟩))) (w.alloc (.cells zero3 40)) := by
  unfold execOp
  simp only [ho]
  simp [go_sem, zero3]
theorem run_ixI3 (k : Nat) (hk : k < 3) (x : Operand) (ho : o.op = .indexAddr 41 x (.const (.int .i64 (k : Int)))) (g : Nat) (hx : a.eval x = .pointer (some ⟨g, 0, none⟩)) : (execOp a.eval o).run Tryz.prog w = .ok (.value (.pointer (some ⟨g, k, none⟩))) w := by
  have e : a.eval (.const (.int .i64 (k : Int))) = .int .i64 (k : Int) := rfl
  have h2 : (k : Int) < 3 := by omega
  unfold execOp
  simp only [ho, hx, e]
  simp [go_sem, h2]
theorem run_ixN3 (k : Nat) (hk : k < 3) (x : Operand) (ho : o.op = .indexAddr 40 x (.const (.int .i64 (k : Int)))) (g : Nat) (hx : a.eval x = .pointer (some ⟨g, 0, none⟩)) : (execOp a.eval o).run Tryz.prog w = .ok (.value (.pointer (some ⟨g, k * 2, none⟩))) w := by
  have e : a.eval (.const (.int .i64 (k : Int))) = .int .i64 (k : Int) := rfl
  have h2 : (k : Int) < 3 := by omega
  unfold execOp
  simp only [ho, hx, e]
  simp [go_sem, h2]
theorem run_build3n (x y z : Operand) (ho : o.op = .build 40 #[(0, x), (1, y), (2, z)]) (n1 n2 n3 : Bool) (p1 p2 p3 : Option Addr) (l1 c1 l2 c2 l3 c3 : Nat) (hx : a.eval x = .agg #[.bool n1, .slice p1 l1 c1]) (hy : a.eval y = .agg #[.bool n2, .slice p2 l2 c2]) (hz : a.eval z = .agg #[.bool n3, .slice p3 l3 c3]) :
    (execOp a.eval o).run Tryz.prog w = .ok (.value (.agg #[.bool n1, .slice p1 l1 c1, .bool n2, .slice p2 l2 c2, .bool n3, .slice p3 l3 c3])) w := by
  unfold execOp
  simp only [ho, List.map_toArray, List.map_cons, List.map_nil, hx, hy, hz]
  simp [go_sem]
theorem run_neq_int {o : Oper} {a : Act} {w : World} (x y : Operand) (ho : o.op = .binOp .neq 3 x y 3) (u : Int) (hx : a.eval x = .int .i64 u) (hy : a.eval y = .int .i64 u) : (execOp a.eval o).run Tryz.prog w = .ok (.value (.bool false)) w := by
  unfold execOp
  simp only [ho, hx, hy]
  simp [go_sem]
theorem run_load_n3_0 (x : Operand) (ho : o.op = .load 25 x) (g : Nat) (hx : a.eval x = .pointer (some ⟨g, 0, none⟩)) (neg : Bool) (p : Option Addr) (n c : Nat) (x2 x3 x4 x5 : Value) (t : TypeId) (hg : RowAt w g t #[.bool neg, .slice p n c, x2, x3, x4, x5]) : (execOp a.eval o).run Tryz.prog w = .ok (.value (.agg #[.bool neg, .slice p n c])) w := by
  have c0 : w.cell? ⟨g, 0, none⟩ = some (.bool neg) := hg.cell 0
  have c1 : w.cell? ⟨g, 1, none⟩ = some (.slice p n c) := hg.cell 1
  unfold execOp
  simp only [ho, hx]
  simp [go_sem, c0, c1]
theorem run_load_n3_1 (x : Operand) (ho : o.op = .load 25 x) (g : Nat) (hx : a.eval x = .pointer (some ⟨g, 2, none⟩)) (neg : Bool) (p : Option Addr) (n c : Nat) (x0 x1 x4 x5 : Value) (t : TypeId) (hg : RowAt w g t #[x0, x1, .bool neg, .slice p n c, x4, x5]) : (execOp a.eval o).run Tryz.prog w = .ok (.value (.agg #[.bool neg, .slice p n c])) w := by
  have c0 : w.cell? ⟨g, 2, none⟩ = some (.bool neg) := hg.cell 2
  have c1 : w.cell? ⟨g, 3, none⟩ = some (.slice p n c) := hg.cell 3
  unfold execOp
  simp only [ho, hx]
  simp [go_sem, c0, c1]
theorem run_load_n3_2 (x : Operand) (ho : o.op = .load 25 x) (g : Nat) (hx : a.eval x = .pointer (some ⟨g, 4, none⟩)) (neg : Bool) (p : Option Addr) (n c : Nat) (x0 x1 x2 x3 : Value) (t : TypeId) (hg : RowAt w g t #[x0, x1, x2, x3, .bool neg, .slice p n c]) : (execOp a.eval o).run Tryz.prog w = .ok (.value (.agg #[.bool neg, .slice p n c])) w := by
  have c0 : w.cell? ⟨g, 4, none⟩ = some (.bool neg) := hg.cell 4
  have c1 : w.cell? ⟨g, 5, none⟩ = some (.slice p n c) := hg.cell 5
  unfold execOp
  simp only [ho, hx]
  simp [go_sem, c0, c1]
end
section
variable {ops : Array Oper} {rest : List Oper} {o : Oper} {b : Act} {w : World} {Q : Exit → Act → World → Prop}
theorem a3_info : (Tryz.prog.info? 40).map (·.size) = some 6 := by kernel_rfl
theorem store_a3 (hgd : o.guard = none) (x y : Operand) (ho : o.op = .store 40 x y) (g : Nat) (hx : b.eval x = .pointer (some ⟨g, 0, none⟩)) (n0 : Bool) (p0 : Option Addr) (l0 k0 : Nat) (n1 : Bool) (p1 : Option Addr) (l1 k1 : Nat) (n2 : Bool) (p2 : Option Addr) (l2 k2 : Nat) (hy : b.eval y = .agg #[.bool n0, .slice p0 l0 k0, .bool n1, .slice p1 l1 k1, .bool n2, .slice p2 l2 k2]) (t : TypeId) (old : Array Value) (hg : RowAt w g t old) (hold : old.size = 6)
    (h : wpList Tryz.prog ops Q rest (b.put o.dst undef) (w.setRow g #[.bool n0, .slice p0 l0 k0, .bool n1, .slice p1 l1 k1, .bool n2, .slice p2 l2 k2])) : wpList Tryz.prog ops Q (o :: rest) b w :=
  wpList_plain hgd fun _ hK => wp_store_row 40 x y ho g #[.bool n0, .slice p0 l0 k0, .bool n1, .slice p1 l1 k1, .bool n2, .slice p2 l2 k2] hx hy t old hg a3_info hold (by simp [Value.oneCell']) (hK _ _ h)
set_option maxRecDepth 20000 in
set_option maxHeartbeats 2000000 in
theorem store_n3_0 (hgd : o.guard = none) (x y : Operand) (ho : o.op = .store 25 x y) (g : Nat) (hx : b.eval x = .pointer (some ⟨g, 0, none⟩)) (nn : Bool) (p : Option Addr) (n c : Nat) (hy : b.eval y = .agg #[.bool nn, .slice p n c])
    (x0 x1 x2 x3 x4 x5 : Value) (t : TypeId) (hg : RowAt w g t #[x0, x1, x2, x3, x4, x5])
    (h : wpList Tryz.prog ops Q rest (b.put o.dst undef) (w.setRow g #[.bool nn, .slice p n c, x2, x3, x4, x5])) : wpList Tryz.prog ops Q (o :: rest) b w := by
  refine wpList_plain hgd fun K hK => ?_
  have c0 : (w).cell? ⟨g, 0, none⟩ = some x0 := hg.cell 0
  have f0 := hg.frozen 0
  have r0 : RowAt ((w).setCell ⟨g, 0, none⟩ (.bool nn)) g t #[(.bool nn), x1, x2, x3, x4, x5] := hg.set 0 (.bool nn)
  have e0 : (w).setCell ⟨g, 0, none⟩ (.bool nn) = w.setRow g #[(.bool nn), x1, x2, x3, x4, x5] := setCell_eq_setRow w g 0 _ t (0, 0) _ hg
  have c1 : ((w).setCell ⟨g, 0, none⟩ (.bool nn)).cell? ⟨g, 1, none⟩ = some x1 := r0.cell 1
  have f1 := r0.frozen 1
  have r1 : RowAt (((w).setCell ⟨g, 0, none⟩ (.bool nn)).setCell ⟨g, 1, none⟩ (.slice p n c)) g t #[(.bool nn), (.slice p n c), x2, x3, x4, x5] := r0.set 1 (.slice p n c)
  have e1 : ((w).setCell ⟨g, 0, none⟩ (.bool nn)).setCell ⟨g, 1, none⟩ (.slice p n c) = w.setRow g #[(.bool nn), (.slice p n c), x2, x3, x4, x5] := by rw [e0, setCell_eq_setRow _ g 1 _ t (0, 0) _ (hg.setRow _), setRow_setRow]; rfl
  have hrun : (execOp b.eval o).run Tryz.prog w = .ok .skip (w.setRow g #[.bool nn, .slice p n c, x2, x3, x4, x5]) := by
    rw [← e1]
    unfold execOp
    simp only [ho, hx, hy]
    simp [go_sem, c0, f0, c1, f1]
  exact wp_of_skip hrun (hK _ _ h)
set_option maxRecDepth 20000 in
set_option maxHeartbeats 2000000 in
theorem store_n3_2 (hgd : o.guard = none) (x y : Operand) (ho : o.op = .store 25 x y) (g : Nat) (hx : b.eval x = .pointer (some ⟨g, 2, none⟩)) (nn : Bool) (p : Option Addr) (n c : Nat) (hy : b.eval y = .agg #[.bool nn, .slice p n c])
    (x0 x1 x2 x3 x4 x5 : Value) (t : TypeId) (hg : RowAt w g t #[x0, x1, x2, x3, x4, x5])
    (h : wpList Tryz.prog ops Q rest (b.put o.dst undef) (w.setRow g #[x0, x1, .bool nn, .slice p n c, x4, x5])) : wpList Tryz.prog ops Q (o :: rest) b w := by
  refine wpList_plain hgd fun K hK => ?_
  have c0 : (w).cell? ⟨g, 2, none⟩ = some x2 := hg.cell 2
  have f0 := hg.frozen 2
  have r0 : RowAt ((w).setCell ⟨g, 2, none⟩ (.bool nn)) g t #[x0, x1, (.bool nn), x3, x4, x5] := hg.set 2 (.bool nn)
  have e0 : (w).setCell ⟨g, 2, none⟩ (.bool nn) = w.setRow g #[x0, x1, (.bool nn), x3, x4, x5] := setCell_eq_setRow w g 2 _ t (0, 0) _ hg
  have c1 : ((w).setCell ⟨g, 2, none⟩ (.bool nn)).cell? ⟨g, 3, none⟩ = some x3 := r0.cell 3
  have f1 := r0.frozen 3
  have r1 : RowAt (((w).setCell ⟨g, 2, none⟩ (.bool nn)).setCell ⟨g, 3, none⟩ (.slice p n c)) g t #[x0, x1, (.bool nn), (.slice p n c), x4, x5] := r0.set 3 (.slice p n c)
  have e1 : ((w).setCell ⟨g, 2, none⟩ (.bool nn)).setCell ⟨g, 3, none⟩ (.slice p n c) = w.setRow g #[x0, x1, (.bool nn), (.slice p n c), x4, x5] := by rw [e0, setCell_eq_setRow _ g 3 _ t (0, 0) _ (hg.setRow _), setRow_setRow]; rfl
  have hrun : (execOp b.eval o).run Tryz.prog w = .ok .skip (w.setRow g #[x0, x1, .bool nn, .slice p n c, x4, x5]) := by
    rw [← e1]
    unfold execOp
    simp only [ho, hx, hy]
    simp [go_sem, c0, f0, c1, f1]
  exact wp_of_skip hrun (hK _ _ h)
set_option maxRecDepth 20000 in
set_option maxHeartbeats 2000000 in
theorem store_n3_4 (hgd : o.guard = none) (x y : Operand) (ho : o.op = .store 25 x y) (g : Nat) (hx : b.eval x = .pointer (some ⟨g, 4, none⟩)) (nn : Bool) (p : Option Addr) (n c : Nat) (hy : b.eval y = .agg #[.bool nn, .slice p n c])
    (x0 x1 x2 x3 x4 x5 : Value) (t : TypeId) (hg : RowAt w g t #[x0, x1, x2, x3, x4, x5])
    (h : wpList Tryz.prog ops Q rest (b.put o.dst undef) (w.setRow g #[x0, x1, x2, x3, .bool nn, .slice p n c])) : wpList Tryz.prog ops Q (o :: rest) b w := by
  refine wpList_plain hgd fun K hK => ?_
  have c0 : (w).cell? ⟨g, 4, none⟩ = some x4 := hg.cell 4
  have f0 := hg.frozen 4
  have r0 : RowAt ((w).setCell ⟨g, 4, none⟩ (.bool nn)) g t #[x0, x1, x2, x3, (.bool nn), x5] := hg.set 4 (.bool nn)
  have e0 : (w).setCell ⟨g, 4, none⟩ (.bool nn) = w.setRow g #[x0, x1, x2, x3, (.bool nn), x5] := setCell_eq_setRow w g 4 _ t (0, 0) _ hg
  have c1 : ((w).setCell ⟨g, 4, none⟩ (.bool nn)).cell? ⟨g, 5, none⟩ = some x5 := r0.cell 5
  have f1 := r0.frozen 5
  have r1 : RowAt (((w).setCell ⟨g, 4, none⟩ (.bool nn)).setCell ⟨g, 5, none⟩ (.slice p n c)) g t #[x0, x1, x2, x3, (.bool nn), (.slice p n c)] := r0.set 5 (.slice p n c)
  have e1 : ((w).setCell ⟨g, 4, none⟩ (.bool nn)).setCell ⟨g, 5, none⟩ (.slice p n c) = w.setRow g #[x0, x1, x2, x3, (.bool nn), (.slice p n c)] := by rw [e0, setCell_eq_setRow _ g 5 _ t (0, 0) _ (hg.setRow _), setRow_setRow]; rfl
  have hrun : (execOp b.eval o).run Tryz.prog w = .ok .skip (w.setRow g #[x0, x1, x2, x3, .bool nn, .slice p n c]) := by
    rw [← e1]
    unfold execOp
    simp only [ho, hx, hy]
    simp [go_sem, c0, f0, c1, f1]
  exact wp_of_skip hrun (hK _ _ h)
end
def sg6F (g0 b0 : Nat) (q0 q1 q2 a0 a1 a2 : Int) : Nat → Value → World → Prop
  | 0, v, _ => v = .pointer (some ⟨g0, 0, none⟩)
  | 1, v, _ => v = .int .i64 q0
  | 2, v, _ => v = .int .i64 a0
  | 3, v, W => IsN a0 v W
  | 4, v, _ => v = .pointer (some ⟨g0, 1, none⟩)
  | 5, v, _ => v = .int .i64 q1
  | 6, v, _ => v = .int .i64 a1
  | 7, v, W => IsN a1 v W
  | 8, v, _ => v = .pointer (some ⟨g0, 2, none⟩)
  | 9, v, _ => v = .int .i64 q2
  | 10, v, _ => v = .int .i64 a2
  | 11, v, W => IsN a2 v W
  | 12, v, W => Nums3 a0 a1 a2 v W
  | 13, v, W => OwnA b0 v W
  | _, _, _ => True
theorem sg6F_mono {g0 b0 : Nat} {q0 q1 q2 a0 a1 a2 : Int} {W W' : World} (hx : Ext W W') (j : Nat) (v : Value) (h : sg6F g0 b0 q0 q1 q2 a0 a1 a2 j v W) : sg6F g0 b0 q0 q1 q2 a0 a1 a2 j v W' := by
  match j, h with
  | 0, h | 1, h | 2, h | 4, h | 5, h | 6, h | 8, h | 9, h | 10, h => exact h
  | 3, h => exact IsN.ext h hx
  | 7, h => exact IsN.ext h hx
  | 11, h => exact IsN.ext h hx
  | 12, h => exact Nums3.ext h hx
  | 13, h => exact OwnA.ext h hx
  | _ + 14, _ => trivial
def sg7F (g0 b0 : Nat) (q0 q1 q2 : Int) : Nat → Value → World → Prop
  | 0, v, _ => v = .pointer (some ⟨g0, 0, none⟩)
  | 1, v, _ => v = .int .i64 q0
  | 2, v, W => IsN q0 v W
  | 3, v, _ => v = .pointer (some ⟨g0, 1, none⟩)
  | 4, v, _ => v = .int .i64 q1
  | 5, v, W => IsN q1 v W
  | 6, v, _ => v = .pointer (some ⟨g0, 2, none⟩)
  | 7, v, _ => v = .int .i64 q2
  | 8, v, W => IsN q2 v W
  | 9, v, W => Nums3 q0 q1 q2 v W
  | 10, v, W => OwnA b0 v W
  | _, _, _ => True
theorem sg7F_mono {g0 b0 : Nat} {q0 q1 q2 : Int} {W W' : World} (hx : Ext W W') (j : Nat) (v : Value) (h : sg7F g0 b0 q0 q1 q2 j v W) : sg7F g0 b0 q0 q1 q2 j v W' := by
  match j, h with
  | 0, h | 1, h | 3, h | 4, h | 6, h | 7, h => exact h
  | 2, h => exact IsN.ext h hx
  | 5, h => exact IsN.ext h hx
  | 8, h => exact IsN.ext h hx
  | 9, h => exact Nums3.ext h hx
  | 10, h => exact OwnA.ext h hx
  | _ + 11, _ => trivial
def sg13F (g0 : Nat) (va vb vc : Value) (r : Int) : Nat → Value → World → Prop
  | 0, v, _ => v = .pointer (some ⟨g0, 0 * 2, none⟩)
  | 1, v, _ => v = va
  | 2, v, _ => v = .pointer (some ⟨g0, 1 * 2, none⟩)
  | 3, v, _ => v = vb
  | 4, v, _ => v = .pointer (some ⟨g0, 2 * 2, none⟩)
  | 5, v, _ => v = vc
  | 6, v, _ => v = .int .i64 r
  | 7, v, _ => v = .pointer (some ⟨g0, 0 * 2, none⟩)
  | 8, v, _ => v = va
  | 9, v, _ => v = .pointer (some ⟨g0, 1 * 2, none⟩)
  | 10, v, _ => v = vb
  | 11, v, _ => v = .pointer (some ⟨g0, 2 * 2, none⟩)
  | 12, v, _ => v = vc
  | 13, v, _ => v = .int .i64 r
  | 14, v, _ => v = .bool false
  | _, _, _ => True
theorem sg13F_mono {g0 : Nat} {va vb vc : Value} {r : Int} {W W' : World} (hx : Ext W W') (j : Nat) (v : Value) (h : sg13F g0 va vb vc r j v W) : sg13F g0 va vb vc r j v W' := by
  match j, h with
  | 0, h | 1, h | 2, h | 3, h | 4, h | 5, h | 6, h | 7, h | 8, h | 9, h | 10, h | 11, h | 12, h | 13, h | 14, h => exact h
  | _ + 15, _ => trivial
set_option maxRecDepth 100000 in
set_option maxHeartbeats 32000000 in
theorem rootSigns_walk (n0 : Bool) (p0 : Option Addr) (l0 c0 : Nat) (d0 : List Nat) (n1 : Bool) (p1 : Option Addr) (l1 c1 : Nat) (d1 : List Nat) (n2 : Bool) (p2 : Option Addr) (l2 c2 : Nat) (d2 : List Nat) (q0 q1 q2 : Int) (w : World) (ht : Tab w) (h0 : ANum w (.agg #[.bool n0, .slice p0 l0 c0]) n0 d0) (k0 : l0 ≤ c0) (h1 : ANum w (.agg #[.bool n1, .slice p1 l1 c1]) n1 d1) (k1 : l1 ≤ c1) (h2 : ANum w (.agg #[.bool n2, .slice p2 l2 c2]) n2 d2) (k2 : l2 ≤ c2) (r0 : -9223372036854775808 ≤ q0 ∧ q0 ≤ 9223372036854775807) (r1 : -9223372036854775808 ≤ q1 ∧ q1 ≤ 9223372036854775807) (r2 : -9223372036854775808 ≤ q2 ∧ q2 ≤ 9223372036854775807) :
    Calls Tryz.prog 4 #[.agg #[.bool n0, .slice p0 l0 c0, .bool n1, .slice p1 l1 c1, .bool n2, .slice p2 l2 c2], .agg #[.int .i64 q0, .int .i64 q1, .int .i64 q2]] w fun e w' => e = .returned (.bool true) ∧ Ext w w' := by
  have E := Lib.hid (Ext.refl w)
  have T_ := Lib.hid ht
  have N0_ := Lib.hid h0
  have K0 := Lib.hid k0
  have R0 := Lib.hid r0
  have hm0 : -50 < q0.tmod 50 ∧ q0.tmod 50 < 50 := rem_inM q0 (by decide)
  obtain ⟨a0, ha0⟩ : ∃ a, q0.tmod 50 = a := ⟨_, rfl⟩
  rw [ha0] at hm0
  have HA0 := Lib.hid ha0
  have HM0 := Lib.hid hm0
  clear h0 k0 r0 hm0 ha0
  have N1_ := Lib.hid h1
  have K1 := Lib.hid k1
  have R1 := Lib.hid r1
  have hm1 : -50 < q1.tmod 50 ∧ q1.tmod 50 < 50 := rem_inM q1 (by decide)
  obtain ⟨a1, ha1⟩ : ∃ a, q1.tmod 50 = a := ⟨_, rfl⟩
  rw [ha1] at hm1
  have HA1 := Lib.hid ha1
  have HM1 := Lib.hid hm1
  clear h1 k1 r1 hm1 ha1
  have N2_ := Lib.hid h2
  have K2 := Lib.hid k2
  have R2 := Lib.hid r2
  have hm2 : -50 < q2.tmod 50 ∧ q2.tmod 50 < 50 := rem_inM q2 (by decide)
  obtain ⟨a2, ha2⟩ : ∃ a, q2.tmod 50 = a := ⟨_, rfl⟩
  rw [ha2] at hm2
  have HA2 := Lib.hid ha2
  have HM2 := Lib.hid hm2
  clear h2 k2 r2 hm2 ha2
  clear ht
  obtain ⟨W0a, hW0a⟩ : ∃ W0a, W0a = ((w.alloc (.cells #[.bool n0, .slice p0 l0 c0, .bool n1, .slice p1 l1 c1, .bool n2, .slice p2 l2 c2] 40)).alloc (.cells #[.int .i64 q0, .int .i64 q1, .int .i64 q2] 41)) := ⟨_, rfl⟩
  have hx : Ext w W0a := by rw [hW0a]; exact ((Ext.alloc _ _).trans (Ext.alloc _ _))
  have L_n : RowAt W0a (w.heap.size) 40 #[.bool n0, .slice p0 l0 c0, .bool n1, .slice p1 l1 c1, .bool n2, .slice p2 l2 c2] := by rw [hW0a]; exact ((RowAt.new' _ _ (by simp)).alloc _)
  have Q_n : RowAt W0a (w.heap.size + 1) 41 #[.int .i64 q0, .int .i64 q1, .int .i64 q2] := by rw [hW0a]; exact (RowAt.new' _ _ (by simp))
  have E1 := Lib.hid (E.out.trans hx)
  have T_1 := Lib.hid (hx.tab T_.out)
  have N0_1 := Lib.hid (ANum.ext N0_.out hx)
  have N1_1 := Lib.hid (ANum.ext N1_.out hx)
  have N2_1 := Lib.hid (ANum.ext N2_.out hx)
  clear E T_ N0_ N1_ N2_
  have L_1 := Lib.hid L_n
  have Q_1 := Lib.hid Q_n
  have HW0a := Lib.hid hW0a
  clear hx hW0a L_n Q_n
  go_enter Tryz.func4, Tryz.ntmps4
  go_wp2_with fail
  rw [← HW0a.out]
  refine (sanity2_calls W0a T_1.out).mono ?_
  rintro e w2_ ⟨rfl, hx⟩
  have E2 := Lib.hid (E1.out.trans hx)
  have T_2 := Lib.hid (hx.tab T_1.out)
  have N0_2 := Lib.hid (ANum.ext N0_1.out hx)
  have N1_2 := Lib.hid (ANum.ext N1_1.out hx)
  have N2_2 := Lib.hid (ANum.ext N2_1.out hx)
  have L_2 := Lib.hid (hx.row L_1.out)
  have Q_2 := Lib.hid (hx.row Q_1.out)
  clear E1 T_1 N0_1 N1_1 N2_1 L_1 Q_1
  clear hx
  clear T_2
  go_wp2_with fail
  refine wp_loop_rounds 4 ?_
  rw [rounds_succ]
  have cl0 := (show (w2_).cell? ⟨w.heap.size, 0, none⟩ = some (.bool n0) from L_2.out.cell 0)
  have cl1 := (show (w2_).cell? ⟨w.heap.size, 1, none⟩ = some (.slice p0 l0 c0) from L_2.out.cell 1)
  go_wp2_with fail
  refine (lshort_calls n0 p0 l0 c0 22 d0 w2_ (ANum.u32 N0_2.out) K0.out (by decide)).mono ?_
  rintro e w3_ ⟨rfl, hx⟩
  have E3 := Lib.hid (E2.out.trans hx)
  have N0_3 := Lib.hid (ANum.ext N0_2.out hx)
  have N1_3 := Lib.hid (ANum.ext N1_2.out hx)
  have N2_3 := Lib.hid (ANum.ext N2_2.out hx)
  have L_3 := Lib.hid (hx.row L_2.out)
  have Q_3 := Lib.hid (hx.row Q_2.out)
  clear E2 N0_2 N1_2 N2_2 L_2 Q_2
  clear hx
  clear cl0 cl1
  have N0s3 := Lib.hid (lshort_any (k := 22) N0_3.out)
  clear N0_3
  generalize min l0 22 = m0 at *
  obtain ⟨W3c, hW3c⟩ : ∃ W3c, W3c = w3_.setRow (w.heap.size) (#[.bool n0, .slice p0 m0 c0, .bool n1, .slice p1 l1 c1, .bool n2, .slice p2 l2 c2]) := ⟨_, rfl⟩
  have E4 : Hid (Ext w W3c) := by rw [hW3c]; exact ext_setRow E3.out (Nat.le_refl _) _
  have N0_4 := Lib.hid (show ANum W3c _ _ _ from by rw [hW3c]; exact N0s3.out.setAny L_3.out rfl _)
  have N1_4 := Lib.hid (show ANum W3c _ _ _ from by rw [hW3c]; exact N1_3.out.setAny L_3.out rfl _)
  have N2_4 := Lib.hid (show ANum W3c _ _ _ from by rw [hW3c]; exact N2_3.out.setAny L_3.out rfl _)
  have L_4 : Hid (RowAt W3c (w.heap.size) 40 (#[.bool n0, .slice p0 m0 c0, .bool n1, .slice p1 l1 c1, .bool n2, .slice p2 l2 c2])) := by rw [hW3c]; exact L_3.out.setRow _
  have Q_4 := Lib.hid (show RowAt W3c (w.heap.size + 1) _ _ from by rw [hW3c]; exact Q_3.out.setRowOther _ (by omega))
  have HW3c := Lib.hid hW3c
  clear hW3c E3 N0s3 N1_3 N2_3 Q_3
  go_wp2_with (first | (refine store_n3_0 rfl (.tmp 22) (.tmp 21) rfl (w.heap.size) rfl _ _ _ _ rfl _ _ _ _ _ _ _ L_3.out ?_; rw [← HW3c.out]))
  rw [rounds_succ]
  have cl2 := (show (W3c).cell? ⟨w.heap.size, 2, none⟩ = some (.bool n1) from L_4.out.cell 2)
  have cl3 := (show (W3c).cell? ⟨w.heap.size, 3, none⟩ = some (.slice p1 l1 c1) from L_4.out.cell 3)
  go_wp2_with fail
  refine (lshort_calls n1 p1 l1 c1 22 d1 W3c (ANum.u32 N1_4.out) K1.out (by decide)).mono ?_
  rintro e w5_ ⟨rfl, hx⟩
  have E5 := Lib.hid (E4.out.trans hx)
  have N0_5 := Lib.hid (ANum.ext N0_4.out hx)
  have N1_5 := Lib.hid (ANum.ext N1_4.out hx)
  have N2_5 := Lib.hid (ANum.ext N2_4.out hx)
  have L_5 := Lib.hid (hx.row L_4.out)
  have Q_5 := Lib.hid (hx.row Q_4.out)
  clear E4 N0_4 N1_4 N2_4 L_4 Q_4
  clear hx
  clear cl2 cl3
  have N1s5 := Lib.hid (lshort_any (k := 22) N1_5.out)
  clear N1_5
  generalize min l1 22 = m1 at *
  obtain ⟨W5c, hW5c⟩ : ∃ W5c, W5c = w5_.setRow (w.heap.size) (#[.bool n0, .slice p0 m0 c0, .bool n1, .slice p1 m1 c1, .bool n2, .slice p2 l2 c2]) := ⟨_, rfl⟩
  have E6 : Hid (Ext w W5c) := by rw [hW5c]; exact ext_setRow E5.out (Nat.le_refl _) _
  have N0_6 := Lib.hid (show ANum W5c _ _ _ from by rw [hW5c]; exact N0_5.out.setAny L_5.out rfl _)
  have N1_6 := Lib.hid (show ANum W5c _ _ _ from by rw [hW5c]; exact N1s5.out.setAny L_5.out rfl _)
  have N2_6 := Lib.hid (show ANum W5c _ _ _ from by rw [hW5c]; exact N2_5.out.setAny L_5.out rfl _)
  have L_6 : Hid (RowAt W5c (w.heap.size) 40 (#[.bool n0, .slice p0 m0 c0, .bool n1, .slice p1 m1 c1, .bool n2, .slice p2 l2 c2])) := by rw [hW5c]; exact L_5.out.setRow _
  have Q_6 := Lib.hid (show RowAt W5c (w.heap.size + 1) _ _ from by rw [hW5c]; exact Q_5.out.setRowOther _ (by omega))
  have HW5c := Lib.hid hW5c
  clear hW5c E5 N0_5 N1s5 N2_5 Q_5
  go_wp2_with (first | (refine store_n3_2 rfl (.tmp 22) (.tmp 21) rfl (w.heap.size) rfl _ _ _ _ rfl _ _ _ _ _ _ _ L_5.out ?_; rw [← HW5c.out]))
  rw [rounds_succ]
  have cl4 := (show (W5c).cell? ⟨w.heap.size, 4, none⟩ = some (.bool n2) from L_6.out.cell 4)
  have cl5 := (show (W5c).cell? ⟨w.heap.size, 5, none⟩ = some (.slice p2 l2 c2) from L_6.out.cell 5)
  go_wp2_with fail
  refine (lshort_calls n2 p2 l2 c2 22 d2 W5c (ANum.u32 N2_6.out) K2.out (by decide)).mono ?_
  rintro e w7_ ⟨rfl, hx⟩
  have E7 := Lib.hid (E6.out.trans hx)
  have N0_7 := Lib.hid (ANum.ext N0_6.out hx)
  have N1_7 := Lib.hid (ANum.ext N1_6.out hx)
  have N2_7 := Lib.hid (ANum.ext N2_6.out hx)
  have L_7 := Lib.hid (hx.row L_6.out)
  have Q_7 := Lib.hid (hx.row Q_6.out)
  clear E6 N0_6 N1_6 N2_6 L_6 Q_6
  clear hx
  clear cl4 cl5
  have N2s7 := Lib.hid (lshort_any (k := 22) N2_7.out)
  clear N2_7
  generalize min l2 22 = m2 at *
  obtain ⟨W7c, hW7c⟩ : ∃ W7c, W7c = w7_.setRow (w.heap.size) (#[.bool n0, .slice p0 m0 c0, .bool n1, .slice p1 m1 c1, .bool n2, .slice p2 m2 c2]) := ⟨_, rfl⟩
  have E8 : Hid (Ext w W7c) := by rw [hW7c]; exact ext_setRow E7.out (Nat.le_refl _) _
  have N0_8 := Lib.hid (show ANum W7c _ _ _ from by rw [hW7c]; exact N0_7.out.setAny L_7.out rfl _)
  have N1_8 := Lib.hid (show ANum W7c _ _ _ from by rw [hW7c]; exact N1_7.out.setAny L_7.out rfl _)
  have N2_8 := Lib.hid (show ANum W7c _ _ _ from by rw [hW7c]; exact N2s7.out.setAny L_7.out rfl _)
  have L_8 : Hid (RowAt W7c (w.heap.size) 40 (#[.bool n0, .slice p0 m0 c0, .bool n1, .slice p1 m1 c1, .bool n2, .slice p2 m2 c2])) := by rw [hW7c]; exact L_7.out.setRow _
  have Q_8 := Lib.hid (show RowAt W7c (w.heap.size + 1) _ _ from by rw [hW7c]; exact Q_7.out.setRowOther _ (by omega))
  have HW7c := Lib.hid hW7c
  clear hW7c E7 N0_7 N1_7 N2s7 Q_7
  go_wp2_with (first | (refine store_n3_4 rfl (.tmp 22) (.tmp 21) rfl (w.heap.size) rfl _ _ _ _ rfl _ _ _ _ _ _ _ L_7.out ?_; rw [← HW7c.out]))
  rw [rounds_succ]
  go_upto_region 6 with (fail)
  refine wp_region_tail (fun D ac w' => ∃ vs : Nat → Value, ac = { tmps := #[Value.agg #[Value.bool n0, Value.slice p0 l0 c0, Value.bool n1, Value.slice p1 l1 c1, Value.bool n2, Value.slice p2 l2 c2], Value.agg #[Value.int IntKind.i64 q0, Value.int IntKind.i64 q1, Value.int IntKind.i64 q2], Value.pointer (some { block := w.heap.size, off := 0 }), Value.pointer (some { block := w.heap.size + 1, off := 0 }), Value.bool false, Value.bool true, Value.int IntKind.i64 3, vs 13, undef, undef, undef, undef, Value.bool true, Value.int IntKind.i64 3, Value.bool false, Value.int IntKind.i64 2, Value.int IntKind.i64 3, Value.int IntKind.i64 2, Value.int IntKind.i64 2, Value.pointer (some { block := w.heap.size, off := 4 }), Value.agg #[Value.bool n2, Value.slice p2 l2 c2], Value.agg #[Value.bool n2, Value.slice p2 m2 c2], Value.pointer (some { block := w.heap.size, off := 4 }), vs 0, vs 1, vs 2, vs 3, vs 4, vs 5, vs 6, vs 7, vs 8, vs 9, vs 10, vs 11, vs 12, undef, undef, undef, undef, undef, undef, undef, undef, undef, undef, undef, undef, undef, undef, undef, undef, undef, undef, undef, undef, undef, undef, undef, undef, undef, undef, undef, undef, undef, undef, undef, undef, undef, undef, undef, undef, undef], defers := [] } ∧ Ext W7c w' ∧ ∀ j, D j → sg6F (w.heap.size + 1) W7c.heap.size q0 q1 q2 a0 a1 a2 j (vs j) w') 14 (by kernel_rfl) (by kernel_rfl) (by kernel_rfl) ?start6 ?step6 ?fin6
  case start6 => exact ⟨fun _ => undef, rfl, Ext.drew _, fun _ h => h.elim⟩
  case step6 =>
    rintro i o D ac wz hin hio hnd he ⟨vs, rfl, k0, hF⟩
    rcases i with _ | _ | _ | _ | _ | _ | _ | _ | _ | _ | _ | _ | _ | _ | i
    rotate_left 14
    · exact absurd hin (by omega)
    all_goals (obtain rfl := Option.some.inj (hio.symm.trans (by rfl)))
    · refine step_yes (wanted_of_none rfl _) ?_
      exact wp_of_run (run_ixI3 0 (by decide) (.tmp 3) rfl _ rfl) ⟨upd vs 0 _, rfl, k0, inv_step hF (fun _ _ h => h) rfl⟩
    · refine step_yes (wanted_of_none rfl _) ?_
      exact wp_of_run (run_load_int_at (.tmp 23) rfl _ (by exact (hF 0 (he ⟨0, .data⟩ (by simp) rfl))) _ ((k0.row Q_8.out).cell 0)) ⟨upd vs 1 _, rfl, k0, inv_step hF (fun _ _ h => h) rfl⟩
    · refine step_yes (wanted_of_none rfl _) ?_
      exact wp_of_run (run_remI (.tmp 24) (.const (.int .i64 50)) rfl rfl _ 50 a0 (by decide) (by decide) HA0.out (by exact (hF 1 (he ⟨1, .data⟩ (by simp) rfl))) rfl) ⟨upd vs 2 _, rfl, k0, inv_step hF (fun _ _ h => h) rfl⟩
    · refine step_yes (wanted_of_none rfl _) ?_
      refine wp_of_callE (run_enter1 12 (.tmp 25) _ rfl _ (by exact (hF 2 (he ⟨2, .data⟩ (by simp) rfl))) ent_lof) (lawOf_n a0 (by have := HM0.out; omega) wz) ?_
      rintro e w' ⟨rr, rfl, hz, hx⟩
      exact ⟨_, rfl, upd vs 3 _, rfl, k0.trans hx, inv_step hF (fun j v h => sg6F_mono hx j v h) hz⟩
    · refine step_yes (wanted_of_none rfl _) ?_
      exact wp_of_run (run_ixI3 1 (by decide) (.tmp 3) rfl _ rfl) ⟨upd vs 4 _, rfl, k0, inv_step hF (fun _ _ h => h) rfl⟩
    · refine step_yes (wanted_of_none rfl _) ?_
      exact wp_of_run (run_load_int_at (.tmp 27) rfl _ (by exact (hF 4 (he ⟨4, .data⟩ (by simp) rfl))) _ ((k0.row Q_8.out).cell 1)) ⟨upd vs 5 _, rfl, k0, inv_step hF (fun _ _ h => h) rfl⟩
    · refine step_yes (wanted_of_none rfl _) ?_
      exact wp_of_run (run_remI (.tmp 28) (.const (.int .i64 50)) rfl rfl _ 50 a1 (by decide) (by decide) HA1.out (by exact (hF 5 (he ⟨5, .data⟩ (by simp) rfl))) rfl) ⟨upd vs 6 _, rfl, k0, inv_step hF (fun _ _ h => h) rfl⟩
    · refine step_yes (wanted_of_none rfl _) ?_
      refine wp_of_callE (run_enter1 12 (.tmp 29) _ rfl _ (by exact (hF 6 (he ⟨6, .data⟩ (by simp) rfl))) ent_lof) (lawOf_n a1 (by have := HM1.out; omega) wz) ?_
      rintro e w' ⟨rr, rfl, hz, hx⟩
      exact ⟨_, rfl, upd vs 7 _, rfl, k0.trans hx, inv_step hF (fun j v h => sg6F_mono hx j v h) hz⟩
    · refine step_yes (wanted_of_none rfl _) ?_
      exact wp_of_run (run_ixI3 2 (by decide) (.tmp 3) rfl _ rfl) ⟨upd vs 8 _, rfl, k0, inv_step hF (fun _ _ h => h) rfl⟩
    · refine step_yes (wanted_of_none rfl _) ?_
      exact wp_of_run (run_load_int_at (.tmp 31) rfl _ (by exact (hF 8 (he ⟨8, .data⟩ (by simp) rfl))) _ ((k0.row Q_8.out).cell 2)) ⟨upd vs 9 _, rfl, k0, inv_step hF (fun _ _ h => h) rfl⟩
    · refine step_yes (wanted_of_none rfl _) ?_
      exact wp_of_run (run_remI (.tmp 32) (.const (.int .i64 50)) rfl rfl _ 50 a2 (by decide) (by decide) HA2.out (by exact (hF 9 (he ⟨9, .data⟩ (by simp) rfl))) rfl) ⟨upd vs 10 _, rfl, k0, inv_step hF (fun _ _ h => h) rfl⟩
    · refine step_yes (wanted_of_none rfl _) ?_
      refine wp_of_callE (run_enter1 12 (.tmp 33) _ rfl _ (by exact (hF 10 (he ⟨10, .data⟩ (by simp) rfl))) ent_lof) (lawOf_n a2 (by have := HM2.out; omega) wz) ?_
      rintro e w' ⟨rr, rfl, hz, hx⟩
      exact ⟨_, rfl, upd vs 11 _, rfl, k0.trans hx, inv_step hF (fun j v h => sg6F_mono hx j v h) hz⟩
    · refine step_yes (wanted_of_none rfl _) ?_
      obtain ⟨v0, e0, i0⟩ : ∃ v, vs 3 = v ∧ IsN a0 v wz := ⟨_, rfl, (hF 3 (he ⟨3, .data⟩ (by simp) rfl))⟩
      obtain ⟨n0', p0', l0', c0', rfl⟩ := IsN.parts i0
      obtain ⟨v1, e1, i1⟩ : ∃ v, vs 7 = v ∧ IsN a1 v wz := ⟨_, rfl, (hF 7 (he ⟨7, .data⟩ (by simp) rfl))⟩
      obtain ⟨n1', p1', l1', c1', rfl⟩ := IsN.parts i1
      obtain ⟨v2, e2, i2⟩ : ∃ v, vs 11 = v ∧ IsN a2 v wz := ⟨_, rfl, (hF 11 (he ⟨11, .data⟩ (by simp) rfl))⟩
      obtain ⟨n2', p2', l2', c2', rfl⟩ := IsN.parts i2
      exact wp_of_run (run_build3n (.tmp 26) (.tmp 30) (.tmp 34) rfl _ _ _ _ _ _ _ _ _ _ _ _ (by exact e0) (by exact e1) (by exact e2)) ⟨upd vs 12 _, rfl, k0, inv_step hF (fun _ _ h => h) ⟨_, _, _, _, _, _, _, _, _, _, _, _, rfl, i0, i1, i2⟩⟩
    · refine step_yes (wanted_of_none rfl _) ?_
      exact wp_of_run (run_alloc_a3 rfl) ⟨upd vs 13 _, rfl, k0.trans (Ext.alloc _ _), inv_step hF (fun j v h => sg6F_mono (Ext.alloc _ _) j v h) (ownA_new k0 (Nat.le_refl _))⟩
  case fin6 =>
    rintro D ac wfa hD ⟨vs, rfl, k0, hF⟩
    change wpList _ _ _ [_] _ _
    obtain ⟨vr, hvr, An0, Ap0, Al0, Ac0 , An1, Ap1, Al1, Ac1 , An2, Ap2, Al2, Ac2, hv2, i0, i1, i2⟩ : ∃ vr, vs 12 = vr ∧ Nums3 a0 a1 a2 vr wfa := ⟨_, rfl, hF 12 (hD 12 (by decide))⟩
    rw [hvr, hv2]
    obtain ⟨gA, hg, hle, hrow⟩ := hF 13 (hD 13 (by decide))
    rw [hg]
    have AR_ := Lib.hid hrow
    have LEA := Lib.hid (Nat.lt_of_lt_of_le Q_8.out.lt hle)
    have AN0_ := Lib.hid (isN_any i0)
    have AN1_ := Lib.hid (isN_any i1)
    have AN2_ := Lib.hid (isN_any i2)
    have E9 := Lib.hid (E8.out.trans k0)
    have N0_9 := Lib.hid (ANum.ext N0_8.out k0)
    have N1_9 := Lib.hid (ANum.ext N1_8.out k0)
    have N2_9 := Lib.hid (ANum.ext N2_8.out k0)
    have L_9 := Lib.hid (k0.row L_8.out)
    have Q_9 := Lib.hid (k0.row Q_8.out)
    clear E8 N0_8 N1_8 N2_8 L_8 Q_8
    clear hF hD hg hvr hrow hle k0 i0 i1 i2 hv2
    generalize vs = t6
    obtain ⟨W9c, hW9c⟩ : ∃ W9c, W9c = wfa.setRow gA (#[.bool An0, .slice Ap0 Al0 Ac0, .bool An1, .slice Ap1 Al1 Ac1, .bool An2, .slice Ap2 Al2 Ac2]) := ⟨_, rfl⟩
    have E10 : Hid (Ext w W9c) := by rw [hW9c]; exact ext_setRow E9.out (by have := LEA.out; omega) _
    have N0_10 := Lib.hid (show ANum W9c _ _ _ from by rw [hW9c]; exact N0_9.out.setAny AR_.out rfl _)
    have N1_10 := Lib.hid (show ANum W9c _ _ _ from by rw [hW9c]; exact N1_9.out.setAny AR_.out rfl _)
    have N2_10 := Lib.hid (show ANum W9c _ _ _ from by rw [hW9c]; exact N2_9.out.setAny AR_.out rfl _)
    have L_10 := Lib.hid (show RowAt W9c (w.heap.size) _ _ from by rw [hW9c]; exact L_9.out.setRowOther _ (by have := LEA.out; omega))
    have Q_10 := Lib.hid (show RowAt W9c (w.heap.size + 1) _ _ from by rw [hW9c]; exact Q_9.out.setRowOther _ (by have := LEA.out; omega))
    have AN0_10 := Lib.hid (show ANum W9c _ _ _ from by rw [hW9c]; exact AN0_.out.setAny AR_.out rfl _)
    have AN1_10 := Lib.hid (show ANum W9c _ _ _ from by rw [hW9c]; exact AN1_.out.setAny AR_.out rfl _)
    have AN2_10 := Lib.hid (show ANum W9c _ _ _ from by rw [hW9c]; exact AN2_.out.setAny AR_.out rfl _)
    have AR_10 : Hid (RowAt W9c gA 40 (#[.bool An0, .slice Ap0 Al0 Ac0, .bool An1, .slice Ap1 Al1 Ac1, .bool An2, .slice Ap2 Al2 Ac2])) := by rw [hW9c]; exact AR_.out.setRow _
    have HW9c := Lib.hid hW9c
    clear hW9c E9 N0_9 N1_9 N2_9 L_9 Q_9 AN0_ AN1_ AN2_
    go_upto_region 7 with (first | (refine store_a3 rfl (.tmp 7) (.tmp 35) rfl gA rfl _ _ _ _ _ _ _ _ _ _ _ _ rfl _ _ AR_.out rfl ?_; rw [← HW9c.out]))
    refine wp_region_tail (fun D ac w' => ∃ vs : Nat → Value, ac = { tmps := #[Value.agg #[Value.bool n0, Value.slice p0 l0 c0, Value.bool n1, Value.slice p1 l1 c1, Value.bool n2, Value.slice p2 l2 c2], Value.agg #[Value.int IntKind.i64 q0, Value.int IntKind.i64 q1, Value.int IntKind.i64 q2], Value.pointer (some { block := w.heap.size, off := 0 }), Value.pointer (some { block := w.heap.size + 1, off := 0 }), Value.bool false, Value.bool true, Value.int IntKind.i64 3, Value.pointer (some { block := gA, off := 0 }), vs 10, undef, undef, undef, Value.bool true, Value.int IntKind.i64 3, Value.bool false, Value.int IntKind.i64 2, Value.int IntKind.i64 3, Value.int IntKind.i64 2, Value.int IntKind.i64 2, Value.pointer (some { block := w.heap.size, off := 4 }), Value.agg #[Value.bool n2, Value.slice p2 l2 c2], Value.agg #[Value.bool n2, Value.slice p2 m2 c2], Value.pointer (some { block := w.heap.size, off := 4 }), t6 0, t6 1, t6 2, t6 3, t6 4, t6 5, t6 6, t6 7, t6 8, t6 9, t6 10, t6 11, Value.agg #[Value.bool An0, Value.slice Ap0 Al0 Ac0, Value.bool An1, Value.slice Ap1 Al1 Ac1, Value.bool An2, Value.slice Ap2 Al2 Ac2], vs 0, vs 1, vs 2, vs 3, vs 4, vs 5, vs 6, vs 7, vs 8, vs 9, undef, undef, undef, undef, undef, undef, undef, undef, undef, undef, undef, undef, undef, undef, undef, undef, undef, undef, undef, undef, undef, undef, undef, undef, undef, undef, undef], defers := [] } ∧ Ext W9c w' ∧ ∀ j, D j → sg7F (w.heap.size + 1) W9c.heap.size q0 q1 q2 j (vs j) w') 11 (by kernel_rfl) (by kernel_rfl) (by kernel_rfl) ?start7 ?step7 ?fin7
    case start7 => exact ⟨fun _ => undef, rfl, Ext.drew _, fun _ h => h.elim⟩
    case step7 =>
      rintro i o D ac wz hin hio hnd he ⟨vs, rfl, k0, hF⟩
      rcases i with _ | _ | _ | _ | _ | _ | _ | _ | _ | _ | _ | i
      rotate_left 11
      · exact absurd hin (by omega)
      all_goals (obtain rfl := Option.some.inj (hio.symm.trans (by rfl)))
      · refine step_yes (wanted_of_none rfl _) ?_
        exact wp_of_run (run_ixI3 0 (by decide) (.tmp 3) rfl _ rfl) ⟨upd vs 0 _, rfl, k0, inv_step hF (fun _ _ h => h) rfl⟩
      · refine step_yes (wanted_of_none rfl _) ?_
        exact wp_of_run (run_load_int_at (.tmp 36) rfl _ (by exact (hF 0 (he ⟨0, .data⟩ (by simp) rfl))) _ ((k0.row Q_10.out).cell 0)) ⟨upd vs 1 _, rfl, k0, inv_step hF (fun _ _ h => h) rfl⟩
      · refine step_yes (wanted_of_none rfl _) ?_
        refine wp_of_callE (run_enter1 12 (.tmp 37) _ rfl _ (by exact (hF 1 (he ⟨1, .data⟩ (by simp) rfl))) ent_lof) (lawOf_n q0 R0.out wz) ?_
        rintro e w' ⟨rr, rfl, hz, hx⟩
        exact ⟨_, rfl, upd vs 2 _, rfl, k0.trans hx, inv_step hF (fun j v h => sg7F_mono hx j v h) hz⟩
      · refine step_yes (wanted_of_none rfl _) ?_
        exact wp_of_run (run_ixI3 1 (by decide) (.tmp 3) rfl _ rfl) ⟨upd vs 3 _, rfl, k0, inv_step hF (fun _ _ h => h) rfl⟩
      · refine step_yes (wanted_of_none rfl _) ?_
        exact wp_of_run (run_load_int_at (.tmp 39) rfl _ (by exact (hF 3 (he ⟨3, .data⟩ (by simp) rfl))) _ ((k0.row Q_10.out).cell 1)) ⟨upd vs 4 _, rfl, k0, inv_step hF (fun _ _ h => h) rfl⟩
      · refine step_yes (wanted_of_none rfl _) ?_
        refine wp_of_callE (run_enter1 12 (.tmp 40) _ rfl _ (by exact (hF 4 (he ⟨4, .data⟩ (by simp) rfl))) ent_lof) (lawOf_n q1 R1.out wz) ?_
        rintro e w' ⟨rr, rfl, hz, hx⟩
        exact ⟨_, rfl, upd vs 5 _, rfl, k0.trans hx, inv_step hF (fun j v h => sg7F_mono hx j v h) hz⟩
      · refine step_yes (wanted_of_none rfl _) ?_
        exact wp_of_run (run_ixI3 2 (by decide) (.tmp 3) rfl _ rfl) ⟨upd vs 6 _, rfl, k0, inv_step hF (fun _ _ h => h) rfl⟩
      · refine step_yes (wanted_of_none rfl _) ?_
        exact wp_of_run (run_load_int_at (.tmp 42) rfl _ (by exact (hF 6 (he ⟨6, .data⟩ (by simp) rfl))) _ ((k0.row Q_10.out).cell 2)) ⟨upd vs 7 _, rfl, k0, inv_step hF (fun _ _ h => h) rfl⟩
      · refine step_yes (wanted_of_none rfl _) ?_
        refine wp_of_callE (run_enter1 12 (.tmp 43) _ rfl _ (by exact (hF 7 (he ⟨7, .data⟩ (by simp) rfl))) ent_lof) (lawOf_n q2 R2.out wz) ?_
        rintro e w' ⟨rr, rfl, hz, hx⟩
        exact ⟨_, rfl, upd vs 8 _, rfl, k0.trans hx, inv_step hF (fun j v h => sg7F_mono hx j v h) hz⟩
      · refine step_yes (wanted_of_none rfl _) ?_
        obtain ⟨v0, e0, i0⟩ : ∃ v, vs 2 = v ∧ IsN q0 v wz := ⟨_, rfl, (hF 2 (he ⟨2, .data⟩ (by simp) rfl))⟩
        obtain ⟨n0', p0', l0', c0', rfl⟩ := IsN.parts i0
        obtain ⟨v1, e1, i1⟩ : ∃ v, vs 5 = v ∧ IsN q1 v wz := ⟨_, rfl, (hF 5 (he ⟨5, .data⟩ (by simp) rfl))⟩
        obtain ⟨n1', p1', l1', c1', rfl⟩ := IsN.parts i1
        obtain ⟨v2, e2, i2⟩ : ∃ v, vs 8 = v ∧ IsN q2 v wz := ⟨_, rfl, (hF 8 (he ⟨8, .data⟩ (by simp) rfl))⟩
        obtain ⟨n2', p2', l2', c2', rfl⟩ := IsN.parts i2
        exact wp_of_run (run_build3n (.tmp 38) (.tmp 41) (.tmp 44) rfl _ _ _ _ _ _ _ _ _ _ _ _ (by exact e0) (by exact e1) (by exact e2)) ⟨upd vs 9 _, rfl, k0, inv_step hF (fun _ _ h => h) ⟨_, _, _, _, _, _, _, _, _, _, _, _, rfl, i0, i1, i2⟩⟩
      · refine step_yes (wanted_of_none rfl _) ?_
        exact wp_of_run (run_alloc_a3 rfl) ⟨upd vs 10 _, rfl, k0.trans (Ext.alloc _ _), inv_step hF (fun j v h => sg7F_mono (Ext.alloc _ _) j v h) (ownA_new k0 (Nat.le_refl _))⟩
    case fin7 =>
      rintro D ac wfb hD ⟨vs, rfl, k0, hF⟩
      change wpList _ _ _ [_] _ _
      obtain ⟨vr, hvr, Bn0, Bp0, Bl0, Bc0 , Bn1, Bp1, Bl1, Bc1 , Bn2, Bp2, Bl2, Bc2, hv2, i0, i1, i2⟩ : ∃ vr, vs 9 = vr ∧ Nums3 q0 q1 q2 vr wfb := ⟨_, rfl, hF 9 (hD 9 (by decide))⟩
      rw [hvr, hv2]
      obtain ⟨gB, hg, hle, hrow⟩ := hF 10 (hD 10 (by decide))
      rw [hg]
      have BR_ := Lib.hid hrow
      have LEB := Lib.hid (Nat.lt_of_lt_of_le Q_10.out.lt hle)
      have BN0_ := Lib.hid (isN_any i0)
      have BN1_ := Lib.hid (isN_any i1)
      have BN2_ := Lib.hid (isN_any i2)
      have LFB := Lib.hid (show gA < gB from Nat.lt_of_lt_of_le AR_10.out.lt hle)
      have E11 := Lib.hid (E10.out.trans k0)
      have N0_11 := Lib.hid (ANum.ext N0_10.out k0)
      have N1_11 := Lib.hid (ANum.ext N1_10.out k0)
      have N2_11 := Lib.hid (ANum.ext N2_10.out k0)
      have L_11 := Lib.hid (k0.row L_10.out)
      have Q_11 := Lib.hid (k0.row Q_10.out)
      have AN0_11 := Lib.hid (ANum.ext AN0_10.out k0)
      have AN1_11 := Lib.hid (ANum.ext AN1_10.out k0)
      have AN2_11 := Lib.hid (ANum.ext AN2_10.out k0)
      have AR_11 := Lib.hid (k0.row AR_10.out)
      clear E10 N0_10 N1_10 N2_10 L_10 Q_10 AN0_10 AN1_10 AN2_10 AR_10
      clear hF hD hg hvr hrow hle k0 i0 i1 i2 hv2
      generalize vs = t7
      obtain ⟨W11c, hW11c⟩ : ∃ W11c, W11c = wfb.setRow gB (#[.bool Bn0, .slice Bp0 Bl0 Bc0, .bool Bn1, .slice Bp1 Bl1 Bc1, .bool Bn2, .slice Bp2 Bl2 Bc2]) := ⟨_, rfl⟩
      have E12 : Hid (Ext w W11c) := by rw [hW11c]; exact ext_setRow E11.out (by have := LEB.out; have := LEA.out; have := LFB.out; omega) _
      have N0_12 := Lib.hid (show ANum W11c _ _ _ from by rw [hW11c]; exact N0_11.out.setAny BR_.out rfl _)
      have N1_12 := Lib.hid (show ANum W11c _ _ _ from by rw [hW11c]; exact N1_11.out.setAny BR_.out rfl _)
      have N2_12 := Lib.hid (show ANum W11c _ _ _ from by rw [hW11c]; exact N2_11.out.setAny BR_.out rfl _)
      have L_12 := Lib.hid (show RowAt W11c (w.heap.size) _ _ from by rw [hW11c]; exact L_11.out.setRowOther _ (by have := LEB.out; have := LEA.out; have := LFB.out; omega))
      have Q_12 := Lib.hid (show RowAt W11c (w.heap.size + 1) _ _ from by rw [hW11c]; exact Q_11.out.setRowOther _ (by have := LEB.out; have := LEA.out; have := LFB.out; omega))
      have AN0_12 := Lib.hid (show ANum W11c _ _ _ from by rw [hW11c]; exact AN0_11.out.setAny BR_.out rfl _)
      have AN1_12 := Lib.hid (show ANum W11c _ _ _ from by rw [hW11c]; exact AN1_11.out.setAny BR_.out rfl _)
      have AN2_12 := Lib.hid (show ANum W11c _ _ _ from by rw [hW11c]; exact AN2_11.out.setAny BR_.out rfl _)
      have AR_12 := Lib.hid (show RowAt W11c gA _ _ from by rw [hW11c]; exact AR_11.out.setRowOther _ (by have := LEB.out; have := LEA.out; have := LFB.out; omega))
      have BN0_12 := Lib.hid (show ANum W11c _ _ _ from by rw [hW11c]; exact BN0_.out.setAny BR_.out rfl _)
      have BN1_12 := Lib.hid (show ANum W11c _ _ _ from by rw [hW11c]; exact BN1_.out.setAny BR_.out rfl _)
      have BN2_12 := Lib.hid (show ANum W11c _ _ _ from by rw [hW11c]; exact BN2_.out.setAny BR_.out rfl _)
      have BR_12 : Hid (RowAt W11c gB 40 (#[.bool Bn0, .slice Bp0 Bl0 Bc0, .bool Bn1, .slice Bp1 Bl1 Bc1, .bool Bn2, .slice Bp2 Bl2 Bc2])) := by rw [hW11c]; exact BR_.out.setRow _
      have HW11c := Lib.hid hW11c
      clear hW11c E11 N0_11 N1_11 N2_11 L_11 Q_11 AN0_11 AN1_11 AN2_11 AR_11 BN0_ BN1_ BN2_
      go_upto_region 8 with (first | (refine store_a3 rfl (.tmp 8) (.tmp 45) rfl gB rfl _ _ _ _ _ _ _ _ _ _ _ _ rfl _ _ BR_.out rfl ?_; rw [← HW11c.out]))
      have cl0 := (show (W11c).cell? ⟨w.heap.size, 0, none⟩ = some (.bool n0) from L_12.out.cell 0)
      have cl1 := (show (W11c).cell? ⟨w.heap.size, 1, none⟩ = some (.slice p0 m0 c0) from L_12.out.cell 1)
      have cl2 := (show (W11c).cell? ⟨w.heap.size, 2, none⟩ = some (.bool n1) from L_12.out.cell 2)
      have cl3 := (show (W11c).cell? ⟨w.heap.size, 3, none⟩ = some (.slice p1 m1 c1) from L_12.out.cell 3)
      have cl4 := (show (W11c).cell? ⟨w.heap.size, 4, none⟩ = some (.bool n2) from L_12.out.cell 4)
      have cl5 := (show (W11c).cell? ⟨w.heap.size, 5, none⟩ = some (.slice p2 m2 c2) from L_12.out.cell 5)
      have ca0 := (show (W11c).cell? ⟨gA, 0, none⟩ = some (.bool An0) from AR_12.out.cell 0)
      have ca1 := (show (W11c).cell? ⟨gA, 1, none⟩ = some (.slice Ap0 Al0 Ac0) from AR_12.out.cell 1)
      have ca2 := (show (W11c).cell? ⟨gA, 2, none⟩ = some (.bool An1) from AR_12.out.cell 2)
      have ca3 := (show (W11c).cell? ⟨gA, 3, none⟩ = some (.slice Ap1 Al1 Ac1) from AR_12.out.cell 3)
      have ca4 := (show (W11c).cell? ⟨gA, 4, none⟩ = some (.bool An2) from AR_12.out.cell 4)
      have ca5 := (show (W11c).cell? ⟨gA, 5, none⟩ = some (.slice Ap2 Al2 Ac2) from AR_12.out.cell 5)
      have cb0 := (show (W11c).cell? ⟨gB, 0, none⟩ = some (.bool Bn0) from BR_12.out.cell 0)
      have cb1 := (show (W11c).cell? ⟨gB, 1, none⟩ = some (.slice Bp0 Bl0 Bc0) from BR_12.out.cell 1)
      have cb2 := (show (W11c).cell? ⟨gB, 2, none⟩ = some (.bool Bn1) from BR_12.out.cell 2)
      have cb3 := (show (W11c).cell? ⟨gB, 3, none⟩ = some (.slice Bp1 Bl1 Bc1) from BR_12.out.cell 3)
      have cb4 := (show (W11c).cell? ⟨gB, 4, none⟩ = some (.bool Bn2) from BR_12.out.cell 4)
      have cb5 := (show (W11c).cell? ⟨gB, 5, none⟩ = some (.slice Bp2 Bl2 Bc2) from BR_12.out.cell 5)
      obtain ⟨W12a, hW12a⟩ : ∃ W12a, W12a = (W11c.alloc (.cells #[.bool n0, .slice p0 m0 c0, .bool n1, .slice p1 m1 c1, .bool n2, .slice p2 m2 c2, .bool An0, .slice Ap0 Al0 Ac0, .bool An1, .slice Ap1 Al1 Ac1, .bool An2, .slice Ap2 Al2 Ac2, .bool Bn0, .slice Bp0 Bl0 Bc0, .bool Bn1, .slice Bp1 Bl1 Bc1, .bool Bn2, .slice Bp2 Bl2 Bc2] 42)) := ⟨_, rfl⟩
      have hx : Ext W11c W12a := by rw [hW12a]; exact (Ext.alloc _ _)
      have W_n : RowAt W12a (W11c.heap.size) 42 #[.bool n0, .slice p0 m0 c0, .bool n1, .slice p1 m1 c1, .bool n2, .slice p2 m2 c2, .bool An0, .slice Ap0 Al0 Ac0, .bool An1, .slice Ap1 Al1 Ac1, .bool An2, .slice Ap2 Al2 Ac2, .bool Bn0, .slice Bp0 Bl0 Bc0, .bool Bn1, .slice Bp1 Bl1 Bc1, .bool Bn2, .slice Bp2 Bl2 Bc2] := by rw [hW12a]; exact (RowAt.new' _ _ (by simp))
      have E13 := Lib.hid (E12.out.trans hx)
      have N0_13 := Lib.hid (ANum.ext N0_12.out hx)
      have N1_13 := Lib.hid (ANum.ext N1_12.out hx)
      have N2_13 := Lib.hid (ANum.ext N2_12.out hx)
      have L_13 := Lib.hid (hx.row L_12.out)
      have Q_13 := Lib.hid (hx.row Q_12.out)
      have AN0_13 := Lib.hid (ANum.ext AN0_12.out hx)
      have AN1_13 := Lib.hid (ANum.ext AN1_12.out hx)
      have AN2_13 := Lib.hid (ANum.ext AN2_12.out hx)
      have AR_13 := Lib.hid (hx.row AR_12.out)
      have BN0_13 := Lib.hid (ANum.ext BN0_12.out hx)
      have BN1_13 := Lib.hid (ANum.ext BN1_12.out hx)
      have BN2_13 := Lib.hid (ANum.ext BN2_12.out hx)
      have BR_13 := Lib.hid (hx.row BR_12.out)
      clear E12 N0_12 N1_12 N2_12 L_12 Q_12 AN0_12 AN1_12 AN2_12 AR_12 BN0_12 BN1_12 BN2_12 BR_12
      have W_13 := Lib.hid W_n
      have HW12a := Lib.hid hW12a
      clear hx hW12a W_n
      go_wp2_with fail
      rw [← HW12a.out]
      refine wp_loop_rounds 4 ?_
      rw [rounds_succ]
      clear cl0 cl1 cl2 cl3 cl4 cl5
      clear ca0 ca1 ca2 ca3 ca4 ca5
      clear cb0 cb1 cb2 cb3 cb4 cb5
      obtain ⟨r0, hr⟩ := sign_any N0_13.out N1_13.out N2_13.out
      have SG0 := Lib.hid hr
      clear hr
      have cw0 := (show (W12a).cell? ⟨W11c.heap.size, 0, none⟩ = some (.bool n0) from W_13.out.cell 0)
      have cw1 := (show (W12a).cell? ⟨W11c.heap.size, 1, none⟩ = some (.slice p0 m0 c0) from W_13.out.cell 1)
      have cw2 := (show (W12a).cell? ⟨W11c.heap.size, 2, none⟩ = some (.bool n1) from W_13.out.cell 2)
      have cw3 := (show (W12a).cell? ⟨W11c.heap.size, 3, none⟩ = some (.slice p1 m1 c1) from W_13.out.cell 3)
      have cw4 := (show (W12a).cell? ⟨W11c.heap.size, 4, none⟩ = some (.bool n2) from W_13.out.cell 4)
      have cw5 := (show (W12a).cell? ⟨W11c.heap.size, 5, none⟩ = some (.slice p2 m2 c2) from W_13.out.cell 5)
      obtain ⟨W13a, hW13a⟩ : ∃ W13a, W13a = (W12a.alloc (.cells #[.bool n0, .slice p0 m0 c0, .bool n1, .slice p1 m1 c1, .bool n2, .slice p2 m2 c2] 40)) := ⟨_, rfl⟩
      have hx : Ext W12a W13a := by rw [hW13a]; exact (Ext.alloc _ _)
      have X0_n : RowAt W13a (W12a.heap.size) 40 #[.bool n0, .slice p0 m0 c0, .bool n1, .slice p1 m1 c1, .bool n2, .slice p2 m2 c2] := by rw [hW13a]; exact (RowAt.new' _ _ (by simp))
      have E14 := Lib.hid (E13.out.trans hx)
      have N0_14 := Lib.hid (ANum.ext N0_13.out hx)
      have N1_14 := Lib.hid (ANum.ext N1_13.out hx)
      have N2_14 := Lib.hid (ANum.ext N2_13.out hx)
      have L_14 := Lib.hid (hx.row L_13.out)
      have Q_14 := Lib.hid (hx.row Q_13.out)
      have AN0_14 := Lib.hid (ANum.ext AN0_13.out hx)
      have AN1_14 := Lib.hid (ANum.ext AN1_13.out hx)
      have AN2_14 := Lib.hid (ANum.ext AN2_13.out hx)
      have AR_14 := Lib.hid (hx.row AR_13.out)
      have BN0_14 := Lib.hid (ANum.ext BN0_13.out hx)
      have BN1_14 := Lib.hid (ANum.ext BN1_13.out hx)
      have BN2_14 := Lib.hid (ANum.ext BN2_13.out hx)
      have BR_14 := Lib.hid (hx.row BR_13.out)
      have W_14 := Lib.hid (hx.row W_13.out)
      clear E13 N0_13 N1_13 N2_13 L_13 Q_13 AN0_13 AN1_13 AN2_13 AR_13 BN0_13 BN1_13 BN2_13 BR_13 W_13
      have X0_14 := Lib.hid X0_n
      have HW13a := Lib.hid hW13a
      clear hx hW13a X0_n
      have XE0 := Lib.hid (show Ext W12a W13a from by rw [HW13a.out]; exact Ext.alloc _ _)
      go_upto_region 13 with (fail)
      rw [← HW13a.out]
      clear cw0 cw1 cw2 cw3 cw4 cw5
      refine wp_region_tail (fun D ac w' => ∃ vs : Nat → Value, ac = { tmps := #[Value.agg #[Value.bool n0, Value.slice p0 l0 c0, Value.bool n1, Value.slice p1 l1 c1, Value.bool n2, Value.slice p2 l2 c2], Value.agg #[Value.int IntKind.i64 q0, Value.int IntKind.i64 q1, Value.int IntKind.i64 q2], Value.pointer (some { block := w.heap.size, off := 0 }), Value.pointer (some { block := w.heap.size + 1, off := 0 }), Value.bool false, Value.bool true, Value.int IntKind.i64 3, Value.pointer (some { block := gA, off := 0 }), Value.pointer (some { block := gB, off := 0 }), Value.pointer (some { block := W11c.heap.size, off := 0 }), Value.int IntKind.i64 0, Value.pointer (some { block := W12a.heap.size, off := 0 }), Value.bool true, Value.int IntKind.i64 3, Value.bool false, Value.int IntKind.i64 2, Value.int IntKind.i64 3, Value.int IntKind.i64 2, Value.int IntKind.i64 2, Value.pointer (some { block := w.heap.size, off := 4 }), Value.agg #[Value.bool n2, Value.slice p2 l2 c2], Value.agg #[Value.bool n2, Value.slice p2 m2 c2], Value.pointer (some { block := w.heap.size, off := 4 }), t6 0, t6 1, t6 2, t6 3, t6 4, t6 5, t6 6, t6 7, t6 8, t6 9, t6 10, t6 11, Value.agg #[Value.bool An0, Value.slice Ap0 Al0 Ac0, Value.bool An1, Value.slice Ap1 Al1 Ac1, Value.bool An2, Value.slice Ap2 Al2 Ac2], t7 0, t7 1, t7 2, t7 3, t7 4, t7 5, t7 6, t7 7, t7 8, Value.agg #[Value.bool Bn0, Value.slice Bp0 Bl0 Bc0, Value.bool Bn1, Value.slice Bp1 Bl1 Bc1, Value.bool Bn2, Value.slice Bp2 Bl2 Bc2], Value.agg #[Value.bool n0, Value.slice p0 m0 c0, Value.bool n1, Value.slice p1 m1 c1, Value.bool n2, Value.slice p2 m2 c2], Value.agg #[Value.bool An0, Value.slice Ap0 Al0 Ac0, Value.bool An1, Value.slice Ap1 Al1 Ac1, Value.bool An2, Value.slice Ap2 Al2 Ac2], Value.agg #[Value.bool Bn0, Value.slice Bp0 Bl0 Bc0, Value.bool Bn1, Value.slice Bp1 Bl1 Bc1, Value.bool Bn2, Value.slice Bp2 Bl2 Bc2], Value.agg #[Value.bool n0, Value.slice p0 m0 c0, Value.bool n1, Value.slice p1 m1 c1, Value.bool n2, Value.slice p2 m2 c2, Value.bool An0, Value.slice Ap0 Al0 Ac0, Value.bool An1, Value.slice Ap1 Al1 Ac1, Value.bool An2, Value.slice Ap2 Al2 Ac2, Value.bool Bn0, Value.slice Bp0 Bl0 Bc0, Value.bool Bn1, Value.slice Bp1 Bl1 Bc1, Value.bool Bn2, Value.slice Bp2 Bl2 Bc2], Value.int IntKind.i64 0, Value.bool true, undef, undef, Value.int IntKind.i64 0, Value.pointer (some { block := W11c.heap.size, off := 0 }), Value.agg #[Value.bool n0, Value.slice p0 m0 c0, Value.bool n1, Value.slice p1 m1 c1, Value.bool n2, Value.slice p2 m2 c2], vs 0, vs 1, vs 2, vs 3, vs 4, vs 5, vs 6, vs 7, vs 8, vs 9, vs 10, vs 11, vs 12, vs 13, vs 14, undef], defers := [] } ∧ Ext W13a w' ∧ ∀ j, D j → sg13F (W12a.heap.size) (.agg #[.bool n0, .slice p0 m0 c0]) (.agg #[.bool n1, .slice p1 m1 c1]) (.agg #[.bool n2, .slice p2 m2 c2]) r0 j (vs j) w') 15 (by kernel_rfl) (by kernel_rfl) (by kernel_rfl) ?starts0 ?steps0 ?fins0
      case starts0 => exact ⟨fun _ => undef, rfl, Ext.drew _, fun _ h => h.elim⟩
      case steps0 =>
        rintro i o D ac wz hin hio hnd he ⟨vs, rfl, k0, hF⟩
        rcases i with _ | _ | _ | _ | _ | _ | _ | _ | _ | _ | _ | _ | _ | _ | _ | i
        rotate_left 15
        · exact absurd hin (by omega)
        all_goals (obtain rfl := Option.some.inj (hio.symm.trans (by rfl)))
        · refine step_yes (wanted_of_none rfl _) ?_
          exact wp_of_run (run_ixN3 0 (by decide) (.tmp 11) rfl _ rfl) ⟨upd vs 0 _, rfl, k0, inv_step hF (fun _ _ h => h) rfl⟩
        · refine step_yes (wanted_of_none rfl _) ?_
          exact wp_of_run (run_load_n3_0 (.tmp 57) rfl _ (by exact (hF 0 (he ⟨0, .data⟩ (by simp) rfl))) _ _ _ _ _ _ _ _ _ (k0.row X0_14.out)) ⟨upd vs 1 _, rfl, k0, inv_step hF (fun _ _ h => h) rfl⟩
        · refine step_yes (wanted_of_none rfl _) ?_
          exact wp_of_run (run_ixN3 1 (by decide) (.tmp 11) rfl _ rfl) ⟨upd vs 2 _, rfl, k0, inv_step hF (fun _ _ h => h) rfl⟩
        · refine step_yes (wanted_of_none rfl _) ?_
          exact wp_of_run (run_load_n3_1 (.tmp 59) rfl _ (by exact (hF 2 (he ⟨2, .data⟩ (by simp) rfl))) _ _ _ _ _ _ _ _ _ (k0.row X0_14.out)) ⟨upd vs 3 _, rfl, k0, inv_step hF (fun _ _ h => h) rfl⟩
        · refine step_yes (wanted_of_none rfl _) ?_
          exact wp_of_run (run_ixN3 2 (by decide) (.tmp 11) rfl _ rfl) ⟨upd vs 4 _, rfl, k0, inv_step hF (fun _ _ h => h) rfl⟩
        · refine step_yes (wanted_of_none rfl _) ?_
          exact wp_of_run (run_load_n3_2 (.tmp 61) rfl _ (by exact (hF 4 (he ⟨4, .data⟩ (by simp) rfl))) _ _ _ _ _ _ _ _ _ (k0.row X0_14.out)) ⟨upd vs 5 _, rfl, k0, inv_step hF (fun _ _ h => h) rfl⟩
        · refine step_yes (wanted_of_none rfl _) ?_
          refine wp_of_callE (run_enter3 21 (.tmp 58) (.tmp 60) (.tmp 62) _ rfl _ _ _ (by exact (hF 1 (he ⟨1, .data⟩ (by simp) rfl))) (by exact (hF 3 (he ⟨3, .data⟩ (by simp) rfl))) (by exact (hF 5 (he ⟨5, .data⟩ (by simp) rfl))) ent_sign) ((SG0.out wz (XE0.out.trans k0)).1) ?_
          rintro e w' ⟨rfl, hx⟩
          exact ⟨_, rfl, upd vs 6 _, rfl, k0.trans hx, inv_step hF (fun j v h => sg13F_mono hx j v h) rfl⟩
        · refine step_yes (wanted_of_none rfl _) ?_
          exact wp_of_run (run_ixN3 0 (by decide) (.tmp 11) rfl _ rfl) ⟨upd vs 7 _, rfl, k0, inv_step hF (fun _ _ h => h) rfl⟩
        · refine step_yes (wanted_of_none rfl _) ?_
          exact wp_of_run (run_load_n3_0 (.tmp 64) rfl _ (by exact (hF 7 (he ⟨7, .data⟩ (by simp) rfl))) _ _ _ _ _ _ _ _ _ (k0.row X0_14.out)) ⟨upd vs 8 _, rfl, k0, inv_step hF (fun _ _ h => h) rfl⟩
        · refine step_yes (wanted_of_none rfl _) ?_
          exact wp_of_run (run_ixN3 1 (by decide) (.tmp 11) rfl _ rfl) ⟨upd vs 9 _, rfl, k0, inv_step hF (fun _ _ h => h) rfl⟩
        · refine step_yes (wanted_of_none rfl _) ?_
          exact wp_of_run (run_load_n3_1 (.tmp 66) rfl _ (by exact (hF 9 (he ⟨9, .data⟩ (by simp) rfl))) _ _ _ _ _ _ _ _ _ (k0.row X0_14.out)) ⟨upd vs 10 _, rfl, k0, inv_step hF (fun _ _ h => h) rfl⟩
        · refine step_yes (wanted_of_none rfl _) ?_
          exact wp_of_run (run_ixN3 2 (by decide) (.tmp 11) rfl _ rfl) ⟨upd vs 11 _, rfl, k0, inv_step hF (fun _ _ h => h) rfl⟩
        · refine step_yes (wanted_of_none rfl _) ?_
          exact wp_of_run (run_load_n3_2 (.tmp 68) rfl _ (by exact (hF 11 (he ⟨11, .data⟩ (by simp) rfl))) _ _ _ _ _ _ _ _ _ (k0.row X0_14.out)) ⟨upd vs 12 _, rfl, k0, inv_step hF (fun _ _ h => h) rfl⟩
        · refine step_yes (wanted_of_none rfl _) ?_
          refine wp_of_callE (run_enter3 22 (.tmp 65) (.tmp 67) (.tmp 69) _ rfl _ _ _ (by exact (hF 8 (he ⟨8, .data⟩ (by simp) rfl))) (by exact (hF 10 (he ⟨10, .data⟩ (by simp) rfl))) (by exact (hF 12 (he ⟨12, .data⟩ (by simp) rfl))) ent_r2sign) ((SG0.out wz (XE0.out.trans k0)).2) ?_
          rintro e w' ⟨rfl, hx⟩
          exact ⟨_, rfl, upd vs 13 _, rfl, k0.trans hx, inv_step hF (fun j v h => sg13F_mono hx j v h) rfl⟩
        · refine step_yes (wanted_of_none rfl _) ?_
          exact wp_of_run (run_neq_int (.tmp 63) (.tmp 70) rfl _ (by exact (hF 6 (he ⟨6, .data⟩ (by simp) rfl))) (by exact (hF 13 (he ⟨13, .data⟩ (by simp) rfl)))) ⟨upd vs 14 _, rfl, k0, inv_step hF (fun _ _ h => h) rfl⟩
      case fins0 =>
        rintro D ac wg0 hD ⟨vs, rfl, k0, hF⟩
        change wpList _ _ _ [] _ _
        unfold wpList
        have h14 : vs 14 = .bool false := hF 14 (hD 14 (by decide))
        rw [h14]
        have E15 := Lib.hid (E14.out.trans k0)
        have N0_15 := Lib.hid (ANum.ext N0_14.out k0)
        have N1_15 := Lib.hid (ANum.ext N1_14.out k0)
        have N2_15 := Lib.hid (ANum.ext N2_14.out k0)
        have L_15 := Lib.hid (k0.row L_14.out)
        have Q_15 := Lib.hid (k0.row Q_14.out)
        have AN0_15 := Lib.hid (ANum.ext AN0_14.out k0)
        have AN1_15 := Lib.hid (ANum.ext AN1_14.out k0)
        have AN2_15 := Lib.hid (ANum.ext AN2_14.out k0)
        have AR_15 := Lib.hid (k0.row AR_14.out)
        have BN0_15 := Lib.hid (ANum.ext BN0_14.out k0)
        have BN1_15 := Lib.hid (ANum.ext BN1_14.out k0)
        have BN2_15 := Lib.hid (ANum.ext BN2_14.out k0)
        have BR_15 := Lib.hid (k0.row BR_14.out)
        have W_15 := Lib.hid (k0.row W_14.out)
        have X0_15 := Lib.hid (k0.row X0_14.out)
        clear E14 N0_14 N1_14 N2_14 L_14 Q_14 AN0_14 AN1_14 AN2_14 AR_14 BN0_14 BN1_14 BN2_14 BR_14 W_14 X0_14
        clear hF hD h14 k0
        generalize vs = ts0
        clear X0_15
        go_wp2_with fail
        rw [rounds_succ]
        obtain ⟨r1, hr⟩ := sign_any AN0_15.out AN1_15.out AN2_15.out
        have SG1 := Lib.hid hr
        clear hr
        have cw6 := (show (wg0).cell? ⟨W11c.heap.size, 6, none⟩ = some (.bool An0) from W_15.out.cell 6)
        have cw7 := (show (wg0).cell? ⟨W11c.heap.size, 7, none⟩ = some (.slice Ap0 Al0 Ac0) from W_15.out.cell 7)
        have cw8 := (show (wg0).cell? ⟨W11c.heap.size, 8, none⟩ = some (.bool An1) from W_15.out.cell 8)
        have cw9 := (show (wg0).cell? ⟨W11c.heap.size, 9, none⟩ = some (.slice Ap1 Al1 Ac1) from W_15.out.cell 9)
        have cw10 := (show (wg0).cell? ⟨W11c.heap.size, 10, none⟩ = some (.bool An2) from W_15.out.cell 10)
        have cw11 := (show (wg0).cell? ⟨W11c.heap.size, 11, none⟩ = some (.slice Ap2 Al2 Ac2) from W_15.out.cell 11)
        obtain ⟨W15a, hW15a⟩ : ∃ W15a, W15a = (wg0.alloc (.cells #[.bool An0, .slice Ap0 Al0 Ac0, .bool An1, .slice Ap1 Al1 Ac1, .bool An2, .slice Ap2 Al2 Ac2] 40)) := ⟨_, rfl⟩
        have hx : Ext wg0 W15a := by rw [hW15a]; exact (Ext.alloc _ _)
        have X1_n : RowAt W15a (wg0.heap.size) 40 #[.bool An0, .slice Ap0 Al0 Ac0, .bool An1, .slice Ap1 Al1 Ac1, .bool An2, .slice Ap2 Al2 Ac2] := by rw [hW15a]; exact (RowAt.new' _ _ (by simp))
        have E16 := Lib.hid (E15.out.trans hx)
        have N0_16 := Lib.hid (ANum.ext N0_15.out hx)
        have N1_16 := Lib.hid (ANum.ext N1_15.out hx)
        have N2_16 := Lib.hid (ANum.ext N2_15.out hx)
        have L_16 := Lib.hid (hx.row L_15.out)
        have Q_16 := Lib.hid (hx.row Q_15.out)
        have AN0_16 := Lib.hid (ANum.ext AN0_15.out hx)
        have AN1_16 := Lib.hid (ANum.ext AN1_15.out hx)
        have AN2_16 := Lib.hid (ANum.ext AN2_15.out hx)
        have AR_16 := Lib.hid (hx.row AR_15.out)
        have BN0_16 := Lib.hid (ANum.ext BN0_15.out hx)
        have BN1_16 := Lib.hid (ANum.ext BN1_15.out hx)
        have BN2_16 := Lib.hid (ANum.ext BN2_15.out hx)
        have BR_16 := Lib.hid (hx.row BR_15.out)
        have W_16 := Lib.hid (hx.row W_15.out)
        clear E15 N0_15 N1_15 N2_15 L_15 Q_15 AN0_15 AN1_15 AN2_15 AR_15 BN0_15 BN1_15 BN2_15 BR_15 W_15
        have X1_16 := Lib.hid X1_n
        have HW15a := Lib.hid hW15a
        clear hx hW15a X1_n
        have XE1 := Lib.hid (show Ext wg0 W15a from by rw [HW15a.out]; exact Ext.alloc _ _)
        go_upto_region 13 with (fail)
        rw [← HW15a.out]
        clear cw6 cw7 cw8 cw9 cw10 cw11
        refine wp_region_tail (fun D ac w' => ∃ vs : Nat → Value, ac = { tmps := #[Value.agg #[Value.bool n0, Value.slice p0 l0 c0, Value.bool n1, Value.slice p1 l1 c1, Value.bool n2, Value.slice p2 l2 c2], Value.agg #[Value.int IntKind.i64 q0, Value.int IntKind.i64 q1, Value.int IntKind.i64 q2], Value.pointer (some { block := w.heap.size, off := 0 }), Value.pointer (some { block := w.heap.size + 1, off := 0 }), Value.bool false, Value.bool true, Value.int IntKind.i64 3, Value.pointer (some { block := gA, off := 0 }), Value.pointer (some { block := gB, off := 0 }), Value.pointer (some { block := W11c.heap.size, off := 0 }), Value.int IntKind.i64 1, Value.pointer (some { block := wg0.heap.size, off := 0 }), Value.bool true, Value.int IntKind.i64 3, Value.bool false, Value.int IntKind.i64 2, Value.int IntKind.i64 3, Value.int IntKind.i64 2, Value.int IntKind.i64 2, Value.pointer (some { block := w.heap.size, off := 4 }), Value.agg #[Value.bool n2, Value.slice p2 l2 c2], Value.agg #[Value.bool n2, Value.slice p2 m2 c2], Value.pointer (some { block := w.heap.size, off := 4 }), t6 0, t6 1, t6 2, t6 3, t6 4, t6 5, t6 6, t6 7, t6 8, t6 9, t6 10, t6 11, Value.agg #[Value.bool An0, Value.slice Ap0 Al0 Ac0, Value.bool An1, Value.slice Ap1 Al1 Ac1, Value.bool An2, Value.slice Ap2 Al2 Ac2], t7 0, t7 1, t7 2, t7 3, t7 4, t7 5, t7 6, t7 7, t7 8, Value.agg #[Value.bool Bn0, Value.slice Bp0 Bl0 Bc0, Value.bool Bn1, Value.slice Bp1 Bl1 Bc1, Value.bool Bn2, Value.slice Bp2 Bl2 Bc2], Value.agg #[Value.bool n0, Value.slice p0 m0 c0, Value.bool n1, Value.slice p1 m1 c1, Value.bool n2, Value.slice p2 m2 c2], Value.agg #[Value.bool An0, Value.slice Ap0 Al0 Ac0, Value.bool An1, Value.slice Ap1 Al1 Ac1, Value.bool An2, Value.slice Ap2 Al2 Ac2], Value.agg #[Value.bool Bn0, Value.slice Bp0 Bl0 Bc0, Value.bool Bn1, Value.slice Bp1 Bl1 Bc1, Value.bool Bn2, Value.slice Bp2 Bl2 Bc2], Value.agg #[Value.bool n0, Value.slice p0 m0 c0, Value.bool n1, Value.slice p1 m1 c1, Value.bool n2, Value.slice p2 m2 c2, Value.bool An0, Value.slice Ap0 Al0 Ac0, Value.bool An1, Value.slice Ap1 Al1 Ac1, Value.bool An2, Value.slice Ap2 Al2 Ac2, Value.bool Bn0, Value.slice Bp0 Bl0 Bc0, Value.bool Bn1, Value.slice Bp1 Bl1 Bc1, Value.bool Bn2, Value.slice Bp2 Bl2 Bc2], Value.int IntKind.i64 1, Value.bool true, Value.int IntKind.i64 0, Value.int IntKind.i64 1, Value.int IntKind.i64 1, Value.pointer (some { block := W11c.heap.size, off := 6 }), Value.agg #[Value.bool An0, Value.slice Ap0 Al0 Ac0, Value.bool An1, Value.slice Ap1 Al1 Ac1, Value.bool An2, Value.slice Ap2 Al2 Ac2], vs 0, vs 1, vs 2, vs 3, vs 4, vs 5, vs 6, vs 7, vs 8, vs 9, vs 10, vs 11, vs 12, vs 13, vs 14, undef], defers := [] } ∧ Ext W15a w' ∧ ∀ j, D j → sg13F (wg0.heap.size) (.agg #[.bool An0, .slice Ap0 Al0 Ac0]) (.agg #[.bool An1, .slice Ap1 Al1 Ac1]) (.agg #[.bool An2, .slice Ap2 Al2 Ac2]) r1 j (vs j) w') 15 (by kernel_rfl) (by kernel_rfl) (by kernel_rfl) ?starts1 ?steps1 ?fins1
        case starts1 => exact ⟨fun j => match j with | 0 => ts0 0 | 1 => ts0 1 | 2 => ts0 2 | 3 => ts0 3 | 4 => ts0 4 | 5 => ts0 5 | 6 => ts0 6 | 7 => ts0 7 | 8 => ts0 8 | 9 => ts0 9 | 10 => ts0 10 | 11 => ts0 11 | 12 => ts0 12 | 13 => ts0 13 | 14 => Value.bool false | _ => undef, rfl, Ext.drew _, fun _ h => h.elim⟩
        case steps1 =>
          rintro i o D ac wz hin hio hnd he ⟨vs, rfl, k0, hF⟩
          rcases i with _ | _ | _ | _ | _ | _ | _ | _ | _ | _ | _ | _ | _ | _ | _ | i
          rotate_left 15
          · exact absurd hin (by omega)
          all_goals (obtain rfl := Option.some.inj (hio.symm.trans (by rfl)))
          · refine step_yes (wanted_of_none rfl _) ?_
            exact wp_of_run (run_ixN3 0 (by decide) (.tmp 11) rfl _ rfl) ⟨upd vs 0 _, rfl, k0, inv_step hF (fun _ _ h => h) rfl⟩
          · refine step_yes (wanted_of_none rfl _) ?_
            exact wp_of_run (run_load_n3_0 (.tmp 57) rfl _ (by exact (hF 0 (he ⟨0, .data⟩ (by simp) rfl))) _ _ _ _ _ _ _ _ _ (k0.row X1_16.out)) ⟨upd vs 1 _, rfl, k0, inv_step hF (fun _ _ h => h) rfl⟩
          · refine step_yes (wanted_of_none rfl _) ?_
            exact wp_of_run (run_ixN3 1 (by decide) (.tmp 11) rfl _ rfl) ⟨upd vs 2 _, rfl, k0, inv_step hF (fun _ _ h => h) rfl⟩
          · refine step_yes (wanted_of_none rfl _) ?_
            exact wp_of_run (run_load_n3_1 (.tmp 59) rfl _ (by exact (hF 2 (he ⟨2, .data⟩ (by simp) rfl))) _ _ _ _ _ _ _ _ _ (k0.row X1_16.out)) ⟨upd vs 3 _, rfl, k0, inv_step hF (fun _ _ h => h) rfl⟩
          · refine step_yes (wanted_of_none rfl _) ?_
            exact wp_of_run (run_ixN3 2 (by decide) (.tmp 11) rfl _ rfl) ⟨upd vs 4 _, rfl, k0, inv_step hF (fun _ _ h => h) rfl⟩
          · refine step_yes (wanted_of_none rfl _) ?_
            exact wp_of_run (run_load_n3_2 (.tmp 61) rfl _ (by exact (hF 4 (he ⟨4, .data⟩ (by simp) rfl))) _ _ _ _ _ _ _ _ _ (k0.row X1_16.out)) ⟨upd vs 5 _, rfl, k0, inv_step hF (fun _ _ h => h) rfl⟩
          · refine step_yes (wanted_of_none rfl _) ?_
            refine wp_of_callE (run_enter3 21 (.tmp 58) (.tmp 60) (.tmp 62) _ rfl _ _ _ (by exact (hF 1 (he ⟨1, .data⟩ (by simp) rfl))) (by exact (hF 3 (he ⟨3, .data⟩ (by simp) rfl))) (by exact (hF 5 (he ⟨5, .data⟩ (by simp) rfl))) ent_sign) ((SG1.out wz (XE1.out.trans k0)).1) ?_
            rintro e w' ⟨rfl, hx⟩
            exact ⟨_, rfl, upd vs 6 _, rfl, k0.trans hx, inv_step hF (fun j v h => sg13F_mono hx j v h) rfl⟩
          · refine step_yes (wanted_of_none rfl _) ?_
            exact wp_of_run (run_ixN3 0 (by decide) (.tmp 11) rfl _ rfl) ⟨upd vs 7 _, rfl, k0, inv_step hF (fun _ _ h => h) rfl⟩
          · refine step_yes (wanted_of_none rfl _) ?_
            exact wp_of_run (run_load_n3_0 (.tmp 64) rfl _ (by exact (hF 7 (he ⟨7, .data⟩ (by simp) rfl))) _ _ _ _ _ _ _ _ _ (k0.row X1_16.out)) ⟨upd vs 8 _, rfl, k0, inv_step hF (fun _ _ h => h) rfl⟩
          · refine step_yes (wanted_of_none rfl _) ?_
            exact wp_of_run (run_ixN3 1 (by decide) (.tmp 11) rfl _ rfl) ⟨upd vs 9 _, rfl, k0, inv_step hF (fun _ _ h => h) rfl⟩
          · refine step_yes (wanted_of_none rfl _) ?_
            exact wp_of_run (run_load_n3_1 (.tmp 66) rfl _ (by exact (hF 9 (he ⟨9, .data⟩ (by simp) rfl))) _ _ _ _ _ _ _ _ _ (k0.row X1_16.out)) ⟨upd vs 10 _, rfl, k0, inv_step hF (fun _ _ h => h) rfl⟩
          · refine step_yes (wanted_of_none rfl _) ?_
            exact wp_of_run (run_ixN3 2 (by decide) (.tmp 11) rfl _ rfl) ⟨upd vs 11 _, rfl, k0, inv_step hF (fun _ _ h => h) rfl⟩
          · refine step_yes (wanted_of_none rfl _) ?_
            exact wp_of_run (run_load_n3_2 (.tmp 68) rfl _ (by exact (hF 11 (he ⟨11, .data⟩ (by simp) rfl))) _ _ _ _ _ _ _ _ _ (k0.row X1_16.out)) ⟨upd vs 12 _, rfl, k0, inv_step hF (fun _ _ h => h) rfl⟩
          · refine step_yes (wanted_of_none rfl _) ?_
            refine wp_of_callE (run_enter3 22 (.tmp 65) (.tmp 67) (.tmp 69) _ rfl _ _ _ (by exact (hF 8 (he ⟨8, .data⟩ (by simp) rfl))) (by exact (hF 10 (he ⟨10, .data⟩ (by simp) rfl))) (by exact (hF 12 (he ⟨12, .data⟩ (by simp) rfl))) ent_r2sign) ((SG1.out wz (XE1.out.trans k0)).2) ?_
            rintro e w' ⟨rfl, hx⟩
            exact ⟨_, rfl, upd vs 13 _, rfl, k0.trans hx, inv_step hF (fun j v h => sg13F_mono hx j v h) rfl⟩
          · refine step_yes (wanted_of_none rfl _) ?_
            exact wp_of_run (run_neq_int (.tmp 63) (.tmp 70) rfl _ (by exact (hF 6 (he ⟨6, .data⟩ (by simp) rfl))) (by exact (hF 13 (he ⟨13, .data⟩ (by simp) rfl)))) ⟨upd vs 14 _, rfl, k0, inv_step hF (fun _ _ h => h) rfl⟩
        case fins1 =>
          rintro D ac wg1 hD ⟨vs, rfl, k0, hF⟩
          change wpList _ _ _ [] _ _
          unfold wpList
          have h14 : vs 14 = .bool false := hF 14 (hD 14 (by decide))
          rw [h14]
          have E17 := Lib.hid (E16.out.trans k0)
          have N0_17 := Lib.hid (ANum.ext N0_16.out k0)
          have N1_17 := Lib.hid (ANum.ext N1_16.out k0)
          have N2_17 := Lib.hid (ANum.ext N2_16.out k0)
          have L_17 := Lib.hid (k0.row L_16.out)
          have Q_17 := Lib.hid (k0.row Q_16.out)
          have AN0_17 := Lib.hid (ANum.ext AN0_16.out k0)
          have AN1_17 := Lib.hid (ANum.ext AN1_16.out k0)
          have AN2_17 := Lib.hid (ANum.ext AN2_16.out k0)
          have AR_17 := Lib.hid (k0.row AR_16.out)
          have BN0_17 := Lib.hid (ANum.ext BN0_16.out k0)
          have BN1_17 := Lib.hid (ANum.ext BN1_16.out k0)
          have BN2_17 := Lib.hid (ANum.ext BN2_16.out k0)
          have BR_17 := Lib.hid (k0.row BR_16.out)
          have W_17 := Lib.hid (k0.row W_16.out)
          have X1_17 := Lib.hid (k0.row X1_16.out)
          clear E16 N0_16 N1_16 N2_16 L_16 Q_16 AN0_16 AN1_16 AN2_16 AR_16 BN0_16 BN1_16 BN2_16 BR_16 W_16 X1_16
          clear hF hD h14 k0
          generalize vs = ts1
          clear X1_17
          go_wp2_with fail
          rw [rounds_succ]
          obtain ⟨r2, hr⟩ := sign_any BN0_17.out BN1_17.out BN2_17.out
          have SG2 := Lib.hid hr
          clear hr
          have cw12 := (show (wg1).cell? ⟨W11c.heap.size, 12, none⟩ = some (.bool Bn0) from W_17.out.cell 12)
          have cw13 := (show (wg1).cell? ⟨W11c.heap.size, 13, none⟩ = some (.slice Bp0 Bl0 Bc0) from W_17.out.cell 13)
          have cw14 := (show (wg1).cell? ⟨W11c.heap.size, 14, none⟩ = some (.bool Bn1) from W_17.out.cell 14)
          have cw15 := (show (wg1).cell? ⟨W11c.heap.size, 15, none⟩ = some (.slice Bp1 Bl1 Bc1) from W_17.out.cell 15)
          have cw16 := (show (wg1).cell? ⟨W11c.heap.size, 16, none⟩ = some (.bool Bn2) from W_17.out.cell 16)
          have cw17 := (show (wg1).cell? ⟨W11c.heap.size, 17, none⟩ = some (.slice Bp2 Bl2 Bc2) from W_17.out.cell 17)
          obtain ⟨W17a, hW17a⟩ : ∃ W17a, W17a = (wg1.alloc (.cells #[.bool Bn0, .slice Bp0 Bl0 Bc0, .bool Bn1, .slice Bp1 Bl1 Bc1, .bool Bn2, .slice Bp2 Bl2 Bc2] 40)) := ⟨_, rfl⟩
          have hx : Ext wg1 W17a := by rw [hW17a]; exact (Ext.alloc _ _)
          have X2_n : RowAt W17a (wg1.heap.size) 40 #[.bool Bn0, .slice Bp0 Bl0 Bc0, .bool Bn1, .slice Bp1 Bl1 Bc1, .bool Bn2, .slice Bp2 Bl2 Bc2] := by rw [hW17a]; exact (RowAt.new' _ _ (by simp))
          have E18 := Lib.hid (E17.out.trans hx)
          have N0_18 := Lib.hid (ANum.ext N0_17.out hx)
          have N1_18 := Lib.hid (ANum.ext N1_17.out hx)
          have N2_18 := Lib.hid (ANum.ext N2_17.out hx)
          have L_18 := Lib.hid (hx.row L_17.out)
          have Q_18 := Lib.hid (hx.row Q_17.out)
          have AN0_18 := Lib.hid (ANum.ext AN0_17.out hx)
          have AN1_18 := Lib.hid (ANum.ext AN1_17.out hx)
          have AN2_18 := Lib.hid (ANum.ext AN2_17.out hx)
          have AR_18 := Lib.hid (hx.row AR_17.out)
          have BN0_18 := Lib.hid (ANum.ext BN0_17.out hx)
          have BN1_18 := Lib.hid (ANum.ext BN1_17.out hx)
          have BN2_18 := Lib.hid (ANum.ext BN2_17.out hx)
          have BR_18 := Lib.hid (hx.row BR_17.out)
          have W_18 := Lib.hid (hx.row W_17.out)
          clear E17 N0_17 N1_17 N2_17 L_17 Q_17 AN0_17 AN1_17 AN2_17 AR_17 BN0_17 BN1_17 BN2_17 BR_17 W_17
          have X2_18 := Lib.hid X2_n
          have HW17a := Lib.hid hW17a
          clear hx hW17a X2_n
          have XE2 := Lib.hid (show Ext wg1 W17a from by rw [HW17a.out]; exact Ext.alloc _ _)
          go_upto_region 13 with (fail)
          rw [← HW17a.out]
          clear cw12 cw13 cw14 cw15 cw16 cw17
          refine wp_region_tail (fun D ac w' => ∃ vs : Nat → Value, ac = { tmps := #[Value.agg #[Value.bool n0, Value.slice p0 l0 c0, Value.bool n1, Value.slice p1 l1 c1, Value.bool n2, Value.slice p2 l2 c2], Value.agg #[Value.int IntKind.i64 q0, Value.int IntKind.i64 q1, Value.int IntKind.i64 q2], Value.pointer (some { block := w.heap.size, off := 0 }), Value.pointer (some { block := w.heap.size + 1, off := 0 }), Value.bool false, Value.bool true, Value.int IntKind.i64 3, Value.pointer (some { block := gA, off := 0 }), Value.pointer (some { block := gB, off := 0 }), Value.pointer (some { block := W11c.heap.size, off := 0 }), Value.int IntKind.i64 2, Value.pointer (some { block := wg1.heap.size, off := 0 }), Value.bool true, Value.int IntKind.i64 3, Value.bool false, Value.int IntKind.i64 2, Value.int IntKind.i64 3, Value.int IntKind.i64 2, Value.int IntKind.i64 2, Value.pointer (some { block := w.heap.size, off := 4 }), Value.agg #[Value.bool n2, Value.slice p2 l2 c2], Value.agg #[Value.bool n2, Value.slice p2 m2 c2], Value.pointer (some { block := w.heap.size, off := 4 }), t6 0, t6 1, t6 2, t6 3, t6 4, t6 5, t6 6, t6 7, t6 8, t6 9, t6 10, t6 11, Value.agg #[Value.bool An0, Value.slice Ap0 Al0 Ac0, Value.bool An1, Value.slice Ap1 Al1 Ac1, Value.bool An2, Value.slice Ap2 Al2 Ac2], t7 0, t7 1, t7 2, t7 3, t7 4, t7 5, t7 6, t7 7, t7 8, Value.agg #[Value.bool Bn0, Value.slice Bp0 Bl0 Bc0, Value.bool Bn1, Value.slice Bp1 Bl1 Bc1, Value.bool Bn2, Value.slice Bp2 Bl2 Bc2], Value.agg #[Value.bool n0, Value.slice p0 m0 c0, Value.bool n1, Value.slice p1 m1 c1, Value.bool n2, Value.slice p2 m2 c2], Value.agg #[Value.bool An0, Value.slice Ap0 Al0 Ac0, Value.bool An1, Value.slice Ap1 Al1 Ac1, Value.bool An2, Value.slice Ap2 Al2 Ac2], Value.agg #[Value.bool Bn0, Value.slice Bp0 Bl0 Bc0, Value.bool Bn1, Value.slice Bp1 Bl1 Bc1, Value.bool Bn2, Value.slice Bp2 Bl2 Bc2], Value.agg #[Value.bool n0, Value.slice p0 m0 c0, Value.bool n1, Value.slice p1 m1 c1, Value.bool n2, Value.slice p2 m2 c2, Value.bool An0, Value.slice Ap0 Al0 Ac0, Value.bool An1, Value.slice Ap1 Al1 Ac1, Value.bool An2, Value.slice Ap2 Al2 Ac2, Value.bool Bn0, Value.slice Bp0 Bl0 Bc0, Value.bool Bn1, Value.slice Bp1 Bl1 Bc1, Value.bool Bn2, Value.slice Bp2 Bl2 Bc2], Value.int IntKind.i64 2, Value.bool true, Value.int IntKind.i64 1, Value.int IntKind.i64 2, Value.int IntKind.i64 2, Value.pointer (some { block := W11c.heap.size, off := 12 }), Value.agg #[Value.bool Bn0, Value.slice Bp0 Bl0 Bc0, Value.bool Bn1, Value.slice Bp1 Bl1 Bc1, Value.bool Bn2, Value.slice Bp2 Bl2 Bc2], vs 0, vs 1, vs 2, vs 3, vs 4, vs 5, vs 6, vs 7, vs 8, vs 9, vs 10, vs 11, vs 12, vs 13, vs 14, undef], defers := [] } ∧ Ext W17a w' ∧ ∀ j, D j → sg13F (wg1.heap.size) (.agg #[.bool Bn0, .slice Bp0 Bl0 Bc0]) (.agg #[.bool Bn1, .slice Bp1 Bl1 Bc1]) (.agg #[.bool Bn2, .slice Bp2 Bl2 Bc2]) r2 j (vs j) w') 15 (by kernel_rfl) (by kernel_rfl) (by kernel_rfl) ?starts2 ?steps2 ?fins2
          case starts2 => exact ⟨fun j => match j with | 0 => ts1 0 | 1 => ts1 1 | 2 => ts1 2 | 3 => ts1 3 | 4 => ts1 4 | 5 => ts1 5 | 6 => ts1 6 | 7 => ts1 7 | 8 => ts1 8 | 9 => ts1 9 | 10 => ts1 10 | 11 => ts1 11 | 12 => ts1 12 | 13 => ts1 13 | 14 => Value.bool false | _ => undef, rfl, Ext.drew _, fun _ h => h.elim⟩
          case steps2 =>
            rintro i o D ac wz hin hio hnd he ⟨vs, rfl, k0, hF⟩
            rcases i with _ | _ | _ | _ | _ | _ | _ | _ | _ | _ | _ | _ | _ | _ | _ | i
            rotate_left 15
            · exact absurd hin (by omega)
            all_goals (obtain rfl := Option.some.inj (hio.symm.trans (by rfl)))
            · refine step_yes (wanted_of_none rfl _) ?_
              exact wp_of_run (run_ixN3 0 (by decide) (.tmp 11) rfl _ rfl) ⟨upd vs 0 _, rfl, k0, inv_step hF (fun _ _ h => h) rfl⟩
            · refine step_yes (wanted_of_none rfl _) ?_
              exact wp_of_run (run_load_n3_0 (.tmp 57) rfl _ (by exact (hF 0 (he ⟨0, .data⟩ (by simp) rfl))) _ _ _ _ _ _ _ _ _ (k0.row X2_18.out)) ⟨upd vs 1 _, rfl, k0, inv_step hF (fun _ _ h => h) rfl⟩
            · refine step_yes (wanted_of_none rfl _) ?_
              exact wp_of_run (run_ixN3 1 (by decide) (.tmp 11) rfl _ rfl) ⟨upd vs 2 _, rfl, k0, inv_step hF (fun _ _ h => h) rfl⟩
            · refine step_yes (wanted_of_none rfl _) ?_
              exact wp_of_run (run_load_n3_1 (.tmp 59) rfl _ (by exact (hF 2 (he ⟨2, .data⟩ (by simp) rfl))) _ _ _ _ _ _ _ _ _ (k0.row X2_18.out)) ⟨upd vs 3 _, rfl, k0, inv_step hF (fun _ _ h => h) rfl⟩
            · refine step_yes (wanted_of_none rfl _) ?_
              exact wp_of_run (run_ixN3 2 (by decide) (.tmp 11) rfl _ rfl) ⟨upd vs 4 _, rfl, k0, inv_step hF (fun _ _ h => h) rfl⟩
            · refine step_yes (wanted_of_none rfl _) ?_
              exact wp_of_run (run_load_n3_2 (.tmp 61) rfl _ (by exact (hF 4 (he ⟨4, .data⟩ (by simp) rfl))) _ _ _ _ _ _ _ _ _ (k0.row X2_18.out)) ⟨upd vs 5 _, rfl, k0, inv_step hF (fun _ _ h => h) rfl⟩
            · refine step_yes (wanted_of_none rfl _) ?_
              refine wp_of_callE (run_enter3 21 (.tmp 58) (.tmp 60) (.tmp 62) _ rfl _ _ _ (by exact (hF 1 (he ⟨1, .data⟩ (by simp) rfl))) (by exact (hF 3 (he ⟨3, .data⟩ (by simp) rfl))) (by exact (hF 5 (he ⟨5, .data⟩ (by simp) rfl))) ent_sign) ((SG2.out wz (XE2.out.trans k0)).1) ?_
              rintro e w' ⟨rfl, hx⟩
              exact ⟨_, rfl, upd vs 6 _, rfl, k0.trans hx, inv_step hF (fun j v h => sg13F_mono hx j v h) rfl⟩
            · refine step_yes (wanted_of_none rfl _) ?_
              exact wp_of_run (run_ixN3 0 (by decide) (.tmp 11) rfl _ rfl) ⟨upd vs 7 _, rfl, k0, inv_step hF (fun _ _ h => h) rfl⟩
            · refine step_yes (wanted_of_none rfl _) ?_
              exact wp_of_run (run_load_n3_0 (.tmp 64) rfl _ (by exact (hF 7 (he ⟨7, .data⟩ (by simp) rfl))) _ _ _ _ _ _ _ _ _ (k0.row X2_18.out)) ⟨upd vs 8 _, rfl, k0, inv_step hF (fun _ _ h => h) rfl⟩
            · refine step_yes (wanted_of_none rfl _) ?_
              exact wp_of_run (run_ixN3 1 (by decide) (.tmp 11) rfl _ rfl) ⟨upd vs 9 _, rfl, k0, inv_step hF (fun _ _ h => h) rfl⟩
            · refine step_yes (wanted_of_none rfl _) ?_
              exact wp_of_run (run_load_n3_1 (.tmp 66) rfl _ (by exact (hF 9 (he ⟨9, .data⟩ (by simp) rfl))) _ _ _ _ _ _ _ _ _ (k0.row X2_18.out)) ⟨upd vs 10 _, rfl, k0, inv_step hF (fun _ _ h => h) rfl⟩
            · refine step_yes (wanted_of_none rfl _) ?_
              exact wp_of_run (run_ixN3 2 (by decide) (.tmp 11) rfl _ rfl) ⟨upd vs 11 _, rfl, k0, inv_step hF (fun _ _ h => h) rfl⟩
            · refine step_yes (wanted_of_none rfl _) ?_
              exact wp_of_run (run_load_n3_2 (.tmp 68) rfl _ (by exact (hF 11 (he ⟨11, .data⟩ (by simp) rfl))) _ _ _ _ _ _ _ _ _ (k0.row X2_18.out)) ⟨upd vs 12 _, rfl, k0, inv_step hF (fun _ _ h => h) rfl⟩
            · refine step_yes (wanted_of_none rfl _) ?_
              refine wp_of_callE (run_enter3 22 (.tmp 65) (.tmp 67) (.tmp 69) _ rfl _ _ _ (by exact (hF 8 (he ⟨8, .data⟩ (by simp) rfl))) (by exact (hF 10 (he ⟨10, .data⟩ (by simp) rfl))) (by exact (hF 12 (he ⟨12, .data⟩ (by simp) rfl))) ent_r2sign) ((SG2.out wz (XE2.out.trans k0)).2) ?_
              rintro e w' ⟨rfl, hx⟩
              exact ⟨_, rfl, upd vs 13 _, rfl, k0.trans hx, inv_step hF (fun j v h => sg13F_mono hx j v h) rfl⟩
            · refine step_yes (wanted_of_none rfl _) ?_
              exact wp_of_run (run_neq_int (.tmp 63) (.tmp 70) rfl _ (by exact (hF 6 (he ⟨6, .data⟩ (by simp) rfl))) (by exact (hF 13 (he ⟨13, .data⟩ (by simp) rfl)))) ⟨upd vs 14 _, rfl, k0, inv_step hF (fun _ _ h => h) rfl⟩
          case fins2 =>
            rintro D ac wg2 hD ⟨vs, rfl, k0, hF⟩
            change wpList _ _ _ [] _ _
            unfold wpList
            have h14 : vs 14 = .bool false := hF 14 (hD 14 (by decide))
            rw [h14]
            have E19 := Lib.hid (E18.out.trans k0)
            have N0_19 := Lib.hid (ANum.ext N0_18.out k0)
            have N1_19 := Lib.hid (ANum.ext N1_18.out k0)
            have N2_19 := Lib.hid (ANum.ext N2_18.out k0)
            have L_19 := Lib.hid (k0.row L_18.out)
            have Q_19 := Lib.hid (k0.row Q_18.out)
            have AN0_19 := Lib.hid (ANum.ext AN0_18.out k0)
            have AN1_19 := Lib.hid (ANum.ext AN1_18.out k0)
            have AN2_19 := Lib.hid (ANum.ext AN2_18.out k0)
            have AR_19 := Lib.hid (k0.row AR_18.out)
            have BN0_19 := Lib.hid (ANum.ext BN0_18.out k0)
            have BN1_19 := Lib.hid (ANum.ext BN1_18.out k0)
            have BN2_19 := Lib.hid (ANum.ext BN2_18.out k0)
            have BR_19 := Lib.hid (k0.row BR_18.out)
            have W_19 := Lib.hid (k0.row W_18.out)
            have X2_19 := Lib.hid (k0.row X2_18.out)
            clear E18 N0_18 N1_18 N2_18 L_18 Q_18 AN0_18 AN1_18 AN2_18 AR_18 BN0_18 BN1_18 BN2_18 BR_18 W_18 X2_18
            clear hF hD h14 k0
            generalize vs = ts2
            clear X2_19
            go_wp2_with fail
            rw [rounds_succ]
            go_wp2_with fail
            go_ret
            exact ⟨rfl, E19.out⟩
end Go.Proofs.YtegjcikofmphjaaGreatDoor
