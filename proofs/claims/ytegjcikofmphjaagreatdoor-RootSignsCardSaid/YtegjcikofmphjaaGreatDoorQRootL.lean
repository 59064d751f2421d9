/- Texts that belong together. -/
import Derived.Test.YtegjcikofmphjaaGreatDoorQRB
import Derived.Test.YtegjcikofmphjaaGreatDoorQRegs
import Derived.Test.YtegjcikofmphjaaGreatDoorQDivsA
set_option linter.all false
/- Texts that belong together. -/
/- Layer 2: short, side, isOne, fraction. -/
namespace Go.Proofs.YtegjcikofmphjaaGreatDoor
open Go Go.RowKit Go.Shelf
theorem right_any (neg : Bool) (p : Option Addr) (n c : Nat) (ds : List Nat) (w : World) (hu : U32s w.heap.size w (.slice p n c) ds) : Calls Tryz.prog 65 #[.agg #[.bool neg, .slice p n c]] w fun e w' => e = .returned (.bool (rightB neg ds)) ∧ Ext w w' := right_calls neg _ ds w hu
theorem u32s_len {B : Nat} {w : World} {p : Option Addr} {n c : Nat} {ds : List Nat} (h : U32s B w (.slice p n c) ds) : n = ds.length := by
  obtain ⟨p', c', e, -⟩ := h; cases e; rfl
set_option maxRecDepth 100000 in
set_option maxHeartbeats 2000000 in
theorem short_calls (neg : Bool) (p : Option Addr) (n c : Nat) (ds : List Nat) (k : Nat) (w : World) (hu : U32s w.heap.size w (.slice p n c) ds) :
    Calls Tryz.prog 38 #[.agg #[.bool neg, .slice p n c], .int .i64 (k : Int)] w fun e w' => e = .returned (.bool (rightB neg ds && decide (n ≤ k))) ∧ Ext w w' := by
  obtain ⟨W1, hW1⟩ : ∃ W1, W1 = w.alloc (.cells #[.bool neg, .slice p n c] 25) := ⟨_, rfl⟩
  have hx1 : Ext w W1 := by rw [hW1]; exact Ext.alloc _ _
  have hr1 : RowAt W1 w.heap.size 25 (numCells neg p n c) := by rw [hW1]; exact RowAt.new' _ _ (by simp)
  have HC := Lib.hid (right_any neg p n c ds W1 (hx1.u32s hu))
  have Hx1 := Lib.hid hx1
  have Hr1 := Lib.hid hr1
  have HW1 := Lib.hid hW1
  generalize rightB neg ds = b at *
  clear hu hx1 hr1 hW1
  go_enter Tryz.func38, Tryz.ntmps38
  go_wp2_with fail
  rw [← HW1.out]
  refine HC.out.mono ?_
  rintro e w1 ⟨rfl, hx⟩
  have h1 := (hx.row Hr1.out).num1
  have HX := Lib.hid (Hx1.out.trans hx)
  clear hx
  cases b
  · go_wp2
    go_ret
    exact ⟨rfl, HX.out⟩
  · by_cases hk : n ≤ k
    · have hkI : (n : Int) ≤ (k : Int) := by omega
      go_wp2
      go_ret
      exact ⟨by simp [hk], HX.out⟩
    · have hkI : ¬ (n : Int) ≤ (k : Int) := by omega
      go_wp2
      go_ret
      exact ⟨by simp [hk], HX.out⟩
theorem cmp_ok (va vb : Value) (za zb : Int) (w : World) (ha : ZNum w.heap.size w va za) (hb : ZNum w.heap.size w vb zb) :
    Calls Tryz.prog 69 #[va, vb] w fun e w' => e = .returned (.int .i64 (zcmp za zb)) ∧ Ext w w' := cmp_calls va vb za zb w ha hb
theorem of_ok (z : Int) (h1 : -9223372036854775808 ≤ z) (h2 : z ≤ 9223372036854775807) (w : World) : Calls Tryz.prog 36 #[.int .i64 z] w (Gives1 w z (decide (z < 0))) := of_gives z h1 h2 rfl w
theorem ent_of (args : Array Value) (w : World) : (callFunc 36 args).run Tryz.prog w = .ok (.enter 36 args) w := enters_of Tryz.func36 (by kernel_rfl) rfl args w
theorem ent_cmp (args : Array Value) (w : World) : (callFunc 69 args).run Tryz.prog w = .ok (.enter 69 args) w := enters_of Tryz.func69 (by kernel_rfl) rfl args w
def IsN (z : Int) (v : Value) (W : World) : Prop := ZNum W.heap.size W v z
theorem IsN.ext {z : Int} {v : Value} {W W' : World} (h : IsN z v W) (hx : Ext W W') : IsN z v W' := hx.num h
theorem gives1_isn {W : World} {z : Int} {neg : Bool} {p : Option Addr} {n c : Nat} (h : ZNum W.heap.size W (.agg #[.bool neg, .slice p n c]) z) : IsN z (.agg #[.bool neg, .slice p n c]) W := h
theorem run_eql_int {o : Oper} {a : Act} {w : World} (x y : Operand) (ho : o.op = .binOp .eql 3 x y 3) (u v : Int) (hx : a.eval x = .int .i64 u) (hy : a.eval y = .int .i64 v) : (execOp a.eval o).run Tryz.prog w = .ok (.value (.bool (u == v))) w := by
  unfold execOp
  simp only [ho, hx, hy]
  simp [go_sem]
def cwF (va : Value) (z k : Int) : Nat → Value → World → Prop
  | 0, v, _ => v = va
  | 1, v, W => IsN k v W
  | 2, v, _ => v = .int .i64 (zcmp z k)
  | 3, v, _ => v = .bool (zcmp z k == 0)
  | _, _, _ => True
theorem cwF_mono {va : Value} {z k : Int} {W W' : World} (hx : Ext W W') : ∀ (j : Nat) (v : Value), cwF va z k j v W → cwF va z k j v W'
  | 0, _, h | 2, _, h | 3, _, h => h
  | 1, _, h => h.ext hx
  | _ + 4, _, _ => trivial
-- GENERATED
set_option maxRecDepth 100000 in
set_option maxHeartbeats 2000000 in
theorem side_calls (va : Value) (z : Int) (w : World) (ha : ZNum w.heap.size w va z) :
    Calls Tryz.prog 39 #[va] w fun e w' => e = .returned (.int .i64 (zcmp z 0)) ∧ Ext w w' := by
  obtain ⟨p, c, hva⟩ := ha.parts
  obtain ⟨W1, hW1⟩ : ∃ W1, W1 = w.alloc (.cells #[.bool (decide (z < 0)), .slice p (digs z.natAbs).length c] 25) := ⟨_, rfl⟩
  have hx1 : Ext w W1 := by rw [hW1]; exact Ext.alloc _ _
  have HR1 : Hid (RowAt W1 w.heap.size 25 (numCells (decide (z < 0)) p (digs z.natAbs).length c)) := by rw [hW1]; exact RowAt.new' _ _ (by simp)
  have HZ1 := Lib.hid (hx1.num ha)
  have Hx1 := Lib.hid hx1
  have HW1 := Lib.hid hW1
  generalize decide (z < 0) = neg at *
  generalize (digs z.natAbs).length = n at *
  subst hva
  clear ha hx1 hW1
  go_enter Tryz.func39, Tryz.ntmps39
  go_upto_region 1 with fail
  rw [← HW1.out]
  refine wp_region_tail (fun D ac w' => ∃ vs : Nat → Value, ac = { tmps := #[.agg #[.bool neg, .slice p n c], .pointer (some ⟨w.heap.size, 0, none⟩), .int .i64 0, vs 0, vs 1, vs 2], defers := [] } ∧ Ext W1 w' ∧ ∀ j, D j → cwF (.agg #[.bool neg, .slice p n c]) z 0 j (vs j) w') 3 (by kernel_rfl) (by kernel_rfl) (by kernel_rfl) ?start1 ?step1 ?fin1
  case start1 => exact ⟨fun _ => undef, rfl, Ext.drew _, fun _ h => h.elim⟩
  case step1 =>
    rintro i o D ac wz hin hio hnd he ⟨vs, rfl, k0, hF⟩
    rcases i with _ | _ | _ | i
    rotate_left 3
    · exact absurd hin (by omega)
    all_goals (obtain rfl := Option.some.inj (hio.symm.trans (by rfl)))
    · refine step_yes (wanted_of_none rfl _) ?_
      exact wp_of_run (run_load_num (.tmp 1) rfl w.heap.size rfl _ _ _ _ _ (k0.row HR1.out)) ⟨upd vs 0 _, rfl, k0, inv_step hF (fun _ _ h => h) rfl⟩
    · refine step_yes (wanted_of_none rfl _) ?_
      refine wp_of_callE (run_enter1 36 (.const (.int .i64 0)) _ rfl _ rfl ent_of) (of_ok 0 (by decide) (by decide) wz) ?_
      rintro e w' ⟨p9, n9, c9, rfl, hz, hx⟩
      exact ⟨_, rfl, upd vs 1 _, rfl, k0.trans hx, inv_step hF (fun j v h => cwF_mono hx j v h) (gives1_isn hz)⟩
    · refine step_yes (wanted_of_none rfl _) ?_
      refine wp_of_callE (run_enter2 69 (.tmp 3) (.tmp 4) _ rfl _ _ (by exact (hF 0 (he ⟨0, .data⟩ (by simp) rfl))) rfl ent_cmp) (cmp_ok _ _ z 0 wz (k0.num HZ1.out) (hF 1 (he ⟨1, .data⟩ (by simp) rfl))) ?_
      rintro e w' ⟨rfl, hx⟩
      exact ⟨_, rfl, upd vs 2 _, rfl, k0.trans hx, inv_step hF (fun j v h => cwF_mono hx j v h) rfl⟩
  case fin1 =>
    rintro D ac w2 hD ⟨vs, rfl, k0, hF⟩
    change wpList _ _ _ [_] _ _
    have hv : vs 2 = .int .i64 (zcmp z 0) := hF 2 (hD 2 (by decide))
    rw [hv]
    have X2 := Lib.hid (Hx1.out.trans k0)
    clear hF hD hv k0
    generalize vs = ts
    go_wp2
    go_ret
    exact ⟨rfl, X2.out⟩
set_option maxRecDepth 100000 in
set_option maxHeartbeats 2000000 in
theorem isOne_calls (va : Value) (z : Int) (w : World) (ha : ZNum w.heap.size w va z) :
    Calls Tryz.prog 49 #[va] w fun e w' => e = .returned (.bool (zcmp z 1 == 0)) ∧ Ext w w' := by
  obtain ⟨p, c, hva⟩ := ha.parts
  obtain ⟨W1, hW1⟩ : ∃ W1, W1 = w.alloc (.cells #[.bool (decide (z < 0)), .slice p (digs z.natAbs).length c] 25) := ⟨_, rfl⟩
  have hx1 : Ext w W1 := by rw [hW1]; exact Ext.alloc _ _
  have HR1 : Hid (RowAt W1 w.heap.size 25 (numCells (decide (z < 0)) p (digs z.natAbs).length c)) := by rw [hW1]; exact RowAt.new' _ _ (by simp)
  have HZ1 := Lib.hid (hx1.num ha)
  have Hx1 := Lib.hid hx1
  have HW1 := Lib.hid hW1
  generalize decide (z < 0) = neg at *
  generalize (digs z.natAbs).length = n at *
  subst hva
  clear ha hx1 hW1
  go_enter Tryz.func49, Tryz.ntmps49
  go_upto_region 1 with fail
  rw [← HW1.out]
  refine wp_region_tail (fun D ac w' => ∃ vs : Nat → Value, ac = { tmps := #[.agg #[.bool neg, .slice p n c], .pointer (some ⟨w.heap.size, 0, none⟩), .bool false, vs 0, vs 1, vs 2, vs 3], defers := [] } ∧ Ext W1 w' ∧ ∀ j, D j → cwF (.agg #[.bool neg, .slice p n c]) z 1 j (vs j) w') 4 (by kernel_rfl) (by kernel_rfl) (by kernel_rfl) ?start1 ?step1 ?fin1
  case start1 => exact ⟨fun _ => undef, rfl, Ext.drew _, fun _ h => h.elim⟩
  case step1 =>
    rintro i o D ac wz hin hio hnd he ⟨vs, rfl, k0, hF⟩
    rcases i with _ | _ | _ | _ | i
    rotate_left 4
    · exact absurd hin (by omega)
    all_goals (obtain rfl := Option.some.inj (hio.symm.trans (by rfl)))
    · refine step_yes (wanted_of_none rfl _) ?_
      exact wp_of_run (run_load_num (.tmp 1) rfl w.heap.size rfl _ _ _ _ _ (k0.row HR1.out)) ⟨upd vs 0 _, rfl, k0, inv_step hF (fun _ _ h => h) rfl⟩
    · refine step_yes (wanted_of_none rfl _) ?_
      refine wp_of_callE (run_enter1 36 (.const (.int .i64 1)) _ rfl _ rfl ent_of) (of_ok 1 (by decide) (by decide) wz) ?_
      rintro e w' ⟨p9, n9, c9, rfl, hz, hx⟩
      exact ⟨_, rfl, upd vs 1 _, rfl, k0.trans hx, inv_step hF (fun j v h => cwF_mono hx j v h) (gives1_isn hz)⟩
    · refine step_yes (wanted_of_none rfl _) ?_
      refine wp_of_callE (run_enter2 69 (.tmp 3) (.tmp 4) _ rfl _ _ (by exact (hF 0 (he ⟨0, .data⟩ (by simp) rfl))) rfl ent_cmp) (cmp_ok _ _ z 1 wz (k0.num HZ1.out) (hF 1 (he ⟨1, .data⟩ (by simp) rfl))) ?_
      rintro e w' ⟨rfl, hx⟩
      exact ⟨_, rfl, upd vs 2 _, rfl, k0.trans hx, inv_step hF (fun j v h => cwF_mono hx j v h) rfl⟩
    · refine step_yes (wanted_of_none rfl _) ?_
      exact wp_of_run (run_eql_int (.tmp 5) (.const (.int .i64 0)) rfl _ _ (by exact (hF 2 (he ⟨2, .data⟩ (by simp) rfl))) rfl) ⟨upd vs 3 _, rfl, k0, inv_step hF (fun _ _ h => h) rfl⟩
  case fin1 =>
    rintro D ac w2 hD ⟨vs, rfl, k0, hF⟩
    change wpList _ _ _ [_] _ _
    have hv : vs 3 = .bool (zcmp z 1 == 0) := hF 3 (hD 3 (by decide))
    rw [hv]
    have X2 := Lib.hid (Hx1.out.trans k0)
    clear hF hD hv k0
    generalize vs = ts
    go_wp2
    go_ret
    exact ⟨rfl, X2.out⟩
end Go.Proofs.YtegjcikofmphjaaGreatDoor
/- Layer 2: fraction, lowest. -/
namespace Go.Proofs.YtegjcikofmphjaaGreatDoor
open Go Go.RowKit Go.Shelf
set_option maxRecDepth 100000 in
set_option maxHeartbeats 2000000 in
theorem fraction_calls (nn : Bool) (p : Option Addr) (n c : Nat) (dn : List Nat) (nd : Bool) (q : Option Addr) (m c2 : Nat) (dd : List Nat) (w : World) (hn : U32s w.heap.size w (.slice p n c) dn) (hd : U32s w.heap.size w (.slice q m c2) dd) :
    Calls Tryz.prog 35 #[.agg #[.bool nn, .slice p n c], .agg #[.bool nd, .slice q m c2]] w fun e w' => e = .returned (.bool (rightB nn dn && (rightB nd dd && (!nn && (!nd && decide (0 < m)))))) ∧ Ext w w' := by
  generalize hb1 : rightB nn dn = b1
  generalize hb2 : rightB nd dd = b2
  have Hb1 := Lib.hid hb1
  have Hb2 := Lib.hid hb2
  clear hb1 hb2
  have HN := Lib.hid hn
  have HD := Lib.hid hd
  have E := Lib.hid (Ext.refl w)
  clear hn hd
  obtain ⟨W0a, hW0a⟩ : ∃ W0a, W0a = ((w.alloc (.cells #[.bool nn, .slice p n c] 25)).alloc (.cells #[.bool nd, .slice q m c2] 25)) := ⟨_, rfl⟩
  have hx : Ext w W0a := by rw [hW0a]; exact ((Ext.alloc _ _).trans (Ext.alloc _ _))
  have A_n : RowAt W0a (w.heap.size) 25 (numCells nn p n c) := by rw [hW0a]; exact ((RowAt.new' _ _ (by simp)).alloc _)
  have B_n : RowAt W0a (w.heap.size + 1) 25 (numCells nd q m c2) := by rw [hW0a]; exact (RowAt.new' _ _ (by simp))
  have HN1 := Lib.hid (hx.u32s HN.out)
  have HD1 := Lib.hid (hx.u32s HD.out)
  have E1 := Lib.hid (E.out.trans hx)
  clear HN HD E
  have A_1 := Lib.hid A_n
  have B_1 := Lib.hid B_n
  have HW0a := Lib.hid hW0a
  clear hx hW0a A_n B_n
  go_enter Tryz.func35, Tryz.ntmps35
  go_wp2_with fail
  rw [← HW0a.out]
  refine (right_any nn p n c dn W0a HN1.out).mono ?_
  rintro e w2_ ⟨rfl, hx⟩
  have HN2 := Lib.hid (hx.u32s HN1.out)
  have HD2 := Lib.hid (hx.u32s HD1.out)
  have E2 := Lib.hid (E1.out.trans hx)
  have A_2 := Lib.hid (hx.row A_1.out)
  have B_2 := Lib.hid (hx.row B_1.out)
  clear HN1 HD1 E1 A_1 B_1
  clear hx
  have cA__num0_2 := A_2.out.num0
  have cA__num1_2 := A_2.out.num1
  have cB__num0_2 := B_2.out.num0
  have cB__num1_2 := B_2.out.num1
  rw [Hb1.out]
  clear Hb1
  cases b1
  · go_wp2
    go_ret
    exact ⟨rfl, E2.out⟩
  · go_wp2_with fail
    refine (right_any nd q m c2 dd w2_ HD2.out).mono ?_
    rintro e w3_ ⟨rfl, hx⟩
    clear cA__num0_2 cA__num1_2 cB__num0_2 cB__num1_2
    have HN3 := Lib.hid (hx.u32s HN2.out)
    have HD3 := Lib.hid (hx.u32s HD2.out)
    have E3 := Lib.hid (E2.out.trans hx)
    have A_3 := Lib.hid (hx.row A_2.out)
    have B_3 := Lib.hid (hx.row B_2.out)
    clear HN2 HD2 E2 A_2 B_2
    clear hx
    have cA__num0_3 := A_3.out.num0
    have cA__num1_3 := A_3.out.num1
    have cB__num0_3 := B_3.out.num0
    have cB__num1_3 := B_3.out.num1
    rw [Hb2.out]
    clear Hb2
    cases b2
    · go_wp2
      go_ret
      exact ⟨rfl, E3.out⟩
    · cases nn
      · cases nd
        · by_cases hm : 0 < m
          · have hmI : (0 : Int) < (m : Int) := by omega
            go_wp2
            go_ret
            exact ⟨by simp [hm], E3.out⟩
          · have hmI : ¬ (0 : Int) < (m : Int) := by omega
            go_wp2
            go_ret
            exact ⟨by simp [hm], E3.out⟩
        · go_wp2
          go_ret
          exact ⟨rfl, E3.out⟩
      · go_wp2
        go_ret
        exact ⟨rfl, E3.out⟩
theorem ret_two {fn : Func} {R : Ending → World → Prop} {tmps : Array Value} {w : World} {r s : Tmp} (hres : fn.results = #[.cell r 25, .cell s 25]) (g : Nat) (hp : tmps.getD r undef = .pointer (some ⟨g, 0, none⟩)) (k : Nat) (hk : tmps.getD s undef = .pointer (some ⟨k, 0, none⟩))
    (n1 : Bool) (p1 : Option Addr) (l1 c1 : Nat) (n2 : Bool) (p2 : Option Addr) (l2 c2 : Nat) (t1 t2 : TypeId) (hg : RowAt w g t1 (numCells n1 p1 l1 c1)) (hg2 : RowAt w k t2 (numCells n2 p2 l2 c2)) (hR : R (.returned (.tuple #[.agg #[.bool n1, .slice p1 l1 c1], .agg #[.bool n2, .slice p2 l2 c2]])) w) : bodyPost Tryz.prog fn R .ret { tmps, defers := [] } w := by
  refine bodyPost_ret (v := .tuple #[.agg #[.bool n1, .slice p1 l1 c1], .agg #[.bool n2, .slice p2 l2 c2]]) ?_ rfl hR
  have hp' : tmps[r]?.getD undef = .pointer (some ⟨g, 0, none⟩) := by simpa using hp
  have hq' : tmps[s]?.getD undef = .pointer (some ⟨k, 0, none⟩) := by simpa using hk
  have h1 := run_loadVar_row (P := Tryz.prog) w g t1 25 (numCells n1 p1 l1 c1) (0, 0) _ hg Tryz.underlying25 rfl num_info
  have h2 := run_loadVar_row (P := Tryz.prog) w k t2 25 (numCells n2 p2 l2 c2) (0, 0) _ hg2 Tryz.underlying25 rfl num_info
  simp [results, hres, hp', hq', asAddr, h1, h2, numCells]
def gcdZ (a b : Int) : Int := ((Nat.gcd a.natAbs b.natAbs : Nat) : Int)
theorem gcdZ_pos {a b : Int} (h : 0 < b) : 0 < gcdZ a b := by
  unfold gcdZ
  have := Nat.gcd_pos_of_pos_right a.natAbs (show 0 < b.natAbs by omega)
  omega
def LowPost (w : World) (zn zd : Int) (e : Ending) (w' : World) : Prop :=
  ∃ p n c q m c2, e = .returned (.tuple #[.agg #[.bool false, .slice p n c], .agg #[.bool false, .slice q m c2]]) ∧ ZNum w'.heap.size w' (.agg #[.bool false, .slice p n c]) (zn / gcdZ zn zd) ∧ ZNum w'.heap.size w' (.agg #[.bool false, .slice q m c2]) (zd / gcdZ zn zd) ∧ Ext w w'
set_option maxRecDepth 100000 in
set_option maxHeartbeats 4000000 in
theorem lowest_calls (va vb : Value) (zn zd : Int) (w : World) (ha : ZNum w.heap.size w va zn) (hb : ZNum w.heap.size w vb zd) (h0 : 0 ≤ zn) (h1 : 0 < zd) :
    Calls Tryz.prog 37 #[va, vb] w (LowPost w zn zd) := by
  obtain ⟨p, c, rfl⟩ := ha.parts
  obtain ⟨q, c2, rfl⟩ := hb.parts
  have d0 : decide (zn < 0) = false := by simp; omega
  have d1 : decide (zd < 0) = false := by simp; omega
  rw [d0] at ha ⊢
  rw [d1] at hb ⊢
  generalize (digs zn.natAbs).length = n at *
  generalize (digs zd.natAbs).length = m at *
  unfold LowPost
  have hgp := gcdZ_pos (a := zn) h1
  have hgz : ((Nat.gcd zn.natAbs zd.natAbs : Nat) : Int) = gcdZ zn zd := rfl
  generalize gcdZ zn zd = g at *
  have e0 : decide (zn / g < 0) = false := by have := Int.ediv_nonneg h0 (show 0 ≤ g by omega); simp; omega
  have e1 : decide (zd / g < 0) = false := by have := Int.ediv_nonneg (show 0 ≤ zd by omega) (show 0 ≤ g by omega); simp; omega
  have e2 : decide (zn % g < 0) = false := by have := Int.emod_nonneg zn (show g ≠ 0 by omega); simp; omega
  have e3 : decide (zd % g < 0) = false := by have := Int.emod_nonneg zd (show g ≠ 0 by omega); simp; omega
  have Hg := Lib.hid (And.intro hgp (And.intro hgz (And.intro e0 (And.intro e1 (And.intro e2 e3)))))
  have ZA := Lib.hid ha
  have ZB := Lib.hid hb
  have E := Lib.hid (Ext.refl w)
  clear ha hb d0 d1 hgp hgz e0 e1 e2 e3 h0 h1
  obtain ⟨W0a, hW0a⟩ : ∃ W0a, W0a = ((((w.alloc (.cells #[.bool false, .slice p n c] 25)).alloc (.cells #[.bool false, .slice q m c2] 25)).alloc (.cells #[.bool false, .slice none 0 0] 25)).alloc (.cells #[.bool false, .slice none 0 0] 25)) := ⟨_, rfl⟩
  have hx : Ext w W0a := by rw [hW0a]; exact ((((Ext.alloc _ _).trans (Ext.alloc _ _)).trans (Ext.alloc _ _)).trans (Ext.alloc _ _))
  have A_n : RowAt W0a (w.heap.size) 25 (numCells false p n c) := by rw [hW0a]; exact ((((RowAt.new' _ _ (by simp)).alloc _).alloc _).alloc _)
  have B_n : RowAt W0a (w.heap.size + 1) 25 (numCells false q m c2) := by rw [hW0a]; exact (((RowAt.new' _ _ (by simp)).alloc _).alloc _)
  have P_n : RowAt W0a (w.heap.size + 1 + 1) 25 (numCells false none 0 0) := by rw [hW0a]; exact ((RowAt.new' _ _ (by simp)).alloc _)
  have Q_n : RowAt W0a (w.heap.size + 1 + 1 + 1) 25 (numCells false none 0 0) := by rw [hW0a]; exact (RowAt.new' _ _ (by simp))
  have ZA1 := Lib.hid (hx.num ZA.out)
  have ZB1 := Lib.hid (hx.num ZB.out)
  have E1 := Lib.hid (E.out.trans hx)
  clear ZA ZB E
  have A_1 := Lib.hid A_n
  have B_1 := Lib.hid B_n
  have P_1 := Lib.hid P_n
  have Q_1 := Lib.hid Q_n
  have HW0a := Lib.hid hW0a
  clear hx hW0a A_n B_n P_n Q_n
  go_enter Tryz.func37, Tryz.ntmps37
  have cA__num0_1 := A_1.out.num0
  have cA__num1_1 := A_1.out.num1
  have cB__num0_1 := B_1.out.num0
  have cB__num1_1 := B_1.out.num1
  go_wp2_with fail
  rw [← HW0a.out]
  refine (gcd_gives ZA1.out ZB1.out Hg.out.2.1).mono ?_
  rintro e w2_ ⟨pg, ng, cg, rfl, hz, hx⟩
  clear cA__num0_1 cA__num1_1 cB__num0_1 cB__num1_1
  have ZA2 := Lib.hid (hx.num ZA1.out)
  have ZB2 := Lib.hid (hx.num ZB1.out)
  have E2 := Lib.hid (E1.out.trans hx)
  have A_2 := Lib.hid (hx.row A_1.out)
  have B_2 := Lib.hid (hx.row B_1.out)
  have P_2 := Lib.hid (hx.row P_1.out)
  have Q_2 := Lib.hid (hx.row Q_1.out)
  clear ZA1 ZB1 E1 A_1 B_1 P_1 Q_1
  have ZG2 := Lib.hid hz
  clear hx hz
  have SL := Lib.hid (Q_2.out.lt)
  obtain ⟨W2b, hW2b⟩ : ∃ W2b, W2b = (w2_.alloc (.cells #[.bool false, .slice none 0 0] 25)).setRow w2_.heap.size (numCells false pg ng cg) := ⟨_, rfl⟩
  have hx : Ext w2_ W2b := by rw [hW2b]; exact ext_setRow (Ext.alloc _ _) (Nat.le_refl _) _
  have G_n : RowAt W2b w2_.heap.size 25 (numCells false pg ng cg) := by rw [hW2b]; exact (RowAt.new _ _ _).setRow _
  have ZA3 := Lib.hid (hx.num ZA2.out)
  have ZB3 := Lib.hid (hx.num ZB2.out)
  have E3 := Lib.hid (E2.out.trans hx)
  have A_3 := Lib.hid (hx.row A_2.out)
  have B_3 := Lib.hid (hx.row B_2.out)
  have P_3 := Lib.hid (hx.row P_2.out)
  have Q_3 := Lib.hid (hx.row Q_2.out)
  have ZG3 := Lib.hid (hx.num ZG2.out)
  clear ZA2 ZB2 E2 A_2 B_2 P_2 Q_2 ZG2
  have G_3 := Lib.hid G_n
  have HW2b := Lib.hid hW2b
  clear hx hW2b G_n
  have cA__num0_3 := A_3.out.num0
  have cA__num1_3 := A_3.out.num1
  have cG__num0_3 := G_3.out.num0
  have cG__num1_3 := G_3.out.num1
  go_wp2_with (first | (refine store_num rfl (.tmp 6) (.tmp 12) rfl w2_.heap.size rfl _ _ _ _ rfl _ _ (RowAt.new' _ _ rfl) rfl ?_; rw [← HW2b.out]))
  refine (div_gives ZA3.out ZG3.out Hg.out.1 rfl rfl Hg.out.2.2.1 Hg.out.2.2.2.2.1).mono ?_
  rintro e w4_ ⟨p7, n7, c7, p8, n8, c8, rfl, hz, hz8, hx⟩
  clear cA__num0_3 cA__num1_3 cG__num0_3 cG__num1_3
  have ZA4 := Lib.hid (hx.num ZA3.out)
  have ZB4 := Lib.hid (hx.num ZB3.out)
  have E4 := Lib.hid (E3.out.trans hx)
  have A_4 := Lib.hid (hx.row A_3.out)
  have B_4 := Lib.hid (hx.row B_3.out)
  have P_4 := Lib.hid (hx.row P_3.out)
  have Q_4 := Lib.hid (hx.row Q_3.out)
  have ZG4 := Lib.hid (hx.num ZG3.out)
  have G_4 := Lib.hid (hx.row G_3.out)
  clear ZA3 ZB3 E3 A_3 B_3 P_3 Q_3 ZG3 G_3
  have ZQ4 := Lib.hid hz
  clear hx hz
  clear hz8
  obtain ⟨W4c, hW4c⟩ : ∃ W4c, W4c = w4_.setRow (w.heap.size) (numCells false p7 n7 c7) := ⟨_, rfl⟩
  have ZA5 := Lib.hid (show ZNum W4c.heap.size W4c _ _ from by rw [hW4c, setRow_size]; exact ZA4.out.setNum A_4.out _)
  have ZB5 := Lib.hid (show ZNum W4c.heap.size W4c _ _ from by rw [hW4c, setRow_size]; exact ZB4.out.setNum A_4.out _)
  have E5 : Hid (Ext w W4c) := by rw [hW4c]; exact ext_setRow E4.out (Nat.le_refl _) _
  have A_5 : Hid (RowAt W4c (w.heap.size) 25 (numCells false p7 n7 c7)) := by rw [hW4c]; exact A_4.out.setRow _
  have B_5 := Lib.hid (show RowAt W4c (w.heap.size + 1) _ _ from by rw [hW4c]; exact B_4.out.setRowOther _ (by first | omega | (have := SL.out; omega)))
  have P_5 := Lib.hid (show RowAt W4c (w.heap.size + 1 + 1) _ _ from by rw [hW4c]; exact P_4.out.setRowOther _ (by first | omega | (have := SL.out; omega)))
  have Q_5 := Lib.hid (show RowAt W4c (w.heap.size + 1 + 1 + 1) _ _ from by rw [hW4c]; exact Q_4.out.setRowOther _ (by first | omega | (have := SL.out; omega)))
  have ZG5 := Lib.hid (show ZNum W4c.heap.size W4c _ _ from by rw [hW4c, setRow_size]; exact ZG4.out.setNum A_4.out _)
  have G_5 := Lib.hid (show RowAt W4c w2_.heap.size _ _ from by rw [hW4c]; exact G_4.out.setRowOther _ (by first | omega | (have := SL.out; omega)))
  have ZQ5 := Lib.hid (show ZNum W4c.heap.size W4c _ _ from by rw [hW4c, setRow_size]; exact ZQ4.out.setNum A_4.out _)
  have HW4c := Lib.hid hW4c
  clear hW4c ZA4 ZB4 E4 B_4 P_4 Q_4 ZG4 G_4 ZQ4
  have cB__num0_5 := B_5.out.num0
  have cB__num1_5 := B_5.out.num1
  have cG__num0_5 := G_5.out.num0
  have cG__num1_5 := G_5.out.num1
  go_wp2_with (first | (refine store_num rfl (.tmp 2) (.tmp 18) rfl (w.heap.size) rfl _ _ _ _ rfl _ _ A_4.out rfl ?_; rw [← HW4c.out]))
  refine (div_gives ZB5.out ZG5.out Hg.out.1 rfl rfl Hg.out.2.2.2.1 Hg.out.2.2.2.2.2).mono ?_
  rintro e w6_ ⟨p9, n9, c9, p10, n10, c10, rfl, hz, hz8, hx⟩
  clear cB__num0_5 cB__num1_5 cG__num0_5 cG__num1_5
  have ZA6 := Lib.hid (hx.num ZA5.out)
  have ZB6 := Lib.hid (hx.num ZB5.out)
  have E6 := Lib.hid (E5.out.trans hx)
  have A_6 := Lib.hid (hx.row A_5.out)
  have B_6 := Lib.hid (hx.row B_5.out)
  have P_6 := Lib.hid (hx.row P_5.out)
  have Q_6 := Lib.hid (hx.row Q_5.out)
  have ZG6 := Lib.hid (hx.num ZG5.out)
  have G_6 := Lib.hid (hx.row G_5.out)
  have ZQ6 := Lib.hid (hx.num ZQ5.out)
  clear ZA5 ZB5 E5 A_5 B_5 P_5 Q_5 ZG5 G_5 ZQ5
  have ZR6 := Lib.hid hz
  clear hx hz
  clear hz8
  obtain ⟨W6c, hW6c⟩ : ∃ W6c, W6c = w6_.setRow (w.heap.size + 1) (numCells false p9 n9 c9) := ⟨_, rfl⟩
  have ZA7 := Lib.hid (show ZNum W6c.heap.size W6c _ _ from by rw [hW6c, setRow_size]; exact ZA6.out.setNum B_6.out _)
  have ZB7 := Lib.hid (show ZNum W6c.heap.size W6c _ _ from by rw [hW6c, setRow_size]; exact ZB6.out.setNum B_6.out _)
  have E7 : Hid (Ext w W6c) := by rw [hW6c]; exact ext_setRow E6.out (Nat.le_succ _) _
  have A_7 := Lib.hid (show RowAt W6c (w.heap.size) _ _ from by rw [hW6c]; exact A_6.out.setRowOther _ (by first | omega | (have := SL.out; omega)))
  have B_7 : Hid (RowAt W6c (w.heap.size + 1) 25 (numCells false p9 n9 c9)) := by rw [hW6c]; exact B_6.out.setRow _
  have P_7 := Lib.hid (show RowAt W6c (w.heap.size + 1 + 1) _ _ from by rw [hW6c]; exact P_6.out.setRowOther _ (by first | omega | (have := SL.out; omega)))
  have Q_7 := Lib.hid (show RowAt W6c (w.heap.size + 1 + 1 + 1) _ _ from by rw [hW6c]; exact Q_6.out.setRowOther _ (by first | omega | (have := SL.out; omega)))
  have ZG7 := Lib.hid (show ZNum W6c.heap.size W6c _ _ from by rw [hW6c, setRow_size]; exact ZG6.out.setNum B_6.out _)
  have G_7 := Lib.hid (show RowAt W6c w2_.heap.size _ _ from by rw [hW6c]; exact G_6.out.setRowOther _ (by first | omega | (have := SL.out; omega)))
  have ZQ7 := Lib.hid (show ZNum W6c.heap.size W6c _ _ from by rw [hW6c, setRow_size]; exact ZQ6.out.setNum B_6.out _)
  have ZR7 := Lib.hid (show ZNum W6c.heap.size W6c _ _ from by rw [hW6c, setRow_size]; exact ZR6.out.setNum B_6.out _)
  have HW6c := Lib.hid hW6c
  clear hW6c ZA6 ZB6 E6 A_6 P_6 Q_6 ZG6 G_6 ZQ6 ZR6
  go_upto_region 4 with (first | (refine store_num rfl (.tmp 3) (.tmp 25) rfl (w.heap.size + 1) rfl _ _ _ _ rfl _ _ B_6.out rfl ?_; rw [← HW6c.out]))
  go_upto_region 4 with fail
  have Hst : Hid (Dst (fun _ => False) w w.heap.size (w.heap.size + 1) false p7 n7 c7 false p9 n9 c9 (zn / g) (zd / g) undef undef undef W6c.drew) := by
    have hd := Ext.drew W6c
    exact ⟨E7.out.trans hd, A_7.out, B_7.out, ⟨_, _, _, _, P_7.out, fun h => h.elim⟩, ⟨_, _, _, _, Q_7.out, fun h => h.elim⟩, hd.num ZQ7.out, hd.num ZR7.out, False.elim, False.elim, False.elim⟩
  refine wp_region_inv (fun D ac w' => ∃ v71 v72, ac = { tmps := #[Value.agg #[Value.bool false, Value.slice p n c], Value.agg #[Value.bool false, Value.slice q m c2], Value.pointer (some { block := w.heap.size, off := 0 }), Value.pointer (some { block := w.heap.size + 1, off := 0 }), Value.pointer (some { block := w.heap.size + 1 + 1, off := 0 }), Value.pointer (some { block := w.heap.size + 1 + 1 + 1, off := 0 }), Value.pointer (some { block := w2_.heap.size, off := 0 }), Value.bool true, Value.tuple #[Value.agg #[Value.bool false, Value.slice pg ng cg], Value.bool true], Value.agg #[Value.bool false, Value.slice p n c], Value.agg #[Value.bool false, Value.slice q m c2], Value.tuple #[Value.agg #[Value.bool false, Value.slice pg ng cg], Value.bool true], Value.agg #[Value.bool false, Value.slice pg ng cg], Value.bool true, Value.tuple #[Value.agg #[Value.bool false, Value.slice p7 n7 c7], Value.agg #[Value.bool false, Value.slice p8 n8 c8], Value.bool true], Value.agg #[Value.bool false, Value.slice p n c], Value.agg #[Value.bool false, Value.slice pg ng cg], Value.tuple #[Value.agg #[Value.bool false, Value.slice p7 n7 c7], Value.agg #[Value.bool false, Value.slice p8 n8 c8], Value.bool true], Value.agg #[Value.bool false, Value.slice p7 n7 c7], Value.agg #[Value.bool false, Value.slice p8 n8 c8], Value.bool true, Value.tuple #[Value.agg #[Value.bool false, Value.slice p9 n9 c9], Value.agg #[Value.bool false, Value.slice p10 n10 c10], Value.bool true], Value.agg #[Value.bool false, Value.slice q m c2], Value.agg #[Value.bool false, Value.slice pg ng cg], Value.tuple #[Value.agg #[Value.bool false, Value.slice p9 n9 c9], Value.agg #[Value.bool false, Value.slice p10 n10 c10], Value.bool true], Value.agg #[Value.bool false, Value.slice p9 n9 c9], Value.agg #[Value.bool false, Value.slice p10 n10 c10], Value.bool true, v71, v72], defers := [] } ∧ Dst D w w.heap.size (w.heap.size + 1) false p7 n7 c7 false p9 n9 c9 (zn / g) (zd / g) v71 v72 undef w') (by kernel_rfl) (by kernel_rfl) ?startT ?stepT ?finT
  case startT => exact ⟨_, _, rfl, Hst.out⟩
  case stepT =>
    rintro i o D ac wz hio hn he ⟨v71, v72, rfl, hS⟩
    rcases i with _ | _ | _ | _ | i
    rotate_left 4
    · exact absurd hio (by simp)
    all_goals (obtain rfl := Option.some.inj (hio.symm.trans (by rfl)))
    · exact wp_of_run (run_load_num (.tmp 2) rfl w.heap.size rfl _ _ _ _ _ hS.r9) ⟨_, v72, rfl, hS.step (i := 0) (by decide) (by decide) (fun _ => rfl) (fun e => hS.f1 (e.resolve_left (by decide))) (fun e => hS.f4 (e.resolve_left (by decide)))⟩
    · exact wp_of_run (run_load_num (.tmp 3) rfl (w.heap.size + 1) rfl _ _ _ _ _ hS.r11) ⟨v71, _, rfl, hS.step (i := 1) (by decide) (by decide) (fun e => hS.f0 (e.resolve_left (by decide))) (fun _ => rfl) (fun e => hS.f4 (e.resolve_left (by decide)))⟩
    · obtain rfl := hS.f0 (he ⟨0, .data⟩ (by simp) rfl)
      obtain ⟨a4, b4, c4, d4, h4, -⟩ := hS.r4
      refine wp_store_row 25 (.tmp 4) (.tmp 28) rfl (w.heap.size + 1 + 1) (numCells false p7 n7 c7) rfl rfl 25 _ h4 num_info rfl (numCells_one ..) ?_
      exact ⟨_, v72, rfl, hS.store4 (by omega) (by omega)⟩
    · obtain rfl := hS.f1 (he ⟨1, .data⟩ (by simp) rfl)
      obtain ⟨a4, b4, c4, d4, h4, -⟩ := hS.r5
      refine wp_store_row 25 (.tmp 5) (.tmp 29) rfl (w.heap.size + 1 + 1 + 1) (numCells false p9 n9 c9) rfl rfl 25 _ h4 num_info rfl (numCells_one ..) ?_
      exact ⟨v71, _, rfl, hS.store5 (by omega) (by omega)⟩
  case finT =>
    rintro D ac wz hD ⟨v71, v72, rfl, hS⟩
    obtain ⟨a4, b4, c4, d4, h4, e4⟩ := hS.r4
    obtain ⟨rfl, rfl, rfl, rfl⟩ := e4 (hD 2 (by simp))
    obtain ⟨a5, b5, c5, d5, h5, e5⟩ := hS.r5
    obtain ⟨rfl, rfl, rfl, rfl⟩ := e5 (hD 3 (by simp))
    have HS := Lib.hid (And.intro hS.ext (And.intro hS.zq hS.zr))
    have H4 := Lib.hid h4
    have H5 := Lib.hid h5
    clear hD hS h4 h5 e4 e5
    go_wp2_with fail
    exact ret_two rfl (w.heap.size + 1 + 1) rfl (w.heap.size + 1 + 1 + 1) rfl _ _ _ _ _ _ _ _ _ _ H4.out H5.out ⟨_, _, _, _, _, _, rfl, HS.out.2.1, HS.out.2.2, HS.out.1⟩
end Go.Proofs.YtegjcikofmphjaaGreatDoor
/- Layer 2: roots in their blocks; laws of their operations. -/
namespace Go.Proofs.YtegjcikofmphjaaGreatDoor
open Go Go.RowKit Go.Shelf
def rootCells (a s : Int) (nn : Bool) (p : Option Addr) (n c : Nat) (nd : Bool) (q : Option Addr) (m e : Nat) : Array Value := #[.int .i64 a, .int .i64 s, .bool nn, .slice p n c, .bool nd, .slice q m e]
theorem root_info : (Tryz.prog.info? 32).map (·.size) = some 6 := by kernel_rfl
theorem rootCells_one (a s : Int) (nn : Bool) (p : Option Addr) (n c : Nat) (nd : Bool) (q : Option Addr) (m e : Nat) : (rootCells a s nn p n c nd q m e).all (·.oneCell') = true := by simp [rootCells, Value.oneCell']
section
variable {W : World} {g : Nat} {t : TypeId} {a s : Int} {nn nd : Bool} {p q : Option Addr} {n c m e : Nat} (h : RowAt W g t (rootCells a s nn p n c nd q m e))
include h
theorem RowAt.root0 : W.cell? ⟨g, 0, none⟩ = some (.int .i64 a) := h.cell 0
theorem RowAt.root1 : W.cell? ⟨g, 1, none⟩ = some (.int .i64 s) := h.cell 1
theorem RowAt.root2 : W.cell? ⟨g, 2, none⟩ = some (.bool nn) := h.cell 2
theorem RowAt.root3 : W.cell? ⟨g, 3, none⟩ = some (.slice p n c) := h.cell 3
theorem RowAt.root4 : W.cell? ⟨g, 4, none⟩ = some (.bool nd) := h.cell 4
theorem RowAt.root5 : W.cell? ⟨g, 5, none⟩ = some (.slice q m e) := h.cell 5
end
theorem store_root {ops : Array Oper} {rest : List Oper} {o : Oper} {b : Act} {w : World} {Q : Exit → Act → World → Prop} (hgd : o.guard = none) (x y : Operand) (ho : o.op = .store 32 x y)
    (g : Nat) (hx : b.eval x = .pointer (some ⟨g, 0, none⟩)) (a s : Int) (nn : Bool) (p : Option Addr) (n c : Nat) (nd : Bool) (q : Option Addr) (m e : Nat) (hy : b.eval y = .agg #[.int .i64 a, .int .i64 s, .bool nn, .slice p n c, .bool nd, .slice q m e]) (t : TypeId) (old : Array Value) (hg : RowAt w g t old) (hold : old.size = 6)
    (h : wpList Tryz.prog ops Q rest (b.put o.dst undef) (w.setRow g (rootCells a s nn p n c nd q m e))) : wpList Tryz.prog ops Q (o :: rest) b w :=
  wpList_plain hgd fun _ hK => wp_store_row 32 x y ho g (rootCells a s nn p n c nd q m e) hx hy t old hg root_info hold (rootCells_one ..) (hK _ _ h)
theorem load_root {ops : Array Oper} {rest : List Oper} {o : Oper} {b : Act} {w : World} {Q : Exit → Act → World → Prop} (hgd : o.guard = none) (x : Operand) (ho : o.op = .load 32 x)
    (g : Nat) (hx : b.eval x = .pointer (some ⟨g, 0, none⟩)) (a s : Int) (nn : Bool) (p : Option Addr) (n c : Nat) (nd : Bool) (q : Option Addr) (m e : Nat) (t : TypeId) (hg : RowAt w g t (rootCells a s nn p n c nd q m e))
    (h : wpList Tryz.prog ops Q rest (b.put o.dst (.agg #[.int .i64 a, .int .i64 s, .bool nn, .slice p n c, .bool nd, .slice q m e])) w) : wpList Tryz.prog ops Q (o :: rest) b w :=
  wpList_load_row hgd 32 x ho g hx t (rootCells a s nn p n c nd q m e) (0, 0) _ hg Tryz.underlying32 rfl root_info h
theorem ret_root {fn : Func} {R : Ending → World → Prop} {tmps : Array Value} {w : World} {r u : Tmp} (hres : fn.results = #[.cell r 32, .tmp u]) (g : Nat) (hp : tmps.getD r undef = .pointer (some ⟨g, 0, none⟩)) (ok : Bool) (hu : tmps.getD u undef = .bool ok)
    (a s : Int) (nn : Bool) (p : Option Addr) (n c : Nat) (nd : Bool) (q : Option Addr) (m e : Nat) (t : TypeId) (hg : RowAt w g t (rootCells a s nn p n c nd q m e)) (hR : R (.returned (.tuple #[.agg #[.int .i64 a, .int .i64 s, .bool nn, .slice p n c, .bool nd, .slice q m e], .bool ok])) w) : bodyPost Tryz.prog fn R .ret { tmps, defers := [] } w := by
  refine bodyPost_ret (v := .tuple #[.agg #[.int .i64 a, .int .i64 s, .bool nn, .slice p n c, .bool nd, .slice q m e], .bool ok]) ?_ rfl hR
  have h1 := results_cell_tmp hres tmps Tryz.prog w
  rw [hp, hu] at h1
  have h2 := run_loadVar_row (P := Tryz.prog) w g t 32 (rootCells a s nn p n c nd q m e) (0, 0) _ hg Tryz.underlying32 rfl root_info
  rw [h1]
  simp only [asAddr, Sem.run_pure, Result.andThen]
  rw [h2]; rfl
theorem ret_root1 {fn : Func} {R : Ending → World → Prop} {tmps : Array Value} {w : World} {r : Tmp} (hres : fn.results = #[.cell r 32]) (g : Nat) (hp : tmps.getD r undef = .pointer (some ⟨g, 0, none⟩))
    (a s : Int) (nn : Bool) (p : Option Addr) (n c : Nat) (nd : Bool) (q : Option Addr) (m e : Nat) (t : TypeId) (hg : RowAt w g t (rootCells a s nn p n c nd q m e)) (hR : R (.returned (.agg #[.int .i64 a, .int .i64 s, .bool nn, .slice p n c, .bool nd, .slice q m e])) w) : bodyPost Tryz.prog fn R .ret { tmps, defers := [] } w :=
  bodyPost_ret (results_cell_row hres _ _ _ _ _ _ _ hp hg Tryz.underlying32 rfl root_info) rfl hR
section
variable {o : Oper} {b : Act} {w : World}
theorem run_load_root (x : Operand) (ho : o.op = .load 32 x) (g : Nat) (hx : b.eval x = .pointer (some ⟨g, 0, none⟩)) (a s : Int) (nn : Bool) (p : Option Addr) (n c : Nat) (nd : Bool) (q : Option Addr) (m e : Nat) (t : TypeId) (hg : RowAt w g t (rootCells a s nn p n c nd q m e)) :
    (execOp b.eval o).run Tryz.prog w = .ok (.value (.agg #[.int .i64 a, .int .i64 s, .bool nn, .slice p n c, .bool nd, .slice q m e])) w := by
  unfold execOp
  simp only [ho, hx, Instr.loadAt, Instr.sureAddr, Sem.run_bind, Sem.run_pure, Result.andThen_ok, run_loadVar_row w g t 32 (rootCells a s nn p n c nd q m e) (0, 0) _ hg Tryz.underlying32 rfl root_info]
  rfl
theorem run_rfield (k j : Nat) (hk : (k = 0 ∧ j = 0) ∨ (k = 1 ∧ j = 1) ∨ (k = 2 ∧ j = 2) ∨ (k = 3 ∧ j = 4)) (x : Operand) (ho : o.op = .fieldAddr 32 x k) (g : Nat) (hx : b.eval x = .pointer (some ⟨g, 0, none⟩)) : (execOp b.eval o).run Tryz.prog w = .ok (.value (.pointer (some ⟨g, j, none⟩))) w := by
  unfold execOp
  rcases hk with ⟨rfl, rfl⟩ | ⟨rfl, rfl⟩ | ⟨rfl, rfl⟩ | ⟨rfl, rfl⟩
  all_goals (simp only [ho, hx]; simp [go_sem])
theorem run_load_int_at (x : Operand) (ho : o.op = .load 3 x) (ad : Addr) (hx : b.eval x = .pointer (some ad)) (v : Int) (hc : w.cell? ad = some (.int .i64 v)) : (execOp b.eval o).run Tryz.prog w = .ok (.value (.int .i64 v)) w := by
  unfold execOp
  simp only [ho, hx, Instr.loadAt, Instr.sureAddr, Sem.run_bind, Sem.run_pure, Result.andThen_ok]
  simp [hc, go_sem]
theorem run_load_rnum (x : Operand) (ho : o.op = .load 25 x) (g j : Nat) (hx : b.eval x = .pointer (some ⟨g, j, none⟩)) (neg : Bool) (p : Option Addr) (n c : Nat) (h0 : w.cell? ⟨g, j, none⟩ = some (.bool neg)) (h1 : w.cell? ⟨g, j + 1, none⟩ = some (.slice p n c)) : (execOp b.eval o).run Tryz.prog w = .ok (.value (.agg #[.bool neg, .slice p n c])) w := by
  unfold execOp
  simp only [ho, hx, Instr.loadAt, Instr.sureAddr, Sem.run_bind, Sem.run_pure, Result.andThen_ok]
  simp [h0, h1, go_sem]
theorem run_build_root (x y z u : Operand) (ho : o.op = .build 32 #[(0, x), (1, y), (2, z), (3, u)]) (a s : Int) (nn : Bool) (p : Option Addr) (n c : Nat) (nd : Bool) (q : Option Addr) (m e : Nat) (hx : b.eval x = .int .i64 a) (hy : b.eval y = .int .i64 s) (hz : b.eval z = .agg #[.bool nn, .slice p n c]) (hu : b.eval u = .agg #[.bool nd, .slice q m e]) :
    (execOp b.eval o).run Tryz.prog w = .ok (.value (.agg #[.int .i64 a, .int .i64 s, .bool nn, .slice p n c, .bool nd, .slice q m e])) w := by
  unfold execOp
  simp only [ho, List.map_toArray, List.map_cons, List.map_nil, hx, hy, hz, hu]
  simp [go_sem]
theorem run_mul_int (x y : Operand) (ho : o.op = .binOp .mul 3 x y 3) (hty : o.type = 3) (u v r : Int) (hx : b.eval x = .int .i64 u) (hy : b.eval y = .int .i64 v) (hr : IntKind.i64.wrap (u * v) = r) : (execOp b.eval o).run Tryz.prog w = .ok (.value (.int .i64 r)) w := by
  subst hr
  unfold execOp
  simp only [ho, hx, hy, hty]
  simp [go_sem]
theorem ent_side (args : Array Value) (w : World) : (callFunc 39 args).run Tryz.prog w = .ok (.enter 39 args) w := enters_of Tryz.func39 (by kernel_rfl) rfl args w
end
def RootV (w : World) (v : Value) (a s N D : Int) : Prop :=
  ∃ p n c q m e, v = .agg #[.int .i64 a, .int .i64 s, .bool false, .slice p n c, .bool false, .slice q m e] ∧ ZNum w.heap.size w (.agg #[.bool false, .slice p n c]) N ∧ ZNum w.heap.size w (.agg #[.bool false, .slice q m e]) D
theorem RootV.ext {w w' : World} {v : Value} {a s N D : Int} (h : RootV w v a s N D) (hx : Ext w w') : RootV w' v a s N D := by
  obtain ⟨p, n, c, q, m, e, rfl, hn, hd⟩ := h
  exact ⟨p, n, c, q, m, e, rfl, hx.num hn, hx.num hd⟩
def root0 : Value := .agg #[.int .i64 0, .int .i64 0, .bool false, .slice none 0 0, .bool false, .slice none 0 0]
theorem zcmp_sign (z : Int) : zcmp z 0 = z.sign := by
  unfold zcmp
  rcases Int.lt_trichotomy z 0 with h | h | h
  · rw [if_pos h, Int.sign_eq_neg_one_of_neg h]
  · subst h; rfl
  · rw [if_neg (by omega), if_pos h, Int.sign_eq_one_of_pos h]
end Go.Proofs.YtegjcikofmphjaaGreatDoor

