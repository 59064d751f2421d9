/- Texts that belong together. -/
import Derived.Test.YtegjcikofmphjaaGreatDoorQRootEnd
import Derived.ArgAppend
import Derived.WalkSpells
import Derived.Test.YtegjcikofmphjaaGreatDoorQRootJ
set_option linter.all false
/- Layer 2: numbers are copied. -/
namespace Go.Proofs.YtegjcikofmphjaaGreatDoor
open Go Go.RowKit Go.Shelf
theorem eql_nil {ops : Array Oper} {rest : List Oper} {o : Oper} {b : Act} {w : World} {Q : Exit → Act → World → Prop} (hgd : o.guard = none) (x y : Operand) (ho : o.op = .binOp .eql 23 x y 23) (a : Option Addr) (n c : Nat) (hx : b.eval x = .slice a n c) (hy : b.eval y = .slice none 0 0)
    (h : wpList Tryz.prog ops Q rest (b.put o.dst (.bool a.isNone)) w) : wpList Tryz.prog ops Q (o :: rest) b w := by
  refine wpList_plain hgd fun K hK => wp_of_run (v := .bool a.isNone) ?_ (hK _ _ h)
  have h1 := Lib.run_eql_slice_nil (P := Tryz.prog) w 23 87 a n c
  unfold execOp
  simp only [ho, hx, hy]
  simp [go_sem, h1, Tryz.underlying23]
set_option maxRecDepth 100000 in
theorem clone_nil (c : Nat) (w : World) : Calls Tryz.prog 89 #[.slice none 0 c] w fun e w' => e = .returned (.slice none 0 0) ∧ Ext w w' := by
  go_enter Tryz.func89, Tryz.ntmps89
  go_wp2_with (refine eql_nil rfl (.tmp 3) _ rfl _ _ _ rfl rfl ?_)
  go_ret
  exact ⟨rfl, Ext.refl _⟩
set_option maxRecDepth 100000 in
set_option maxHeartbeats 2000000 in
theorem clone_some (ad : Addr) (c : Nat) (ds : List Nat) (w : World) (hcs : ∀ j, j < ds.length → (Addr.add ad j).block < w.heap.size ∧ w.cell? (Addr.add ad j) = some (.int .u32 (ds.getD j 0 : Nat))) (hm : ds.length ≤ 64) :
    Calls Tryz.prog 89 #[.slice (some ad) ds.length c] w fun e w' => ∃ p c', e = .returned (.slice p ds.length c') ∧ U32s w'.heap.size w' (.slice p ds.length c') ds ∧ Ext w w' := by
  obtain ⟨i0, hi, hz0, hz1, hz2⟩ := info_parts info_u32
  obtain ⟨n, hn⟩ : ∃ n, n = ds.length := ⟨_, rfl⟩
  rw [← hn] at hm hcs ⊢
  obtain ⟨news, hnews⟩ : ∃ news, news = u32l ds := ⟨_, rfl⟩
  have hnl : news.length = n := by rw [hnews, u32l_length, hn]
  have Hc1 : Hid (∀ o (j : Nat) (u : Value), news[j]? = some u → (w.alloc o).cell? (Addr.add ad j) = some u) := fun o j u hj => by
    have hj' : j < n := by have := (List.getElem?_eq_some_iff.1 hj).1; omega
    obtain ⟨hb, hc⟩ := hcs j hj'
    have e1 : (w.alloc o).cell? (Addr.add ad j) = w.cell? (Addr.add ad j) := (Ext.alloc w o).cell (p := Addr.add ad j) hb
    rw [hnews, u32l_get (by rw [← hn]; exact hj')] at hj
    rw [e1, hc, ← hj, List.getD_eq_getElem?_getD]
  have Hc2 : Hid (∀ u ∈ news, u.oneCell' = true) := by rw [hnews]; exact u32l_one _
  have Hnews := Lib.hid hnews
  have Hn := Lib.hid hn
  clear hcs hnews hn
  have hown : (w.alloc (.cells #[] 87)).ownsRow w.heap.size 87 1 (.slice (some ⟨w.heap.size, 0, none⟩) 0 0) 0 [] := World.ownsRow_lit w #[] 0 (Nat.le_refl _) (by decide) rfl
  have Hown := Lib.hid hown
  clear hown
  go_enter Tryz.func89, Tryz.ntmps89
  go_wp2_with (first | (refine eql_nil rfl (.tmp 3) _ rfl _ _ _ rfl rfl ?_) | (at_builtin; refine wpList_append_own _ rfl (.tmp 5) (.tmp 6) 23 rfl w.heap.size 87 i0 (.int .u32 0) 1 4 Tryz.underlying23 hi hz0 hz1 hz2 rfl (by decide) _ _ _ rfl Hown.out ad n c news rfl (by rw [hnl, Nat.mul_one]) (Hc1.out _) Hc2.out (by unfold maxLen; omega) (by omega) (by simp) ?_; intro v' w2 hown' hgrow _; have H1 := Lib.hid hown'; have H2 := Lib.hid hgrow; clear hown' hgrow))
  go_ret
  have ho : Owns w2 w.heap.size v' ds := by
    have h := H1.out
    rw [Nat.zero_add, List.nil_append, Hnews.out, Hn.out] at h
    exact h
  obtain ⟨p, c', rfl, -⟩ := ho.shape
  rw [Hn.out]
  exact ⟨p, c', rfl, ho.u32s (by rw [← Hn.out]; unfold maxLen; omega), ext_grown H2.out⟩
theorem clone_ok (v : Value) (ds : List Nat) (w : World) (h : U32s w.heap.size w v ds) (hm : ds.length ≤ 64) :
    Calls Tryz.prog 89 #[v] w fun e w' => ∃ p c', e = .returned (.slice p ds.length c') ∧ U32s w'.heap.size w' (.slice p ds.length c') ds ∧ Ext w w' := by
  obtain ⟨q, cap, rfl, hl, hc⟩ := h
  rcases q with _ | ⟨b, off, spot⟩
  · by_cases h0 : 0 < ds.length
    · obtain ⟨b, off, e, -⟩ := hc h0
      cases e
    · obtain rfl : ds = [] := List.length_eq_zero_iff.1 (by omega)
      refine (clone_nil cap w).mono fun e w' ⟨he, hx⟩ => ⟨none, 0, he, ⟨none, 0, rfl, by decide, fun h => absurd h (by simp)⟩, hx⟩
  · refine clone_some ⟨b, off, spot⟩ cap ds w (fun j hj => ?_) hm
    obtain ⟨b', off', e, hb, hcs⟩ := hc (by omega)
    cases e
    exact ⟨by rw [show Addr.add ⟨b, off, none⟩ j = ⟨b, off + j, none⟩ by simp [Addr.add]]; exact hb, by rw [show Addr.add ⟨b, off, none⟩ j = ⟨b, off + j, none⟩ by simp [Addr.add]]; exact hcs j hj⟩
end Go.Proofs.YtegjcikofmphjaaGreatDoor
/- Layer 2: root.copied. -/
namespace Go.Proofs.YtegjcikofmphjaaGreatDoor
open Go Go.RowKit Go.Shelf
theorem ent_clone (args : Array Value) (w : World) : (callFunc 89 args).run Tryz.prog w = .ok (.enter 89 args) w := enters_of Tryz.func89 (by kernel_rfl) rfl args w
theorem run_build_num {o : Oper} {b : Act} {w : World} (x y : Operand) (ho : o.op = .build 25 #[(0, x), (1, y)]) (neg : Bool) (p : Option Addr) (n c : Nat) (hx : b.eval x = .bool neg) (hy : b.eval y = .slice p n c) : (execOp b.eval o).run Tryz.prog w = .ok (.value (.agg #[.bool neg, .slice p n c])) w := by
  unfold execOp
  simp only [ho, List.map_toArray, List.map_cons, List.map_nil, hx, hy]
  simp [go_sem]
def cpF (g : Nat) (neg : Bool) (s : Value) (ds : List Nat) : Nat → Value → World → Prop
  | 0, v, _ => v = .pointer (some ⟨g, 0, none⟩)
  | 1, v, _ => v = .bool neg
  | 2, v, _ => v = .pointer (some ⟨g, 1, none⟩)
  | 3, v, _ => v = s
  | 4, v, W => ∃ p c, v = .slice p ds.length c ∧ U32s W.heap.size W (.slice p ds.length c) ds
  | 5, v, W => ∃ p c, v = .agg #[.bool neg, .slice p ds.length c] ∧ U32s W.heap.size W (.slice p ds.length c) ds
  | _, _, _ => True
theorem cpF_mono {g : Nat} {neg : Bool} {s : Value} {ds : List Nat} {W W' : World} (hx : Ext W W') (j : Nat) (v : Value) (h : cpF g neg s ds j v W) : cpF g neg s ds j v W' := by
  match j, h with
  | 0, h | 1, h | 2, h | 3, h => exact h
  | 4, ⟨p, c, e, hu⟩ => exact ⟨p, c, e, hx.u32s hu⟩
  | 5, ⟨p, c, e, hu⟩ => exact ⟨p, c, e, hx.u32s hu⟩
  | _ + 6, _ => trivial
set_option maxRecDepth 100000 in
set_option maxHeartbeats 4000000 in
theorem copied_ok (v : Value) (z : Int) (w : World) (h : IsN z v w) : Calls Tryz.prog 61 #[v] w fun e w' => ∃ r, e = .returned r ∧ IsN z r w' ∧ Ext w w' := by
  obtain ⟨p, c, rfl⟩ := ZNum.parts h
  have HL := Lib.hid h.2
  have HU := Lib.hid (znum_slice h)
  obtain ⟨neg, hneg⟩ : ∃ neg, neg = decide (z < 0) := ⟨_, rfl⟩
  obtain ⟨ds, hds⟩ : ∃ ds, ds = digs z.natAbs := ⟨_, rfl⟩
  have hm : ds.length ≤ 64 := by rw [hds]; exact digs_len.2 h.2
  rw [← hneg, ← hds]
  rw [← hds] at HU
  clear h
  have E := Lib.hid (Ext.refl w)
  have HN := Lib.hid hneg
  have HD := Lib.hid hds
  have HM := Lib.hid hm
  obtain ⟨n, hn⟩ : ∃ n, n = ds.length := ⟨_, rfl⟩
  have HNn := Lib.hid hn
  rw [← hn] at HU ⊢
  clear hneg hds hm hn
  obtain ⟨W0a, hW0a⟩ : ∃ W0a, W0a = ((w.alloc (.cells #[.bool neg, .slice p n c] 25)).alloc (.cells #[.bool false, .slice none 0 0] 25)) := ⟨_, rfl⟩
  have hx : Ext w W0a := by rw [hW0a]; exact ((Ext.alloc _ _).trans (Ext.alloc _ _))
  have A_n : RowAt W0a (w.heap.size) 25 (numCells neg p n c) := by rw [hW0a]; exact ((RowAt.new' _ _ (by simp)).alloc _)
  have P_n : RowAt W0a (w.heap.size + 1) 25 (numCells false none 0 0) := by rw [hW0a]; exact (RowAt.new' _ _ (by simp))
  have E1 := Lib.hid (E.out.trans hx)
  have HU1 := Lib.hid (hx.u32s HU.out)
  clear E HU
  have A_1 := Lib.hid A_n
  have P_1 := Lib.hid P_n
  have HW0a := Lib.hid hW0a
  clear hx hW0a A_n P_n
  go_enter Tryz.func61, Tryz.ntmps61
  go_upto_region 1 with fail
  rw [← HW0a.out]
  refine wp_region_tail (fun D ac w' => ∃ vs : Nat → Value, ac = { tmps := #[.agg #[.bool neg, .slice p n c], .pointer (some ⟨w.heap.size, 0, none⟩), .pointer (some ⟨w.heap.size + 1, 0, none⟩), vs 0, vs 1, vs 2, vs 3, vs 4, vs 5], defers := [] } ∧ Ext W0a w' ∧ ∀ j, D j → cpF w.heap.size neg (.slice p n c) ds j (vs j) w') 6 (by kernel_rfl) (by kernel_rfl) (by kernel_rfl) ?start1 ?step1 ?fin1
  case start1 => exact ⟨fun _ => undef, rfl, Ext.drew _, fun _ h => h.elim⟩
  case step1 =>
    rintro i o D ac wz hin hio hnd he ⟨vs, rfl, k0, hF⟩
    rcases i with _ | _ | _ | _ | _ | _ | i
    rotate_left 6
    · exact absurd hin (by omega)
    all_goals (obtain rfl := Option.some.inj (hio.symm.trans (by rfl)))
    · refine step_yes (wanted_of_none rfl _) ?_
      exact wp_of_run (run_field0 (.tmp 1) rfl _ rfl) ⟨upd vs 0 _, rfl, k0, inv_step hF (fun _ _ h => h) rfl⟩
    · refine step_yes (wanted_of_none rfl _) ?_
      exact wp_of_run (run_load_bool_at (.tmp 3) rfl _ (by exact (hF 0 (he ⟨0, .data⟩ (by simp) rfl))) neg (k0.row A_1.out).num0) ⟨upd vs 1 _, rfl, k0, inv_step hF (fun _ _ h => h) rfl⟩
    · refine step_yes (wanted_of_none rfl _) ?_
      exact wp_of_run (run_field1 (.tmp 1) rfl _ rfl) ⟨upd vs 2 _, rfl, k0, inv_step hF (fun _ _ h => h) rfl⟩
    · refine step_yes (wanted_of_none rfl _) ?_
      exact wp_of_run (run_load_slice_at (.tmp 5) rfl _ (by exact (hF 2 (he ⟨2, .data⟩ (by simp) rfl))) p n c (k0.row A_1.out).num1) ⟨upd vs 3 _, rfl, k0, inv_step hF (fun _ _ h => h) rfl⟩
    · refine step_yes (wanted_of_none rfl _) ?_
      refine wp_of_callE (run_enter1 89 (.tmp 6) _ rfl _ (by exact (hF 3 (he ⟨3, .data⟩ (by simp) rfl))) ent_clone) (clone_ok _ ds wz (k0.u32s HU1.out) HM.out) ?_
      rintro e w' ⟨p1, c1, rfl, hu, hx⟩
      exact ⟨_, rfl, upd vs 4 _, rfl, k0.trans hx, inv_step hF (fun j v h => cpF_mono hx j v h) ⟨p1, c1, rfl, hu⟩⟩
    · refine step_yes (wanted_of_none rfl _) ?_
      obtain ⟨p1, c1, e1, hu⟩ := (hF 4 (he ⟨4, .data⟩ (by simp) rfl))
      exact wp_of_run (run_build_num (.tmp 4) (.tmp 7) rfl _ _ _ _ (by exact (hF 1 (he ⟨1, .data⟩ (by simp) rfl))) (by exact e1)) ⟨upd vs 5 _, rfl, k0, inv_step hF (fun _ _ h => h) ⟨p1, c1, rfl, hu⟩⟩
  case fin1 =>
    rintro D ac wf hD ⟨vs, rfl, k0, hF⟩
    change wpList _ _ _ [_] _ _
    obtain ⟨p5, c5, e5, hu5⟩ : ∃ p c, vs 5 = .agg #[.bool neg, .slice p ds.length c] ∧ U32s wf.heap.size wf (.slice p ds.length c) ds := hF 5 (hD 5 (by decide))
    rw [e5]
    have H5 := Lib.hid hu5
    have E2 := Lib.hid (E1.out.trans k0)
    have HU2 := Lib.hid (k0.u32s HU1.out)
    have A_2 := Lib.hid (k0.row A_1.out)
    have P_2 := Lib.hid (k0.row P_1.out)
    clear E1 HU1 A_1 P_1
    clear hF hD e5 hu5 k0
    generalize vs = t5
    go_wp2_with (refine store_num rfl (.tmp 2) (.tmp 8) rfl _ rfl _ _ _ _ rfl _ _ P_2.out rfl ?_)
    refine ret_num1 rfl _ rfl _ _ _ _ _ (P_2.out.setRow _) ⟨_, rfl, ?_, ext_setRow E2.out (by omega) _⟩
    rw [HN.out]
    refine ⟨⟨_, rfl, ?_⟩, HL.out⟩
    rw [setRow_size, ← HD.out]
    exact H5.out.setAny P_2.out rfl _
end Go.Proofs.YtegjcikofmphjaaGreatDoor
/- Layer 2: Plus within the ints. -/
namespace Go.Proofs.YtegjcikofmphjaaGreatDoor
open Go Go.RowKit Go.Shelf
theorem ent_copied (args : Array Value) (w : World) : (callFunc 61 args).run Tryz.prog w = .ok (.enter 61 args) w := enters_of Tryz.func61 (by kernel_rfl) rfl args w
def plF (g : Nat) (t s N M : Int) (vn vd : Value) : Nat → Value → World → Prop
  | 0, v, _ => v = .int .i64 t
  | 1, v, _ => v = .pointer (some ⟨g, 1, none⟩)
  | 2, v, _ => v = .int .i64 s
  | 3, v, _ => v = .pointer (some ⟨g, 2, none⟩)
  | 4, v, _ => v = vn
  | 5, v, W => IsN N v W
  | 6, v, _ => v = .pointer (some ⟨g, 4, none⟩)
  | 7, v, _ => v = vd
  | 8, v, W => IsN M v W
  | 9, v, W => RootV W v t s N M
  | _, _, _ => True
theorem plF_mono {g : Nat} {t s N M : Int} {vn vd : Value} {W W' : World} (hx : Ext W W') (j : Nat) (v : Value) (h : plF g t s N M vn vd j v W) : plF g t s N M vn vd j v W' := by
  match j, h with
  | 0, h | 1, h | 2, h | 3, h | 4, h | 6, h | 7, h => exact h
  | 5, h => exact IsN.ext h hx
  | 8, h => exact IsN.ext h hx
  | 9, h => exact RootV.ext h hx
  | _ + 10, _ => trivial
theorem RootV.setAny {W : World} {v : Value} {a s N D0 : Int} {g : Nat} {t : TypeId} {old : Array Value} (h : RootV W v a s N D0) (hr : RowAt W g t old) (hn : noU32 old = true) (cs : Array Value) : RootV (W.setRow g cs) v a s N D0 := by
  obtain ⟨p, n, c, q, m, e, rfl, h1, h2⟩ := h
  exact ⟨p, n, c, q, m, e, rfl, by rw [setRow_size]; exact h1.setAny hr hn cs, by rw [setRow_size]; exact h2.setAny hr hn cs⟩
set_option maxRecDepth 100000 in
set_option maxHeartbeats 4000000 in
theorem plus_in (v : Value) (a s N D0 n : Int) (w : World) (hv : RootV w v a s N D0) (hr : RtR a s N D0) (hn : -9223372036854775808 ≤ n ∧ n ≤ 9223372036854775807) (ho : -9223372036854775808 ≤ a + n ∧ a + n ≤ 9223372036854775807) :
    Calls Tryz.prog 28 #[v, .int .i64 n] w fun e w' => ∃ r, e = .returned (.tuple #[r, .bool true]) ∧ RootV w' r (a + n) s N D0 ∧ Ext w w' := by
  obtain ⟨p, k, c, q, m, e, rfl, hn1, hd1⟩ := id hv
  have E := Lib.hid (Ext.refl w)
  have V_ := Lib.hid hv
  have RR := Lib.hid hr
  have hw0 : wrap64 (a + n) = a + n := by unfold wrap64; omega
  have hlt : decide (a + n < a) = decide (n < 0) := by by_cases h : n < 0 <;> simp <;> omega
  obtain ⟨t, ht⟩ : ∃ t, t = a + n := ⟨_, rfl⟩
  rw [← ht] at hlt ⊢
  have HT := Lib.hid ht
  have hw : wrap64 (a + n) = t := by rw [hw0, ht]
  have HZN := Lib.hid (show IsN N _ w from hn1)
  have HZD := Lib.hid (show IsN D0 _ w from hd1)
  have hcase : (n < 0 ∧ t < a) ∨ (¬ n < 0 ∧ ¬ t < a) := by omega
  clear hn1 hd1 ho hn hv hr ht hlt hw0
  obtain ⟨W0a, hW0a⟩ : ∃ W0a, W0a = ((w.alloc (.cells #[.int .i64 a, .int .i64 s, .bool false, .slice p k c, .bool false, .slice q m e] 32)).alloc (.cells #[.int .i64 0, .int .i64 0, .bool false, .slice none 0 0, .bool false, .slice none 0 0] 32)) := ⟨_, rfl⟩
  have hx : Ext w W0a := by rw [hW0a]; exact ((Ext.alloc _ _).trans (Ext.alloc _ _))
  have A_n : RowAt W0a (w.heap.size) 32 (rootCells a s false p k c false q m e) := by rw [hW0a]; exact ((RowAt.new' _ _ (by simp)).alloc _)
  have P_n : RowAt W0a (w.heap.size + 1) 32 (rootCells 0 0 false none 0 0 false none 0 0) := by rw [hW0a]; exact (RowAt.new' _ _ (by simp))
  have E1 := Lib.hid (E.out.trans hx)
  have V_1 := Lib.hid (RootV.ext V_.out hx)
  have HZN1 := Lib.hid (hx.num HZN.out)
  have HZD1 := Lib.hid (hx.num HZD.out)
  clear E V_ HZN HZD
  have A_1 := Lib.hid A_n
  have P_1 := Lib.hid P_n
  have HW0a := Lib.hid hW0a
  clear hx hW0a A_n P_n
  rcases hcase with ⟨g1, g2⟩ | ⟨g1, g2⟩
  · go_enter Tryz.func28, Tryz.ntmps28
    have cA__root0_1 := A_1.out.root0
    have cA__root1_1 := A_1.out.root1
    have cA__root2_1 := A_1.out.root2
    have cA__root3_1 := A_1.out.root3
    have cA__root4_1 := A_1.out.root4
    have cA__root5_1 := A_1.out.root5
    go_wp2_with fail
    try rw [← HW0a.out]
    refine (rootRight_ok _ _ _ _ _ W0a V_1.out RR.out).mono ?_
    rintro e w2_ ⟨rfl, hx⟩
    clear cA__root0_1 cA__root1_1 cA__root2_1 cA__root3_1 cA__root4_1 cA__root5_1
    have E2 := Lib.hid (E1.out.trans hx)
    have V_2 := Lib.hid (RootV.ext V_1.out hx)
    have HZN2 := Lib.hid (hx.num HZN1.out)
    have HZD2 := Lib.hid (hx.num HZD1.out)
    have A_2 := Lib.hid (hx.row A_1.out)
    have P_2 := Lib.hid (hx.row P_1.out)
    clear E1 V_1 HZN1 HZD1 A_1 P_1
    clear hx
    go_upto_region 5 with fail
    try rw [hw]
    refine wp_region_tail (fun D ac w' => ∃ vs : Nat → Value, ac = { tmps := #[Value.agg #[Value.int IntKind.i64 a, Value.int IntKind.i64 s, Value.bool false, Value.slice p k c, Value.bool false, Value.slice q m e], Value.int IntKind.i64 n, Value.pointer (some { block := w.heap.size, off := 0 }), undef, Value.pointer (some { block := w.heap.size + 1, off := 0 }), Value.bool false, Value.int IntKind.i64 t, Value.bool false, Value.pointer (some { block := w.heap.size, off := 0 }), Value.int IntKind.i64 a, Value.int IntKind.i64 n, Value.int IntKind.i64 t, Value.int IntKind.i64 t, Value.pointer (some { block := w.heap.size, off := 0 }), Value.int IntKind.i64 a, Value.bool true, Value.int IntKind.i64 n, Value.bool true, Value.bool false, Value.bool false, Value.bool false, Value.agg #[Value.int IntKind.i64 a, Value.int IntKind.i64 s, Value.bool false, Value.slice p k c, Value.bool false, Value.slice q m e], Value.bool true, Value.bool false, Value.bool false, undef, vs 0, vs 1, vs 2, vs 3, vs 4, vs 5, vs 6, vs 7, vs 8, vs 9], defers := [] } ∧ Ext w2_ w' ∧ ∀ j, D j → plF w.heap.size t s N D0 (.agg #[.bool false, .slice p k c]) (.agg #[.bool false, .slice q m e]) j (vs j) w') 10 (by kernel_rfl) (by kernel_rfl) (by kernel_rfl) ?start50 ?step50 ?fin50
    case start50 => exact ⟨fun _ => undef, rfl, Ext.drew _, fun _ h => h.elim⟩
    case step50 =>
      rintro i o D ac wz hin hio hnd he ⟨vs, rfl, k0, hF⟩
      rcases i with _ | _ | _ | _ | _ | _ | _ | _ | _ | _ | i
      rotate_left 10
      · exact absurd hin (by omega)
      all_goals (obtain rfl := Option.some.inj (hio.symm.trans (by rfl)))
      · refine step_yes (wanted_of_none rfl _) ?_
        exact wp_of_run (run_mov (.tmp 6) rfl _ rfl) ⟨upd vs 0 _, rfl, k0, inv_step hF (fun _ _ h => h) rfl⟩
      · refine step_yes (wanted_of_none rfl _) ?_
        exact wp_of_run (run_rfield 1 1 (by decide) (.tmp 2) rfl _ rfl) ⟨upd vs 1 _, rfl, k0, inv_step hF (fun _ _ h => h) rfl⟩
      · refine step_yes (wanted_of_none rfl _) ?_
        exact wp_of_run (run_load_int_at (.tmp 27) rfl _ (by exact (hF 1 (he ⟨1, .data⟩ (by simp) rfl))) s (k0.row A_2.out).root1) ⟨upd vs 2 _, rfl, k0, inv_step hF (fun _ _ h => h) rfl⟩
      · refine step_yes (wanted_of_none rfl _) ?_
        exact wp_of_run (run_rfield 2 2 (by decide) (.tmp 2) rfl _ rfl) ⟨upd vs 3 _, rfl, k0, inv_step hF (fun _ _ h => h) rfl⟩
      · refine step_yes (wanted_of_none rfl _) ?_
        exact wp_of_run (run_load_rnum (.tmp 29) rfl _ 2 (by exact (hF 3 (he ⟨3, .data⟩ (by simp) rfl))) false p k c (k0.row A_2.out).root2 (k0.row A_2.out).root3) ⟨upd vs 4 _, rfl, k0, inv_step hF (fun _ _ h => h) rfl⟩
      · refine step_yes (wanted_of_none rfl _) ?_
        refine wp_of_callE (run_enter1 61 (.tmp 30) _ rfl _ (by exact (hF 4 (he ⟨4, .data⟩ (by simp) rfl))) ent_copied) (copied_ok _ N wz (IsN.ext HZN2.out k0)) ?_
        rintro e w' ⟨rr, rfl, hz, hx⟩
        exact ⟨_, rfl, upd vs 5 _, rfl, k0.trans hx, inv_step hF (fun j v h => plF_mono hx j v h) hz⟩
      · refine step_yes (wanted_of_none rfl _) ?_
        exact wp_of_run (run_rfield 3 4 (by decide) (.tmp 2) rfl _ rfl) ⟨upd vs 6 _, rfl, k0, inv_step hF (fun _ _ h => h) rfl⟩
      · refine step_yes (wanted_of_none rfl _) ?_
        exact wp_of_run (run_load_rnum (.tmp 32) rfl _ 4 (by exact (hF 6 (he ⟨6, .data⟩ (by simp) rfl))) false q m e (k0.row A_2.out).root4 (k0.row A_2.out).root5) ⟨upd vs 7 _, rfl, k0, inv_step hF (fun _ _ h => h) rfl⟩
      · refine step_yes (wanted_of_none rfl _) ?_
        refine wp_of_callE (run_enter1 61 (.tmp 33) _ rfl _ (by exact (hF 7 (he ⟨7, .data⟩ (by simp) rfl))) ent_copied) (copied_ok _ D0 wz (IsN.ext HZD2.out k0)) ?_
        rintro e w' ⟨rr, rfl, hz, hx⟩
        exact ⟨_, rfl, upd vs 8 _, rfl, k0.trans hx, inv_step hF (fun j v h => plF_mono hx j v h) hz⟩
      · refine step_yes (wanted_of_none rfl _) ?_
        have z5 := (hF 5 (he ⟨5, .data⟩ (by simp) rfl))
        have z8 := (hF 8 (he ⟨8, .data⟩ (by simp) rfl))
        obtain ⟨p5, c5, e5⟩ := ZNum.parts z5
        obtain ⟨p8, c8, e8⟩ := ZNum.parts z8
        have y5 : decide (N < 0) = false := by have := RR.out.n0; simp; omega
        have y8 : decide (D0 < 0) = false := by have := RR.out.d1; simp; omega
        rw [y5] at e5
        rw [y8] at e8
        rw [e5] at z5
        rw [e8] at z8
        exact wp_of_run (run_build_root (.tmp 26) (.tmp 28) (.tmp 31) (.tmp 34) rfl _ _ _ _ _ _ _ _ _ _ (by exact (hF 0 (he ⟨0, .data⟩ (by simp) rfl))) (by exact (hF 2 (he ⟨2, .data⟩ (by simp) rfl))) (by exact e5) (by exact e8)) ⟨upd vs 9 _, rfl, k0, inv_step hF (fun _ _ h => h) (show RootV _ _ _ _ _ _ from ⟨_, _, _, _, _, _, rfl, z5, z8⟩)⟩
    case fin50 =>
      rintro D ac wf hD ⟨vs, rfl, k0, hF⟩
      change wpList _ _ _ [_, _] _ _
      have h9 : RootV wf (vs 9) t s N D0 := hF 9 (hD 9 (by decide))
      obtain ⟨p9, n9, c9, q9, m9, e9, e, x1, x2⟩ := id h9
      rw [e]
      rw [e] at h9
      have H9 := Lib.hid h9
      clear x1 x2 e h9
      have E3 := Lib.hid (E2.out.trans k0)
      have V_3 := Lib.hid (RootV.ext V_2.out k0)
      have HZN3 := Lib.hid (k0.num HZN2.out)
      have HZD3 := Lib.hid (k0.num HZD2.out)
      have A_3 := Lib.hid (k0.row A_2.out)
      have P_3 := Lib.hid (k0.row P_2.out)
      clear E2 V_2 HZN2 HZD2 A_2 P_2
      clear hF hD k0
      generalize vs = t5
      go_wp2_with (refine store_root rfl (.tmp 4) (.tmp 35) rfl _ rfl _ _ _ _ _ _ _ _ _ _ rfl _ _ P_3.out rfl ?_)
      exact ret_root rfl _ rfl _ rfl _ _ _ _ _ _ _ _ _ _ _ (P_3.out.setRow _) ⟨_, rfl, RootV.setAny H9.out P_3.out rfl _, ext_setRow E3.out (by omega) _⟩
  · go_enter Tryz.func28, Tryz.ntmps28
    have cA__root0_1 := A_1.out.root0
    have cA__root1_1 := A_1.out.root1
    have cA__root2_1 := A_1.out.root2
    have cA__root3_1 := A_1.out.root3
    have cA__root4_1 := A_1.out.root4
    have cA__root5_1 := A_1.out.root5
    go_wp2_with fail
    try rw [← HW0a.out]
    refine (rootRight_ok _ _ _ _ _ W0a V_1.out RR.out).mono ?_
    rintro e w2_ ⟨rfl, hx⟩
    clear cA__root0_1 cA__root1_1 cA__root2_1 cA__root3_1 cA__root4_1 cA__root5_1
    have E2 := Lib.hid (E1.out.trans hx)
    have V_2 := Lib.hid (RootV.ext V_1.out hx)
    have HZN2 := Lib.hid (hx.num HZN1.out)
    have HZD2 := Lib.hid (hx.num HZD1.out)
    have A_2 := Lib.hid (hx.row A_1.out)
    have P_2 := Lib.hid (hx.row P_1.out)
    clear E1 V_1 HZN1 HZD1 A_1 P_1
    clear hx
    go_upto_region 5 with fail
    try rw [hw]
    refine wp_region_tail (fun D ac w' => ∃ vs : Nat → Value, ac = { tmps := #[Value.agg #[Value.int IntKind.i64 a, Value.int IntKind.i64 s, Value.bool false, Value.slice p k c, Value.bool false, Value.slice q m e], Value.int IntKind.i64 n, Value.pointer (some { block := w.heap.size, off := 0 }), undef, Value.pointer (some { block := w.heap.size + 1, off := 0 }), Value.bool false, Value.int IntKind.i64 t, Value.bool false, Value.pointer (some { block := w.heap.size, off := 0 }), Value.int IntKind.i64 a, Value.int IntKind.i64 n, Value.int IntKind.i64 t, Value.int IntKind.i64 t, Value.pointer (some { block := w.heap.size, off := 0 }), Value.int IntKind.i64 a, Value.bool false, Value.int IntKind.i64 n, Value.bool false, Value.bool false, Value.bool false, Value.bool false, Value.agg #[Value.int IntKind.i64 a, Value.int IntKind.i64 s, Value.bool false, Value.slice p k c, Value.bool false, Value.slice q m e], Value.bool true, Value.bool false, Value.bool false, undef, vs 0, vs 1, vs 2, vs 3, vs 4, vs 5, vs 6, vs 7, vs 8, vs 9], defers := [] } ∧ Ext w2_ w' ∧ ∀ j, D j → plF w.heap.size t s N D0 (.agg #[.bool false, .slice p k c]) (.agg #[.bool false, .slice q m e]) j (vs j) w') 10 (by kernel_rfl) (by kernel_rfl) (by kernel_rfl) ?start51 ?step51 ?fin51
    case start51 => exact ⟨fun _ => undef, rfl, Ext.drew _, fun _ h => h.elim⟩
    case step51 =>
      rintro i o D ac wz hin hio hnd he ⟨vs, rfl, k0, hF⟩
      rcases i with _ | _ | _ | _ | _ | _ | _ | _ | _ | _ | i
      rotate_left 10
      · exact absurd hin (by omega)
      all_goals (obtain rfl := Option.some.inj (hio.symm.trans (by rfl)))
      · refine step_yes (wanted_of_none rfl _) ?_
        exact wp_of_run (run_mov (.tmp 6) rfl _ rfl) ⟨upd vs 0 _, rfl, k0, inv_step hF (fun _ _ h => h) rfl⟩
      · refine step_yes (wanted_of_none rfl _) ?_
        exact wp_of_run (run_rfield 1 1 (by decide) (.tmp 2) rfl _ rfl) ⟨upd vs 1 _, rfl, k0, inv_step hF (fun _ _ h => h) rfl⟩
      · refine step_yes (wanted_of_none rfl _) ?_
        exact wp_of_run (run_load_int_at (.tmp 27) rfl _ (by exact (hF 1 (he ⟨1, .data⟩ (by simp) rfl))) s (k0.row A_2.out).root1) ⟨upd vs 2 _, rfl, k0, inv_step hF (fun _ _ h => h) rfl⟩
      · refine step_yes (wanted_of_none rfl _) ?_
        exact wp_of_run (run_rfield 2 2 (by decide) (.tmp 2) rfl _ rfl) ⟨upd vs 3 _, rfl, k0, inv_step hF (fun _ _ h => h) rfl⟩
      · refine step_yes (wanted_of_none rfl _) ?_
        exact wp_of_run (run_load_rnum (.tmp 29) rfl _ 2 (by exact (hF 3 (he ⟨3, .data⟩ (by simp) rfl))) false p k c (k0.row A_2.out).root2 (k0.row A_2.out).root3) ⟨upd vs 4 _, rfl, k0, inv_step hF (fun _ _ h => h) rfl⟩
      · refine step_yes (wanted_of_none rfl _) ?_
        refine wp_of_callE (run_enter1 61 (.tmp 30) _ rfl _ (by exact (hF 4 (he ⟨4, .data⟩ (by simp) rfl))) ent_copied) (copied_ok _ N wz (IsN.ext HZN2.out k0)) ?_
        rintro e w' ⟨rr, rfl, hz, hx⟩
        exact ⟨_, rfl, upd vs 5 _, rfl, k0.trans hx, inv_step hF (fun j v h => plF_mono hx j v h) hz⟩
      · refine step_yes (wanted_of_none rfl _) ?_
        exact wp_of_run (run_rfield 3 4 (by decide) (.tmp 2) rfl _ rfl) ⟨upd vs 6 _, rfl, k0, inv_step hF (fun _ _ h => h) rfl⟩
      · refine step_yes (wanted_of_none rfl _) ?_
        exact wp_of_run (run_load_rnum (.tmp 32) rfl _ 4 (by exact (hF 6 (he ⟨6, .data⟩ (by simp) rfl))) false q m e (k0.row A_2.out).root4 (k0.row A_2.out).root5) ⟨upd vs 7 _, rfl, k0, inv_step hF (fun _ _ h => h) rfl⟩
      · refine step_yes (wanted_of_none rfl _) ?_
        refine wp_of_callE (run_enter1 61 (.tmp 33) _ rfl _ (by exact (hF 7 (he ⟨7, .data⟩ (by simp) rfl))) ent_copied) (copied_ok _ D0 wz (IsN.ext HZD2.out k0)) ?_
        rintro e w' ⟨rr, rfl, hz, hx⟩
        exact ⟨_, rfl, upd vs 8 _, rfl, k0.trans hx, inv_step hF (fun j v h => plF_mono hx j v h) hz⟩
      · refine step_yes (wanted_of_none rfl _) ?_
        have z5 := (hF 5 (he ⟨5, .data⟩ (by simp) rfl))
        have z8 := (hF 8 (he ⟨8, .data⟩ (by simp) rfl))
        obtain ⟨p5, c5, e5⟩ := ZNum.parts z5
        obtain ⟨p8, c8, e8⟩ := ZNum.parts z8
        have y5 : decide (N < 0) = false := by have := RR.out.n0; simp; omega
        have y8 : decide (D0 < 0) = false := by have := RR.out.d1; simp; omega
        rw [y5] at e5
        rw [y8] at e8
        rw [e5] at z5
        rw [e8] at z8
        exact wp_of_run (run_build_root (.tmp 26) (.tmp 28) (.tmp 31) (.tmp 34) rfl _ _ _ _ _ _ _ _ _ _ (by exact (hF 0 (he ⟨0, .data⟩ (by simp) rfl))) (by exact (hF 2 (he ⟨2, .data⟩ (by simp) rfl))) (by exact e5) (by exact e8)) ⟨upd vs 9 _, rfl, k0, inv_step hF (fun _ _ h => h) (show RootV _ _ _ _ _ _ from ⟨_, _, _, _, _, _, rfl, z5, z8⟩)⟩
    case fin51 =>
      rintro D ac wf hD ⟨vs, rfl, k0, hF⟩
      change wpList _ _ _ [_, _] _ _
      have h9 : RootV wf (vs 9) t s N D0 := hF 9 (hD 9 (by decide))
      obtain ⟨p9, n9, c9, q9, m9, e9, e, x1, x2⟩ := id h9
      rw [e]
      rw [e] at h9
      have H9 := Lib.hid h9
      clear x1 x2 e h9
      have E3 := Lib.hid (E2.out.trans k0)
      have V_3 := Lib.hid (RootV.ext V_2.out k0)
      have HZN3 := Lib.hid (k0.num HZN2.out)
      have HZD3 := Lib.hid (k0.num HZD2.out)
      have A_3 := Lib.hid (k0.row A_2.out)
      have P_3 := Lib.hid (k0.row P_2.out)
      clear E2 V_2 HZN2 HZD2 A_2 P_2
      clear hF hD k0
      generalize vs = t5
      go_wp2_with (refine store_root rfl (.tmp 4) (.tmp 35) rfl _ rfl _ _ _ _ _ _ _ _ _ _ rfl _ _ P_3.out rfl ?_)
      exact ret_root rfl _ rfl _ rfl _ _ _ _ _ _ _ _ _ _ _ (P_3.out.setRow _) ⟨_, rfl, RootV.setAny H9.out P_3.out rfl _, ext_setRow E3.out (by omega) _⟩
end Go.Proofs.YtegjcikofmphjaaGreatDoor

