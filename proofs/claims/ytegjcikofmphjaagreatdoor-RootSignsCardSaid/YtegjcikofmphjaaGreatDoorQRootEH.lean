/- Texts that belong together. -/
import Derived.Test.YtegjcikofmphjaaGreatDoorQRootR
set_option linter.all false
/- Texts that belong together. -/
/- Layer 2: Right, Cmp, CmpInt, of right roots. -/
namespace Go.Proofs.YtegjcikofmphjaaGreatDoor
open Go Go.RowKit Go.Shelf
structure RtR (a s N D : Int) : Prop extends RtB a s N D where
  g : gcdZ N D = 1
  z : s = 0 ↔ N = 0
theorem lim_fitK {k : Nat} {z : Int} (h : z.natAbs < B32 ^ k) : fitK k z = true := by
  unfold fitK
  simpa using digs_len.2 h
theorem ent_c1 (args : Array Value) (w : World) : (callFunc 57 args).run Tryz.prog w = .ok (.enter 57 args) w := enters_of Tryz.func57 (by kernel_rfl) rfl args w
theorem ent_rcmp (args : Array Value) (w : World) : (callFunc 24 args).run Tryz.prog w = .ok (.enter 24 args) w := enters_of Tryz.func24 (by kernel_rfl) rfl args w
set_option maxRecDepth 100000 in
set_option maxHeartbeats 4000000 in
theorem rootRight_ok (v : Value) (a s N D : Int) (w : World) (h : RootV w v a s N D) (hr : RtR a s N D) :
    Calls Tryz.prog 17 #[v] w fun e w' => e = .returned (.bool true) ∧ Ext w w' := by
  obtain ⟨p, n, c, q, m, e, rfl, hn, hd⟩ := h
  have hl1 : ¬ s < -1 := by have := hr.s1; omega
  have hl2 : ¬ (1 : Int) < s := by have := hr.s1; omega
  have hnl : n = (digs N.natAbs).length := u32s_len (znum_slice hn)
  obtain ⟨bz, hbz⟩ : ∃ bz, bz = (s == 0) := ⟨_, rfl⟩
  have hn0 : ((n : Int) == 0) = bz := by
    have h0 : n = 0 ↔ N = 0 := by rw [hnl, List.length_eq_zero_iff, digs_nil_iff]; omega
    have := hr.z
    rw [hbz, Bool.eq_iff_iff]
    simp
    omega
  have hbz' := hbz.symm
  have HR := Lib.hid hr
  have Z_ := Lib.hid hn
  have Y_ := Lib.hid hd
  have E := Lib.hid (Ext.refl w)
  clear hn hd hnl hr hbz
  obtain ⟨W0a, hW0a⟩ : ∃ W0a, W0a = (w.alloc (.cells #[.int .i64 a, .int .i64 s, .bool false, .slice p n c, .bool false, .slice q m e] 32)) := ⟨_, rfl⟩
  have hx : Ext w W0a := by rw [hW0a]; exact (Ext.alloc _ _)
  have A_n : RowAt W0a (w.heap.size) 32 (rootCells a s false p n c false q m e) := by rw [hW0a]; exact (RowAt.new' _ _ (by simp))
  have Z_1 := Lib.hid (hx.num Z_.out)
  have Y_1 := Lib.hid (hx.num Y_.out)
  have E1 := Lib.hid (E.out.trans hx)
  clear Z_ Y_ E
  have A_1 := Lib.hid A_n
  have HW0a := Lib.hid hW0a
  clear hx hW0a A_n
  go_enter Tryz.func17, Tryz.ntmps17
  go_wp2_with fail
  rw [← HW0a.out]
  refine (short_z _ N 8 8 rfl W0a Z_1.out).mono ?_
  rintro e w2_ ⟨rfl, hx⟩
  have Z_2 := Lib.hid (hx.num Z_1.out)
  have Y_2 := Lib.hid (hx.num Y_1.out)
  have E2 := Lib.hid (E1.out.trans hx)
  have A_2 := Lib.hid (hx.row A_1.out)
  clear Z_1 Y_1 E1 A_1
  clear hx
  rw [lim_fitK HR.out.n8]
  have cA__root4_2 := A_2.out.root4
  have cA__root5_2 := A_2.out.root5
  go_wp2_with fail
  refine (short_z _ D 8 8 rfl w2_ Y_2.out).mono ?_
  rintro e w3_ ⟨rfl, hx⟩
  clear cA__root4_2 cA__root5_2
  have Z_3 := Lib.hid (hx.num Z_2.out)
  have Y_3 := Lib.hid (hx.num Y_2.out)
  have E3 := Lib.hid (E2.out.trans hx)
  have A_3 := Lib.hid (hx.row A_2.out)
  clear Z_2 Y_2 E2 A_2
  clear hx
  rw [lim_fitK HR.out.d8]
  have cA__root2_3 := A_3.out.root2
  have cA__root3_3 := A_3.out.root3
  have cA__root4_3 := A_3.out.root4
  have cA__root5_3 := A_3.out.root5
  go_wp2_with fail
  refine (fraction_z _ _ N D w3_ Z_3.out Y_3.out).mono ?_
  rintro e w4_ ⟨rfl, hx⟩
  clear cA__root2_3 cA__root3_3 cA__root4_3 cA__root5_3
  have Z_4 := Lib.hid (hx.num Z_3.out)
  have Y_4 := Lib.hid (hx.num Y_3.out)
  have E4 := Lib.hid (E3.out.trans hx)
  have A_4 := Lib.hid (hx.row A_3.out)
  clear Z_3 Y_3 E3 A_3
  clear hx
  rw [show (decide (0 ≤ N) && decide (0 < D)) = true by simp [HR.out.n0, HR.out.d1]]
  have cA__root2_4 := A_4.out.root2
  have cA__root3_4 := A_4.out.root3
  have cA__root4_4 := A_4.out.root4
  have cA__root5_4 := A_4.out.root5
  go_wp2_with fail
  refine (gcd_gives (z := 1) Z_4.out Y_4.out HR.out.g).mono ?_
  rintro e w5_ ⟨pg, ng, cg, rfl, hz, hx⟩
  clear cA__root2_4 cA__root3_4 cA__root4_4 cA__root5_4
  have Z_5 := Lib.hid (hx.num Z_4.out)
  have Y_5 := Lib.hid (hx.num Y_4.out)
  have E5 := Lib.hid (E4.out.trans hx)
  have A_5 := Lib.hid (hx.row A_4.out)
  clear Z_4 Y_4 E4 A_4
  have G_5 := Lib.hid hz
  clear hx hz
  obtain ⟨W5b, hW5b⟩ : ∃ W5b, W5b = (w5_.alloc (.cells #[.bool false, .slice none 0 0] 25)).setRow w5_.heap.size (numCells false pg ng cg) := ⟨_, rfl⟩
  have hx : Ext w5_ W5b := by rw [hW5b]; exact ext_setRow (Ext.alloc _ _) (Nat.le_refl _) _
  have S_n : RowAt W5b w5_.heap.size 25 (numCells false pg ng cg) := by rw [hW5b]; exact (RowAt.new _ _ _).setRow _
  have Z_6 := Lib.hid (hx.num Z_5.out)
  have Y_6 := Lib.hid (hx.num Y_5.out)
  have E6 := Lib.hid (E5.out.trans hx)
  have A_6 := Lib.hid (hx.row A_5.out)
  have G_6 := Lib.hid (hx.num G_5.out)
  clear Z_5 Y_5 E5 A_5 G_5
  have S_6 := Lib.hid S_n
  have HW5b := Lib.hid hW5b
  clear hx hW5b S_n
  have cS__num0_6 := S_6.out.num0
  have cS__num1_6 := S_6.out.num1
  have cA__root1_6 := A_6.out.root1
  have cA__root2_6 := A_6.out.root2
  have cA__root3_6 := A_6.out.root3
  go_wp2_with (first | (refine store_num rfl (.tmp 3) (.tmp 39) rfl w5_.heap.size rfl _ _ _ _ rfl _ _ (RowAt.new' _ _ rfl) rfl ?_; rw [← HW5b.out]))
  refine (isOne_calls _ 1 W5b G_6.out).mono ?_
  rintro e w7_ ⟨rfl, hx⟩
  clear cS__num0_6 cS__num1_6 cA__root1_6 cA__root2_6 cA__root3_6
  have Z_7 := Lib.hid (hx.num Z_6.out)
  have Y_7 := Lib.hid (hx.num Y_6.out)
  have E7 := Lib.hid (E6.out.trans hx)
  have A_7 := Lib.hid (hx.row A_6.out)
  have G_7 := Lib.hid (hx.num G_6.out)
  have S_7 := Lib.hid (hx.row S_6.out)
  clear Z_6 Y_6 E6 A_6 G_6 S_6
  clear hx
  have cA__root1_7 := A_7.out.root1
  have cA__root2_7 := A_7.out.root2
  have cA__root3_7 := A_7.out.root3
  rw [show (zcmp 1 1 == 0) = true by decide]
  go_wp2
  go_ret
  exact ⟨by simp [hbz', hn0], E7.out⟩
set_option maxRecDepth 100000 in
set_option maxHeartbeats 4000000 in
theorem cmp1_calls (g h : Nat) (a1 s1 N1 D1 a2 s2 N2 D2 : Int) (p q p2 q2 : Option Addr) (n c m e n2 c2 m2 e2 : Nat) (w : World) (ra : RowAt w g 32 (rootCells a1 s1 false p n c false q m e)) (rb : RowAt w h 32 (rootCells a2 s2 false p2 n2 c2 false q2 m2 e2))
    (ha : RootV w (.agg #[.int .i64 a1, .int .i64 s1, .bool false, .slice p n c, .bool false, .slice q m e]) a1 s1 N1 D1) (hb : RootV w (.agg #[.int .i64 a2, .int .i64 s2, .bool false, .slice p2 n2 c2, .bool false, .slice q2 m2 e2]) a2 s2 N2 D2) (ba : RtB a1 s1 N1 D1) (bb : RtB a2 s2 N2 D2) :
    Calls Tryz.prog 57 #[.pointer (some ⟨g, 0, none⟩), .pointer (some ⟨h, 0, none⟩)] w fun e w' => e = .returned (.int .i64 (RM.cmpZ a1 s1 N1 D1 a2 s2 N2 D2)) ∧ Ext w w' := by
  have HC := Lib.hid (rootOrder_calls _ _ a1 s1 N1 D1 a2 s2 N2 D2 w ha hb ba bb)
  have RA := Lib.hid ra
  have RB := Lib.hid rb
  clear ra rb ha hb ba bb
  go_enter Tryz.func57, Tryz.ntmps57
  go_wp2_with (first | (refine load_root rfl (.tmp 0) rfl _ rfl _ _ _ _ _ _ _ _ _ _ _ RA.out ?_) | (refine load_root rfl (.tmp 1) rfl _ rfl _ _ _ _ _ _ _ _ _ _ _ RB.out ?_))
  refine HC.out.mono ?_
  rintro e w1 ⟨rfl, hx⟩
  have X := Lib.hid hx
  clear hx
  go_wp2
  go_ret
  exact ⟨rfl, X.out⟩
set_option maxRecDepth 100000 in
set_option maxHeartbeats 4000000 in
theorem rootCmp_ok (va vb : Value) (a1 s1 N1 D1 a2 s2 N2 D2 : Int) (w : World) (ha : RootV w va a1 s1 N1 D1) (hb : RootV w vb a2 s2 N2 D2) (ra : RtR a1 s1 N1 D1) (rb : RtR a2 s2 N2 D2) :
    Calls Tryz.prog 24 #[va, vb] w fun e w' => e = .returned (.int .i64 (RM.cmpZ a1 s1 N1 D1 a2 s2 N2 D2)) ∧ Ext w w' := by
  obtain ⟨p, n, c, q, m, e, rfl, hn, hd⟩ := id ha
  obtain ⟨p2, n2, c2, q2, m2, e2, rfl, hn2, hd2⟩ := id hb
  have VA := Lib.hid ha
  have VB := Lib.hid hb
  have RA := Lib.hid ra
  have RB := Lib.hid rb
  have E := Lib.hid (Ext.refl w)
  obtain ⟨rv, hrv⟩ : ∃ rv, rv = RM.cmpZ a1 s1 N1 D1 a2 s2 N2 D2 := ⟨_, rfl⟩
  rw [← hrv]
  have Hrv := Lib.hid hrv
  clear ha hb ra rb hn hd hn2 hd2 hrv
  obtain ⟨W0a, hW0a⟩ : ∃ W0a, W0a = ((w.alloc (.cells #[.int .i64 a1, .int .i64 s1, .bool false, .slice p n c, .bool false, .slice q m e] 32)).alloc (.cells #[.int .i64 a2, .int .i64 s2, .bool false, .slice p2 n2 c2, .bool false, .slice q2 m2 e2] 32)) := ⟨_, rfl⟩
  have hx : Ext w W0a := by rw [hW0a]; exact ((Ext.alloc _ _).trans (Ext.alloc _ _))
  have A_n : RowAt W0a (w.heap.size) 32 (rootCells a1 s1 false p n c false q m e) := by rw [hW0a]; exact ((RowAt.new' _ _ (by simp)).alloc _)
  have B_n : RowAt W0a (w.heap.size + 1) 32 (rootCells a2 s2 false p2 n2 c2 false q2 m2 e2) := by rw [hW0a]; exact (RowAt.new' _ _ (by simp))
  have E1 := Lib.hid (E.out.trans hx)
  have VA1 := Lib.hid (RootV.ext VA.out hx)
  have VB1 := Lib.hid (RootV.ext VB.out hx)
  clear E VA VB
  have A_1 := Lib.hid A_n
  have B_1 := Lib.hid B_n
  have HW0a := Lib.hid hW0a
  clear hx hW0a A_n B_n
  go_enter Tryz.func24, Tryz.ntmps24
  go_wp2_with fail
  rw [← HW0a.out]
  refine (rootRight_ok _ a1 s1 N1 D1 W0a VA1.out RA.out).mono ?_
  rintro e w2_ ⟨rfl, hx⟩
  have E2 := Lib.hid (E1.out.trans hx)
  have VA2 := Lib.hid (RootV.ext VA1.out hx)
  have VB2 := Lib.hid (RootV.ext VB1.out hx)
  have A_2 := Lib.hid (hx.row A_1.out)
  have B_2 := Lib.hid (hx.row B_1.out)
  clear E1 VA1 VB1 A_1 B_1
  clear hx
  have cB__root0_2 := B_2.out.root0
  have cB__root1_2 := B_2.out.root1
  have cB__root2_2 := B_2.out.root2
  have cB__root3_2 := B_2.out.root3
  have cB__root4_2 := B_2.out.root4
  have cB__root5_2 := B_2.out.root5
  go_wp2_with fail
  refine (rootRight_ok _ a2 s2 N2 D2 w2_ VB2.out RB.out).mono ?_
  rintro e w3_ ⟨rfl, hx⟩
  clear cB__root0_2 cB__root1_2 cB__root2_2 cB__root3_2 cB__root4_2 cB__root5_2
  have E3 := Lib.hid (E2.out.trans hx)
  have VA3 := Lib.hid (RootV.ext VA2.out hx)
  have VB3 := Lib.hid (RootV.ext VB2.out hx)
  have A_3 := Lib.hid (hx.row A_2.out)
  have B_3 := Lib.hid (hx.row B_2.out)
  clear E2 VA2 VB2 A_2 B_2
  clear hx
  have hmf : ∀ (fn : Fn) (first cap : Array Value) (w : World), (Instr.makeFunc fn first cap).run Tryz.prog w = .ok (.func fn first cap) w := fun _ _ _ _ => rfl
  go_wp2_with fail
  refine (settle_calls 57 #[.pointer (some ⟨w.heap.size, 0, none⟩), .pointer (some ⟨w.heap.size + 1, 0, none⟩)] rv w3_ ent_c1 (fun W hW => by
      have h := cmp1_calls w.heap.size (w.heap.size + 1) a1 s1 N1 D1 a2 s2 N2 D2 p q p2 q2 n c m e n2 c2 m2 e2 W (hW.row A_3.out) (hW.row B_3.out) (RootV.ext VA3.out hW) (RootV.ext VB3.out hW) RA.out.toRtB RB.out.toRtB
      rw [← Hrv.out] at h
      exact h)).mono ?_
  rintro e w4_ ⟨rfl, hx⟩
  have E4 := Lib.hid (E3.out.trans hx)
  have VA4 := Lib.hid (RootV.ext VA3.out hx)
  have VB4 := Lib.hid (RootV.ext VB3.out hx)
  have A_4 := Lib.hid (hx.row A_3.out)
  have B_4 := Lib.hid (hx.row B_3.out)
  clear E3 VA3 VB3 A_3 B_3
  clear hx
  clear hmf
  go_wp2
  go_ret
  exact ⟨rfl, E4.out⟩
def ciF (va : Value) (n r : Int) : Nat → Value → World → Prop
  | 0, v, _ => v = va
  | 1, v, _ => v = .int .i64 n
  | 2, v, W => IsN 1 v W
  | 3, v, W => RootV W v n 0 0 1
  | 4, v, _ => v = .int .i64 r
  | _, _, _ => True
theorem ciF_mono {va : Value} {n r : Int} {W W' : World} (hx : Ext W W') (j : Nat) (v : Value) (h : ciF va n r j v W) : ciF va n r j v W' := by
  match j, h with
  | 0, h | 1, h | 4, h => exact h
  | 2, h => exact IsN.ext h hx
  | 3, h => exact RootV.ext h hx
  | _ + 5, _ => trivial
theorem run_build_whole {o : Oper} {b : Act} {w : World} (x u : Operand) (ho : o.op = .build 32 #[(0, x), (3, u)]) (a : Int) (nd : Bool) (q : Option Addr) (m e : Nat) (hx : b.eval x = .int .i64 a) (hu : b.eval u = .agg #[.bool nd, .slice q m e]) :
    (execOp b.eval o).run Tryz.prog w = .ok (.value (.agg #[.int .i64 a, .int .i64 0, .bool false, .slice none 0 0, .bool nd, .slice q m e])) w := by
  unfold execOp
  simp only [ho, List.map_toArray, List.map_cons, List.map_nil, hx, hu]
  simp [go_sem]
theorem rtr_whole {n : Int} (h : -9223372036854775808 ≤ n ∧ n ≤ 9223372036854775807) : RtR n 0 0 1 :=
  { a1 := h, s1 := .inr (.inl rfl), n0 := by decide, n8 := by decide, d1 := by decide, d8 := by decide, g := rfl, z := by simp }
theorem rootV_whole {w : World} {n : Int} {nd : Bool} {q : Option Addr} {m e : Nat} (h : ZNum w.heap.size w (.agg #[.bool nd, .slice q m e]) 1) : RootV w (.agg #[.int .i64 n, .int .i64 0, .bool false, .slice none 0 0, .bool nd, .slice q m e]) n 0 0 1 := by
  obtain ⟨p', c', e'⟩ := ZNum.parts h
  have : nd = false := by cases e'; rfl
  subst this
  exact ⟨_, _, _, _, _, _, rfl, znum_zero _ _, h⟩
set_option maxRecDepth 100000 in
set_option maxHeartbeats 4000000 in
theorem cmpInt_ok (va : Value) (a s N M n : Int) (w : World) (ha : RootV w va a s N M) (ra : RtR a s N M) (hn : -9223372036854775808 ≤ n ∧ n ≤ 9223372036854775807) :
    Calls Tryz.prog 26 #[va, .int .i64 n] w fun e w' => e = .returned (.int .i64 (RM.cmpZ a s N M n 0 0 1)) ∧ Ext w w' := by
  obtain ⟨p, k, c, q, m, e, rfl, hn', hd⟩ := id ha
  have VA := Lib.hid ha
  have RA := Lib.hid ra
  have HN := Lib.hid hn
  have E := Lib.hid (Ext.refl w)
  obtain ⟨rv, hrv⟩ : ∃ rv, rv = RM.cmpZ a s N M n 0 0 1 := ⟨_, rfl⟩
  rw [← hrv]
  have Hrv := Lib.hid hrv
  clear ha ra hn hn' hd hrv
  obtain ⟨W0a, hW0a⟩ : ∃ W0a, W0a = (w.alloc (.cells #[.int .i64 a, .int .i64 s, .bool false, .slice p k c, .bool false, .slice q m e] 32)) := ⟨_, rfl⟩
  have hx : Ext w W0a := by rw [hW0a]; exact (Ext.alloc _ _)
  have A_n : RowAt W0a (w.heap.size) 32 (rootCells a s false p k c false q m e) := by rw [hW0a]; exact (RowAt.new' _ _ (by simp))
  have E1 := Lib.hid (E.out.trans hx)
  have VA1 := Lib.hid (RootV.ext VA.out hx)
  clear E VA
  have A_1 := Lib.hid A_n
  have HW0a := Lib.hid hW0a
  clear hx hW0a A_n
  go_enter Tryz.func26, Tryz.ntmps26
  go_upto_region 1 with fail
  rw [← HW0a.out]
  refine wp_region_tail (fun D ac w' => ∃ vs : Nat → Value, ac = { tmps := #[.agg #[.int .i64 a, .int .i64 s, .bool false, .slice p k c, .bool false, .slice q m e], .int .i64 n, .pointer (some ⟨w.heap.size, 0, none⟩), undef, .int .i64 0, vs 0, vs 1, vs 2, vs 3, vs 4], defers := [] } ∧ Ext W0a w' ∧ ∀ j, D j → ciF (.agg #[.int .i64 a, .int .i64 s, .bool false, .slice p k c, .bool false, .slice q m e]) n rv j (vs j) w') 5 (by kernel_rfl) (by kernel_rfl) (by kernel_rfl) ?start1 ?step1 ?fin1
  case start1 => exact ⟨fun _ => undef, rfl, Ext.drew _, fun _ h => h.elim⟩
  case step1 =>
    rintro i o D ac wz hin hio hnd he ⟨vs, rfl, k0, hF⟩
    rcases i with _ | _ | _ | _ | _ | i
    rotate_left 5
    · exact absurd hin (by omega)
    all_goals (obtain rfl := Option.some.inj (hio.symm.trans (by rfl)))
    · refine step_yes (wanted_of_none rfl _) ?_
      exact wp_of_run (run_load_root (.tmp 2) rfl _ rfl _ _ _ _ _ _ _ _ _ _ _ (k0.row A_1.out)) ⟨upd vs 0 _, rfl, k0, inv_step hF (fun _ _ h => h) rfl⟩
    · refine step_yes (wanted_of_none rfl _) ?_
      exact wp_of_run (run_mov (.tmp 1) rfl _ rfl) ⟨upd vs 1 _, rfl, k0, inv_step hF (fun _ _ h => h) rfl⟩
    · refine step_yes (wanted_of_none rfl _) ?_
      refine wp_of_callE (run_enter1 36 (.const (.int .i64 1)) _ rfl _ rfl ent_of) (of_n 1 (by decide) wz) ?_
      rintro e w' ⟨rr, rfl, hz, hx⟩
      exact ⟨_, rfl, upd vs 2 _, rfl, k0.trans hx, inv_step hF (fun j v h => ciF_mono hx j v h) hz⟩
    · refine step_yes (wanted_of_none rfl _) ?_
      have h2 := (hF 2 (he ⟨2, .data⟩ (by simp) rfl))
      obtain ⟨b2, p2, n2, c2, e2⟩ := IsN.parts h2
      rw [e2] at h2
      exact wp_of_run (run_build_whole (.tmp 6) (.tmp 7) rfl _ _ _ _ _ (by exact (hF 1 (he ⟨1, .data⟩ (by simp) rfl))) (by exact e2)) ⟨upd vs 3 _, rfl, k0, inv_step hF (fun _ _ h => h) (rootV_whole h2)⟩
    · refine step_yes (wanted_of_none rfl _) ?_
      refine wp_of_callE (run_enter2 24 (.tmp 5) (.tmp 8) _ rfl _ _ (by exact (hF 0 (he ⟨0, .data⟩ (by simp) rfl))) rfl ent_rcmp) (rootCmp_ok _ _ a s N M n 0 0 1 wz (RootV.ext VA1.out k0) (hF 3 (he ⟨3, .data⟩ (by simp) rfl)) RA.out (rtr_whole HN.out)) ?_
      rintro e w' ⟨rfl, hx⟩
      exact ⟨_, rfl, upd vs 4 _, rfl, k0.trans hx, inv_step hF (fun j v h => ciF_mono hx j v h) (by rw [Hrv.out]; rfl)⟩
  case fin1 =>
    rintro D ac wf hD ⟨vs, rfl, k0, hF⟩
    change wpList _ _ _ [_] _ _
    have h4 : vs 4 = .int .i64 rv := hF 4 (hD 4 (by decide))
    rw [h4]
    have XX := Lib.hid (E1.out.trans k0)
    clear hF hD h4 k0
    generalize vs = ts
    go_wp2
    go_ret
    exact ⟨rfl, XX.out⟩
end Go.Proofs.YtegjcikofmphjaaGreatDoor
/- The reference of layer 2: zero, Whole, Same; what the laws make. -/
namespace Go.Proofs.YtegjcikofmphjaaGreatDoor
open Go Go.RowKit Go.Shelf
theorem rof_n (z : Int) (h : -9223372036854775808 ≤ z ∧ z ≤ 9223372036854775807) (w : World) : Calls Tryz.prog 34 #[.int .i64 z] w fun e w' => ∃ v, e = .returned v ∧ IsN z v w' ∧ Ext w w' := (rof_ok z h.1 h.2 w).mono fun _ _ h => gives1_n h
theorem ent_rof (args : Array Value) (w : World) : (callFunc 34 args).run Tryz.prog w = .ok (.enter 34 args) w := enters_of Tryz.func34 (by kernel_rfl) rfl args w
theorem ent_rcmp1 (args : Array Value) (w : World) : (callFunc 41 args).run Tryz.prog w = .ok (.enter 41 args) w := enters_of Tryz.func41 (by kernel_rfl) rfl args w
theorem ent_rzero (args : Array Value) (w : World) : (callFunc 42 args).run Tryz.prog w = .ok (.enter 42 args) w := enters_of Tryz.func42 (by kernel_rfl) rfl args w
theorem ent_rsame (args : Array Value) (w : World) : (callFunc 15 args).run Tryz.prog w = .ok (.enter 15 args) w := enters_of Tryz.func15 (by kernel_rfl) rfl args w
theorem ent_lof (args : Array Value) (w : World) : (callFunc 12 args).run Tryz.prog w = .ok (.enter 12 args) w := enters_of Tryz.func12 (by kernel_rfl) rfl args w
theorem ent_whole (args : Array Value) (w : World) : (callFunc 33 args).run Tryz.prog w = .ok (.enter 33 args) w := enters_of Tryz.func33 (by kernel_rfl) rfl args w
set_option maxRecDepth 100000 in
set_option maxHeartbeats 2000000 in
theorem rzero_n (w : World) : Calls Tryz.prog 42 #[] w fun e w' => ∃ v, e = .returned v ∧ IsN 0 v w' ∧ Ext w w' := by
  obtain ⟨W1, hW1⟩ : ∃ W1, W1 = w.alloc (.cells #[.bool false, .slice none 0 0] 25) := ⟨_, rfl⟩
  have X1 : Hid (Ext w W1) := by rw [hW1]; exact Ext.alloc _ _
  have R1 : Hid (RowAt W1 w.heap.size 25 (numCells false none 0 0)) := by rw [hW1]; exact RowAt.new' _ _ (by simp)
  have HC := Lib.hid (rof_n 0 (by decide) W1)
  have HW1 := Lib.hid hW1
  clear hW1 
  go_enter Tryz.func42, Tryz.ntmps42
  go_wp2_with fail
  rw [← HW1.out]
  refine HC.out.mono ?_
  rintro e w1 ⟨v, rfl, hz, hx⟩
  obtain ⟨bn, pn, nn, cn, rfl⟩ := IsN.parts hz
  have R2 := Lib.hid (hx.row R1.out)
  have X2 := Lib.hid (X1.out.trans hx)
  have Z2 := Lib.hid hz
  clear hx hz
  go_wp2_with (refine store_num rfl (.tmp 0) (.tmp 1) rfl w.heap.size rfl _ _ _ _ rfl _ _ R2.out rfl ?_)
  exact ret_num1 rfl w.heap.size rfl _ _ _ _ _ (R2.out.setRow _) ⟨_, rfl, (by show ZNum _ _ _ _; rw [setRow_size]; exact ZNum.setNum Z2.out R2.out _), ext_setRow X2.out (Nat.le_refl _) _⟩
set_option maxRecDepth 100000 in
set_option maxHeartbeats 2000000 in
theorem lawOf_n (z : Int) (h : -9223372036854775808 ≤ z ∧ z ≤ 9223372036854775807) (w : World) : Calls Tryz.prog 12 #[.int .i64 z] w fun e w' => ∃ v, e = .returned v ∧ IsN z v w' ∧ Ext w w' := by
  obtain ⟨W1, hW1⟩ : ∃ W1, W1 = w.alloc (.cells #[.bool false, .slice none 0 0] 25) := ⟨_, rfl⟩
  have X1 : Hid (Ext w W1) := by rw [hW1]; exact Ext.alloc _ _
  have R1 : Hid (RowAt W1 w.heap.size 25 (numCells false none 0 0)) := by rw [hW1]; exact RowAt.new' _ _ (by simp)
  have HC := Lib.hid (rof_n z h W1)
  have HW1 := Lib.hid hW1
  clear hW1 h
  go_enter Tryz.func12, Tryz.ntmps12
  go_wp2_with fail
  rw [← HW1.out]
  refine HC.out.mono ?_
  rintro e w1 ⟨v, rfl, hz, hx⟩
  obtain ⟨bn, pn, nn, cn, rfl⟩ := IsN.parts hz
  have R2 := Lib.hid (hx.row R1.out)
  have X2 := Lib.hid (X1.out.trans hx)
  have Z2 := Lib.hid hz
  clear hx hz
  go_wp2_with (refine store_num rfl (.tmp 2) (.tmp 4) rfl w.heap.size rfl _ _ _ _ rfl _ _ R2.out rfl ?_)
  exact ret_num1 rfl w.heap.size rfl _ _ _ _ _ (R2.out.setRow _) ⟨_, rfl, (by show ZNum _ _ _ _; rw [setRow_size]; exact ZNum.setNum Z2.out R2.out _), ext_setRow X2.out (Nat.le_refl _) _⟩
set_option maxRecDepth 100000 in
set_option maxHeartbeats 2000000 in
theorem whole_v (n : Int) (w : World) : Calls Tryz.prog 33 #[.int .i64 n] w fun e w' => ∃ v, e = .returned v ∧ RootV w' v n 0 0 1 ∧ Ext w w' := by
  obtain ⟨W1, hW1⟩ : ∃ W1, W1 = w.alloc (.cells #[.int .i64 0, .int .i64 0, .bool false, .slice none 0 0, .bool false, .slice none 0 0] 32) := ⟨_, rfl⟩
  have X1 : Hid (Ext w W1) := by rw [hW1]; exact Ext.alloc _ _
  have R1 : Hid (RowAt W1 w.heap.size 32 (rootCells 0 0 false none 0 0 false none 0 0)) := by rw [hW1]; exact RowAt.new' _ _ (by simp)
  have HC := Lib.hid (rof_n 1 (by decide) W1)
  have HW1 := Lib.hid hW1
  clear hW1
  go_enter Tryz.func33, Tryz.ntmps33
  go_wp2_with fail
  rw [← HW1.out]
  refine HC.out.mono ?_
  rintro e w1 ⟨v, rfl, hz, hx⟩
  obtain ⟨bn, pn, nn, cn, rfl⟩ := IsN.parts hz
  have R2 := Lib.hid (hx.row R1.out)
  have X2 := Lib.hid (X1.out.trans hx)
  have Z2 := Lib.hid hz
  clear hx hz
  go_wp2_with (refine store_root rfl (.tmp 2) (.tmp 5) rfl w.heap.size rfl _ _ _ _ _ _ _ _ _ _ rfl _ _ R2.out rfl ?_)
  exact ret_root1 rfl w.heap.size rfl _ _ _ _ _ _ _ _ _ _ _ (R2.out.setRow _) ⟨_, rfl, rootV_whole (by rw [setRow_size]; exact ZNum.setRoot Z2.out R2.out _), ext_setRow X2.out (Nat.le_refl _) _⟩
set_option maxRecDepth 100000 in
set_option maxHeartbeats 4000000 in
theorem rsame_eq (va vb : Value) (a s N D : Int) (w : World) (ha : RootV w va a s N D) (hb : RootV w vb a s N D) :
    Calls Tryz.prog 15 #[va, vb] w fun e w' => e = .returned (.bool true) ∧ Ext w w' := by
  obtain ⟨p, n, c, q, m, e, rfl, hn, hd⟩ := id ha
  obtain ⟨p2, n2, c2, q2, m2, e2, rfl, hn2, hd2⟩ := id hb
  have N1_ := Lib.hid hn
  have D1_ := Lib.hid hd
  have N2_ := Lib.hid hn2
  have D2_ := Lib.hid hd2
  have E := Lib.hid (Ext.refl w)
  have haa : (a == a) = true := by simp
  have hss : (s == s) = true := by simp
  clear ha hb hn hd hn2 hd2
  obtain ⟨W0a, hW0a⟩ : ∃ W0a, W0a = ((w.alloc (.cells #[.int .i64 a, .int .i64 s, .bool false, .slice p n c, .bool false, .slice q m e] 32)).alloc (.cells #[.int .i64 a, .int .i64 s, .bool false, .slice p2 n2 c2, .bool false, .slice q2 m2 e2] 32)) := ⟨_, rfl⟩
  have hx : Ext w W0a := by rw [hW0a]; exact ((Ext.alloc _ _).trans (Ext.alloc _ _))
  have A_n : RowAt W0a (w.heap.size) 32 (rootCells a s false p n c false q m e) := by rw [hW0a]; exact ((RowAt.new' _ _ (by simp)).alloc _)
  have B_n : RowAt W0a (w.heap.size + 1) 32 (rootCells a s false p2 n2 c2 false q2 m2 e2) := by rw [hW0a]; exact (RowAt.new' _ _ (by simp))
  have E1 := Lib.hid (E.out.trans hx)
  have N1_1 := Lib.hid (hx.num N1_.out)
  have D1_1 := Lib.hid (hx.num D1_.out)
  have N2_1 := Lib.hid (hx.num N2_.out)
  have D2_1 := Lib.hid (hx.num D2_.out)
  clear E N1_ D1_ N2_ D2_
  have A_1 := Lib.hid A_n
  have B_1 := Lib.hid B_n
  have HW0a := Lib.hid hW0a
  clear hx hW0a A_n B_n
  go_enter Tryz.func15, Tryz.ntmps15
  go_wp2_with fail
  rw [← HW0a.out]
  refine (same_calls _ _ N W0a N1_1.out N2_1.out).mono ?_
  rintro e w2_ ⟨rfl, hx⟩
  have E2 := Lib.hid (E1.out.trans hx)
  have N1_2 := Lib.hid (hx.num N1_1.out)
  have D1_2 := Lib.hid (hx.num D1_1.out)
  have N2_2 := Lib.hid (hx.num N2_1.out)
  have D2_2 := Lib.hid (hx.num D2_1.out)
  have A_2 := Lib.hid (hx.row A_1.out)
  have B_2 := Lib.hid (hx.row B_1.out)
  clear E1 N1_1 D1_1 N2_1 D2_1 A_1 B_1
  clear hx
  have cA__root4_2 := A_2.out.root4
  have cA__root5_2 := A_2.out.root5
  have cB__root4_2 := B_2.out.root4
  have cB__root5_2 := B_2.out.root5
  go_wp2_with fail
  refine (same_calls _ _ D w2_ D1_2.out D2_2.out).mono ?_
  rintro e w3_ ⟨rfl, hx⟩
  clear cA__root4_2 cA__root5_2 cB__root4_2 cB__root5_2
  have E3 := Lib.hid (E2.out.trans hx)
  have N1_3 := Lib.hid (hx.num N1_2.out)
  have D1_3 := Lib.hid (hx.num D1_2.out)
  have N2_3 := Lib.hid (hx.num N2_2.out)
  have D2_3 := Lib.hid (hx.num D2_2.out)
  have A_3 := Lib.hid (hx.row A_2.out)
  have B_3 := Lib.hid (hx.row B_2.out)
  clear E2 N1_2 D1_2 N2_2 D2_2 A_2 B_2
  clear hx
  go_wp2
  go_ret
  exact ⟨rfl, E3.out⟩
end Go.Proofs.YtegjcikofmphjaaGreatDoor
/- Layer 2: a number is stored into a root's field. -/
namespace Go.Proofs.YtegjcikofmphjaaGreatDoor
open Go Go.RowKit Go.Shelf
theorem setRow_setRow (w : World) (g : Nat) (a b : Array Value) : (w.setRow g a).setRow g b = w.setRow g b := by
  unfold World.setRow
  congr 1
  apply Array.ext_getElem?
  intro i
  simp only [Array.getElem?_modify]
  split
  · cases w.heap[i]? with
    | none => rfl
    | some o => cases o <;> rfl
  · rfl
theorem setCell2 {w : World} {g : Nat} {t : TypeId} {cs : Array Value} (h : RowAt w g t cs) (i j : Nat) (u v : Value) : (w.setCell ⟨g, i, none⟩ u).setCell ⟨g, j, none⟩ v = w.setRow g ((cs.setIfInBounds i u).setIfInBounds j v) := by
  rw [setCell_eq_setRow w g i cs t (0, 0) u h, setCell_eq_setRow (w.setRow g (cs.setIfInBounds i u)) g j (cs.setIfInBounds i u) t (0, 0) v (h.setRow _), setRow_setRow]
section
variable {ops : Array Oper} {rest : List Oper} {o : Oper} {b : Act} {w : World} {Q : Exit → Act → World → Prop}
set_option maxRecDepth 10000 in
theorem store_rN (hgd : o.guard = none) (x y : Operand) (ho : o.op = .store 25 x y) (g : Nat) (hx : b.eval x = .pointer (some ⟨g, 2, none⟩)) (neg : Bool) (p' : Option Addr) (n' c' : Nat) (hy : b.eval y = .agg #[.bool neg, .slice p' n' c'])
    (a s : Int) (nn : Bool) (p : Option Addr) (n c : Nat) (nd : Bool) (q : Option Addr) (m e : Nat) (t : TypeId) (hg : RowAt w g t (rootCells a s nn p n c nd q m e))
    (h : wpList Tryz.prog ops Q rest (b.put o.dst undef) (w.setRow g (rootCells a s neg p' n' c' nd q m e))) : wpList Tryz.prog ops Q (o :: rest) b w := by
  refine wpList_plain hgd fun K hK => ?_
  have h1 := hg.root2
  have h2 := hg.root3
  have f1 := hg.frozen 2
  have f2 := hg.frozen 3
  have h3 : (w.setCell ⟨g, 2, none⟩ (.bool neg)).cell? ⟨g, 3, none⟩ = some (.slice p n c) := (hg.set 2 (.bool neg)).cell 3
  have f3 : (w.setCell ⟨g, 2, none⟩ (.bool neg)).frozen? ⟨g, 3, none⟩ = false := (hg.set 2 (.bool neg)).frozen 3
  have e1 : (w.setCell ⟨g, 2, none⟩ (.bool neg)).setCell ⟨g, 3, none⟩ (.slice p' n' c') = w.setRow g (rootCells a s neg p' n' c' nd q m e) := setCell2 hg 2 3 _ _
  have hrun : (execOp b.eval o).run Tryz.prog w = .ok .skip (w.setRow g (rootCells a s neg p' n' c' nd q m e)) := by
    rw [← e1]
    unfold execOp
    simp only [ho, hx, hy]
    simp [go_sem, h1, h2, f1, f2, h3, f3]
  exact wp_of_skip hrun (hK _ _ h)
set_option maxRecDepth 10000 in
theorem store_rD (hgd : o.guard = none) (x y : Operand) (ho : o.op = .store 25 x y) (g : Nat) (hx : b.eval x = .pointer (some ⟨g, 4, none⟩)) (neg : Bool) (p' : Option Addr) (n' c' : Nat) (hy : b.eval y = .agg #[.bool neg, .slice p' n' c'])
    (a s : Int) (nn : Bool) (p : Option Addr) (n c : Nat) (nd : Bool) (q : Option Addr) (m e : Nat) (t : TypeId) (hg : RowAt w g t (rootCells a s nn p n c nd q m e))
    (h : wpList Tryz.prog ops Q rest (b.put o.dst undef) (w.setRow g (rootCells a s nn p n c neg p' n' c'))) : wpList Tryz.prog ops Q (o :: rest) b w := by
  refine wpList_plain hgd fun K hK => ?_
  have h1 := hg.root4
  have h2 := hg.root5
  have f1 := hg.frozen 4
  have f2 := hg.frozen 5
  have h3 : (w.setCell ⟨g, 4, none⟩ (.bool neg)).cell? ⟨g, 5, none⟩ = some (.slice q m e) := (hg.set 4 (.bool neg)).cell 5
  have f3 : (w.setCell ⟨g, 4, none⟩ (.bool neg)).frozen? ⟨g, 5, none⟩ = false := (hg.set 4 (.bool neg)).frozen 5
  have e1 : (w.setCell ⟨g, 4, none⟩ (.bool neg)).setCell ⟨g, 5, none⟩ (.slice p' n' c') = w.setRow g (rootCells a s nn p n c neg p' n' c') := setCell2 hg 4 5 _ _
  have hrun : (execOp b.eval o).run Tryz.prog w = .ok .skip (w.setRow g (rootCells a s nn p n c neg p' n' c')) := by
    rw [← e1]
    unfold execOp
    simp only [ho, hx, hy]
    simp [go_sem, h1, h2, f1, f2, h3, f3]
  exact wp_of_skip hrun (hK _ _ h)
end
end Go.Proofs.YtegjcikofmphjaaGreatDoor

