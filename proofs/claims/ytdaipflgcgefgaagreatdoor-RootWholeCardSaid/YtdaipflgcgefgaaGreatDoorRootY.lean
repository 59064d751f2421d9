
/- The law RootWhole. -/
import Derived.Test.YtdaipflgcgefgaaGreatDoorRootEnd
set_option linter.all false
namespace Go.Proofs.YtdaipflgcgefgaaGreatDoor
open Go Go.RowKit Go.Shelf

theorem ent_cmpi (args : Array Value) (w : World) : (callFunc 26 args).run Tryz.prog w = .ok (.enter 26 args) w := enters_of Tryz.func26 (by kernel_rfl) rfl args w
theorem ent_lsgn (args : Array Value) (w : World) : (callFunc 29 args).run Tryz.prog w = .ok (.enter 29 args) w := enters_of Tryz.func29 (by kernel_rfl) rfl args w
theorem run_sub_int {o : Oper} {b : Act} {w : World} (x y : Operand) (ho : o.op = .binOp .sub 3 x y 3) (hty : o.type = 3) (u v r : Int) (hx : b.eval x = .int .i64 u) (hy : b.eval y = .int .i64 v) (hr : IntKind.i64.wrap (u - v) = r) : (execOp b.eval o).run Tryz.prog w = .ok (.value (.int .i64 r)) w := by
  unfold execOp
  simp only [ho, hty, hx, hy]
  subst hr
  simp [go_sem]
theorem run_add_int {o : Oper} {b : Act} {w : World} (x y : Operand) (ho : o.op = .binOp .add 3 x y 3) (hty : o.type = 3) (u v r : Int) (hx : b.eval x = .int .i64 u) (hy : b.eval y = .int .i64 v) (hr : IntKind.i64.wrap (u + v) = r) : (execOp b.eval o).run Tryz.prog w = .ok (.value (.int .i64 r)) w := by
  unfold execOp
  simp only [ho, hty, hx, hy]
  subst hr
  simp [go_sem]
theorem run_neg_int {o : Oper} {b : Act} {w : World} (x : Operand) (ho : o.op = .unOp .neg 3 x) (hty : o.type = 3) (u r : Int) (hx : b.eval x = .int .i64 u) (hr : IntKind.i64.wrap (-u) = r) : (execOp b.eval o).run Tryz.prog w = .ok (.value (.int .i64 r)) w := by
  unfold execOp
  simp only [ho, hty, hx]
  subst hr
  simp [go_sem]
theorem run_eql_same {o : Oper} {b : Act} {w : World} (x y : Operand) (ho : o.op = .binOp .eql 3 x y 3) (u : Int) (hx : b.eval x = .int .i64 u) (hy : b.eval y = .int .i64 u) : (execOp b.eval o).run Tryz.prog w = .ok (.value (.bool true)) w := by
  have h := run_eql_int (w := w) x y ho u u hx hy
  simpa using h
theorem of_whole (v1 v2 : Value) (s zn zd : Int) (w : World) (i1 : IsN zn v1 w) (i2 : IsN zd v2 w) (h0 : 0 ≤ zn) (h1 : 0 < zd) (hs : s = -1 ∨ s = 1) (hN : zn ≤ 9223372036854775807) (hM : zd ≤ 9223372036854775807) :
    Calls Tryz.prog 13 #[.int .i64 0, .int .i64 s, v1, v2] w fun e w' => ∃ v, e = .returned (.tuple #[v, .bool true]) ∧ RootV w' v 0 (ofS s zn zd) (ofN s zn zd) (ofD s zn zd) ∧ Ext w w' := by
  have hs0 : s ≠ 0 := by omega
  have hg := gcdZ_low h0 h1
  have eN : ofN s zn zd = zn / gcdZ zn zd := by unfold ofN; rw [if_neg hs0]
  have eD : ofD s zn zd = zd / gcdZ zn zd := by unfold ofD; rw [if_neg hs0]
  refine of_lit v1 v2 0 s zn zd _ _ _ w i1 i2 h0 h1 (by omega) (by omega) rfl rfl rfl ?_ ?_
  · rw [eN]; have := Int.ediv_le_self (gcdZ zn zd) h0; exact b8_small hg.2.1 (by omega)
  · rw [eD]; have := Int.ediv_le_self (gcdZ zn zd) (show 0 ≤ zd by omega); exact b8_small (by have := hg.2.2.1; omega) (by omega)
theorem of_less (v1 v2 : Value) (zn zd : Int) (w : World) (i1 : IsN zn v1 w) (i2 : IsN zd v2 w) (h0 : 0 ≤ zn) (h1 : 0 < zd) (hN : zn ≤ 9223372036854775807) (hM : zd ≤ 9223372036854775807) :
    Calls Tryz.prog 13 #[.int .i64 0, .int .i64 (-1), v1, v2] w fun e w' => ∃ v, e = .returned (.tuple #[v, .bool true]) ∧ RootV w' v 0 (-(ofS 1 zn zd)) (ofN 1 zn zd) (ofD 1 zn zd) ∧ Ext w w' := by
  have h := of_whole v1 v2 (-1) zn zd w i1 i2 h0 h1 (.inl rfl) hN hM
  have e1 : ofS (-1) zn zd = -(ofS 1 zn zd) := by unfold ofS ofN; rw [if_neg (by decide), if_neg (by decide)]; grind
  rw [e1] at h
  exact h
theorem cmpi_is (va : Value) (s N M n r : Int) (w : World) (ha : RootV w va 0 s N M) (ra : RtR 0 s N M) (hn : -9223372036854775808 ≤ n ∧ n ≤ 9223372036854775807) (hr : RM.cmpZ 0 s N M n 0 0 1 = r) :
    Calls Tryz.prog 26 #[va, .int .i64 n] w fun e w' => e = .returned (.int .i64 r) ∧ Ext w w' := by
  subst hr; exact cmpInt_ok va 0 s N M n w ha ra hn
theorem cmp_is (va vb : Value) (s N M s2 N2 M2 r : Int) (w : World) (ha : RootV w va 0 s N M) (hb : RootV w vb 0 s2 N2 M2) (ra : RtR 0 s N M) (rb : RtR 0 s2 N2 M2) (hr : RM.cmpZ 0 s N M 0 s2 N2 M2 = r) :
    Calls Tryz.prog 24 #[va, vb] w fun e w' => e = .returned (.int .i64 r) ∧ Ext w w' := by
  subst hr; exact rootCmp_ok va vb _ _ _ _ _ _ _ _ w ha hb ra rb
theorem wrap_fits {z r : Int} (e : z = r) (h : -9223372036854775808 ≤ r ∧ r ≤ 9223372036854775807) : IntKind.i64.wrap z = r := by
  subst e; rw [IntKind.wrap_i64]; omega
theorem few_fits {D F : Int} (d : 1 ≤ D ∧ D ≤ 1000000) (f : 0 ≤ F ∧ F < 1000) : 0 ≤ D * F ∧ D * F ≤ 1000000000 ∧ 0 ≤ D * F * F ∧ D * F * F ≤ 1000000000000 := by
  have h1 := Int.mul_nonneg (show 0 ≤ D by omega) f.1
  have h2 := Int.mul_le_mul (show D ≤ 1000000 by omega) (show F ≤ 1000 by omega) f.1 (by decide)
  have h3 := Int.mul_nonneg h1 f.1
  have h4 := Int.mul_le_mul (show D * F ≤ 1000000000 by omega) (show F ≤ 1000 by omega) f.1 (by decide)
  omega
theorem sign_fits (z : Int) : -1 ≤ z.sign ∧ z.sign ≤ 1 := by
  rcases RM.sign_cases z with h | h | h <;> omega
/-- What the operations of the law's flags hold. -/
def flF : Nat → Value → Prop
  | 0, v | 3, v | 7, v => v = .bool true
  | _, v => v = .bool false
/-- What the operations of the law's answer hold. -/
def rwF (va vb vc : Value) (M N D F : Int) : Nat → Value → Prop
  | 2, v | 8, v => v = va
  | 15, v | 46, v => v = vb
  | 29, v | 45, v => v = vc
  | 3, v | 9, v => v = .int .i64 M
  | 10, v => v = .int .i64 (M + 1)
  | 4, v => v = .int .i64 0
  | 11, v => v = .int .i64 (-1)
  | 16, v | 20, v | 22, v | 30, v | 35, v | 37, v => v = .int .i64 F
  | 17, v | 25, v | 40, v => v = .int .i64 (N - D * F * F).sign
  | 18, v | 33, v | 48, v => v = .int .i64 N
  | 19, v | 34, v => v = .int .i64 D
  | 21, v | 36, v => v = .int .i64 (D * F)
  | 23, v | 38, v => v = .int .i64 (D * F * F)
  | 24, v | 39, v => v = .int .i64 (N - D * F * F)
  | 31, v => v = .int .i64 (-F)
  | 32, v | 41, v => v = .int .i64 (-(N - D * F * F).sign)
  | 47, v | 50, v => v = .int .i64 (-N.sign)
  | 49, v => v = .int .i64 N.sign
  | _, v => v = .bool true

set_option maxRecDepth 100000 in
set_option maxHeartbeats 16000000 in
theorem rootWhole_walk (m n d : Int) (w : World) (ht : Tab w) : Calls Tryz.prog 7 #[.int .i64 m, .int .i64 n, .int .i64 d] w fun e w' => e = .returned (.bool true) ∧ Ext w w' := by
  have E := Lib.hid (Ext.refl w)
  have T_ := Lib.hid ht
  clear ht
  go_enter Tryz.func7, Tryz.ntmps7
  go_wp2_with fail
  refine (sanity2_calls w T_.out).mono ?_
  rintro e w1_ ⟨rfl, hx⟩
  have E1 := Lib.hid (E.out.trans hx)
  have T_1 := Lib.hid (hx.tab T_.out)
  clear E T_
  clear hx
  clear T_1
  go_wp2_with fail
  have am := abs_rem (m := m) (c := 2000000) (by decide) (by decide)
  have an := abs_rem (m := n) (c := 1000000) (by decide) (by decide)
  have ad := abs_rem (m := d) (c := 1000000) (by decide) (by decide)
  have ed : wrap64 (max (d.tmod 1000000) (wrap64 (-d.tmod 1000000)) + 1) = max (d.tmod 1000000) (wrap64 (-d.tmod 1000000)) + 1 := by generalize max (d.tmod 1000000) (wrap64 (-d.tmod 1000000)) = x at *; unfold wrap64; omega
  rw [ed]
  generalize hM : max (m.tmod 2000000) (wrap64 (-m.tmod 2000000)) = M at *
  generalize hN : max (n.tmod 1000000) (wrap64 (-n.tmod 1000000)) = N at *
  generalize hD : max (d.tmod 1000000) (wrap64 (-d.tmod 1000000)) = D0 at *
  clear hM hN hD ed
  obtain ⟨K, hD⟩ : ∃ K, K = D0 + 1 := ⟨_, rfl⟩
  rw [← hD]
  have ad1 : 1 ≤ K ∧ K ≤ 1000000 := by omega
  generalize wrap64 (-m.tmod 2000000) = x1
  generalize wrap64 (-n.tmod 1000000) = x2
  generalize wrap64 (-d.tmod 1000000) = x3
  generalize m.tmod 2000000 = x4
  generalize n.tmod 1000000 = x5
  generalize d.tmod 1000000 = x6
  generalize D0 = x7 at *
  clear hD
  have af : 0 ≤ M.tmod 1000 ∧ M.tmod 1000 < 1000 := ⟨Int.tmod_nonneg _ am.1, Int.tmod_lt_of_pos _ (by decide)⟩
  have mm : 0 ≤ M * M ∧ M * M ≤ 4000000000000 := ⟨Int.mul_nonneg am.1 am.1, by have := Int.mul_le_mul (show M ≤ 2000000 by omega) (show M ≤ 2000000 by omega) am.1 (by decide); omega⟩
  have HW := Lib.hid (whole_n am (show 0 ≤ N ∧ N < 1000000 by omega) ad1 af)
  have HM := Lib.hid mm
  have eMM : wrap64 (M * M) = M * M := by generalize M * M = x at *; unfold wrap64; omega
  rw [eMM]
  clear am an ad ad1 mm eMM
  have AF := Lib.hid af
  clear af
  obtain ⟨F, hF⟩ : ∃ F, F = M.tmod 1000 := ⟨_, rfl⟩
  rw [← hF] at HW AF
  have HF := Lib.hid hF
  clear hF
  have H1 := Lib.hid (ofD_one (s := 1) (n := M * M))
  obtain ⟨SQ, hSQ⟩ : ∃ x, x = M * M := ⟨_, rfl⟩
  rw [← hSQ] at HW HM H1 ⊢
  clear hSQ
  refine (lawOf_n SQ ⟨by have := HM.out; omega, by have := HM.out; omega⟩ w1_).mono ?_
  rintro e w2_ ⟨vI1a, rfl, hz, hx⟩
  have E2 := Lib.hid (E1.out.trans hx)
  clear E1
  have I1a2 := Lib.hid hz
  clear hx hz
  go_wp2_with fail
  refine (lawOf_n 1 (by decide) w2_).mono ?_
  rintro e w3_ ⟨vI1b, rfl, hz, hx⟩
  have E3 := Lib.hid (E2.out.trans hx)
  have I1a3 := Lib.hid (hx.num I1a2.out)
  clear E2 I1a2
  have I1b3 := Lib.hid hz
  clear hx hz
  go_wp2_with fail
  refine (of_whole vI1a vI1b 1 SQ 1 w3_ I1a3.out I1b3.out (by have := HM.out; omega) (by decide) (by decide) (by have := HM.out; omega) (by decide)).mono ?_
  rintro e w4_ ⟨v1, rfl, hv, hx⟩
  have E4 := Lib.hid (E3.out.trans hx)
  have I1a4 := Lib.hid (hx.num I1a3.out)
  have I1b4 := Lib.hid (hx.num I1b3.out)
  clear E3 I1a3 I1b3
  have V14 := Lib.hid hv
  clear hx hv
  obtain ⟨p1, n1, c1, q1, m1, e1, rfl, -, -⟩ := id V14.out
  obtain ⟨W4b, hW4b⟩ : ∃ W4b, W4b = (w4_.alloc (.cells #[.int .i64 0, .int .i64 0, .bool false, .slice none 0 0, .bool false, .slice none 0 0] 32)).setRow w4_.heap.size (rootCells 0 (ofS 1 SQ 1) false p1 n1 c1 false q1 m1 e1) := ⟨_, rfl⟩
  have hx : Ext w4_ W4b := by rw [hW4b]; exact ext_setRow (Ext.alloc _ _) (Nat.le_refl _) _
  have S1n : RowAt W4b w4_.heap.size 32 (rootCells 0 (ofS 1 SQ 1) false p1 n1 c1 false q1 m1 e1) := by rw [hW4b]; exact (RowAt.new _ _ _).setRow _
  have E5 := Lib.hid (E4.out.trans hx)
  have I1a5 := Lib.hid (hx.num I1a4.out)
  have I1b5 := Lib.hid (hx.num I1b4.out)
  have V15 := Lib.hid (RootV.ext V14.out hx)
  clear E4 I1a4 I1b4 V14
  have S15 := Lib.hid S1n
  have HW4b := Lib.hid hW4b
  clear hx hW4b S1n
  clear I1a5
  clear I1b5
  go_wp2_with (first | (refine store_root rfl (.tmp 8) (.tmp 42) rfl w4_.heap.size rfl _ _ _ _ _ _ _ _ _ _ rfl _ _ (RowAt.new' _ _ rfl) rfl ?_; rw [← HW4b.out]))
  refine (lawOf_n N ⟨by have := HW.out.n; omega, by have := HW.out.n; omega⟩ W4b).mono ?_
  rintro e w6_ ⟨vI2a, rfl, hz, hx⟩
  have E6 := Lib.hid (E5.out.trans hx)
  have V16 := Lib.hid (RootV.ext V15.out hx)
  have S16 := Lib.hid (hx.row S15.out)
  clear E5 V15 S15
  have I2a6 := Lib.hid hz
  clear hx hz
  go_wp2_with fail
  refine (lawOf_n K ⟨by have := HW.out.d; omega, by have := HW.out.d; omega⟩ w6_).mono ?_
  rintro e w7_ ⟨vI2b, rfl, hz, hx⟩
  have E7 := Lib.hid (E6.out.trans hx)
  have V17 := Lib.hid (RootV.ext V16.out hx)
  have S17 := Lib.hid (hx.row S16.out)
  have I2a7 := Lib.hid (hx.num I2a6.out)
  clear E6 V16 S16 I2a6
  have I2b7 := Lib.hid hz
  clear hx hz
  go_wp2_with fail
  refine (of_whole vI2a vI2b 1 N K w7_ I2a7.out I2b7.out (by have := HW.out.n; omega) (by have := HW.out.d; omega) (by decide) (by have := HW.out.n; omega) (by have := HW.out.d; omega)).mono ?_
  rintro e w8_ ⟨v2, rfl, hv, hx⟩
  have E8 := Lib.hid (E7.out.trans hx)
  have V18 := Lib.hid (RootV.ext V17.out hx)
  have S18 := Lib.hid (hx.row S17.out)
  have I2a8 := Lib.hid (hx.num I2a7.out)
  have I2b8 := Lib.hid (hx.num I2b7.out)
  clear E7 V17 S17 I2a7 I2b7
  have V28 := Lib.hid hv
  clear hx hv
  obtain ⟨p2, n2, c2, q2, m2, e2, rfl, -, -⟩ := id V28.out
  obtain ⟨W8b, hW8b⟩ : ∃ W8b, W8b = (w8_.alloc (.cells #[.int .i64 0, .int .i64 0, .bool false, .slice none 0 0, .bool false, .slice none 0 0] 32)).setRow w8_.heap.size (rootCells 0 (ofS 1 N K) false p2 n2 c2 false q2 m2 e2) := ⟨_, rfl⟩
  have hx : Ext w8_ W8b := by rw [hW8b]; exact ext_setRow (Ext.alloc _ _) (Nat.le_refl _) _
  have S2n : RowAt W8b w8_.heap.size 32 (rootCells 0 (ofS 1 N K) false p2 n2 c2 false q2 m2 e2) := by rw [hW8b]; exact (RowAt.new _ _ _).setRow _
  have E9 := Lib.hid (E8.out.trans hx)
  have V19 := Lib.hid (RootV.ext V18.out hx)
  have S19 := Lib.hid (hx.row S18.out)
  have I2a9 := Lib.hid (hx.num I2a8.out)
  have I2b9 := Lib.hid (hx.num I2b8.out)
  have V29 := Lib.hid (RootV.ext V28.out hx)
  clear E8 V18 S18 I2a8 I2b8 V28
  have S29 := Lib.hid S2n
  have HW8b := Lib.hid hW8b
  clear hx hW8b S2n
  clear I2a9
  clear I2b9
  go_wp2_with (first | (refine store_root rfl (.tmp 10) (.tmp 50) rfl w8_.heap.size rfl _ _ _ _ _ _ _ _ _ _ rfl _ _ (RowAt.new' _ _ rfl) rfl ?_; rw [← HW8b.out]))
  refine (lawOf_n N ⟨by have := HW.out.n; omega, by have := HW.out.n; omega⟩ W8b).mono ?_
  rintro e w10_ ⟨vI3a, rfl, hz, hx⟩
  have E10 := Lib.hid (E9.out.trans hx)
  have V110 := Lib.hid (RootV.ext V19.out hx)
  have S110 := Lib.hid (hx.row S19.out)
  have V210 := Lib.hid (RootV.ext V29.out hx)
  have S210 := Lib.hid (hx.row S29.out)
  clear E9 V19 S19 V29 S29
  have I3a10 := Lib.hid hz
  clear hx hz
  go_wp2_with fail
  refine (lawOf_n K ⟨by have := HW.out.d; omega, by have := HW.out.d; omega⟩ w10_).mono ?_
  rintro e w11_ ⟨vI3b, rfl, hz, hx⟩
  have E11 := Lib.hid (E10.out.trans hx)
  have V111 := Lib.hid (RootV.ext V110.out hx)
  have S111 := Lib.hid (hx.row S110.out)
  have V211 := Lib.hid (RootV.ext V210.out hx)
  have S211 := Lib.hid (hx.row S210.out)
  have I3a11 := Lib.hid (hx.num I3a10.out)
  clear E10 V110 S110 V210 S210 I3a10
  have I3b11 := Lib.hid hz
  clear hx hz
  go_wp2_with fail
  refine (of_less vI3a vI3b N K w11_ I3a11.out I3b11.out (by have := HW.out.n; omega) (by have := HW.out.d; omega) (by have := HW.out.n; omega) (by have := HW.out.d; omega)).mono ?_
  rintro e w12_ ⟨v3, rfl, hv, hx⟩
  have E12 := Lib.hid (E11.out.trans hx)
  have V112 := Lib.hid (RootV.ext V111.out hx)
  have S112 := Lib.hid (hx.row S111.out)
  have V212 := Lib.hid (RootV.ext V211.out hx)
  have S212 := Lib.hid (hx.row S211.out)
  have I3a12 := Lib.hid (hx.num I3a11.out)
  have I3b12 := Lib.hid (hx.num I3b11.out)
  clear E11 V111 S111 V211 S211 I3a11 I3b11
  have V312 := Lib.hid hv
  clear hx hv
  obtain ⟨p3, n3, c3, q3, m3, e3, rfl, -, -⟩ := id V312.out
  obtain ⟨W12b, hW12b⟩ : ∃ W12b, W12b = (w12_.alloc (.cells #[.int .i64 0, .int .i64 0, .bool false, .slice none 0 0, .bool false, .slice none 0 0] 32)).setRow w12_.heap.size (rootCells 0 (-(ofS 1 N K)) false p3 n3 c3 false q3 m3 e3) := ⟨_, rfl⟩
  have hx : Ext w12_ W12b := by rw [hW12b]; exact ext_setRow (Ext.alloc _ _) (Nat.le_refl _) _
  have S3n : RowAt W12b w12_.heap.size 32 (rootCells 0 (-(ofS 1 N K)) false p3 n3 c3 false q3 m3 e3) := by rw [hW12b]; exact (RowAt.new _ _ _).setRow _
  have E13 := Lib.hid (E12.out.trans hx)
  have V113 := Lib.hid (RootV.ext V112.out hx)
  have S113 := Lib.hid (hx.row S112.out)
  have V213 := Lib.hid (RootV.ext V212.out hx)
  have S213 := Lib.hid (hx.row S212.out)
  have I3a13 := Lib.hid (hx.num I3a12.out)
  have I3b13 := Lib.hid (hx.num I3b12.out)
  have V313 := Lib.hid (RootV.ext V312.out hx)
  clear E12 V112 S112 V212 S212 I3a12 I3b12 V312
  have S313 := Lib.hid S3n
  have HW12b := Lib.hid hW12b
  clear hx hW12b S3n
  clear I3a13
  clear I3b13
  have V1n := Lib.hid (show RootV W12b _ 0 (ofS 1 SQ 1) (ofN 1 SQ 1) 1 from by have h := V113.out; rw [H1.out] at h; exact h)
  clear V113
  obtain ⟨sg, hsg⟩ : ∃ x, x = (N - K * F * F).sign := ⟨_, rfl⟩
  obtain ⟨sn, hsn⟩ : ∃ x, x = N.sign := ⟨_, rfl⟩
  have fit := few_fits HW.out.d HW.out.f
  have W3 := Lib.hid (HW.out.c3.trans hsg.symm)
  have W4 := Lib.hid (show RM.cmpZ 0 (-(ofS 1 N K)) (ofN 1 N K) (ofD 1 N K) (-F) 0 0 1 = wrap64 (-sg) from by rw [HW.out.c4, hsg]; have := sign_fits (N - K * F * F); unfold wrap64; omega)
  have W5 := Lib.hid (show RM.cmpZ 0 (-(ofS 1 N K)) (ofN 1 N K) (ofD 1 N K) 0 (ofS 1 N K) (ofN 1 N K) (ofD 1 N K) = wrap64 (-sn) from by rw [HW.out.c5, hsn]; have := sign_fits N; unfold wrap64; omega)
  have X1 := Lib.hid (show wrap64 (K * F) = K * F from by unfold wrap64; omega)
  have X2 := Lib.hid (show wrap64 (K * F * F) = K * F * F from by unfold wrap64; omega)
  have X3 := Lib.hid (show wrap64 (N - K * F * F) = N - K * F * F from by have := HW.out.n; unfold wrap64; omega)
  have X4 := Lib.hid (show wrap64 (M + 1) = M + 1 from by have := HW.out.m; unfold wrap64; omega)
  have X5 := Lib.hid (show wrap64 (-F) = -F from by have := HW.out.f; unfold wrap64; omega)
  have S1_ := Lib.hid hsg
  have S2_ := Lib.hid hsn
  clear hsg hsn fit
  have cS1_root0_13 := S113.out.root0
  have cS1_root1_13 := S113.out.root1
  have cS1_root2_13 := S113.out.root2
  have cS1_root3_13 := S113.out.root3
  have cS1_root4_13 := S113.out.root4
  have cS1_root5_13 := S113.out.root5
  go_wp2_with (first | (refine store_root rfl (.tmp 12) (.tmp 58) rfl w12_.heap.size rfl _ _ _ _ _ _ _ _ _ _ rfl _ _ (RowAt.new' _ _ rfl) rfl ?_; rw [← HW12b.out]))
  try rw [← HF.out]
  refine (cmpi_is _ _ _ _ M 0 W12b V1n.out HW.out.ra ⟨by have := HW.out.m; omega, by have := HW.out.m; omega⟩ HW.out.c1).mono ?_
  rintro e w14_ ⟨rfl, hx⟩
  clear cS1_root0_13 cS1_root1_13 cS1_root2_13 cS1_root3_13 cS1_root4_13 cS1_root5_13
  have E14 := Lib.hid (E13.out.trans hx)
  have S114 := Lib.hid (hx.row S113.out)
  have V214 := Lib.hid (RootV.ext V213.out hx)
  have S214 := Lib.hid (hx.row S213.out)
  have V314 := Lib.hid (RootV.ext V313.out hx)
  have S314 := Lib.hid (hx.row S313.out)
  have V1n14 := Lib.hid (RootV.ext V1n.out hx)
  clear E13 S113 V213 S213 V313 S313 V1n
  clear hx
  have cS1_root0_14 := S114.out.root0
  have cS1_root1_14 := S114.out.root1
  have cS1_root2_14 := S114.out.root2
  have cS1_root3_14 := S114.out.root3
  have cS1_root4_14 := S114.out.root4
  have cS1_root5_14 := S114.out.root5
  go_wp2_with fail
  rw [X4.out]
  refine (cmpi_is _ _ _ _ (M + 1) (-1) w14_ V1n14.out HW.out.ra ⟨by have := HW.out.m; omega, by have := HW.out.m; omega⟩ HW.out.c2).mono ?_
  rintro e w15_ ⟨rfl, hx⟩
  clear cS1_root0_14 cS1_root1_14 cS1_root2_14 cS1_root3_14 cS1_root4_14 cS1_root5_14
  have E15 := Lib.hid (E14.out.trans hx)
  have S115 := Lib.hid (hx.row S114.out)
  have V215 := Lib.hid (RootV.ext V214.out hx)
  have S215 := Lib.hid (hx.row S214.out)
  have V315 := Lib.hid (RootV.ext V314.out hx)
  have S315 := Lib.hid (hx.row S314.out)
  have V1n15 := Lib.hid (RootV.ext V1n14.out hx)
  clear E14 S114 V214 S214 V314 S314 V1n14
  clear hx
  have cS2_root0_15 := S215.out.root0
  have cS2_root1_15 := S215.out.root1
  have cS2_root2_15 := S215.out.root2
  have cS2_root3_15 := S215.out.root3
  have cS2_root4_15 := S215.out.root4
  have cS2_root5_15 := S215.out.root5
  go_wp2_with fail
  refine (cmpi_is _ _ _ _ F _ w15_ V215.out HW.out.rb ⟨by have := HW.out.f; omega, by have := HW.out.f; omega⟩ W3.out).mono ?_
  rintro e w16_ ⟨rfl, hx⟩
  clear cS2_root0_15 cS2_root1_15 cS2_root2_15 cS2_root3_15 cS2_root4_15 cS2_root5_15
  have E16 := Lib.hid (E15.out.trans hx)
  have S116 := Lib.hid (hx.row S115.out)
  have V216 := Lib.hid (RootV.ext V215.out hx)
  have S216 := Lib.hid (hx.row S215.out)
  have V316 := Lib.hid (RootV.ext V315.out hx)
  have S316 := Lib.hid (hx.row S315.out)
  have V1n16 := Lib.hid (RootV.ext V1n15.out hx)
  clear E15 S115 V215 S215 V315 S315 V1n15
  clear hx
  go_wp2_with fail
  rw [X1.out, X2.out, X3.out]
  refine (lawSign_ok _ w16_).mono ?_
  rintro e w17_ ⟨rfl, hx⟩
  have E17 := Lib.hid (E16.out.trans hx)
  have S117 := Lib.hid (hx.row S116.out)
  have V217 := Lib.hid (RootV.ext V216.out hx)
  have S217 := Lib.hid (hx.row S216.out)
  have V317 := Lib.hid (RootV.ext V316.out hx)
  have S317 := Lib.hid (hx.row S316.out)
  have V1n17 := Lib.hid (RootV.ext V1n16.out hx)
  clear E16 S116 V216 S216 V316 S316 V1n16
  clear hx
  rw [← S1_.out]
  have cS3_root0_17 := S317.out.root0
  have cS3_root1_17 := S317.out.root1
  have cS3_root2_17 := S317.out.root2
  have cS3_root3_17 := S317.out.root3
  have cS3_root4_17 := S317.out.root4
  have cS3_root5_17 := S317.out.root5
  go_wp2_with fail
  rw [X5.out]
  refine (cmpi_is _ _ _ _ (-F) _ w17_ V317.out HW.out.rc ⟨by have := HW.out.f; omega, by have := HW.out.f; omega⟩ W4.out).mono ?_
  rintro e w18_ ⟨rfl, hx⟩
  clear cS3_root0_17 cS3_root1_17 cS3_root2_17 cS3_root3_17 cS3_root4_17 cS3_root5_17
  have E18 := Lib.hid (E17.out.trans hx)
  have S118 := Lib.hid (hx.row S117.out)
  have V218 := Lib.hid (RootV.ext V217.out hx)
  have S218 := Lib.hid (hx.row S217.out)
  have V318 := Lib.hid (RootV.ext V317.out hx)
  have S318 := Lib.hid (hx.row S317.out)
  have V1n18 := Lib.hid (RootV.ext V1n17.out hx)
  clear E17 S117 V217 S217 V317 S317 V1n17
  clear hx
  go_wp2_with fail
  try rw [X1.out, X2.out, X3.out]
  refine (lawSign_ok _ w18_).mono ?_
  rintro e w19_ ⟨rfl, hx⟩
  have E19 := Lib.hid (E18.out.trans hx)
  have S119 := Lib.hid (hx.row S118.out)
  have V219 := Lib.hid (RootV.ext V218.out hx)
  have S219 := Lib.hid (hx.row S218.out)
  have V319 := Lib.hid (RootV.ext V318.out hx)
  have S319 := Lib.hid (hx.row S318.out)
  have V1n19 := Lib.hid (RootV.ext V1n18.out hx)
  clear E18 S118 V218 S218 V318 S318 V1n18
  clear hx
  rw [← S1_.out]
  have cS3_root0_19 := S319.out.root0
  have cS3_root1_19 := S319.out.root1
  have cS3_root2_19 := S319.out.root2
  have cS3_root3_19 := S319.out.root3
  have cS3_root4_19 := S319.out.root4
  have cS3_root5_19 := S319.out.root5
  have cS2_root0_19 := S219.out.root0
  have cS2_root1_19 := S219.out.root1
  have cS2_root2_19 := S219.out.root2
  have cS2_root3_19 := S219.out.root3
  have cS2_root4_19 := S219.out.root4
  have cS2_root5_19 := S219.out.root5
  go_wp2_with fail
  refine (cmp_is _ _ _ _ _ _ _ _ _ w19_ V319.out V219.out HW.out.rc HW.out.rb W5.out).mono ?_
  rintro e w20_ ⟨rfl, hx⟩
  clear cS3_root0_19 cS3_root1_19 cS3_root2_19 cS3_root3_19 cS3_root4_19 cS3_root5_19 cS2_root0_19 cS2_root1_19 cS2_root2_19 cS2_root3_19 cS2_root4_19 cS2_root5_19
  have E20 := Lib.hid (E19.out.trans hx)
  have S120 := Lib.hid (hx.row S119.out)
  have V220 := Lib.hid (RootV.ext V219.out hx)
  have S220 := Lib.hid (hx.row S219.out)
  have V320 := Lib.hid (RootV.ext V319.out hx)
  have S320 := Lib.hid (hx.row S319.out)
  have V1n20 := Lib.hid (RootV.ext V1n19.out hx)
  clear E19 S119 V219 S219 V319 S319 V1n19
  clear hx
  go_wp2_with fail
  refine (lawSign_ok _ w20_).mono ?_
  rintro e w21_ ⟨rfl, hx⟩
  have E21 := Lib.hid (E20.out.trans hx)
  have S121 := Lib.hid (hx.row S120.out)
  have V221 := Lib.hid (RootV.ext V220.out hx)
  have S221 := Lib.hid (hx.row S220.out)
  have V321 := Lib.hid (RootV.ext V320.out hx)
  have S321 := Lib.hid (hx.row S320.out)
  have V1n21 := Lib.hid (RootV.ext V1n20.out hx)
  clear E20 S120 V220 S220 V320 S320 V1n20
  clear hx
  rw [← S2_.out]
  go_wp2
  go_ret
  exact ⟨rfl, E21.out⟩

end Go.Proofs.YtdaipflgcgefgaaGreatDoor
