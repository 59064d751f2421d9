
/- The law RootBounds. -/
import Derived.Test.YtdaipflgcgefgaaGreatDoorRootEnd
import Derived.Test.YtdaipflgcgefgaaGreatDoorRootI
import Derived.Test.YtdaipflgcgefgaaGreatDoorRootJ
import Derived.LoopN
set_option linter.all false
namespace Go.Proofs.YtdaipflgcgefgaaGreatDoor
open Go Go.RowKit Go.Shelf

theorem rem_in (m : Int) {c : Int} (hc : 0 < c) : -c < m.tmod c ∧ m.tmod c < c := by
  have h1 := Int.tmod_lt_of_pos m hc
  have := Int.tmod_lt_of_pos (-m) hc
  rw [Int.neg_tmod] at this
  omega
theorem RootV_mk (a s N M : Int) {w : World} {p : Option Addr} {n c : Nat} {q : Option Addr} {m e : Nat} (hn : ZNum w.heap.size w (.agg #[.bool false, .slice p n c]) N) (hd : ZNum w.heap.size w (.agg #[.bool false, .slice q m e]) M) : RootV w (.agg #[.int .i64 a, .int .i64 s, .bool false, .slice p n c, .bool false, .slice q m e]) a s N M := ⟨_, _, _, _, _, _, rfl, hn, hd⟩
theorem rb_cmp (va vb : Value) (a1 s1 N1 D1 a2 s2 N2 D2 r : Int) (w : World) (ha : RootV w va a1 s1 N1 D1) (hb : RootV w vb a2 s2 N2 D2) (ra : RtR a1 s1 N1 D1) (rb : RtR a2 s2 N2 D2) (hr : r = RM.cmpZ a1 s1 N1 D1 a2 s2 N2 D2) :
    Calls Tryz.prog 24 #[va, vb] w fun e w' => e = .returned (.int .i64 r) ∧ Ext w w' := by
  subst hr; exact rootCmp_ok va vb _ _ _ _ _ _ _ _ w ha hb ra rb

set_option maxRecDepth 100000 in
set_option maxHeartbeats 16000000 in
theorem rootBounds_walk (a0 s0 n0 a1 s1 n1 : Int) (w : World) (ht : Tab w) : Calls Tryz.prog 8 #[.agg #[.int .i64 a0, .int .i64 s0, .int .i64 n0, .int .i64 a1, .int .i64 s1, .int .i64 n1]] w fun e w' => e = .returned (.bool true) ∧ Ext w w' := by
  have E := Lib.hid (Ext.refl w)
  have T_ := Lib.hid ht
  clear ht
  obtain ⟨A0, hA0⟩ : ∃ x, x = a0.tmod 1000 := ⟨_, rfl⟩
  obtain ⟨S0, hS0⟩ : ∃ x, x = s0.tmod 2 := ⟨_, rfl⟩
  obtain ⟨N0, hN0⟩ : ∃ x, x = max (n0.tmod 100000) (wrap64 (-n0.tmod 100000)) := ⟨_, rfl⟩
  have RG0 : Hid (-1 ≤ S0 ∧ S0 ≤ 1 ∧ 0 ≤ N0 ∧ N0 < 100000 ∧ (-1000 < A0 ∧ A0 < 1000) ∧ (S0 = -1 ∨ S0 = 0 ∨ S0 = 1)) := by
    have h1 := abs_rem (m := n0) (c := 100000) (by decide) (by decide)
    have h2 := rem_in a0 (c := 1000) (by decide)
    have h3 := rem_in s0 (c := 2) (by decide)
    rw [← hN0] at h1; rw [← hA0] at h2; rw [← hS0] at h3
    exact ⟨by omega, by omega, h1.1, h1.2, h2, by omega⟩
  have RR0 := Lib.hid (rtr_one (a := A0) (s := S0) (n := N0) (by have := RG0.out; omega) RG0.out.1 RG0.out.2.1 RG0.out.2.2.1 (by have := RG0.out; omega))
  have HA0 := Lib.hid hA0
  have HS0 := Lib.hid hS0
  have HN0 := Lib.hid hN0
  clear hA0 hS0 hN0
  obtain ⟨A1, hA1⟩ : ∃ x, x = a1.tmod 1000 := ⟨_, rfl⟩
  obtain ⟨S1, hS1⟩ : ∃ x, x = s1.tmod 2 := ⟨_, rfl⟩
  obtain ⟨N1, hN1⟩ : ∃ x, x = max (n1.tmod 100000) (wrap64 (-n1.tmod 100000)) := ⟨_, rfl⟩
  have RG1 : Hid (-1 ≤ S1 ∧ S1 ≤ 1 ∧ 0 ≤ N1 ∧ N1 < 100000 ∧ (-1000 < A1 ∧ A1 < 1000) ∧ (S1 = -1 ∨ S1 = 0 ∨ S1 = 1)) := by
    have h1 := abs_rem (m := n1) (c := 100000) (by decide) (by decide)
    have h2 := rem_in a1 (c := 1000) (by decide)
    have h3 := rem_in s1 (c := 2) (by decide)
    rw [← hN1] at h1; rw [← hA1] at h2; rw [← hS1] at h3
    exact ⟨by omega, by omega, h1.1, h1.2, h2, by omega⟩
  have RR1 := Lib.hid (rtr_one (a := A1) (s := S1) (n := N1) (by have := RG1.out; omega) RG1.out.1 RG1.out.2.1 RG1.out.2.2.1 (by have := RG1.out; omega))
  have HA1 := Lib.hid hA1
  have HS1 := Lib.hid hS1
  have HN1 := Lib.hid hN1
  clear hA1 hS1 hN1
  obtain ⟨W0a, hW0a⟩ : ∃ W0a, W0a = (w.alloc (.cells #[.int .i64 a0, .int .i64 s0, .int .i64 n0, .int .i64 a1, .int .i64 s1, .int .i64 n1] 56)) := ⟨_, rfl⟩
  have hx : Ext w W0a := by rw [hW0a]; exact (Ext.alloc _ _)
  have B_n : RowAt W0a (w.heap.size) 56 #[.int .i64 a0, .int .i64 s0, .int .i64 n0, .int .i64 a1, .int .i64 s1, .int .i64 n1] := by rw [hW0a]; exact (RowAt.new' _ _ (by simp))
  have E1 := Lib.hid (E.out.trans hx)
  have T_1 := Lib.hid (hx.tab T_.out)
  clear E T_
  have B_1 := Lib.hid B_n
  have HW0a := Lib.hid hW0a
  clear hx hW0a B_n
  go_enter Tryz.func8, Tryz.ntmps8
  go_wp2_with fail
  rw [← HW0a.out]
  refine (sanity2_calls W0a T_1.out).mono ?_
  rintro e w2_ ⟨rfl, hx⟩
  have E2 := Lib.hid (E1.out.trans hx)
  have T_2 := Lib.hid (hx.tab T_1.out)
  have B_2 := Lib.hid (hx.row B_1.out)
  clear E1 T_1 B_1
  clear hx
  clear T_2
  have LT := Lib.hid B_2.out.lt
  obtain ⟨W2a, hW2a⟩ : ∃ W2a, W2a = (((w2_.alloc (.cells #[.int .i64 0, .int .i64 0, .bool false, .slice none 0 0, .bool false, .slice none 0 0, .int .i64 0, .int .i64 0, .bool false, .slice none 0 0, .bool false, .slice none 0 0] 57)).alloc (.cells #[.int .i64 0, .int .i64 0] 22)).alloc (.cells #[.int .i64 0, .int .i64 0] 22)) := ⟨_, rfl⟩
  have hx : Ext w2_ W2a := by rw [hW2a]; exact (((Ext.alloc _ _).trans (Ext.alloc _ _)).trans (Ext.alloc _ _))
  have L_n : RowAt W2a (w2_.heap.size) 57 #[.int .i64 0, .int .i64 0, .bool false, .slice none 0 0, .bool false, .slice none 0 0, .int .i64 0, .int .i64 0, .bool false, .slice none 0 0, .bool false, .slice none 0 0] := by rw [hW2a]; exact (((RowAt.new' _ _ (by simp)).alloc _).alloc _)
  have LOn : RowAt W2a (w2_.heap.size + 1) 22 #[.int .i64 0, .int .i64 0] := by rw [hW2a]; exact ((RowAt.new' _ _ (by simp)).alloc _)
  have HIn : RowAt W2a (w2_.heap.size + 1 + 1) 22 #[.int .i64 0, .int .i64 0] := by rw [hW2a]; exact (RowAt.new' _ _ (by simp))
  have E3 := Lib.hid (E2.out.trans hx)
  have B_3 := Lib.hid (hx.row B_2.out)
  clear E2 B_2
  have L_3 := Lib.hid L_n
  have LO3 := Lib.hid LOn
  have HI3 := Lib.hid HIn
  have HW2a := Lib.hid hW2a
  clear hx hW2a L_n LOn HIn
  go_wp2_with fail
  rw [← HW2a.out]
  refine wp_loop_rounds 3 ?_
  rw [rounds_succ]
  have cb00 := (show (W2a).cell? ⟨w.heap.size, 0, none⟩ = some (.int .i64 a0) from B_3.out.cell 0)
  have cb01 := (show (W2a).cell? ⟨w.heap.size, 1, none⟩ = some (.int .i64 s0) from B_3.out.cell 1)
  have cb02 := (show (W2a).cell? ⟨w.heap.size, 2, none⟩ = some (.int .i64 n0) from B_3.out.cell 2)
  go_upto_region 9 with fail
  go_quiet (fail)
  clear cb00 cb01 cb02
  obtain ⟨Wq0, hWq0⟩ : ∃ W, W = (W2a).drewN nq := ⟨_, rfl⟩
  have hx : Ext W2a Wq0 := by rw [hWq0]; exact Ext.drewN _ _
  rw [← hWq0, ← HA0.out, ← HS0.out, ← HN0.out]
  clear hWq0
  have E4 := Lib.hid (E3.out.trans hx)
  have B_4 := Lib.hid (hx.row B_3.out)
  have L_4 := Lib.hid (hx.row L_3.out)
  have LO4 := Lib.hid (hx.row LO3.out)
  have HI4 := Lib.hid (hx.row HI3.out)
  clear E3 B_3 L_3 LO3 HI3
  clear hx nq
  go_wp2_with fail
  refine (lawSquare_v A0 S0 N0 Wq0 RG0.out.1 RG0.out.2.1 RG0.out.2.2.1 (by have := RG0.out; omega)).mono ?_
  rintro e w5_ ⟨v0, rfl, ⟨p0, m0, c0, q0, d0, e0, rfl, hn, hd⟩, hx⟩
  have E5 := Lib.hid (E4.out.trans hx)
  have B_5 := Lib.hid (hx.row B_4.out)
  have L_5 := Lib.hid (hx.row L_4.out)
  have LO5 := Lib.hid (hx.row LO4.out)
  have HI5 := Lib.hid (hx.row HI4.out)
  clear E4 B_4 L_4 LO4 HI4
  have ZN05 := Lib.hid hn
  have ZD05 := Lib.hid hd
  clear hx hn hd
  obtain ⟨W5c, hW5c⟩ : ∃ W5c, W5c = w5_.setRow (w2_.heap.size) (#[.int .i64 A0, .int .i64 (ofS S0 N0 1), .bool false, .slice p0 m0 c0, .bool false, .slice q0 d0 e0, .int .i64 0, .int .i64 0, .bool false, .slice none 0 0, .bool false, .slice none 0 0]) := ⟨_, rfl⟩
  have E6 : Hid (Ext w W5c) := by rw [hW5c]; exact ext_setRow E5.out (by have := LT.out; omega) _
  have B_6 := Lib.hid (show RowAt W5c (w.heap.size) _ _ from by rw [hW5c]; exact B_5.out.setRowOther _ (by have := LT.out; omega))
  have L_6 : Hid (RowAt W5c (w2_.heap.size) 57 (#[.int .i64 A0, .int .i64 (ofS S0 N0 1), .bool false, .slice p0 m0 c0, .bool false, .slice q0 d0 e0, .int .i64 0, .int .i64 0, .bool false, .slice none 0 0, .bool false, .slice none 0 0])) := by rw [hW5c]; exact L_5.out.setRow _
  have LO6 := Lib.hid (show RowAt W5c (w2_.heap.size + 1) _ _ from by rw [hW5c]; exact LO5.out.setRowOther _ (by have := LT.out; omega))
  have HI6 := Lib.hid (show RowAt W5c (w2_.heap.size + 1 + 1) _ _ from by rw [hW5c]; exact HI5.out.setRowOther _ (by have := LT.out; omega))
  have ZN06 := Lib.hid (show ZNum W5c.heap.size W5c _ _ from by rw [hW5c, setRow_size]; exact ZN05.out.setAny L_5.out rfl _)
  have ZD06 := Lib.hid (show ZNum W5c.heap.size W5c _ _ from by rw [hW5c, setRow_size]; exact ZD05.out.setAny L_5.out rfl _)
  have HW5c := Lib.hid hW5c
  clear hW5c E5 B_5 LO5 HI5 ZN05 ZD05
  go_wp2_with (first | (refine store_rt0 rfl (.tmp 44) (.tmp 43) rfl (w2_.heap.size) rfl _ _ _ _ _ _ _ _ _ _ rfl _ _ _ _ _ _ _ _ _ _ _ _  _ L_5.out ?_; rw [← HW5c.out]))
  refine (lawBounds_ok A0 S0 N0 W5c RG0.out.2.2.2.2.1 RG0.out.2.2.2.2.2 ⟨RG0.out.2.2.1, RG0.out.2.2.2.1⟩).mono ?_
  rintro e w7_ ⟨lo0, hi0, rfl, hb, hx⟩
  have E7 := Lib.hid (E6.out.trans hx)
  have B_7 := Lib.hid (hx.row B_6.out)
  have L_7 := Lib.hid (hx.row L_6.out)
  have LO7 := Lib.hid (hx.row LO6.out)
  have HI7 := Lib.hid (hx.row HI6.out)
  have ZN07 := Lib.hid (hx.num ZN06.out)
  have ZD07 := Lib.hid (hx.num ZD06.out)
  clear E6 B_6 L_6 LO6 HI6 ZN06 ZD06
  clear hx
  have BD0 := Lib.hid hb
  clear hb
  obtain ⟨L0, hL0⟩ : ∃ x, x = bLow A0 S0 lo0 hi0 := ⟨_, rfl⟩
  obtain ⟨H0, hH0⟩ : ∃ x, x = bHigh A0 S0 lo0 hi0 := ⟨_, rfl⟩
  rw [← hL0, ← hH0]
  have HL0 := Lib.hid hL0
  have HH0 := Lib.hid hH0
  clear hL0 hH0
  obtain ⟨W7c, hW7c⟩ : ∃ W7c, W7c = w7_.setRow (w2_.heap.size + 1) (#[.int .i64 L0, .int .i64 0]) := ⟨_, rfl⟩
  have E8 : Hid (Ext w W7c) := by rw [hW7c]; exact ext_setRow E7.out (by have := LT.out; omega) _
  have B_8 := Lib.hid (show RowAt W7c (w.heap.size) _ _ from by rw [hW7c]; exact B_7.out.setRowOther _ (by have := LT.out; omega))
  have L_8 := Lib.hid (show RowAt W7c (w2_.heap.size) _ _ from by rw [hW7c]; exact L_7.out.setRowOther _ (by have := LT.out; omega))
  have LO8 : Hid (RowAt W7c (w2_.heap.size + 1) 22 (#[.int .i64 L0, .int .i64 0])) := by rw [hW7c]; exact LO7.out.setRow _
  have HI8 := Lib.hid (show RowAt W7c (w2_.heap.size + 1 + 1) _ _ from by rw [hW7c]; exact HI7.out.setRowOther _ (by have := LT.out; omega))
  have ZN08 := Lib.hid (show ZNum W7c.heap.size W7c _ _ from by rw [hW7c, setRow_size]; exact ZN07.out.setAny LO7.out rfl _)
  have ZD08 := Lib.hid (show ZNum W7c.heap.size W7c _ _ from by rw [hW7c, setRow_size]; exact ZD07.out.setAny LO7.out rfl _)
  have HW7c := Lib.hid hW7c
  clear hW7c E7 B_7 L_7 HI7 ZN07 ZD07
  obtain ⟨W8c, hW8c⟩ : ∃ W8c, W8c = W7c.setRow (w2_.heap.size + 1 + 1) (#[.int .i64 H0, .int .i64 0]) := ⟨_, rfl⟩
  have E9 : Hid (Ext w W8c) := by rw [hW8c]; exact ext_setRow E8.out (by have := LT.out; omega) _
  have B_9 := Lib.hid (show RowAt W8c (w.heap.size) _ _ from by rw [hW8c]; exact B_8.out.setRowOther _ (by have := LT.out; omega))
  have L_9 := Lib.hid (show RowAt W8c (w2_.heap.size) _ _ from by rw [hW8c]; exact L_8.out.setRowOther _ (by have := LT.out; omega))
  have LO9 := Lib.hid (show RowAt W8c (w2_.heap.size + 1) _ _ from by rw [hW8c]; exact LO8.out.setRowOther _ (by have := LT.out; omega))
  have HI9 : Hid (RowAt W8c (w2_.heap.size + 1 + 1) 22 (#[.int .i64 H0, .int .i64 0])) := by rw [hW8c]; exact HI8.out.setRow _
  have ZN09 := Lib.hid (show ZNum W8c.heap.size W8c _ _ from by rw [hW8c, setRow_size]; exact ZN08.out.setAny HI8.out rfl _)
  have ZD09 := Lib.hid (show ZNum W8c.heap.size W8c _ _ from by rw [hW8c, setRow_size]; exact ZD08.out.setAny HI8.out rfl _)
  have HW8c := Lib.hid hW8c
  clear hW8c E8 B_8 L_8 LO8 ZN08 ZD08
  go_wp2_with (first | (refine store_i0 rfl (.tmp 54) (.tmp 52) rfl (w2_.heap.size + 1) rfl _ rfl _ _ _ LO7.out ?_; rw [← HW7c.out]) | (refine store_i0 rfl (.tmp 55) (.tmp 53) rfl (w2_.heap.size + 1 + 1) rfl _ rfl _ _ _ HI8.out ?_; rw [← HW8c.out]))
  rw [rounds_succ]
  have cb10 := (show (W8c).cell? ⟨w.heap.size, 3, none⟩ = some (.int .i64 a1) from B_9.out.cell 3)
  have cb11 := (show (W8c).cell? ⟨w.heap.size, 4, none⟩ = some (.int .i64 s1) from B_9.out.cell 4)
  have cb12 := (show (W8c).cell? ⟨w.heap.size, 5, none⟩ = some (.int .i64 n1) from B_9.out.cell 5)
  go_upto_region 9 with fail
  go_quiet (fail)
  clear cb10 cb11 cb12
  obtain ⟨Wq1, hWq1⟩ : ∃ W, W = (W8c).drewN nq := ⟨_, rfl⟩
  have hx : Ext W8c Wq1 := by rw [hWq1]; exact Ext.drewN _ _
  rw [← hWq1, ← HA1.out, ← HS1.out, ← HN1.out]
  clear hWq1
  have E10 := Lib.hid (E9.out.trans hx)
  have B_10 := Lib.hid (hx.row B_9.out)
  have L_10 := Lib.hid (hx.row L_9.out)
  have LO10 := Lib.hid (hx.row LO9.out)
  have HI10 := Lib.hid (hx.row HI9.out)
  have ZN010 := Lib.hid (hx.num ZN09.out)
  have ZD010 := Lib.hid (hx.num ZD09.out)
  clear E9 B_9 L_9 LO9 HI9 ZN09 ZD09
  clear hx nq
  go_wp2_with fail
  refine (lawSquare_v A1 S1 N1 Wq1 RG1.out.1 RG1.out.2.1 RG1.out.2.2.1 (by have := RG1.out; omega)).mono ?_
  rintro e w11_ ⟨v1, rfl, ⟨p1, m1, c1, q1, d1, e1, rfl, hn, hd⟩, hx⟩
  have E11 := Lib.hid (E10.out.trans hx)
  have B_11 := Lib.hid (hx.row B_10.out)
  have L_11 := Lib.hid (hx.row L_10.out)
  have LO11 := Lib.hid (hx.row LO10.out)
  have HI11 := Lib.hid (hx.row HI10.out)
  have ZN011 := Lib.hid (hx.num ZN010.out)
  have ZD011 := Lib.hid (hx.num ZD010.out)
  clear E10 B_10 L_10 LO10 HI10 ZN010 ZD010
  have ZN111 := Lib.hid hn
  have ZD111 := Lib.hid hd
  clear hx hn hd
  obtain ⟨W11c, hW11c⟩ : ∃ W11c, W11c = w11_.setRow (w2_.heap.size) (#[.int .i64 A0, .int .i64 (ofS S0 N0 1), .bool false, .slice p0 m0 c0, .bool false, .slice q0 d0 e0, .int .i64 A1, .int .i64 (ofS S1 N1 1), .bool false, .slice p1 m1 c1, .bool false, .slice q1 d1 e1]) := ⟨_, rfl⟩
  have E12 : Hid (Ext w W11c) := by rw [hW11c]; exact ext_setRow E11.out (by have := LT.out; omega) _
  have B_12 := Lib.hid (show RowAt W11c (w.heap.size) _ _ from by rw [hW11c]; exact B_11.out.setRowOther _ (by have := LT.out; omega))
  have L_12 : Hid (RowAt W11c (w2_.heap.size) 57 (#[.int .i64 A0, .int .i64 (ofS S0 N0 1), .bool false, .slice p0 m0 c0, .bool false, .slice q0 d0 e0, .int .i64 A1, .int .i64 (ofS S1 N1 1), .bool false, .slice p1 m1 c1, .bool false, .slice q1 d1 e1])) := by rw [hW11c]; exact L_11.out.setRow _
  have LO12 := Lib.hid (show RowAt W11c (w2_.heap.size + 1) _ _ from by rw [hW11c]; exact LO11.out.setRowOther _ (by have := LT.out; omega))
  have HI12 := Lib.hid (show RowAt W11c (w2_.heap.size + 1 + 1) _ _ from by rw [hW11c]; exact HI11.out.setRowOther _ (by have := LT.out; omega))
  have ZN012 := Lib.hid (show ZNum W11c.heap.size W11c _ _ from by rw [hW11c, setRow_size]; exact ZN011.out.setAny L_11.out rfl _)
  have ZD012 := Lib.hid (show ZNum W11c.heap.size W11c _ _ from by rw [hW11c, setRow_size]; exact ZD011.out.setAny L_11.out rfl _)
  have ZN112 := Lib.hid (show ZNum W11c.heap.size W11c _ _ from by rw [hW11c, setRow_size]; exact ZN111.out.setAny L_11.out rfl _)
  have ZD112 := Lib.hid (show ZNum W11c.heap.size W11c _ _ from by rw [hW11c, setRow_size]; exact ZD111.out.setAny L_11.out rfl _)
  have HW11c := Lib.hid hW11c
  clear hW11c E11 B_11 LO11 HI11 ZN011 ZD011 ZN111 ZD111
  go_wp2_with (first | (refine store_rt6 rfl (.tmp 44) (.tmp 43) rfl (w2_.heap.size) rfl _ _ _ _ _ _ _ _ _ _ rfl _ _ _ _ _ _ _ _ _ _ _ _  _ L_11.out ?_; rw [← HW11c.out]))
  refine (lawBounds_ok A1 S1 N1 W11c RG1.out.2.2.2.2.1 RG1.out.2.2.2.2.2 ⟨RG1.out.2.2.1, RG1.out.2.2.2.1⟩).mono ?_
  rintro e w13_ ⟨lo1, hi1, rfl, hb, hx⟩
  have E13 := Lib.hid (E12.out.trans hx)
  have B_13 := Lib.hid (hx.row B_12.out)
  have L_13 := Lib.hid (hx.row L_12.out)
  have LO13 := Lib.hid (hx.row LO12.out)
  have HI13 := Lib.hid (hx.row HI12.out)
  have ZN013 := Lib.hid (hx.num ZN012.out)
  have ZD013 := Lib.hid (hx.num ZD012.out)
  have ZN113 := Lib.hid (hx.num ZN112.out)
  have ZD113 := Lib.hid (hx.num ZD112.out)
  clear E12 B_12 L_12 LO12 HI12 ZN012 ZD012 ZN112 ZD112
  clear hx
  have BD1 := Lib.hid hb
  clear hb
  obtain ⟨L1, hL1⟩ : ∃ x, x = bLow A1 S1 lo1 hi1 := ⟨_, rfl⟩
  obtain ⟨H1, hH1⟩ : ∃ x, x = bHigh A1 S1 lo1 hi1 := ⟨_, rfl⟩
  rw [← hL1, ← hH1]
  have HL1 := Lib.hid hL1
  have HH1 := Lib.hid hH1
  clear hL1 hH1
  obtain ⟨W13c, hW13c⟩ : ∃ W13c, W13c = w13_.setRow (w2_.heap.size + 1) (#[.int .i64 L0, .int .i64 L1]) := ⟨_, rfl⟩
  have E14 : Hid (Ext w W13c) := by rw [hW13c]; exact ext_setRow E13.out (by have := LT.out; omega) _
  have B_14 := Lib.hid (show RowAt W13c (w.heap.size) _ _ from by rw [hW13c]; exact B_13.out.setRowOther _ (by have := LT.out; omega))
  have L_14 := Lib.hid (show RowAt W13c (w2_.heap.size) _ _ from by rw [hW13c]; exact L_13.out.setRowOther _ (by have := LT.out; omega))
  have LO14 : Hid (RowAt W13c (w2_.heap.size + 1) 22 (#[.int .i64 L0, .int .i64 L1])) := by rw [hW13c]; exact LO13.out.setRow _
  have HI14 := Lib.hid (show RowAt W13c (w2_.heap.size + 1 + 1) _ _ from by rw [hW13c]; exact HI13.out.setRowOther _ (by have := LT.out; omega))
  have ZN014 := Lib.hid (show ZNum W13c.heap.size W13c _ _ from by rw [hW13c, setRow_size]; exact ZN013.out.setAny LO13.out rfl _)
  have ZD014 := Lib.hid (show ZNum W13c.heap.size W13c _ _ from by rw [hW13c, setRow_size]; exact ZD013.out.setAny LO13.out rfl _)
  have ZN114 := Lib.hid (show ZNum W13c.heap.size W13c _ _ from by rw [hW13c, setRow_size]; exact ZN113.out.setAny LO13.out rfl _)
  have ZD114 := Lib.hid (show ZNum W13c.heap.size W13c _ _ from by rw [hW13c, setRow_size]; exact ZD113.out.setAny LO13.out rfl _)
  have HW13c := Lib.hid hW13c
  clear hW13c E13 B_13 L_13 HI13 ZN013 ZD013 ZN113 ZD113
  obtain ⟨W14c, hW14c⟩ : ∃ W14c, W14c = W13c.setRow (w2_.heap.size + 1 + 1) (#[.int .i64 H0, .int .i64 H1]) := ⟨_, rfl⟩
  have E15 : Hid (Ext w W14c) := by rw [hW14c]; exact ext_setRow E14.out (by have := LT.out; omega) _
  have B_15 := Lib.hid (show RowAt W14c (w.heap.size) _ _ from by rw [hW14c]; exact B_14.out.setRowOther _ (by have := LT.out; omega))
  have L_15 := Lib.hid (show RowAt W14c (w2_.heap.size) _ _ from by rw [hW14c]; exact L_14.out.setRowOther _ (by have := LT.out; omega))
  have LO15 := Lib.hid (show RowAt W14c (w2_.heap.size + 1) _ _ from by rw [hW14c]; exact LO14.out.setRowOther _ (by have := LT.out; omega))
  have HI15 : Hid (RowAt W14c (w2_.heap.size + 1 + 1) 22 (#[.int .i64 H0, .int .i64 H1])) := by rw [hW14c]; exact HI14.out.setRow _
  have ZN015 := Lib.hid (show ZNum W14c.heap.size W14c _ _ from by rw [hW14c, setRow_size]; exact ZN014.out.setAny HI14.out rfl _)
  have ZD015 := Lib.hid (show ZNum W14c.heap.size W14c _ _ from by rw [hW14c, setRow_size]; exact ZD014.out.setAny HI14.out rfl _)
  have ZN115 := Lib.hid (show ZNum W14c.heap.size W14c _ _ from by rw [hW14c, setRow_size]; exact ZN114.out.setAny HI14.out rfl _)
  have ZD115 := Lib.hid (show ZNum W14c.heap.size W14c _ _ from by rw [hW14c, setRow_size]; exact ZD114.out.setAny HI14.out rfl _)
  have HW14c := Lib.hid hW14c
  clear hW14c E14 B_14 L_14 LO14 ZN014 ZD014 ZN114 ZD114
  go_wp2_with (first | (refine store_i1 rfl (.tmp 54) (.tmp 52) rfl (w2_.heap.size + 1) rfl _ rfl _ _ _ LO13.out ?_; rw [← HW13c.out]) | (refine store_i1 rfl (.tmp 55) (.tmp 53) rfl (w2_.heap.size + 1 + 1) rfl _ rfl _ _ _ HI14.out ?_; rw [← HW14c.out]))
  rw [rounds_succ]
  have cl00 := (show (W14c).cell? ⟨w2_.heap.size, 0, none⟩ = some (.int .i64 A0) from L_15.out.cell 0)
  have cl01 := (show (W14c).cell? ⟨w2_.heap.size, 1, none⟩ = some (.int .i64 (ofS S0 N0 1)) from L_15.out.cell 1)
  have cl02 := (show (W14c).cell? ⟨w2_.heap.size, 2, none⟩ = some (.bool false) from L_15.out.cell 2)
  have cl03 := (show (W14c).cell? ⟨w2_.heap.size, 3, none⟩ = some (.slice p0 m0 c0) from L_15.out.cell 3)
  have cl04 := (show (W14c).cell? ⟨w2_.heap.size, 4, none⟩ = some (.bool false) from L_15.out.cell 4)
  have cl05 := (show (W14c).cell? ⟨w2_.heap.size, 5, none⟩ = some (.slice q0 d0 e0) from L_15.out.cell 5)
  have cl10 := (show (W14c).cell? ⟨w2_.heap.size, 6, none⟩ = some (.int .i64 A1) from L_15.out.cell 6)
  have cl11 := (show (W14c).cell? ⟨w2_.heap.size, 7, none⟩ = some (.int .i64 (ofS S1 N1 1)) from L_15.out.cell 7)
  have cl12 := (show (W14c).cell? ⟨w2_.heap.size, 8, none⟩ = some (.bool false) from L_15.out.cell 8)
  have cl13 := (show (W14c).cell? ⟨w2_.heap.size, 9, none⟩ = some (.slice p1 m1 c1) from L_15.out.cell 9)
  have cl14 := (show (W14c).cell? ⟨w2_.heap.size, 10, none⟩ = some (.bool false) from L_15.out.cell 10)
  have cl15 := (show (W14c).cell? ⟨w2_.heap.size, 11, none⟩ = some (.slice q1 d1 e1) from L_15.out.cell 11)
  obtain ⟨c, hc, hcase⟩ := bounds_cmp (A := A0) (A' := A1) (by have := RG0.out; omega) RG0.out.2.2.1 BD0.out (by have := RG1.out; omega) RG1.out.2.2.1 BD1.out RR0.out RR1.out
  rw [← HL0.out, ← HH0.out, ← HL1.out, ← HH1.out] at hcase
  have HC := Lib.hid hc
  have HX := Lib.hid hcase
  clear hc hcase
  go_wp2_with fail
  refine (rb_cmp _ _ _ _ _ _ _ _ _ _ c W14c (RootV_mk A0 (ofS S0 N0 1) (ofN S0 N0 1) (ofD S0 N0 1) ZN015.out ZD015.out) (RootV_mk A1 (ofS S1 N1 1) (ofN S1 N1 1) (ofD S1 N1 1) ZN115.out ZD115.out) RR0.out RR1.out HC.out).mono ?_
  rintro e w16_ ⟨rfl, hx⟩
  have E16 := Lib.hid (E15.out.trans hx)
  have B_16 := Lib.hid (hx.row B_15.out)
  have L_16 := Lib.hid (hx.row L_15.out)
  have LO16 := Lib.hid (hx.row LO15.out)
  have HI16 := Lib.hid (hx.row HI15.out)
  have ZN016 := Lib.hid (hx.num ZN015.out)
  have ZD016 := Lib.hid (hx.num ZD015.out)
  have ZN116 := Lib.hid (hx.num ZN115.out)
  have ZD116 := Lib.hid (hx.num ZD115.out)
  clear E15 B_15 L_15 LO15 HI15 ZN015 ZD015 ZN115 ZD115
  clear hx
  clear cl00 cl01 cl02 cl03 cl04 cl05 cl10 cl11 cl12 cl13 cl14 cl15
  have cL0 := (show (w16_).cell? ⟨w2_.heap.size + 1, 0, none⟩ = some (.int .i64 L0) from LO16.out.cell 0)
  have cL1 := (show (w16_).cell? ⟨w2_.heap.size + 1, 1, none⟩ = some (.int .i64 L1) from LO16.out.cell 1)
  have cH0 := (show (w16_).cell? ⟨w2_.heap.size + 1 + 1, 0, none⟩ = some (.int .i64 H0) from HI16.out.cell 0)
  have cH1 := (show (w16_).cell? ⟨w2_.heap.size + 1 + 1, 1, none⟩ = some (.int .i64 H1) from HI16.out.cell 1)
  rcases HX.out with ⟨rfl, h1⟩ | ⟨rfl, h1, h2⟩ | ⟨rfl, h1⟩
  · go_wp2
    go_ret
    exact ⟨rfl, E16.out⟩
  · go_wp2
    go_ret
    exact ⟨rfl, E16.out⟩
  · go_wp2
    go_ret
    exact ⟨rfl, E16.out⟩

end Go.Proofs.YtdaipflgcgefgaaGreatDoor
