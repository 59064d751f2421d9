/- Texts that belong together. -/
import Derived.Test.YtegjcikofmphjaaGreatDoorQRootMd
import Derived.Deep.Cut
import Derived.Deep.CutRange
import Derived.LoopN
set_option linter.all false
/- The law RootOrder. -/
namespace Go.Proofs.YtegjcikofmphjaaGreatDoor
open Go Go.RowKit Go.Shelf
theorem made_v (q0 q1 q2 q3 : Int) (w : World) (r0 : -9223372036854775808 ≤ q0 ∧ q0 ≤ 9223372036854775807) (r2 : -9223372036854775808 ≤ q2 ∧ q2 ≤ 9223372036854775807) :
    Calls Tryz.prog 16 #[.agg #[.int .i64 q0, .int .i64 q1, .int .i64 q2, .int .i64 q3]] w fun e w' => ∃ v a s N D, e = .returned v ∧ RootV w' v a s N D ∧ RtR a s N D ∧ Ext w w' := by
  have h : Calls Tryz.prog 16 #[.agg #[.int .i64 q0, .int .i64 q1, .int .i64 q2, .int .i64 q3]] w fun e w' => ∃ v, e = .returned v ∧ RightV v w' ∧ Ext w w' := by
    cases h7 : (q1.tmod 7 == 6)
    · exact madeR_f q0 q1 q2 q3 w r0 r2 h7
    · exact madeR_t q0 q1 q2 q3 w r0 r2 h7
  refine h.mono ?_
  rintro e w' ⟨v, rfl, ⟨a, s, N, D, h1, h2⟩, hx⟩
  exact ⟨v, a, s, N, D, rfl, h1, h2, hx⟩
theorem cmp_is2 (va vb : Value) (a1 s1 N1 D1 a2 s2 N2 D2 r : Int) (w : World) (ha : RootV w va a1 s1 N1 D1) (hb : RootV w vb a2 s2 N2 D2) (ra : RtR a1 s1 N1 D1) (rb : RtR a2 s2 N2 D2) (hr : RM.cmpZ a1 s1 N1 D1 a2 s2 N2 D2 = r) :
    Calls Tryz.prog 24 #[va, vb] w fun e w' => e = .returned (.int .i64 r) ∧ Ext w w' := by
  subst hr; exact rootCmp_ok va vb _ _ _ _ _ _ _ _ w ha hb ra rb
def Ord3 (a b c : Int) : Prop := (a = -1 ∨ a = 0 ∨ a = 1) ∧ (b = -1 ∨ b = 0 ∨ b = 1) ∧ (c = -1 ∨ c = 0 ∨ c = 1) ∧ (a ≤ 0 → b ≤ 0 → c ≤ 0 ∧ (a < 0 ∨ b < 0 → c < 0)) ∧ (0 ≤ a → 0 ≤ b → 0 ≤ c ∧ (0 < a ∨ 0 < b → 0 < c))
theorem ord3_of {A0 S0 N0 D0 A1 S1 N1 D1 A2 S2 N2 D2 : Int} (h0 : RtR A0 S0 N0 D0) (h1 : RtR A1 S1 N1 D1) (h2 : RtR A2 S2 N2 D2) : Ord3 (RM.cmpZ A0 S0 N0 D0 A1 S1 N1 D1) (RM.cmpZ A1 S1 N1 D1 A2 S2 N2 D2) (RM.cmpZ A0 S0 N0 D0 A2 S2 N2 D2) ∧ RM.cmpZ A1 S1 N1 D1 A0 S0 N0 D0 = -RM.cmpZ A0 S0 N0 D0 A1 S1 N1 D1 ∧ RM.cmpZ A0 S0 N0 D0 A0 S0 N0 D0 = 0 := by
  obtain ⟨r0, k0⟩ := rt_ex h0
  obtain ⟨r1, k1⟩ := rt_ex h1
  obtain ⟨r2, k2⟩ := rt_ex h2
  have o := RM.cmpZ_order (A1 := A0) (A2 := A1) (A3 := A2) k0 k1 k2
  have o2 := RM.cmpZ_order (A1 := A1) (A2 := A2) (A3 := A2) k1 k2 k2
  have o3 := RM.cmpZ_order (A1 := A0) (A2 := A2) (A3 := A2) k0 k2 k2
  refine ⟨⟨o.2.2.1, o2.2.2.1, o3.2.2.1, o.2.2.2.1, o.2.2.2.2⟩, by have := o.1; omega, o.2.1⟩
theorem RtR.shift {a s N D : Int} (h : RtR a s N D) {t : Int} (ht : -9223372036854775808 ≤ t ∧ t ≤ 9223372036854775807) : RtR t s N D := { toRtB := { h.toRtB with a1 := ht }, g := h.g, z := h.z }
theorem cmp_add {A S N D n : Int} (h : RtR A S N D) : RM.cmpZ A S N D (A + n) S N D = (-n).sign := by
  obtain ⟨r, k⟩ := rt_ex h
  exact RM.cmpZ_plus k
theorem sign_is (n s : Int) (h : n.sign = s) (w : World) : Calls Tryz.prog 29 #[.int .i64 n] w fun e w' => e = .returned (.int .i64 s) ∧ Ext w w' := by
  subst h; exact lawSign_ok n w
section
variable {ops : Array Oper} {rest : List Oper} {o : Oper} {b : Act} {w : World} {Q : Exit → Act → World → Prop}
set_option maxRecDepth 20000 in
set_option maxHeartbeats 2000000 in
theorem store_ru0 (hgd : o.guard = none) (x y : Operand) (ho : o.op = .store 32 x y) (g : Nat) (hx : b.eval x = .pointer (some ⟨g, 0, none⟩)) (a s : Int) (nn : Bool) (p : Option Addr) (n c : Nat) (nd : Bool) (q : Option Addr) (m e : Nat) (hy : b.eval y = .agg #[.int .i64 a, .int .i64 s, .bool nn, .slice p n c, .bool nd, .slice q m e])
    (x0 x1 x2 x3 x4 x5 x6 x7 x8 x9 x10 x11 x12 x13 x14 x15 x16 x17 : Value) (t : TypeId) (hg : RowAt w g t #[x0, x1, x2, x3, x4, x5, x6, x7, x8, x9, x10, x11, x12, x13, x14, x15, x16, x17])
    (h : wpList Tryz.prog ops Q rest (b.put o.dst undef) (w.setRow g #[.int .i64 a, .int .i64 s, .bool nn, .slice p n c, .bool nd, .slice q m e, x6, x7, x8, x9, x10, x11, x12, x13, x14, x15, x16, x17])) : wpList Tryz.prog ops Q (o :: rest) b w := by
  refine wpList_plain hgd fun K hK => ?_
  have c0 : (w).cell? ⟨g, 0, none⟩ = some x0 := hg.cell 0
  have f0 := hg.frozen 0
  have r0 : RowAt ((w).setCell ⟨g, 0, none⟩ (.int .i64 a)) g t #[(.int .i64 a), x1, x2, x3, x4, x5, x6, x7, x8, x9, x10, x11, x12, x13, x14, x15, x16, x17] := hg.set 0 (.int .i64 a)
  have e0 : (w).setCell ⟨g, 0, none⟩ (.int .i64 a) = w.setRow g #[(.int .i64 a), x1, x2, x3, x4, x5, x6, x7, x8, x9, x10, x11, x12, x13, x14, x15, x16, x17] := setCell_eq_setRow w g 0 _ t (0, 0) _ hg
  have c1 : ((w).setCell ⟨g, 0, none⟩ (.int .i64 a)).cell? ⟨g, 1, none⟩ = some x1 := r0.cell 1
  have f1 := r0.frozen 1
  have r1 : RowAt (((w).setCell ⟨g, 0, none⟩ (.int .i64 a)).setCell ⟨g, 1, none⟩ (.int .i64 s)) g t #[(.int .i64 a), (.int .i64 s), x2, x3, x4, x5, x6, x7, x8, x9, x10, x11, x12, x13, x14, x15, x16, x17] := r0.set 1 (.int .i64 s)
  have e1 : ((w).setCell ⟨g, 0, none⟩ (.int .i64 a)).setCell ⟨g, 1, none⟩ (.int .i64 s) = w.setRow g #[(.int .i64 a), (.int .i64 s), x2, x3, x4, x5, x6, x7, x8, x9, x10, x11, x12, x13, x14, x15, x16, x17] := by rw [e0, setCell_eq_setRow _ g 1 _ t (0, 0) _ (hg.setRow _), setRow_setRow]; rfl
  have c2 : (((w).setCell ⟨g, 0, none⟩ (.int .i64 a)).setCell ⟨g, 1, none⟩ (.int .i64 s)).cell? ⟨g, 2, none⟩ = some x2 := r1.cell 2
  have f2 := r1.frozen 2
  have r2 : RowAt ((((w).setCell ⟨g, 0, none⟩ (.int .i64 a)).setCell ⟨g, 1, none⟩ (.int .i64 s)).setCell ⟨g, 2, none⟩ (.bool nn)) g t #[(.int .i64 a), (.int .i64 s), (.bool nn), x3, x4, x5, x6, x7, x8, x9, x10, x11, x12, x13, x14, x15, x16, x17] := r1.set 2 (.bool nn)
  have e2 : (((w).setCell ⟨g, 0, none⟩ (.int .i64 a)).setCell ⟨g, 1, none⟩ (.int .i64 s)).setCell ⟨g, 2, none⟩ (.bool nn) = w.setRow g #[(.int .i64 a), (.int .i64 s), (.bool nn), x3, x4, x5, x6, x7, x8, x9, x10, x11, x12, x13, x14, x15, x16, x17] := by rw [e1, setCell_eq_setRow _ g 2 _ t (0, 0) _ (hg.setRow _), setRow_setRow]; rfl
  have c3 : ((((w).setCell ⟨g, 0, none⟩ (.int .i64 a)).setCell ⟨g, 1, none⟩ (.int .i64 s)).setCell ⟨g, 2, none⟩ (.bool nn)).cell? ⟨g, 3, none⟩ = some x3 := r2.cell 3
  have f3 := r2.frozen 3
  have r3 : RowAt (((((w).setCell ⟨g, 0, none⟩ (.int .i64 a)).setCell ⟨g, 1, none⟩ (.int .i64 s)).setCell ⟨g, 2, none⟩ (.bool nn)).setCell ⟨g, 3, none⟩ (.slice p n c)) g t #[(.int .i64 a), (.int .i64 s), (.bool nn), (.slice p n c), x4, x5, x6, x7, x8, x9, x10, x11, x12, x13, x14, x15, x16, x17] := r2.set 3 (.slice p n c)
  have e3 : ((((w).setCell ⟨g, 0, none⟩ (.int .i64 a)).setCell ⟨g, 1, none⟩ (.int .i64 s)).setCell ⟨g, 2, none⟩ (.bool nn)).setCell ⟨g, 3, none⟩ (.slice p n c) = w.setRow g #[(.int .i64 a), (.int .i64 s), (.bool nn), (.slice p n c), x4, x5, x6, x7, x8, x9, x10, x11, x12, x13, x14, x15, x16, x17] := by rw [e2, setCell_eq_setRow _ g 3 _ t (0, 0) _ (hg.setRow _), setRow_setRow]; rfl
  have c4 : (((((w).setCell ⟨g, 0, none⟩ (.int .i64 a)).setCell ⟨g, 1, none⟩ (.int .i64 s)).setCell ⟨g, 2, none⟩ (.bool nn)).setCell ⟨g, 3, none⟩ (.slice p n c)).cell? ⟨g, 4, none⟩ = some x4 := r3.cell 4
  have f4 := r3.frozen 4
  have r4 : RowAt ((((((w).setCell ⟨g, 0, none⟩ (.int .i64 a)).setCell ⟨g, 1, none⟩ (.int .i64 s)).setCell ⟨g, 2, none⟩ (.bool nn)).setCell ⟨g, 3, none⟩ (.slice p n c)).setCell ⟨g, 4, none⟩ (.bool nd)) g t #[(.int .i64 a), (.int .i64 s), (.bool nn), (.slice p n c), (.bool nd), x5, x6, x7, x8, x9, x10, x11, x12, x13, x14, x15, x16, x17] := r3.set 4 (.bool nd)
  have e4 : (((((w).setCell ⟨g, 0, none⟩ (.int .i64 a)).setCell ⟨g, 1, none⟩ (.int .i64 s)).setCell ⟨g, 2, none⟩ (.bool nn)).setCell ⟨g, 3, none⟩ (.slice p n c)).setCell ⟨g, 4, none⟩ (.bool nd) = w.setRow g #[(.int .i64 a), (.int .i64 s), (.bool nn), (.slice p n c), (.bool nd), x5, x6, x7, x8, x9, x10, x11, x12, x13, x14, x15, x16, x17] := by rw [e3, setCell_eq_setRow _ g 4 _ t (0, 0) _ (hg.setRow _), setRow_setRow]; rfl
  have c5 : ((((((w).setCell ⟨g, 0, none⟩ (.int .i64 a)).setCell ⟨g, 1, none⟩ (.int .i64 s)).setCell ⟨g, 2, none⟩ (.bool nn)).setCell ⟨g, 3, none⟩ (.slice p n c)).setCell ⟨g, 4, none⟩ (.bool nd)).cell? ⟨g, 5, none⟩ = some x5 := r4.cell 5
  have f5 := r4.frozen 5
  have r5 : RowAt (((((((w).setCell ⟨g, 0, none⟩ (.int .i64 a)).setCell ⟨g, 1, none⟩ (.int .i64 s)).setCell ⟨g, 2, none⟩ (.bool nn)).setCell ⟨g, 3, none⟩ (.slice p n c)).setCell ⟨g, 4, none⟩ (.bool nd)).setCell ⟨g, 5, none⟩ (.slice q m e)) g t #[(.int .i64 a), (.int .i64 s), (.bool nn), (.slice p n c), (.bool nd), (.slice q m e), x6, x7, x8, x9, x10, x11, x12, x13, x14, x15, x16, x17] := r4.set 5 (.slice q m e)
  have e5 : ((((((w).setCell ⟨g, 0, none⟩ (.int .i64 a)).setCell ⟨g, 1, none⟩ (.int .i64 s)).setCell ⟨g, 2, none⟩ (.bool nn)).setCell ⟨g, 3, none⟩ (.slice p n c)).setCell ⟨g, 4, none⟩ (.bool nd)).setCell ⟨g, 5, none⟩ (.slice q m e) = w.setRow g #[(.int .i64 a), (.int .i64 s), (.bool nn), (.slice p n c), (.bool nd), (.slice q m e), x6, x7, x8, x9, x10, x11, x12, x13, x14, x15, x16, x17] := by rw [e4, setCell_eq_setRow _ g 5 _ t (0, 0) _ (hg.setRow _), setRow_setRow]; rfl
  have hrun : (execOp b.eval o).run Tryz.prog w = .ok .skip (w.setRow g #[.int .i64 a, .int .i64 s, .bool nn, .slice p n c, .bool nd, .slice q m e, x6, x7, x8, x9, x10, x11, x12, x13, x14, x15, x16, x17]) := by
    rw [← e5]
    unfold execOp
    simp only [ho, hx, hy]
    simp [go_sem, c0, f0, c1, f1, c2, f2, c3, f3, c4, f4, c5, f5]
  exact wp_of_skip hrun (hK _ _ h)
set_option maxRecDepth 20000 in
set_option maxHeartbeats 2000000 in
theorem store_ru6 (hgd : o.guard = none) (x y : Operand) (ho : o.op = .store 32 x y) (g : Nat) (hx : b.eval x = .pointer (some ⟨g, 6, none⟩)) (a s : Int) (nn : Bool) (p : Option Addr) (n c : Nat) (nd : Bool) (q : Option Addr) (m e : Nat) (hy : b.eval y = .agg #[.int .i64 a, .int .i64 s, .bool nn, .slice p n c, .bool nd, .slice q m e])
    (x0 x1 x2 x3 x4 x5 x6 x7 x8 x9 x10 x11 x12 x13 x14 x15 x16 x17 : Value) (t : TypeId) (hg : RowAt w g t #[x0, x1, x2, x3, x4, x5, x6, x7, x8, x9, x10, x11, x12, x13, x14, x15, x16, x17])
    (h : wpList Tryz.prog ops Q rest (b.put o.dst undef) (w.setRow g #[x0, x1, x2, x3, x4, x5, .int .i64 a, .int .i64 s, .bool nn, .slice p n c, .bool nd, .slice q m e, x12, x13, x14, x15, x16, x17])) : wpList Tryz.prog ops Q (o :: rest) b w := by
  refine wpList_plain hgd fun K hK => ?_
  have c0 : (w).cell? ⟨g, 6, none⟩ = some x6 := hg.cell 6
  have f0 := hg.frozen 6
  have r0 : RowAt ((w).setCell ⟨g, 6, none⟩ (.int .i64 a)) g t #[x0, x1, x2, x3, x4, x5, (.int .i64 a), x7, x8, x9, x10, x11, x12, x13, x14, x15, x16, x17] := hg.set 6 (.int .i64 a)
  have e0 : (w).setCell ⟨g, 6, none⟩ (.int .i64 a) = w.setRow g #[x0, x1, x2, x3, x4, x5, (.int .i64 a), x7, x8, x9, x10, x11, x12, x13, x14, x15, x16, x17] := setCell_eq_setRow w g 6 _ t (0, 0) _ hg
  have c1 : ((w).setCell ⟨g, 6, none⟩ (.int .i64 a)).cell? ⟨g, 7, none⟩ = some x7 := r0.cell 7
  have f1 := r0.frozen 7
  have r1 : RowAt (((w).setCell ⟨g, 6, none⟩ (.int .i64 a)).setCell ⟨g, 7, none⟩ (.int .i64 s)) g t #[x0, x1, x2, x3, x4, x5, (.int .i64 a), (.int .i64 s), x8, x9, x10, x11, x12, x13, x14, x15, x16, x17] := r0.set 7 (.int .i64 s)
  have e1 : ((w).setCell ⟨g, 6, none⟩ (.int .i64 a)).setCell ⟨g, 7, none⟩ (.int .i64 s) = w.setRow g #[x0, x1, x2, x3, x4, x5, (.int .i64 a), (.int .i64 s), x8, x9, x10, x11, x12, x13, x14, x15, x16, x17] := by rw [e0, setCell_eq_setRow _ g 7 _ t (0, 0) _ (hg.setRow _), setRow_setRow]; rfl
  have c2 : (((w).setCell ⟨g, 6, none⟩ (.int .i64 a)).setCell ⟨g, 7, none⟩ (.int .i64 s)).cell? ⟨g, 8, none⟩ = some x8 := r1.cell 8
  have f2 := r1.frozen 8
  have r2 : RowAt ((((w).setCell ⟨g, 6, none⟩ (.int .i64 a)).setCell ⟨g, 7, none⟩ (.int .i64 s)).setCell ⟨g, 8, none⟩ (.bool nn)) g t #[x0, x1, x2, x3, x4, x5, (.int .i64 a), (.int .i64 s), (.bool nn), x9, x10, x11, x12, x13, x14, x15, x16, x17] := r1.set 8 (.bool nn)
  have e2 : (((w).setCell ⟨g, 6, none⟩ (.int .i64 a)).setCell ⟨g, 7, none⟩ (.int .i64 s)).setCell ⟨g, 8, none⟩ (.bool nn) = w.setRow g #[x0, x1, x2, x3, x4, x5, (.int .i64 a), (.int .i64 s), (.bool nn), x9, x10, x11, x12, x13, x14, x15, x16, x17] := by rw [e1, setCell_eq_setRow _ g 8 _ t (0, 0) _ (hg.setRow _), setRow_setRow]; rfl
  have c3 : ((((w).setCell ⟨g, 6, none⟩ (.int .i64 a)).setCell ⟨g, 7, none⟩ (.int .i64 s)).setCell ⟨g, 8, none⟩ (.bool nn)).cell? ⟨g, 9, none⟩ = some x9 := r2.cell 9
  have f3 := r2.frozen 9
  have r3 : RowAt (((((w).setCell ⟨g, 6, none⟩ (.int .i64 a)).setCell ⟨g, 7, none⟩ (.int .i64 s)).setCell ⟨g, 8, none⟩ (.bool nn)).setCell ⟨g, 9, none⟩ (.slice p n c)) g t #[x0, x1, x2, x3, x4, x5, (.int .i64 a), (.int .i64 s), (.bool nn), (.slice p n c), x10, x11, x12, x13, x14, x15, x16, x17] := r2.set 9 (.slice p n c)
  have e3 : ((((w).setCell ⟨g, 6, none⟩ (.int .i64 a)).setCell ⟨g, 7, none⟩ (.int .i64 s)).setCell ⟨g, 8, none⟩ (.bool nn)).setCell ⟨g, 9, none⟩ (.slice p n c) = w.setRow g #[x0, x1, x2, x3, x4, x5, (.int .i64 a), (.int .i64 s), (.bool nn), (.slice p n c), x10, x11, x12, x13, x14, x15, x16, x17] := by rw [e2, setCell_eq_setRow _ g 9 _ t (0, 0) _ (hg.setRow _), setRow_setRow]; rfl
  have c4 : (((((w).setCell ⟨g, 6, none⟩ (.int .i64 a)).setCell ⟨g, 7, none⟩ (.int .i64 s)).setCell ⟨g, 8, none⟩ (.bool nn)).setCell ⟨g, 9, none⟩ (.slice p n c)).cell? ⟨g, 10, none⟩ = some x10 := r3.cell 10
  have f4 := r3.frozen 10
  have r4 : RowAt ((((((w).setCell ⟨g, 6, none⟩ (.int .i64 a)).setCell ⟨g, 7, none⟩ (.int .i64 s)).setCell ⟨g, 8, none⟩ (.bool nn)).setCell ⟨g, 9, none⟩ (.slice p n c)).setCell ⟨g, 10, none⟩ (.bool nd)) g t #[x0, x1, x2, x3, x4, x5, (.int .i64 a), (.int .i64 s), (.bool nn), (.slice p n c), (.bool nd), x11, x12, x13, x14, x15, x16, x17] := r3.set 10 (.bool nd)
  have e4 : (((((w).setCell ⟨g, 6, none⟩ (.int .i64 a)).setCell ⟨g, 7, none⟩ (.int .i64 s)).setCell ⟨g, 8, none⟩ (.bool nn)).setCell ⟨g, 9, none⟩ (.slice p n c)).setCell ⟨g, 10, none⟩ (.bool nd) = w.setRow g #[x0, x1, x2, x3, x4, x5, (.int .i64 a), (.int .i64 s), (.bool nn), (.slice p n c), (.bool nd), x11, x12, x13, x14, x15, x16, x17] := by rw [e3, setCell_eq_setRow _ g 10 _ t (0, 0) _ (hg.setRow _), setRow_setRow]; rfl
  have c5 : ((((((w).setCell ⟨g, 6, none⟩ (.int .i64 a)).setCell ⟨g, 7, none⟩ (.int .i64 s)).setCell ⟨g, 8, none⟩ (.bool nn)).setCell ⟨g, 9, none⟩ (.slice p n c)).setCell ⟨g, 10, none⟩ (.bool nd)).cell? ⟨g, 11, none⟩ = some x11 := r4.cell 11
  have f5 := r4.frozen 11
  have r5 : RowAt (((((((w).setCell ⟨g, 6, none⟩ (.int .i64 a)).setCell ⟨g, 7, none⟩ (.int .i64 s)).setCell ⟨g, 8, none⟩ (.bool nn)).setCell ⟨g, 9, none⟩ (.slice p n c)).setCell ⟨g, 10, none⟩ (.bool nd)).setCell ⟨g, 11, none⟩ (.slice q m e)) g t #[x0, x1, x2, x3, x4, x5, (.int .i64 a), (.int .i64 s), (.bool nn), (.slice p n c), (.bool nd), (.slice q m e), x12, x13, x14, x15, x16, x17] := r4.set 11 (.slice q m e)
  have e5 : ((((((w).setCell ⟨g, 6, none⟩ (.int .i64 a)).setCell ⟨g, 7, none⟩ (.int .i64 s)).setCell ⟨g, 8, none⟩ (.bool nn)).setCell ⟨g, 9, none⟩ (.slice p n c)).setCell ⟨g, 10, none⟩ (.bool nd)).setCell ⟨g, 11, none⟩ (.slice q m e) = w.setRow g #[x0, x1, x2, x3, x4, x5, (.int .i64 a), (.int .i64 s), (.bool nn), (.slice p n c), (.bool nd), (.slice q m e), x12, x13, x14, x15, x16, x17] := by rw [e4, setCell_eq_setRow _ g 11 _ t (0, 0) _ (hg.setRow _), setRow_setRow]; rfl
  have hrun : (execOp b.eval o).run Tryz.prog w = .ok .skip (w.setRow g #[x0, x1, x2, x3, x4, x5, .int .i64 a, .int .i64 s, .bool nn, .slice p n c, .bool nd, .slice q m e, x12, x13, x14, x15, x16, x17]) := by
    rw [← e5]
    unfold execOp
    simp only [ho, hx, hy]
    simp [go_sem, c0, f0, c1, f1, c2, f2, c3, f3, c4, f4, c5, f5]
  exact wp_of_skip hrun (hK _ _ h)
set_option maxRecDepth 20000 in
set_option maxHeartbeats 2000000 in
theorem store_ru12 (hgd : o.guard = none) (x y : Operand) (ho : o.op = .store 32 x y) (g : Nat) (hx : b.eval x = .pointer (some ⟨g, 12, none⟩)) (a s : Int) (nn : Bool) (p : Option Addr) (n c : Nat) (nd : Bool) (q : Option Addr) (m e : Nat) (hy : b.eval y = .agg #[.int .i64 a, .int .i64 s, .bool nn, .slice p n c, .bool nd, .slice q m e])
    (x0 x1 x2 x3 x4 x5 x6 x7 x8 x9 x10 x11 x12 x13 x14 x15 x16 x17 : Value) (t : TypeId) (hg : RowAt w g t #[x0, x1, x2, x3, x4, x5, x6, x7, x8, x9, x10, x11, x12, x13, x14, x15, x16, x17])
    (h : wpList Tryz.prog ops Q rest (b.put o.dst undef) (w.setRow g #[x0, x1, x2, x3, x4, x5, x6, x7, x8, x9, x10, x11, .int .i64 a, .int .i64 s, .bool nn, .slice p n c, .bool nd, .slice q m e])) : wpList Tryz.prog ops Q (o :: rest) b w := by
  refine wpList_plain hgd fun K hK => ?_
  have c0 : (w).cell? ⟨g, 12, none⟩ = some x12 := hg.cell 12
  have f0 := hg.frozen 12
  have r0 : RowAt ((w).setCell ⟨g, 12, none⟩ (.int .i64 a)) g t #[x0, x1, x2, x3, x4, x5, x6, x7, x8, x9, x10, x11, (.int .i64 a), x13, x14, x15, x16, x17] := hg.set 12 (.int .i64 a)
  have e0 : (w).setCell ⟨g, 12, none⟩ (.int .i64 a) = w.setRow g #[x0, x1, x2, x3, x4, x5, x6, x7, x8, x9, x10, x11, (.int .i64 a), x13, x14, x15, x16, x17] := setCell_eq_setRow w g 12 _ t (0, 0) _ hg
  have c1 : ((w).setCell ⟨g, 12, none⟩ (.int .i64 a)).cell? ⟨g, 13, none⟩ = some x13 := r0.cell 13
  have f1 := r0.frozen 13
  have r1 : RowAt (((w).setCell ⟨g, 12, none⟩ (.int .i64 a)).setCell ⟨g, 13, none⟩ (.int .i64 s)) g t #[x0, x1, x2, x3, x4, x5, x6, x7, x8, x9, x10, x11, (.int .i64 a), (.int .i64 s), x14, x15, x16, x17] := r0.set 13 (.int .i64 s)
  have e1 : ((w).setCell ⟨g, 12, none⟩ (.int .i64 a)).setCell ⟨g, 13, none⟩ (.int .i64 s) = w.setRow g #[x0, x1, x2, x3, x4, x5, x6, x7, x8, x9, x10, x11, (.int .i64 a), (.int .i64 s), x14, x15, x16, x17] := by rw [e0, setCell_eq_setRow _ g 13 _ t (0, 0) _ (hg.setRow _), setRow_setRow]; rfl
  have c2 : (((w).setCell ⟨g, 12, none⟩ (.int .i64 a)).setCell ⟨g, 13, none⟩ (.int .i64 s)).cell? ⟨g, 14, none⟩ = some x14 := r1.cell 14
  have f2 := r1.frozen 14
  have r2 : RowAt ((((w).setCell ⟨g, 12, none⟩ (.int .i64 a)).setCell ⟨g, 13, none⟩ (.int .i64 s)).setCell ⟨g, 14, none⟩ (.bool nn)) g t #[x0, x1, x2, x3, x4, x5, x6, x7, x8, x9, x10, x11, (.int .i64 a), (.int .i64 s), (.bool nn), x15, x16, x17] := r1.set 14 (.bool nn)
  have e2 : (((w).setCell ⟨g, 12, none⟩ (.int .i64 a)).setCell ⟨g, 13, none⟩ (.int .i64 s)).setCell ⟨g, 14, none⟩ (.bool nn) = w.setRow g #[x0, x1, x2, x3, x4, x5, x6, x7, x8, x9, x10, x11, (.int .i64 a), (.int .i64 s), (.bool nn), x15, x16, x17] := by rw [e1, setCell_eq_setRow _ g 14 _ t (0, 0) _ (hg.setRow _), setRow_setRow]; rfl
  have c3 : ((((w).setCell ⟨g, 12, none⟩ (.int .i64 a)).setCell ⟨g, 13, none⟩ (.int .i64 s)).setCell ⟨g, 14, none⟩ (.bool nn)).cell? ⟨g, 15, none⟩ = some x15 := r2.cell 15
  have f3 := r2.frozen 15
  have r3 : RowAt (((((w).setCell ⟨g, 12, none⟩ (.int .i64 a)).setCell ⟨g, 13, none⟩ (.int .i64 s)).setCell ⟨g, 14, none⟩ (.bool nn)).setCell ⟨g, 15, none⟩ (.slice p n c)) g t #[x0, x1, x2, x3, x4, x5, x6, x7, x8, x9, x10, x11, (.int .i64 a), (.int .i64 s), (.bool nn), (.slice p n c), x16, x17] := r2.set 15 (.slice p n c)
  have e3 : ((((w).setCell ⟨g, 12, none⟩ (.int .i64 a)).setCell ⟨g, 13, none⟩ (.int .i64 s)).setCell ⟨g, 14, none⟩ (.bool nn)).setCell ⟨g, 15, none⟩ (.slice p n c) = w.setRow g #[x0, x1, x2, x3, x4, x5, x6, x7, x8, x9, x10, x11, (.int .i64 a), (.int .i64 s), (.bool nn), (.slice p n c), x16, x17] := by rw [e2, setCell_eq_setRow _ g 15 _ t (0, 0) _ (hg.setRow _), setRow_setRow]; rfl
  have c4 : (((((w).setCell ⟨g, 12, none⟩ (.int .i64 a)).setCell ⟨g, 13, none⟩ (.int .i64 s)).setCell ⟨g, 14, none⟩ (.bool nn)).setCell ⟨g, 15, none⟩ (.slice p n c)).cell? ⟨g, 16, none⟩ = some x16 := r3.cell 16
  have f4 := r3.frozen 16
  have r4 : RowAt ((((((w).setCell ⟨g, 12, none⟩ (.int .i64 a)).setCell ⟨g, 13, none⟩ (.int .i64 s)).setCell ⟨g, 14, none⟩ (.bool nn)).setCell ⟨g, 15, none⟩ (.slice p n c)).setCell ⟨g, 16, none⟩ (.bool nd)) g t #[x0, x1, x2, x3, x4, x5, x6, x7, x8, x9, x10, x11, (.int .i64 a), (.int .i64 s), (.bool nn), (.slice p n c), (.bool nd), x17] := r3.set 16 (.bool nd)
  have e4 : (((((w).setCell ⟨g, 12, none⟩ (.int .i64 a)).setCell ⟨g, 13, none⟩ (.int .i64 s)).setCell ⟨g, 14, none⟩ (.bool nn)).setCell ⟨g, 15, none⟩ (.slice p n c)).setCell ⟨g, 16, none⟩ (.bool nd) = w.setRow g #[x0, x1, x2, x3, x4, x5, x6, x7, x8, x9, x10, x11, (.int .i64 a), (.int .i64 s), (.bool nn), (.slice p n c), (.bool nd), x17] := by rw [e3, setCell_eq_setRow _ g 16 _ t (0, 0) _ (hg.setRow _), setRow_setRow]; rfl
  have c5 : ((((((w).setCell ⟨g, 12, none⟩ (.int .i64 a)).setCell ⟨g, 13, none⟩ (.int .i64 s)).setCell ⟨g, 14, none⟩ (.bool nn)).setCell ⟨g, 15, none⟩ (.slice p n c)).setCell ⟨g, 16, none⟩ (.bool nd)).cell? ⟨g, 17, none⟩ = some x17 := r4.cell 17
  have f5 := r4.frozen 17
  have r5 : RowAt (((((((w).setCell ⟨g, 12, none⟩ (.int .i64 a)).setCell ⟨g, 13, none⟩ (.int .i64 s)).setCell ⟨g, 14, none⟩ (.bool nn)).setCell ⟨g, 15, none⟩ (.slice p n c)).setCell ⟨g, 16, none⟩ (.bool nd)).setCell ⟨g, 17, none⟩ (.slice q m e)) g t #[x0, x1, x2, x3, x4, x5, x6, x7, x8, x9, x10, x11, (.int .i64 a), (.int .i64 s), (.bool nn), (.slice p n c), (.bool nd), (.slice q m e)] := r4.set 17 (.slice q m e)
  have e5 : ((((((w).setCell ⟨g, 12, none⟩ (.int .i64 a)).setCell ⟨g, 13, none⟩ (.int .i64 s)).setCell ⟨g, 14, none⟩ (.bool nn)).setCell ⟨g, 15, none⟩ (.slice p n c)).setCell ⟨g, 16, none⟩ (.bool nd)).setCell ⟨g, 17, none⟩ (.slice q m e) = w.setRow g #[x0, x1, x2, x3, x4, x5, x6, x7, x8, x9, x10, x11, (.int .i64 a), (.int .i64 s), (.bool nn), (.slice p n c), (.bool nd), (.slice q m e)] := by rw [e4, setCell_eq_setRow _ g 17 _ t (0, 0) _ (hg.setRow _), setRow_setRow]; rfl
  have hrun : (execOp b.eval o).run Tryz.prog w = .ok .skip (w.setRow g #[x0, x1, x2, x3, x4, x5, x6, x7, x8, x9, x10, x11, .int .i64 a, .int .i64 s, .bool nn, .slice p n c, .bool nd, .slice q m e]) := by
    rw [← e5]
    unfold execOp
    simp only [ho, hx, hy]
    simp [go_sem, c0, f0, c1, f1, c2, f2, c3, f3, c4, f4, c5, f5]
  exact wp_of_skip hrun (hK _ _ h)
end
set_option maxRecDepth 100000 in
set_option maxHeartbeats 32000000 in
theorem rootOrder_walk (q00 q01 q02 q03 q10 q11 q12 q13 q20 q21 q22 q23 : Int) (w : World) (ht : Tab w) (r00 : -9223372036854775808 ≤ q00 ∧ q00 ≤ 9223372036854775807) (r02 : -9223372036854775808 ≤ q02 ∧ q02 ≤ 9223372036854775807) (r10 : -9223372036854775808 ≤ q10 ∧ q10 ≤ 9223372036854775807) (r12 : -9223372036854775808 ≤ q12 ∧ q12 ≤ 9223372036854775807) (r20 : -9223372036854775808 ≤ q20 ∧ q20 ≤ 9223372036854775807) (r22 : -9223372036854775808 ≤ q22 ∧ q22 ≤ 9223372036854775807) : Calls Tryz.prog 6 #[.agg #[.int .i64 q00, .int .i64 q01, .int .i64 q02, .int .i64 q03, .int .i64 q10, .int .i64 q11, .int .i64 q12, .int .i64 q13, .int .i64 q20, .int .i64 q21, .int .i64 q22, .int .i64 q23]] w fun e w' => e = .returned (.bool true) ∧ Ext w w' := by
  have E := Lib.hid (Ext.refl w)
  have T_ := Lib.hid ht
  have R00 := Lib.hid r00
  have R02 := Lib.hid r02
  have R10 := Lib.hid r10
  have R12 := Lib.hid r12
  have R20 := Lib.hid r20
  have R22 := Lib.hid r22
  have hn := rem_inM q20 (c := 1000) (by decide)
  obtain ⟨n, hnn⟩ : ∃ n, n = q20.tmod 1000 := ⟨_, rfl⟩
  rw [← hnn] at hn
  have HNN := Lib.hid hnn.symm
  have RN := Lib.hid hn
  clear ht r00 r02 r10 r12 r20 r22 hn hnn
  obtain ⟨W0a, hW0a⟩ : ∃ W0a, W0a = (w.alloc (.cells #[.int .i64 q00, .int .i64 q01, .int .i64 q02, .int .i64 q03, .int .i64 q10, .int .i64 q11, .int .i64 q12, .int .i64 q13, .int .i64 q20, .int .i64 q21, .int .i64 q22, .int .i64 q23] 51)) := ⟨_, rfl⟩
  have hx : Ext w W0a := by rw [hW0a]; exact (Ext.alloc _ _)
  have Q_n : RowAt W0a (w.heap.size) 51 #[.int .i64 q00, .int .i64 q01, .int .i64 q02, .int .i64 q03, .int .i64 q10, .int .i64 q11, .int .i64 q12, .int .i64 q13, .int .i64 q20, .int .i64 q21, .int .i64 q22, .int .i64 q23] := by rw [hW0a]; exact (RowAt.new' _ _ (by simp))
  have E1 := Lib.hid (E.out.trans hx)
  have T_1 := Lib.hid (hx.tab T_.out)
  clear E T_
  have Q_1 := Lib.hid Q_n
  have HW0a := Lib.hid hW0a
  clear hx hW0a Q_n
  go_enter Tryz.func6, Tryz.ntmps6
  go_wp2_with fail
  rw [← HW0a.out]
  refine (sanity2_calls W0a T_1.out).mono ?_
  rintro e w2_ ⟨rfl, hx⟩
  have E2 := Lib.hid (E1.out.trans hx)
  have T_2 := Lib.hid (hx.tab T_1.out)
  have Q_2 := Lib.hid (hx.row Q_1.out)
  clear E1 T_1 Q_1
  clear hx
  clear T_2
  have LT := Lib.hid Q_2.out.lt
  obtain ⟨W2a, hW2a⟩ : ∃ W2a, W2a = (w2_.alloc (.cells #[.int .i64 0, .int .i64 0, .bool false, .slice none 0 0, .bool false, .slice none 0 0, .int .i64 0, .int .i64 0, .bool false, .slice none 0 0, .bool false, .slice none 0 0, .int .i64 0, .int .i64 0, .bool false, .slice none 0 0, .bool false, .slice none 0 0] 47)) := ⟨_, rfl⟩
  have hx : Ext w2_ W2a := by rw [hW2a]; exact (Ext.alloc _ _)
  have L_n : RowAt W2a (w2_.heap.size) 47 #[.int .i64 0, .int .i64 0, .bool false, .slice none 0 0, .bool false, .slice none 0 0, .int .i64 0, .int .i64 0, .bool false, .slice none 0 0, .bool false, .slice none 0 0, .int .i64 0, .int .i64 0, .bool false, .slice none 0 0, .bool false, .slice none 0 0] := by rw [hW2a]; exact (RowAt.new' _ _ (by simp))
  have E3 := Lib.hid (E2.out.trans hx)
  have Q_3 := Lib.hid (hx.row Q_2.out)
  clear E2 Q_2
  have L_3 := Lib.hid L_n
  have HW2a := Lib.hid hW2a
  clear hx hW2a L_n
  go_wp2_with fail
  rw [← HW2a.out]
  refine wp_loop_rounds 4 ?_
  rw [rounds_succ]
  have cq00 := (show (W2a).cell? ⟨w.heap.size, 0, none⟩ = some (.int .i64 q00) from Q_3.out.cell 0)
  have cq01 := (show (W2a).cell? ⟨w.heap.size, 1, none⟩ = some (.int .i64 q01) from Q_3.out.cell 1)
  have cq02 := (show (W2a).cell? ⟨w.heap.size, 2, none⟩ = some (.int .i64 q02) from Q_3.out.cell 2)
  have cq03 := (show (W2a).cell? ⟨w.heap.size, 3, none⟩ = some (.int .i64 q03) from Q_3.out.cell 3)
  go_wp2_with fail
  refine (made_v q00 q01 q02 q03 W2a R00.out R02.out).mono ?_
  rintro e w4_ ⟨v0, A0, S0, N0, D0, rfl, hv, hr, hx⟩
  have E4 := Lib.hid (E3.out.trans hx)
  have Q_4 := Lib.hid (hx.row Q_3.out)
  have L_4 := Lib.hid (hx.row L_3.out)
  clear E3 Q_3 L_3
  have V04 := Lib.hid hv
  clear hx hv
  have RR0 := Lib.hid hr
  clear hr cq00 cq01 cq02 cq03
  obtain ⟨p0, m0, c0, q0, d0, e0, rfl, -, -⟩ := id V04.out
  obtain ⟨W4c, hW4c⟩ : ∃ W4c, W4c = w4_.setRow (w2_.heap.size) (#[.int .i64 A0, .int .i64 S0, .bool false, .slice p0 m0 c0, .bool false, .slice q0 d0 e0, .int .i64 0, .int .i64 0, .bool false, .slice none 0 0, .bool false, .slice none 0 0, .int .i64 0, .int .i64 0, .bool false, .slice none 0 0, .bool false, .slice none 0 0]) := ⟨_, rfl⟩
  have E5 : Hid (Ext w W4c) := by rw [hW4c]; exact ext_setRow E4.out (by have := LT.out; omega) _
  have Q_5 := Lib.hid (show RowAt W4c (w.heap.size) _ _ from by rw [hW4c]; exact Q_4.out.setRowOther _ (by have := LT.out; omega))
  have L_5 : Hid (RowAt W4c (w2_.heap.size) 47 (#[.int .i64 A0, .int .i64 S0, .bool false, .slice p0 m0 c0, .bool false, .slice q0 d0 e0, .int .i64 0, .int .i64 0, .bool false, .slice none 0 0, .bool false, .slice none 0 0, .int .i64 0, .int .i64 0, .bool false, .slice none 0 0, .bool false, .slice none 0 0])) := by rw [hW4c]; exact L_4.out.setRow _
  have V05 := Lib.hid (show RootV W4c _ _ _ _ _ from by rw [hW4c]; exact V04.out.setAny L_4.out rfl _)
  have HW4c := Lib.hid hW4c
  clear hW4c E4 Q_4 V04
  go_wp2_with (first | (refine store_ru0 rfl (.tmp 26) (.tmp 25) rfl (w2_.heap.size) rfl _ _ _ _ _ _ _ _ _ _ rfl _ _ _ _ _ _ _ _ _ _ _ _ _ _ _ _ _ _  _ L_4.out ?_; rw [← HW4c.out]))
  rw [rounds_succ]
  have cq10 := (show (W4c).cell? ⟨w.heap.size, 4, none⟩ = some (.int .i64 q10) from Q_5.out.cell 4)
  have cq11 := (show (W4c).cell? ⟨w.heap.size, 5, none⟩ = some (.int .i64 q11) from Q_5.out.cell 5)
  have cq12 := (show (W4c).cell? ⟨w.heap.size, 6, none⟩ = some (.int .i64 q12) from Q_5.out.cell 6)
  have cq13 := (show (W4c).cell? ⟨w.heap.size, 7, none⟩ = some (.int .i64 q13) from Q_5.out.cell 7)
  go_wp2_with fail
  refine (made_v q10 q11 q12 q13 W4c R10.out R12.out).mono ?_
  rintro e w6_ ⟨v1, A1, S1, N1, D1, rfl, hv, hr, hx⟩
  have E6 := Lib.hid (E5.out.trans hx)
  have Q_6 := Lib.hid (hx.row Q_5.out)
  have L_6 := Lib.hid (hx.row L_5.out)
  have V06 := Lib.hid (RootV.ext V05.out hx)
  clear E5 Q_5 L_5 V05
  have V16 := Lib.hid hv
  clear hx hv
  have RR1 := Lib.hid hr
  clear hr cq10 cq11 cq12 cq13
  obtain ⟨p1, m1, c1, q1, d1, e1, rfl, -, -⟩ := id V16.out
  obtain ⟨W6c, hW6c⟩ : ∃ W6c, W6c = w6_.setRow (w2_.heap.size) (#[.int .i64 A0, .int .i64 S0, .bool false, .slice p0 m0 c0, .bool false, .slice q0 d0 e0, .int .i64 A1, .int .i64 S1, .bool false, .slice p1 m1 c1, .bool false, .slice q1 d1 e1, .int .i64 0, .int .i64 0, .bool false, .slice none 0 0, .bool false, .slice none 0 0]) := ⟨_, rfl⟩
  have E7 : Hid (Ext w W6c) := by rw [hW6c]; exact ext_setRow E6.out (by have := LT.out; omega) _
  have Q_7 := Lib.hid (show RowAt W6c (w.heap.size) _ _ from by rw [hW6c]; exact Q_6.out.setRowOther _ (by have := LT.out; omega))
  have L_7 : Hid (RowAt W6c (w2_.heap.size) 47 (#[.int .i64 A0, .int .i64 S0, .bool false, .slice p0 m0 c0, .bool false, .slice q0 d0 e0, .int .i64 A1, .int .i64 S1, .bool false, .slice p1 m1 c1, .bool false, .slice q1 d1 e1, .int .i64 0, .int .i64 0, .bool false, .slice none 0 0, .bool false, .slice none 0 0])) := by rw [hW6c]; exact L_6.out.setRow _
  have V07 := Lib.hid (show RootV W6c _ _ _ _ _ from by rw [hW6c]; exact V06.out.setAny L_6.out rfl _)
  have V17 := Lib.hid (show RootV W6c _ _ _ _ _ from by rw [hW6c]; exact V16.out.setAny L_6.out rfl _)
  have HW6c := Lib.hid hW6c
  clear hW6c E6 Q_6 V06 V16
  go_wp2_with (first | (refine store_ru6 rfl (.tmp 26) (.tmp 25) rfl (w2_.heap.size) rfl _ _ _ _ _ _ _ _ _ _ rfl _ _ _ _ _ _ _ _ _ _ _ _ _ _ _ _ _ _  _ L_6.out ?_; rw [← HW6c.out]))
  rw [rounds_succ]
  have cq20 := (show (W6c).cell? ⟨w.heap.size, 8, none⟩ = some (.int .i64 q20) from Q_7.out.cell 8)
  have cq21 := (show (W6c).cell? ⟨w.heap.size, 9, none⟩ = some (.int .i64 q21) from Q_7.out.cell 9)
  have cq22 := (show (W6c).cell? ⟨w.heap.size, 10, none⟩ = some (.int .i64 q22) from Q_7.out.cell 10)
  have cq23 := (show (W6c).cell? ⟨w.heap.size, 11, none⟩ = some (.int .i64 q23) from Q_7.out.cell 11)
  go_wp2_with fail
  refine (made_v q20 q21 q22 q23 W6c R20.out R22.out).mono ?_
  rintro e w8_ ⟨v2, A2, S2, N2, D2, rfl, hv, hr, hx⟩
  have E8 := Lib.hid (E7.out.trans hx)
  have Q_8 := Lib.hid (hx.row Q_7.out)
  have L_8 := Lib.hid (hx.row L_7.out)
  have V08 := Lib.hid (RootV.ext V07.out hx)
  have V18 := Lib.hid (RootV.ext V17.out hx)
  clear E7 Q_7 L_7 V07 V17
  have V28 := Lib.hid hv
  clear hx hv
  have RR2 := Lib.hid hr
  clear hr cq20 cq21 cq22 cq23
  obtain ⟨p2, m2, c2, q2, d2, e2, rfl, -, -⟩ := id V28.out
  obtain ⟨W8c, hW8c⟩ : ∃ W8c, W8c = w8_.setRow (w2_.heap.size) (#[.int .i64 A0, .int .i64 S0, .bool false, .slice p0 m0 c0, .bool false, .slice q0 d0 e0, .int .i64 A1, .int .i64 S1, .bool false, .slice p1 m1 c1, .bool false, .slice q1 d1 e1, .int .i64 A2, .int .i64 S2, .bool false, .slice p2 m2 c2, .bool false, .slice q2 d2 e2]) := ⟨_, rfl⟩
  have E9 : Hid (Ext w W8c) := by rw [hW8c]; exact ext_setRow E8.out (by have := LT.out; omega) _
  have Q_9 := Lib.hid (show RowAt W8c (w.heap.size) _ _ from by rw [hW8c]; exact Q_8.out.setRowOther _ (by have := LT.out; omega))
  have L_9 : Hid (RowAt W8c (w2_.heap.size) 47 (#[.int .i64 A0, .int .i64 S0, .bool false, .slice p0 m0 c0, .bool false, .slice q0 d0 e0, .int .i64 A1, .int .i64 S1, .bool false, .slice p1 m1 c1, .bool false, .slice q1 d1 e1, .int .i64 A2, .int .i64 S2, .bool false, .slice p2 m2 c2, .bool false, .slice q2 d2 e2])) := by rw [hW8c]; exact L_8.out.setRow _
  have V09 := Lib.hid (show RootV W8c _ _ _ _ _ from by rw [hW8c]; exact V08.out.setAny L_8.out rfl _)
  have V19 := Lib.hid (show RootV W8c _ _ _ _ _ from by rw [hW8c]; exact V18.out.setAny L_8.out rfl _)
  have V29 := Lib.hid (show RootV W8c _ _ _ _ _ from by rw [hW8c]; exact V28.out.setAny L_8.out rfl _)
  have HW8c := Lib.hid hW8c
  clear hW8c E8 Q_8 V08 V18 V28
  go_wp2_with (first | (refine store_ru12 rfl (.tmp 26) (.tmp 25) rfl (w2_.heap.size) rfl _ _ _ _ _ _ _ _ _ _ rfl _ _ _ _ _ _ _ _ _ _ _ _ _ _ _ _ _ _  _ L_8.out ?_; rw [← HW8c.out]))
  rw [rounds_succ]
  obtain ⟨a, ha⟩ : ∃ a, RM.cmpZ A0 S0 N0 D0 A1 S1 N1 D1 = a := ⟨_, rfl⟩
  obtain ⟨bb, hb⟩ : ∃ a, RM.cmpZ A1 S1 N1 D1 A2 S2 N2 D2 = a := ⟨_, rfl⟩
  obtain ⟨cc, hc⟩ : ∃ a, RM.cmpZ A0 S0 N0 D0 A2 S2 N2 D2 = a := ⟨_, rfl⟩
  have ho := ord3_of RR0.out RR1.out RR2.out
  rw [ha, hb, hc] at ho
  have HO := Lib.hid ho.1
  have HBA := Lib.hid ho.2.1
  have HAA := Lib.hid ho.2.2
  have HA := Lib.hid ha
  have HB := Lib.hid hb
  have HC := Lib.hid hc
  clear ha hb hc ho
  have cl00 := (show (W8c).cell? ⟨w2_.heap.size, 0, none⟩ = some (.int .i64 A0) from L_9.out.cell 0)
  have cl01 := (show (W8c).cell? ⟨w2_.heap.size, 1, none⟩ = some (.int .i64 S0) from L_9.out.cell 1)
  have cl02 := (show (W8c).cell? ⟨w2_.heap.size, 2, none⟩ = some (.bool false) from L_9.out.cell 2)
  have cl03 := (show (W8c).cell? ⟨w2_.heap.size, 3, none⟩ = some (.slice p0 m0 c0) from L_9.out.cell 3)
  have cl04 := (show (W8c).cell? ⟨w2_.heap.size, 4, none⟩ = some (.bool false) from L_9.out.cell 4)
  have cl05 := (show (W8c).cell? ⟨w2_.heap.size, 5, none⟩ = some (.slice q0 d0 e0) from L_9.out.cell 5)
  have cl10 := (show (W8c).cell? ⟨w2_.heap.size, 6, none⟩ = some (.int .i64 A1) from L_9.out.cell 6)
  have cl11 := (show (W8c).cell? ⟨w2_.heap.size, 7, none⟩ = some (.int .i64 S1) from L_9.out.cell 7)
  have cl12 := (show (W8c).cell? ⟨w2_.heap.size, 8, none⟩ = some (.bool false) from L_9.out.cell 8)
  have cl13 := (show (W8c).cell? ⟨w2_.heap.size, 9, none⟩ = some (.slice p1 m1 c1) from L_9.out.cell 9)
  have cl14 := (show (W8c).cell? ⟨w2_.heap.size, 10, none⟩ = some (.bool false) from L_9.out.cell 10)
  have cl15 := (show (W8c).cell? ⟨w2_.heap.size, 11, none⟩ = some (.slice q1 d1 e1) from L_9.out.cell 11)
  go_wp2_with fail
  refine (cmp_is2 _ _ _ _ _ _ _ _ _ _ a W8c V09.out V19.out RR0.out RR1.out HA.out).mono ?_
  rintro e w10_ ⟨rfl, hx⟩
  have E10 := Lib.hid (E9.out.trans hx)
  have Q_10 := Lib.hid (hx.row Q_9.out)
  have L_10 := Lib.hid (hx.row L_9.out)
  have V010 := Lib.hid (RootV.ext V09.out hx)
  have V110 := Lib.hid (RootV.ext V19.out hx)
  have V210 := Lib.hid (RootV.ext V29.out hx)
  clear E9 Q_9 L_9 V09 V19 V29
  clear hx
  clear cl00 cl01 cl02 cl03 cl04 cl05 cl10 cl11 cl12 cl13 cl14 cl15
  have cl10 := (show (w10_).cell? ⟨w2_.heap.size, 6, none⟩ = some (.int .i64 A1) from L_10.out.cell 6)
  have cl11 := (show (w10_).cell? ⟨w2_.heap.size, 7, none⟩ = some (.int .i64 S1) from L_10.out.cell 7)
  have cl12 := (show (w10_).cell? ⟨w2_.heap.size, 8, none⟩ = some (.bool false) from L_10.out.cell 8)
  have cl13 := (show (w10_).cell? ⟨w2_.heap.size, 9, none⟩ = some (.slice p1 m1 c1) from L_10.out.cell 9)
  have cl14 := (show (w10_).cell? ⟨w2_.heap.size, 10, none⟩ = some (.bool false) from L_10.out.cell 10)
  have cl15 := (show (w10_).cell? ⟨w2_.heap.size, 11, none⟩ = some (.slice q1 d1 e1) from L_10.out.cell 11)
  have cl20 := (show (w10_).cell? ⟨w2_.heap.size, 12, none⟩ = some (.int .i64 A2) from L_10.out.cell 12)
  have cl21 := (show (w10_).cell? ⟨w2_.heap.size, 13, none⟩ = some (.int .i64 S2) from L_10.out.cell 13)
  have cl22 := (show (w10_).cell? ⟨w2_.heap.size, 14, none⟩ = some (.bool false) from L_10.out.cell 14)
  have cl23 := (show (w10_).cell? ⟨w2_.heap.size, 15, none⟩ = some (.slice p2 m2 c2) from L_10.out.cell 15)
  have cl24 := (show (w10_).cell? ⟨w2_.heap.size, 16, none⟩ = some (.bool false) from L_10.out.cell 16)
  have cl25 := (show (w10_).cell? ⟨w2_.heap.size, 17, none⟩ = some (.slice q2 d2 e2) from L_10.out.cell 17)
  go_wp2_with fail
  refine (cmp_is2 _ _ _ _ _ _ _ _ _ _ bb w10_ V110.out V210.out RR1.out RR2.out HB.out).mono ?_
  rintro e w11_ ⟨rfl, hx⟩
  have E11 := Lib.hid (E10.out.trans hx)
  have Q_11 := Lib.hid (hx.row Q_10.out)
  have L_11 := Lib.hid (hx.row L_10.out)
  have V011 := Lib.hid (RootV.ext V010.out hx)
  have V111 := Lib.hid (RootV.ext V110.out hx)
  have V211 := Lib.hid (RootV.ext V210.out hx)
  clear E10 Q_10 L_10 V010 V110 V210
  clear hx
  clear cl10 cl11 cl12 cl13 cl14 cl15 cl20 cl21 cl22 cl23 cl24 cl25
  have cl00 := (show (w11_).cell? ⟨w2_.heap.size, 0, none⟩ = some (.int .i64 A0) from L_11.out.cell 0)
  have cl01 := (show (w11_).cell? ⟨w2_.heap.size, 1, none⟩ = some (.int .i64 S0) from L_11.out.cell 1)
  have cl02 := (show (w11_).cell? ⟨w2_.heap.size, 2, none⟩ = some (.bool false) from L_11.out.cell 2)
  have cl03 := (show (w11_).cell? ⟨w2_.heap.size, 3, none⟩ = some (.slice p0 m0 c0) from L_11.out.cell 3)
  have cl04 := (show (w11_).cell? ⟨w2_.heap.size, 4, none⟩ = some (.bool false) from L_11.out.cell 4)
  have cl05 := (show (w11_).cell? ⟨w2_.heap.size, 5, none⟩ = some (.slice q0 d0 e0) from L_11.out.cell 5)
  have cl20 := (show (w11_).cell? ⟨w2_.heap.size, 12, none⟩ = some (.int .i64 A2) from L_11.out.cell 12)
  have cl21 := (show (w11_).cell? ⟨w2_.heap.size, 13, none⟩ = some (.int .i64 S2) from L_11.out.cell 13)
  have cl22 := (show (w11_).cell? ⟨w2_.heap.size, 14, none⟩ = some (.bool false) from L_11.out.cell 14)
  have cl23 := (show (w11_).cell? ⟨w2_.heap.size, 15, none⟩ = some (.slice p2 m2 c2) from L_11.out.cell 15)
  have cl24 := (show (w11_).cell? ⟨w2_.heap.size, 16, none⟩ = some (.bool false) from L_11.out.cell 16)
  have cl25 := (show (w11_).cell? ⟨w2_.heap.size, 17, none⟩ = some (.slice q2 d2 e2) from L_11.out.cell 17)
  go_wp2_with fail
  refine (cmp_is2 _ _ _ _ _ _ _ _ _ _ cc w11_ V011.out V211.out RR0.out RR2.out HC.out).mono ?_
  rintro e w12_ ⟨rfl, hx⟩
  have E12 := Lib.hid (E11.out.trans hx)
  have Q_12 := Lib.hid (hx.row Q_11.out)
  have L_12 := Lib.hid (hx.row L_11.out)
  have V012 := Lib.hid (RootV.ext V011.out hx)
  have V112 := Lib.hid (RootV.ext V111.out hx)
  have V212 := Lib.hid (RootV.ext V211.out hx)
  clear E11 Q_11 L_11 V011 V111 V211
  clear hx
  clear cl00 cl01 cl02 cl03 cl04 cl05 cl20 cl21 cl22 cl23 cl24 cl25
  go_upto_region 10 with (fail)
  go_cut [63] from 42 to 63 (fun v wc => v = .bool false ∧ Ext w12_ wc)
  case first =>
    have C_ := Lib.hid (Ext.refl w12_)
    have cl00 := (show (w12_).cell? ⟨w2_.heap.size, 0, none⟩ = some (.int .i64 A0) from L_12.out.cell 0)
    have cl01 := (show (w12_).cell? ⟨w2_.heap.size, 1, none⟩ = some (.int .i64 S0) from L_12.out.cell 1)
    have cl02 := (show (w12_).cell? ⟨w2_.heap.size, 2, none⟩ = some (.bool false) from L_12.out.cell 2)
    have cl03 := (show (w12_).cell? ⟨w2_.heap.size, 3, none⟩ = some (.slice p0 m0 c0) from L_12.out.cell 3)
    have cl04 := (show (w12_).cell? ⟨w2_.heap.size, 4, none⟩ = some (.bool false) from L_12.out.cell 4)
    have cl05 := (show (w12_).cell? ⟨w2_.heap.size, 5, none⟩ = some (.slice q0 d0 e0) from L_12.out.cell 5)
    have cl10 := (show (w12_).cell? ⟨w2_.heap.size, 6, none⟩ = some (.int .i64 A1) from L_12.out.cell 6)
    have cl11 := (show (w12_).cell? ⟨w2_.heap.size, 7, none⟩ = some (.int .i64 S1) from L_12.out.cell 7)
    have cl12 := (show (w12_).cell? ⟨w2_.heap.size, 8, none⟩ = some (.bool false) from L_12.out.cell 8)
    have cl13 := (show (w12_).cell? ⟨w2_.heap.size, 9, none⟩ = some (.slice p1 m1 c1) from L_12.out.cell 9)
    have cl14 := (show (w12_).cell? ⟨w2_.heap.size, 10, none⟩ = some (.bool false) from L_12.out.cell 10)
    have cl15 := (show (w12_).cell? ⟨w2_.heap.size, 11, none⟩ = some (.slice q1 d1 e1) from L_12.out.cell 11)
    have h3 := HO.out.1
    rcases h3 with rfl | rfl | rfl
    all_goals
      go_wp2_with fail
      refine (cmp_is2 _ _ _ _ _ _ _ _ _ _ _ w12_ V112.out V012.out RR1.out RR0.out HBA.out).mono ?_
      rintro e w13_ ⟨rfl, hx⟩
      have E13 := Lib.hid (E12.out.trans hx)
      have Q_13 := Lib.hid (hx.row Q_12.out)
      have L_13 := Lib.hid (hx.row L_12.out)
      have V013 := Lib.hid (RootV.ext V012.out hx)
      have V113 := Lib.hid (RootV.ext V112.out hx)
      have V213 := Lib.hid (RootV.ext V212.out hx)
      have C_13 := Lib.hid (C_.out.trans hx)
      clear E12 Q_12 L_12 V012 V112 V212 C_
      clear hx
      clear cl00 cl01 cl02 cl03 cl04 cl05 cl10 cl11 cl12 cl13 cl14 cl15
      have cl00 := (show (w13_).cell? ⟨w2_.heap.size, 0, none⟩ = some (.int .i64 A0) from L_13.out.cell 0)
      have cl01 := (show (w13_).cell? ⟨w2_.heap.size, 1, none⟩ = some (.int .i64 S0) from L_13.out.cell 1)
      have cl02 := (show (w13_).cell? ⟨w2_.heap.size, 2, none⟩ = some (.bool false) from L_13.out.cell 2)
      have cl03 := (show (w13_).cell? ⟨w2_.heap.size, 3, none⟩ = some (.slice p0 m0 c0) from L_13.out.cell 3)
      have cl04 := (show (w13_).cell? ⟨w2_.heap.size, 4, none⟩ = some (.bool false) from L_13.out.cell 4)
      have cl05 := (show (w13_).cell? ⟨w2_.heap.size, 5, none⟩ = some (.slice q0 d0 e0) from L_13.out.cell 5)
      go_wp2_with fail
      refine (cmp_is2 _ _ _ _ _ _ _ _ _ _ 0 w13_ V013.out V013.out RR0.out RR0.out HAA.out).mono ?_
      rintro e w14_ ⟨rfl, hx⟩
      have E14 := Lib.hid (E13.out.trans hx)
      have Q_14 := Lib.hid (hx.row Q_13.out)
      have L_14 := Lib.hid (hx.row L_13.out)
      have V014 := Lib.hid (RootV.ext V013.out hx)
      have V114 := Lib.hid (RootV.ext V113.out hx)
      have V214 := Lib.hid (RootV.ext V213.out hx)
      have C_14 := Lib.hid (C_13.out.trans hx)
      clear E13 Q_13 L_13 V013 V113 V213 C_13
      clear hx
      clear cl00 cl01 cl02 cl03 cl04 cl05
      go_wp2_with fail
      go_meet
      exact ⟨rfl, C_14.out⟩
  case rest =>
    obtain ⟨rfl, hx⟩ := hcut
    have E16 := Lib.hid (E12.out.trans hx)
    have Q_16 := Lib.hid (hx.row Q_12.out)
    have L_16 := Lib.hid (hx.row L_12.out)
    have V016 := Lib.hid (RootV.ext V012.out hx)
    have V116 := Lib.hid (RootV.ext V112.out hx)
    have V216 := Lib.hid (RootV.ext V212.out hx)
    clear E12 Q_12 L_12 V012 V112 V212
    clear hx
    go_upto_region 12 with (fail)
    go_cut [109] from 64 to 109 (fun v wd => v = .bool false ∧ wd = wc)
    case first =>
      obtain ⟨h1, h2, h3, h4, h5⟩ := HO.out
      rcases h1 with rfl | rfl | rfl <;> rcases h2 with rfl | rfl | rfl <;> rcases h3 with rfl | rfl | rfl
      all_goals first | (exfalso; omega) | (clear h4 h5; go_wp2_with fail; go_meet; exact ⟨rfl, rfl⟩)
    case rest =>
      obtain ⟨rfl, rfl⟩ := hcut
      have cq := (show (wc).cell? ⟨w.heap.size, 8, none⟩ = some (.int .i64 q20) from Q_16.out.cell 8)
      go_upto_region 15 with (fail)
      clear cq
      rw [HNN.out]
      obtain ⟨sn, hsn⟩ : ∃ s, (-n).sign = s := ⟨_, rfl⟩
      have HSN := Lib.hid hsn
      clear hsn
      obtain ⟨t0, ht0⟩ : ∃ t, t = A0 + n := ⟨_, rfl⟩
      obtain ⟨t1, ht1⟩ : ∃ t, t = A1 + n := ⟨_, rfl⟩
      have HT0 := Lib.hid ht0
      have HT1 := Lib.hid ht1
      clear ht0 ht1
      have hneg : wrap64 (-n) = -n := by have := RN.out; unfold wrap64; omega
      have HNEG := Lib.hid hneg
      clear hneg
      by_cases h0 : (-9223372036854775808 ≤ t0 ∧ t0 ≤ 9223372036854775807)
      · have HI0 := Lib.hid h0
        clear h0
        by_cases h1 : (-9223372036854775808 ≤ t1 ∧ t1 ≤ 9223372036854775807)
        · have HI1 := Lib.hid h1
          clear h1
          have cl00 := (show (wc).cell? ⟨w2_.heap.size, 0, none⟩ = some (.int .i64 A0) from L_16.out.cell 0)
          have cl01 := (show (wc).cell? ⟨w2_.heap.size, 1, none⟩ = some (.int .i64 S0) from L_16.out.cell 1)
          have cl02 := (show (wc).cell? ⟨w2_.heap.size, 2, none⟩ = some (.bool false) from L_16.out.cell 2)
          have cl03 := (show (wc).cell? ⟨w2_.heap.size, 3, none⟩ = some (.slice p0 m0 c0) from L_16.out.cell 3)
          have cl04 := (show (wc).cell? ⟨w2_.heap.size, 4, none⟩ = some (.bool false) from L_16.out.cell 4)
          have cl05 := (show (wc).cell? ⟨w2_.heap.size, 5, none⟩ = some (.slice q0 d0 e0) from L_16.out.cell 5)
          go_wp2_with fail
          refine (plus_in _ A0 S0 N0 D0 n wc V016.out RR0.out (by have := RN.out; omega) (by have := HI0.out; have := HT0.out; omega)).mono ?_
          rintro e w17_ ⟨r0, rfl, hv, hx⟩
          have E17 := Lib.hid (E16.out.trans hx)
          have Q_17 := Lib.hid (hx.row Q_16.out)
          have L_17 := Lib.hid (hx.row L_16.out)
          have V017 := Lib.hid (RootV.ext V016.out hx)
          have V117 := Lib.hid (RootV.ext V116.out hx)
          have V217 := Lib.hid (RootV.ext V216.out hx)
          clear E16 Q_16 L_16 V016 V116 V216
          clear hx
          clear cl00 cl01 cl02 cl03 cl04 cl05
          rw [← HT0.out] at hv
          have XV17 := Lib.hid hv
          clear hv
          obtain ⟨Xp, Xm, Xc, Xq, Xd, Xe, rfl, -, -⟩ := id XV17.out
          obtain ⟨W17b, hW17b⟩ : ∃ W17b, W17b = (w17_.alloc (.cells #[.int .i64 0, .int .i64 0, .bool false, .slice none 0 0, .bool false, .slice none 0 0] 32)).setRow w17_.heap.size (rootCells t0 S0 false Xp Xm Xc false Xq Xd Xe) := ⟨_, rfl⟩
          have hx : Ext w17_ W17b := by rw [hW17b]; exact ext_setRow (Ext.alloc _ _) (Nat.le_refl _) _
          have X_n : RowAt W17b w17_.heap.size 32 (rootCells t0 S0 false Xp Xm Xc false Xq Xd Xe) := by rw [hW17b]; exact (RowAt.new _ _ _).setRow _
          have E18 := Lib.hid (E17.out.trans hx)
          have Q_18 := Lib.hid (hx.row Q_17.out)
          have L_18 := Lib.hid (hx.row L_17.out)
          have V018 := Lib.hid (RootV.ext V017.out hx)
          have V118 := Lib.hid (RootV.ext V117.out hx)
          have V218 := Lib.hid (RootV.ext V217.out hx)
          have XV18 := Lib.hid (RootV.ext XV17.out hx)
          clear E17 Q_17 L_17 V017 V117 V217 XV17
          have X_18 := Lib.hid X_n
          have HW17b := Lib.hid hW17b
          clear hx hW17b X_n
          have cl10 := (show (W17b).cell? ⟨w2_.heap.size, 6, none⟩ = some (.int .i64 A1) from L_18.out.cell 6)
          have cl11 := (show (W17b).cell? ⟨w2_.heap.size, 7, none⟩ = some (.int .i64 S1) from L_18.out.cell 7)
          have cl12 := (show (W17b).cell? ⟨w2_.heap.size, 8, none⟩ = some (.bool false) from L_18.out.cell 8)
          have cl13 := (show (W17b).cell? ⟨w2_.heap.size, 9, none⟩ = some (.slice p1 m1 c1) from L_18.out.cell 9)
          have cl14 := (show (W17b).cell? ⟨w2_.heap.size, 10, none⟩ = some (.bool false) from L_18.out.cell 10)
          have cl15 := (show (W17b).cell? ⟨w2_.heap.size, 11, none⟩ = some (.slice q1 d1 e1) from L_18.out.cell 11)
          go_wp2_with (first | (refine store_root rfl (.tmp 10) (.tmp 119) rfl w17_.heap.size rfl _ _ _ _ _ _ _ _ _ _ rfl _ _ (RowAt.new' _ _ rfl) rfl ?_; rw [← HW17b.out]))
          refine (plus_in _ A1 S1 N1 D1 n W17b V118.out RR1.out (by have := RN.out; omega) (by have := HI1.out; have := HT1.out; omega)).mono ?_
          rintro e w19_ ⟨r1, rfl, hv, hx⟩
          have E19 := Lib.hid (E18.out.trans hx)
          have Q_19 := Lib.hid (hx.row Q_18.out)
          have L_19 := Lib.hid (hx.row L_18.out)
          have V019 := Lib.hid (RootV.ext V018.out hx)
          have V119 := Lib.hid (RootV.ext V118.out hx)
          have V219 := Lib.hid (RootV.ext V218.out hx)
          have XV19 := Lib.hid (RootV.ext XV18.out hx)
          have X_19 := Lib.hid (hx.row X_18.out)
          clear E18 Q_18 L_18 V018 V118 V218 XV18 X_18
          clear hx
          clear cl10 cl11 cl12 cl13 cl14 cl15
          rw [← HT1.out] at hv
          have YV19 := Lib.hid hv
          clear hv
          obtain ⟨Yp, Ym, Yc, Yq, Yd, Ye, rfl, -, -⟩ := id YV19.out
          obtain ⟨W19b, hW19b⟩ : ∃ W19b, W19b = (w19_.alloc (.cells #[.int .i64 0, .int .i64 0, .bool false, .slice none 0 0, .bool false, .slice none 0 0] 32)).setRow w19_.heap.size (rootCells t1 S1 false Yp Ym Yc false Yq Yd Ye) := ⟨_, rfl⟩
          have hx : Ext w19_ W19b := by rw [hW19b]; exact ext_setRow (Ext.alloc _ _) (Nat.le_refl _) _
          have Y_n : RowAt W19b w19_.heap.size 32 (rootCells t1 S1 false Yp Ym Yc false Yq Yd Ye) := by rw [hW19b]; exact (RowAt.new _ _ _).setRow _
          have E20 := Lib.hid (E19.out.trans hx)
          have Q_20 := Lib.hid (hx.row Q_19.out)
          have L_20 := Lib.hid (hx.row L_19.out)
          have V020 := Lib.hid (RootV.ext V019.out hx)
          have V120 := Lib.hid (RootV.ext V119.out hx)
          have V220 := Lib.hid (RootV.ext V219.out hx)
          have XV20 := Lib.hid (RootV.ext XV19.out hx)
          have X_20 := Lib.hid (hx.row X_19.out)
          have YV20 := Lib.hid (RootV.ext YV19.out hx)
          clear E19 Q_19 L_19 V019 V119 V219 XV19 X_19 YV19
          have Y_20 := Lib.hid Y_n
          have HW19b := Lib.hid hW19b
          clear hx hW19b Y_n
          have hneg := HNEG.out
          have cx0 := X_20.out.root0
          have cx1 := X_20.out.root1
          have cx2 := X_20.out.root2
          have cx3 := X_20.out.root3
          have cx4 := X_20.out.root4
          have cx5 := X_20.out.root5
          go_wp2_with (first | (refine store_root rfl (.tmp 12) (.tmp 126) rfl w19_.heap.size rfl _ _ _ _ _ _ _ _ _ _ rfl _ _ (RowAt.new' _ _ rfl) rfl ?_; rw [← HW19b.out]))
          refine (plus_in _ t0 S0 N0 D0 (-n) W19b XV20.out (RtR.shift RR0.out HI0.out) (by have := RN.out; omega) (by have := RR0.out.a1; have := HT0.out; omega)).mono ?_
          rintro e w21_ ⟨rb, rfl, hv, hx⟩
          have E21 := Lib.hid (E20.out.trans hx)
          have Q_21 := Lib.hid (hx.row Q_20.out)
          have L_21 := Lib.hid (hx.row L_20.out)
          have V021 := Lib.hid (RootV.ext V020.out hx)
          have V121 := Lib.hid (RootV.ext V120.out hx)
          have V221 := Lib.hid (RootV.ext V220.out hx)
          have XV21 := Lib.hid (RootV.ext XV20.out hx)
          have X_21 := Lib.hid (hx.row X_20.out)
          have YV21 := Lib.hid (RootV.ext YV20.out hx)
          have Y_21 := Lib.hid (hx.row Y_20.out)
          clear E20 Q_20 L_20 V020 V120 V220 XV20 X_20 YV20 Y_20
          clear hx
          clear hneg cx0 cx1 cx2 cx3 cx4 cx5
          rw [show t0 + -n = A0 by have := HT0.out; omega] at hv
          have BV21 := Lib.hid hv
          clear hv
          obtain ⟨Bp, Bm, Bc, Bq, Bd, Be, rfl, -, -⟩ := id BV21.out
          obtain ⟨W21b, hW21b⟩ : ∃ W21b, W21b = (w21_.alloc (.cells #[.int .i64 0, .int .i64 0, .bool false, .slice none 0 0, .bool false, .slice none 0 0] 32)).setRow w21_.heap.size (rootCells A0 S0 false Bp Bm Bc false Bq Bd Be) := ⟨_, rfl⟩
          have hx : Ext w21_ W21b := by rw [hW21b]; exact ext_setRow (Ext.alloc _ _) (Nat.le_refl _) _
          have B_n : RowAt W21b w21_.heap.size 32 (rootCells A0 S0 false Bp Bm Bc false Bq Bd Be) := by rw [hW21b]; exact (RowAt.new _ _ _).setRow _
          have E22 := Lib.hid (E21.out.trans hx)
          have Q_22 := Lib.hid (hx.row Q_21.out)
          have L_22 := Lib.hid (hx.row L_21.out)
          have V022 := Lib.hid (RootV.ext V021.out hx)
          have V122 := Lib.hid (RootV.ext V121.out hx)
          have V222 := Lib.hid (RootV.ext V221.out hx)
          have XV22 := Lib.hid (RootV.ext XV21.out hx)
          have X_22 := Lib.hid (hx.row X_21.out)
          have YV22 := Lib.hid (RootV.ext YV21.out hx)
          have Y_22 := Lib.hid (hx.row Y_21.out)
          have BV22 := Lib.hid (RootV.ext BV21.out hx)
          clear E21 Q_21 L_21 V021 V121 V221 XV21 X_21 YV21 Y_21 BV21
          have B_22 := Lib.hid B_n
          have HW21b := Lib.hid hW21b
          clear hx hW21b B_n
          have cX0 := X_22.out.root0
          have cX1 := X_22.out.root1
          have cX2 := X_22.out.root2
          have cX3 := X_22.out.root3
          have cX4 := X_22.out.root4
          have cX5 := X_22.out.root5
          have cY0 := Y_22.out.root0
          have cY1 := Y_22.out.root1
          have cY2 := Y_22.out.root2
          have cY3 := Y_22.out.root3
          have cY4 := Y_22.out.root4
          have cY5 := Y_22.out.root5
          go_wp2_with (first | (refine store_root rfl (.tmp 14) (.tmp 140) rfl w21_.heap.size rfl _ _ _ _ _ _ _ _ _ _ rfl _ _ (RowAt.new' _ _ rfl) rfl ?_; rw [← HW21b.out]))
          refine (cmp_is2 _ _ _ _ _ _ _ _ _ _ a W21b XV22.out YV22.out (RtR.shift RR0.out HI0.out) (RtR.shift RR1.out HI1.out) (by rw [HT0.out, HT1.out, RM.cmpZ_shift]; exact HA.out)).mono ?_
          rintro e w23_ ⟨rfl, hx⟩
          have E23 := Lib.hid (E22.out.trans hx)
          have Q_23 := Lib.hid (hx.row Q_22.out)
          have L_23 := Lib.hid (hx.row L_22.out)
          have V023 := Lib.hid (RootV.ext V022.out hx)
          have V123 := Lib.hid (RootV.ext V122.out hx)
          have V223 := Lib.hid (RootV.ext V222.out hx)
          have XV23 := Lib.hid (RootV.ext XV22.out hx)
          have X_23 := Lib.hid (hx.row X_22.out)
          have YV23 := Lib.hid (RootV.ext YV22.out hx)
          have Y_23 := Lib.hid (hx.row Y_22.out)
          have BV23 := Lib.hid (RootV.ext BV22.out hx)
          have B_23 := Lib.hid (hx.row B_22.out)
          clear E22 Q_22 L_22 V022 V122 V222 XV22 X_22 YV22 Y_22 BV22 B_22
          clear hx
          clear cX0 cX1 cX2 cX3 cX4 cX5 cY0 cY1 cY2 cY3 cY4 cY5
          have cl00 := (show (w23_).cell? ⟨w2_.heap.size, 0, none⟩ = some (.int .i64 A0) from L_23.out.cell 0)
          have cl01 := (show (w23_).cell? ⟨w2_.heap.size, 1, none⟩ = some (.int .i64 S0) from L_23.out.cell 1)
          have cl02 := (show (w23_).cell? ⟨w2_.heap.size, 2, none⟩ = some (.bool false) from L_23.out.cell 2)
          have cl03 := (show (w23_).cell? ⟨w2_.heap.size, 3, none⟩ = some (.slice p0 m0 c0) from L_23.out.cell 3)
          have cl04 := (show (w23_).cell? ⟨w2_.heap.size, 4, none⟩ = some (.bool false) from L_23.out.cell 4)
          have cl05 := (show (w23_).cell? ⟨w2_.heap.size, 5, none⟩ = some (.slice q0 d0 e0) from L_23.out.cell 5)
          have cB0 := B_23.out.root0
          have cB1 := B_23.out.root1
          have cB2 := B_23.out.root2
          have cB3 := B_23.out.root3
          have cB4 := B_23.out.root4
          have cB5 := B_23.out.root5
          go_wp2_with fail
          refine (rsame_eq _ _ A0 S0 N0 D0 w23_ BV23.out V023.out).mono ?_
          rintro e w24_ ⟨rfl, hx⟩
          have E24 := Lib.hid (E23.out.trans hx)
          have Q_24 := Lib.hid (hx.row Q_23.out)
          have L_24 := Lib.hid (hx.row L_23.out)
          have V024 := Lib.hid (RootV.ext V023.out hx)
          have V124 := Lib.hid (RootV.ext V123.out hx)
          have V224 := Lib.hid (RootV.ext V223.out hx)
          have XV24 := Lib.hid (RootV.ext XV23.out hx)
          have X_24 := Lib.hid (hx.row X_23.out)
          have YV24 := Lib.hid (RootV.ext YV23.out hx)
          have Y_24 := Lib.hid (hx.row Y_23.out)
          have BV24 := Lib.hid (RootV.ext BV23.out hx)
          have B_24 := Lib.hid (hx.row B_23.out)
          clear E23 Q_23 L_23 V023 V123 V223 XV23 X_23 YV23 Y_23 BV23 B_23
          clear hx
          clear cl00 cl01 cl02 cl03 cl04 cl05 cB0 cB1 cB2 cB3 cB4 cB5
          have cl00 := (show (w24_).cell? ⟨w2_.heap.size, 0, none⟩ = some (.int .i64 A0) from L_24.out.cell 0)
          have cl01 := (show (w24_).cell? ⟨w2_.heap.size, 1, none⟩ = some (.int .i64 S0) from L_24.out.cell 1)
          have cl02 := (show (w24_).cell? ⟨w2_.heap.size, 2, none⟩ = some (.bool false) from L_24.out.cell 2)
          have cl03 := (show (w24_).cell? ⟨w2_.heap.size, 3, none⟩ = some (.slice p0 m0 c0) from L_24.out.cell 3)
          have cl04 := (show (w24_).cell? ⟨w2_.heap.size, 4, none⟩ = some (.bool false) from L_24.out.cell 4)
          have cl05 := (show (w24_).cell? ⟨w2_.heap.size, 5, none⟩ = some (.slice q0 d0 e0) from L_24.out.cell 5)
          have cX0 := X_24.out.root0
          have cX1 := X_24.out.root1
          have cX2 := X_24.out.root2
          have cX3 := X_24.out.root3
          have cX4 := X_24.out.root4
          have cX5 := X_24.out.root5
          go_wp2_with fail
          refine (cmp_is2 _ _ _ _ _ _ _ _ _ _ sn w24_ V024.out XV24.out RR0.out (RtR.shift RR0.out HI0.out) (by rw [HT0.out, cmp_add RR0.out]; exact HSN.out)).mono ?_
          rintro e w25_ ⟨rfl, hx⟩
          have E25 := Lib.hid (E24.out.trans hx)
          have Q_25 := Lib.hid (hx.row Q_24.out)
          have L_25 := Lib.hid (hx.row L_24.out)
          have V025 := Lib.hid (RootV.ext V024.out hx)
          have V125 := Lib.hid (RootV.ext V124.out hx)
          have V225 := Lib.hid (RootV.ext V224.out hx)
          have XV25 := Lib.hid (RootV.ext XV24.out hx)
          have X_25 := Lib.hid (hx.row X_24.out)
          have YV25 := Lib.hid (RootV.ext YV24.out hx)
          have Y_25 := Lib.hid (hx.row Y_24.out)
          have BV25 := Lib.hid (RootV.ext BV24.out hx)
          have B_25 := Lib.hid (hx.row B_24.out)
          clear E24 Q_24 L_24 V024 V124 V224 XV24 X_24 YV24 Y_24 BV24 B_24
          clear hx
          clear cl00 cl01 cl02 cl03 cl04 cl05 cX0 cX1 cX2 cX3 cX4 cX5
          have hneg := HNEG.out
          go_wp2_with fail
          refine (sign_is (-n) sn HSN.out w25_).mono ?_
          rintro e w26_ ⟨rfl, hx⟩
          have E26 := Lib.hid (E25.out.trans hx)
          have Q_26 := Lib.hid (hx.row Q_25.out)
          have L_26 := Lib.hid (hx.row L_25.out)
          have V026 := Lib.hid (RootV.ext V025.out hx)
          have V126 := Lib.hid (RootV.ext V125.out hx)
          have V226 := Lib.hid (RootV.ext V225.out hx)
          have XV26 := Lib.hid (RootV.ext XV25.out hx)
          have X_26 := Lib.hid (hx.row X_25.out)
          have YV26 := Lib.hid (RootV.ext YV25.out hx)
          have Y_26 := Lib.hid (hx.row Y_25.out)
          have BV26 := Lib.hid (RootV.ext BV25.out hx)
          have B_26 := Lib.hid (hx.row B_25.out)
          clear E25 Q_25 L_25 V025 V125 V225 XV25 X_25 YV25 Y_25 BV25 B_25
          clear hx
          go_wp2_with fail
          go_ret
          exact ⟨rfl, E26.out⟩
        · have HI1 := Lib.hid h1
          clear h1
          have cl00 := (show (wc).cell? ⟨w2_.heap.size, 0, none⟩ = some (.int .i64 A0) from L_16.out.cell 0)
          have cl01 := (show (wc).cell? ⟨w2_.heap.size, 1, none⟩ = some (.int .i64 S0) from L_16.out.cell 1)
          have cl02 := (show (wc).cell? ⟨w2_.heap.size, 2, none⟩ = some (.bool false) from L_16.out.cell 2)
          have cl03 := (show (wc).cell? ⟨w2_.heap.size, 3, none⟩ = some (.slice p0 m0 c0) from L_16.out.cell 3)
          have cl04 := (show (wc).cell? ⟨w2_.heap.size, 4, none⟩ = some (.bool false) from L_16.out.cell 4)
          have cl05 := (show (wc).cell? ⟨w2_.heap.size, 5, none⟩ = some (.slice q0 d0 e0) from L_16.out.cell 5)
          go_wp2_with fail
          refine (plus_in _ A0 S0 N0 D0 n wc V016.out RR0.out (by have := RN.out; omega) (by have := HI0.out; have := HT0.out; omega)).mono ?_
          rintro e w17_ ⟨r0, rfl, hv, hx⟩
          have E17 := Lib.hid (E16.out.trans hx)
          have Q_17 := Lib.hid (hx.row Q_16.out)
          have L_17 := Lib.hid (hx.row L_16.out)
          have V017 := Lib.hid (RootV.ext V016.out hx)
          have V117 := Lib.hid (RootV.ext V116.out hx)
          have V217 := Lib.hid (RootV.ext V216.out hx)
          clear E16 Q_16 L_16 V016 V116 V216
          clear hx
          clear cl00 cl01 cl02 cl03 cl04 cl05
          rw [← HT0.out] at hv
          have XV17 := Lib.hid hv
          clear hv
          obtain ⟨Xp, Xm, Xc, Xq, Xd, Xe, rfl, -, -⟩ := id XV17.out
          obtain ⟨W17b, hW17b⟩ : ∃ W17b, W17b = (w17_.alloc (.cells #[.int .i64 0, .int .i64 0, .bool false, .slice none 0 0, .bool false, .slice none 0 0] 32)).setRow w17_.heap.size (rootCells t0 S0 false Xp Xm Xc false Xq Xd Xe) := ⟨_, rfl⟩
          have hx : Ext w17_ W17b := by rw [hW17b]; exact ext_setRow (Ext.alloc _ _) (Nat.le_refl _) _
          have X_n : RowAt W17b w17_.heap.size 32 (rootCells t0 S0 false Xp Xm Xc false Xq Xd Xe) := by rw [hW17b]; exact (RowAt.new _ _ _).setRow _
          have E18 := Lib.hid (E17.out.trans hx)
          have Q_18 := Lib.hid (hx.row Q_17.out)
          have L_18 := Lib.hid (hx.row L_17.out)
          have V018 := Lib.hid (RootV.ext V017.out hx)
          have V118 := Lib.hid (RootV.ext V117.out hx)
          have V218 := Lib.hid (RootV.ext V217.out hx)
          have XV18 := Lib.hid (RootV.ext XV17.out hx)
          clear E17 Q_17 L_17 V017 V117 V217 XV17
          have X_18 := Lib.hid X_n
          have HW17b := Lib.hid hW17b
          clear hx hW17b X_n
          have cl10 := (show (W17b).cell? ⟨w2_.heap.size, 6, none⟩ = some (.int .i64 A1) from L_18.out.cell 6)
          have cl11 := (show (W17b).cell? ⟨w2_.heap.size, 7, none⟩ = some (.int .i64 S1) from L_18.out.cell 7)
          have cl12 := (show (W17b).cell? ⟨w2_.heap.size, 8, none⟩ = some (.bool false) from L_18.out.cell 8)
          have cl13 := (show (W17b).cell? ⟨w2_.heap.size, 9, none⟩ = some (.slice p1 m1 c1) from L_18.out.cell 9)
          have cl14 := (show (W17b).cell? ⟨w2_.heap.size, 10, none⟩ = some (.bool false) from L_18.out.cell 10)
          have cl15 := (show (W17b).cell? ⟨w2_.heap.size, 11, none⟩ = some (.slice q1 d1 e1) from L_18.out.cell 11)
          go_wp2_with (first | (refine store_root rfl (.tmp 10) (.tmp 119) rfl w17_.heap.size rfl _ _ _ _ _ _ _ _ _ _ rfl _ _ (RowAt.new' _ _ rfl) rfl ?_; rw [← HW17b.out]))
          refine (plus_over _ A1 S1 N1 D1 n W17b V118.out RR1.out.a1 (by have := RN.out; omega) (by have := HI1.out; have := HT1.out; omega)).mono ?_
          rintro e w19_ ⟨rfl, hx⟩
          have E19 := Lib.hid (E18.out.trans hx)
          have Q_19 := Lib.hid (hx.row Q_18.out)
          have L_19 := Lib.hid (hx.row L_18.out)
          have V019 := Lib.hid (RootV.ext V018.out hx)
          have V119 := Lib.hid (RootV.ext V118.out hx)
          have V219 := Lib.hid (RootV.ext V218.out hx)
          have XV19 := Lib.hid (RootV.ext XV18.out hx)
          have X_19 := Lib.hid (hx.row X_18.out)
          clear E18 Q_18 L_18 V018 V118 V218 XV18 X_18
          clear hx
          clear cl10 cl11 cl12 cl13 cl14 cl15
          obtain ⟨W19b, hW19b⟩ : ∃ W19b, W19b = (w19_.alloc (.cells #[.int .i64 0, .int .i64 0, .bool false, .slice none 0 0, .bool false, .slice none 0 0] 32)).setRow w19_.heap.size (rootCells 0 0 false none 0 0 false none 0 0) := ⟨_, rfl⟩
          have hx : Ext w19_ W19b := by rw [hW19b]; exact ext_setRow (Ext.alloc _ _) (Nat.le_refl _) _
          have Y_n : RowAt W19b w19_.heap.size 32 (rootCells 0 0 false none 0 0 false none 0 0) := by rw [hW19b]; exact (RowAt.new _ _ _).setRow _
          have E20 := Lib.hid (E19.out.trans hx)
          have Q_20 := Lib.hid (hx.row Q_19.out)
          have L_20 := Lib.hid (hx.row L_19.out)
          have V020 := Lib.hid (RootV.ext V019.out hx)
          have V120 := Lib.hid (RootV.ext V119.out hx)
          have V220 := Lib.hid (RootV.ext V219.out hx)
          have XV20 := Lib.hid (RootV.ext XV19.out hx)
          have X_20 := Lib.hid (hx.row X_19.out)
          clear E19 Q_19 L_19 V019 V119 V219 XV19 X_19
          have Y_20 := Lib.hid Y_n
          have HW19b := Lib.hid hW19b
          clear hx hW19b Y_n
          go_wp2_with (first | (refine store_root rfl (.tmp 12) (.tmp 126) rfl w19_.heap.size rfl _ _ _ _ _ _ _ _ _ _ rfl _ _ (RowAt.new' _ _ rfl) rfl ?_; rw [← HW19b.out]))
          go_ret
          exact ⟨rfl, E20.out⟩
      · have HI0 := Lib.hid h0
        clear h0
        by_cases h1 : (-9223372036854775808 ≤ t1 ∧ t1 ≤ 9223372036854775807)
        · have HI1 := Lib.hid h1
          clear h1
          have cl00 := (show (wc).cell? ⟨w2_.heap.size, 0, none⟩ = some (.int .i64 A0) from L_16.out.cell 0)
          have cl01 := (show (wc).cell? ⟨w2_.heap.size, 1, none⟩ = some (.int .i64 S0) from L_16.out.cell 1)
          have cl02 := (show (wc).cell? ⟨w2_.heap.size, 2, none⟩ = some (.bool false) from L_16.out.cell 2)
          have cl03 := (show (wc).cell? ⟨w2_.heap.size, 3, none⟩ = some (.slice p0 m0 c0) from L_16.out.cell 3)
          have cl04 := (show (wc).cell? ⟨w2_.heap.size, 4, none⟩ = some (.bool false) from L_16.out.cell 4)
          have cl05 := (show (wc).cell? ⟨w2_.heap.size, 5, none⟩ = some (.slice q0 d0 e0) from L_16.out.cell 5)
          go_wp2_with fail
          refine (plus_over _ A0 S0 N0 D0 n wc V016.out RR0.out.a1 (by have := RN.out; omega) (by have := HI0.out; have := HT0.out; omega)).mono ?_
          rintro e w17_ ⟨rfl, hx⟩
          have E17 := Lib.hid (E16.out.trans hx)
          have Q_17 := Lib.hid (hx.row Q_16.out)
          have L_17 := Lib.hid (hx.row L_16.out)
          have V017 := Lib.hid (RootV.ext V016.out hx)
          have V117 := Lib.hid (RootV.ext V116.out hx)
          have V217 := Lib.hid (RootV.ext V216.out hx)
          clear E16 Q_16 L_16 V016 V116 V216
          clear hx
          clear cl00 cl01 cl02 cl03 cl04 cl05
          obtain ⟨W17b, hW17b⟩ : ∃ W17b, W17b = (w17_.alloc (.cells #[.int .i64 0, .int .i64 0, .bool false, .slice none 0 0, .bool false, .slice none 0 0] 32)).setRow w17_.heap.size (rootCells 0 0 false none 0 0 false none 0 0) := ⟨_, rfl⟩
          have hx : Ext w17_ W17b := by rw [hW17b]; exact ext_setRow (Ext.alloc _ _) (Nat.le_refl _) _
          have X_n : RowAt W17b w17_.heap.size 32 (rootCells 0 0 false none 0 0 false none 0 0) := by rw [hW17b]; exact (RowAt.new _ _ _).setRow _
          have E18 := Lib.hid (E17.out.trans hx)
          have Q_18 := Lib.hid (hx.row Q_17.out)
          have L_18 := Lib.hid (hx.row L_17.out)
          have V018 := Lib.hid (RootV.ext V017.out hx)
          have V118 := Lib.hid (RootV.ext V117.out hx)
          have V218 := Lib.hid (RootV.ext V217.out hx)
          clear E17 Q_17 L_17 V017 V117 V217
          have X_18 := Lib.hid X_n
          have HW17b := Lib.hid hW17b
          clear hx hW17b X_n
          have cl10 := (show (W17b).cell? ⟨w2_.heap.size, 6, none⟩ = some (.int .i64 A1) from L_18.out.cell 6)
          have cl11 := (show (W17b).cell? ⟨w2_.heap.size, 7, none⟩ = some (.int .i64 S1) from L_18.out.cell 7)
          have cl12 := (show (W17b).cell? ⟨w2_.heap.size, 8, none⟩ = some (.bool false) from L_18.out.cell 8)
          have cl13 := (show (W17b).cell? ⟨w2_.heap.size, 9, none⟩ = some (.slice p1 m1 c1) from L_18.out.cell 9)
          have cl14 := (show (W17b).cell? ⟨w2_.heap.size, 10, none⟩ = some (.bool false) from L_18.out.cell 10)
          have cl15 := (show (W17b).cell? ⟨w2_.heap.size, 11, none⟩ = some (.slice q1 d1 e1) from L_18.out.cell 11)
          go_wp2_with (first | (refine store_root rfl (.tmp 10) (.tmp 119) rfl w17_.heap.size rfl _ _ _ _ _ _ _ _ _ _ rfl _ _ (RowAt.new' _ _ rfl) rfl ?_; rw [← HW17b.out]))
          refine (plus_in _ A1 S1 N1 D1 n W17b V118.out RR1.out (by have := RN.out; omega) (by have := HI1.out; have := HT1.out; omega)).mono ?_
          rintro e w19_ ⟨r1, rfl, hv, hx⟩
          have E19 := Lib.hid (E18.out.trans hx)
          have Q_19 := Lib.hid (hx.row Q_18.out)
          have L_19 := Lib.hid (hx.row L_18.out)
          have V019 := Lib.hid (RootV.ext V018.out hx)
          have V119 := Lib.hid (RootV.ext V118.out hx)
          have V219 := Lib.hid (RootV.ext V218.out hx)
          have X_19 := Lib.hid (hx.row X_18.out)
          clear E18 Q_18 L_18 V018 V118 V218 X_18
          clear hx
          clear cl10 cl11 cl12 cl13 cl14 cl15
          rw [← HT1.out] at hv
          have YV19 := Lib.hid hv
          clear hv
          obtain ⟨Yp, Ym, Yc, Yq, Yd, Ye, rfl, -, -⟩ := id YV19.out
          obtain ⟨W19b, hW19b⟩ : ∃ W19b, W19b = (w19_.alloc (.cells #[.int .i64 0, .int .i64 0, .bool false, .slice none 0 0, .bool false, .slice none 0 0] 32)).setRow w19_.heap.size (rootCells t1 S1 false Yp Ym Yc false Yq Yd Ye) := ⟨_, rfl⟩
          have hx : Ext w19_ W19b := by rw [hW19b]; exact ext_setRow (Ext.alloc _ _) (Nat.le_refl _) _
          have Y_n : RowAt W19b w19_.heap.size 32 (rootCells t1 S1 false Yp Ym Yc false Yq Yd Ye) := by rw [hW19b]; exact (RowAt.new _ _ _).setRow _
          have E20 := Lib.hid (E19.out.trans hx)
          have Q_20 := Lib.hid (hx.row Q_19.out)
          have L_20 := Lib.hid (hx.row L_19.out)
          have V020 := Lib.hid (RootV.ext V019.out hx)
          have V120 := Lib.hid (RootV.ext V119.out hx)
          have V220 := Lib.hid (RootV.ext V219.out hx)
          have X_20 := Lib.hid (hx.row X_19.out)
          have YV20 := Lib.hid (RootV.ext YV19.out hx)
          clear E19 Q_19 L_19 V019 V119 V219 X_19 YV19
          have Y_20 := Lib.hid Y_n
          have HW19b := Lib.hid hW19b
          clear hx hW19b Y_n
          go_wp2_with (first | (refine store_root rfl (.tmp 12) (.tmp 126) rfl w19_.heap.size rfl _ _ _ _ _ _ _ _ _ _ rfl _ _ (RowAt.new' _ _ rfl) rfl ?_; rw [← HW19b.out]))
          go_ret
          exact ⟨rfl, E20.out⟩
        · have HI1 := Lib.hid h1
          clear h1
          have cl00 := (show (wc).cell? ⟨w2_.heap.size, 0, none⟩ = some (.int .i64 A0) from L_16.out.cell 0)
          have cl01 := (show (wc).cell? ⟨w2_.heap.size, 1, none⟩ = some (.int .i64 S0) from L_16.out.cell 1)
          have cl02 := (show (wc).cell? ⟨w2_.heap.size, 2, none⟩ = some (.bool false) from L_16.out.cell 2)
          have cl03 := (show (wc).cell? ⟨w2_.heap.size, 3, none⟩ = some (.slice p0 m0 c0) from L_16.out.cell 3)
          have cl04 := (show (wc).cell? ⟨w2_.heap.size, 4, none⟩ = some (.bool false) from L_16.out.cell 4)
          have cl05 := (show (wc).cell? ⟨w2_.heap.size, 5, none⟩ = some (.slice q0 d0 e0) from L_16.out.cell 5)
          go_wp2_with fail
          refine (plus_over _ A0 S0 N0 D0 n wc V016.out RR0.out.a1 (by have := RN.out; omega) (by have := HI0.out; have := HT0.out; omega)).mono ?_
          rintro e w17_ ⟨rfl, hx⟩
          have E17 := Lib.hid (E16.out.trans hx)
          have Q_17 := Lib.hid (hx.row Q_16.out)
          have L_17 := Lib.hid (hx.row L_16.out)
          have V017 := Lib.hid (RootV.ext V016.out hx)
          have V117 := Lib.hid (RootV.ext V116.out hx)
          have V217 := Lib.hid (RootV.ext V216.out hx)
          clear E16 Q_16 L_16 V016 V116 V216
          clear hx
          clear cl00 cl01 cl02 cl03 cl04 cl05
          obtain ⟨W17b, hW17b⟩ : ∃ W17b, W17b = (w17_.alloc (.cells #[.int .i64 0, .int .i64 0, .bool false, .slice none 0 0, .bool false, .slice none 0 0] 32)).setRow w17_.heap.size (rootCells 0 0 false none 0 0 false none 0 0) := ⟨_, rfl⟩
          have hx : Ext w17_ W17b := by rw [hW17b]; exact ext_setRow (Ext.alloc _ _) (Nat.le_refl _) _
          have X_n : RowAt W17b w17_.heap.size 32 (rootCells 0 0 false none 0 0 false none 0 0) := by rw [hW17b]; exact (RowAt.new _ _ _).setRow _
          have E18 := Lib.hid (E17.out.trans hx)
          have Q_18 := Lib.hid (hx.row Q_17.out)
          have L_18 := Lib.hid (hx.row L_17.out)
          have V018 := Lib.hid (RootV.ext V017.out hx)
          have V118 := Lib.hid (RootV.ext V117.out hx)
          have V218 := Lib.hid (RootV.ext V217.out hx)
          clear E17 Q_17 L_17 V017 V117 V217
          have X_18 := Lib.hid X_n
          have HW17b := Lib.hid hW17b
          clear hx hW17b X_n
          have cl10 := (show (W17b).cell? ⟨w2_.heap.size, 6, none⟩ = some (.int .i64 A1) from L_18.out.cell 6)
          have cl11 := (show (W17b).cell? ⟨w2_.heap.size, 7, none⟩ = some (.int .i64 S1) from L_18.out.cell 7)
          have cl12 := (show (W17b).cell? ⟨w2_.heap.size, 8, none⟩ = some (.bool false) from L_18.out.cell 8)
          have cl13 := (show (W17b).cell? ⟨w2_.heap.size, 9, none⟩ = some (.slice p1 m1 c1) from L_18.out.cell 9)
          have cl14 := (show (W17b).cell? ⟨w2_.heap.size, 10, none⟩ = some (.bool false) from L_18.out.cell 10)
          have cl15 := (show (W17b).cell? ⟨w2_.heap.size, 11, none⟩ = some (.slice q1 d1 e1) from L_18.out.cell 11)
          go_wp2_with (first | (refine store_root rfl (.tmp 10) (.tmp 119) rfl w17_.heap.size rfl _ _ _ _ _ _ _ _ _ _ rfl _ _ (RowAt.new' _ _ rfl) rfl ?_; rw [← HW17b.out]))
          refine (plus_over _ A1 S1 N1 D1 n W17b V118.out RR1.out.a1 (by have := RN.out; omega) (by have := HI1.out; have := HT1.out; omega)).mono ?_
          rintro e w19_ ⟨rfl, hx⟩
          have E19 := Lib.hid (E18.out.trans hx)
          have Q_19 := Lib.hid (hx.row Q_18.out)
          have L_19 := Lib.hid (hx.row L_18.out)
          have V019 := Lib.hid (RootV.ext V018.out hx)
          have V119 := Lib.hid (RootV.ext V118.out hx)
          have V219 := Lib.hid (RootV.ext V218.out hx)
          have X_19 := Lib.hid (hx.row X_18.out)
          clear E18 Q_18 L_18 V018 V118 V218 X_18
          clear hx
          clear cl10 cl11 cl12 cl13 cl14 cl15
          obtain ⟨W19b, hW19b⟩ : ∃ W19b, W19b = (w19_.alloc (.cells #[.int .i64 0, .int .i64 0, .bool false, .slice none 0 0, .bool false, .slice none 0 0] 32)).setRow w19_.heap.size (rootCells 0 0 false none 0 0 false none 0 0) := ⟨_, rfl⟩
          have hx : Ext w19_ W19b := by rw [hW19b]; exact ext_setRow (Ext.alloc _ _) (Nat.le_refl _) _
          have Y_n : RowAt W19b w19_.heap.size 32 (rootCells 0 0 false none 0 0 false none 0 0) := by rw [hW19b]; exact (RowAt.new _ _ _).setRow _
          have E20 := Lib.hid (E19.out.trans hx)
          have Q_20 := Lib.hid (hx.row Q_19.out)
          have L_20 := Lib.hid (hx.row L_19.out)
          have V020 := Lib.hid (RootV.ext V019.out hx)
          have V120 := Lib.hid (RootV.ext V119.out hx)
          have V220 := Lib.hid (RootV.ext V219.out hx)
          have X_20 := Lib.hid (hx.row X_19.out)
          clear E19 Q_19 L_19 V019 V119 V219 X_19
          have Y_20 := Lib.hid Y_n
          have HW19b := Lib.hid hW19b
          clear hx hW19b Y_n
          go_wp2_with (first | (refine store_root rfl (.tmp 12) (.tmp 126) rfl w19_.heap.size rfl _ _ _ _ _ _ _ _ _ _ rfl _ _ (RowAt.new' _ _ rfl) rfl ?_; rw [← HW19b.out]))
          go_ret
          exact ⟨rfl, E20.out⟩
end Go.Proofs.YtegjcikofmphjaaGreatDoor

