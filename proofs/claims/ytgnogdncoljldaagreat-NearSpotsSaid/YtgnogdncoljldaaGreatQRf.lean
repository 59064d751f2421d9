import Derived.Test.YtgnogdncoljldaaGreatQRe
set_option linter.all false
set_option autoImplicit false
namespace Go.Proofs.YtgnogdncoljldaaGreat
open Go Go.RowKit Go.Shelf
theorem root_info : (Tryz.prog.info? 38).map (·.size) = some 6 := by kernel_rfl
section
variable {W : World} {g : Nat} {t : TypeId} {a s : Int} {nn nd : Bool} {p q : Option Addr} {n c m e : Nat} (h : RowAt W g t (rootCells a s nn p n c nd q m e))
include h
theorem RowAt.root0 : W.cell? ⟨g, 0, none⟩ = some (.int .i64 a) := h.cell 0
theorem RowAt.root1 : W.cell? ⟨g, 1, none⟩ = some (.int .i64 s) := h.cell 1
theorem RowAt.root2 : W.cell? ⟨g, 2, none⟩ = some (.bool nn) := h.cell 2
theorem RowAt.root3 : W.cell? ⟨g, 3, none⟩ = some (.slice p n c) := h.cell 3
theorem RowAt.root4 : W.cell? ⟨g, 4, none⟩ = some (.bool nd) := h.cell 4
theorem RowAt.root5 : W.cell? ⟨g, 5, none⟩ = some (.slice q m e) := h.cell 5
end
theorem load_root {ops : Array Oper} {rest : List Oper} {o : Oper} {b : Act} {w : World} {Q : Exit → Act → World → Prop} (hgd : o.guard = none) (x : Operand) (ho : o.op = .load 38 x)
  (g : Nat) (hx : b.eval x = .pointer (some ⟨g, 0, none⟩)) (a s : Int) (nn : Bool) (p : Option Addr) (n c : Nat) (nd : Bool) (q : Option Addr) (m e : Nat) (t : TypeId) (hg : RowAt w g t (rootCells a s nn p n c nd q m e))
  (h : wpList Tryz.prog ops Q rest (b.put o.dst (.agg #[.int .i64 a, .int .i64 s, .bool nn, .slice p n c, .bool nd, .slice q m e])) w) : wpList Tryz.prog ops Q (o :: rest) b w :=
 wpList_load_row hgd 38 x ho g hx t (rootCells a s nn p n c nd q m e) (0, 0) _ hg Tryz.underlying38 rfl root_info h
structure RtB (a s N D : Int) : Prop where
 r : Sx.RtZ a s N D
structure RtR (a s N D : Int) : Prop extends RtB a s N D where
 t : True
theorem RootV.z {w : World} {v : Value} {a s N D : Int} (h : RootV w v a s N D) : Sx.RootZ w v a s N D := by
 obtain ⟨p, n, c, q, m, e, rfl, hn, hd⟩ := h
 exact ⟨_, _, _, _, rfl, hn, hd⟩
theorem RootV.of {w : World} {v : Value} {a s N D : Int} (h : Sx.RootZ w v a s N D) (hr : Sx.RtZ a s N D) : RootV w v a s N D := by
 obtain ⟨e, f, rfl, u0, z0, u1, z1⟩ := h.two
 have e1 : decide (N < 0) = false := decide_eq_false (by have := hr.n0; omega)
 have e2 : decide (D < 0) = false := decide_eq_false (by have := hr.d0; omega)
 rw [e1, e2]
 obtain ⟨p, c, rfl, hl, hc⟩ := id u0
 obtain ⟨p2, c2, rfl, hl2, hc2⟩ := id u1
 refine ⟨_, _, _, _, _, _, rfl, ⟨⟨_, ?_, u0⟩, z0⟩, ⟨⟨_, ?_, u1⟩, z1⟩⟩
 ·rw [e1]
 ·rw [e2]
theorem rootRight_ok (v : Value) (a s N D : Int) (w : World) (h : RootV w v a s N D) (hr : RtR a s N D) :
  Calls Tryz.prog 27 #[v] w fun e w' => e = .returned (.bool true) ∧ Ext w w' := Sx.vright2_c v a s N D w h.z hr.r
theorem rootOrder_calls (va vb : Value) (A1 s1 N1 D1 A2 s2 N2 D2 : Int) (w : World) (ha : RootV w va A1 s1 N1 D1) (hb : RootV w vb A2 s2 N2 D2) (ba : RtB A1 s1 N1 D1) (bb : RtB A2 s2 N2 D2) :
  Calls Tryz.prog 62 #[va, vb] w fun e w' => e = .returned (.int .i64 (RM.cmpZ A1 s1 N1 D1 A2 s2 N2 D2)) ∧ Ext w w' := Sx.vorder_c va vb A1 s1 N1 D1 A2 s2 N2 D2 w ha.z hb.z ba.r bb.r
theorem ent_c1 (args : Array Value) (w : World) : (callFunc 61 args).run Tryz.prog w = .ok (.enter 61 args) w := enters_of Tryz.func61 (by kernel_rfl) rfl args w
set_option maxRecDepth 100000 in
set_option maxHeartbeats 4000000 in
theorem cmp1_calls (g h : Nat) (a1 s1 N1 D1 a2 s2 N2 D2 : Int) (p q p2 q2 : Option Addr) (n c m e n2 c2 m2 e2 : Nat) (w : World) (ra : RowAt w g 38 (rootCells a1 s1 false p n c false q m e)) (rb : RowAt w h 38 (rootCells a2 s2 false p2 n2 c2 false q2 m2 e2))
  (ha : RootV w (.agg #[.int .i64 a1, .int .i64 s1, .bool false, .slice p n c, .bool false, .slice q m e]) a1 s1 N1 D1) (hb : RootV w (.agg #[.int .i64 a2, .int .i64 s2, .bool false, .slice p2 n2 c2, .bool false, .slice q2 m2 e2]) a2 s2 N2 D2) (ba : RtB a1 s1 N1 D1) (bb : RtB a2 s2 N2 D2) :
  Calls Tryz.prog 61 #[.pointer (some ⟨g, 0, none⟩), .pointer (some ⟨h, 0, none⟩)] w fun e w' => e = .returned (.int .i64 (RM.cmpZ a1 s1 N1 D1 a2 s2 N2 D2)) ∧ Ext w w' := by
 have HC := Lib.hid (rootOrder_calls _ _ a1 s1 N1 D1 a2 s2 N2 D2 w ha hb ba bb)
 have RA := Lib.hid ra
 have RB := Lib.hid rb
 clear ra rb ha hb ba bb
 go_enter Tryz.func61, Tryz.ntmps61
 go_wp2_with (first | (refine load_root rfl (.tmp 0) rfl _ rfl _ _ _ _ _ _ _ _ _ _ _ RA.out ?_) | (refine load_root rfl (.tmp 1) rfl _ rfl _ _ _ _ _ _ _ _ _ _ _ RB.out ?_))
 refine HC.out.mono ?_
 rintro e w1 ⟨rfl, hx⟩
 have X := Lib.hid hx
 clear hx
 go_wp2
 go_ret
 exact ⟨rfl, X.out⟩
set_option maxRecDepth 100000 in
set_option maxHeartbeats 4000000 in
theorem rootCmp_ok (va vb : Value) (a1 s1 N1 D1 a2 s2 N2 D2 : Int) (w : World) (ha : RootV w va a1 s1 N1 D1) (hb : RootV w vb a2 s2 N2 D2) (ra : RtR a1 s1 N1 D1) (rb : RtR a2 s2 N2 D2) :
  Calls Tryz.prog 20 #[va, vb] w fun e w' => e = .returned (.int .i64 (RM.cmpZ a1 s1 N1 D1 a2 s2 N2 D2)) ∧ Ext w w' := by
 obtain ⟨p, n, c, q, m, e, rfl, hn, hd⟩ := id ha
 obtain ⟨p2, n2, c2, q2, m2, e2, rfl, hn2, hd2⟩ := id hb
 have VA := Lib.hid ha
 have VB := Lib.hid hb
 have RA := Lib.hid ra
 have RB := Lib.hid rb
 have E := Lib.hid (Ext.refl w)
 obtain ⟨rv, hrv⟩ : ∃ rv, rv = RM.cmpZ a1 s1 N1 D1 a2 s2 N2 D2 := ⟨_, rfl⟩
 rw [← hrv]
 have Hrv := Lib.hid hrv
 clear ha hb ra rb hn hd hn2 hd2 hrv
 obtain ⟨W0a, hW0a⟩ : ∃ W0a, W0a = ((w.alloc (.cells #[.int .i64 a1, .int .i64 s1, .bool false, .slice p n c, .bool false, .slice q m e] 38)).alloc (.cells #[.int .i64 a2, .int .i64 s2, .bool false, .slice p2 n2 c2, .bool false, .slice q2 m2 e2] 38)) := ⟨_, rfl⟩
 have hx : Ext w W0a := by rw [hW0a]; exact ((Ext.alloc _ _).trans (Ext.alloc _ _))
 have A_n : RowAt W0a (w.heap.size) 38 (rootCells a1 s1 false p n c false q m e) := by rw [hW0a]; exact ((RowAt.new' _ _ (by simp)).alloc _)
 have B_n : RowAt W0a (w.heap.size + 1) 38 (rootCells a2 s2 false p2 n2 c2 false q2 m2 e2) := by rw [hW0a]; exact (RowAt.new' _ _ (by simp))
 have E1 := Lib.hid (E.out.trans hx)
 have VA1 := Lib.hid (RootV.ext VA.out hx)
 have VB1 := Lib.hid (RootV.ext VB.out hx)
 clear E VA VB
 have A_1 := Lib.hid A_n
 have B_1 := Lib.hid B_n
 have HW0a := Lib.hid hW0a
 clear hx hW0a A_n B_n
 go_enter Tryz.func20, Tryz.ntmps20
 go_wp2_with fail
 rw [← HW0a.out]
 refine (rootRight_ok _ a1 s1 N1 D1 W0a VA1.out RA.out).mono ?_
 rintro e w2_ ⟨rfl, hx⟩
 have E2 := Lib.hid (E1.out.trans hx)
 have VA2 := Lib.hid (RootV.ext VA1.out hx)
 have VB2 := Lib.hid (RootV.ext VB1.out hx)
 have A_2 := Lib.hid (hx.row A_1.out)
 have B_2 := Lib.hid (hx.row B_1.out)
 clear E1 VA1 VB1 A_1 B_1
 clear hx
 have cB__root0_2 := B_2.out.root0
 have cB__root1_2 := B_2.out.root1
 have cB__root2_2 := B_2.out.root2
 have cB__root3_2 := B_2.out.root3
 have cB__root4_2 := B_2.out.root4
 have cB__root5_2 := B_2.out.root5
 go_wp2_with fail
 refine (rootRight_ok _ a2 s2 N2 D2 w2_ VB2.out RB.out).mono ?_
 rintro e w3_ ⟨rfl, hx⟩
 clear cB__root0_2 cB__root1_2 cB__root2_2 cB__root3_2 cB__root4_2 cB__root5_2
 have E3 := Lib.hid (E2.out.trans hx)
 have VA3 := Lib.hid (RootV.ext VA2.out hx)
 have VB3 := Lib.hid (RootV.ext VB2.out hx)
 have A_3 := Lib.hid (hx.row A_2.out)
 have B_3 := Lib.hid (hx.row B_2.out)
 clear E2 VA2 VB2 A_2 B_2
 clear hx
 have hmf : ∀ (fn : Fn) (first cap : Array Value) (w : World), (Instr.makeFunc fn first cap).run Tryz.prog w = .ok (.func fn first cap) w := fun _ _ _ _ => rfl
 go_wp2_with fail
 refine (settle_calls 61 #[.pointer (some ⟨w.heap.size, 0, none⟩), .pointer (some ⟨w.heap.size + 1, 0, none⟩)] rv w3_ ent_c1 (fun W hW => by
   have h := cmp1_calls w.heap.size (w.heap.size + 1) a1 s1 N1 D1 a2 s2 N2 D2 p q p2 q2 n c m e n2 c2 m2 e2 W (hW.row A_3.out) (hW.row B_3.out) (RootV.ext VA3.out hW) (RootV.ext VB3.out hW) RA.out.toRtB RB.out.toRtB
   rw [← Hrv.out] at h
   exact h)).mono ?_
 rintro e w4_ ⟨rfl, hx⟩
 have E4 := Lib.hid (E3.out.trans hx)
 have VA4 := Lib.hid (RootV.ext VA3.out hx)
 have VB4 := Lib.hid (RootV.ext VB3.out hx)
 have A_4 := Lib.hid (hx.row A_3.out)
 have B_4 := Lib.hid (hx.row B_3.out)
 clear E3 VA3 VB3 A_3 B_3
 clear hx
 clear hmf
 go_wp2
 go_ret
 exact ⟨rfl, E4.out⟩
theorem vcmp2_c (v v2 : Value) (a s n d a2 s2 n2 d2 : Int) (w : World) (hv : Sx.RootZ w v a s n d) (hv2 : Sx.RootZ w v2 a2 s2 n2 d2) (h : Sx.RtZ a s n d) (h2 : Sx.RtZ a2 s2 n2 d2) :
  Calls Tryz.prog 20 #[v, v2] w (fun x w' => x = .returned (.int .i64 (RM.cmpZ a s n d a2 s2 n2 d2)) ∧ Below w.heap.size w w') := rootCmp_ok v v2 a s n d a2 s2 n2 d2 w (RootV.of hv h) (RootV.of hv2 h2) ⟨⟨h⟩, trivial⟩ ⟨⟨h2⟩, trivial⟩
end Go.Proofs.YtgnogdncoljldaaGreat

