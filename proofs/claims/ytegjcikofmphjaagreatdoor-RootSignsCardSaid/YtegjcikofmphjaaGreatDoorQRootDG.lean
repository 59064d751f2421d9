/- Texts that belong together. -/
import Derived.Test.YtegjcikofmphjaaGreatDoorQRootPS
import Derived.Defers
import Derived.Recover
set_option linter.all false
/- Texts that belong together. -/
/- Layer 2: settle. -/
namespace Go.Proofs.YtegjcikofmphjaaGreatDoor
open Go Go.RowKit Go.Shelf
theorem catch_idle (p : Addr) (w : World) :
    CallsD Tryz.prog 82 #[.pointer (some p)] .returning w fun e u' w' => e = .returned (.tuple #[]) ∧ u' = .returning ∧ w' = w := by
  refine callsD_of_wpS Tryz.func82 rfl fun c₀ cs hu => ?_
  apply wpS_seq
  apply wpS_region
  simp [wpOpsS, go_sem, recoverD, hu, Tryz.ntmps82, Exit.thenS]
  refine wpS_cond (t := false) (by simp [Act.eval, Array.replicate]) ?_
  simp only [Bool.false_eq_true, if_false]
  refine wpS_of_wp (wp_skip ?_)
  cases c₀
  simp_all [bodyPostS, results, Tryz.results82]
set_option maxRecDepth 100000 in
set_option maxHeartbeats 2000000 in
theorem settle_calls (F : FuncId) (cap : Array Value) (r : Int) (w : World) (hent : ∀ args w, (callFunc F args).run Tryz.prog w = .ok (.enter F args) w) (hF : ∀ W, Ext w W → Calls Tryz.prog F cap W fun e W' => e = .returned (.int .i64 r) ∧ Ext W W') :
    Calls Tryz.prog 53 #[.func (.func F) #[] cap] w fun e w' => e = .returned (.int .i64 r) ∧ Ext w w' := by
  have hmf : ∀ (fn : Fn) (first cap : Array Value) (w : World), (Instr.makeFunc fn first cap).run Tryz.prog w = .ok (.func fn first cap) w := fun _ _ _ _ => rfl
  obtain ⟨W1, hW1⟩ : ∃ W1, W1 = w.alloc (.cells #[.int .i64 0] 3) := ⟨_, rfl⟩
  have hx1 : Ext w W1 := by rw [hW1]; exact Ext.alloc _ _
  have hr1 : RowAt W1 w.heap.size 3 #[.int .i64 0] := by rw [hW1]; exact RowAt.new' _ _ (by simp)
  have HF := Lib.hid hF
  have Hx1 := Lib.hid hx1
  have Hr1 := Lib.hid hr1
  have HW1 := Lib.hid hW1
  clear hF hx1 hr1 hW1
  go_enter_defers Tryz.func53, Tryz.ntmps53
  go_wp2_with fail
  rw [← HW1.out]
  refine (HF.out W1 Hx1.out).mono ?_
  rintro e w1 ⟨rfl, hx⟩
  have R1 := Lib.hid (hx.row Hr1.out)
  have X1 := Lib.hid (Hx1.out.trans hx)
  have hc0 : w1.cell? ⟨w.heap.size, 0, none⟩ = some (.int .i64 0) := R1.out.cell 0
  have hz0 : w1.frozen? ⟨w.heap.size, 0, none⟩ = false := R1.out.frozen 0
  clear hx
  go_wp2
  refine leaves_cons (f := 82) (args := #[.pointer (some ⟨w.heap.size, 0, none⟩)]) (by simp) (by simp [go_sem]) ?_
  refine (catch_idle ⟨w.heap.size, 0, none⟩ _).mono ?_
  rintro e u' w'' ⟨rfl, rfl, rfl⟩
  simp [Leaves, Go.settle, results, Tryz.results53, go_sem, hc0]
  exact Below.setCell X1.out (p := ⟨w.heap.size, 0, none⟩) (Nat.le_refl _) _
end Go.Proofs.YtegjcikofmphjaaGreatDoor
/- Layer 2: Sign. -/
namespace Go.Proofs.YtegjcikofmphjaaGreatDoor
open Go Go.RowKit Go.Shelf
theorem ent_s1 (args : Array Value) (w : World) : (callFunc 54 args).run Tryz.prog w = .ok (.enter 54 args) w := enters_of Tryz.func54 (by kernel_rfl) rfl args w
theorem fitK_lim {k : Nat} {z : Int} (h : fitK k z = true) : z.natAbs < B32 ^ k := by
  unfold fitK at h
  exact digs_len.1 (by simpa using h)
set_option maxRecDepth 100000 in
set_option maxHeartbeats 2000000 in
theorem sign1_calls (g h k : Nat) (na nb nc : Bool) (p q s : Option Addr) (n n2 m m2 l l2 : Nat) (a b c : Int) (w : World) (ra : RowAt w g 25 (numCells na p n n2)) (rb : RowAt w h 25 (numCells nb q m m2)) (rc : RowAt w k 25 (numCells nc s l l2))
    (ha : ZNum w.heap.size w (.agg #[.bool na, .slice p n n2]) a) (hb : ZNum w.heap.size w (.agg #[.bool nb, .slice q m m2]) b) (hc : ZNum w.heap.size w (.agg #[.bool nc, .slice s l l2]) c) (h0 : 0 ≤ c) (la : a.natAbs < B32 ^ 20) (lb : b.natAbs < B32 ^ 20) (lc : c.natAbs < B32 ^ 20) :
    Calls Tryz.prog 54 #[.pointer (some ⟨g, 0, none⟩), .pointer (some ⟨h, 0, none⟩), .pointer (some ⟨k, 0, none⟩)] w fun e w' => e = .returned (.int .i64 (RM.sideZ a b c)) ∧ Ext w w' := by
  have HC := Lib.hid (signOf_calls _ _ _ a b c w ha hb hc h0 la lb lc)
  have c0 := ra.num0
  have c1 := ra.num1
  have c2 := rb.num0
  have c3 := rb.num1
  have c4 := rc.num0
  have c5 := rc.num1
  clear ra rb rc ha hb hc h0 la lb lc
  go_enter Tryz.func54, Tryz.ntmps54
  go_wp2_with fail
  refine HC.out.mono ?_
  rintro e w1 ⟨rfl, hx⟩
  have X := Lib.hid hx
  clear hx
  go_wp2
  go_ret
  exact ⟨rfl, X.out⟩
set_option maxRecDepth 100000 in
set_option maxHeartbeats 4000000 in
theorem sign_ok (va vb vc : Value) (a b c : Int) (w : World) (ha : ZNum w.heap.size w va a) (hb : ZNum w.heap.size w vb b) (hc : ZNum w.heap.size w vc c) (h0 : 0 ≤ c) (la : fitK 20 a = true) (lb : fitK 20 b = true) (lc : fitK 20 c = true) :
    Calls Tryz.prog 21 #[va, vb, vc] w fun e w' => e = .returned (.int .i64 (RM.sideZ a b c)) ∧ Ext w w' := by
  obtain ⟨p, k, rfl⟩ := ha.parts
  obtain ⟨q, k2, rfl⟩ := hb.parts
  obtain ⟨s, k3, rfl⟩ := hc.parts
  have d0 : decide (c < 0) = false := by simp; omega
  rw [d0] at hc ⊢
  have FA := Lib.hid la
  have FB := Lib.hid lb
  have FC := Lib.hid lc
  have H0 := Lib.hid h0
  have ZA := Lib.hid ha
  have ZB := Lib.hid hb
  have ZC := Lib.hid hc
  have E := Lib.hid (Ext.refl w)
  generalize decide (a < 0) = na at *
  generalize decide (b < 0) = nb at *
  generalize (digs a.natAbs).length = n at *
  generalize (digs b.natAbs).length = m at *
  generalize (digs c.natAbs).length = l at *
  generalize hrr : RM.sideZ a b c = rr at *
  have Hrr := Lib.hid hrr
  clear ha hb hc h0 la lb lc d0 hrr
  obtain ⟨W0a, hW0a⟩ : ∃ W0a, W0a = (((w.alloc (.cells #[.bool na, .slice p n k] 25)).alloc (.cells #[.bool nb, .slice q m k2] 25)).alloc (.cells #[.bool false, .slice s l k3] 25)) := ⟨_, rfl⟩
  have hx : Ext w W0a := by rw [hW0a]; exact (((Ext.alloc _ _).trans (Ext.alloc _ _)).trans (Ext.alloc _ _))
  have A_n : RowAt W0a (w.heap.size) 25 (numCells na p n k) := by rw [hW0a]; exact (((RowAt.new' _ _ (by simp)).alloc _).alloc _)
  have B_n : RowAt W0a (w.heap.size + 1) 25 (numCells nb q m k2) := by rw [hW0a]; exact ((RowAt.new' _ _ (by simp)).alloc _)
  have C_n : RowAt W0a (w.heap.size + 1 + 1) 25 (numCells false s l k3) := by rw [hW0a]; exact (RowAt.new' _ _ (by simp))
  have ZA1 := Lib.hid (hx.num ZA.out)
  have ZB1 := Lib.hid (hx.num ZB.out)
  have ZC1 := Lib.hid (hx.num ZC.out)
  have E1 := Lib.hid (E.out.trans hx)
  clear ZA ZB ZC E
  have A_1 := Lib.hid A_n
  have B_1 := Lib.hid B_n
  have C_1 := Lib.hid C_n
  have HW0a := Lib.hid hW0a
  clear hx hW0a A_n B_n C_n
  go_enter Tryz.func21, Tryz.ntmps21
  go_wp2_with fail
  rw [← HW0a.out]
  refine (short_z _ a 20 20 rfl W0a ZA1.out).mono ?_
  rintro e w2_ ⟨rfl, hx⟩
  have ZA2 := Lib.hid (hx.num ZA1.out)
  have ZB2 := Lib.hid (hx.num ZB1.out)
  have ZC2 := Lib.hid (hx.num ZC1.out)
  have E2 := Lib.hid (E1.out.trans hx)
  have A_2 := Lib.hid (hx.row A_1.out)
  have B_2 := Lib.hid (hx.row B_1.out)
  have C_2 := Lib.hid (hx.row C_1.out)
  clear ZA1 ZB1 ZC1 E1 A_1 B_1 C_1
  clear hx
  rw [FA.out]
  have cB__num0_2 := B_2.out.num0
  have cB__num1_2 := B_2.out.num1
  go_wp2_with fail
  refine (short_z _ b 20 20 rfl w2_ ZB2.out).mono ?_
  rintro e w3_ ⟨rfl, hx⟩
  clear cB__num0_2 cB__num1_2
  have ZA3 := Lib.hid (hx.num ZA2.out)
  have ZB3 := Lib.hid (hx.num ZB2.out)
  have ZC3 := Lib.hid (hx.num ZC2.out)
  have E3 := Lib.hid (E2.out.trans hx)
  have A_3 := Lib.hid (hx.row A_2.out)
  have B_3 := Lib.hid (hx.row B_2.out)
  have C_3 := Lib.hid (hx.row C_2.out)
  clear ZA2 ZB2 ZC2 E2 A_2 B_2 C_2
  clear hx
  rw [FB.out]
  have cC__num0_3 := C_3.out.num0
  have cC__num1_3 := C_3.out.num1
  go_wp2_with fail
  refine (short_z _ c 20 20 rfl w3_ ZC3.out).mono ?_
  rintro e w4_ ⟨rfl, hx⟩
  clear cC__num0_3 cC__num1_3
  have ZA4 := Lib.hid (hx.num ZA3.out)
  have ZB4 := Lib.hid (hx.num ZB3.out)
  have ZC4 := Lib.hid (hx.num ZC3.out)
  have E4 := Lib.hid (E3.out.trans hx)
  have A_4 := Lib.hid (hx.row A_3.out)
  have B_4 := Lib.hid (hx.row B_3.out)
  have C_4 := Lib.hid (hx.row C_3.out)
  clear ZA3 ZB3 ZC3 E3 A_3 B_3 C_3
  clear hx
  rw [FC.out]
  have cC__num0_4 := C_4.out.num0
  have cC__num1_4 := C_4.out.num1
  have hmf : ∀ (fn : Fn) (first cap : Array Value) (w : World), (Instr.makeFunc fn first cap).run Tryz.prog w = .ok (.func fn first cap) w := fun _ _ _ _ => rfl
  go_wp2_with fail
  refine (settle_calls 54 #[.pointer (some ⟨w.heap.size, 0, none⟩), .pointer (some ⟨w.heap.size + 1, 0, none⟩), .pointer (some ⟨w.heap.size + 1 + 1, 0, none⟩)] rr w4_ ent_s1 (fun W hW => by
      have h := sign1_calls w.heap.size (w.heap.size + 1) (w.heap.size + 1 + 1) na nb false p q s n k m k2 l k3 a b c W (hW.row A_4.out) (hW.row B_4.out) (hW.row C_4.out) (hW.num ZA4.out) (hW.num ZB4.out) (hW.num ZC4.out) H0.out (fitK_lim FA.out) (fitK_lim FB.out) (fitK_lim FC.out)
      rw [Hrr.out] at h
      exact h)).mono ?_
  rintro e w5_ ⟨rfl, hx⟩
  clear cC__num0_4 cC__num1_4
  have ZA5 := Lib.hid (hx.num ZA4.out)
  have ZB5 := Lib.hid (hx.num ZB4.out)
  have ZC5 := Lib.hid (hx.num ZC4.out)
  have E5 := Lib.hid (E4.out.trans hx)
  have A_5 := Lib.hid (hx.row A_4.out)
  have B_5 := Lib.hid (hx.row B_4.out)
  have C_5 := Lib.hid (hx.row C_4.out)
  clear ZA4 ZB4 ZC4 E4 A_4 B_4 C_4
  clear hx
  clear hmf
  go_wp2
  go_ret
  exact ⟨rfl, E5.out⟩
end Go.Proofs.YtegjcikofmphjaaGreatDoor

