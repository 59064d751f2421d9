import Derived.Test.YtgnogdncoljldaaGreatQRe
import Derived.Test.YtgnogdncoljldaaGreatQMs
import Derived.Test.YtgnogdncoljldaaGreatQEd1
import Derived.Test.YtgnogdncoljldaaGreatQEd9
set_option linter.all false
set_option autoImplicit false
namespace Go.Proofs.YtgnogdncoljldaaGreat
open Go Go.RowKit Go.Shelf
def fitK (k : Nat) (z : Int) : Bool := decide ((digs z.natAbs).length ≤ k)
theorem lS_eq : ((B32 ^ 20 : Nat) : Int) = Sx.lS := by decide
theorem signOf_calls (va vb vc : Value) (a b c : Int) (w : World) (ha : ZNum w.heap.size w va a) (hb : ZNum w.heap.size w vb b) (hc : ZNum w.heap.size w vc c) (h0 : 0 ≤ c) (la : a.natAbs < B32 ^ 20) (lb : b.natAbs < B32 ^ 20) (lc : c.natAbs < B32 ^ 20) :
  Calls Tryz.prog 112 #[va, vb, vc] w fun e w' => e = .returned (.int .i64 (RM.sideZ a b c)) ∧ Ext w w' := by
 have := lS_eq
 exact Sx.vsign_c va vb vc a b c w ha hb hc (by omega) (by omega) (by omega) (by omega) h0 (by omega)
theorem short20_tree : Sx.vals (Sx.execF Tryz.prog (Sx.ctInt [Sx.niRightR 123]) 20 68 [.agg (Sx.numV (.var 0) 0), .c (.int .i64 (.var 1))] (Sx.startN 1 ⟨[], [], 0⟩)) = .leaf (.c (.bool (.not (.lt (.var 1) (.app 999 (.cons (.var 0) .nil)))))) := by kernel_rfl
theorem short_z (v : Value) (z : Int) (k : Nat) (kI : Int) (hk : kI = (k : Int)) (w : World) (h : ZNum w.heap.size w v z) : Calls Tryz.prog 68 #[v, .int .i64 kI] w fun e w' => e = .returned (.bool (fitK k z)) ∧ Ext w w' := by
 obtain ⟨⟨s0, rfl, u0⟩, z0⟩ := h
 refine @Sx.calls_numV Tryz.prog Sx.IR (Sx.envOf [z, kI] []) Sx.mixedR Sx.nocountR rfl _ (Sx.ctInt_ok rfl fun e he => ?_) 20 68 [.agg (Sx.numV (.var 0) 0), .c (.int .i64 (.var 1))] 1 ⟨[], [], 0⟩ [s0] _ w _ _ (fun _ h => nomatch h)
   ⟨(fun _ h => nomatch h), (fun _ h => nomatch h), fun _ h => absurd h (Nat.not_lt_zero _)⟩ rfl (fun i v h => ?_) rfl (fun β hβ => ?_) short20_tree ⟨rfl, ?_⟩
 ·simp only [List.mem_cons, List.not_mem_nil, or_false] at he; subst he; exact Sx.vright_c
 ·match i, h with
  | 0, h => injection h with h; subst h; exact ⟨u0, z0⟩
 ·have h0 := hβ 0 s0 rfl
  simp only [List.map_cons, List.map_nil, Sx.V.den, Sx.cellsOf, Sx.numV, Sx.C.den, h0]
  rfl
 ·show Value.bool (!decide (kI < ((digs z.natAbs).length : Int))) = .bool (fitK k z)
  unfold fitK
  subst hk
  congr 1
  by_cases h : (digs z.natAbs).length ≤ k
  ·rw [decide_eq_true h, decide_eq_false (by omega)]; rfl
  ·rw [decide_eq_false h, decide_eq_true (by omega)]; rfl
theorem ent_s1 (args : Array Value) (w : World) : (callFunc 204 args).run Tryz.prog w = .ok (.enter 204 args) w := enters_of Tryz.func204 (by kernel_rfl) rfl args w
theorem fitK_lim {k : Nat} {z : Int} (h : fitK k z = true) : z.natAbs < B32 ^ k := by
 unfold fitK at h
 exact digs_len.1 (by simpa using h)
set_option maxRecDepth 100000 in
set_option maxHeartbeats 2000000 in
theorem sign1_calls (g h k : Nat) (na nb nc : Bool) (p q s : Option Addr) (n n2 m m2 l l2 : Nat) (a b c : Int) (w : World) (ra : RowAt w g 36 (numCells na p n n2)) (rb : RowAt w h 36 (numCells nb q m m2)) (rc : RowAt w k 36 (numCells nc s l l2))
  (ha : ZNum w.heap.size w (.agg #[.bool na, .slice p n n2]) a) (hb : ZNum w.heap.size w (.agg #[.bool nb, .slice q m m2]) b) (hc : ZNum w.heap.size w (.agg #[.bool nc, .slice s l l2]) c) (h0 : 0 ≤ c) (la : a.natAbs < B32 ^ 20) (lb : b.natAbs < B32 ^ 20) (lc : c.natAbs < B32 ^ 20) :
  Calls Tryz.prog 204 #[.pointer (some ⟨g, 0, none⟩), .pointer (some ⟨h, 0, none⟩), .pointer (some ⟨k, 0, none⟩)] w fun e w' => e = .returned (.int .i64 (RM.sideZ a b c)) ∧ Ext w w' := by
 have HC := Lib.hid (signOf_calls _ _ _ a b c w ha hb hc h0 la lb lc)
 have c0 := ra.num0
 have c1 := ra.num1
 have c2 := rb.num0
 have c3 := rb.num1
 have c4 := rc.num0
 have c5 := rc.num1
 clear ra rb rc ha hb hc h0 la lb lc
 go_enter Tryz.func204, Tryz.ntmps204
 go_wp2_with fail
 refine HC.out.mono ?_
 rintro e w1 ⟨rfl, hx⟩
 have X := Lib.hid hx
 clear hx
 go_wp2
 go_ret
 exact ⟨rfl, X.out⟩
set_option maxRecDepth 100000 in
set_option maxHeartbeats 4000000 in
theorem sign_ok (va vb vc : Value) (a b c : Int) (w : World) (ha : ZNum w.heap.size w va a) (hb : ZNum w.heap.size w vb b) (hc : ZNum w.heap.size w vc c) (h0 : 0 ≤ c) (la : fitK 20 a = true) (lb : fitK 20 b = true) (lc : fitK 20 c = true) :
  Calls Tryz.prog 190 #[va, vb, vc] w fun e w' => e = .returned (.int .i64 (RM.sideZ a b c)) ∧ Ext w w' := by
 obtain ⟨p, k, rfl⟩ := ha.parts
 obtain ⟨q, k2, rfl⟩ := hb.parts
 obtain ⟨s, k3, rfl⟩ := hc.parts
 have d0 : decide (c < 0) = false := by simp; omega
 rw [d0] at hc ⊢
 have FA := Lib.hid la
 have FB := Lib.hid lb
 have FC := Lib.hid lc
 have H0 := Lib.hid h0
 have ZA := Lib.hid ha
 have ZB := Lib.hid hb
 have ZC := Lib.hid hc
 have E := Lib.hid (Ext.refl w)
 generalize decide (a < 0) = na at *
 generalize decide (b < 0) = nb at *
 generalize (digs a.natAbs).length = n at *
 generalize (digs b.natAbs).length = m at *
 generalize (digs c.natAbs).length = l at *
 generalize hrr : RM.sideZ a b c = rr at *
 have Hrr := Lib.hid hrr
 clear ha hb hc h0 la lb lc d0 hrr
 obtain ⟨W0a, hW0a⟩ : ∃ W0a, W0a = (((w.alloc (.cells #[.bool na, .slice p n k] 36)).alloc (.cells #[.bool nb, .slice q m k2] 36)).alloc (.cells #[.bool false, .slice s l k3] 36)) := ⟨_, rfl⟩
 have hx : Ext w W0a := by rw [hW0a]; exact (((Ext.alloc _ _).trans (Ext.alloc _ _)).trans (Ext.alloc _ _))
 have A_n : RowAt W0a (w.heap.size) 36 (numCells na p n k) := by rw [hW0a]; exact (((RowAt.new' _ _ (by simp)).alloc _).alloc _)
 have B_n : RowAt W0a (w.heap.size + 1) 36 (numCells nb q m k2) := by rw [hW0a]; exact ((RowAt.new' _ _ (by simp)).alloc _)
 have C_n : RowAt W0a (w.heap.size + 1 + 1) 36 (numCells false s l k3) := by rw [hW0a]; exact (RowAt.new' _ _ (by simp))
 have ZA1 := Lib.hid (hx.num ZA.out)
 have ZB1 := Lib.hid (hx.num ZB.out)
 have ZC1 := Lib.hid (hx.num ZC.out)
 have E1 := Lib.hid (E.out.trans hx)
 clear ZA ZB ZC E
 have A_1 := Lib.hid A_n
 have B_1 := Lib.hid B_n
 have C_1 := Lib.hid C_n
 have HW0a := Lib.hid hW0a
 clear hx hW0a A_n B_n C_n
 go_enter Tryz.func190, Tryz.ntmps190
 go_wp2_with fail
 rw [← HW0a.out]
 refine (short_z _ a 20 20 rfl W0a ZA1.out).mono ?_
 rintro e w2_ ⟨rfl, hx⟩
 have ZA2 := Lib.hid (hx.num ZA1.out)
 have ZB2 := Lib.hid (hx.num ZB1.out)
 have ZC2 := Lib.hid (hx.num ZC1.out)
 have E2 := Lib.hid (E1.out.trans hx)
 have A_2 := Lib.hid (hx.row A_1.out)
 have B_2 := Lib.hid (hx.row B_1.out)
 have C_2 := Lib.hid (hx.row C_1.out)
 clear ZA1 ZB1 ZC1 E1 A_1 B_1 C_1
 clear hx
 rw [FA.out]
 have cB__num0_2 := B_2.out.num0
 have cB__num1_2 := B_2.out.num1
 go_wp2_with fail
 refine (short_z _ b 20 20 rfl w2_ ZB2.out).mono ?_
 rintro e w3_ ⟨rfl, hx⟩
 clear cB__num0_2 cB__num1_2
 have ZA3 := Lib.hid (hx.num ZA2.out)
 have ZB3 := Lib.hid (hx.num ZB2.out)
 have ZC3 := Lib.hid (hx.num ZC2.out)
 have E3 := Lib.hid (E2.out.trans hx)
 have A_3 := Lib.hid (hx.row A_2.out)
 have B_3 := Lib.hid (hx.row B_2.out)
 have C_3 := Lib.hid (hx.row C_2.out)
 clear ZA2 ZB2 ZC2 E2 A_2 B_2 C_2
 clear hx
 rw [FB.out]
 have cC__num0_3 := C_3.out.num0
 have cC__num1_3 := C_3.out.num1
 go_wp2_with fail
 refine (short_z _ c 20 20 rfl w3_ ZC3.out).mono ?_
 rintro e w4_ ⟨rfl, hx⟩
 clear cC__num0_3 cC__num1_3
 have ZA4 := Lib.hid (hx.num ZA3.out)
 have ZB4 := Lib.hid (hx.num ZB3.out)
 have ZC4 := Lib.hid (hx.num ZC3.out)
 have E4 := Lib.hid (E3.out.trans hx)
 have A_4 := Lib.hid (hx.row A_3.out)
 have B_4 := Lib.hid (hx.row B_3.out)
 have C_4 := Lib.hid (hx.row C_3.out)
 clear ZA3 ZB3 ZC3 E3 A_3 B_3 C_3
 clear hx
 rw [FC.out]
 have cC__num0_4 := C_4.out.num0
 have cC__num1_4 := C_4.out.num1
 have hmf : ∀ (fn : Fn) (first cap : Array Value) (w : World), (Instr.makeFunc fn first cap).run Tryz.prog w = .ok (.func fn first cap) w := fun _ _ _ _ => rfl
 go_wp2_with fail
 refine (settle_calls 204 #[.pointer (some ⟨w.heap.size, 0, none⟩), .pointer (some ⟨w.heap.size + 1, 0, none⟩), .pointer (some ⟨w.heap.size + 1 + 1, 0, none⟩)] rr w4_ ent_s1 (fun W hW => by
   have h := sign1_calls w.heap.size (w.heap.size + 1) (w.heap.size + 1 + 1) na nb false p q s n k m k2 l k3 a b c W (hW.row A_4.out) (hW.row B_4.out) (hW.row C_4.out) (hW.num ZA4.out) (hW.num ZB4.out) (hW.num ZC4.out) H0.out (fitK_lim FA.out) (fitK_lim FB.out) (fitK_lim FC.out)
   rw [Hrr.out] at h
   exact h)).mono ?_
 rintro e w5_ ⟨rfl, hx⟩
 clear cC__num0_4 cC__num1_4
 have ZA5 := Lib.hid (hx.num ZA4.out)
 have ZB5 := Lib.hid (hx.num ZB4.out)
 have ZC5 := Lib.hid (hx.num ZC4.out)
 have E5 := Lib.hid (E4.out.trans hx)
 have A_5 := Lib.hid (hx.row A_4.out)
 have B_5 := Lib.hid (hx.row B_4.out)
 have C_5 := Lib.hid (hx.row C_4.out)
 clear ZA4 ZB4 ZC4 E4 A_4 B_4 C_4
 clear hx
 clear hmf
 go_wp2
 go_ret
 exact ⟨rfl, E5.out⟩
end Go.Proofs.YtgnogdncoljldaaGreat
set_option autoImplicit false
namespace Go.Proofs.YtgnogdncoljldaaGreat.Sx
open Go Go.RowKit
def ordZ (bd d sd t b u : Int) : Int := sgS (t * d - b * bd) sd u
def withinP (ax ay dx dy sx sy t b u x0 y0 x1 y1 : Int) : Prop :=
 0 ≤ ordZ (x0 - ax) dx sx t b u ∧ ordZ (x1 - ax) dx sx t b u ≤ 0 ∧ 0 ≤ ordZ (y0 - ay) dy sy t b u ∧ ordZ (y1 - ay) dy sy t b u ≤ 0
instance (ax ay dx dy sx sy t b u x0 y0 x1 y1 : Int) : Decidable (withinP ax ay dx dy sx sy t b u x0 y0 x1 y1) := by unfold withinP; infer_instance
def endsL (on : Int × Int → Bool) : List (Int × Int) → List (Int × Int) → List (Int × Int)
 | [], acc => acc
 | p :: r, acc => endsL on r (if on p = true ∧ p ∉ acc then acc ++ [p] else acc)
def onB (k ax ay bx by' cx cy k2 px py qx qy rx ry : Int) (z : Int × Int) : Bool := decide (onP k ax ay bx by' cx cy z.1 z.2 ∧ onP k2 px py qx qy rx ry z.1 z.2)
def endsZ (k ax ay bx by' cx cy k2 px py qx qy rx ry : Int) : Int :=
 if 1 < (endsL (onB k ax ay bx by' cx cy k2 px py qx qy rx ry) [(ax, ay), (bx, by'), (px, py), (qx, qy)] []).length then -1
 else (endsL (onB k ax ay bx by' cx cy k2 px py qx qy rx ry) [(ax, ay), (bx, by'), (px, py), (qx, qy)] []).length
def tlM : List T → T
 | [] => .nil
 | a :: r => .cons a (tlM r)
end Go.Proofs.YtgnogdncoljldaaGreat.Sx

