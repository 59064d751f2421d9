/- Texts that belong together. -/
import Derived.Test.YtegjcikofmphjaaGreatDoorQRootL
set_option linter.all false
/- Layer 2: Of. -/
namespace Go.Proofs.YtegjcikofmphjaaGreatDoor
open Go Go.RowKit Go.Shelf
def ofN (s zn zd : Int) : Int := if s = 0 then 0 else zn / gcdZ zn zd
def ofD (s zn zd : Int) : Int := if s = 0 then 1 else zd / gcdZ zn zd
def fitK (k : Nat) (z : Int) : Bool := decide ((digs z.natAbs).length ≤ k)
abbrev fit8 (z : Int) : Bool := fitK 8 z
def OfPost (w : World) (a s zn zd : Int) (e : Ending) (w' : World) : Prop :=
  Ext w w' ∧ if fit8 (ofN s zn zd) && fit8 (ofD s zn zd) then ∃ v, e = .returned (.tuple #[v, .bool true]) ∧ RootV w' v a (s * (ofN s zn zd).sign) (ofN s zn zd) (ofD s zn zd) else e = .returned (.tuple #[root0, .bool false])
def ofF (a s z : Int) (vn vd vr : Value) : Nat → Value → World → Prop
  | 0, v, _ => v = .int .i64 a
  | 1, v, _ => v = .int .i64 s
  | 2, v, _ => v = vn
  | 3, v, _ => v = .int .i64 (zcmp z 0)
  | 4, v, _ => v = .int .i64 (s * z.sign)
  | 5, v, _ => v = vn
  | 6, v, _ => v = vd
  | 7, v, _ => v = vr
  | _, _, _ => True
theorem ofF_mono {a s z : Int} {vn vd vr : Value} {W W' : World} (hx : Ext W W') (j : Nat) (v : Value) (h : ofF a s z vn vd vr j v W) : ofF a s z vn vd vr j v W' := by
  match j, h with
  | 0, h | 1, h | 2, h | 3, h | 4, h | 5, h | 6, h | 7, h => exact h
  | _ + 8, _ => trivial
theorem sg_mul {s z : Int} (h1 : -1 ≤ s) (h2 : s ≤ 1) : IntKind.i64.wrap (s * zcmp z 0) = s * z.sign := by
  rw [zcmp_sign, IntKind.wrap_i64]
  have : z.sign = -1 ∨ z.sign = 0 ∨ z.sign = 1 := by
    rcases Int.lt_trichotomy z 0 with h | h | h
    · exact .inl (Int.sign_eq_neg_one_of_neg h)
    · exact .inr (.inl (by rw [h]; rfl))
    · exact .inr (.inr (Int.sign_eq_one_of_pos h))
  have h3 : s = -1 ∨ s = 0 ∨ s = 1 := by omega
  rcases this with e | e | e <;> rcases h3 with k | k | k <;> rw [e, k] <;> decide
set_option maxRecDepth 100000 in
set_option maxHeartbeats 2000000 in
theorem of_fails (a s : Int) (nn : Bool) (p : Option Addr) (n c : Nat) (dn : List Nat) (nd : Bool) (q : Option Addr) (m c2 : Nat) (dd : List Nat) (w : World) (hn : U32s w.heap.size w (.slice p n c) dn) (hd : U32s w.heap.size w (.slice q m c2) dd)
    (hno : ¬ (-1 ≤ s ∧ s ≤ 1 ∧ (rightB nn dn && (rightB nd dd && (!nn && (!nd && decide (0 < m))))) = true)) :
    Calls Tryz.prog 13 #[.int .i64 a, .int .i64 s, .agg #[.bool nn, .slice p n c], .agg #[.bool nd, .slice q m c2]] w fun e w' => e = .returned (.tuple #[root0, .bool false]) ∧ Ext w w' := by
  generalize hfr : (rightB nn dn && (rightB nd dd && (!nn && (!nd && decide (0 < m))))) = fr at *
  have Hfr := Lib.hid hfr
  have HN := Lib.hid hn
  have HD := Lib.hid hd
  have E := Lib.hid (Ext.refl w)
  clear hn hd hfr
  obtain ⟨W0a, hW0a⟩ : ∃ W0a, W0a = (((w.alloc (.cells #[.bool nn, .slice p n c] 25)).alloc (.cells #[.bool nd, .slice q m c2] 25)).alloc (.cells #[.int .i64 0, .int .i64 0, .bool false, .slice none 0 0, .bool false, .slice none 0 0] 32)) := ⟨_, rfl⟩
  have hx : Ext w W0a := by rw [hW0a]; exact (((Ext.alloc _ _).trans (Ext.alloc _ _)).trans (Ext.alloc _ _))
  have A_n : RowAt W0a (w.heap.size) 25 (numCells nn p n c) := by rw [hW0a]; exact (((RowAt.new' _ _ (by simp)).alloc _).alloc _)
  have B_n : RowAt W0a (w.heap.size + 1) 25 (numCells nd q m c2) := by rw [hW0a]; exact ((RowAt.new' _ _ (by simp)).alloc _)
  have P_n : RowAt W0a (w.heap.size + 1 + 1) 32 (rootCells 0 0 false none 0 0 false none 0 0) := by rw [hW0a]; exact (RowAt.new' _ _ (by simp))
  have HN1 := Lib.hid (hx.u32s HN.out)
  have HD1 := Lib.hid (hx.u32s HD.out)
  have E1 := Lib.hid (E.out.trans hx)
  clear HN HD E
  have A_1 := Lib.hid A_n
  have B_1 := Lib.hid B_n
  have P_1 := Lib.hid P_n
  have HW0a := Lib.hid hW0a
  clear hx hW0a A_n B_n P_n
  by_cases hs1 : s < -1
  · clear hno
    go_enter Tryz.func13, Tryz.ntmps13
    go_upto_region 2 with fail
    rw [← HW0a.out]
    go_wp2_with (refine store_root rfl (.tmp 8) _ rfl _ rfl 0 0 false none 0 0 false none 0 0 rfl _ _ P_1.out rfl ?_)
    exact ret_root rfl _ rfl _ rfl _ _ _ _ _ _ _ _ _ _ _ (P_1.out.setRow _) ⟨rfl, ext_setRow E1.out (by omega) _⟩
  · have hs1n : ¬ s < -1 := hs1
    by_cases hs2 : s > 1
    · clear hno
      have hs2g : (1 : Int) < s := hs2
      go_enter Tryz.func13, Tryz.ntmps13
      go_upto_region 2 with fail
      rw [← HW0a.out]
      go_wp2_with (refine store_root rfl (.tmp 8) _ rfl _ rfl 0 0 false none 0 0 false none 0 0 rfl _ _ P_1.out rfl ?_)
      exact ret_root rfl _ rfl _ rfl _ _ _ _ _ _ _ _ _ _ _ (P_1.out.setRow _) ⟨rfl, ext_setRow E1.out (by omega) _⟩
    · have hs2n : ¬ (1 : Int) < s := hs2
      have hfr0 : fr = false := by
        cases fr
        · rfl
        · exact absurd ⟨by omega, by omega, rfl⟩ hno
      clear hno hs1 hs2
      go_enter Tryz.func13, Tryz.ntmps13
      go_wp2_with fail
      rw [← HW0a.out]
      refine (fraction_calls nn p n c dn nd q m c2 dd W0a HN1.out HD1.out).mono ?_
      rintro e w2_ ⟨rfl, hx⟩
      have HN2 := Lib.hid (hx.u32s HN1.out)
      have HD2 := Lib.hid (hx.u32s HD1.out)
      have E2 := Lib.hid (E1.out.trans hx)
      have A_2 := Lib.hid (hx.row A_1.out)
      have B_2 := Lib.hid (hx.row B_1.out)
      have P_2 := Lib.hid (hx.row P_1.out)
      clear HN1 HD1 E1 A_1 B_1 P_1
      clear hx
      rw [Hfr.out, hfr0]
      clear Hfr hfr0
      go_wp2_with (refine store_root rfl (.tmp 8) _ rfl _ rfl 0 0 false none 0 0 false none 0 0 rfl _ _ P_2.out rfl ?_)
      exact ret_root rfl _ rfl _ rfl _ _ _ _ _ _ _ _ _ _ _ (P_2.out.setRow _) ⟨rfl, ext_setRow E2.out (by omega) _⟩
theorem short_z (v : Value) (z : Int) (k : Nat) (kI : Int) (hk : kI = (k : Int)) (w : World) (h : ZNum w.heap.size w v z) : Calls Tryz.prog 38 #[v, .int .i64 kI] w fun e w' => e = .returned (.bool (fitK k z)) ∧ Ext w w' := by
  subst hk
  obtain ⟨p, c, rfl⟩ := h.parts
  have := short_calls (decide (z < 0)) p (digs z.natAbs).length c (digs z.natAbs) k w (znum_slice h)
  rw [rightB_z h.2, Bool.true_and] at this
  exact this
theorem fraction_z (va vb : Value) (zn zd : Int) (w : World) (ha : ZNum w.heap.size w va zn) (hb : ZNum w.heap.size w vb zd) : Calls Tryz.prog 35 #[va, vb] w fun e w' => e = .returned (.bool (decide (0 ≤ zn) && decide (0 < zd))) ∧ Ext w w' := by
  obtain ⟨p, c, rfl⟩ := ha.parts
  obtain ⟨q, c2, rfl⟩ := hb.parts
  have := fraction_calls (decide (zn < 0)) p (digs zn.natAbs).length c (digs zn.natAbs) (decide (zd < 0)) q (digs zd.natAbs).length c2 (digs zd.natAbs) w (znum_slice ha) (znum_slice hb)
  rw [rightB_z ha.2, rightB_z hb.2, Bool.true_and, Bool.true_and] at this
  have e : (!decide (zn < 0) && (!decide (zd < 0) && decide (0 < (digs zd.natAbs).length))) = (decide (0 ≤ zn) && decide (0 < zd)) := by
    have h0 : (0 < (digs zd.natAbs).length) ↔ zd.natAbs ≠ 0 := by
      rw [Nat.pos_iff_ne_zero, ne_eq, List.length_eq_zero_iff, digs_nil_iff]
    rw [Bool.eq_iff_iff]
    simp [h0]
    omega
  rw [e] at this
  exact this
theorem gcdZ_01 : gcdZ 0 1 = 1 := rfl
theorem U32s.setRoot {B : Nat} {w : World} {v : Value} {ds : List Nat} {g : Nat} {t : TypeId} {a s : Int} {nn : Bool} {p : Option Addr} {n c : Nat} {nd : Bool} {q : Option Addr} {m e : Nat} (h : U32s B w v ds) (hr : RowAt w g t (rootCells a s nn p n c nd q m e)) (cs : Array Value) : U32s B (w.setRow g cs) v ds := by
  obtain ⟨q, cap, rfl, hl, hc⟩ := h
  refine ⟨q, cap, rfl, hl, fun h0 => ?_⟩
  obtain ⟨b, off, rfl, hb, hcs⟩ := hc h0
  have hne : b ≠ g := fun e => by
    subst e
    have h1 := hcs 0 h0
    rw [hr.cell, Nat.add_zero] at h1
    rcases off with _ | _ | _ | _ | _ | _ | k <;> cases h1
  exact ⟨b, off, rfl, hb, fun j hj => (World.cell?_of_block (setRow_other w g b cs hne)).trans (hcs j hj)⟩
theorem ZNum.setRoot {B : Nat} {w : World} {v : Value} {z : Int} {g : Nat} {t : TypeId} {a s : Int} {nn : Bool} {p : Option Addr} {n c : Nat} {nd : Bool} {q : Option Addr} {m e : Nat} (h : ZNum B w v z) (hr : RowAt w g t (rootCells a s nn p n c nd q m e)) (cs : Array Value) : ZNum B (w.setRow g cs) v z := by
  obtain ⟨⟨s, rfl, hu⟩, hl⟩ := h
  exact ⟨⟨s, rfl, hu.setRoot hr cs⟩, hl⟩
set_option maxRecDepth 100000 in
set_option maxHeartbeats 8000000 in
theorem rootOf_one (va vb : Value) (a s zn zd : Int) (w : World) (ha : ZNum w.heap.size w va zn) (hb : ZNum w.heap.size w vb zd) (h0 : 0 ≤ zn) (h1 : 0 < zd) (hs : -1 ≤ s) (hs' : s ≤ 1) (hs0 : s ≠ 0) :
    Calls Tryz.prog 13 #[.int .i64 a, .int .i64 s, va, vb] w (OfPost w a s zn zd) := by
  obtain ⟨p, c, rfl⟩ := ha.parts
  obtain ⟨q, c2, rfl⟩ := hb.parts
  have d0 : decide (zn < 0) = false := by simp; omega
  have d1 : decide (zd < 0) = false := by simp; omega
  rw [d0] at ha ⊢
  rw [d1] at hb ⊢
  generalize (digs zn.natAbs).length = n at *
  generalize (digs zd.natAbs).length = m at *
  have Hfr : Hid ((decide (0 ≤ zn) && decide (0 < zd)) = true) := by show _ = true; simp [h0, h1]
  have H01 := Lib.hid (And.intro h0 h1)
  have Hsr := Lib.hid (And.intro hs hs')
  have ZA := Lib.hid ha
  have ZB := Lib.hid hb
  have E := Lib.hid (Ext.refl w)
  obtain ⟨N, hN⟩ : ∃ N, N = ofN s zn zd := ⟨_, rfl⟩
  obtain ⟨M, hM⟩ : ∃ M, M = ofD s zn zd := ⟨_, rfl⟩
  have hN' := hN
  have hM' := hM
  unfold ofN at hN'
  unfold ofD at hM'
  obtain ⟨R, hR⟩ : ∃ R, R = OfPost w a s zn zd := ⟨_, rfl⟩
  rw [← hR]
  have HRf : Hid (∀ (W : World) (g : Nat) (cs : Array Value), Ext w W → w.heap.size ≤ g → (fit8 N && fit8 M) = false → R (.returned (.tuple #[root0, .bool false])) (W.setRow g cs)) := by
    intro W g cs h1 h2 h3
    rw [hR]
    refine ⟨ext_setRow h1 h2 _, ?_⟩
    rw [← hN, ← hM, h3]
    rfl
  have HRs : Hid (∀ (W : World) (g : Nat) (cs : Array Value) (p5 : Option Addr) (n5 c5 : Nat) (p6 : Option Addr) (n6 c6 : Nat), Ext w W → w.heap.size ≤ g → (fit8 N && fit8 M) = true → ZNum W.heap.size (W.setRow g cs) (.agg #[.bool false, .slice p5 n5 c5]) N → ZNum W.heap.size (W.setRow g cs) (.agg #[.bool false, .slice p6 n6 c6]) M → R (.returned (.tuple #[.agg #[.int .i64 a, .int .i64 (s * N.sign), .bool false, .slice p5 n5 c5, .bool false, .slice p6 n6 c6], .bool true])) (W.setRow g cs)) := by
    intro W g cs p5 n5 c5 p6 n6 c6 h1 h2 h3 h4 h5
    rw [hR]
    refine ⟨ext_setRow h1 h2 _, ?_⟩
    rw [← hN, ← hM, h3]
    exact ⟨_, rfl, _, _, _, _, _, _, rfl, by rw [setRow_size]; exact h4, by rw [setRow_size]; exact h5⟩
  have Hs0 := Lib.hid hs0
  rw [if_neg hs0] at hN' hM'
  have HN := Lib.hid hN'
  have HM := Lib.hid hM'
  have hl1 : ¬ s < -1 := by omega
  have hl2 : ¬ (1 : Int) < s := by omega
  clear ha hb d0 d1 h0 h1 hs hs' hN hM hN' hM' hR
  obtain ⟨W0a, hW0a⟩ : ∃ W0a, W0a = (((w.alloc (.cells #[.bool false, .slice p n c] 25)).alloc (.cells #[.bool false, .slice q m c2] 25)).alloc (.cells #[.int .i64 0, .int .i64 0, .bool false, .slice none 0 0, .bool false, .slice none 0 0] 32)) := ⟨_, rfl⟩
  have hx : Ext w W0a := by rw [hW0a]; exact (((Ext.alloc _ _).trans (Ext.alloc _ _)).trans (Ext.alloc _ _))
  have A_n : RowAt W0a (w.heap.size) 25 (numCells false p n c) := by rw [hW0a]; exact (((RowAt.new' _ _ (by simp)).alloc _).alloc _)
  have B_n : RowAt W0a (w.heap.size + 1) 25 (numCells false q m c2) := by rw [hW0a]; exact ((RowAt.new' _ _ (by simp)).alloc _)
  have P_n : RowAt W0a (w.heap.size + 1 + 1) 32 (rootCells 0 0 false none 0 0 false none 0 0) := by rw [hW0a]; exact (RowAt.new' _ _ (by simp))
  have ZA1 := Lib.hid (hx.num ZA.out)
  have ZB1 := Lib.hid (hx.num ZB.out)
  have E1 := Lib.hid (E.out.trans hx)
  clear ZA ZB E
  have A_1 := Lib.hid A_n
  have B_1 := Lib.hid B_n
  have P_1 := Lib.hid P_n
  have HW0a := Lib.hid hW0a
  clear hx hW0a A_n B_n P_n
  go_enter Tryz.func13, Tryz.ntmps13
  go_wp2_with fail
  rw [← HW0a.out]
  refine (fraction_z _ _ zn zd W0a ZA1.out ZB1.out).mono ?_
  rintro e w2_ ⟨rfl, hx⟩
  have ZA2 := Lib.hid (hx.num ZA1.out)
  have ZB2 := Lib.hid (hx.num ZB1.out)
  have E2 := Lib.hid (E1.out.trans hx)
  have A_2 := Lib.hid (hx.row A_1.out)
  have B_2 := Lib.hid (hx.row B_1.out)
  have P_2 := Lib.hid (hx.row P_1.out)
  clear ZA1 ZB1 E1 A_1 B_1 P_1
  clear hx
  rw [Hfr.out]
  have hs0b : (s == 0) = false := by simpa using Hs0.out
  have cA__num0_2 := A_2.out.num0
  have cA__num1_2 := A_2.out.num1
  have cB__num0_2 := B_2.out.num0
  have cB__num1_2 := B_2.out.num1
  go_wp2_with fail
  refine (lowest_calls _ _ zn zd w2_ ZA2.out ZB2.out H01.out.1 H01.out.2).mono ?_
  rintro e w3_ ⟨p5, n5, c5, p6, n6, c6, rfl, hz, hz6, hx⟩
  clear cA__num0_2 cA__num1_2 cB__num0_2 cB__num1_2
  have ZA3 := Lib.hid (hx.num ZA2.out)
  have ZB3 := Lib.hid (hx.num ZB2.out)
  have E3 := Lib.hid (E2.out.trans hx)
  have A_3 := Lib.hid (hx.row A_2.out)
  have B_3 := Lib.hid (hx.row B_2.out)
  have P_3 := Lib.hid (hx.row P_2.out)
  clear ZA2 ZB2 E2 A_2 B_2 P_2
  have ZQ3 := Lib.hid hz
  have ZR3 := Lib.hid hz6
  clear hx hz hz6
  obtain ⟨W3c, hW3c⟩ : ∃ W3c, W3c = w3_.setRow (w.heap.size) (numCells false p5 n5 c5) := ⟨_, rfl⟩
  have ZA4 := Lib.hid (show ZNum W3c.heap.size W3c _ _ from by rw [hW3c, setRow_size]; exact ZA3.out.setNum A_3.out _)
  have ZB4 := Lib.hid (show ZNum W3c.heap.size W3c _ _ from by rw [hW3c, setRow_size]; exact ZB3.out.setNum A_3.out _)
  have E4 : Hid (Ext w W3c) := by rw [hW3c]; exact ext_setRow E3.out (Nat.le_refl _) _
  have A_4 : Hid (RowAt W3c (w.heap.size) 25 (numCells false p5 n5 c5)) := by rw [hW3c]; exact A_3.out.setRow _
  have B_4 := Lib.hid (show RowAt W3c (w.heap.size + 1) _ _ from by rw [hW3c]; exact B_3.out.setRowOther _ (by omega))
  have P_4 := Lib.hid (show RowAt W3c (w.heap.size + 1 + 1) _ _ from by rw [hW3c]; exact P_3.out.setRowOther _ (by omega))
  have ZQ4 := Lib.hid (show ZNum W3c.heap.size W3c _ _ from by rw [hW3c, setRow_size]; exact ZQ3.out.setNum A_3.out _)
  have ZR4 := Lib.hid (show ZNum W3c.heap.size W3c _ _ from by rw [hW3c, setRow_size]; exact ZR3.out.setNum A_3.out _)
  have HW3c := Lib.hid hW3c
  clear hW3c ZA3 ZB3 E3 B_3 P_3 ZQ3 ZR3
  obtain ⟨W4c, hW4c⟩ : ∃ W4c, W4c = W3c.setRow (w.heap.size + 1) (numCells false p6 n6 c6) := ⟨_, rfl⟩
  have ZA5 := Lib.hid (show ZNum W4c.heap.size W4c _ _ from by rw [hW4c, setRow_size]; exact ZA4.out.setNum B_4.out _)
  have ZB5 := Lib.hid (show ZNum W4c.heap.size W4c _ _ from by rw [hW4c, setRow_size]; exact ZB4.out.setNum B_4.out _)
  have E5 : Hid (Ext w W4c) := by rw [hW4c]; exact ext_setRow E4.out (Nat.le_succ _) _
  have A_5 := Lib.hid (show RowAt W4c (w.heap.size) _ _ from by rw [hW4c]; exact A_4.out.setRowOther _ (by omega))
  have B_5 : Hid (RowAt W4c (w.heap.size + 1) 25 (numCells false p6 n6 c6)) := by rw [hW4c]; exact B_4.out.setRow _
  have P_5 := Lib.hid (show RowAt W4c (w.heap.size + 1 + 1) _ _ from by rw [hW4c]; exact P_4.out.setRowOther _ (by omega))
  have ZQ5 := Lib.hid (show ZNum W4c.heap.size W4c _ _ from by rw [hW4c, setRow_size]; exact ZQ4.out.setNum B_4.out _)
  have ZR5 := Lib.hid (show ZNum W4c.heap.size W4c _ _ from by rw [hW4c, setRow_size]; exact ZR4.out.setNum B_4.out _)
  have HW4c := Lib.hid hW4c
  clear hW4c ZA4 ZB4 E4 A_4 P_4 ZQ4 ZR4
  have ZQx := Lib.hid (show ZNum W4c.heap.size W4c _ N from by rw [HN.out]; exact ZQ5.out)
  have ZRx := Lib.hid (show ZNum W4c.heap.size W4c _ M from by rw [HM.out]; exact ZR5.out)
  clear ZQ5 ZR5
  have cA__num0_5 := A_5.out.num0
  have cA__num1_5 := A_5.out.num1
  go_wp2_with (first | (refine store_num rfl (.tmp 6) (.tmp 31) rfl (w.heap.size) rfl _ _ _ _ rfl _ _ A_3.out rfl ?_; rw [← HW3c.out]) | (refine store_num rfl (.tmp 7) (.tmp 32) rfl (w.heap.size + 1) rfl _ _ _ _ rfl _ _ B_4.out rfl ?_; rw [← HW4c.out]))
  refine (short_z _ N 8 8 rfl W4c ZQx.out).mono ?_
  rintro e w6_ ⟨rfl, hx⟩
  clear cA__num0_5 cA__num1_5
  have ZA6 := Lib.hid (hx.num ZA5.out)
  have ZB6 := Lib.hid (hx.num ZB5.out)
  have E6 := Lib.hid (E5.out.trans hx)
  have A_6 := Lib.hid (hx.row A_5.out)
  have B_6 := Lib.hid (hx.row B_5.out)
  have P_6 := Lib.hid (hx.row P_5.out)
  have ZQ6 := Lib.hid (hx.num ZQx.out)
  have ZR6 := Lib.hid (hx.num ZRx.out)
  clear ZA5 ZB5 E5 A_5 B_5 P_5 ZQx ZRx
  clear hx
  by_cases hf1 : fitK 8 N = true
  rotate_left
  · have hf1' : fitK 8 N = false := by simpa using hf1
    rw [hf1']
    have Hf1 := Lib.hid hf1'
    clear hf1 hf1'
    go_wp2_with (refine store_root rfl (.tmp 8) _ rfl _ rfl 0 0 false none 0 0 false none 0 0 rfl _ _ P_6.out rfl ?_)
    exact ret_root rfl _ rfl _ rfl _ _ _ _ _ _ _ _ _ _ _ (P_6.out.setRow _) (HRf.out _ _ _ E6.out (by omega) (by show (fitK 8 N && fitK 8 M) = false; first | (rw [Hf1.out]; rfl) | (rw [Hf2.out]; simp)))
  rw [hf1]
  have Hf1 := Lib.hid hf1
  clear hf1
  have cB__num0_6 := B_6.out.num0
  have cB__num1_6 := B_6.out.num1
  go_wp2_with fail
  refine (short_z _ M 8 8 rfl w6_ ZR6.out).mono ?_
  rintro e w7_ ⟨rfl, hx⟩
  clear cB__num0_6 cB__num1_6
  have ZA7 := Lib.hid (hx.num ZA6.out)
  have ZB7 := Lib.hid (hx.num ZB6.out)
  have E7 := Lib.hid (E6.out.trans hx)
  have A_7 := Lib.hid (hx.row A_6.out)
  have B_7 := Lib.hid (hx.row B_6.out)
  have P_7 := Lib.hid (hx.row P_6.out)
  have ZQ7 := Lib.hid (hx.num ZQ6.out)
  have ZR7 := Lib.hid (hx.num ZR6.out)
  clear ZA6 ZB6 E6 A_6 B_6 P_6 ZQ6 ZR6
  clear hx
  by_cases hf2 : fitK 8 M = true
  rotate_left
  · have hf2' : fitK 8 M = false := by simpa using hf2
    rw [hf2']
    have Hf2 := Lib.hid hf2'
    clear hf2 hf2'
    go_wp2_with (refine store_root rfl (.tmp 8) _ rfl _ rfl 0 0 false none 0 0 false none 0 0 rfl _ _ P_7.out rfl ?_)
    exact ret_root rfl _ rfl _ rfl _ _ _ _ _ _ _ _ _ _ _ (P_7.out.setRow _) (HRf.out _ _ _ E7.out (by omega) (by show (fitK 8 N && fitK 8 M) = false; first | (rw [Hf1.out]; rfl) | (rw [Hf2.out]; simp)))
  rw [hf2]
  have Hf2 := Lib.hid hf2
  clear hf2
  go_upto_region 8 with fail
  refine wp_region_tail (fun D ac w' => ∃ vs : Nat → Value, ac = { tmps := #[Value.int IntKind.i64 a, Value.int IntKind.i64 s, Value.agg #[Value.bool false, Value.slice p n c], Value.agg #[Value.bool false, Value.slice q m c2], undef, undef, Value.pointer (some { block := w.heap.size, off := 0 }), Value.pointer (some { block := w.heap.size + 1, off := 0 }), Value.pointer (some { block := w.heap.size + 1 + 1, off := 0 }), Value.bool false, Value.int IntKind.i64 s, Value.bool false, Value.bool false, Value.int IntKind.i64 s, Value.bool false, Value.bool false, Value.bool false, Value.agg #[Value.bool false, Value.slice p n c], Value.agg #[Value.bool false, Value.slice q m c2], Value.bool true, Value.bool false, Value.bool false, undef, Value.int IntKind.i64 s, Value.bool false, undef, undef, Value.tuple #[Value.agg #[Value.bool false, Value.slice p5 n5 c5], Value.agg #[Value.bool false, Value.slice p6 n6 c6]], Value.agg #[Value.bool false, Value.slice p n c], Value.agg #[Value.bool false, Value.slice q m c2], Value.tuple #[Value.agg #[Value.bool false, Value.slice p5 n5 c5], Value.agg #[Value.bool false, Value.slice p6 n6 c6]], Value.agg #[Value.bool false, Value.slice p5 n5 c5], Value.agg #[Value.bool false, Value.slice p6 n6 c6], Value.agg #[Value.bool false, Value.slice p5 n5 c5], Value.bool true, Value.bool false, Value.bool false, Value.agg #[Value.bool false, Value.slice p6 n6 c6], Value.bool true, Value.bool false, Value.bool false, undef, vs 0, vs 1, vs 2, vs 3, vs 4, vs 5, vs 6, vs 7], defers := [] } ∧ Ext w7_ w' ∧ ∀ j, D j → ofF a s N (.agg #[.bool false, .slice p5 n5 c5]) (.agg #[.bool false, .slice p6 n6 c6]) (.agg #[.int .i64 a, .int .i64 (s * N.sign), .bool false, .slice p5 n5 c5, .bool false, .slice p6 n6 c6]) j (vs j) w') 8 (by kernel_rfl) (by kernel_rfl) (by kernel_rfl) ?start8 ?step8 ?fin8
  case start8 => exact ⟨fun _ => undef, rfl, Ext.drew _, fun _ h => h.elim⟩
  case step8 =>
    rintro i o D ac wz hin hio hnd he ⟨vs, rfl, k0, hF⟩
    rcases i with _ | _ | _ | _ | _ | _ | _ | _ | i
    rotate_left 8
    · exact absurd hin (by omega)
    all_goals (obtain rfl := Option.some.inj (hio.symm.trans (by rfl)))
    · refine step_yes (wanted_of_none rfl _) ?_
      exact wp_of_run (run_mov (.tmp 0) rfl _ rfl) ⟨upd vs 0 _, rfl, k0, inv_step hF (fun _ _ h => h) rfl⟩
    · refine step_yes (wanted_of_none rfl _) ?_
      exact wp_of_run (run_mov (.tmp 1) rfl _ rfl) ⟨upd vs 1 _, rfl, k0, inv_step hF (fun _ _ h => h) rfl⟩
    · refine step_yes (wanted_of_none rfl _) ?_
      exact wp_of_run (run_load_num (.tmp 6) rfl _ rfl _ _ _ _ _ (k0.row A_7.out)) ⟨upd vs 2 _, rfl, k0, inv_step hF (fun _ _ h => h) rfl⟩
    · refine step_yes (wanted_of_none rfl _) ?_
      refine wp_of_callE (run_enter1 39 (.tmp 44) _ rfl _ (by exact (hF 2 (he ⟨2, .data⟩ (by simp) rfl))) ent_side) (side_calls _ N wz (k0.num ZQ7.out)) ?_
      rintro e w' ⟨rfl, hx⟩
      exact ⟨_, rfl, upd vs 3 _, rfl, k0.trans hx, inv_step hF (fun j v h => ofF_mono hx j v h) rfl⟩
    · refine step_yes (wanted_of_none rfl _) ?_
      exact wp_of_run (run_mul_int (.tmp 43) (.tmp 45) rfl rfl _ _ _ (by exact (hF 1 (he ⟨1, .data⟩ (by simp) rfl))) (by exact (hF 3 (he ⟨3, .data⟩ (by simp) rfl))) (sg_mul (by first | exact Hsr.out.1 | decide) (by first | exact Hsr.out.2 | decide))) ⟨upd vs 4 _, rfl, k0, inv_step hF (fun _ _ h => h) rfl⟩
    · refine step_yes (wanted_of_none rfl _) ?_
      exact wp_of_run (run_load_num (.tmp 6) rfl _ rfl _ _ _ _ _ (k0.row A_7.out)) ⟨upd vs 5 _, rfl, k0, inv_step hF (fun _ _ h => h) rfl⟩
    · refine step_yes (wanted_of_none rfl _) ?_
      exact wp_of_run (run_load_num (.tmp 7) rfl _ rfl _ _ _ _ _ (k0.row B_7.out)) ⟨upd vs 6 _, rfl, k0, inv_step hF (fun _ _ h => h) rfl⟩
    · refine step_yes (wanted_of_none rfl _) ?_
      exact wp_of_run (run_build_root (.tmp 42) (.tmp 46) (.tmp 47) (.tmp 48) rfl _ _ _ _ _ _ _ _ _ _ (by exact (hF 0 (he ⟨0, .data⟩ (by simp) rfl))) (by exact (hF 4 (he ⟨4, .data⟩ (by simp) rfl))) (by exact (hF 5 (he ⟨5, .data⟩ (by simp) rfl))) (by exact (hF 6 (he ⟨6, .data⟩ (by simp) rfl)))) ⟨upd vs 7 _, rfl, k0, inv_step hF (fun _ _ h => h) rfl⟩
  case fin8 =>
    rintro D ac wf hD ⟨vs, rfl, k0, hF⟩
    change wpList _ _ _ [_, _] _ _
    have h7 := hF 7 (hD 7 (by decide))
    have hv7 : vs 7 = .agg #[.int .i64 a, .int .i64 (s * N.sign), .bool false, .slice p5 n5 c5, .bool false, .slice p6 n6 c6] := h7
    rw [hv7]
    have XF := Lib.hid k0
    clear hF hD h7 hv7 k0
    generalize vs = ts
    have PF := Lib.hid (XF.out.row P_7.out)
    have QF := Lib.hid (XF.out.num ZQ7.out)
    have RF := Lib.hid (XF.out.num ZR7.out)
    have EF := Lib.hid (E7.out.trans XF.out)
    go_wp2_with (refine store_root rfl (.tmp 8) (.tmp 49) rfl _ rfl _ _ _ _ _ _ _ _ _ _ rfl _ _ PF.out rfl ?_)
    go_wp2
    exact ret_root rfl _ rfl _ rfl _ _ _ _ _ _ _ _ _ _ _ (PF.out.setRow _) (HRs.out _ _ _ _ _ _ _ _ _ EF.out (by omega) (by show (fitK 8 N && fitK 8 M) = true; rw [Hf1.out, Hf2.out]; rfl) (QF.out.setRoot PF.out _) (RF.out.setRoot PF.out _))
set_option maxRecDepth 100000 in
set_option maxHeartbeats 8000000 in
theorem rootOf_zero (va vb : Value) (a s zn zd : Int) (w : World) (ha : ZNum w.heap.size w va zn) (hb : ZNum w.heap.size w vb zd) (h0 : 0 ≤ zn) (h1 : 0 < zd) (hs : -1 ≤ s) (hs' : s ≤ 1) (hs0 : s = 0) :
    Calls Tryz.prog 13 #[.int .i64 a, .int .i64 s, va, vb] w (OfPost w a s zn zd) := by
  obtain ⟨p, c, rfl⟩ := ha.parts
  obtain ⟨q, c2, rfl⟩ := hb.parts
  have d0 : decide (zn < 0) = false := by simp; omega
  have d1 : decide (zd < 0) = false := by simp; omega
  rw [d0] at ha ⊢
  rw [d1] at hb ⊢
  generalize (digs zn.natAbs).length = n at *
  generalize (digs zd.natAbs).length = m at *
  have Hfr : Hid ((decide (0 ≤ zn) && decide (0 < zd)) = true) := by show _ = true; simp [h0, h1]
  have H01 := Lib.hid (And.intro h0 h1)
  have Hsr := Lib.hid (And.intro hs hs')
  have ZA := Lib.hid ha
  have ZB := Lib.hid hb
  have E := Lib.hid (Ext.refl w)
  obtain ⟨N, hN⟩ : ∃ N, N = ofN s zn zd := ⟨_, rfl⟩
  obtain ⟨M, hM⟩ : ∃ M, M = ofD s zn zd := ⟨_, rfl⟩
  have hN' := hN
  have hM' := hM
  unfold ofN at hN'
  unfold ofD at hM'
  obtain ⟨R, hR⟩ : ∃ R, R = OfPost w a s zn zd := ⟨_, rfl⟩
  rw [← hR]
  have HRf : Hid (∀ (W : World) (g : Nat) (cs : Array Value), Ext w W → w.heap.size ≤ g → (fit8 N && fit8 M) = false → R (.returned (.tuple #[root0, .bool false])) (W.setRow g cs)) := by
    intro W g cs h1 h2 h3
    rw [hR]
    refine ⟨ext_setRow h1 h2 _, ?_⟩
    rw [← hN, ← hM, h3]
    rfl
  have HRs : Hid (∀ (W : World) (g : Nat) (cs : Array Value) (p5 : Option Addr) (n5 c5 : Nat) (p6 : Option Addr) (n6 c6 : Nat), Ext w W → w.heap.size ≤ g → (fit8 N && fit8 M) = true → ZNum W.heap.size (W.setRow g cs) (.agg #[.bool false, .slice p5 n5 c5]) N → ZNum W.heap.size (W.setRow g cs) (.agg #[.bool false, .slice p6 n6 c6]) M → R (.returned (.tuple #[.agg #[.int .i64 a, .int .i64 (s * N.sign), .bool false, .slice p5 n5 c5, .bool false, .slice p6 n6 c6], .bool true])) (W.setRow g cs)) := by
    intro W g cs p5 n5 c5 p6 n6 c6 h1 h2 h3 h4 h5
    rw [hR]
    refine ⟨ext_setRow h1 h2 _, ?_⟩
    rw [← hN, ← hM, h3]
    exact ⟨_, rfl, _, _, _, _, _, _, rfl, by rw [setRow_size]; exact h4, by rw [setRow_size]; exact h5⟩
  have Hs0 := Lib.hid hs0
  rw [if_pos hs0] at hN' hM'
  have HN := Lib.hid hN'
  have HM := Lib.hid hM'
  have hl1 : ¬ s < -1 := by omega
  have hl2 : ¬ (1 : Int) < s := by omega
  clear ha hb d0 d1 h0 h1 hs hs' hN hM hN' hM' hR
  subst hs0
  obtain ⟨W0a, hW0a⟩ : ∃ W0a, W0a = (((w.alloc (.cells #[.bool false, .slice p n c] 25)).alloc (.cells #[.bool false, .slice q m c2] 25)).alloc (.cells #[.int .i64 0, .int .i64 0, .bool false, .slice none 0 0, .bool false, .slice none 0 0] 32)) := ⟨_, rfl⟩
  have hx : Ext w W0a := by rw [hW0a]; exact (((Ext.alloc _ _).trans (Ext.alloc _ _)).trans (Ext.alloc _ _))
  have A_n : RowAt W0a (w.heap.size) 25 (numCells false p n c) := by rw [hW0a]; exact (((RowAt.new' _ _ (by simp)).alloc _).alloc _)
  have B_n : RowAt W0a (w.heap.size + 1) 25 (numCells false q m c2) := by rw [hW0a]; exact ((RowAt.new' _ _ (by simp)).alloc _)
  have P_n : RowAt W0a (w.heap.size + 1 + 1) 32 (rootCells 0 0 false none 0 0 false none 0 0) := by rw [hW0a]; exact (RowAt.new' _ _ (by simp))
  have ZA1 := Lib.hid (hx.num ZA.out)
  have ZB1 := Lib.hid (hx.num ZB.out)
  have E1 := Lib.hid (E.out.trans hx)
  clear ZA ZB E
  have A_1 := Lib.hid A_n
  have B_1 := Lib.hid B_n
  have P_1 := Lib.hid P_n
  have HW0a := Lib.hid hW0a
  clear hx hW0a A_n B_n P_n
  go_enter Tryz.func13, Tryz.ntmps13
  go_wp2_with fail
  rw [← HW0a.out]
  refine (fraction_z _ _ zn zd W0a ZA1.out ZB1.out).mono ?_
  rintro e w2_ ⟨rfl, hx⟩
  have ZA2 := Lib.hid (hx.num ZA1.out)
  have ZB2 := Lib.hid (hx.num ZB1.out)
  have E2 := Lib.hid (E1.out.trans hx)
  have A_2 := Lib.hid (hx.row A_1.out)
  have B_2 := Lib.hid (hx.row B_1.out)
  have P_2 := Lib.hid (hx.row P_1.out)
  clear ZA1 ZB1 E1 A_1 B_1 P_1
  clear hx
  rw [Hfr.out]
  go_wp2_with fail
  refine (of_ok 0 (by decide) (by decide) w2_).mono ?_
  rintro e w3_ ⟨p3, n3, c3, rfl, hz, hx⟩
  have ZA3 := Lib.hid (hx.num ZA2.out)
  have ZB3 := Lib.hid (hx.num ZB2.out)
  have E3 := Lib.hid (E2.out.trans hx)
  have A_3 := Lib.hid (hx.row A_2.out)
  have B_3 := Lib.hid (hx.row B_2.out)
  have P_3 := Lib.hid (hx.row P_2.out)
  clear ZA2 ZB2 E2 A_2 B_2 P_2
  have ZC3 := Lib.hid hz
  clear hx hz
  go_wp2_with fail
  refine (of_ok 1 (by decide) (by decide) w3_).mono ?_
  rintro e w4_ ⟨p4, n4, c4, rfl, hz, hx⟩
  have ZA4 := Lib.hid (hx.num ZA3.out)
  have ZB4 := Lib.hid (hx.num ZB3.out)
  have E4 := Lib.hid (E3.out.trans hx)
  have A_4 := Lib.hid (hx.row A_3.out)
  have B_4 := Lib.hid (hx.row B_3.out)
  have P_4 := Lib.hid (hx.row P_3.out)
  have ZC4 := Lib.hid (hx.num ZC3.out)
  clear ZA3 ZB3 E3 A_3 B_3 P_3 ZC3
  have ZD4 := Lib.hid hz
  clear hx hz
  obtain ⟨W4c, hW4c⟩ : ∃ W4c, W4c = w4_.setRow (w.heap.size) (numCells false p3 n3 c3) := ⟨_, rfl⟩
  have ZA5 := Lib.hid (show ZNum W4c.heap.size W4c _ _ from by rw [hW4c, setRow_size]; exact ZA4.out.setNum A_4.out _)
  have ZB5 := Lib.hid (show ZNum W4c.heap.size W4c _ _ from by rw [hW4c, setRow_size]; exact ZB4.out.setNum A_4.out _)
  have E5 : Hid (Ext w W4c) := by rw [hW4c]; exact ext_setRow E4.out (Nat.le_refl _) _
  have A_5 : Hid (RowAt W4c (w.heap.size) 25 (numCells false p3 n3 c3)) := by rw [hW4c]; exact A_4.out.setRow _
  have B_5 := Lib.hid (show RowAt W4c (w.heap.size + 1) _ _ from by rw [hW4c]; exact B_4.out.setRowOther _ (by omega))
  have P_5 := Lib.hid (show RowAt W4c (w.heap.size + 1 + 1) _ _ from by rw [hW4c]; exact P_4.out.setRowOther _ (by omega))
  have ZC5 := Lib.hid (show ZNum W4c.heap.size W4c _ _ from by rw [hW4c, setRow_size]; exact ZC4.out.setNum A_4.out _)
  have ZD5 := Lib.hid (show ZNum W4c.heap.size W4c _ _ from by rw [hW4c, setRow_size]; exact ZD4.out.setNum A_4.out _)
  have HW4c := Lib.hid hW4c
  clear hW4c ZA4 ZB4 E4 B_4 P_4 ZC4 ZD4
  obtain ⟨W5c, hW5c⟩ : ∃ W5c, W5c = W4c.setRow (w.heap.size + 1) (numCells false p4 n4 c4) := ⟨_, rfl⟩
  have ZA6 := Lib.hid (show ZNum W5c.heap.size W5c _ _ from by rw [hW5c, setRow_size]; exact ZA5.out.setNum B_5.out _)
  have ZB6 := Lib.hid (show ZNum W5c.heap.size W5c _ _ from by rw [hW5c, setRow_size]; exact ZB5.out.setNum B_5.out _)
  have E6 : Hid (Ext w W5c) := by rw [hW5c]; exact ext_setRow E5.out (Nat.le_succ _) _
  have A_6 := Lib.hid (show RowAt W5c (w.heap.size) _ _ from by rw [hW5c]; exact A_5.out.setRowOther _ (by omega))
  have B_6 : Hid (RowAt W5c (w.heap.size + 1) 25 (numCells false p4 n4 c4)) := by rw [hW5c]; exact B_5.out.setRow _
  have P_6 := Lib.hid (show RowAt W5c (w.heap.size + 1 + 1) _ _ from by rw [hW5c]; exact P_5.out.setRowOther _ (by omega))
  have ZC6 := Lib.hid (show ZNum W5c.heap.size W5c _ _ from by rw [hW5c, setRow_size]; exact ZC5.out.setNum B_5.out _)
  have ZD6 := Lib.hid (show ZNum W5c.heap.size W5c _ _ from by rw [hW5c, setRow_size]; exact ZD5.out.setNum B_5.out _)
  have HW5c := Lib.hid hW5c
  clear hW5c ZA5 ZB5 E5 A_5 P_5 ZC5 ZD5
  have cA__num0_6 := A_6.out.num0
  have cA__num1_6 := A_6.out.num1
  have cB__num0_6 := B_6.out.num0
  have cB__num1_6 := B_6.out.num1
  go_wp2_with (first | (refine store_num rfl (.tmp 6) (.tmp 25) rfl (w.heap.size) rfl _ _ _ _ rfl _ _ A_4.out rfl ?_; rw [← HW4c.out]) | (refine store_num rfl (.tmp 7) (.tmp 26) rfl (w.heap.size + 1) rfl _ _ _ _ rfl _ _ B_5.out rfl ?_; rw [← HW5c.out]))
  refine (lowest_calls _ _ 0 1 W5c ZC6.out ZD6.out (by decide) (by decide)).mono ?_
  rintro e w7_ ⟨p5, n5, c5, p6, n6, c6, rfl, hz, hz6, hx⟩
  clear cA__num0_6 cA__num1_6 cB__num0_6 cB__num1_6
  have ZA7 := Lib.hid (hx.num ZA6.out)
  have ZB7 := Lib.hid (hx.num ZB6.out)
  have E7 := Lib.hid (E6.out.trans hx)
  have A_7 := Lib.hid (hx.row A_6.out)
  have B_7 := Lib.hid (hx.row B_6.out)
  have P_7 := Lib.hid (hx.row P_6.out)
  have ZC7 := Lib.hid (hx.num ZC6.out)
  have ZD7 := Lib.hid (hx.num ZD6.out)
  clear ZA6 ZB6 E6 A_6 B_6 P_6 ZC6 ZD6
  have ZQ7 := Lib.hid hz
  have ZR7 := Lib.hid hz6
  clear hx hz hz6
  obtain ⟨W7c, hW7c⟩ : ∃ W7c, W7c = w7_.setRow (w.heap.size) (numCells false p5 n5 c5) := ⟨_, rfl⟩
  have ZA8 := Lib.hid (show ZNum W7c.heap.size W7c _ _ from by rw [hW7c, setRow_size]; exact ZA7.out.setNum A_7.out _)
  have ZB8 := Lib.hid (show ZNum W7c.heap.size W7c _ _ from by rw [hW7c, setRow_size]; exact ZB7.out.setNum A_7.out _)
  have E8 : Hid (Ext w W7c) := by rw [hW7c]; exact ext_setRow E7.out (Nat.le_refl _) _
  have A_8 : Hid (RowAt W7c (w.heap.size) 25 (numCells false p5 n5 c5)) := by rw [hW7c]; exact A_7.out.setRow _
  have B_8 := Lib.hid (show RowAt W7c (w.heap.size + 1) _ _ from by rw [hW7c]; exact B_7.out.setRowOther _ (by omega))
  have P_8 := Lib.hid (show RowAt W7c (w.heap.size + 1 + 1) _ _ from by rw [hW7c]; exact P_7.out.setRowOther _ (by omega))
  have ZC8 := Lib.hid (show ZNum W7c.heap.size W7c _ _ from by rw [hW7c, setRow_size]; exact ZC7.out.setNum A_7.out _)
  have ZD8 := Lib.hid (show ZNum W7c.heap.size W7c _ _ from by rw [hW7c, setRow_size]; exact ZD7.out.setNum A_7.out _)
  have ZQ8 := Lib.hid (show ZNum W7c.heap.size W7c _ _ from by rw [hW7c, setRow_size]; exact ZQ7.out.setNum A_7.out _)
  have ZR8 := Lib.hid (show ZNum W7c.heap.size W7c _ _ from by rw [hW7c, setRow_size]; exact ZR7.out.setNum A_7.out _)
  have HW7c := Lib.hid hW7c
  clear hW7c ZA7 ZB7 E7 B_7 P_7 ZC7 ZD7 ZQ7 ZR7
  obtain ⟨W8c, hW8c⟩ : ∃ W8c, W8c = W7c.setRow (w.heap.size + 1) (numCells false p6 n6 c6) := ⟨_, rfl⟩
  have ZA9 := Lib.hid (show ZNum W8c.heap.size W8c _ _ from by rw [hW8c, setRow_size]; exact ZA8.out.setNum B_8.out _)
  have ZB9 := Lib.hid (show ZNum W8c.heap.size W8c _ _ from by rw [hW8c, setRow_size]; exact ZB8.out.setNum B_8.out _)
  have E9 : Hid (Ext w W8c) := by rw [hW8c]; exact ext_setRow E8.out (Nat.le_succ _) _
  have A_9 := Lib.hid (show RowAt W8c (w.heap.size) _ _ from by rw [hW8c]; exact A_8.out.setRowOther _ (by omega))
  have B_9 : Hid (RowAt W8c (w.heap.size + 1) 25 (numCells false p6 n6 c6)) := by rw [hW8c]; exact B_8.out.setRow _
  have P_9 := Lib.hid (show RowAt W8c (w.heap.size + 1 + 1) _ _ from by rw [hW8c]; exact P_8.out.setRowOther _ (by omega))
  have ZC9 := Lib.hid (show ZNum W8c.heap.size W8c _ _ from by rw [hW8c, setRow_size]; exact ZC8.out.setNum B_8.out _)
  have ZD9 := Lib.hid (show ZNum W8c.heap.size W8c _ _ from by rw [hW8c, setRow_size]; exact ZD8.out.setNum B_8.out _)
  have ZQ9 := Lib.hid (show ZNum W8c.heap.size W8c _ _ from by rw [hW8c, setRow_size]; exact ZQ8.out.setNum B_8.out _)
  have ZR9 := Lib.hid (show ZNum W8c.heap.size W8c _ _ from by rw [hW8c, setRow_size]; exact ZR8.out.setNum B_8.out _)
  have HW8c := Lib.hid hW8c
  clear hW8c ZA8 ZB8 E8 A_8 P_8 ZC8 ZD8 ZQ8 ZR8
  have ZQx := Lib.hid (show ZNum W8c.heap.size W8c _ N from by have := ZQ9.out; rw [gcdZ_01] at this; rw [HN.out]; exact this)
  have ZRx := Lib.hid (show ZNum W8c.heap.size W8c _ M from by have := ZR9.out; rw [gcdZ_01] at this; rw [HM.out]; exact this)
  clear ZQ9 ZR9
  have cA__num0_9 := A_9.out.num0
  have cA__num1_9 := A_9.out.num1
  go_wp2_with (first | (refine store_num rfl (.tmp 6) (.tmp 31) rfl (w.heap.size) rfl _ _ _ _ rfl _ _ A_7.out rfl ?_; rw [← HW7c.out]) | (refine store_num rfl (.tmp 7) (.tmp 32) rfl (w.heap.size + 1) rfl _ _ _ _ rfl _ _ B_8.out rfl ?_; rw [← HW8c.out]))
  refine (short_z _ N 8 8 rfl W8c ZQx.out).mono ?_
  rintro e w10_ ⟨rfl, hx⟩
  clear cA__num0_9 cA__num1_9
  have ZA10 := Lib.hid (hx.num ZA9.out)
  have ZB10 := Lib.hid (hx.num ZB9.out)
  have E10 := Lib.hid (E9.out.trans hx)
  have A_10 := Lib.hid (hx.row A_9.out)
  have B_10 := Lib.hid (hx.row B_9.out)
  have P_10 := Lib.hid (hx.row P_9.out)
  have ZC10 := Lib.hid (hx.num ZC9.out)
  have ZD10 := Lib.hid (hx.num ZD9.out)
  have ZQ10 := Lib.hid (hx.num ZQx.out)
  have ZR10 := Lib.hid (hx.num ZRx.out)
  clear ZA9 ZB9 E9 A_9 B_9 P_9 ZC9 ZD9 ZQx ZRx
  clear hx
  by_cases hf1 : fitK 8 N = true
  rotate_left
  · have hf1' : fitK 8 N = false := by simpa using hf1
    rw [hf1']
    have Hf1 := Lib.hid hf1'
    clear hf1 hf1'
    go_wp2_with (refine store_root rfl (.tmp 8) _ rfl _ rfl 0 0 false none 0 0 false none 0 0 rfl _ _ P_10.out rfl ?_)
    exact ret_root rfl _ rfl _ rfl _ _ _ _ _ _ _ _ _ _ _ (P_10.out.setRow _) (HRf.out _ _ _ E10.out (by omega) (by show (fitK 8 N && fitK 8 M) = false; first | (rw [Hf1.out]; rfl) | (rw [Hf2.out]; simp)))
  rw [hf1]
  have Hf1 := Lib.hid hf1
  clear hf1
  have cB__num0_10 := B_10.out.num0
  have cB__num1_10 := B_10.out.num1
  go_wp2_with fail
  refine (short_z _ M 8 8 rfl w10_ ZR10.out).mono ?_
  rintro e w11_ ⟨rfl, hx⟩
  clear cB__num0_10 cB__num1_10
  have ZA11 := Lib.hid (hx.num ZA10.out)
  have ZB11 := Lib.hid (hx.num ZB10.out)
  have E11 := Lib.hid (E10.out.trans hx)
  have A_11 := Lib.hid (hx.row A_10.out)
  have B_11 := Lib.hid (hx.row B_10.out)
  have P_11 := Lib.hid (hx.row P_10.out)
  have ZC11 := Lib.hid (hx.num ZC10.out)
  have ZD11 := Lib.hid (hx.num ZD10.out)
  have ZQ11 := Lib.hid (hx.num ZQ10.out)
  have ZR11 := Lib.hid (hx.num ZR10.out)
  clear ZA10 ZB10 E10 A_10 B_10 P_10 ZC10 ZD10 ZQ10 ZR10
  clear hx
  by_cases hf2 : fitK 8 M = true
  rotate_left
  · have hf2' : fitK 8 M = false := by simpa using hf2
    rw [hf2']
    have Hf2 := Lib.hid hf2'
    clear hf2 hf2'
    go_wp2_with (refine store_root rfl (.tmp 8) _ rfl _ rfl 0 0 false none 0 0 false none 0 0 rfl _ _ P_11.out rfl ?_)
    exact ret_root rfl _ rfl _ rfl _ _ _ _ _ _ _ _ _ _ _ (P_11.out.setRow _) (HRf.out _ _ _ E11.out (by omega) (by show (fitK 8 N && fitK 8 M) = false; first | (rw [Hf1.out]; rfl) | (rw [Hf2.out]; simp)))
  rw [hf2]
  have Hf2 := Lib.hid hf2
  clear hf2
  go_upto_region 8 with fail
  refine wp_region_tail (fun D ac w' => ∃ vs : Nat → Value, ac = { tmps := #[Value.int IntKind.i64 a, Value.int IntKind.i64 0, Value.agg #[Value.bool false, Value.slice p n c], Value.agg #[Value.bool false, Value.slice q m c2], undef, undef, Value.pointer (some { block := w.heap.size, off := 0 }), Value.pointer (some { block := w.heap.size + 1, off := 0 }), Value.pointer (some { block := w.heap.size + 1 + 1, off := 0 }), Value.bool false, Value.int IntKind.i64 0, Value.bool false, Value.bool false, Value.int IntKind.i64 0, Value.bool false, Value.bool false, Value.bool false, Value.agg #[Value.bool false, Value.slice p n c], Value.agg #[Value.bool false, Value.slice q m c2], Value.bool true, Value.bool false, Value.bool false, undef, Value.int IntKind.i64 0, Value.bool true, Value.agg #[Value.bool false, Value.slice p3 n3 c3], Value.agg #[Value.bool false, Value.slice p4 n4 c4], Value.tuple #[Value.agg #[Value.bool false, Value.slice p5 n5 c5], Value.agg #[Value.bool false, Value.slice p6 n6 c6]], Value.agg #[Value.bool false, Value.slice p3 n3 c3], Value.agg #[Value.bool false, Value.slice p4 n4 c4], Value.tuple #[Value.agg #[Value.bool false, Value.slice p5 n5 c5], Value.agg #[Value.bool false, Value.slice p6 n6 c6]], Value.agg #[Value.bool false, Value.slice p5 n5 c5], Value.agg #[Value.bool false, Value.slice p6 n6 c6], Value.agg #[Value.bool false, Value.slice p5 n5 c5], Value.bool true, Value.bool false, Value.bool false, Value.agg #[Value.bool false, Value.slice p6 n6 c6], Value.bool true, Value.bool false, Value.bool false, undef, vs 0, vs 1, vs 2, vs 3, vs 4, vs 5, vs 6, vs 7], defers := [] } ∧ Ext w11_ w' ∧ ∀ j, D j → ofF a 0 N (.agg #[.bool false, .slice p5 n5 c5]) (.agg #[.bool false, .slice p6 n6 c6]) (.agg #[.int .i64 a, .int .i64 (0 * N.sign), .bool false, .slice p5 n5 c5, .bool false, .slice p6 n6 c6]) j (vs j) w') 8 (by kernel_rfl) (by kernel_rfl) (by kernel_rfl) ?start8 ?step8 ?fin8
  case start8 => exact ⟨fun _ => undef, rfl, Ext.drew _, fun _ h => h.elim⟩
  case step8 =>
    rintro i o D ac wz hin hio hnd he ⟨vs, rfl, k0, hF⟩
    rcases i with _ | _ | _ | _ | _ | _ | _ | _ | i
    rotate_left 8
    · exact absurd hin (by omega)
    all_goals (obtain rfl := Option.some.inj (hio.symm.trans (by rfl)))
    · refine step_yes (wanted_of_none rfl _) ?_
      exact wp_of_run (run_mov (.tmp 0) rfl _ rfl) ⟨upd vs 0 _, rfl, k0, inv_step hF (fun _ _ h => h) rfl⟩
    · refine step_yes (wanted_of_none rfl _) ?_
      exact wp_of_run (run_mov (.tmp 1) rfl _ rfl) ⟨upd vs 1 _, rfl, k0, inv_step hF (fun _ _ h => h) rfl⟩
    · refine step_yes (wanted_of_none rfl _) ?_
      exact wp_of_run (run_load_num (.tmp 6) rfl _ rfl _ _ _ _ _ (k0.row A_11.out)) ⟨upd vs 2 _, rfl, k0, inv_step hF (fun _ _ h => h) rfl⟩
    · refine step_yes (wanted_of_none rfl _) ?_
      refine wp_of_callE (run_enter1 39 (.tmp 44) _ rfl _ (by exact (hF 2 (he ⟨2, .data⟩ (by simp) rfl))) ent_side) (side_calls _ N wz (k0.num ZQ11.out)) ?_
      rintro e w' ⟨rfl, hx⟩
      exact ⟨_, rfl, upd vs 3 _, rfl, k0.trans hx, inv_step hF (fun j v h => ofF_mono hx j v h) rfl⟩
    · refine step_yes (wanted_of_none rfl _) ?_
      exact wp_of_run (run_mul_int (.tmp 43) (.tmp 45) rfl rfl _ _ _ (by exact (hF 1 (he ⟨1, .data⟩ (by simp) rfl))) (by exact (hF 3 (he ⟨3, .data⟩ (by simp) rfl))) (sg_mul (by first | exact Hsr.out.1 | decide) (by first | exact Hsr.out.2 | decide))) ⟨upd vs 4 _, rfl, k0, inv_step hF (fun _ _ h => h) rfl⟩
    · refine step_yes (wanted_of_none rfl _) ?_
      exact wp_of_run (run_load_num (.tmp 6) rfl _ rfl _ _ _ _ _ (k0.row A_11.out)) ⟨upd vs 5 _, rfl, k0, inv_step hF (fun _ _ h => h) rfl⟩
    · refine step_yes (wanted_of_none rfl _) ?_
      exact wp_of_run (run_load_num (.tmp 7) rfl _ rfl _ _ _ _ _ (k0.row B_11.out)) ⟨upd vs 6 _, rfl, k0, inv_step hF (fun _ _ h => h) rfl⟩
    · refine step_yes (wanted_of_none rfl _) ?_
      exact wp_of_run (run_build_root (.tmp 42) (.tmp 46) (.tmp 47) (.tmp 48) rfl _ _ _ _ _ _ _ _ _ _ (by exact (hF 0 (he ⟨0, .data⟩ (by simp) rfl))) (by exact (hF 4 (he ⟨4, .data⟩ (by simp) rfl))) (by exact (hF 5 (he ⟨5, .data⟩ (by simp) rfl))) (by exact (hF 6 (he ⟨6, .data⟩ (by simp) rfl)))) ⟨upd vs 7 _, rfl, k0, inv_step hF (fun _ _ h => h) rfl⟩
  case fin8 =>
    rintro D ac wf hD ⟨vs, rfl, k0, hF⟩
    change wpList _ _ _ [_, _] _ _
    have h7 := hF 7 (hD 7 (by decide))
    have hv7 : vs 7 = .agg #[.int .i64 a, .int .i64 (0 * N.sign), .bool false, .slice p5 n5 c5, .bool false, .slice p6 n6 c6] := h7
    rw [hv7]
    have XF := Lib.hid k0
    clear hF hD h7 hv7 k0
    generalize vs = ts
    have PF := Lib.hid (XF.out.row P_11.out)
    have QF := Lib.hid (XF.out.num ZQ11.out)
    have RF := Lib.hid (XF.out.num ZR11.out)
    have EF := Lib.hid (E11.out.trans XF.out)
    go_wp2_with (refine store_root rfl (.tmp 8) (.tmp 49) rfl _ rfl _ _ _ _ _ _ _ _ _ _ rfl _ _ PF.out rfl ?_)
    go_wp2
    exact ret_root rfl _ rfl _ rfl _ _ _ _ _ _ _ _ _ _ _ (PF.out.setRow _) (by have h := HRs.out wf (w.heap.size + 1 + 1) (rootCells a 0 false p5 n5 c5 false p6 n6 c6) p5 n5 c5 p6 n6 c6 EF.out (by omega) (by show (fitK 8 N && fitK 8 M) = true; rw [Hf1.out, Hf2.out]; rfl) (QF.out.setRoot PF.out _) (RF.out.setRoot PF.out _); rw [Int.zero_mul] at h; exact h)
end Go.Proofs.YtegjcikofmphjaaGreatDoor

