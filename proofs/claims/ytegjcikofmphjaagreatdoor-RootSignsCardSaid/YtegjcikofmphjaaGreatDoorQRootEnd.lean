/- Texts that belong together. -/
import Derived.Test.YtegjcikofmphjaaGreatDoorQRootQs
import Derived.Laws.Concat
import Derived.Lib.ItoaLen
set_option linter.all false
/- Texts that belong together. -/
/- The reference of layer 2: Square; the laws' square and sign. -/
namespace Go.Proofs.YtegjcikofmphjaaGreatDoor
open Go Go.RowKit Go.Shelf
theorem r2of_ok (va vb : Value) (a s zn zd : Int) (w : World) (ha : ZNum w.heap.size w va zn) (hb : ZNum w.heap.size w vb zd) (h0 : 0 ≤ zn) (h1 : 0 < zd) (hs : -1 ≤ s) (hs' : s ≤ 1) : Calls Tryz.prog 14 #[.int .i64 a, .int .i64 s, va, vb] w (OfPost w a s zn zd) := by
  by_cases e : s = 0
  · exact r2of_szero va vb a s zn zd w ha hb h0 h1 hs hs' e trivial
  · by_cases e2 : zn = 0
    · exact r2of_nzero va vb a s zn zd w ha hb h0 h1 hs hs' e e2
    · exact r2of_one va vb a s zn zd w ha hb h0 h1 hs hs' e e2
theorem rootOf_ok (va vb : Value) (a s zn zd : Int) (w : World) (ha : ZNum w.heap.size w va zn) (hb : ZNum w.heap.size w vb zd) (h0 : 0 ≤ zn) (h1 : 0 < zd) (hs : -1 ≤ s) (hs' : s ≤ 1) : Calls Tryz.prog 13 #[.int .i64 a, .int .i64 s, va, vb] w (OfPost w a s zn zd) := by
  by_cases e : s = 0
  · exact rootOf_zero va vb a s zn zd w ha hb h0 h1 hs hs' e
  · exact rootOf_one va vb a s zn zd w ha hb h0 h1 hs hs' e
def ofS (s zn zd : Int) : Int := s * (ofN s zn zd).sign
theorem OfPost.fits {w w' : World} {a s zn zd : Int} {e : Ending} (h : OfPost w a s zn zd e w') (hf : (fit8 (ofN s zn zd) && fit8 (ofD s zn zd)) = true) : ∃ v, e = .returned (.tuple #[v, .bool true]) ∧ RootV w' v a (ofS s zn zd) (ofN s zn zd) (ofD s zn zd) ∧ Ext w w' := by
  obtain ⟨hx, h⟩ := h
  rw [if_pos hf] at h
  obtain ⟨v, e, hv⟩ := h
  exact ⟨v, e, hv, hx⟩
theorem gcdZ_one (z : Int) : gcdZ z 1 = 1 := by
  unfold gcdZ
  rw [show (1 : Int).natAbs = 1 from rfl, Nat.gcd_one_right]
  rfl
theorem ofN_one {s n : Int} : ofN s n 1 = if s = 0 then 0 else n := by
  unfold ofN
  rw [gcdZ_one, Int.ediv_one]
theorem ofD_one {s n : Int} : ofD s n 1 = 1 := by
  unfold ofD
  rw [gcdZ_one, Int.ediv_one]
  split <;> rfl
theorem b8_big : (9223372036854775808 : Nat) < B32 ^ 8 := by decide
theorem fits_one {s n : Int} (h0 : 0 ≤ n) (h : n ≤ 9223372036854775807) : (fit8 (ofN s n 1) && fit8 (ofD s n 1)) = true := by
  rw [ofN_one, ofD_one]
  have h1 : fitK 8 (if s = 0 then 0 else n) = true := lim_fitK (by split <;> (have := b8_big; omega))
  have h2 : fitK 8 1 = true := lim_fitK (by decide)
  show (fitK 8 _ && fitK 8 1) = true
  rw [h1, h2]; rfl
theorem rtr_one {a s n : Int} (ha : -9223372036854775808 ≤ a ∧ a ≤ 9223372036854775807) (hs : -1 ≤ s) (hs' : s ≤ 1) (h0 : 0 ≤ n) (h : n ≤ 9223372036854775807) : RtR a (ofS s n 1) (ofN s n 1) (ofD s n 1) := by
  have e : ofS s n 1 = s * (if s = 0 then 0 else n).sign := by unfold ofS; rw [ofN_one]
  rw [e, ofN_one, ofD_one]
  have h3 : s = -1 ∨ s = 0 ∨ s = 1 := by omega
  have hn : n = 0 ∨ 0 < n := by omega
  refine { a1 := ha, s1 := ?_, n0 := ?_, n8 := ?_, d1 := by decide, d8 := by decide, g := gcdZ_one _, z := ?_ }
  · rcases h3 with rfl | rfl | rfl <;> rcases hn with rfl | hp <;> first | (rw [if_neg (by decide), Int.sign_eq_one_of_pos hp]; decide) | simp
  · split <;> omega
  · split
    · decide
    · have := b8_big; omega
  · rcases h3 with rfl | rfl | rfl <;> rcases hn with rfl | hp <;> first | (rw [if_neg (by decide), Int.sign_eq_one_of_pos hp]; omega) | simp
set_option maxRecDepth 100000 in
set_option maxHeartbeats 4000000 in
theorem square_v (a s n : Int) (w : World) (hs : -1 ≤ s) (hs' : s ≤ 1) (h0 : 0 ≤ n) (h : n ≤ 9223372036854775807) : Calls Tryz.prog 62 #[.int .i64 a, .int .i64 s, .int .i64 n] w fun e w' => ∃ v, e = .returned v ∧ RootV w' v a (ofS s n 1) (ofN s n 1) (ofD s n 1) ∧ Ext w w' := by
  have Hs := Lib.hid (And.intro hs hs')
  have Hn := Lib.hid (And.intro h0 h)
  have E := Lib.hid (Ext.refl w)
  obtain ⟨sv, hsv⟩ : ∃ x, x = ofS s n 1 := ⟨_, rfl⟩
  obtain ⟨N, hN⟩ : ∃ x, x = ofN s n 1 := ⟨_, rfl⟩
  obtain ⟨M, hM⟩ : ∃ x, x = ofD s n 1 := ⟨_, rfl⟩
  rw [← hsv, ← hN, ← hM]
  have HE := Lib.hid (And.intro hsv (And.intro hN hM))
  clear hs hs' h0 h hsv hN hM
  obtain ⟨W0a, hW0a⟩ : ∃ W0a, W0a = (w.alloc (.cells #[.int .i64 0, .int .i64 0, .bool false, .slice none 0 0, .bool false, .slice none 0 0] 32)) := ⟨_, rfl⟩
  have hx : Ext w W0a := by rw [hW0a]; exact (Ext.alloc _ _)
  have P_n : RowAt W0a (w.heap.size) 32 (rootCells 0 0 false none 0 0 false none 0 0) := by rw [hW0a]; exact (RowAt.new' _ _ (by simp))
  have E1 := Lib.hid (E.out.trans hx)
  clear E
  have P_1 := Lib.hid P_n
  have HW0a := Lib.hid hW0a
  clear hx hW0a P_n
  go_enter Tryz.func62, Tryz.ntmps62
  go_wp2_with fail
  rw [← HW0a.out]
  refine (rof_n n ⟨by have := Hn.out; omega, by have := Hn.out; omega⟩ W0a).mono ?_
  rintro e w2_ ⟨v1, rfl, hz, hx⟩
  have E2 := Lib.hid (E1.out.trans hx)
  have P_2 := Lib.hid (hx.row P_1.out)
  clear E1 P_1
  have Z12 := Lib.hid hz
  clear hx hz
  go_wp2_with fail
  refine (rof_n 1 (by decide) w2_).mono ?_
  rintro e w3_ ⟨v2, rfl, hz, hx⟩
  have E3 := Lib.hid (E2.out.trans hx)
  have P_3 := Lib.hid (hx.row P_2.out)
  have Z13 := Lib.hid (hx.num Z12.out)
  clear E2 P_2 Z12
  have Z23 := Lib.hid hz
  clear hx hz
  go_wp2_with fail
  refine ((r2of_ok v1 v2 a s n 1 w3_ Z13.out Z23.out Hn.out.1 (by decide) Hs.out.1 Hs.out.2).mono fun _ _ h => OfPost.fits h (fits_one Hn.out.1 Hn.out.2)).mono ?_
  rintro e w9 ⟨v, rfl, hv, hx⟩
  rw [← HE.out.1, ← HE.out.2.1, ← HE.out.2.2] at hv
  obtain ⟨p, k, c, q, m, e9, rfl, hn, hd⟩ := hv
  have E4 := Lib.hid (E3.out.trans hx)
  have P_4 := Lib.hid (hx.row P_3.out)
  have Z14 := Lib.hid (hx.num Z13.out)
  have Z24 := Lib.hid (hx.num Z23.out)
  clear E3 P_3 Z13 Z23
  have ZN := Lib.hid hn
  have ZD := Lib.hid hd
  clear hx hn hd
  have LP := Lib.hid P_4.out.lt
  obtain ⟨W4b, hW4b⟩ : ∃ W4b, W4b = (w9.alloc (.cells #[.int .i64 0, .int .i64 0, .bool false, .slice none 0 0, .bool false, .slice none 0 0] 32)).setRow w9.heap.size (rootCells a sv false p k c false q m e9) := ⟨_, rfl⟩
  have hx : Ext w9 W4b := by rw [hW4b]; exact ext_setRow (Ext.alloc _ _) (Nat.le_refl _) _
  have C_n : RowAt W4b w9.heap.size 32 (rootCells a sv false p k c false q m e9) := by rw [hW4b]; exact (RowAt.new _ _ _).setRow _
  have E5 := Lib.hid (E4.out.trans hx)
  have P_5 := Lib.hid (hx.row P_4.out)
  have Z15 := Lib.hid (hx.num Z14.out)
  have Z25 := Lib.hid (hx.num Z24.out)
  have ZN5 := Lib.hid (hx.num ZN.out)
  have ZD5 := Lib.hid (hx.num ZD.out)
  clear E4 P_4 Z14 Z24 ZN ZD
  have C_5 := Lib.hid C_n
  have HW4b := Lib.hid hW4b
  clear hx hW4b C_n
  go_wp2_with (first | (refine store_root rfl (.tmp 7) (.tmp 16) rfl w9.heap.size rfl _ _ _ _ _ _ _ _ _ _ rfl _ _ (RowAt.new' _ _ rfl) rfl ?_; rw [← HW4b.out]) | (refine load_root rfl (.tmp 7) rfl _ rfl _ _ _ _ _ _ _ _ _ _ _ C_5.out ?_) | (refine store_root rfl (.tmp 6) (.tmp 18) rfl _ rfl _ _ _ _ _ _ _ _ _ _ rfl _ _ P_5.out rfl ?_))
  exact ret_root1 rfl _ rfl _ _ _ _ _ _ _ _ _ _ _ (P_5.out.setRow _) ⟨_, rfl, ⟨_, _, _, _, _, _, rfl, by rw [setRow_size]; exact ZNum.setRoot ZN5.out P_5.out _, by rw [setRow_size]; exact ZNum.setRoot ZD5.out P_5.out _⟩, ext_setRow E5.out (Nat.le_refl _) _⟩
set_option maxRecDepth 100000 in
set_option maxHeartbeats 4000000 in
theorem lawSquare_v (a s n : Int) (w : World) (hs : -1 ≤ s) (hs' : s ≤ 1) (h0 : 0 ≤ n) (h : n ≤ 9223372036854775807) : Calls Tryz.prog 30 #[.int .i64 a, .int .i64 s, .int .i64 n] w fun e w' => ∃ v, e = .returned v ∧ RootV w' v a (ofS s n 1) (ofN s n 1) (ofD s n 1) ∧ Ext w w' := by
  have HS := Lib.hid (fun W => square_v a s n W hs hs' h0 h)
  have E := Lib.hid (Ext.refl w)
  generalize ofS s n 1 = sv at *
  generalize ofN s n 1 = N at *
  generalize ofD s n 1 = M at *
  clear hs hs' h0 h
  obtain ⟨W0a, hW0a⟩ : ∃ W0a, W0a = (w.alloc (.cells #[.int .i64 0, .int .i64 0, .bool false, .slice none 0 0, .bool false, .slice none 0 0] 32)) := ⟨_, rfl⟩
  have hx : Ext w W0a := by rw [hW0a]; exact (Ext.alloc _ _)
  have P_n : RowAt W0a (w.heap.size) 32 (rootCells 0 0 false none 0 0 false none 0 0) := by rw [hW0a]; exact (RowAt.new' _ _ (by simp))
  have E1 := Lib.hid (E.out.trans hx)
  clear E
  have P_1 := Lib.hid P_n
  have HW0a := Lib.hid hW0a
  clear hx hW0a P_n
  go_enter Tryz.func30, Tryz.ntmps30
  go_wp2_with fail
  rw [← HW0a.out]
  refine (HS.out W0a).mono ?_
  rintro e w9 ⟨v, rfl, hv, hx⟩
  obtain ⟨p, k, c, q, m, e9, rfl, hn, hd⟩ := hv
  have E2 := Lib.hid (E1.out.trans hx)
  have P_2 := Lib.hid (hx.row P_1.out)
  clear E1 P_1
  have ZN := Lib.hid hn
  have ZD := Lib.hid hd
  clear hx hn hd
  go_wp2_with (refine store_root rfl (.tmp 6) (.tmp 10) rfl _ rfl _ _ _ _ _ _ _ _ _ _ rfl _ _ P_2.out rfl ?_)
  exact ret_root1 rfl _ rfl _ _ _ _ _ _ _ _ _ _ _ (P_2.out.setRow _) ⟨_, rfl, ⟨_, _, _, _, _, _, rfl, by rw [setRow_size]; exact ZNum.setRoot ZN.out P_2.out _, by rw [setRow_size]; exact ZNum.setRoot ZD.out P_2.out _⟩, ext_setRow E2.out (Nat.le_refl _) _⟩
set_option maxRecDepth 100000 in
theorem lawSign_ok (n : Int) (w : World) : Calls Tryz.prog 29 #[.int .i64 n] w fun e w' => e = .returned (.int .i64 n.sign) ∧ Ext w w' := by
  rcases RM.sign_cases n with ⟨h, e⟩ | ⟨h, e⟩ | ⟨h, e⟩ <;> rw [e]
  · have h1 : ¬ 0 < n := by omega
    go_enter Tryz.func29, Tryz.ntmps29
    go_wp2
    go_ret
    exact ⟨rfl, Ext.refl _⟩
  · subst h
    go_enter Tryz.func29, Tryz.ntmps29
    go_wp2
    go_ret
    exact ⟨rfl, Ext.refl _⟩
  · go_enter Tryz.func29, Tryz.ntmps29
    go_wp2
    go_ret
    exact ⟨rfl, Ext.refl _⟩
end Go.Proofs.YtegjcikofmphjaaGreatDoor
/- Layer 2: Text of right roots; Plus, where the sum is no int. -/
namespace Go.Proofs.YtegjcikofmphjaaGreatDoor
open Go Go.RowKit Go.Shelf
def rootText (a s N D : Int) : List UInt8 := if s = 0 then Lib.itoa a else Lib.itoa a ++ (if s < 0 then [45, 114] else [43, 114]) ++ decInt N ++ (if D = 1 then [] else [47] ++ decInt D)
theorem dec_lenZ {z : Int} (h : z.natAbs < B32 ^ 64) : (decInt z).length ≤ 641 := by
  have := dec_lenN h
  unfold decInt
  split
  · rw [List.length_cons]; omega
  · omega
theorem itoa_any (n : Int) (h0 : -9223372036854775808 ≤ n) (h1 : n ≤ 9223372036854775807) (w : World) (ht : Tab w) : Calls Tryz.prog 50 #[.int .i64 n] w fun e w' => e = .returned (.string ⟨(Lib.itoa n).toArray⟩) ∧ Ext w w' := by
  refine (Tryz.strconv_Itoa n h0 h1 w ht.1).mono ?_
  rintro e w' ⟨rfl, k, os, rfl⟩
  exact ⟨rfl, below_grow w k os⟩
theorem text_ok (v : Value) (z : Int) (w : World) (hv : ZNum w.heap.size w v z) (ht : Tab w) : Calls Tryz.prog 51 #[v] w fun e w' => e = .returned (.string ⟨(decInt z).toArray⟩) ∧ Ext w w' := text_calls v z w hv ht
theorem str_add (l m r : List UInt8) (hr : r = l ++ m) (hl : l.length ≤ 4000) (hm : m.length ≤ 4000) (W : World) : (Op.stringOp .add ⟨l.toArray⟩ ⟨m.toArray⟩).run Tryz.prog W = .ok (.string ⟨r.toArray⟩) W := by
  subst hr
  exact run_string_add_lists W l m (by omega) (by omega)
set_option maxRecDepth 100000 in
set_option maxHeartbeats 8000000 in
theorem rootText_ok (v : Value) (a s N D : Int) (w : World) (hv : RootV w v a s N D) (hr : RtR a s N D) (ht : Tab w) :
    Calls Tryz.prog 19 #[v] w fun e w' => e = .returned (.string ⟨(rootText a s N D).toArray⟩) ∧ Ext w w' := by
  obtain ⟨p, n, c, q, m, e, rfl, hn, hd⟩ := id hv
  obtain ⟨RT, hRT⟩ : ∃ RT, RT = rootText a s N D := ⟨_, rfl⟩
  rw [← hRT]
  unfold rootText at hRT
  obtain ⟨L0, hL0⟩ : ∃ L, L = Lib.itoa a := ⟨_, rfl⟩
  obtain ⟨T1, hT1⟩ : ∃ L, L = decInt N := ⟨_, rfl⟩
  obtain ⟨T2, hT2⟩ : ∃ L, L = decInt D := ⟨_, rfl⟩
  have k0 : L0.length ≤ 21 := by rw [hL0]; exact Lib.itoa_length_le a hr.a1.1 hr.a1.2
  have k1 : T1.length ≤ 641 := by rw [hT1]; exact dec_lenZ hn.2
  have k2 : T2.length ≤ 641 := by rw [hT2]; exact dec_lenZ hd.2
  rw [← hL0, ← hT1, ← hT2] at hRT
  obtain ⟨L1, hL1⟩ : ∃ L, L = L0 ++ (if s < 0 then [45, 114] else [43, 114]) := ⟨_, rfl⟩
  obtain ⟨L2, hL2⟩ : ∃ L, L = L1 ++ T1 := ⟨_, rfl⟩
  obtain ⟨L3, hL3⟩ : ∃ L, L = L2 ++ [47] := ⟨_, rfl⟩
  obtain ⟨L4, hL4⟩ : ∃ L, L = L3 ++ T2 := ⟨_, rfl⟩
  have j1 : L1.length ≤ 23 := by rw [hL1, List.length_append]; split <;> (simp only [List.length_cons, List.length_nil]; omega)
  have j2 : L2.length ≤ 664 := by rw [hL2, List.length_append]; omega
  have j3 : L3.length ≤ 665 := by rw [hL3, List.length_append, List.length_cons, List.length_nil]; omega
  have a2 := str_add L1 T1 L2 hL2 (by omega) (by omega)
  have a3 : ∀ W, (Op.stringOp .add ⟨L2.toArray⟩ ⟨#[47]⟩).run Tryz.prog W = .ok (.string ⟨L3.toArray⟩) W := str_add L2 [47] L3 hL3 (by omega) (by simp)
  have a4 := str_add L3 T2 L4 hL4 (by omega) (by omega)
  have HRT : Hid (RT = if s = 0 then L0 else if D = 1 then L2 else L4) := by
    show RT = _
    rw [hRT]
    by_cases h1 : s = 0
    · rw [if_pos h1, if_pos h1]
    · rw [if_neg h1, if_neg h1, hL4, hL3, hL2, hL1]
      by_cases h2 : D = 1
      · rw [if_pos h2, if_pos h2, List.append_nil]
      · rw [if_neg h2, if_neg h2, List.append_assoc _ [47] T2]
  have a1n : s < 0 → ∀ W, (Op.stringOp .add ⟨L0.toArray⟩ ⟨#[45, 114]⟩).run Tryz.prog W = .ok (.string ⟨L1.toArray⟩) W := fun h => str_add L0 [45, 114] L1 (by rw [hL1, if_pos h]) (by omega) (by simp)
  have a1p : ¬ s < 0 → ∀ W, (Op.stringOp .add ⟨L0.toArray⟩ ⟨#[43, 114]⟩).run Tryz.prog W = .ok (.string ⟨L1.toArray⟩) W := fun h => str_add L0 [43, 114] L1 (by rw [hL1, if_neg h]) (by omega) (by simp)
  have HI : Hid (∀ W, Tab W → Calls Tryz.prog 50 #[.int .i64 a] W fun e w' => e = .returned (.string ⟨L0.toArray⟩) ∧ Ext W w') := fun W hW => by rw [hL0]; exact itoa_any a hr.a1.1 hr.a1.2 W hW
  have HT1 : Hid (∀ v W, ZNum W.heap.size W v N → Tab W → Calls Tryz.prog 51 #[v] W fun e w' => e = .returned (.string ⟨T1.toArray⟩) ∧ Ext W w') := fun v W h hW => by rw [hT1]; exact text_ok v N W h hW
  have HT2 : Hid (∀ v W, ZNum W.heap.size W v D → Tab W → Calls Tryz.prog 51 #[v] W fun e w' => e = .returned (.string ⟨T2.toArray⟩) ∧ Ext W w') := fun v W h hW => by rw [hT2]; exact text_ok v D W h hW
  have HR := Lib.hid hr
  have V_ := Lib.hid hv
  have Z_ := Lib.hid hn
  have Y_ := Lib.hid hd
  have T_ := Lib.hid ht
  have E := Lib.hid (Ext.refl w)
  clear hv hn hd ht hr hRT hL0 hT1 hT2 hL1 hL2 hL3 hL4 k0 k1 k2 j1 j2 j3
  obtain ⟨W0a, hW0a⟩ : ∃ W0a, W0a = (w.alloc (.cells #[.int .i64 a, .int .i64 s, .bool false, .slice p n c, .bool false, .slice q m e] 32)) := ⟨_, rfl⟩
  have hx : Ext w W0a := by rw [hW0a]; exact (Ext.alloc _ _)
  have A_n : RowAt W0a (w.heap.size) 32 (rootCells a s false p n c false q m e) := by rw [hW0a]; exact (RowAt.new' _ _ (by simp))
  have E1 := Lib.hid (E.out.trans hx)
  have Z_1 := Lib.hid (hx.num Z_.out)
  have Y_1 := Lib.hid (hx.num Y_.out)
  have T_1 := Lib.hid (hx.tab T_.out)
  have V_1 := Lib.hid (RootV.ext V_.out hx)
  clear E Z_ Y_ T_ V_
  have A_1 := Lib.hid A_n
  have HW0a := Lib.hid hW0a
  clear hx hW0a A_n
  go_enter Tryz.func19, Tryz.ntmps19
  go_wp2_with fail
  rw [← HW0a.out]
  refine (rootRight_ok _ a s N D W0a V_1.out HR.out).mono ?_
  rintro e w2_ ⟨rfl, hx⟩
  have E2 := Lib.hid (E1.out.trans hx)
  have Z_2 := Lib.hid (hx.num Z_1.out)
  have Y_2 := Lib.hid (hx.num Y_1.out)
  have T_2 := Lib.hid (hx.tab T_1.out)
  have V_2 := Lib.hid (RootV.ext V_1.out hx)
  have A_2 := Lib.hid (hx.row A_1.out)
  clear E1 Z_1 Y_1 T_1 V_1 A_1
  clear hx
  have cA__root0_2 := A_2.out.root0
  go_wp2_with fail
  refine (HI.out w2_ T_2.out).mono ?_
  rintro e w3_ ⟨rfl, hx⟩
  clear cA__root0_2
  have E3 := Lib.hid (E2.out.trans hx)
  have Z_3 := Lib.hid (hx.num Z_2.out)
  have Y_3 := Lib.hid (hx.num Y_2.out)
  have T_3 := Lib.hid (hx.tab T_2.out)
  have V_3 := Lib.hid (RootV.ext V_2.out hx)
  have A_3 := Lib.hid (hx.row A_2.out)
  clear E2 Z_2 Y_2 T_2 V_2 A_2
  clear hx
  have cA__root1_3 := A_3.out.root1
  by_cases hs0 : s = 0
  · have Hr : Hid (RT = L0) := by show RT = L0; rw [HRT.out, if_pos hs0]
    subst hs0
    clear a1n a1p a2 a3 a4
    go_wp2
    go_ret
    exact ⟨by rw [Hr.out]; rfl, E3.out⟩
  have hs0b : (s == 0) = false := by simpa using hs0
  have HS0 := Lib.hid hs0
  clear hs0
  have cA__root2_3 := A_3.out.root2
  have cA__root3_3 := A_3.out.root3
  by_cases hsn : s < 0
  · have a1 := a1n (by omega)
    clear a1n a1p
    go_wp2_with fail
    refine (HT1.out _ w3_ Z_3.out T_3.out).mono ?_
    rintro e w4_ ⟨rfl, hx⟩
    clear cA__root1_3 cA__root2_3 cA__root3_3
    have E4 := Lib.hid (E3.out.trans hx)
    have Z_4 := Lib.hid (hx.num Z_3.out)
    have Y_4 := Lib.hid (hx.num Y_3.out)
    have T_4 := Lib.hid (hx.tab T_3.out)
    have V_4 := Lib.hid (RootV.ext V_3.out hx)
    have A_4 := Lib.hid (hx.row A_3.out)
    clear E3 Z_3 Y_3 T_3 V_3 A_3
    clear hx
    have cA__root4_4 := A_4.out.root4
    have cA__root5_4 := A_4.out.root5
    go_wp2_with fail
    refine (isOne_calls _ D w4_ Y_4.out).mono ?_
    rintro e w5_ ⟨rfl, hx⟩
    clear cA__root4_4 cA__root5_4
    have E5 := Lib.hid (E4.out.trans hx)
    have Z_5 := Lib.hid (hx.num Z_4.out)
    have Y_5 := Lib.hid (hx.num Y_4.out)
    have T_5 := Lib.hid (hx.tab T_4.out)
    have V_5 := Lib.hid (RootV.ext V_4.out hx)
    have A_5 := Lib.hid (hx.row A_4.out)
    clear E4 Z_4 Y_4 T_4 V_4 A_4
    clear hx
    by_cases hd1 : D = 1
    · have Hr : Hid (RT = L2) := by show RT = L2; rw [HRT.out, if_neg HS0.out, if_pos hd1]
      rw [show (zcmp D 1 == 0) = true by rw [hd1]; decide]
      clear hd1
      go_wp2
      go_ret
      exact ⟨by rw [Hr.out]; rfl, E5.out⟩
    have Hr : Hid (RT = L4) := by show RT = L4; rw [HRT.out, if_neg HS0.out, if_neg hd1]
    rw [show (zcmp D 1 == 0) = false by rw [zcmp_sub]; simp; omega]
    clear hd1
    have cA__root4_5 := A_5.out.root4
    have cA__root5_5 := A_5.out.root5
    go_wp2_with fail
    refine (HT2.out _ w5_ Y_5.out T_5.out).mono ?_
    rintro e w6_ ⟨rfl, hx⟩
    clear cA__root4_5 cA__root5_5
    have E6 := Lib.hid (E5.out.trans hx)
    have Z_6 := Lib.hid (hx.num Z_5.out)
    have Y_6 := Lib.hid (hx.num Y_5.out)
    have T_6 := Lib.hid (hx.tab T_5.out)
    have V_6 := Lib.hid (RootV.ext V_5.out hx)
    have A_6 := Lib.hid (hx.row A_5.out)
    clear E5 Z_5 Y_5 T_5 V_5 A_5
    clear hx
    go_wp2
    go_ret
    exact ⟨by rw [Hr.out]; rfl, E6.out⟩
  · have a1 := a1p (by omega)
    clear a1n a1p
    go_wp2_with fail
    refine (HT1.out _ w3_ Z_3.out T_3.out).mono ?_
    rintro e w4_ ⟨rfl, hx⟩
    clear cA__root1_3 cA__root2_3 cA__root3_3
    have E4 := Lib.hid (E3.out.trans hx)
    have Z_4 := Lib.hid (hx.num Z_3.out)
    have Y_4 := Lib.hid (hx.num Y_3.out)
    have T_4 := Lib.hid (hx.tab T_3.out)
    have V_4 := Lib.hid (RootV.ext V_3.out hx)
    have A_4 := Lib.hid (hx.row A_3.out)
    clear E3 Z_3 Y_3 T_3 V_3 A_3
    clear hx
    have cA__root4_4 := A_4.out.root4
    have cA__root5_4 := A_4.out.root5
    go_wp2_with fail
    refine (isOne_calls _ D w4_ Y_4.out).mono ?_
    rintro e w5_ ⟨rfl, hx⟩
    clear cA__root4_4 cA__root5_4
    have E5 := Lib.hid (E4.out.trans hx)
    have Z_5 := Lib.hid (hx.num Z_4.out)
    have Y_5 := Lib.hid (hx.num Y_4.out)
    have T_5 := Lib.hid (hx.tab T_4.out)
    have V_5 := Lib.hid (RootV.ext V_4.out hx)
    have A_5 := Lib.hid (hx.row A_4.out)
    clear E4 Z_4 Y_4 T_4 V_4 A_4
    clear hx
    by_cases hd1 : D = 1
    · have Hr : Hid (RT = L2) := by show RT = L2; rw [HRT.out, if_neg HS0.out, if_pos hd1]
      rw [show (zcmp D 1 == 0) = true by rw [hd1]; decide]
      clear hd1
      go_wp2
      go_ret
      exact ⟨by rw [Hr.out]; rfl, E5.out⟩
    have Hr : Hid (RT = L4) := by show RT = L4; rw [HRT.out, if_neg HS0.out, if_neg hd1]
    rw [show (zcmp D 1 == 0) = false by rw [zcmp_sub]; simp; omega]
    clear hd1
    have cA__root4_5 := A_5.out.root4
    have cA__root5_5 := A_5.out.root5
    go_wp2_with fail
    refine (HT2.out _ w5_ Y_5.out T_5.out).mono ?_
    rintro e w6_ ⟨rfl, hx⟩
    clear cA__root4_5 cA__root5_5
    have E6 := Lib.hid (E5.out.trans hx)
    have Z_6 := Lib.hid (hx.num Z_5.out)
    have Y_6 := Lib.hid (hx.num Y_5.out)
    have T_6 := Lib.hid (hx.tab T_5.out)
    have V_6 := Lib.hid (RootV.ext V_5.out hx)
    have A_6 := Lib.hid (hx.row A_5.out)
    clear E5 Z_5 Y_5 T_5 V_5 A_5
    clear hx
    go_wp2
    go_ret
    exact ⟨by rw [Hr.out]; rfl, E6.out⟩
set_option maxRecDepth 100000 in
set_option maxHeartbeats 4000000 in
theorem plus_over (v : Value) (a s N D n : Int) (w : World) (hv : RootV w v a s N D) (ha : -9223372036854775808 ≤ a ∧ a ≤ 9223372036854775807) (hn : -9223372036854775808 ≤ n ∧ n ≤ 9223372036854775807) (ho : ¬ (-9223372036854775808 ≤ a + n ∧ a + n ≤ 9223372036854775807)) :
    Calls Tryz.prog 28 #[v, .int .i64 n] w fun e w' => e = .returned (.tuple #[root0, .bool false]) ∧ Ext w w' := by
  obtain ⟨p, k, c, q, m, e, rfl, hn1, hd1⟩ := hv
  have E := Lib.hid (Ext.refl w)
  have hcase : (n < 0 ∧ ¬ wrap64 (a + n) < a) ∨ (¬ n < 0 ∧ wrap64 (a + n) < a) := by unfold wrap64; omega
  clear hn1 hd1 ho ha hn
  obtain ⟨W0a, hW0a⟩ : ∃ W0a, W0a = ((w.alloc (.cells #[.int .i64 a, .int .i64 s, .bool false, .slice p k c, .bool false, .slice q m e] 32)).alloc (.cells #[.int .i64 0, .int .i64 0, .bool false, .slice none 0 0, .bool false, .slice none 0 0] 32)) := ⟨_, rfl⟩
  have hx : Ext w W0a := by rw [hW0a]; exact ((Ext.alloc _ _).trans (Ext.alloc _ _))
  have A_n : RowAt W0a (w.heap.size) 32 (rootCells a s false p k c false q m e) := by rw [hW0a]; exact ((RowAt.new' _ _ (by simp)).alloc _)
  have P_n : RowAt W0a (w.heap.size + 1) 32 (rootCells 0 0 false none 0 0 false none 0 0) := by rw [hW0a]; exact (RowAt.new' _ _ (by simp))
  have E1 := Lib.hid (E.out.trans hx)
  clear E
  have A_1 := Lib.hid A_n
  have P_1 := Lib.hid P_n
  have HW0a := Lib.hid hW0a
  clear hx hW0a A_n P_n
  rcases hcase with ⟨g1, g2⟩ | ⟨g1, g2⟩
  · go_enter Tryz.func28, Tryz.ntmps28
    go_upto_region 4 with fail
    rw [← HW0a.out]
    go_wp2_with (refine store_root rfl (.tmp 4) _ rfl _ rfl 0 0 false none 0 0 false none 0 0 rfl _ _ P_1.out rfl ?_)
    exact ret_root rfl _ rfl _ rfl _ _ _ _ _ _ _ _ _ _ _ (P_1.out.setRow _) ⟨rfl, ext_setRow E1.out (by omega) _⟩
  · go_enter Tryz.func28, Tryz.ntmps28
    go_upto_region 4 with fail
    rw [← HW0a.out]
    go_wp2_with (refine store_root rfl (.tmp 4) _ rfl _ rfl 0 0 false none 0 0 false none 0 0 rfl _ _ P_1.out rfl ?_)
    exact ret_root rfl _ rfl _ rfl _ _ _ _ _ _ _ _ _ _ _ (P_1.out.setRow _) ⟨rfl, ext_setRow E1.out (by omega) _⟩
end Go.Proofs.YtegjcikofmphjaaGreatDoor
/- Layer 2: the laws' sanity. -/
namespace Go.Proofs.YtegjcikofmphjaaGreatDoor
open Go Go.RowKit Go.Shelf
theorem of_lit (v1 v2 : Value) (a s zn zd s' N M : Int) (w : World) (i1 : IsN zn v1 w) (i2 : IsN zd v2 w) (h0 : 0 ≤ zn) (h1 : 0 < zd) (hs : -1 ≤ s) (hs' : s ≤ 1) (e1 : ofS s zn zd = s') (e2 : ofN s zn zd = N) (e3 : ofD s zn zd = M) (hN : N.natAbs < B32 ^ 8) (hM : M.natAbs < B32 ^ 8) :
    Calls Tryz.prog 13 #[.int .i64 a, .int .i64 s, v1, v2] w fun e w' => ∃ v, e = .returned (.tuple #[v, .bool true]) ∧ RootV w' v a s' N M ∧ Ext w w' := by
  refine (rootOf_ok v1 v2 a s zn zd w i1 i2 h0 h1 hs hs').mono fun e w' h => ?_
  have h := h.fits (by rw [e2, e3]; show (fitK 8 N && fitK 8 M) = true; rw [lim_fitK hN, lim_fitK hM]; rfl)
  rw [e1, e2, e3] at h
  exact h
theorem of_none (v1 v2 : Value) (a s zn zd : Int) (w : World) (i1 : IsN zn v1 w) (i2 : IsN zd v2 w) (hno : ¬ (-1 ≤ s ∧ s ≤ 1 ∧ 0 ≤ zn ∧ 0 < zd)) :
    Calls Tryz.prog 13 #[.int .i64 a, .int .i64 s, v1, v2] w fun e w' => e = .returned (.tuple #[root0, .bool false]) ∧ Ext w w' := by
  obtain ⟨p, c, rfl⟩ := ZNum.parts i1
  obtain ⟨q, c2, rfl⟩ := ZNum.parts i2
  refine of_fails a s (decide (zn < 0)) p (digs zn.natAbs).length c (digs zn.natAbs) (decide (zd < 0)) q (digs zd.natAbs).length c2 (digs zd.natAbs) w (znum_slice i1) (znum_slice i2) ?_
  rintro ⟨h1, h2, h3⟩
  refine hno ⟨h1, h2, ?_⟩
  rw [rightB_z i1.2, rightB_z i2.2] at h3
  simp at h3
  obtain ⟨a1, a2, a3⟩ := h3
  refine ⟨by omega, ?_⟩
  have : zd.natAbs ≠ 0 := by
    intro e
    rw [e, digs_nil_iff.2 rfl] at a3
    simp at a3
  omega
theorem run_eql_str {o : Oper} {a : Act} {w : World} (x y : Operand) (ho : o.op = .binOp .eql 9 x y 9) (s : ByteArray) (hx : a.eval x = .string s) (hy : a.eval y = .string s) : (execOp a.eval o).run Tryz.prog w = .ok (.value (.bool true)) w := by
  unfold execOp
  simp only [ho, hx, hy]
  simp [go_sem]
theorem text_349 : (rootText 3 (-1) 4 9) = [51, 45, 114, 52, 47, 57] := by
  unfold rootText
  simp [Lib.itoa, decInt, Lib.decDigits]
theorem rtr_349 : RtR 3 (-1) 4 9 := { a1 := by decide, s1 := .inl rfl, n0 := by decide, n8 := by decide, d1 := by decide, d8 := by decide, g := rfl, z := by decide }
theorem ent_rtxt (args : Array Value) (w : World) : (callFunc 19 args).run Tryz.prog w = .ok (.enter 19 args) w := enters_of Tryz.func19 (by kernel_rfl) rfl args w
theorem rtext_349 (v : Value) (w : World) (hv : RootV w v 3 (-1) 4 9) (ht : Tab w) : Calls Tryz.prog 19 #[v] w fun e w' => e = .returned (.string ⟨#[51, 45, 114, 52, 47, 57]⟩) ∧ Ext w w' := by
  have h := rootText_ok v 3 (-1) 4 9 w hv rtr_349 ht
  rw [text_349] at h
  exact h
theorem cmp_sq (va vb : Value) (a1 s1 n1 a2 s2 n2 r : Int) (w : World) (ha : RootV w va a1 (ofS s1 n1 1) (ofN s1 n1 1) (ofD s1 n1 1)) (hb : RootV w vb a2 (ofS s2 n2 1) (ofN s2 n2 1) (ofD s2 n2 1)) (h1 : RtR a1 (ofS s1 n1 1) (ofN s1 n1 1) (ofD s1 n1 1)) (h2 : RtR a2 (ofS s2 n2 1) (ofN s2 n2 1) (ofD s2 n2 1)) (hr : RM.cmpZ a1 (ofS s1 n1 1) (ofN s1 n1 1) (ofD s1 n1 1) a2 (ofS s2 n2 1) (ofN s2 n2 1) (ofD s2 n2 1) = r) :
    Calls Tryz.prog 24 #[va, vb] w fun e w' => e = .returned (.int .i64 r) ∧ Ext w w' := by
  subst hr; exact rootCmp_ok va vb _ _ _ _ _ _ _ _ w ha hb h1 h2
theorem cmpi_sq (va : Value) (a1 s1 n1 n r : Int) (w : World) (ha : RootV w va a1 (ofS s1 n1 1) (ofN s1 n1 1) (ofD s1 n1 1)) (h1 : RtR a1 (ofS s1 n1 1) (ofN s1 n1 1) (ofD s1 n1 1)) (hn : -9223372036854775808 ≤ n ∧ n ≤ 9223372036854775807) (hr : RM.cmpZ a1 (ofS s1 n1 1) (ofN s1 n1 1) (ofD s1 n1 1) n 0 0 1 = r) :
    Calls Tryz.prog 26 #[va, .int .i64 n] w fun e w' => e = .returned (.int .i64 r) ∧ Ext w w' := by
  subst hr; exact cmpInt_ok va _ _ _ _ n w ha h1 hn
theorem sgn_lit (va vb vc : Value) (a b c r : Int) (w : World) (ha : IsN a va w) (hb : IsN b vb w) (hc : IsN c vc w) (h0 : 0 ≤ c) (la : a.natAbs < B32 ^ 20) (lb : b.natAbs < B32 ^ 20) (lc : c.natAbs < B32 ^ 20) (hr : RM.sideZ a b c = r) :
    Calls Tryz.prog 21 #[va, vb, vc] w fun e w' => e = .returned (.int .i64 r) ∧ Ext w w' := by
  subst hr; exact sign_ok va vb vc a b c w ha hb hc h0 (lim_fitK la) (lim_fitK lb) (lim_fitK lc)
def saF (va vb : Value) : Nat → Value → World → Prop
  | 2, v, _ => v = va
  | 3, v, W => IsN 4 v W
  | 4, v, W => IsN 9 v W
  | 5, v, W => RootV W v 3 (-1) 4 9
  | 9, v, _ => v = va
  | 10, v, _ => v = .string ⟨#[51, 45, 114, 52, 47, 57]⟩
  | 17, v, _ => v = vb
  | 18, v, W => RootV W v 3 0 0 1
  | 22, v, _ => v = .bool false
  | 26, v, _ => v = .bool false
  | _, v, _ => v = .bool true
theorem saF_mono {va vb : Value} {W W' : World} (hx : Ext W W') (j : Nat) (v : Value) (h : saF va vb j v W) : saF va vb j v W' := by
  match j, h with
  | 3, h => exact IsN.ext h hx
  | 4, h => exact IsN.ext h hx
  | 5, h => exact RootV.ext h hx
  | 18, h => exact RootV.ext h hx
  | 2, h | 9, h | 10, h | 17, h | 22, h | 26, h => exact h
  | 0, h | 1, h | 6, h | 7, h | 8, h | 11, h | 12, h | 13, h | 14, h | 15, h | 16, h | 19, h | 20, h | 21, h | 23, h | 24, h | 25, h | 27, h | 28, h => exact h
  | k + 29, h => exact h
set_option maxRecDepth 100000 in
set_option maxHeartbeats 16000000 in
theorem sanity2_calls (w : World) (ht : Tab w) : Calls Tryz.prog 10 #[] w fun e w' => e = .returned (.bool true) ∧ Ext w w' := by
  have E := Lib.hid (Ext.refl w)
  have T_ := Lib.hid ht
  clear ht
  go_enter Tryz.func10, Tryz.ntmps10
  go_wp2_with fail
  refine (lawOf_n 8 (by decide) w).mono ?_
  rintro e w1_ ⟨vI1a, rfl, hz, hx⟩
  have E1 := Lib.hid (E.out.trans hx)
  have T_1 := Lib.hid (hx.tab T_.out)
  clear E T_
  have I1a1 := Lib.hid hz
  clear hx hz
  go_wp2_with fail
  refine (lawOf_n 18 (by decide) w1_).mono ?_
  rintro e w2_ ⟨vI1b, rfl, hz, hx⟩
  have E2 := Lib.hid (E1.out.trans hx)
  have T_2 := Lib.hid (hx.tab T_1.out)
  have I1a2 := Lib.hid (hx.num I1a1.out)
  clear E1 T_1 I1a1
  have I1b2 := Lib.hid hz
  clear hx hz
  go_wp2_with fail
  refine (of_lit vI1a vI1b 3 (-1) 8 18 (-1) 4 9 w2_ I1a2.out I1b2.out (by decide) (by decide) (by decide) (by decide) rfl rfl rfl (by decide) (by decide)).mono ?_
  rintro e w3_ ⟨v1, rfl, hv, hx⟩
  have E3 := Lib.hid (E2.out.trans hx)
  have T_3 := Lib.hid (hx.tab T_2.out)
  have I1a3 := Lib.hid (hx.num I1a2.out)
  have I1b3 := Lib.hid (hx.num I1b2.out)
  clear E2 T_2 I1a2 I1b2
  have V13 := Lib.hid hv
  clear hx hv
  obtain ⟨p1, n1, c1, q1, m1, e1, rfl, -, -⟩ := id V13.out
  obtain ⟨W3b, hW3b⟩ : ∃ W3b, W3b = (w3_.alloc (.cells #[.int .i64 0, .int .i64 0, .bool false, .slice none 0 0, .bool false, .slice none 0 0] 32)).setRow w3_.heap.size (rootCells 3 (-1) false p1 n1 c1 false q1 m1 e1) := ⟨_, rfl⟩
  have hx : Ext w3_ W3b := by rw [hW3b]; exact ext_setRow (Ext.alloc _ _) (Nat.le_refl _) _
  have S1n : RowAt W3b w3_.heap.size 32 (rootCells 3 (-1) false p1 n1 c1 false q1 m1 e1) := by rw [hW3b]; exact (RowAt.new _ _ _).setRow _
  have E4 := Lib.hid (E3.out.trans hx)
  have T_4 := Lib.hid (hx.tab T_3.out)
  have I1a4 := Lib.hid (hx.num I1a3.out)
  have I1b4 := Lib.hid (hx.num I1b3.out)
  have V14 := Lib.hid (RootV.ext V13.out hx)
  clear E3 T_3 I1a3 I1b3 V13
  have S14 := Lib.hid S1n
  have HW3b := Lib.hid hW3b
  clear hx hW3b S1n
  clear I1a4
  clear I1b4
  go_wp2_with (first | (refine store_root rfl (.tmp 1) (.tmp 18) rfl w3_.heap.size rfl _ _ _ _ _ _ _ _ _ _ rfl _ _ (RowAt.new' _ _ rfl) rfl ?_; rw [← HW3b.out]))
  refine (lawOf_n 0 (by decide) W3b).mono ?_
  rintro e w5_ ⟨vI3a, rfl, hz, hx⟩
  have E5 := Lib.hid (E4.out.trans hx)
  have T_5 := Lib.hid (hx.tab T_4.out)
  have V15 := Lib.hid (RootV.ext V14.out hx)
  have S15 := Lib.hid (hx.row S14.out)
  clear E4 T_4 V14 S14
  have I3a5 := Lib.hid hz
  clear hx hz
  go_wp2_with fail
  refine (lawOf_n 5 (by decide) w5_).mono ?_
  rintro e w6_ ⟨vI3b, rfl, hz, hx⟩
  have E6 := Lib.hid (E5.out.trans hx)
  have T_6 := Lib.hid (hx.tab T_5.out)
  have V16 := Lib.hid (RootV.ext V15.out hx)
  have S16 := Lib.hid (hx.row S15.out)
  have I3a6 := Lib.hid (hx.num I3a5.out)
  clear E5 T_5 V15 S15 I3a5
  have I3b6 := Lib.hid hz
  clear hx hz
  go_wp2_with fail
  refine (of_lit vI3a vI3b 3 1 0 5 0 0 1 w6_ I3a6.out I3b6.out (by decide) (by decide) (by decide) (by decide) rfl rfl rfl (by decide) (by decide)).mono ?_
  rintro e w7_ ⟨v3, rfl, hv, hx⟩
  have E7 := Lib.hid (E6.out.trans hx)
  have T_7 := Lib.hid (hx.tab T_6.out)
  have V17 := Lib.hid (RootV.ext V16.out hx)
  have S17 := Lib.hid (hx.row S16.out)
  have I3a7 := Lib.hid (hx.num I3a6.out)
  have I3b7 := Lib.hid (hx.num I3b6.out)
  clear E6 T_6 V16 S16 I3a6 I3b6
  have V37 := Lib.hid hv
  clear hx hv
  obtain ⟨p3, n3, c3, q3, m3, e3, rfl, -, -⟩ := id V37.out
  obtain ⟨W7b, hW7b⟩ : ∃ W7b, W7b = (w7_.alloc (.cells #[.int .i64 0, .int .i64 0, .bool false, .slice none 0 0, .bool false, .slice none 0 0] 32)).setRow w7_.heap.size (rootCells 3 0 false p3 n3 c3 false q3 m3 e3) := ⟨_, rfl⟩
  have hx : Ext w7_ W7b := by rw [hW7b]; exact ext_setRow (Ext.alloc _ _) (Nat.le_refl _) _
  have S3n : RowAt W7b w7_.heap.size 32 (rootCells 3 0 false p3 n3 c3 false q3 m3 e3) := by rw [hW7b]; exact (RowAt.new _ _ _).setRow _
  have E8 := Lib.hid (E7.out.trans hx)
  have T_8 := Lib.hid (hx.tab T_7.out)
  have V18 := Lib.hid (RootV.ext V17.out hx)
  have S18 := Lib.hid (hx.row S17.out)
  have I3a8 := Lib.hid (hx.num I3a7.out)
  have I3b8 := Lib.hid (hx.num I3b7.out)
  have V38 := Lib.hid (RootV.ext V37.out hx)
  clear E7 T_7 V17 S17 I3a7 I3b7 V37
  have S38 := Lib.hid S3n
  have HW7b := Lib.hid hW7b
  clear hx hW7b S3n
  clear I3a8
  clear I3b8
  go_wp2_with (first | (refine store_root rfl (.tmp 3) (.tmp 24) rfl w7_.heap.size rfl _ _ _ _ _ _ _ _ _ _ rfl _ _ (RowAt.new' _ _ rfl) rfl ?_; rw [← HW7b.out]))
  refine (lawOf_n 1 (by decide) W7b).mono ?_
  rintro e w9_ ⟨vI5a, rfl, hz, hx⟩
  have E9 := Lib.hid (E8.out.trans hx)
  have T_9 := Lib.hid (hx.tab T_8.out)
  have V19 := Lib.hid (RootV.ext V18.out hx)
  have S19 := Lib.hid (hx.row S18.out)
  have V39 := Lib.hid (RootV.ext V38.out hx)
  have S39 := Lib.hid (hx.row S38.out)
  clear E8 T_8 V18 S18 V38 S38
  have I5a9 := Lib.hid hz
  clear hx hz
  go_wp2_with fail
  refine (lawOf_n 0 (by decide) w9_).mono ?_
  rintro e w10_ ⟨vI5b, rfl, hz, hx⟩
  have E10 := Lib.hid (E9.out.trans hx)
  have T_10 := Lib.hid (hx.tab T_9.out)
  have V110 := Lib.hid (RootV.ext V19.out hx)
  have S110 := Lib.hid (hx.row S19.out)
  have V310 := Lib.hid (RootV.ext V39.out hx)
  have S310 := Lib.hid (hx.row S39.out)
  have I5a10 := Lib.hid (hx.num I5a9.out)
  clear E9 T_9 V19 S19 V39 S39 I5a9
  have I5b10 := Lib.hid hz
  clear hx hz
  go_wp2_with fail
  refine (of_none vI5a vI5b 0 1 1 0 w10_ I5a10.out I5b10.out (by decide)).mono ?_
  rintro e w11_ ⟨rfl, hx⟩
  have E11 := Lib.hid (E10.out.trans hx)
  have T_11 := Lib.hid (hx.tab T_10.out)
  have V111 := Lib.hid (RootV.ext V110.out hx)
  have S111 := Lib.hid (hx.row S110.out)
  have V311 := Lib.hid (RootV.ext V310.out hx)
  have S311 := Lib.hid (hx.row S310.out)
  have I5a11 := Lib.hid (hx.num I5a10.out)
  have I5b11 := Lib.hid (hx.num I5b10.out)
  clear E10 T_10 V110 S110 V310 S310 I5a10 I5b10
  clear hx
  obtain ⟨W11b, hW11b⟩ : ∃ W11b, W11b = (w11_.alloc (.cells #[.int .i64 0, .int .i64 0, .bool false, .slice none 0 0, .bool false, .slice none 0 0] 32)).setRow w11_.heap.size (rootCells 0 0 false none 0 0 false none 0 0) := ⟨_, rfl⟩
  have hx : Ext w11_ W11b := by rw [hW11b]; exact ext_setRow (Ext.alloc _ _) (Nat.le_refl _) _
  have S5n : RowAt W11b w11_.heap.size 32 (rootCells 0 0 false none 0 0 false none 0 0) := by rw [hW11b]; exact (RowAt.new _ _ _).setRow _
  have E12 := Lib.hid (E11.out.trans hx)
  have T_12 := Lib.hid (hx.tab T_11.out)
  have V112 := Lib.hid (RootV.ext V111.out hx)
  have S112 := Lib.hid (hx.row S111.out)
  have V312 := Lib.hid (RootV.ext V311.out hx)
  have S312 := Lib.hid (hx.row S311.out)
  have I5a12 := Lib.hid (hx.num I5a11.out)
  have I5b12 := Lib.hid (hx.num I5b11.out)
  clear E11 T_11 V111 S111 V311 S311 I5a11 I5b11
  have S512 := Lib.hid S5n
  have HW11b := Lib.hid hW11b
  clear hx hW11b S5n
  clear I5a12
  clear I5b12
  clear S512
  go_wp2_with (first | (refine store_root rfl (.tmp 5) (.tmp 30) rfl w11_.heap.size rfl _ _ _ _ _ _ _ _ _ _ rfl _ _ (RowAt.new' _ _ rfl) rfl ?_; rw [← HW11b.out]))
  refine (lawOf_n 1 (by decide) W11b).mono ?_
  rintro e w13_ ⟨vI7a, rfl, hz, hx⟩
  have E13 := Lib.hid (E12.out.trans hx)
  have T_13 := Lib.hid (hx.tab T_12.out)
  have V113 := Lib.hid (RootV.ext V112.out hx)
  have S113 := Lib.hid (hx.row S112.out)
  have V313 := Lib.hid (RootV.ext V312.out hx)
  have S313 := Lib.hid (hx.row S312.out)
  clear E12 T_12 V112 S112 V312 S312
  have I7a13 := Lib.hid hz
  clear hx hz
  go_wp2_with fail
  refine (lawOf_n 1 (by decide) w13_).mono ?_
  rintro e w14_ ⟨vI7b, rfl, hz, hx⟩
  have E14 := Lib.hid (E13.out.trans hx)
  have T_14 := Lib.hid (hx.tab T_13.out)
  have V114 := Lib.hid (RootV.ext V113.out hx)
  have S114 := Lib.hid (hx.row S113.out)
  have V314 := Lib.hid (RootV.ext V313.out hx)
  have S314 := Lib.hid (hx.row S313.out)
  have I7a14 := Lib.hid (hx.num I7a13.out)
  clear E13 T_13 V113 S113 V313 S313 I7a13
  have I7b14 := Lib.hid hz
  clear hx hz
  go_wp2_with fail
  refine (of_none vI7a vI7b 0 2 1 1 w14_ I7a14.out I7b14.out (by decide)).mono ?_
  rintro e w15_ ⟨rfl, hx⟩
  have E15 := Lib.hid (E14.out.trans hx)
  have T_15 := Lib.hid (hx.tab T_14.out)
  have V115 := Lib.hid (RootV.ext V114.out hx)
  have S115 := Lib.hid (hx.row S114.out)
  have V315 := Lib.hid (RootV.ext V314.out hx)
  have S315 := Lib.hid (hx.row S314.out)
  have I7a15 := Lib.hid (hx.num I7a14.out)
  have I7b15 := Lib.hid (hx.num I7b14.out)
  clear E14 T_14 V114 S114 V314 S314 I7a14 I7b14
  clear hx
  obtain ⟨W15b, hW15b⟩ : ∃ W15b, W15b = (w15_.alloc (.cells #[.int .i64 0, .int .i64 0, .bool false, .slice none 0 0, .bool false, .slice none 0 0] 32)).setRow w15_.heap.size (rootCells 0 0 false none 0 0 false none 0 0) := ⟨_, rfl⟩
  have hx : Ext w15_ W15b := by rw [hW15b]; exact ext_setRow (Ext.alloc _ _) (Nat.le_refl _) _
  have S7n : RowAt W15b w15_.heap.size 32 (rootCells 0 0 false none 0 0 false none 0 0) := by rw [hW15b]; exact (RowAt.new _ _ _).setRow _
  have E16 := Lib.hid (E15.out.trans hx)
  have T_16 := Lib.hid (hx.tab T_15.out)
  have V116 := Lib.hid (RootV.ext V115.out hx)
  have S116 := Lib.hid (hx.row S115.out)
  have V316 := Lib.hid (RootV.ext V315.out hx)
  have S316 := Lib.hid (hx.row S315.out)
  have I7a16 := Lib.hid (hx.num I7a15.out)
  have I7b16 := Lib.hid (hx.num I7b15.out)
  clear E15 T_15 V115 S115 V315 S315 I7a15 I7b15
  have S716 := Lib.hid S7n
  have HW15b := Lib.hid hW15b
  clear hx hW15b S7n
  clear I7a16
  clear I7b16
  clear S716
  go_upto_region 5 with (first | (refine store_root rfl (.tmp 7) (.tmp 36) rfl w15_.heap.size rfl _ _ _ _ _ _ _ _ _ _ rfl _ _ (RowAt.new' _ _ rfl) rfl ?_; rw [← HW15b.out]))
  go_upto_region 5 with fail
  refine wp_region_tail (fun D ac w' => ∃ vs : Nat → Value, ac = { tmps := #[Value.bool false, Value.pointer (some { block := w3_.heap.size, off := 0 }), Value.bool true, Value.pointer (some { block := w7_.heap.size, off := 0 }), Value.bool true, Value.pointer (some { block := w11_.heap.size, off := 0 }), Value.bool false, Value.pointer (some { block := w15_.heap.size, off := 0 }), Value.bool false, undef, undef, undef, undef, undef, Value.tuple #[Value.agg #[Value.int IntKind.i64 3, Value.int IntKind.i64 (-1), Value.bool false, Value.slice p1 n1 c1, Value.bool false, Value.slice q1 m1 e1], Value.bool true], vI1a, vI1b, Value.tuple #[Value.agg #[Value.int IntKind.i64 3, Value.int IntKind.i64 (-1), Value.bool false, Value.slice p1 n1 c1, Value.bool false, Value.slice q1 m1 e1], Value.bool true], Value.agg #[Value.int IntKind.i64 3, Value.int IntKind.i64 (-1), Value.bool false, Value.slice p1 n1 c1, Value.bool false, Value.slice q1 m1 e1], Value.bool true, Value.tuple #[Value.agg #[Value.int IntKind.i64 3, Value.int IntKind.i64 0, Value.bool false, Value.slice p3 n3 c3, Value.bool false, Value.slice q3 m3 e3], Value.bool true], vI3a, vI3b, Value.tuple #[Value.agg #[Value.int IntKind.i64 3, Value.int IntKind.i64 0, Value.bool false, Value.slice p3 n3 c3, Value.bool false, Value.slice q3 m3 e3], Value.bool true], Value.agg #[Value.int IntKind.i64 3, Value.int IntKind.i64 0, Value.bool false, Value.slice p3 n3 c3, Value.bool false, Value.slice q3 m3 e3], Value.bool true, Value.tuple #[root0, Value.bool false], vI5a, vI5b, Value.tuple #[root0, Value.bool false], root0, Value.bool false, Value.tuple #[root0, Value.bool false], vI7a, vI7b, Value.tuple #[root0, Value.bool false], root0, Value.bool false, vs 0, vs 1, vs 2, vs 3, vs 4, vs 5, vs 6, vs 7, vs 8, vs 9, vs 10, vs 11, vs 12, vs 13, vs 14, vs 15, vs 16, vs 17, vs 18, vs 19, vs 20, vs 21, vs 22, vs 23, vs 24, vs 25, vs 26, vs 27, vs 28, undef, undef, undef, undef, undef, undef, undef, undef, undef, undef, undef, undef, undef, undef, undef, undef, undef, undef, undef, undef, undef, undef, undef, undef, undef, undef, undef, undef, undef, undef, undef, undef, undef, undef, undef, undef, undef, undef, undef, undef, undef, undef, undef, undef, undef, undef, undef, undef, undef, undef, undef, undef, undef, undef, undef, undef, undef, undef, undef, undef, undef, undef, undef, undef, undef, undef, undef, undef], defers := [] } ∧ Ext W15b w' ∧ ∀ j, D j → saF (.agg #[.int .i64 3, .int .i64 (-1), .bool false, .slice p1 n1 c1, .bool false, .slice q1 m1 e1]) (.agg #[.int .i64 3, .int .i64 0, .bool false, .slice p3 n3 c3, .bool false, .slice q3 m3 e3]) j (vs j) w') 29 (by kernel_rfl) (by kernel_rfl) (by kernel_rfl) ?start5 ?step5 ?fin5
  case start5 => exact ⟨fun _ => undef, rfl, Ext.drew _, fun _ h => h.elim⟩
  case step5 =>
    rintro i o D ac wz hin hio hnd he ⟨vs, rfl, k0, hF⟩
    rcases i with _ | _ | _ | _ | _ | _ | _ | _ | _ | _ | _ | _ | _ | _ | _ | _ | _ | _ | _ | _ | _ | _ | _ | _ | _ | _ | _ | _ | _ | i
    rotate_left 29
    · exact absurd hin (by omega)
    all_goals (obtain rfl := Option.some.inj (hio.symm.trans (by rfl)))
    · refine step_yes (wanted_of_none rfl _) ?_
      exact wp_of_run (run_mov (.tmp 2) rfl _ rfl) ⟨upd vs 0 _, rfl, k0, inv_step hF (fun _ _ h => h) rfl⟩
    · refine step_yes (wanted_of_none rfl _) ?_
      exact wp_of_run (run_mov (.tmp 38) rfl _ (by exact (hF 0 (he ⟨0, .data⟩ (by simp) rfl)))) ⟨upd vs 1 _, rfl, k0, inv_step hF (fun _ _ h => h) rfl⟩
    · refine step_yes (wanted_g (j := 1) (d := 39) rfl rfl rfl (hF 1 (he ⟨1, .guard⟩ (by simp) rfl))) ?_
      exact wp_of_run (run_load_root (.tmp 1) rfl _ rfl _ _ _ _ _ _ _ _ _ _ _ (k0.row S116.out)) ⟨upd vs 2 _, rfl, k0, inv_step hF (fun _ _ h => h) rfl⟩
    · refine step_yes (wanted_g (j := 1) (d := 39) rfl rfl rfl (hF 1 (he ⟨1, .chain⟩ (by simp) rfl))) ?_
      refine wp_of_callE (run_enter1 12 (.const (.int .i64 4)) _ rfl _ rfl ent_lof) (lawOf_n 4 (by decide) wz) ?_
      rintro e w' ⟨rr, rfl, hz, hx⟩
      exact ⟨_, rfl, upd vs 3 _, rfl, k0.trans hx, inv_step hF (fun j v h => saF_mono hx j v h) hz⟩
    · refine step_yes (wanted_g (j := 1) (d := 39) rfl rfl rfl (hF 1 (he ⟨1, .guard⟩ (by simp) rfl))) ?_
      refine wp_of_callE (run_enter1 12 (.const (.int .i64 9)) _ rfl _ rfl ent_lof) (lawOf_n 9 (by decide) wz) ?_
      rintro e w' ⟨rr, rfl, hz, hx⟩
      exact ⟨_, rfl, upd vs 4 _, rfl, k0.trans hx, inv_step hF (fun j v h => saF_mono hx j v h) hz⟩
    · refine step_yes (wanted_g (j := 1) (d := 39) rfl rfl rfl (hF 1 (he ⟨1, .guard⟩ (by simp) rfl))) ?_
      have g3 := (hF 3 (he ⟨3, .data⟩ (by simp) rfl))
      have g4 := (hF 4 (he ⟨4, .data⟩ (by simp) rfl))
      obtain ⟨pa, ka, ea⟩ := ZNum.parts g3
      obtain ⟨pb, kb, eb⟩ := ZNum.parts g4
      rw [ea] at g3
      rw [eb] at g4
      exact wp_of_run (run_build_root (.const (.int .i64 3)) (.const (.int .i64 (-1))) (.tmp 41) (.tmp 42) rfl _ _ _ _ _ _ _ _ _ _ rfl rfl (by exact ea) (by exact eb)) ⟨upd vs 5 _, rfl, k0, inv_step hF (fun _ _ h => h) (show RootV _ _ _ _ _ _ from ⟨_, _, _, _, _, _, rfl, g3, g4⟩)⟩
    · refine step_yes (wanted_g (j := 1) (d := 39) rfl rfl rfl (hF 1 (he ⟨1, .guard⟩ (by simp) rfl))) ?_
      refine wp_of_callE (run_enter2 15 (.tmp 40) (.tmp 43) _ rfl _ _ (by exact (hF 2 (he ⟨2, .data⟩ (by simp) rfl))) rfl ent_rsame) (rsame_eq _ _ 3 (-1) 4 9 wz (RootV.ext V116.out k0) (hF 5 (he ⟨5, .data⟩ (by simp) rfl))) ?_
      rintro e w' ⟨rfl, hx⟩
      exact ⟨_, rfl, upd vs 6 _, rfl, k0.trans hx, inv_step hF (fun j v h => saF_mono hx j v h) rfl⟩
    · refine step_yes (wanted_of_none rfl _) ?_
      exact wp_of_run (run_pick_t (.tmp 39) (.tmp 44) (.const (.bool false)) rfl (by exact (hF 1 (he ⟨1, .data⟩ (by simp) rfl)))) ⟨upd vs 7 _, rfl, k0, inv_step hF (fun _ _ h => h) (hF 6 (he ⟨6, .data⟩ (by simp) rfl))⟩
    · refine step_yes (wanted_of_none rfl _) ?_
      exact wp_of_run (run_mov (.tmp 45) rfl _ (by exact (hF 7 (he ⟨7, .data⟩ (by simp) rfl)))) ⟨upd vs 8 _, rfl, k0, inv_step hF (fun _ _ h => h) rfl⟩
    · refine step_yes (wanted_g (j := 8) (d := 46) rfl rfl rfl (hF 8 (he ⟨8, .guard⟩ (by simp) rfl))) ?_
      exact wp_of_run (run_load_root (.tmp 1) rfl _ rfl _ _ _ _ _ _ _ _ _ _ _ (k0.row S116.out)) ⟨upd vs 9 _, rfl, k0, inv_step hF (fun _ _ h => h) rfl⟩
    · refine step_yes (wanted_g (j := 8) (d := 46) rfl rfl rfl (hF 8 (he ⟨8, .chain⟩ (by simp) rfl))) ?_
      refine wp_of_callE (run_enter1 19 (.tmp 47) _ rfl _ (by exact (hF 9 (he ⟨9, .data⟩ (by simp) rfl))) ent_rtxt) (rtext_349 _ wz (RootV.ext V116.out k0) (k0.tab T_16.out)) ?_
      rintro e w' ⟨rfl, hx⟩
      exact ⟨_, rfl, upd vs 10 _, rfl, k0.trans hx, inv_step hF (fun j v h => saF_mono hx j v h) rfl⟩
    · refine step_yes (wanted_g (j := 8) (d := 46) rfl rfl rfl (hF 8 (he ⟨8, .guard⟩ (by simp) rfl))) ?_
      exact wp_of_run (run_eql_str (.tmp 48) (.const (.string ⟨#[51, 45, 114, 52, 47, 57]⟩)) rfl _ (by exact (hF 10 (he ⟨10, .data⟩ (by simp) rfl))) rfl) ⟨upd vs 11 _, rfl, k0, inv_step hF (fun _ _ h => h) rfl⟩
    · refine step_yes (wanted_of_none rfl _) ?_
      exact wp_of_run (run_pick_t (.tmp 46) (.tmp 49) (.const (.bool false)) rfl (by exact (hF 8 (he ⟨8, .data⟩ (by simp) rfl)))) ⟨upd vs 12 _, rfl, k0, inv_step hF (fun _ _ h => h) (hF 11 (he ⟨11, .data⟩ (by simp) rfl))⟩
    · refine step_yes (wanted_of_none rfl _) ?_
      exact wp_of_run (run_mov (.tmp 50) rfl _ (by exact (hF 12 (he ⟨12, .data⟩ (by simp) rfl)))) ⟨upd vs 13 _, rfl, k0, inv_step hF (fun _ _ h => h) rfl⟩
    · refine step_yes (wanted_g (j := 13) (d := 51) rfl rfl rfl (hF 13 (he ⟨13, .guard⟩ (by simp) rfl))) ?_
      exact wp_of_run (run_mov (.tmp 4) rfl _ rfl) ⟨upd vs 14 _, rfl, k0, inv_step hF (fun _ _ h => h) rfl⟩
    · refine step_yes (wanted_of_none rfl _) ?_
      exact wp_of_run (run_pick_t (.tmp 51) (.tmp 52) (.const (.bool false)) rfl (by exact (hF 13 (he ⟨13, .data⟩ (by simp) rfl)))) ⟨upd vs 15 _, rfl, k0, inv_step hF (fun _ _ h => h) (hF 14 (he ⟨14, .data⟩ (by simp) rfl))⟩
    · refine step_yes (wanted_of_none rfl _) ?_
      exact wp_of_run (run_mov (.tmp 53) rfl _ (by exact (hF 15 (he ⟨15, .data⟩ (by simp) rfl)))) ⟨upd vs 16 _, rfl, k0, inv_step hF (fun _ _ h => h) rfl⟩
    · refine step_yes (wanted_g (j := 16) (d := 54) rfl rfl rfl (hF 16 (he ⟨16, .guard⟩ (by simp) rfl))) ?_
      exact wp_of_run (run_load_root (.tmp 3) rfl _ rfl _ _ _ _ _ _ _ _ _ _ _ (k0.row S316.out)) ⟨upd vs 17 _, rfl, k0, inv_step hF (fun _ _ h => h) rfl⟩
    · refine step_yes (wanted_g (j := 16) (d := 54) rfl rfl rfl (hF 16 (he ⟨16, .chain⟩ (by simp) rfl))) ?_
      refine wp_of_callE (run_enter1 33 (.const (.int .i64 3)) _ rfl _ rfl ent_whole) (whole_v 3 wz) ?_
      rintro e w' ⟨rr, rfl, hz, hx⟩
      exact ⟨_, rfl, upd vs 18 _, rfl, k0.trans hx, inv_step hF (fun j v h => saF_mono hx j v h) hz⟩
    · refine step_yes (wanted_g (j := 16) (d := 54) rfl rfl rfl (hF 16 (he ⟨16, .guard⟩ (by simp) rfl))) ?_
      refine wp_of_callE (run_enter2 15 (.tmp 55) (.tmp 56) _ rfl _ _ (by exact (hF 17 (he ⟨17, .data⟩ (by simp) rfl))) rfl ent_rsame) (rsame_eq _ _ 3 0 0 1 wz (RootV.ext V316.out k0) (hF 18 (he ⟨18, .data⟩ (by simp) rfl))) ?_
      rintro e w' ⟨rfl, hx⟩
      exact ⟨_, rfl, upd vs 19 _, rfl, k0.trans hx, inv_step hF (fun j v h => saF_mono hx j v h) rfl⟩
    · refine step_yes (wanted_of_none rfl _) ?_
      exact wp_of_run (run_pick_t (.tmp 54) (.tmp 57) (.const (.bool false)) rfl (by exact (hF 16 (he ⟨16, .data⟩ (by simp) rfl)))) ⟨upd vs 20 _, rfl, k0, inv_step hF (fun _ _ h => h) (hF 19 (he ⟨19, .data⟩ (by simp) rfl))⟩
    · refine step_yes (wanted_of_none rfl _) ?_
      exact wp_of_run (run_mov (.tmp 58) rfl _ (by exact (hF 20 (he ⟨20, .data⟩ (by simp) rfl)))) ⟨upd vs 21 _, rfl, k0, inv_step hF (fun _ _ h => h) rfl⟩
    · refine step_yes (wanted_g (j := 21) (d := 59) rfl rfl rfl (hF 21 (he ⟨21, .guard⟩ (by simp) rfl))) ?_
      exact wp_of_run (run_mov (.tmp 6) rfl _ rfl) ⟨upd vs 22 _, rfl, k0, inv_step hF (fun _ _ h => h) rfl⟩
    · refine step_yes (wanted_g (j := 21) (d := 59) rfl rfl rfl (hF 21 (he ⟨21, .guard⟩ (by simp) rfl))) ?_
      exact wp_of_run (run_notb (.tmp 60) rfl false (by exact (hF 22 (he ⟨22, .data⟩ (by simp) rfl)))) ⟨upd vs 23 _, rfl, k0, inv_step hF (fun _ _ h => h) rfl⟩
    · refine step_yes (wanted_of_none rfl _) ?_
      exact wp_of_run (run_pick_t (.tmp 59) (.tmp 61) (.const (.bool false)) rfl (by exact (hF 21 (he ⟨21, .data⟩ (by simp) rfl)))) ⟨upd vs 24 _, rfl, k0, inv_step hF (fun _ _ h => h) (hF 23 (he ⟨23, .data⟩ (by simp) rfl))⟩
    · refine step_yes (wanted_of_none rfl _) ?_
      exact wp_of_run (run_mov (.tmp 62) rfl _ (by exact (hF 24 (he ⟨24, .data⟩ (by simp) rfl)))) ⟨upd vs 25 _, rfl, k0, inv_step hF (fun _ _ h => h) rfl⟩
    · refine step_yes (wanted_g (j := 25) (d := 63) rfl rfl rfl (hF 25 (he ⟨25, .guard⟩ (by simp) rfl))) ?_
      exact wp_of_run (run_mov (.tmp 8) rfl _ rfl) ⟨upd vs 26 _, rfl, k0, inv_step hF (fun _ _ h => h) rfl⟩
    · refine step_yes (wanted_g (j := 25) (d := 63) rfl rfl rfl (hF 25 (he ⟨25, .guard⟩ (by simp) rfl))) ?_
      exact wp_of_run (run_notb (.tmp 64) rfl false (by exact (hF 26 (he ⟨26, .data⟩ (by simp) rfl)))) ⟨upd vs 27 _, rfl, k0, inv_step hF (fun _ _ h => h) rfl⟩
    · refine step_yes (wanted_of_none rfl _) ?_
      exact wp_of_run (run_pick_t (.tmp 63) (.tmp 65) (.const (.bool false)) rfl (by exact (hF 25 (he ⟨25, .data⟩ (by simp) rfl)))) ⟨upd vs 28 _, rfl, k0, inv_step hF (fun _ _ h => h) (hF 27 (he ⟨27, .data⟩ (by simp) rfl))⟩
  case fin5 =>
    rintro D ac wf5 hD ⟨vs, rfl, k0, hF⟩
    change wpList _ _ _ [_] _ _
    have h28 : vs 28 = .bool true := hF 28 (hD 28 (by decide))
    rw [h28]
    have E17 := Lib.hid (E16.out.trans k0)
    have T_17 := Lib.hid (k0.tab T_16.out)
    have V117 := Lib.hid (RootV.ext V116.out k0)
    have S117 := Lib.hid (k0.row S116.out)
    have V317 := Lib.hid (RootV.ext V316.out k0)
    have S317 := Lib.hid (k0.row S316.out)
    clear E16 T_16 V116 S116 V316 S316
    clear hF hD h28 k0
    generalize vs = t5
    clear S117
    clear S317
    clear V117
    clear V317
    go_wp2_with fail
    refine (lawOf_n (-3) (by decide) wf5).mono ?_
    rintro e w18_ ⟨vG0a, rfl, hz, hx⟩
    have E18 := Lib.hid (E17.out.trans hx)
    have T_18 := Lib.hid (hx.tab T_17.out)
    clear E17 T_17
    have G0a18 := Lib.hid hz
    clear hx hz
    go_wp2_with fail
    refine (lawOf_n 2 (by decide) w18_).mono ?_
    rintro e w19_ ⟨vG0b, rfl, hz, hx⟩
    have E19 := Lib.hid (E18.out.trans hx)
    have T_19 := Lib.hid (hx.tab T_18.out)
    have G0a19 := Lib.hid (hx.num G0a18.out)
    clear E18 T_18 G0a18
    have G0b19 := Lib.hid hz
    clear hx hz
    go_wp2_with fail
    refine (lawOf_n 2 (by decide) w19_).mono ?_
    rintro e w20_ ⟨vG0c, rfl, hz, hx⟩
    have E20 := Lib.hid (E19.out.trans hx)
    have T_20 := Lib.hid (hx.tab T_19.out)
    have G0a20 := Lib.hid (hx.num G0a19.out)
    have G0b20 := Lib.hid (hx.num G0b19.out)
    clear E19 T_19 G0a19 G0b19
    have G0c20 := Lib.hid hz
    clear hx hz
    go_wp2_with fail
    refine (sgn_lit vG0a vG0b vG0c (-3) 2 2 (-1) w20_ G0a20.out G0b20.out G0c20.out (by decide) (by decide) (by decide) (by decide) (by decide)).mono ?_
    rintro e w21_ ⟨rfl, hx⟩
    have E21 := Lib.hid (E20.out.trans hx)
    have T_21 := Lib.hid (hx.tab T_20.out)
    have G0a21 := Lib.hid (hx.num G0a20.out)
    have G0b21 := Lib.hid (hx.num G0b20.out)
    have G0c21 := Lib.hid (hx.num G0c20.out)
    clear E20 T_20 G0a20 G0b20 G0c20
    clear hx
    clear G0a21
    clear G0b21
    clear G0c21
    go_wp2_with fail
    refine (lawOf_n (-3) (by decide) w21_).mono ?_
    rintro e w22_ ⟨vG1a, rfl, hz, hx⟩
    have E22 := Lib.hid (E21.out.trans hx)
    have T_22 := Lib.hid (hx.tab T_21.out)
    clear E21 T_21
    have G1a22 := Lib.hid hz
    clear hx hz
    go_wp2_with fail
    refine (lawOf_n 2 (by decide) w22_).mono ?_
    rintro e w23_ ⟨vG1b, rfl, hz, hx⟩
    have E23 := Lib.hid (E22.out.trans hx)
    have T_23 := Lib.hid (hx.tab T_22.out)
    have G1a23 := Lib.hid (hx.num G1a22.out)
    clear E22 T_22 G1a22
    have G1b23 := Lib.hid hz
    clear hx hz
    go_wp2_with fail
    refine (lawOf_n 3 (by decide) w23_).mono ?_
    rintro e w24_ ⟨vG1c, rfl, hz, hx⟩
    have E24 := Lib.hid (E23.out.trans hx)
    have T_24 := Lib.hid (hx.tab T_23.out)
    have G1a24 := Lib.hid (hx.num G1a23.out)
    have G1b24 := Lib.hid (hx.num G1b23.out)
    clear E23 T_23 G1a23 G1b23
    have G1c24 := Lib.hid hz
    clear hx hz
    go_wp2_with fail
    refine (sgn_lit vG1a vG1b vG1c (-3) 2 3 1 w24_ G1a24.out G1b24.out G1c24.out (by decide) (by decide) (by decide) (by decide) (by decide)).mono ?_
    rintro e w25_ ⟨rfl, hx⟩
    have E25 := Lib.hid (E24.out.trans hx)
    have T_25 := Lib.hid (hx.tab T_24.out)
    have G1a25 := Lib.hid (hx.num G1a24.out)
    have G1b25 := Lib.hid (hx.num G1b24.out)
    have G1c25 := Lib.hid (hx.num G1c24.out)
    clear E24 T_24 G1a24 G1b24 G1c24
    clear hx
    clear G1a25
    clear G1b25
    clear G1c25
    go_wp2_with fail
    refine (lawOf_n (-4) (by decide) w25_).mono ?_
    rintro e w26_ ⟨vG2a, rfl, hz, hx⟩
    have E26 := Lib.hid (E25.out.trans hx)
    have T_26 := Lib.hid (hx.tab T_25.out)
    clear E25 T_25
    have G2a26 := Lib.hid hz
    clear hx hz
    go_wp2_with fail
    refine (lawOf_n 2 (by decide) w26_).mono ?_
    rintro e w27_ ⟨vG2b, rfl, hz, hx⟩
    have E27 := Lib.hid (E26.out.trans hx)
    have T_27 := Lib.hid (hx.tab T_26.out)
    have G2a27 := Lib.hid (hx.num G2a26.out)
    clear E26 T_26 G2a26
    have G2b27 := Lib.hid hz
    clear hx hz
    go_wp2_with fail
    refine (lawOf_n 4 (by decide) w27_).mono ?_
    rintro e w28_ ⟨vG2c, rfl, hz, hx⟩
    have E28 := Lib.hid (E27.out.trans hx)
    have T_28 := Lib.hid (hx.tab T_27.out)
    have G2a28 := Lib.hid (hx.num G2a27.out)
    have G2b28 := Lib.hid (hx.num G2b27.out)
    clear E27 T_27 G2a27 G2b27
    have G2c28 := Lib.hid hz
    clear hx hz
    go_wp2_with fail
    refine (sgn_lit vG2a vG2b vG2c (-4) 2 4 0 w28_ G2a28.out G2b28.out G2c28.out (by decide) (by decide) (by decide) (by decide) (by decide)).mono ?_
    rintro e w29_ ⟨rfl, hx⟩
    have E29 := Lib.hid (E28.out.trans hx)
    have T_29 := Lib.hid (hx.tab T_28.out)
    have G2a29 := Lib.hid (hx.num G2a28.out)
    have G2b29 := Lib.hid (hx.num G2b28.out)
    have G2c29 := Lib.hid (hx.num G2c28.out)
    clear E28 T_28 G2a28 G2b28 G2c28
    clear hx
    clear G2a29
    clear G2b29
    clear G2c29
    go_wp2_with fail
    refine (lawOf_n 0 (by decide) w29_).mono ?_
    rintro e w30_ ⟨vG3a, rfl, hz, hx⟩
    have E30 := Lib.hid (E29.out.trans hx)
    have T_30 := Lib.hid (hx.tab T_29.out)
    clear E29 T_29
    have G3a30 := Lib.hid hz
    clear hx hz
    go_wp2_with fail
    refine (lawOf_n (-1) (by decide) w30_).mono ?_
    rintro e w31_ ⟨vG3b, rfl, hz, hx⟩
    have E31 := Lib.hid (E30.out.trans hx)
    have T_31 := Lib.hid (hx.tab T_30.out)
    have G3a31 := Lib.hid (hx.num G3a30.out)
    clear E30 T_30 G3a30
    have G3b31 := Lib.hid hz
    clear hx hz
    go_wp2_with fail
    refine (lawOf_n 0 (by decide) w31_).mono ?_
    rintro e w32_ ⟨vG3c, rfl, hz, hx⟩
    have E32 := Lib.hid (E31.out.trans hx)
    have T_32 := Lib.hid (hx.tab T_31.out)
    have G3a32 := Lib.hid (hx.num G3a31.out)
    have G3b32 := Lib.hid (hx.num G3b31.out)
    clear E31 T_31 G3a31 G3b31
    have G3c32 := Lib.hid hz
    clear hx hz
    go_wp2_with fail
    refine (sgn_lit vG3a vG3b vG3c 0 (-1) 0 0 w32_ G3a32.out G3b32.out G3c32.out (by decide) (by decide) (by decide) (by decide) (by decide)).mono ?_
    rintro e w33_ ⟨rfl, hx⟩
    have E33 := Lib.hid (E32.out.trans hx)
    have T_33 := Lib.hid (hx.tab T_32.out)
    have G3a33 := Lib.hid (hx.num G3a32.out)
    have G3b33 := Lib.hid (hx.num G3b32.out)
    have G3c33 := Lib.hid (hx.num G3c32.out)
    clear E32 T_32 G3a32 G3b32 G3c32
    clear hx
    clear G3a33
    clear G3b33
    clear G3c33
    go_wp2_with fail
    refine (lawSquare_v 0 1 2 w33_ (by decide) (by decide) (by decide) (by decide)).mono ?_
    rintro e w34_ ⟨vQ0a, rfl, hv, hx⟩
    have E34 := Lib.hid (E33.out.trans hx)
    have T_34 := Lib.hid (hx.tab T_33.out)
    clear E33 T_33
    have Q0a34 := Lib.hid hv
    clear hx hv
    go_wp2_with fail
    refine (lawSquare_v 3 (-1) 3 w34_ (by decide) (by decide) (by decide) (by decide)).mono ?_
    rintro e w35_ ⟨vQ0b, rfl, hv, hx⟩
    have E35 := Lib.hid (E34.out.trans hx)
    have T_35 := Lib.hid (hx.tab T_34.out)
    have Q0a35 := Lib.hid (RootV.ext Q0a34.out hx)
    clear E34 T_34 Q0a34
    have Q0b35 := Lib.hid hv
    clear hx hv
    go_wp2_with fail
    refine (cmp_sq vQ0a vQ0b 0 1 2 3 (-1) 3 1 w35_ Q0a35.out Q0b35.out (rtr_one (by decide) (by decide) (by decide) (by decide) (by decide)) (rtr_one (by decide) (by decide) (by decide) (by decide) (by decide)) (by decide)).mono ?_
    rintro e w36_ ⟨rfl, hx⟩
    have E36 := Lib.hid (E35.out.trans hx)
    have T_36 := Lib.hid (hx.tab T_35.out)
    have Q0a36 := Lib.hid (RootV.ext Q0a35.out hx)
    have Q0b36 := Lib.hid (RootV.ext Q0b35.out hx)
    clear E35 T_35 Q0a35 Q0b35
    clear hx
    clear Q0a36
    clear Q0b36
    go_wp2_with fail
    refine (lawSquare_v 1 1 2 w36_ (by decide) (by decide) (by decide) (by decide)).mono ?_
    rintro e w37_ ⟨vQ1a, rfl, hv, hx⟩
    have E37 := Lib.hid (E36.out.trans hx)
    have T_37 := Lib.hid (hx.tab T_36.out)
    clear E36 T_36
    have Q1a37 := Lib.hid hv
    clear hx hv
    go_wp2_with fail
    refine (lawSquare_v 0 1 6 w37_ (by decide) (by decide) (by decide) (by decide)).mono ?_
    rintro e w38_ ⟨vQ1b, rfl, hv, hx⟩
    have E38 := Lib.hid (E37.out.trans hx)
    have T_38 := Lib.hid (hx.tab T_37.out)
    have Q1a38 := Lib.hid (RootV.ext Q1a37.out hx)
    clear E37 T_37 Q1a37
    have Q1b38 := Lib.hid hv
    clear hx hv
    go_wp2_with fail
    refine (cmp_sq vQ1a vQ1b 1 1 2 0 1 6 (-1) w38_ Q1a38.out Q1b38.out (rtr_one (by decide) (by decide) (by decide) (by decide) (by decide)) (rtr_one (by decide) (by decide) (by decide) (by decide) (by decide)) (by decide)).mono ?_
    rintro e w39_ ⟨rfl, hx⟩
    have E39 := Lib.hid (E38.out.trans hx)
    have T_39 := Lib.hid (hx.tab T_38.out)
    have Q1a39 := Lib.hid (RootV.ext Q1a38.out hx)
    have Q1b39 := Lib.hid (RootV.ext Q1b38.out hx)
    clear E38 T_38 Q1a38 Q1b38
    clear hx
    clear Q1a39
    clear Q1b39
    go_wp2_with fail
    refine (lawSquare_v (-1) 1 8 w39_ (by decide) (by decide) (by decide) (by decide)).mono ?_
    rintro e w40_ ⟨vQ2a, rfl, hv, hx⟩
    have E40 := Lib.hid (E39.out.trans hx)
    have T_40 := Lib.hid (hx.tab T_39.out)
    clear E39 T_39
    have Q2a40 := Lib.hid hv
    clear hx hv
    go_wp2_with fail
    refine (lawSquare_v 4 (-1) 5 w40_ (by decide) (by decide) (by decide) (by decide)).mono ?_
    rintro e w41_ ⟨vQ2b, rfl, hv, hx⟩
    have E41 := Lib.hid (E40.out.trans hx)
    have T_41 := Lib.hid (hx.tab T_40.out)
    have Q2a41 := Lib.hid (RootV.ext Q2a40.out hx)
    clear E40 T_40 Q2a40
    have Q2b41 := Lib.hid hv
    clear hx hv
    go_wp2_with fail
    refine (cmp_sq vQ2a vQ2b (-1) 1 8 4 (-1) 5 1 w41_ Q2a41.out Q2b41.out (rtr_one (by decide) (by decide) (by decide) (by decide) (by decide)) (rtr_one (by decide) (by decide) (by decide) (by decide) (by decide)) (by decide)).mono ?_
    rintro e w42_ ⟨rfl, hx⟩
    have E42 := Lib.hid (E41.out.trans hx)
    have T_42 := Lib.hid (hx.tab T_41.out)
    have Q2a42 := Lib.hid (RootV.ext Q2a41.out hx)
    have Q2b42 := Lib.hid (RootV.ext Q2b41.out hx)
    clear E41 T_41 Q2a41 Q2b41
    clear hx
    clear Q2a42
    clear Q2b42
    go_wp2_with fail
    refine (lawSquare_v 9223372036854775807 1 2 w42_ (by decide) (by decide) (by decide) (by decide)).mono ?_
    rintro e w43_ ⟨vPm, rfl, hv, hx⟩
    have E43 := Lib.hid (E42.out.trans hx)
    have T_43 := Lib.hid (hx.tab T_42.out)
    clear E42 T_42
    have Pm43 := Lib.hid hv
    clear hx hv
    go_wp2_with fail
    refine (plus_over _ 9223372036854775807 _ _ _ 1 w43_ Pm43.out (by decide) (by decide) (by decide)).mono ?_
    rintro e w44_ ⟨rfl, hx⟩
    have E44 := Lib.hid (E43.out.trans hx)
    have T_44 := Lib.hid (hx.tab T_43.out)
    have Pm44 := Lib.hid (RootV.ext Pm43.out hx)
    clear E43 T_43 Pm43
    clear hx
    clear Pm44
    obtain ⟨W44b, hW44b⟩ : ∃ W44b, W44b = (w44_.alloc (.cells #[.int .i64 0, .int .i64 0, .bool false, .slice none 0 0, .bool false, .slice none 0 0] 32)).setRow w44_.heap.size (rootCells 0 0 false none 0 0 false none 0 0) := ⟨_, rfl⟩
    have hx : Ext w44_ W44b := by rw [hW44b]; exact ext_setRow (Ext.alloc _ _) (Nat.le_refl _) _
    have S12n : RowAt W44b w44_.heap.size 32 (rootCells 0 0 false none 0 0 false none 0 0) := by rw [hW44b]; exact (RowAt.new _ _ _).setRow _
    have E45 := Lib.hid (E44.out.trans hx)
    have T_45 := Lib.hid (hx.tab T_44.out)
    clear E44 T_44
    have S1245 := Lib.hid S12n
    have HW44b := Lib.hid hW44b
    clear hx hW44b S12n
    clear S1245
    go_wp2_with (first | (refine store_root rfl (.tmp 12) (.tmp 112) rfl w44_.heap.size rfl _ _ _ _ _ _ _ _ _ _ rfl _ _ (RowAt.new' _ _ rfl) rfl ?_; rw [← HW44b.out]))
    refine (lawSquare_v 5 (-1) 9 W44b (by decide) (by decide) (by decide) (by decide)).mono ?_
    rintro e w46_ ⟨vU0a, rfl, hv, hx⟩
    have E46 := Lib.hid (E45.out.trans hx)
    have T_46 := Lib.hid (hx.tab T_45.out)
    clear E45 T_45
    have U0a46 := Lib.hid hv
    clear hx hv
    go_wp2_with fail
    refine (cmpi_sq vU0a 5 (-1) 9 2 0 w46_ U0a46.out (rtr_one (by decide) (by decide) (by decide) (by decide) (by decide)) (by decide) (by decide)).mono ?_
    rintro e w47_ ⟨rfl, hx⟩
    have E47 := Lib.hid (E46.out.trans hx)
    have T_47 := Lib.hid (hx.tab T_46.out)
    have U0a47 := Lib.hid (RootV.ext U0a46.out hx)
    clear E46 T_46 U0a46
    clear hx
    clear U0a47
    go_wp2_with fail
    refine (lawSquare_v 0 1 2 w47_ (by decide) (by decide) (by decide) (by decide)).mono ?_
    rintro e w48_ ⟨vU1a, rfl, hv, hx⟩
    have E48 := Lib.hid (E47.out.trans hx)
    have T_48 := Lib.hid (hx.tab T_47.out)
    clear E47 T_47
    have U1a48 := Lib.hid hv
    clear hx hv
    go_wp2_with fail
    refine (cmpi_sq vU1a 0 1 2 1 1 w48_ U1a48.out (rtr_one (by decide) (by decide) (by decide) (by decide) (by decide)) (by decide) (by decide)).mono ?_
    rintro e w49_ ⟨rfl, hx⟩
    have E49 := Lib.hid (E48.out.trans hx)
    have T_49 := Lib.hid (hx.tab T_48.out)
    have U1a49 := Lib.hid (RootV.ext U1a48.out hx)
    clear E48 T_48 U1a48
    clear hx
    clear U1a49
    go_wp2
    go_ret
    exact ⟨rfl, E49.out⟩
end Go.Proofs.YtegjcikofmphjaaGreatDoor
/- The numbers of the law RootWhole. -/
namespace Go.Proofs.YtegjcikofmphjaaGreatDoor
open Go Go.RowKit Go.Shelf
theorem b8_small {z : Int} (h0 : 0 ≤ z) (h : z ≤ 9223372036854775807) : z.natAbs < B32 ^ 8 := by
  have := b8_big
  omega
theorem gcdZ_low {N D : Int} (hN : 0 ≤ N) (hD : 0 < D) : gcdZ (N / gcdZ N D) (D / gcdZ N D) = 1 ∧ 0 ≤ N / gcdZ N D ∧ 0 < D / gcdZ N D ∧ N = gcdZ N D * (N / gcdZ N D) ∧ D = gcdZ N D * (D / gcdZ N D) := by
  have hg := gcdZ_pos (a := N) hD
  have d1 : gcdZ N D ∣ N := Int.gcd_dvd_left ..
  have d2 : gcdZ N D ∣ D := Int.gcd_dvd_right ..
  have e1 := (Int.mul_ediv_cancel' d1).symm
  have e2 := (Int.mul_ediv_cancel' d2).symm
  refine ⟨?_, Int.ediv_nonneg hN (by omega), ?_, e1, e2⟩
  · have : Int.gcd (N / gcdZ N D) (D / gcdZ N D) = 1 := Int.gcd_ediv_gcd_ediv_gcd (Int.ofNat_lt.1 (show ((0 : Nat) : Int) < ((Int.gcd N D : Nat) : Int) from hg))
    show ((Int.gcd (N / gcdZ N D) (D / gcdZ N D) : Nat) : Int) = 1
    rw [this]; rfl
  · rcases Int.lt_or_le 0 (D / gcdZ N D) with h | h
    · exact h
    · have := Int.mul_nonneg (a := gcdZ N D) (b := -(D / gcdZ N D)) (by omega) (by omega)
      rw [Int.mul_neg, ← e2] at this
      omega
end Go.Proofs.YtegjcikofmphjaaGreatDoor

