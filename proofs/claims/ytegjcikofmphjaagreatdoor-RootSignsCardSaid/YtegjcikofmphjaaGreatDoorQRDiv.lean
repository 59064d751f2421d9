/- Texts that belong together. -/
import Derived.Test.YtegjcikofmphjaaGreatDoorQDivNo
import Derived.Deep.CutRange
set_option linter.all false
/- The reference of layer 1: Div of right numbers by what is positive. -/
namespace Go.Proofs.YtegjcikofmphjaaGreatDoor
open Go Go.RowKit Go.Shelf
theorem made_digs (neg : Bool) (v : Value) (X : Nat) (w : World) (hu : U32s w.heap.size w v (digs X)) (h64 : X < B32 ^ 64) :
    Calls Tryz.prog 64 #[.bool neg, v] w (Gives w (madeZ neg X) (decide (madeZ neg X < 0))) := by
  obtain ⟨p, c, rfl, -, -⟩ := id hu
  have h := made_gives neg p c (digs X) w hu (.inl (by rw [strip_digs (digs_digits X), val_digs])) (digs_digits X) (by rw [val_digs]; exact h64)
  rwa [val_digs] at h
def Dq (w : World) (b0 : Nat) (na : Bool) (p : Option Addr) (n c : Nat) (q : Option Addr) (m c2 : Nat) (zq zr : Int) (vq vr : Value) (W : World) : Prop :=
  ∃ X Y : Nat, U32s W.heap.size W vq (digs X) ∧ U32s W.heap.size W vr (digs Y) ∧ madeZ na X = zq ∧ madeZ false Y = zr ∧ X < B32 ^ 64 ∧ Y < B32 ^ 64 ∧ Df b0 na false p n c q m c2 W ∧ Ext w W
structure Dst (D : Nat → Prop) (w : World) (g k : Nat) (n1 : Bool) (p1 : Option Addr) (l1 c1 : Nat) (n2 : Bool) (p2 : Option Addr) (l2 c2 : Nat) (z1 z2 : Int) (v71 v72 vok : Value) (W : World) : Prop where
  ext : Ext w W
  r9 : RowAt W g 25 (numCells n1 p1 l1 c1)
  r11 : RowAt W k 25 (numCells n2 p2 l2 c2)
  r4 : ∃ a b c d, RowAt W (w.heap.size + 1 + 1) 25 (numCells a b c d) ∧ (D 2 → a = n1 ∧ b = p1 ∧ c = l1 ∧ d = c1)
  r5 : ∃ a b c d, RowAt W (w.heap.size + 1 + 1 + 1) 25 (numCells a b c d) ∧ (D 3 → a = n2 ∧ b = p2 ∧ c = l2 ∧ d = c2)
  zq : ZNum W.heap.size W (.agg #[.bool n1, .slice p1 l1 c1]) z1
  zr : ZNum W.heap.size W (.agg #[.bool n2, .slice p2 l2 c2]) z2
  f0 : D 0 → v71 = .agg #[.bool n1, .slice p1 l1 c1]
  f1 : D 1 → v72 = .agg #[.bool n2, .slice p2 l2 c2]
  f4 : D 4 → vok = .bool true
section
variable {D : Nat → Prop} {w : World} {g k : Nat} {n1 : Bool} {p1 : Option Addr} {l1 c1 : Nat} {n2 : Bool} {p2 : Option Addr} {l2 c2 : Nat} {z1 z2 : Int} {v71 v72 vok : Value} {W : World}
theorem Dst.step {i : Nat} {a71 a72 aok : Value} (h : Dst D w g k n1 p1 l1 c1 n2 p2 l2 c2 z1 z2 v71 v72 vok W) (h2 : i ≠ 2) (h3 : i ≠ 3) (f0 : (0 = i ∨ D 0) → a71 = .agg #[.bool n1, .slice p1 l1 c1]) (f1 : (1 = i ∨ D 1) → a72 = .agg #[.bool n2, .slice p2 l2 c2]) (f4 : (4 = i ∨ D 4) → aok = .bool true) :
    Dst (fun j => j = i ∨ D j) w g k n1 p1 l1 c1 n2 p2 l2 c2 z1 z2 a71 a72 aok W := by
  obtain ⟨a, b, c, d, h4, e4⟩ := h.r4
  obtain ⟨a', b', c', d', h5, e5⟩ := h.r5
  exact ⟨h.ext, h.r9, h.r11, ⟨a, b, c, d, h4, fun e => e4 (e.resolve_left (fun e => h2 e.symm))⟩, ⟨a', b', c', d', h5, fun e => e5 (e.resolve_left (fun e => h3 e.symm))⟩, h.zq, h.zr, f0, f1, f4⟩
theorem Dst.store4 (h : Dst D w g k n1 p1 l1 c1 n2 p2 l2 c2 z1 z2 v71 v72 vok W) (hg : w.heap.size + 1 + 1 ≠ g) (hk : w.heap.size + 1 + 1 ≠ k) :
    Dst (fun j => j = 2 ∨ D j) w g k n1 p1 l1 c1 n2 p2 l2 c2 z1 z2 v71 v72 vok (W.setRow (w.heap.size + 1 + 1) (numCells n1 p1 l1 c1)) := by
  obtain ⟨a, b, c, d, h4, e4⟩ := h.r4
  obtain ⟨a', b', c', d', h5, e5⟩ := h.r5
  refine ⟨ext_setRow h.ext (by omega) _, h.r9.setRowOther _ (fun e => hg e.symm), h.r11.setRowOther _ (fun e => hk e.symm), ⟨_, _, _, _, h4.setRow _, fun _ => ⟨rfl, rfl, rfl, rfl⟩⟩, ⟨a', b', c', d', h5.setRowOther _ (by omega), fun e => e5 (e.resolve_left (by decide))⟩, ?_, ?_, fun e => h.f0 (e.resolve_left (by decide)), fun e => h.f1 (e.resolve_left (by decide)), fun e => h.f4 (e.resolve_left (by decide))⟩
  · rw [setRow_size]; exact h.zq.setNum h4 _
  · rw [setRow_size]; exact h.zr.setNum h4 _
theorem Dst.store5 (h : Dst D w g k n1 p1 l1 c1 n2 p2 l2 c2 z1 z2 v71 v72 vok W) (hg : w.heap.size + 1 + 1 + 1 ≠ g) (hk : w.heap.size + 1 + 1 + 1 ≠ k) :
    Dst (fun j => j = 3 ∨ D j) w g k n1 p1 l1 c1 n2 p2 l2 c2 z1 z2 v71 v72 vok (W.setRow (w.heap.size + 1 + 1 + 1) (numCells n2 p2 l2 c2)) := by
  obtain ⟨a, b, c, d, h4, e4⟩ := h.r4
  obtain ⟨a', b', c', d', h5, e5⟩ := h.r5
  refine ⟨ext_setRow h.ext (by omega) _, h.r9.setRowOther _ (fun e => hg e.symm), h.r11.setRowOther _ (fun e => hk e.symm), ⟨a, b, c, d, h4.setRowOther _ (by omega), fun e => e4 (e.resolve_left (by decide))⟩, ⟨_, _, _, _, h5.setRow _, fun _ => ⟨rfl, rfl, rfl, rfl⟩⟩, ?_, ?_, fun e => h.f0 (e.resolve_left (by decide)), fun e => h.f1 (e.resolve_left (by decide)), fun e => h.f4 (e.resolve_left (by decide))⟩
  · rw [setRow_size]; exact h.zq.setNum h5 _
  · rw [setRow_size]; exact h.zr.setNum h5 _
end
theorem run_load_numR {o : Oper} {a : Act} {w : World} (x : Operand) (ho : o.op = .load 25 x) (g : Nat) (hx : a.eval x = .pointer (some ⟨g, 0, none⟩)) (neg : Bool) (p : Option Addr) (n c : Nat) (t : TypeId) (hg : RowAt w g t (numCells neg p n c)) : (execOp a.eval o).run Tryz.prog w = .ok (.value (.agg #[.bool neg, .slice p n c])) w := by
  have h0 := hg.num0
  have h1 := hg.num1
  unfold execOp
  simp only [ho, hx, Instr.loadAt, Instr.sureAddr, Sem.run_bind, Sem.run_pure, Result.andThen_ok]
  simp [h0, h1, go_sem]
set_option maxRecDepth 100000 in
set_option maxHeartbeats 4000000 in
theorem rdiv_ok (va vb : Value) (za zb : Int) (nq nr : Bool) (w : World) (ha : ZNum w.heap.size w va za) (hb : ZNum w.heap.size w vb zb) (h : 0 < zb) (hnq : decide (za / zb < 0) = nq) (hnr : decide (za % zb < 0) = nr) :
    Calls Tryz.prog 44 #[va, vb] w (Gives2 w (za / zb) (za % zb) nq nr true) := by
  obtain ⟨p, c, rfl⟩ := ha.parts
  obtain ⟨q, c2, rfl⟩ := hb.parts
  have hua := znum_slice ha
  have hub := znum_slice hb
  obtain ⟨na, hna⟩ : ∃ na, na = decide (za < 0) := ⟨_, rfl⟩
  have hnb : decide (zb < 0) = false := by simp; omega
  rw [hnb]
  obtain ⟨n, hn⟩ : ∃ n, n = (digs za.natAbs).length := ⟨_, rfl⟩
  obtain ⟨m, hm⟩ : ∃ m, m = (digs zb.natAbs).length := ⟨_, rfl⟩
  have hra : rightB na (digs za.natAbs) = true := right_z na ha.2 (fun h0 => by rw [hna]; simp; omega)
  have hrb : rightB false (digs zb.natAbs) = true := right_z false hb.2 (fun _ => rfl)
  rw [← hna, ← hn]
  rw [← hm]
  rw [← hn] at hua
  rw [← hm] at hub
  have hb0 : 0 < val (digs zb.natAbs) := by rw [val_digs]; omega
  have hm0 : 0 < m := by
    rw [hm]
    rcases Nat.eq_zero_or_pos (digs zb.natAbs).length with e | e
    · rw [List.length_eq_zero_iff.1 e] at hb0; exact absurd hb0 (by decide)
    · exact e
  have hm1 : ((m : Int) == 0) = false := by simp; omega
  have Hlim := Lib.hid (div_lim ha.2 hb.2 h)
  have HLa := Lib.hid ha.2
  have HLb := Lib.hid hb.2
  have Hpos := Lib.hid h
  have Hna := Lib.hid hna
  obtain ⟨W4, hW4⟩ : ∃ W4, W4 = (((w.alloc (.cells #[.bool na, .slice p n c] 25)).alloc (.cells #[.bool false, .slice q m c2] 25)).alloc (.cells #[.bool false, .slice none 0 0] 25)).alloc (.cells #[.bool false, .slice none 0 0] 25) := ⟨_, rfl⟩
  have HB4 : Hid (Ext w W4) := by rw [hW4]; exact ((((Below.refl _ w).alloc (Nat.le_refl _) _).alloc (by simp) _).alloc (by simp; omega) _).alloc (by simp; omega) _
  have HD4 : Hid (Df w.heap.size na false p n c q m c2 W4) := by
    rw [hW4]
    exact ⟨(((RowAt.new w _ _).alloc _).alloc _).alloc _, ((RowAt.new' _ _ (by simp)).alloc _).alloc _, (RowAt.new' _ _ (by simp)).alloc _, RowAt.new' _ _ (by simp)⟩
  have HA := Lib.hid (HB4.out.u32s hua)
  have HBn := Lib.hid (HB4.out.u32s hub)
  have HW4 := Lib.hid hW4
  have Hra := Lib.hid hra
  have Hrb := Lib.hid hrb
  have Hb0 := Lib.hid hb0
  have Hn := Lib.hid hn
  have Hm := Lib.hid hm
  clear hW4 ha hb hua hub hna hnb hn hm hra hrb hb0 hm0 h
  go_enter Tryz.func44, Tryz.ntmps44
  go_wp2_with fail
  rw [← HW4.out]
  refine (rright_calls na _ _ W4 HA.out).mono ?_
  rintro e w1 ⟨rfl, hb1⟩
  rw [Hra.out]
  have HD1 := Lib.hid (HD4.out.below hb1)
  have HA1 := Lib.hid (hb1.u32s HA.out)
  have HBn1 := Lib.hid (hb1.u32s HBn.out)
  have HB1 := Lib.hid (HB4.out.trans hb1)
  have h10 := HD1.out.rb.num0
  have h11 := HD1.out.rb.num1
  clear hb1
  go_wp2_with fail
  refine (rright_calls false _ _ w1 HBn1.out).mono ?_
  rintro e w2 ⟨rfl, hb2⟩
  rw [Hrb.out]
  have HD2 := Lib.hid (HD1.out.below hb2)
  have HA2 := Lib.hid (hb2.u32s HA1.out)
  have HBn2 := Lib.hid (hb2.u32s HBn1.out)
  have HB2 := Lib.hid (HB1.out.trans hb2)
  have h20 := HD2.out.rb.num0
  have h21 := HD2.out.rb.num1
  have h22 := HD2.out.ra.num0
  have h23 := HD2.out.ra.num1
  clear hb2 h10 h11
  have hq := quotient_calls _ _ _ _ w2 HA2.out HBn2.out (digs_digits _) (norm_digs _) (by have := digs_len64 HLa.out; omega) (by have := digs_len64 HLb.out; omega) Hb0.out
  rw [val_digs, val_digs] at hq
  have Hq := Lib.hid hq
  clear hq
  go_wp2_with fail
  refine Hq.out.mono ?_
  rintro e w3 ⟨v7, v8, rfl, hu7, hu8, hx3⟩
  have Hu7 := Lib.hid hu7
  have Hu8 := Lib.hid hu8
  obtain ⟨p8, c8, rfl, -, -⟩ := hu8
  have HD3 := Lib.hid (HD2.out.below hx3)
  have HBn3 := Lib.hid (hx3.u32s HBn2.out)
  have HB3 := Lib.hid (HB2.out.trans hx3)
  have h30 := HD3.out.ra.num0
  have h31 := HD3.out.rb.num1
  clear hu7 hx3 h20 h21 h22 h23
  obtain ⟨X, hX⟩ : ∃ X, X = za.natAbs / zb.natAbs := ⟨_, rfl⟩
  obtain ⟨Y, hY⟩ : ∃ Y, Y = za.natAbs % zb.natAbs := ⟨_, rfl⟩
  rw [← hX] at Hu7
  rw [← hY] at Hu8 ⊢
  obtain ⟨l8, hl8⟩ : ∃ l, l = (digs Y).length := ⟨_, rfl⟩
  rw [← hl8] at Hu8 ⊢
  have hY64 : Y < B32 ^ 64 := by rw [hY]; exact Nat.lt_of_le_of_lt (Nat.mod_le _ _) HLa.out
  have hYb : Y < zb.natAbs := by rw [hY]; exact Nat.mod_lt _ (by have := Hpos.out; omega)
  have hX64 : X < B32 ^ 64 := by rw [hX]; exact Nat.lt_of_le_of_lt (Nat.div_le_self _ _) HLa.out
  have HX := Lib.hid hX
  have HY := Lib.hid hY
  have HY64 := Lib.hid hY64
  have HX64 := Lib.hid hX64
  have HYb := Lib.hid hYb
  have Hl8 := Lib.hid hl8
  clear hX hY hl8 hY64 hX64 hYb
  go_upto_region 4 with fail
  go_cut [47] from 13 (fun v wc => v = .bool (na && decide (0 < l8)) ∧ wc = w3)
  case first =>
    cases na
    · go_wp2_with fail
      go_meet
      case rel => exact ⟨rfl, rfl⟩
    · by_cases hl : 0 < l8
      · have hlb : decide (0 < l8) = true := by simp [hl]
        go_wp2_with fail
        go_meet
        case rel => exact ⟨by rw [hlb]; rfl, rfl⟩
      · have hlb : decide (0 < l8) = false := by simp [hl]
        go_wp2_with fail
        go_meet
        case rel => exact ⟨by rw [hlb]; rfl, rfl⟩
  case rest =>
    obtain ⟨rfl, rfl⟩ := hcut
    obtain ⟨tt, htt⟩ : ∃ tt, tt = (na && decide (0 < l8)) := ⟨_, rfl⟩
    rw [← htt]
    have Htt := Lib.hid htt
    clear htt
    go_upto_if 47 with fail
    go_cut [7, 8] from 13 (fun vq vr wx => Dq w w.heap.size na p n c q m c2 (za / zb) (za % zb) vq vr wx)
    case first =>
      cases tt
      case true =>
        obtain ⟨rfl, hl⟩ : na = true ∧ 0 < l8 := by have := Htt.out; simpa using this.symm
        clear Htt
        have hneg : za < 0 := by have := Hna.out; simp at this; exact this
        have hY0 : za.natAbs % zb.natAbs ≠ 0 := by
          rw [← HY.out]
          intro e
          have := Hl8.out
          rw [e] at this
          have h0 : (digs 0).length = 0 := by rw [digs_nil_iff.2 rfl]; rfl
          omega
        have hd := div_neg_rest hneg Hpos.out hY0
        rw [← HX.out, ← HY.out] at hd
        have Hd := Lib.hid hd
        obtain ⟨W1, hW1⟩ : ∃ W1, W1 = wc.alloc (.cells #[.int .u32 1] 87) := ⟨_, rfl⟩
        have hxW : Ext wc W1 := by rw [hW1]; exact Ext.alloc _ _
        have hrW : RowAt W1 wc.heap.size 87 (arr [1]) := by rw [hW1]; exact RowAt.new _ _ _
        have hP2 := plus_calls _ _ _ _ W1 (hxW.u32s Hu7.out) (u32s_arr (cap := 1) hrW hrW.lt (by unfold maxLen; decide)) (digs_digits _) one_digits (Nat.le_trans (digs_len64 HX64.out) (by decide)) (by decide)
        rw [val_digs, show val [1] = 1 from rfl] at hP2
        have HP2 := Lib.hid hP2
        have HW1 := Lib.hid hW1
        have HxW := Lib.hid hxW
        clear hW1 hxW hrW hP2 hd hY0
        go_wp2_with fail
        rw [← HW1.out]
        refine HP2.out.mono ?_
        rintro e wp ⟨vq, rfl, huq, hxq, -⟩
        have Huq := Lib.hid huq
        have Hxq : Hid (Ext wc wp) := HxW.out.trans hxq
        have HDp := Lib.hid (HD3.out.below Hxq.out)
        have h31p := HDp.out.rb.num1
        have HM := Lib.hid (minus_calls _ _ _ _ wp (Hxq.out.u32s HBn3.out) (Hxq.out.u32s Hu8.out) (digs_digits _) (digs_digits _) (Nat.le_trans (digs_len64 HLb.out) (by decide)) (len_le_of_val (norm_digs _) (norm_digs _) (by rw [val_digs, val_digs]; exact Nat.le_of_lt HYb.out)) (by rw [val_digs, val_digs]; exact Nat.le_of_lt HYb.out))
        clear huq hxq h30 h31
        go_wp2_with fail
        refine HM.out.mono ?_
        rintro e wm ⟨vr, rfl, hur, hxr, -⟩
        rw [val_digs, val_digs] at hur
        have Hur := Lib.hid hur
        have Hxr := Lib.hid hxr
        clear hur hxr
        go_wp2_with fail
        go_meet
        case rel =>
          have hlim := div_lim HLa.out HLb.out Hpos.out
          refine ⟨X + 1, zb.natAbs - Y, Hxr.out.u32s Huq.out, Hur.out, ?_, ?_, ?_, ?_, HDp.out.below Hxr.out, (HB3.out.trans Hxq.out).trans Hxr.out⟩
          · rw [Hd.out.1]; rfl
          · rw [Hd.out.2]; rfl
          · have := hlim.1; rw [Hd.out.1, Int.natAbs_neg, Int.natAbs_natCast] at this; exact this
          · exact Nat.lt_of_le_of_lt (Nat.sub_le _ _) HLb.out
      case false =>
        have hcase : ¬ (na = true ∧ 0 < l8) := by
          have := Htt.out
          rintro ⟨rfl, h2⟩
          simp [h2] at this
        have Hcase := Lib.hid hcase
        clear hcase Htt
        go_wp2_with fail
        go_meet
        case rel =>
          refine ⟨X, Y, Hu7.out, Hu8.out, ?_, ?_, HX64.out, HY64.out, HD3.out, HB3.out⟩
          · cases hna : na
            · have hpos : 0 ≤ za := by have := Hna.out; rw [hna] at this; simp at this; omega
              rw [(div_pos_rest hpos Hpos.out).1, ← HX.out]; rfl
            · have hneg : za < 0 := by have := Hna.out; rw [hna] at this; simp at this; exact this
              have hY0 : za.natAbs % zb.natAbs = 0 := by
                have hl0 : (digs Y).length = 0 := by have h1 := Hcase.out; rw [hna] at h1; simp at h1; rw [← Hl8.out]; exact h1
                rw [← HY.out]; exact digs_nil_iff.1 (List.length_eq_zero_iff.1 hl0)
              rw [(div_neg_none hneg Hpos.out hY0).1, ← HX.out]; rfl
          · cases hna : na
            · have hpos : 0 ≤ za := by have := Hna.out; rw [hna] at this; simp at this; omega
              rw [(div_pos_rest hpos Hpos.out).2, ← HY.out]; rfl
            · have hneg : za < 0 := by have := Hna.out; rw [hna] at this; simp at this; exact this
              have hY0 : za.natAbs % zb.natAbs = 0 := by
                have hl0 : (digs Y).length = 0 := by have h1 := Hcase.out; rw [hna] at h1; simp at h1; rw [← Hl8.out]; exact h1
                rw [← HY.out]; exact digs_nil_iff.1 (List.length_eq_zero_iff.1 hl0)
              rw [(div_neg_none hneg Hpos.out hY0).2, HY.out, hY0]; rfl
    case rest =>
      obtain ⟨X1, Y1, hq7, hq8, hzq, hzr, hX1, hY1, hdc, hxc⟩ := hcut
      have Hq8 := Lib.hid hq8
      have HDc := Lib.hid hdc
      have HBc := Lib.hid hxc
      have Hzr := Lib.hid hzr
      have HlY := Lib.hid hY1
      have HN7 := Lib.hid (made_digs na u7 X1 wc hq7 hX1)
      rw [hzq] at HN7
      have hc0 := hdc.ra.num0
      clear hq7 hq8 hdc hxc hzq hzr hX1 hY1 h30 h31
      go_wp2_with fail
      refine HN7.out.mono ?_
      rintro e wd ⟨p9, n9, c9, rfl, hz9, hx9⟩
      rw [hnq] at hz9 ⊢
      have Hz9 := Lib.hid hz9
      have Hx9 := Lib.hid hx9
      have HDd := Lib.hid (HDc.out.below hx9)
      have Hq8d := Lib.hid (hx9.u32s Hq8.out)
      have Hnew := Lib.hid (RowAt.new wd 25 #[.bool false, .slice none 0 0])
      clear hz9 hx9 hc0
      obtain ⟨We, hWe⟩ : ∃ We, We = (wd.alloc (.cells #[.bool false, .slice none 0 0] 25)).setRow wd.heap.size (numCells nq p9 n9 c9) := ⟨_, rfl⟩
      have Hxe : Hid (Ext wd We) := by rw [hWe]; exact ext_setRow (Ext.alloc _ _) (Nat.le_refl _) _
      have Hr9 : Hid (RowAt We wd.heap.size 25 (numCells nq p9 n9 c9)) := by rw [hWe]; exact Hnew.out.setRow _
      have HN8 := Lib.hid (made_digs false u8 Y1 We (Hxe.out.u32s Hq8d.out) HlY.out)
      rw [Hzr.out] at HN8
      have HWe := Lib.hid hWe
      clear hWe
      go_wp2_with (refine store_num rfl (.tmp 9) (.tmp 60) rfl wd.heap.size rfl nq p9 n9 c9 rfl _ _ Hnew.out rfl ?_; rw [← HWe.out])
      refine HN8.out.mono ?_
      rintro e wf ⟨pb, nb9, cb, rfl, hz11, hx11⟩
      rw [hnr] at hz11 ⊢
      have Hz11 := Lib.hid hz11
      have HDf := Lib.hid ((HDd.out.below Hxe.out).below hx11)
      have Hr9f := Lib.hid (hx11.row Hr9.out)
      have Hz9f := Lib.hid ((Hxe.out.trans hx11).num Hz9.out)
      have Hnew2 := Lib.hid (RowAt.new wf 25 #[.bool false, .slice none 0 0])
      have Hext := Lib.hid (HBc.out.trans ((Hx9.out.trans Hxe.out).trans hx11))
      clear hz11 hx11
      obtain ⟨Wg, hWg⟩ : ∃ Wg, Wg = (wf.alloc (.cells #[.bool false, .slice none 0 0] 25)).setRow wf.heap.size (numCells nr pb nb9 cb) := ⟨_, rfl⟩
      have Hxg : Hid (Ext wf Wg) := by rw [hWg]; exact ext_setRow (Ext.alloc _ _) (Nat.le_refl _) _
      have Hr11 : Hid (RowAt Wg wf.heap.size 25 (numCells nr pb nb9 cb)) := by rw [hWg]; exact Hnew2.out.setRow _
      have HWg := Lib.hid hWg
      clear hWg
      go_wp2_with (refine store_num rfl (.tmp 11) (.tmp 65) rfl wf.heap.size rfl nr pb nb9 cb rfl _ _ Hnew2.out rfl ?_; rw [← HWg.out])
      have HwR : Hid (w.heap.size + 1 + 1 + 1 < wd.heap.size) := Nat.lt_of_lt_of_le HDc.out.r5.lt (Below.size Hx9.out)
      have HdE : Hid (wd.heap.size < wf.heap.size) := Hr9f.out.lt
      have Hst : Hid (Dst (fun _ => False) w wd.heap.size wf.heap.size nq p9 n9 c9 nr pb nb9 cb (za / zb) (za % zb) undef undef undef Wg.drew) := by
        have hdf := HDf.out.below Hxg.out
        exact ⟨(Hext.out.trans Hxg.out).trans (Ext.drew _), Hxg.out.row Hr9f.out, Hr11.out, ⟨_, _, _, _, hdf.r4, False.elim⟩, ⟨_, _, _, _, hdf.r5, False.elim⟩, Hxg.out.num Hz9f.out, Hxg.out.num Hz11.out, False.elim, False.elim, False.elim⟩
      refine wp_region_inv (fun D ac w' => ∃ v71 v72 vok, ac = { tmps := #[.agg #[.bool na, .slice p n c], .agg #[.bool false, .slice q m c2], .pointer (some ⟨w.heap.size, 0, none⟩), .pointer (some ⟨w.heap.size + 1, 0, none⟩), .pointer (some ⟨w.heap.size + 1 + 1, 0, none⟩), .pointer (some ⟨w.heap.size + 1 + 1 + 1, 0, none⟩), vok, u7, u8, .pointer (some ⟨wd.heap.size, 0, none⟩), .bool true, .pointer (some ⟨wf.heap.size, 0, none⟩), .bool true, u13, u14, u15, u16, u17, u18, u19, u20, u21, u22, u23, u24, u25, u26, u27, u28, u29, u30, u31, u32, u33, u34, u35, u36, u37, u38, u39, u40, u41, u42, u43, u44, u45, u46, u47, u48, u49, u50, u51, u52, u53, u54, .tuple #[.agg #[.bool nq, .slice p9 n9 c9], .bool true], .pointer (some ⟨w.heap.size, 0, none⟩), .bool na, u7, .tuple #[.agg #[.bool nq, .slice p9 n9 c9], .bool true], .agg #[.bool nq, .slice p9 n9 c9], .bool true, .tuple #[.agg #[.bool nr, .slice pb nb9 cb], .bool true], u8, .tuple #[.agg #[.bool nr, .slice pb nb9 cb], .bool true], .agg #[.bool nr, .slice pb nb9 cb], .bool true, .bool true, .bool false, u69, u70, v71, v72], defers := [] } ∧ Dst D w wd.heap.size wf.heap.size nq p9 n9 c9 nr pb nb9 cb (za / zb) (za % zb) v71 v72 vok w') (by kernel_rfl) (by kernel_rfl) ?startT ?stepT ?finT
      case startT => exact ⟨u71, u72, .bool false, rfl, ⟨Hst.out.ext, Hst.out.r9, Hst.out.r11, Hst.out.r4.imp fun a => Exists.imp fun b => Exists.imp fun c => Exists.imp fun d h => ⟨h.1, False.elim⟩, Hst.out.r5.imp fun a => Exists.imp fun b => Exists.imp fun c => Exists.imp fun d h => ⟨h.1, False.elim⟩, Hst.out.zq, Hst.out.zr, False.elim, False.elim, False.elim⟩⟩
      case stepT =>
        rintro i o D ac wz hio hnd he ⟨v71, v72, vok, rfl, hS⟩
        rcases i with _ | _ | _ | _ | _ | i
        rotate_left 5
        · exact absurd hio (by simp)
        all_goals (obtain rfl := Option.some.inj (hio.symm.trans (by rfl)))
        · exact wp_of_run (run_load_numR (.tmp 9) rfl _ rfl _ _ _ _ _ hS.r9) ⟨_, v72, vok, rfl, hS.step (i := 0) (by decide) (by decide) (fun _ => rfl) (fun e => hS.f1 (e.resolve_left (by decide))) (fun e => hS.f4 (e.resolve_left (by decide)))⟩
        · exact wp_of_run (run_load_numR (.tmp 11) rfl _ rfl _ _ _ _ _ hS.r11) ⟨v71, _, vok, rfl, hS.step (i := 1) (by decide) (by decide) (fun e => hS.f0 (e.resolve_left (by decide))) (fun _ => rfl) (fun e => hS.f4 (e.resolve_left (by decide)))⟩
        · obtain rfl := hS.f0 (he ⟨0, .data⟩ (by simp) rfl)
          obtain ⟨a4, b4, c4, d4, h4, -⟩ := hS.r4
          refine wp_store_row 25 (.tmp 4) (.tmp 71) rfl (w.heap.size + 1 + 1) (numCells nq p9 n9 c9) rfl rfl 25 _ h4 num_info rfl (numCells_one ..) ?_
          exact ⟨_, v72, vok, rfl, hS.store4 (by have := HwR.out; omega) (by have := HwR.out; have := HdE.out; omega)⟩
        · obtain rfl := hS.f1 (he ⟨1, .data⟩ (by simp) rfl)
          obtain ⟨a4, b4, c4, d4, h4, -⟩ := hS.r5
          refine wp_store_row 25 (.tmp 5) (.tmp 72) rfl (w.heap.size + 1 + 1 + 1) (numCells nr pb nb9 cb) rfl rfl 25 _ h4 num_info rfl (numCells_one ..) ?_
          exact ⟨v71, _, vok, rfl, hS.store5 (by have := HwR.out; omega) (by have := HwR.out; have := HdE.out; omega)⟩
        · exact wp_of_run (run_assign (.const (.bool true)) rfl) ⟨v71, v72, _, rfl, hS.step (i := 4) (by decide) (by decide) (fun e => hS.f0 (e.resolve_left (by decide))) (fun e => hS.f1 (e.resolve_left (by decide))) (fun _ => rfl)⟩
      case finT =>
        rintro D ac wz hD ⟨v71, v72, vok, rfl, hS⟩
        obtain ⟨a4, b4, c4, d4, h4, e4⟩ := hS.r4
        obtain ⟨rfl, rfl, rfl, rfl⟩ := e4 (hD 2 (by simp))
        obtain ⟨a5, b5, c5, d5, h5, e5⟩ := hS.r5
        obtain ⟨rfl, rfl, rfl, rfl⟩ := e5 (hD 3 (by simp))
        obtain rfl := hS.f4 (hD 4 (by simp))
        have HS := Lib.hid (And.intro hS.ext (And.intro hS.zq hS.zr))
        have H4 := Lib.hid h4
        have H5 := Lib.hid h5
        clear hD hS h4 h5 e4 e5
        go_wp2_with fail
        exact ret_num2 rfl (w.heap.size + 1 + 1) rfl (w.heap.size + 1 + 1 + 1) rfl _ rfl _ _ _ _ _ _ _ _ _ _ H4.out H5.out ⟨_, _, _, _, _, _, rfl, HS.out.2.1, HS.out.2.2, HS.out.1⟩
end Go.Proofs.YtegjcikofmphjaaGreatDoor

