/- Texts that belong together. -/
import Derived.Test.YtegjcikofmphjaaGreatDoorQRDiv
import Derived.Test.YtegjcikofmphjaaGreatDoorQGcdMath
set_option linter.all false
/- The reference of layer 1: Gcd of right numbers. -/
namespace Go.Proofs.YtegjcikofmphjaaGreatDoor
open Go Go.RowKit Go.Shelf
theorem first_digit {w : World} {v : Value} {X : Nat} (hu : U32s w.heap.size w v (digs X)) (h0 : 0 < X) : ∃ b off n c x, v = .slice (some ⟨b, off, none⟩) n c ∧ n = (digs X).length ∧ 0 < n ∧ w.cell? ⟨b, off, none⟩ = some (.int .u32 (x : Nat)) ∧ x % 2 = X % 2 ∧ x < 4294967296 := by
  have hl : 0 < (digs X).length := by
    rcases Nat.eq_zero_or_pos (digs X).length with e | e
    · have := digs_nil_iff.1 (List.length_eq_zero_iff.1 e); omega
    · exact e
  obtain ⟨p, c, rfl, -, hc⟩ := hu
  obtain ⟨b, off, rfl, -, hcs⟩ := hc hl
  refine ⟨b, off, _, c, (digs X)[0]?.getD 0, rfl, rfl, hl, hcs 0 hl, ?_, ?_⟩
  · rw [← val_mod2, val_digs]
  · have := (digs_digits X).getD 0; unfold B32 at this; exact this
theorem digs_zero_len : (digs 0).length = 0 := by rw [digs_nil_iff.2 rfl]; rfl
theorem digs_pos_len {X : Nat} (h : 0 < X) : 0 < (digs X).length := by
  rcases Nat.eq_zero_or_pos (digs X).length with e | e
  · have := digs_nil_iff.1 (List.length_eq_zero_iff.1 e); omega
  · exact e
theorem madeF_nn (n : Nat) : decide (madeZ false n < 0) = false := by simp [madeZ]
theorem dbl (z G : Nat) : 2 ^ (z + 1) * G = 2 ^ z * G + 2 ^ z * G := by rw [Nat.pow_succ, Nat.mul_right_comm, Nat.mul_two]
structure Gf (b0 : Nat) (na nb : Bool) (p : Option Addr) (n c : Nat) (q : Option Addr) (m c2 : Nat) (W : World) : Prop where
  ra : RowAt W b0 25 (numCells na p n c)
  rb : RowAt W (b0 + 1) 25 (numCells nb q m c2)
  r4 : RowAt W (b0 + 1 + 1) 25 (numCells false none 0 0)
theorem Gf.ext {b0 : Nat} {na nb : Bool} {p : Option Addr} {n c : Nat} {q : Option Addr} {m c2 : Nat} {W W' : World} (h : Gf b0 na nb p n c q m c2 W) (hx : Ext W W') : Gf b0 na nb p n c q m c2 W' := ⟨hx.row h.ra, hx.row h.rb, hx.row h.r4⟩
theorem half_digs (v : Value) (X : Nat) (w : World) (hu : U32s w.heap.size w v (digs X)) (h0 : 0 < X) (h64 : X < B32 ^ 64) :
    Calls Tryz.prog 71 #[v] w fun e w' => ∃ r, e = .returned r ∧ U32s w'.heap.size w' r (digs (X / 2)) ∧ Ext w w' := by
  have h := half_calls v (digs X) w hu (digs_digits X) (digs_pos_len h0) (Nat.le_trans (digs_len64 h64) (by decide))
  rw [val_digs] at h
  exact h.mono fun e w' ⟨r, h1, h2, h3, _⟩ => ⟨r, h1, h2, h3⟩
theorem plus_digs (v u : Value) (X Y : Nat) (w : World) (hu : U32s w.heap.size w v (digs X)) (hv : U32s w.heap.size w u (digs Y)) (hX : X < B32 ^ 64) (hY : Y < B32 ^ 64) :
    Calls Tryz.prog 73 #[v, u] w fun e w' => ∃ r, e = .returned r ∧ U32s w'.heap.size w' r (digs (X + Y)) ∧ Ext w w' := by
  have h := plus_calls v u (digs X) (digs Y) w hu hv (digs_digits X) (digs_digits Y) (Nat.le_trans (digs_len64 hX) (by decide)) (Nat.le_trans (digs_len64 hY) (by decide))
  rw [val_digs, val_digs] at h
  exact h.mono fun e w' ⟨r, h1, h2, h3, _⟩ => ⟨r, h1, h2, h3⟩
theorem minus_digs (v u : Value) (X Y : Nat) (w : World) (hu : U32s w.heap.size w v (digs X)) (hv : U32s w.heap.size w u (digs Y)) (hX : X < B32 ^ 64) (hle : Y ≤ X) :
    Calls Tryz.prog 72 #[v, u] w fun e w' => ∃ r, e = .returned r ∧ U32s w'.heap.size w' r (digs (X - Y)) ∧ Ext w w' := by
  have h := minus_calls v u (digs X) (digs Y) w hu hv (digs_digits X) (digs_digits Y) (Nat.le_trans (digs_len64 hX) (by decide)) (len_le_of_val (norm_digs _) (norm_digs _) (by rw [val_digs, val_digs]; exact hle)) (by rw [val_digs, val_digs]; exact hle)
  rw [val_digs, val_digs] at h
  exact h.mono fun e w' ⟨r, h1, h2, h3, _⟩ => ⟨r, h1, h2, h3⟩
theorem comp_digs (v u : Value) (X Y : Nat) (w : World) (hu : U32s w.heap.size w v (digs X)) (hv : U32s w.heap.size w u (digs Y)) :
    Calls Tryz.prog 70 #[v, u] w fun e w' => e = .returned (.int .i64 (sgn X Y)) ∧ Ext w w' := by
  have h := compare_calls v u (digs X) (digs Y) w hu hv (digs_digits X) (digs_digits Y)
  rw [cmpL_norm (norm_digs _) (norm_digs _), val_digs, val_digs] at h
  exact h
set_option maxRecDepth 100000 in
set_option maxHeartbeats 8000000 in
theorem rgcd_ok (va vb : Value) (za zb : Int) (w : World) (ha : ZNum w.heap.size w va za) (hb : ZNum w.heap.size w vb zb) :
    Calls Tryz.prog 43 #[va, vb] w (Gives w ((Nat.gcd za.natAbs zb.natAbs : Nat) : Int) false) := by
  obtain ⟨p, c, rfl⟩ := ha.parts
  obtain ⟨q, c2, rfl⟩ := hb.parts
  have hua := znum_slice ha
  have hub := znum_slice hb
  obtain ⟨na, hna⟩ : ∃ na, na = decide (za < 0) := ⟨_, rfl⟩
  obtain ⟨nb, hnb⟩ : ∃ nb, nb = decide (zb < 0) := ⟨_, rfl⟩
  obtain ⟨X0, hX0⟩ : ∃ X0, X0 = za.natAbs := ⟨_, rfl⟩
  obtain ⟨Y0, hY0⟩ : ∃ Y0, Y0 = zb.natAbs := ⟨_, rfl⟩
  have hra : rightB na (digs X0) = true := right_z na (by rw [hX0]; exact ha.2) (fun h0 => by rw [hna]; simp; omega)
  have hrb : rightB nb (digs Y0) = true := right_z nb (by rw [hY0]; exact hb.2) (fun h0 => by rw [hnb]; simp; omega)
  have hlx : X0 < B32 ^ 64 := by rw [hX0]; exact ha.2
  have hly : Y0 < B32 ^ 64 := by rw [hY0]; exact hb.2
  rw [← hna, ← hnb, ← hX0, ← hY0]
  rw [← hX0] at hua
  rw [← hY0] at hub
  clear hna hnb hX0 hY0 ha hb
  obtain ⟨n, hn⟩ : ∃ n, n = (digs X0).length := ⟨_, rfl⟩
  obtain ⟨m, hm⟩ : ∃ m, m = (digs Y0).length := ⟨_, rfl⟩
  rw [← hn] at hua ⊢
  rw [← hm] at hub ⊢
  obtain ⟨W3, hW3⟩ : ∃ W3, W3 = ((w.alloc (.cells #[.bool na, .slice p n c] 25)).alloc (.cells #[.bool nb, .slice q m c2] 25)).alloc (.cells #[.bool false, .slice none 0 0] 25) := ⟨_, rfl⟩
  have HB3 : Hid (Ext w W3) := by rw [hW3]; exact (((Below.refl _ w).alloc (Nat.le_refl _) _).alloc (by simp) _).alloc (by simp; omega) _
  have HG3 : Hid (Gf w.heap.size na nb p n c q m c2 W3) := by
    rw [hW3]
    exact ⟨((RowAt.new w _ _).alloc _).alloc _, (RowAt.new' _ _ (by simp)).alloc _, RowAt.new' _ _ (by simp)⟩
  have HA := Lib.hid (HB3.out.u32s hua)
  have HBn := Lib.hid (HB3.out.u32s hub)
  have HW3 := Lib.hid hW3
  have Hra := Lib.hid hra
  have Hrb := Lib.hid hrb
  have Hlx := Lib.hid hlx
  have Hly := Lib.hid hly
  have Hn := Lib.hid hn
  have Hm := Lib.hid hm
  clear hW3 hua hub hra hrb hlx hly hn hm
  go_enter Tryz.func43, Tryz.ntmps43
  go_wp2_with fail
  rw [← HW3.out]
  refine (rright_calls na _ _ W3 HA.out).mono ?_
  rintro e w1 ⟨rfl, hb1⟩
  rw [Hra.out]
  have HG1 := Lib.hid (HG3.out.ext hb1)
  have HA1 := Lib.hid (hb1.u32s HA.out)
  have HBn1 := Lib.hid (hb1.u32s HBn.out)
  have HB1 := Lib.hid (HB3.out.trans hb1)
  have h10 := HG1.out.rb.num0
  have h11 := HG1.out.rb.num1
  clear hb1
  go_wp2_with fail
  refine (rright_calls nb _ _ w1 HBn1.out).mono ?_
  rintro e w2 ⟨rfl, hb2⟩
  rw [Hrb.out]
  have HG2 := Lib.hid (HG1.out.ext hb2)
  have HA2 := Lib.hid (hb2.u32s HA1.out)
  have HBn2 := Lib.hid (hb2.u32s HBn1.out)
  have HB2 := Lib.hid (HB1.out.trans hb2)
  have h21 := HG2.out.rb.num1
  have h23 := HG2.out.ra.num1
  clear hb2 h10 h11
  by_cases hx0 : X0 = 0
  · have hz : (((Nat.gcd X0 Y0 : Nat) : Int)) = madeZ false Y0 := by rw [hx0, Nat.gcd_zero_left]; rfl
    obtain rfl : n = 0 := by rw [Hn.out, hx0]; exact digs_zero_len
    have HM := Lib.hid (made_digs false (.slice q m c2) Y0 w2 HBn2.out Hly.out)
    have hnn : decide (madeZ false Y0 < 0) = false := by simp [madeZ]
    rw [hnn, ← hz] at HM
    have Hz := Lib.hid hz
    clear hx0 hz hnn
    go_wp2_with fail
    refine HM.out.mono ?_
    rintro e w3 ⟨pr, nr, cr, rfl, hzr, hx3⟩
    have Hzr := Lib.hid hzr
    have Hx3 := Lib.hid hx3
    have HG4 := Lib.hid (HG2.out.ext hx3)
    clear hzr hx3
    go_wp2_with (refine store_num rfl (.tmp 4) (.tmp 28) rfl (w.heap.size + 1 + 1) rfl false pr nr cr rfl _ _ HG4.out.r4 rfl ?_)
    exact ret_num rfl (w.heap.size + 1 + 1) rfl _ rfl _ _ _ _ _ (HG4.out.r4.setRow _) ⟨_, _, _, rfl, by rw [setRow_size]; exact Hzr.out.setNum HG4.out.r4 _, ext_setRow (HB2.out.trans Hx3.out) (by omega) _⟩
  · have hn0 : ((n : Int) == 0) = false := by
      have h1 := digs_pos_len (Nat.pos_of_ne_zero hx0)
      rw [← Hn.out] at h1
      simp; omega
    have Hx0 := Lib.hid hx0
    clear hx0
    by_cases hy0 : Y0 = 0
    · have hz : (((Nat.gcd X0 Y0 : Nat) : Int)) = madeZ false X0 := by rw [hy0, Nat.gcd_zero_right]; rfl
      obtain rfl : m = 0 := by rw [Hm.out, hy0]; exact digs_zero_len
      have HM := Lib.hid (made_digs false (.slice p n c) X0 w2 HA2.out Hlx.out)
      have hnn : decide (madeZ false X0 < 0) = false := by simp [madeZ]
      rw [hnn, ← hz] at HM
      have Hz := Lib.hid hz
      clear hy0 hz hnn
      go_wp2_with fail
      refine HM.out.mono ?_
      rintro e w3 ⟨pr, nr, cr, rfl, hzr, hx3⟩
      have Hzr := Lib.hid hzr
      have Hx3 := Lib.hid hx3
      have HG4 := Lib.hid (HG2.out.ext hx3)
      clear hzr hx3
      go_wp2_with (refine store_num rfl (.tmp 4) (.tmp 35) rfl (w.heap.size + 1 + 1) rfl false pr nr cr rfl _ _ HG4.out.r4 rfl ?_)
      exact ret_num rfl (w.heap.size + 1 + 1) rfl _ rfl _ _ _ _ _ (HG4.out.r4.setRow _) ⟨_, _, _, rfl, by rw [setRow_size]; exact Hzr.out.setNum HG4.out.r4 _, ext_setRow (HB2.out.trans Hx3.out) (by omega) _⟩
    · have hm0 : ((m : Int) == 0) = false := by
        have h1 := digs_pos_len (Nat.pos_of_ne_zero hy0)
        rw [← Hm.out] at h1
        simp; omega
      have Hy0 := Lib.hid hy0
      clear hy0
      go_wp2_with fail
      go_loopg [6, 7, 8] X0 (fun g x y k wr => ∃ Y t : Nat, k = .int .i64 (t : Int) ∧ 0 < g ∧ 0 < Y ∧ X0 = 2 ^ t * g ∧ Y0 = 2 ^ t * Y ∧ U32s wr.heap.size wr x (digs g) ∧ U32s wr.heap.size wr y (digs Y) ∧ Ext w2 wr)
      case atStart => exact ⟨Y0, 0, rfl, Nat.pos_of_ne_zero Hx0.out, Nat.pos_of_ne_zero Hy0.out, by simp, by simp, HA2.out, HBn2.out, Ext.refl _⟩
      case round =>
        obtain ⟨Y, t, rfl, hX, hY, hXt, hYt, hux, huy, hx⟩ := hrel
        obtain ⟨bx, ox, nx, cx, dx, rfl, hnx, hnx0, hcx, hdx2, hdx⟩ := first_digit hux hX
        obtain ⟨by_, oy, ny, cy, dy, rfl, hny, hny0, hcy, hdy2, hdy⟩ := first_digit huy hY
        have Hux := Lib.hid hux
        have Huy := Lib.hid huy
        have HxE := Lib.hid hx
        have HXt := Lib.hid hXt
        have HYt := Lib.hid hYt
        have HX := Lib.hid hX
        have HY := Lib.hid hY
        have hXl : gk < B32 ^ 64 := Nat.lt_of_le_of_lt (by rw [hXt]; exact Nat.le_mul_of_pos_left _ (Nat.pow_pos (by decide))) Hlx.out
        have hYl : Y < B32 ^ 64 := Nat.lt_of_le_of_lt (by rw [hYt]; exact Nat.le_mul_of_pos_left _ (Nat.pow_pos (by decide))) Hly.out
        have HXl := Lib.hid hXl
        have HYl := Lib.hid hYl
        have Ht : Hid (t < 2048) := by
          have h1 := Hlx.out
          rw [pow32, hXt] at h1
          have h2 := two_bound (n := 32 * 64) hX h1
          show t < 2048
          omega
        have hdx' : (dx : Int) % 2 = ((dx % 2 : Nat) : Int) := by omega
        have hdy' : (dy : Int) % 2 = ((dy % 2 : Nat) : Int) := by omega
        have Hnx := Lib.hid hnx
        have Hny := Lib.hid hny
        have Hpx := Lib.hid hdx2
        have Hpy := Lib.hid hdy2
        clear hux huy hx hXt hYt hX hY hXl hYl hnx hny hdx2 hdy2
        by_cases he : dx % 2 = 0 ∧ dy % 2 = 0
        · have hex : ((dx : Int) % 2 == 0) = true := by rw [hdx', he.1]; rfl
          have hey : ((dy : Int) % 2 == 0) = true := by rw [hdy', he.2]; rfl
          have He := Lib.hid he
          have HH := Lib.hid (half_digs _ gk wr Hux.out HX.out HXl.out)
          clear he hdx' hdy'
          go_wp2_with fail
          refine HH.out.mono ?_
          rintro e wa ⟨vx, rfl, hua, hxa⟩
          have Hua := Lib.hid hua
          have Hxa := Lib.hid hxa
          have HH2 := Lib.hid (half_digs _ Y wa (hxa.u32s Huy.out) HY.out HYl.out)
          clear hua hxa
          go_wp2_with fail
          refine HH2.out.mono ?_
          rintro e wb ⟨vy, rfl, hub, hxb⟩
          have Hub := Lib.hid hub
          have Hxb := Lib.hid hxb
          have ht1 : (t : Int) < 2048 := by have := Ht.out; omega
          clear hub hxb
          go_wp2_with fail
          go_roundg (gk / 2)
          case measure => have := HX.out; omega
          case rel =>
            have h1 := HX.out
            have h2 := HY.out
            have h3 := He.out
            have h4 := Hpx.out
            have h5 := Hpy.out
            refine ⟨Y / 2, t + 1, by go_num, by omega, by omega, ?_, ?_, Hxb.out.u32s Hua.out, Hub.out, (HxE.out.trans Hxa.out).trans Hxb.out⟩
            · rw [HXt.out]; exact two_step t gk (by omega)
            · rw [HYt.out]; exact two_step t Y (by omega)
        · have hodd : Hid (gk % 2 = 1 ∨ Y % 2 = 1) := by
            show _ ∨ _
            have h4 := Hpx.out
            have h5 := Hpy.out
            omega
          obtain ⟨G, hG⟩ : ∃ G, G = Nat.gcd gk Y := ⟨_, rfl⟩
          have HGodd : Hid (G % 2 = 1) := by rw [hG]; exact gcd_odd hodd.out
          have HOS : Hid (OddSame gk Y G) := by rw [hG]; exact OddSame.start gk Y
          have HGt : Hid (Nat.gcd X0 Y0 = 2 ^ t * G) := by rw [hG]; rw [HXt.out, HYt.out]; exact gcd_twos t gk Y
          have hcond : ((dx : Int) % 2 == 0) = false ∨ ((dx : Int) % 2 == 0) = true ∧ ((dy : Int) % 2 == 0) = false := by
            rcases Nat.mod_two_eq_zero_or_one dx with e1 | e1
            · right
              have e2 : dy % 2 = 1 := by omega
              rw [hdx', hdy', e1, e2]
              exact ⟨rfl, rfl⟩
            · left
              rw [hdx', e1]
              rfl
          obtain ⟨A, hA⟩ : ∃ A, A = gk := ⟨_, rfl⟩
          rw [← hA] at HOS Hux HXl HX HXt Hnx Hpx
          clear he hdx' hdy' hG hA
          rcases hcond with hex | ⟨hex, hey⟩
          · go_wp2_with fail
            go_loopg [6, 7] (A + Y) (fun g x y wq => ∃ X Y : Nat, g = X + Y ∧ X < B32 ^ 64 ∧ Y < B32 ^ 64 ∧ 0 < Y ∧ OddSame X Y G ∧ (X = 0 → Y % 2 = 1) ∧ U32s wq.heap.size wq x (digs X) ∧ U32s wq.heap.size wq y (digs Y) ∧ Ext w2 wq)
            case atStart => exact ⟨A, Y, rfl, HXl.out, HYl.out, HY.out, HOS.out, fun e => by have := HX.out; omega, Hux.out, Huy.out, HxE.out⟩
            case round =>
              obtain ⟨X1, Y1, hg, hX1l, hY1l, hY1, hO1, hz1, hu1, hv1, hx1⟩ := hrel
              have HX1l := Lib.hid hX1l
              have HY1l := Lib.hid hY1l
              have HY1 := Lib.hid hY1
              have HO1 := Lib.hid hO1
              have HU1 := Lib.hid hu1
              have HV1 := Lib.hid hv1
              have HE1 := Lib.hid hx1
              have HG1' := Lib.hid hg
              clear hX1l hY1l hY1 hO1 hx1 hg
              by_cases hX1 : X1 = 0
              · have HYG : Hid (Y1 = G) := by
                  have h1 := HO1.out
                  rw [hX1] at h1
                  exact h1.fin (hz1 hX1) HGodd.out
                obtain ⟨px, lx, cx1, rfl, hlx0⟩ : ∃ px lx cx1, _ = Value.slice px lx cx1 ∧ lx = 0 := by
                  obtain ⟨px, cx1, e, -, -⟩ := hu1
                  exact ⟨px, (digs X1).length, cx1, e, by rw [hX1]; exact digs_zero_len⟩
                subst hlx0
                have hlim : 2 ^ t * G < B32 ^ 64 := by rw [← HGt.out]; exact gcd_lim Hlx.out Hly.out
                have Hlim := Lib.hid hlim
                clear hX1 hz1 hu1 hv1 hlim
                go_wp2_with fail
                go_loopg [7, 9] t (fun g y k wq => ∃ z : Nat, z + g = t ∧ k = .int .i64 (z : Int) ∧ U32s wq.heap.size wq y (digs (2 ^ z * G)) ∧ Ext w2 wq)
                case atStart => exact ⟨0, by omega, rfl, by rw [Nat.pow_zero, Nat.one_mul, ← HYG.out]; exact HV1.out, HE1.out⟩
                case round =>
                  obtain ⟨z, hzt, rfl, huz, hxz⟩ := hrel
                  have Huz := Lib.hid huz
                  have Hxz := Lib.hid hxz
                  have Hzt := Lib.hid hzt
                  clear huz hxz
                  by_cases hzlt : z < t
                  · have hzb : 2 ^ z * G < B32 ^ 64 := Nat.lt_of_le_of_lt (Nat.mul_le_mul_right _ (Nat.pow_le_pow_right (by decide) (Nat.le_of_lt hzlt))) Hlim.out
                    have HP := Lib.hid (plus_digs _ _ (2 ^ z * G) (2 ^ z * G) _ Huz.out Huz.out hzb hzb)
                    have hzI : (z : Int) < (t : Int) := by omega
                    have Hzlt := Lib.hid hzlt
                    have hz2 : (z : Int) < 2048 := by have := Ht.out; omega
                    clear hzb hzlt hzt
                    go_wp2_with fail
                    refine HP.out.mono ?_
                    rintro e wz ⟨vz, rfl, huz2, hxz2⟩
                    have Huz2 := Lib.hid huz2
                    have Hxz2 := Lib.hid hxz2
                    clear huz2 hxz2
                    go_wp2_with fail
                    go_roundg (gk - 1)
                    case measure => have := Hzt.out; have := Hzlt.out; omega
                    case rel =>
                      refine ⟨z + 1, by have := Hzt.out; have := Hzlt.out; omega, by go_num, ?_, Hxz.out.trans Hxz2.out⟩
                      have e : 2 ^ (z + 1) * G = 2 ^ z * G + 2 ^ z * G := dbl z G
                      rw [e]; exact Huz2.out
                  · have hzt' : z = t := by omega
                    subst hzt'
                    have hzI : ¬ ((z : Int) < (z : Int)) := by omega
                    have HM := Lib.hid (made_digs false _ (2 ^ z * G) _ Huz.out Hlim.out)
                    have hnn : decide (madeZ false (2 ^ z * G) < 0) = false := madeF_nn _
                    have hzz : madeZ false (2 ^ z * G) = ((Nat.gcd X0 Y0 : Nat) : Int) := by rw [HGt.out]; rfl
                    rw [hnn, hzz] at HM
                    clear hzlt hzt hnn hzz
                    go_wp2_with fail
                    refine HM.out.mono ?_
                    rintro e wm ⟨pr, nr, cr, rfl, hzr, hxm⟩
                    have Hzr := Lib.hid hzr
                    have HGm := Lib.hid ((HG2.out.ext Hxz.out).ext hxm)
                    have Hxm := Lib.hid hxm
                    clear hzr hxm
                    go_wp2_with (refine store_num rfl (.tmp 4) (.tmp 91) rfl (w.heap.size + 1 + 1) rfl false pr nr cr rfl _ _ HGm.out.r4 rfl ?_)
                    exact ret_num rfl (w.heap.size + 1 + 1) rfl _ rfl _ _ _ _ _ (HGm.out.r4.setRow _) ⟨_, _, _, rfl, by rw [setRow_size]; exact Hzr.out.setNum HGm.out.r4 _, ext_setRow ((HB2.out.trans Hxz.out).trans Hxm.out) (by omega) _⟩
              · obtain ⟨bx1, ox1, lx, cx1, dx1, rfl, hlx, hlx0, -, -, -⟩ := first_digit hu1 (Nat.pos_of_ne_zero hX1)
                have hlx1 : (0 : Int) < (lx : Int) := by omega
                have HX1 := Lib.hid (Nat.pos_of_ne_zero hX1)
                have Hlx1 := Lib.hid hlx
                have hlxb : decide (0 < lx) = true := by simp [hlx0]
                clear hX1 hz1 hu1 hv1 hlx hlx1
                go_wp2_with fail
                go_loopg [6] X1 (fun g x wq => 0 < g ∧ g ≤ X1 ∧ OddSame g Y1 G ∧ U32s wq.heap.size wq x (digs g) ∧ U32s wq.heap.size wq u7 (digs Y1) ∧ Ext w2 wq)
                case atStart => exact ⟨HX1.out, Nat.le_refl _, HO1.out, HU1.out, HV1.out, HE1.out⟩
                case round =>
                  obtain ⟨hg0, hgX, hgO, hgu, hgv, hgx⟩ := hrel
                  obtain ⟨b3, o3, l3, c3, d3, rfl, hl3, hl30, hc3, hd3, hd3b⟩ := first_digit hgu hg0
                  have HgE := Lib.hid hgx
                  have HgV := Lib.hid hgv
                  have Hg0 := Lib.hid hg0
                  have HgX := Lib.hid hgX
                  have HgO := Lib.hid hgO
                  have Hgu := Lib.hid hgu
                  have Hgl : Hid (gk < B32 ^ 64) := Nat.lt_of_le_of_lt hgX HX1l.out
                  have Hl3 := Lib.hid hl3
                  have Hd3 := Lib.hid hd3
                  have hd3' : (d3 : Int) % 2 = ((d3 % 2 : Nat) : Int) := by omega
                  clear hgx hg0 hgX hgO hgu hgv hl3 hd3
                  rcases Nat.mod_two_eq_zero_or_one d3 with he | he
                  · have hev : ((d3 : Int) % 2 == 0) = true := by rw [hd3', he]; rfl
                    have HH := Lib.hid (half_digs _ gk _ Hgu.out Hg0.out Hgl.out)
                    have He := Lib.hid he
                    clear hd3' he
                    go_wp2_with fail
                    refine HH.out.mono ?_
                    rintro e wh ⟨vh, rfl, huh, hxh⟩
                    have Huh := Lib.hid huh
                    have Hxh := Lib.hid hxh
                    clear huh hxh
                    go_wp2_with fail
                    go_roundg (gk / 2)
                    case measure => have := Hg0.out; omega
                    case rel =>
                      have h1 := Hg0.out
                      have h2 := HgX.out
                      have h3 := He.out
                      have h4 := Hd3.out
                      exact ⟨by omega, by omega, HgO.out.halfX (by omega), Huh.out, Hxh.out.u32s HgV.out, HgE.out.trans Hxh.out⟩
                  · have hev : ((d3 : Int) % 2 == 0) = false := by rw [hd3', he]; rfl
                    obtain ⟨X2, hX2⟩ : ∃ X2, X2 = gk := ⟨_, rfl⟩
                    rw [← hX2] at Hg0 HgX HgO Hgu Hgl Hl3 Hd3
                    have HXodd : Hid (X2 % 2 = 1) := by show _ = _; rw [← Hd3.out]; exact he
                    clear hX2 hd3' he
                    go_wp2_with fail
                    go_loopg [7] Y1 (fun g y wq => 0 < g ∧ g ≤ Y1 ∧ OddSame X2 g G ∧ U32s wq.heap.size wq y (digs g) ∧ U32s wq.heap.size wq (.slice (some ⟨b3, o3, none⟩) l3 c3) (digs X2) ∧ Ext w2 wq)
                    case atStart => exact ⟨HY1.out, Nat.le_refl _, HgO.out, HgV.out, Hgu.out, HgE.out⟩
                    case round =>
                      obtain ⟨hk0, hkY, hkO, hku, hkx, hke⟩ := hrel
                      obtain ⟨b4, o4, l4, c4, d4, rfl, hl4, hl40, hc4, hd4, hd4b⟩ := first_digit hku hk0
                      have HkE := Lib.hid hke
                      have Hk0 := Lib.hid hk0
                      have HkY := Lib.hid hkY
                      have HkO := Lib.hid hkO
                      have Hku := Lib.hid hku
                      have Hkx := Lib.hid hkx
                      have Hkl : Hid (gk < B32 ^ 64) := Nat.lt_of_le_of_lt hkY HY1l.out
                      have Hd4 := Lib.hid hd4
                      have hd4' : (d4 : Int) % 2 = ((d4 % 2 : Nat) : Int) := by omega
                      clear hke hk0 hkY hkO hku hkx hl4 hd4
                      rcases Nat.mod_two_eq_zero_or_one d4 with he4 | he4
                      · have hev4 : ((d4 : Int) % 2 == 0) = true := by rw [hd4', he4]; rfl
                        have HH := Lib.hid (half_digs _ gk _ Hku.out Hk0.out Hkl.out)
                        have He4 := Lib.hid he4
                        clear hd4' he4
                        go_wp2_with fail
                        refine HH.out.mono ?_
                        rintro e wh ⟨vh, rfl, huh, hxh⟩
                        have Huh := Lib.hid huh
                        have Hxh := Lib.hid hxh
                        clear huh hxh
                        go_wp2_with fail
                        go_roundg (gk / 2)
                        case measure => have := Hk0.out; omega
                        case rel =>
                          have h1 := Hk0.out
                          have h2 := HkY.out
                          have h3 := He4.out
                          have h4 := Hd4.out
                          exact ⟨by omega, by omega, HkO.out.halfY (by omega), Huh.out, Hxh.out.u32s Hkx.out, HkE.out.trans Hxh.out⟩
                      · have hev4 : ((d4 : Int) % 2 == 0) = false := by rw [hd4', he4]; rfl
                        have HYodd : Hid (gk % 2 = 1) := by show _ = _; rw [← Hd4.out]; exact he4
                        have HC := Lib.hid (comp_digs _ _ X2 gk _ Hkx.out Hku.out)
                        clear hd4' he4
                        by_cases hlt : X2 < gk
                        · have hs : sgn X2 gk = -1 := sgn_lt hlt
                          rw [hs] at HC
                          have Hlt := Lib.hid hlt
                          clear hs hlt
                          go_wp2_with fail
                          refine HC.out.mono ?_
                          rintro e wc ⟨rfl, hxc⟩
                          have Hxc := Lib.hid hxc
                          have HM := Lib.hid (minus_digs _ _ gk X2 wc (hxc.u32s Hku.out) (hxc.u32s Hkx.out) Hkl.out (Nat.le_of_lt Hlt.out))
                          clear hxc
                          go_wp2_with fail
                          refine HM.out.mono ?_
                          rintro e wm ⟨vm, rfl, hum, hxm⟩
                          have Hum := Lib.hid hum
                          have Hxm := Lib.hid hxm
                          clear hum hxm
                          go_wp2_with fail
                          go_roundg (gk - X2 + X2)
                          case measure => have := HG1'.out; have := Hlt.out; have := HkY.out; have := HX1.out; omega
                          case rel =>
                            refine ⟨gk - X2, X2, rfl, Nat.lt_of_le_of_lt (Nat.sub_le _ _) Hkl.out, Hgl.out, Hg0.out, HkO.out.swap.sub (Nat.le_of_lt Hlt.out), fun _ => HXodd.out, Hum.out, (Hxc.out.trans Hxm.out).u32s Hkx.out, (HkE.out.trans Hxc.out).trans Hxm.out⟩
                        · obtain ⟨cv, hcv⟩ : ∃ cv, cv = sgn X2 gk := ⟨_, rfl⟩
                          have hcv0 : ¬ (cv < 0) := by rw [hcv]; unfold sgn; rw [if_neg hlt]; split <;> omega
                          rw [← hcv] at HC
                          have Hlt := Lib.hid hlt
                          clear hlt hcv
                          go_wp2_with fail
                          refine HC.out.mono ?_
                          rintro e wc ⟨rfl, hxc⟩
                          have Hxc := Lib.hid hxc
                          have HM := Lib.hid (minus_digs _ _ X2 gk wc (hxc.u32s Hkx.out) (hxc.u32s Hku.out) Hgl.out (Nat.le_of_not_lt Hlt.out))
                          clear hxc
                          go_wp2_with fail
                          refine HM.out.mono ?_
                          rintro e wm ⟨vm, rfl, hum, hxm⟩
                          have Hum := Lib.hid hum
                          have Hxm := Lib.hid hxm
                          clear hum hxm
                          go_wp2_with fail
                          go_roundg (X2 - gk + gk)
                          case measure => have := HG1'.out; have := Hlt.out; have := HgX.out; have := Hk0.out; have := HY1.out; omega
                          case rel =>
                            refine ⟨X2 - gk, gk, rfl, Nat.lt_of_le_of_lt (Nat.sub_le _ _) Hgl.out, Hkl.out, Hk0.out, HkO.out.sub (Nat.le_of_not_lt Hlt.out), fun _ => HYodd.out, Hum.out, (Hxc.out.trans Hxm.out).u32s Hku.out, (HkE.out.trans Hxc.out).trans Hxm.out⟩
          · go_wp2_with fail
            go_loopg [6, 7] (A + Y) (fun g x y wq => ∃ X Y : Nat, g = X + Y ∧ X < B32 ^ 64 ∧ Y < B32 ^ 64 ∧ 0 < Y ∧ OddSame X Y G ∧ (X = 0 → Y % 2 = 1) ∧ U32s wq.heap.size wq x (digs X) ∧ U32s wq.heap.size wq y (digs Y) ∧ Ext w2 wq)
            case atStart => exact ⟨A, Y, rfl, HXl.out, HYl.out, HY.out, HOS.out, fun e => by have := HX.out; omega, Hux.out, Huy.out, HxE.out⟩
            case round =>
              obtain ⟨X1, Y1, hg, hX1l, hY1l, hY1, hO1, hz1, hu1, hv1, hx1⟩ := hrel
              have HX1l := Lib.hid hX1l
              have HY1l := Lib.hid hY1l
              have HY1 := Lib.hid hY1
              have HO1 := Lib.hid hO1
              have HU1 := Lib.hid hu1
              have HV1 := Lib.hid hv1
              have HE1 := Lib.hid hx1
              have HG1' := Lib.hid hg
              clear hX1l hY1l hY1 hO1 hx1 hg
              by_cases hX1 : X1 = 0
              · have HYG : Hid (Y1 = G) := by
                  have h1 := HO1.out
                  rw [hX1] at h1
                  exact h1.fin (hz1 hX1) HGodd.out
                obtain ⟨px, lx, cx1, rfl, hlx0⟩ : ∃ px lx cx1, _ = Value.slice px lx cx1 ∧ lx = 0 := by
                  obtain ⟨px, cx1, e, -, -⟩ := hu1
                  exact ⟨px, (digs X1).length, cx1, e, by rw [hX1]; exact digs_zero_len⟩
                subst hlx0
                have hlim : 2 ^ t * G < B32 ^ 64 := by rw [← HGt.out]; exact gcd_lim Hlx.out Hly.out
                have Hlim := Lib.hid hlim
                clear hX1 hz1 hu1 hv1 hlim
                go_wp2_with fail
                go_loopg [7, 9] t (fun g y k wq => ∃ z : Nat, z + g = t ∧ k = .int .i64 (z : Int) ∧ U32s wq.heap.size wq y (digs (2 ^ z * G)) ∧ Ext w2 wq)
                case atStart => exact ⟨0, by omega, rfl, by rw [Nat.pow_zero, Nat.one_mul, ← HYG.out]; exact HV1.out, HE1.out⟩
                case round =>
                  obtain ⟨z, hzt, rfl, huz, hxz⟩ := hrel
                  have Huz := Lib.hid huz
                  have Hxz := Lib.hid hxz
                  have Hzt := Lib.hid hzt
                  clear huz hxz
                  by_cases hzlt : z < t
                  · have hzb : 2 ^ z * G < B32 ^ 64 := Nat.lt_of_le_of_lt (Nat.mul_le_mul_right _ (Nat.pow_le_pow_right (by decide) (Nat.le_of_lt hzlt))) Hlim.out
                    have HP := Lib.hid (plus_digs _ _ (2 ^ z * G) (2 ^ z * G) _ Huz.out Huz.out hzb hzb)
                    have hzI : (z : Int) < (t : Int) := by omega
                    have Hzlt := Lib.hid hzlt
                    have hz2 : (z : Int) < 2048 := by have := Ht.out; omega
                    clear hzb hzlt hzt
                    go_wp2_with fail
                    refine HP.out.mono ?_
                    rintro e wz ⟨vz, rfl, huz2, hxz2⟩
                    have Huz2 := Lib.hid huz2
                    have Hxz2 := Lib.hid hxz2
                    clear huz2 hxz2
                    go_wp2_with fail
                    go_roundg (gk - 1)
                    case measure => have := Hzt.out; have := Hzlt.out; omega
                    case rel =>
                      refine ⟨z + 1, by have := Hzt.out; have := Hzlt.out; omega, by go_num, ?_, Hxz.out.trans Hxz2.out⟩
                      have e : 2 ^ (z + 1) * G = 2 ^ z * G + 2 ^ z * G := dbl z G
                      rw [e]; exact Huz2.out
                  · have hzt' : z = t := by omega
                    subst hzt'
                    have hzI : ¬ ((z : Int) < (z : Int)) := by omega
                    have HM := Lib.hid (made_digs false _ (2 ^ z * G) _ Huz.out Hlim.out)
                    have hnn : decide (madeZ false (2 ^ z * G) < 0) = false := madeF_nn _
                    have hzz : madeZ false (2 ^ z * G) = ((Nat.gcd X0 Y0 : Nat) : Int) := by rw [HGt.out]; rfl
                    rw [hnn, hzz] at HM
                    clear hzlt hzt hnn hzz
                    go_wp2_with fail
                    refine HM.out.mono ?_
                    rintro e wm ⟨pr, nr, cr, rfl, hzr, hxm⟩
                    have Hzr := Lib.hid hzr
                    have HGm := Lib.hid ((HG2.out.ext Hxz.out).ext hxm)
                    have Hxm := Lib.hid hxm
                    clear hzr hxm
                    go_wp2_with (refine store_num rfl (.tmp 4) (.tmp 91) rfl (w.heap.size + 1 + 1) rfl false pr nr cr rfl _ _ HGm.out.r4 rfl ?_)
                    exact ret_num rfl (w.heap.size + 1 + 1) rfl _ rfl _ _ _ _ _ (HGm.out.r4.setRow _) ⟨_, _, _, rfl, by rw [setRow_size]; exact Hzr.out.setNum HGm.out.r4 _, ext_setRow ((HB2.out.trans Hxz.out).trans Hxm.out) (by omega) _⟩
              · obtain ⟨bx1, ox1, lx, cx1, dx1, rfl, hlx, hlx0, -, -, -⟩ := first_digit hu1 (Nat.pos_of_ne_zero hX1)
                have hlx1 : (0 : Int) < (lx : Int) := by omega
                have HX1 := Lib.hid (Nat.pos_of_ne_zero hX1)
                have Hlx1 := Lib.hid hlx
                have hlxb : decide (0 < lx) = true := by simp [hlx0]
                clear hX1 hz1 hu1 hv1 hlx hlx1
                go_wp2_with fail
                go_loopg [6] X1 (fun g x wq => 0 < g ∧ g ≤ X1 ∧ OddSame g Y1 G ∧ U32s wq.heap.size wq x (digs g) ∧ U32s wq.heap.size wq u7 (digs Y1) ∧ Ext w2 wq)
                case atStart => exact ⟨HX1.out, Nat.le_refl _, HO1.out, HU1.out, HV1.out, HE1.out⟩
                case round =>
                  obtain ⟨hg0, hgX, hgO, hgu, hgv, hgx⟩ := hrel
                  obtain ⟨b3, o3, l3, c3, d3, rfl, hl3, hl30, hc3, hd3, hd3b⟩ := first_digit hgu hg0
                  have HgE := Lib.hid hgx
                  have HgV := Lib.hid hgv
                  have Hg0 := Lib.hid hg0
                  have HgX := Lib.hid hgX
                  have HgO := Lib.hid hgO
                  have Hgu := Lib.hid hgu
                  have Hgl : Hid (gk < B32 ^ 64) := Nat.lt_of_le_of_lt hgX HX1l.out
                  have Hl3 := Lib.hid hl3
                  have Hd3 := Lib.hid hd3
                  have hd3' : (d3 : Int) % 2 = ((d3 % 2 : Nat) : Int) := by omega
                  clear hgx hg0 hgX hgO hgu hgv hl3 hd3
                  rcases Nat.mod_two_eq_zero_or_one d3 with he | he
                  · have hev : ((d3 : Int) % 2 == 0) = true := by rw [hd3', he]; rfl
                    have HH := Lib.hid (half_digs _ gk _ Hgu.out Hg0.out Hgl.out)
                    have He := Lib.hid he
                    clear hd3' he
                    go_wp2_with fail
                    refine HH.out.mono ?_
                    rintro e wh ⟨vh, rfl, huh, hxh⟩
                    have Huh := Lib.hid huh
                    have Hxh := Lib.hid hxh
                    clear huh hxh
                    go_wp2_with fail
                    go_roundg (gk / 2)
                    case measure => have := Hg0.out; omega
                    case rel =>
                      have h1 := Hg0.out
                      have h2 := HgX.out
                      have h3 := He.out
                      have h4 := Hd3.out
                      exact ⟨by omega, by omega, HgO.out.halfX (by omega), Huh.out, Hxh.out.u32s HgV.out, HgE.out.trans Hxh.out⟩
                  · have hev : ((d3 : Int) % 2 == 0) = false := by rw [hd3', he]; rfl
                    obtain ⟨X2, hX2⟩ : ∃ X2, X2 = gk := ⟨_, rfl⟩
                    rw [← hX2] at Hg0 HgX HgO Hgu Hgl Hl3 Hd3
                    have HXodd : Hid (X2 % 2 = 1) := by show _ = _; rw [← Hd3.out]; exact he
                    clear hX2 hd3' he
                    go_wp2_with fail
                    go_loopg [7] Y1 (fun g y wq => 0 < g ∧ g ≤ Y1 ∧ OddSame X2 g G ∧ U32s wq.heap.size wq y (digs g) ∧ U32s wq.heap.size wq (.slice (some ⟨b3, o3, none⟩) l3 c3) (digs X2) ∧ Ext w2 wq)
                    case atStart => exact ⟨HY1.out, Nat.le_refl _, HgO.out, HgV.out, Hgu.out, HgE.out⟩
                    case round =>
                      obtain ⟨hk0, hkY, hkO, hku, hkx, hke⟩ := hrel
                      obtain ⟨b4, o4, l4, c4, d4, rfl, hl4, hl40, hc4, hd4, hd4b⟩ := first_digit hku hk0
                      have HkE := Lib.hid hke
                      have Hk0 := Lib.hid hk0
                      have HkY := Lib.hid hkY
                      have HkO := Lib.hid hkO
                      have Hku := Lib.hid hku
                      have Hkx := Lib.hid hkx
                      have Hkl : Hid (gk < B32 ^ 64) := Nat.lt_of_le_of_lt hkY HY1l.out
                      have Hd4 := Lib.hid hd4
                      have hd4' : (d4 : Int) % 2 = ((d4 % 2 : Nat) : Int) := by omega
                      clear hke hk0 hkY hkO hku hkx hl4 hd4
                      rcases Nat.mod_two_eq_zero_or_one d4 with he4 | he4
                      · have hev4 : ((d4 : Int) % 2 == 0) = true := by rw [hd4', he4]; rfl
                        have HH := Lib.hid (half_digs _ gk _ Hku.out Hk0.out Hkl.out)
                        have He4 := Lib.hid he4
                        clear hd4' he4
                        go_wp2_with fail
                        refine HH.out.mono ?_
                        rintro e wh ⟨vh, rfl, huh, hxh⟩
                        have Huh := Lib.hid huh
                        have Hxh := Lib.hid hxh
                        clear huh hxh
                        go_wp2_with fail
                        go_roundg (gk / 2)
                        case measure => have := Hk0.out; omega
                        case rel =>
                          have h1 := Hk0.out
                          have h2 := HkY.out
                          have h3 := He4.out
                          have h4 := Hd4.out
                          exact ⟨by omega, by omega, HkO.out.halfY (by omega), Huh.out, Hxh.out.u32s Hkx.out, HkE.out.trans Hxh.out⟩
                      · have hev4 : ((d4 : Int) % 2 == 0) = false := by rw [hd4', he4]; rfl
                        have HYodd : Hid (gk % 2 = 1) := by show _ = _; rw [← Hd4.out]; exact he4
                        have HC := Lib.hid (comp_digs _ _ X2 gk _ Hkx.out Hku.out)
                        clear hd4' he4
                        by_cases hlt : X2 < gk
                        · have hs : sgn X2 gk = -1 := sgn_lt hlt
                          rw [hs] at HC
                          have Hlt := Lib.hid hlt
                          clear hs hlt
                          go_wp2_with fail
                          refine HC.out.mono ?_
                          rintro e wc ⟨rfl, hxc⟩
                          have Hxc := Lib.hid hxc
                          have HM := Lib.hid (minus_digs _ _ gk X2 wc (hxc.u32s Hku.out) (hxc.u32s Hkx.out) Hkl.out (Nat.le_of_lt Hlt.out))
                          clear hxc
                          go_wp2_with fail
                          refine HM.out.mono ?_
                          rintro e wm ⟨vm, rfl, hum, hxm⟩
                          have Hum := Lib.hid hum
                          have Hxm := Lib.hid hxm
                          clear hum hxm
                          go_wp2_with fail
                          go_roundg (gk - X2 + X2)
                          case measure => have := HG1'.out; have := Hlt.out; have := HkY.out; have := HX1.out; omega
                          case rel =>
                            refine ⟨gk - X2, X2, rfl, Nat.lt_of_le_of_lt (Nat.sub_le _ _) Hkl.out, Hgl.out, Hg0.out, HkO.out.swap.sub (Nat.le_of_lt Hlt.out), fun _ => HXodd.out, Hum.out, (Hxc.out.trans Hxm.out).u32s Hkx.out, (HkE.out.trans Hxc.out).trans Hxm.out⟩
                        · obtain ⟨cv, hcv⟩ : ∃ cv, cv = sgn X2 gk := ⟨_, rfl⟩
                          have hcv0 : ¬ (cv < 0) := by rw [hcv]; unfold sgn; rw [if_neg hlt]; split <;> omega
                          rw [← hcv] at HC
                          have Hlt := Lib.hid hlt
                          clear hlt hcv
                          go_wp2_with fail
                          refine HC.out.mono ?_
                          rintro e wc ⟨rfl, hxc⟩
                          have Hxc := Lib.hid hxc
                          have HM := Lib.hid (minus_digs _ _ X2 gk wc (hxc.u32s Hkx.out) (hxc.u32s Hku.out) Hgl.out (Nat.le_of_not_lt Hlt.out))
                          clear hxc
                          go_wp2_with fail
                          refine HM.out.mono ?_
                          rintro e wm ⟨vm, rfl, hum, hxm⟩
                          have Hum := Lib.hid hum
                          have Hxm := Lib.hid hxm
                          clear hum hxm
                          go_wp2_with fail
                          go_roundg (X2 - gk + gk)
                          case measure => have := HG1'.out; have := Hlt.out; have := HgX.out; have := Hk0.out; have := HY1.out; omega
                          case rel =>
                            refine ⟨X2 - gk, gk, rfl, Nat.lt_of_le_of_lt (Nat.sub_le _ _) Hgl.out, Hkl.out, Hk0.out, HkO.out.sub (Nat.le_of_not_lt Hlt.out), fun _ => HYodd.out, Hum.out, (Hxc.out.trans Hxm.out).u32s Hku.out, (HkE.out.trans Hxc.out).trans Hxm.out⟩
end Go.Proofs.YtegjcikofmphjaaGreatDoor

