/- Texts that belong together. -/
import Derived.Test.YtegjcikofmphjaaGreatDoorQRegs
import Derived.Deep.CutRange
import Derived.Deep.LoopGhost
import Derived.Deep.Light
import Derived.Lib.MinMax
set_option linter.all false
/- The reference of layer 1: quotient. -/
namespace Go.Proofs.YtegjcikofmphjaaGreatDoor
open Go Go.RowKit Go.Shelf
theorem twice_lt {R k bt : Nat} (h : R < B32 ^ k) (hb : bt < 2) : 2 * R + bt < B32 ^ (k + 1) := by
  have h1 : B32 ^ (k + 1) = B32 ^ k * B32 := Nat.pow_succ ..
  have h2 : B32 ^ k * 2 ≤ B32 ^ k * B32 := Nat.mul_le_mul_left _ (by decide)
  omega
theorem U32s.drew_set {w : World} {v : Value} {ds : List Nat} {lo g : Nat} (h : U32s w.heap.size w v ds) (hn : NewS lo v) (hg : g < lo) (j : Nat) (u : Value) : U32s (w.setCell ⟨g, j, none⟩ u).drew.heap.size (w.setCell ⟨g, j, none⟩ u).drew v ds := by
  obtain ⟨p, cap, rfl, hl, hc⟩ := h
  refine ⟨p, cap, rfl, hl, fun h0 => ?_⟩
  obtain ⟨b, off, rfl, hb, hcs⟩ := hc h0
  have hlo := hn b off _ _ rfl
  refine ⟨b, off, rfl, by simpa [World.setCell] using hb, fun i hi => ?_⟩
  exact (World.cell?_of_block (w := w) (heap_setCell_other w ⟨g, j, none⟩ b u (by show b ≠ g; omega))).trans (hcs i hi)
structure Sto (D : Nat → Prop) (W W2 w : World) : Prop where
  st : (¬ D 13 ∧ w = W) ∨ (D 13 ∧ w = W2)
  c1 : D 11 → D 7
  c2 : D 13 → D 11
theorem Sto.none (W W2 : World) : Sto (fun _ => False) W W2 W := ⟨.inl ⟨fun h => h, rfl⟩, fun h => h.elim, fun h => h.elim⟩
theorem Sto.same {D : Nat → Prop} {W W2 w : World} (h : Sto D W W2 w) {i : Nat} (hi : i ≠ 13 ∧ i ≠ 11) : Sto (fun j => j = i ∨ D j) W W2 w := by
  refine ⟨?_, fun e => .inr (h.c1 (e.resolve_left (fun e => hi.2 e.symm))), fun e => .inr (h.c2 (e.resolve_left (fun e => hi.1 e.symm)))⟩
  rcases h.st with ⟨a, b⟩ | ⟨a, b⟩
  · exact .inl ⟨fun e => a (e.resolve_left (fun e => hi.1 e.symm)), b⟩
  · exact .inr ⟨.inr a, b⟩
theorem Sto.at11 {D : Nat → Prop} {W W2 w : World} (h : Sto D W W2 w) (h7 : D 7) : Sto (fun j => j = 11 ∨ D j) W W2 w := by
  refine ⟨?_, fun _ => .inr h7, fun _ => .inl rfl⟩
  rcases h.st with ⟨a, b⟩ | ⟨a, b⟩
  · exact .inl ⟨fun e => a (e.resolve_left (by decide)), b⟩
  · exact .inr ⟨.inr a, b⟩
theorem Sto.before {D : Nat → Prop} {W W2 w : World} (h : Sto D W W2 w) (hn : ¬ D 13) : w = W := h.st.elim (fun h => h.2) (fun h => absurd h.1 hn)
theorem Sto.early {D : Nat → Prop} {W W2 w : World} (h : Sto D W W2 w) (hn : ¬ D 7) : w = W := h.before (fun e => hn (h.c1 (h.c2 e)))
theorem Sto.behind {D : Nat → Prop} {W W2 w : World} (h : Sto D W W2 w) (hn : D 13) : w = W2 := h.st.elim (fun h => absurd hn h.1) (fun h => h.2)
theorem Sto.store {D : Nat → Prop} {W w : World} {a : Addr} {v : Value} (h : Sto D W (W.setCell a v) w) (h11 : D 11) (hn : ¬ D 13) : Sto (fun j => j = 13 ∨ D j) W (W.setCell a v) (w.setCell a v) := by
  obtain rfl := h.before hn
  exact ⟨.inr ⟨.inl rfl, rfl⟩, fun e => .inr (h.c1 (e.resolve_left (by decide))), fun _ => .inr h11⟩
def qF (g n k j i f g2 : Nat) : Nat → Value → Prop
  | 0, v => v = .slice (some ⟨g, 0, none⟩) n n
  | 1, v => v = .int .i64 (k : Int)
  | 2, v => v = .int .i64 (j : Int)
  | 3, v => v = .slice (some ⟨g, 0, none⟩) n n
  | 4, v => v = .int .i64 (k : Int)
  | 5, v => v = .int .i64 (j : Int)
  | 6, v => v = .pointer (some ⟨g, j, none⟩)
  | 7, v => v = .int .u32 (f : Int)
  | 8, v => v = .int .i64 (k : Int)
  | 9, v => v = .int .i64 (i : Int)
  | 10, v => v = .int .u32 ((2 ^ i : Nat) : Int)
  | 11, v => v = .int .u32 (g2 : Int)
  | 12, v => v = .pointer (some ⟨g, j, none⟩)
  | _, _ => True
set_option maxRecDepth 100000 in
set_option maxHeartbeats 8000000 in
theorem quotient_calls (v u : Value) (xs ys : List Nat) (w : World) (hx : U32s w.heap.size w v xs) (hy : U32s w.heap.size w u ys) (hdx : Digits xs) (hny : Norm ys) (hbx : xs.length ≤ 66) (hby : ys.length ≤ 66) (hD : 0 < val ys) :
    Calls Tryz.prog 74 #[v, u] w fun e w' => ∃ q r, e = .returned (.tuple #[q, r]) ∧ U32s w'.heap.size w' q (digs (val xs / val ys)) ∧ U32s w'.heap.size w' r (digs (val xs % val ys)) ∧ Ext w w' := by
  have hy0 := hy
  obtain ⟨p, cap, rfl, hl, hc⟩ := hx
  obtain ⟨q, cap2, rfl, hl2, hc2⟩ := hy
  obtain ⟨n, hn⟩ : ∃ n, n = xs.length := ⟨_, rfl⟩
  obtain ⟨m, hm⟩ : ∃ m, m = ys.length := ⟨_, rfl⟩
  rw [← hn] at hbx ⊢
  rw [← hm] at hby hy0 ⊢
  have Hy := Lib.hid hy0
  clear hy0
  have Hc := Lib.hid hc
  have Hn := Lib.hid hn
  have Hm := Lib.hid hm
  have Hdx := Lib.hid hdx
  have Hny := Lib.hid hny
  clear hc hc2 hl hl2 hn hm hdx hny
  have hm1 : IntKind.i64.wrap (32 * (n : Int)) = 32 * (n : Int) := by rw [IntKind.wrap_i64]; omega
  go_enter Tryz.func74, Tryz.ntmps74
  go_wp2_with (refine make_row rfl (.tmp 10) (.tmp 10) rfl n rfl rfl (by omega) ?_)
  go_loopg [7, 8] (32 * n) (fun s r i wr => s ≤ 32 * n ∧ i = .int .i64 ((s : Int) - 1) ∧ U32s wr.heap.size wr r (digs (val xs / 2 ^ s % val ys)) ∧ NewS (w.heap.size + 1) r ∧ (∃ Q : List Nat, Q.length = n ∧ Digits Q ∧ val Q = val xs / 2 ^ s / val ys * 2 ^ s ∧ RowAt wr w.heap.size 87 (arr Q)) ∧ Ext w wr)
  case atStart =>
    have h0 : val xs / 2 ^ (32 * n) = 0 := by
      rw [← pow32, Hn.out]; exact Nat.div_eq_of_lt (val_lt Hdx.out)
    refine ⟨Nat.le_refl _, by go_num, ?_, (fun b off n c e => by cases e), ⟨List.replicate n 0, by simp, fun d hd => by rw [List.eq_of_mem_replicate hd]; exact B32_pos, by rw [h0, val_zeros]; simp, RowAt.new _ _ _⟩, Ext.alloc _ _⟩
    rw [h0, Nat.zero_mod]
    exact u32s_nil _ _
  case round =>
    obtain ⟨hs, rfl, hu, hnew, ⟨Q, hQ, hdQ, hvQ, hrQ⟩, hB⟩ := hrel
    have HU := Lib.hid hu
    have Hnew := Lib.hid hnew
    have HdQ := Lib.hid hdQ
    have HvQ := Lib.hid hvQ
    have HrQ := Lib.hid hrQ
    have HB := Lib.hid hB
    have HQ := Lib.hid hQ
    obtain ⟨pr, cr, rfl, -, -⟩ := hu
    clear hnew hdQ hvQ hrQ hB hQ
    cases gk with
    | zero =>
      have HT := Lib.hid (trim_digs (p := some ⟨w.heap.size, 0, none⟩) (cap := n) HQ.out (by have h := u32s_row (L := n) (cap := n) HrQ.out HrQ.out.lt (by rw [HQ.out]; omega) (by rw [HQ.out]; unfold maxLen; omega); rwa [List.take_of_length_le (by rw [HQ.out]; omega)] at h) (.inr (Nat.le_refl _)) HdQ.out)
      go_wp2_with fail
      refine HT.out.mono ?_
      rintro e w2 ⟨k2, rfl, -, -, hu2, hx2⟩
      have Hu2 := Lib.hid hu2
      have Hx2 := Lib.hid hx2
      clear hu2 hx2
      go_wp2
      go_ret2
      refine ⟨_, _, rfl, ?_, ?_, HB.out.trans Hx2.out⟩
      · have h := Hu2.out; rw [HvQ.out] at h; simpa using h
      · have h := Hx2.out.u32s HU.out; simpa using h
    | succ k =>
      obtain ⟨R, hR⟩ : ∃ R, R = val xs / 2 ^ (k + 1) % val ys := ⟨_, rfl⟩
      have hRD : R < val ys := by rw [hR]; exact Nat.mod_lt _ hD
      have hyB := val_lt Hny.out.1
      rw [← Hm.out] at hyB
      have hR66 : R < B32 ^ 66 := Nat.lt_of_lt_of_le (Nat.lt_trans hRD hyB) (Nat.pow_le_pow_right B32_pos hby)
      have hk32 : k < 32 * n := by omega
      obtain ⟨j, hj⟩ : ∃ j, j = k / 32 := ⟨_, rfl⟩
      obtain ⟨i, hi⟩ : ∃ i, i = k % 32 := ⟨_, rfl⟩
      have hq32 : (k : Int).tdiv 32 = (j : Int) := by rw [Int.tdiv_eq_ediv_of_nonneg (by omega)]; omega
      have hr32 : (k : Int).tmod 32 = (i : Int) := by rw [Int.tmod_eq_emod_of_nonneg (by omega)]; omega
      have hjn : j < n := by omega
      have hi32 : i ≤ 31 := by omega
      have hq32' : (k : Int) / 32 = (j : Int) := by omega
      have hr32' : (k : Int) % 32 = (i : Int) := by omega
      obtain ⟨b, off, rfl, hb, hcs⟩ := Hc.out (by rw [← Hn.out]; omega)
      have hd1 := (Below.cell HB.out (p := ⟨b, off + j, none⟩) hb).trans (hcs j (by rw [← Hn.out]; exact hjn))
      obtain ⟨d, hd⟩ : ∃ d, d = xs[j]?.getD 0 := ⟨_, rfl⟩
      rw [← hd] at hd1
      have hdB := Hdx.out.getD j
      rw [← hd] at hdB
      obtain ⟨bt, hbt⟩ : ∃ bt, bt = val xs / 2 ^ k % 2 := ⟨_, rfl⟩
      have hbit : d / 2 ^ i % 2 = bt := by rw [hbt, ← digit_bit Hdx.out k, hd, hj, hi]
      have hbt2 : bt < 2 := by rw [hbt]; exact Nat.mod_lt _ (by decide)
      have hhalf := half_pow (val xs) k
      rw [← hbt] at hhalf
      have hstep := quo_step (h := val xs / 2 ^ (k + 1)) hD hbt2
      rw [← hR, ← hhalf] at hstep
      have Hstep := Lib.hid hstep
      have HU1 : Hid (U32s wr.heap.size wr (.slice pr (digs R).length cr) (digs R)) := by have h := HU.out; rw [← hR] at h; exact h
      have Hval : Hid (val (digs R) + val (digs R) = 2 * R) := by show val (digs R) + val (digs R) = 2 * R; rw [val_digs]; omega
      have hlR : (digs R).length ≤ 66 := digs_len.2 hR66
      have HR := Lib.hid hR
      have Hd := Lib.hid hd
      have Hhalf := Lib.hid hhalf
      have Hj := Lib.hid hj
      have Hi := Lib.hid hi
      rw [← hR]
      rw [show (((k + 1 : Nat) : Int) - 1) = (k : Int) by omega]
      obtain ⟨L, hL⟩ : ∃ L, L = (digs R).length := ⟨_, rfl⟩
      rw [← hL] at HU1 ⊢
      have HP := Lib.hid (plus_calls (.slice pr L cr) (.slice pr L cr) (digs R) (digs R) wr HU1.out HU1.out (digs_digits _) (digs_digits _) (by omega) (by omega))
      have Hk32 := Lib.hid hk32
      clear hR hd hhalf hj hi hstep hcs hyB hbt HU hL hk32 hq32' hr32'
      go_wp2_with fail
      refine HP.out.mono ?_
      rintro e w1 ⟨r1, rfl, hu1, hx1, hn1⟩
      have Hx1 := Lib.hid hx1
      have Hn1 := Lib.hid hn1
      have hu1' : U32s w1.heap.size w1 r1 (digs (2 * R)) := by rw [Hval.out] at hu1; exact hu1
      have Hu1 := Lib.hid hu1'
      have hsz1 := Below.size HB.out
      have hd2 := (Below.cell hx1 (p := ⟨b, off + j, none⟩) (Nat.lt_of_lt_of_le hb hsz1)).trans hd1
      clear hx1 hn1 hu1 hu1' hd1
      have hand : bits .and .u32 ((d : Int) / 2 ^ i) 1 = (bt : Int) := by
        have e : (d : Int) / 2 ^ i = ((d / 2 ^ i : Nat) : Int) := by simp
        have h := u32_and (d / 2 ^ i) 1 (Nat.lt_of_le_of_lt (Nat.div_le_self _ _) (by unfold B32 at hdB; exact hdB)) (by decide)
        rw [e]
        refine h.trans ?_
        rw [Nat.and_one_is_mod, hbit]
      have hsw : w.heap.size < w1.heap.size := Nat.lt_of_lt_of_le HrQ.out.lt (Below.size Hx1.out)
      have HbtN : Hid (bt = 0 ∨ bt = 1) := by show _ ∨ _; omega
      have Hand := Lib.hid hand
      clear hbit hand
      go_upto_if 32 with fail
      go_cut [7] from 16 to 55 (fun r wc => U32s wc.heap.size wc r (digs (2 * R + bt)) ∧ NewS (w.heap.size + 1) r ∧ Ext wr wc)
      case first =>
        rcases HbtN.out with hb0 | hb0
        · subst hb0
          have hbb : (bits .and .u32 ((d : Int) / 2 ^ i) 1 == 1) = false := by rw [Hand.out]; rfl
          go_wp2_with fail
          go_meet
          case rel => exact ⟨Hu1.out, fun b off n c e => Nat.le_trans HrQ.out.lt (Hn1.out b off n c e), Hx1.out⟩
        · subst hb0
          have hbb : (bits .and .u32 ((d : Int) / 2 ^ i) 1 == 1) = true := by rw [Hand.out]; rfl
          obtain ⟨W1, hW1⟩ : ∃ W1, W1 = w1.alloc (.cells #[.int .u32 1] 87) := ⟨_, rfl⟩
          have hxW : Ext w1 W1 := by rw [hW1]; exact Ext.alloc _ _
          have hrW : RowAt W1 w1.heap.size 87 (arr [1]) := by rw [hW1]; exact RowAt.new _ _ _
          have hP2 := plus_calls _ _ _ _ W1 (hxW.u32s Hu1.out) (u32s_arr (cap := 1) hrW hrW.lt (by unfold maxLen; decide)) (digs_digits _) one_digits (Nat.le_trans (digs_len.2 (twice_lt (bt := 0) hR66 (by decide))) (by decide : 67 ≤ 1099511627776)) (by decide)
          rw [val_digs, show val [1] = 1 from rfl] at hP2
          have HP2 := Lib.hid hP2
          have HW1 := Lib.hid hW1
          have HxW := Lib.hid hxW
          clear hW1 hxW hrW hP2
          go_wp2_with fail
          rw [← HW1.out]
          refine HP2.out.mono ?_
          rintro e w2 ⟨r2, rfl, hu2, hx2, hn2⟩
          have HuT := Lib.hid hu2
          have HxT : Hid (Ext wr w2) := (Hx1.out.trans HxW.out).trans hx2
          have HnT : Hid (NewS (w.heap.size + 1) r2) := fun b off n c e => Nat.le_trans hsw (Nat.le_trans (Below.size HxW.out) (hn2 b off n c e))
          clear hu2 hx2 hn2
          go_wp2_with fail
          go_meet
          case rel => exact ⟨HuT.out, HnT.out, HxT.out⟩
      case rest =>
        obtain ⟨hu2, hn2, hx2⟩ := hcut
        have HuT := Lib.hid hu2
        have HnT := Lib.hid hn2
        have HxT := Lib.hid hx2
        have HyT := Lib.hid ((HB.out.trans HxT.out).u32s Hy.out)
        have HhD := Lib.hid hD
        have HRD := Lib.hid hRD
        clear hu2 hn2 hx2 hq32 hr32 hd2 hsw hRD
        have hcmp := compare_calls _ _ _ _ wc HuT.out (HyT.out) (digs_digits _) Hny.out.1
        rw [cmpL_norm (norm_digs _) Hny.out, val_digs] at hcmp
        by_cases hge : val ys ≤ 2 * R + bt
        · obtain ⟨c, hc⟩ : ∃ c, c = sgn (2 * R + bt) (val ys) := ⟨_, rfl⟩
          have hc0 : 0 ≤ c := by rw [hc]; unfold sgn; rw [if_neg (by omega)]; split <;> omega
          rw [← hc] at hcmp
          have Hcmp := Lib.hid hcmp
          have hs2 := Hstep.out.2 hge
          have Hs2 := Lib.hid hs2
          have Hlen : Hid (ys.length ≤ (digs (2 * R + bt)).length) := len_le_of_val (norm_digs _) Hny.out (by rw [val_digs]; exact hge)
          have Hlt66 : Hid ((digs (2 * R + bt)).length ≤ 67) := digs_len.2 (twice_lt hR66 hbt2)
          have Hge := Lib.hid hge
          clear hcmp hc hs2 hge
          go_wp2_with fail
          refine Hcmp.out.mono ?_
          rintro e w4 ⟨rfl, hx4⟩
          have Hx4 := Lib.hid hx4
          have HM := Lib.hid (minus_calls _ _ _ _ w4 (hx4.u32s HuT.out) (hx4.u32s HyT.out) (digs_digits _) Hny.out.1 (by have := Hlt66.out; omega) Hlen.out (by rw [val_digs]; exact Hge.out))
          clear hx4
          go_wp2_with fail
          refine HM.out.mono ?_
          rintro e w5 ⟨r3, rfl, hu5, hx5, hn5⟩
          rw [val_digs, ← Hs2.out.1] at hu5
          have Hu5 := Lib.hid hu5
          have Hn5 := Lib.hid hn5
          have Hx5 : Hid (Ext wr w5) := (HxT.out.trans Hx4.out).trans hx5
          have Hr5 := Lib.hid (Hx5.out.row HrQ.out)
          have Hsz5 : Hid (wr.heap.size ≤ w4.heap.size) := Below.size (HxT.out.trans Hx4.out)
          clear hu5 hx5 hn5
          have hvq : val Q / 2 ^ k % 2 = 0 := by rw [HvQ.out, Nat.pow_succ, Nat.mul_comm (2 ^ k) 2, ← Nat.mul_assoc, Nat.mul_div_cancel _ (Nat.pow_pos (by decide))]; omega
          obtain ⟨f, hf⟩ : ∃ f, f = Q[j]?.getD 0 := ⟨_, rfl⟩
          have hfb : f / 2 ^ i % 2 = 0 := by rw [hf, Hj.out, Hi.out, digit_bit HdQ.out k]; exact hvq
          have hfB := HdQ.out.getD j
          rw [← hf] at hfB
          obtain ⟨g2, hg2⟩ : ∃ g2, g2 = f ||| 2 ^ i := ⟨_, rfl⟩
          have hi2 : 2 ^ i < 4294967296 := Nat.lt_of_le_of_lt (Nat.pow_le_pow_right (by decide) hi32) (by decide)
          have hg2B : g2 < 4294967296 := by rw [hg2]; exact Nat.or_lt_two_pow (n := 32) (by unfold B32 at hfB; omega) (by omega)
          have hset : val (Q.set j g2) = val Q + 2 ^ k := by
            have h := val_set (l := Q) (j := j) g2 (by rw [HQ.out]; exact hjn)
            rw [← hf, hg2, or_bit hfb, Nat.mul_add] at h
            have e : B32 ^ j * 2 ^ i = 2 ^ k := by rw [pow32, ← Nat.pow_add]; congr 1; have := Hj.out; have := Hi.out; omega
            rw [hg2, or_bit hfb]
            omega
          have Hset : Hid (val (Q.set j g2) = val xs / 2 ^ k / val ys * 2 ^ k) := by
            show _ = _
            rw [hset, HvQ.out, Hs2.out.2]
            generalize val xs / 2 ^ (k + 1) / val ys = X
            rw [Nat.pow_succ, Nat.add_mul, Nat.one_mul, Nat.mul_comm (2 ^ k) 2, ← Nat.mul_assoc, Nat.mul_comm X 2]
          have hcq : w5.drew.cell? ⟨w.heap.size, j, none⟩ = some (.int .u32 (f : Int)) := by
            have h := Hr5.out.cell j
            rw [arr_get Q j (by rw [HQ.out]; exact hjn), ← hf] at h
            exact h
          have hfq : w5.drew.frozen? ⟨w.heap.size, j, none⟩ = false := Hr5.out.frozen j
          have Hsdig : Hid (Digits (Q.set j g2)) := HdQ.out.set _ (by unfold B32; exact hg2B)
          have HK : Hid (k < 4611686018427387904) := by show _ < _; have := Hk32.out; omega
          have Hjn := Lib.hid hjn
          have Hi32 := Lib.hid hi32
          have HfB : Hid (f < 4294967296) := by show _ < _; unfold B32 at hfB; exact hfB
          have Hi2 := Lib.hid hi2
          have Hg2 := Lib.hid hg2
          have Hg2B := Lib.hid hg2B
          have Hcq := Lib.hid hcq
          have Hfq := Lib.hid hfq
          clear hvq hf hfb hfB hg2 hi2 hset hcq hfq hjn hi32 hg2B
          go_wp2_with fail
          refine wp_region_inv (fun D ac w' => ∃ vs : Nat → Value, ac = { tmps := #[.slice (some ⟨b, off, none⟩) n cap, .slice q m cap2, undef, undef, .slice none 0 0, .slice none 0 0, .slice (some ⟨w.heap.size, 0, none⟩) n n, r3, .int .i64 (k : Int), .slice (some ⟨b, off, none⟩) n cap, .int .i64 (n : Int), .slice (some ⟨w.heap.size, 0, none⟩) n n, .slice (some ⟨b, off, none⟩) n cap, .int .i64 (n : Int), .int .i64 (32 * (n : Int)), .int .i64 (32 * (n : Int) - 1), u16, u17, u18, u19, u20, u21, u22, u23, u24, u25, u26, u27, u28, u29, u30, u31, u32, u33, u34, u35, u7, .slice q m cap2, .int .i64 c, .bool true, u7, .slice q m cap2, r3, vs 0, vs 1, vs 2, vs 3, vs 4, vs 5, vs 6, vs 7, vs 8, vs 9, vs 10, vs 11, vs 12, undef, undef, undef], defers := [] } ∧ Sto D w5.drew (w5.drew.setCell ⟨w.heap.size, j, none⟩ (.int .u32 (g2 : Int))) w' ∧ ∀ z, D z → qF w.heap.size n k j i f g2 z (vs z)) (by kernel_rfl) (by kernel_rfl) ?start ?step ?fin
          case start => exact ⟨fun z => (#[u43, u44, u45, u46, u47, u48, u49, u50, u51, u52, u53, u54, u55] : Array Value).getD z undef, rfl, Sto.none _ _, fun _ h => h.elim⟩
          case step =>
            rintro ix o D ac wz hio hnd he ⟨vs, rfl, hS, hF⟩
            rcases ix with _ | _ | _ | _ | _ | _ | _ | _ | _ | _ | _ | _ | _ | _ | ix
            rotate_left 14
            · exact absurd hio (by simp)
            all_goals (obtain rfl := Option.some.inj (hio.symm.trans (by rfl)))
            · exact wp_of_run (run_mov (.tmp 6) rfl _ rfl) ⟨upd vs 0 _, rfl, hS.same (by decide), inv_same hF rfl⟩
            · exact wp_of_run (run_mov (.tmp 8) rfl _ rfl) ⟨upd vs 1 _, rfl, hS.same (by decide), inv_same hF rfl⟩
            · exact wp_of_run (run_quo32 (.tmp 44) rfl rfl k j HK.out Hj.out (by exact (hF 1 (he ⟨1, .data⟩ (by simp) rfl)))) ⟨upd vs 2 _, rfl, hS.same (by decide), inv_same hF rfl⟩
            · exact wp_of_run (run_mov (.tmp 6) rfl _ rfl) ⟨upd vs 3 _, rfl, hS.same (by decide), inv_same hF rfl⟩
            · exact wp_of_run (run_mov (.tmp 8) rfl _ rfl) ⟨upd vs 4 _, rfl, hS.same (by decide), inv_same hF rfl⟩
            · exact wp_of_run (run_quo32 (.tmp 47) rfl rfl k j HK.out Hj.out (by exact (hF 4 (he ⟨4, .data⟩ (by simp) rfl)))) ⟨upd vs 5 _, rfl, hS.same (by decide), inv_same hF rfl⟩
            · exact wp_of_run (run_idx (.tmp 46) (.tmp 48) rfl w.heap.size n n j (by exact (hF 3 (he ⟨3, .data⟩ (by simp) rfl))) (by exact (hF 5 (he ⟨5, .data⟩ (by simp) rfl))) Hjn.out) ⟨upd vs 6 _, rfl, hS.same (by decide), inv_same hF rfl⟩
            · exact wp_of_run (run_ld_u32 (.tmp 49) rfl ⟨w.heap.size, j, none⟩ (by exact (hF 6 (he ⟨6, .data⟩ (by simp) rfl))) f (by rw [hS.early hnd]; exact Hcq.out)) ⟨upd vs 7 _, rfl, hS.same (by decide), inv_same hF rfl⟩
            · exact wp_of_run (run_mov (.tmp 8) rfl _ rfl) ⟨upd vs 8 _, rfl, hS.same (by decide), inv_same hF rfl⟩
            · exact wp_of_run (run_rem32 (.tmp 51) rfl rfl k i HK.out Hi.out (by exact (hF 8 (he ⟨8, .data⟩ (by simp) rfl)))) ⟨upd vs 9 _, rfl, hS.same (by decide), inv_same hF rfl⟩
            · exact wp_of_run (run_shl1 (.tmp 52) rfl rfl i Hi32.out (by exact (hF 9 (he ⟨9, .data⟩ (by simp) rfl)))) ⟨upd vs 10 _, rfl, hS.same (by decide), inv_same hF rfl⟩
            · exact wp_of_run (run_or (.tmp 50) (.tmp 53) rfl rfl f (2 ^ i) g2 HfB.out Hi2.out Hg2.out (by exact (hF 7 (he ⟨7, .data⟩ (by simp) rfl))) (by exact (hF 10 (he ⟨10, .data⟩ (by simp) rfl)))) ⟨upd vs 11 _, rfl, hS.at11 (he ⟨7, .data⟩ (by simp) rfl), inv_same hF rfl⟩
            · exact wp_of_run (run_idx (.tmp 43) (.tmp 45) rfl w.heap.size n n j (by exact (hF 0 (he ⟨0, .data⟩ (by simp) rfl))) (by exact (hF 2 (he ⟨2, .data⟩ (by simp) rfl))) Hjn.out) ⟨upd vs 12 _, rfl, hS.same (by decide), inv_same hF rfl⟩
            · refine wp_of_skip (run_store_u32 (.tmp 55) (.tmp 54) rfl w.heap.size j g2 f (by exact (hF 12 (he ⟨12, .data⟩ (by simp) rfl))) (by exact (hF 11 (he ⟨11, .data⟩ (by simp) rfl))) (by rw [hS.before hnd]; exact Hcq.out) (by rw [hS.before hnd]; exact Hfq.out)) ⟨upd vs 13 undef, rfl, hS.store (he ⟨11, .data⟩ (by simp) rfl) hnd, inv_same hF trivial⟩
          case fin =>
            rintro D ac wz hD ⟨vs, rfl, hS, hF⟩
            obtain rfl := hS.behind (hD 13 (by simp))
            clear hD hF hS
            go_wp2_with fail
            go_roundg k
            case measure => omega
            case rel =>
              refine ⟨by have := Hk32.out; omega, rfl, ?_, ?_, ⟨Q.set j g2, by rw [List.length_set]; exact HQ.out, Hsdig.out, Hset.out, ?_⟩, ?_⟩
              · exact U32s.drew_set (Hu5.out) (Hn5.out) (Nat.lt_of_lt_of_le HrQ.out.lt Hsz5.out) _ _
              · exact fun b off n c e => Nat.le_trans (Nat.le_trans HrQ.out.lt Hsz5.out) (Hn5.out b off n c e)
              · have h := Hr5.out.set j (.int .u32 (g2 : Int))
                rw [arr_set] at h
                exact h
              · exact Below.drew (Below.setCell (HB.out.trans Hx5.out) (p := ⟨w.heap.size, j, none⟩) (Nat.le_refl _) _)
        · have hc : sgn (2 * R + bt) (val ys) = -1 := sgn_lt (by omega)
          rw [hc] at hcmp
          have Hcmp := Lib.hid hcmp
          have hs2 := Hstep.out.1 (by omega)
          have Hs2 := Lib.hid hs2
          clear hcmp hc hs2 hge
          go_wp2_with fail
          refine Hcmp.out.mono ?_
          rintro e w4 ⟨rfl, hx4⟩
          have Hx4 := Lib.hid hx4
          clear hx4
          go_wp2
          go_roundg k
          case rel =>
            have hx := HxT.out.trans Hx4.out
            refine ⟨by have := Hk32.out; omega, rfl, ?_, HnT.out, ⟨Q, HQ.out, HdQ.out, ?_, hx.row HrQ.out⟩, HB.out.trans hx⟩
            · rw [Hs2.out.1]; exact Hx4.out.u32s HuT.out
            · rw [HvQ.out, Hs2.out.2, Nat.pow_succ, Nat.mul_comm (2 ^ k) 2, ← Nat.mul_assoc, Nat.mul_comm _ 2]
          case measure => omega
end Go.Proofs.YtegjcikofmphjaaGreatDoor

