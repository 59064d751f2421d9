/- NumTexts. (Written with sym.py and gen_texts.py.) -/
import Derived.Test.YtcmpgboifcemmaaDoorBack
import Derived.Test.YtcmpgboifcemmaaDoorRegion2
set_option linter.all false
namespace Go.Proofs.YtcmpgboifcemmaaDoor
open Go Go.RowKit Go.Shelf

theorem ent_19 (args : Array Value) (w : World) : (callFunc 19 args).run Tryd.prog w = .ok (.enter 19 args) w := enters_of Tryd.func19 (by kernel_rfl) rfl args w
theorem ent_22 (args : Array Value) (w : World) : (callFunc 22 args).run Tryd.prog w = .ok (.enter 22 args) w := enters_of Tryd.func22 (by kernel_rfl) rfl args w
theorem ent_20 (args : Array Value) (w : World) : (callFunc 20 args).run Tryd.prog w = .ok (.enter 20 args) w := enters_of Tryd.func20 (by kernel_rfl) rfl args w
theorem ent_21 (args : Array Value) (w : World) : (callFunc 21 args).run Tryd.prog w = .ok (.enter 21 args) w := enters_of Tryd.func21 (by kernel_rfl) rfl args w
theorem ent_16 (args : Array Value) (w : World) : (callFunc 16 args).run Tryd.prog w = .ok (.enter 16 args) w := enters_of Tryd.func16 (by kernel_rfl) rfl args w

theorem conv_one {w : World} {g : Nat} {u : Int} {b : UInt8} (hb : (b.toNat : Int) = u) (hr : RowAt w g 5 #[.int .u8 u]) : (convert 46 9 (.slice (some ⟨g, 0, none⟩) 1 1)).run Tryd.prog w = .ok (.string ⟨[b].toArray⟩) w := by
  subst hb
  exact run_convert_bytes_back (P := Tryd.prog) w 46 9 5 ⟨g, 0, none⟩ 1 [b] Tryd.underlying46 Tryd.underlying5 Tryd.underlying9 (fun j hj => by
    match j, hj with
    | 0, _ => rw [show Addr.add ⟨g, 0, none⟩ 0 = ⟨g, 0, none⟩ by simp [Addr.add]]; exact hr.cell 0)
theorem text_as {z : Int} {l : List UInt8} {va : Value} {w : World} (h : decInt z = l) (hc : Calls Tryd.prog 16 #[va] w fun e w' => e = .returned (.string ⟨(decInt z).toArray⟩) ∧ Below w.heap.size w w') : Calls Tryd.prog 16 #[va] w fun e w' => e = .returned (.string ⟨l.toArray⟩) ∧ Below w.heap.size w w' := by subst h; exact hc
theorem dec_len {z : Int} (h : z.natAbs < B32 ^ 64) : (decInt z).length ≤ 8388608 := by
  have h2 : (Lib.decDigits z.natAbs).length ≤ 640 := by rw [Lib.decDigits_length, ← tl_eq]; exact (pad_dec tl (by decide) (Nat.lt_of_lt_of_le h pow_bound)).2
  unfold decInt
  split
  · rw [List.length_cons]; omega
  · omega
set_option maxRecDepth 100000 in
set_option maxHeartbeats 16000000 in
theorem numTexts_walk (va : Value) (la : List Int) (dg : Int) (w : World) (ht : Tab w) (hva : I64s w.heap.size w va la) (h0 : 0 ≤ dg) (h1 : dg < 256) :
    Calls Tryd.prog 8 #[va, .int .u8 dg] w fun e w' => e = .returned (.bool true) ∧ Ext w w' := by
  obtain ⟨b, hb⟩ : ∃ b, madeOf la = b := ⟨_, rfl⟩
  obtain ⟨a, hba⟩ : ∃ a : Int, (b.natAbs : Int) = a := ⟨_, rfl⟩
  obtain ⟨d, hd⟩ : ∃ d : Int, dg.tmod 10 = d := ⟨_, rfl⟩
  have hd0 : 0 ≤ d ∧ d < 10 := by rw [← hd, Int.tmod_eq_emod_of_nonneg h0]; omega
  have hdw : IntKind.i64.wrap dg = dg := by rw [IntKind.wrap_i64]; omega
  have hg64 : -9223372036854775808 ≤ d ∧ d ≤ 9223372036854775807 := by omega
  have hw48 : IntKind.i64.wrap (48 + d) = 48 + d := by rw [IntKind.wrap_i64]; omega
  obtain ⟨bt, hbt⟩ : ∃ bt : UInt8, (bt.toNat : Int) = 48 + d := ⟨UInt8.ofNat (48 + d).toNat, by rw [UInt8.toNat_ofNat']; omega⟩
  have lb6 := madeOf_lt la
  rw [hb] at lb6
  have ha0 : 0 ≤ a := by omega
  have la6 : a.natAbs < B32 ^ 6 := by omega
  have ld1 : d.natAbs < B32 ^ 1 := by rw [Nat.pow_one]; unfold B32; omega
  have l10 : (10 : Int).natAbs < B32 ^ 1 := by decide
  have ld7 : d.natAbs < B32 ^ 7 := Nat.lt_of_lt_of_le ld1 (Nat.pow_le_pow_right B32_pos (by decide))
  have lten := lim_up (lim_mul la6 l10) (by decide)
  have lnext := lim_up (lim_add (lim_mul la6 l10) ld7) (by decide)
  have lminus := lim_up (lim_sub (by decide : (0 : Int).natAbs < B32 ^ 6) la6) (by decide)
  have hl1 := dec_len (lim_up la6 (by decide))
  have HA := Lib.hid hva
  have Hba := Lib.hid hba
  clear hva la6 lb6 ld1 ld7 l10
  go_enter Tryd.func8, Tryd.ntmps8
  go_wp2_with fail
  refine (sanity_calls w ((Ext.refl w).tab ht)).mono ?_
  rintro e w1 ⟨rfl, hx⟩
  have Xw1 := Lib.hid hx
  clear hx 
  go_wp2_with fail
  refine (makes_of hb (makes_calls va la w1 ((Xw1.out).i64s HA.out))).mono ?_
  rintro e w2 ⟨p2, n2, c2, rfl, hz, hx⟩
  have Xw2 := Lib.hid hx
  have Z2 := Lib.hid hz
  clear hx hz
  have Z2a := Lib.hid (znum_abs hba Z2.out)
  obtain ⟨W1, hW1⟩ : ∃ W1, W1 = (w2.alloc (.cells #[.bool false, .slice p2 n2 c2] 26)) := ⟨_, rfl⟩
  have XW1 : Hid (Ext w2 W1) := by rw [hW1]; exact (Ext.alloc _ _)
  have Rb1 : Hid (RowAt W1 (w2.heap.size) 26 #[.bool false, .slice p2 n2 c2]) := by rw [hW1]; exact (RowAt.new' _ _ (by simp))
  have GW1 := Lib.hid hW1
  clear hW1
  go_wp2
  rw [← GW1.out]
  refine wp_region_inv (fun D ac w' => ∃ v8 v9 v22 v23 v24 v25 v26 v27 p3 n3 c3 p4 n4 c4 g2, ac = { tmps := #[(va), (.int .u8 dg), undef, undef, (.bool false), (.bool true), (.pointer (some ⟨w2.heap.size, 0, none⟩)), (.int .i64 d), v8, v9, undef, undef, undef, undef, undef, (.bool true), (va), (.agg #[.bool (decide (b < 0)), .slice p2 n2 c2]), (.pointer (some ⟨w2.heap.size, 0, none⟩)), (.int .u8 dg), (.int .i64 dg), (.int .i64 d), v22, v23, v24, v25, v26, v27, undef, undef, undef, undef, undef, undef, undef, undef, undef, undef, undef, undef, undef, undef, undef, undef, undef, undef, undef, undef, undef, undef, undef, undef, undef, undef, undef, undef, undef, undef, undef, undef, undef, undef, undef, undef, undef, undef, undef, undef, undef, undef, undef, undef, undef, undef, undef, undef, undef, undef, undef, undef, undef, undef, undef, undef, undef, undef], defers := [] } ∧ (D 0 → v23 = .agg #[.bool false, .slice p2 n2 c2]) ∧ (D 1 → v24 = .agg #[.bool false, .slice p3 n3 c3]) ∧ (D 2 → v25 = .tuple #[.agg #[.bool (decide ((a * 10) < 0)), .slice p4 n4 c4], .bool true]) ∧ (D 3 → v22 = .tuple #[.agg #[.bool (decide ((a * 10) < 0)), .slice p4 n4 c4], .bool true]) ∧ (D 4 → v26 = .agg #[.bool (decide ((a * 10) < 0)), .slice p4 n4 c4]) ∧ (D 5 → v27 = .bool true) ∧ (D 6 → v8 = .pointer (some ⟨g2, 0, none⟩)) ∧ (D 8 → v9 = .bool true) ∧ Ext W1 w' ∧ (D 1 → ZNum w'.heap.size w' (.agg #[.bool false, .slice p3 n3 c3]) (10)) ∧ (D 2 → ZNum w'.heap.size w' (.agg #[.bool (decide ((a * 10) < 0)), .slice p4 n4 c4]) ((a * 10))) ∧ (D 6 → W1.heap.size ≤ g2 ∧ ∃ x0 x1 x2 x3, RowAt w' g2 26 (numCells x0 x1 x2 x3) ∧ (D 7 → numCells x0 x1 x2 x3 = numCells (decide ((a * 10) < 0)) p4 n4 c4)) ∧ (D 7 → D 6) ∧ (D 3 → D 2) ∧ (D 4 → D 2) ∧ (D 7 → D 2))
    (by kernel_rfl) (by kernel_rfl) ?startR2_5 ?stepR2_5 ?finR2_5
  case startR2_5 => exact ⟨_, _, _, _, _, _, _, _, (none : Option Addr), 0, 0, (none : Option Addr), 0, 0, 0, rfl, False.elim, False.elim, False.elim, False.elim, False.elim, False.elim, False.elim, False.elim, Ext.drew _, False.elim, False.elim, False.elim, False.elim, False.elim, False.elim, False.elim⟩
  case stepR2_5 =>
    rintro i o D ac wz hio hn he ⟨v8, v9, v22, v23, v24, v25, v26, v27, p3, n3, c3, p4, n4, c4, g2, rfl, f0, f1, f2, f3, f4, f5, f6, f8, k0, k1, k2, k3, k4, k5, k6, k7⟩
    rcases i with _ | _ | _ | _ | _ | _ | _ | _ | _ | i
    rotate_left 9
    · exact absurd hio (by simp)
    all_goals (obtain rfl := Option.some.inj (hio.symm.trans (by rfl)))
    · exact wp_of_run (run_load_num (.tmp 6) rfl (w2.heap.size) rfl _ _ _ _ _ ((k0.row ((Ext.refl W1).row Rb1.out)))) ⟨_, _, _, _, _, _, _, _, _, _, _, _, _, _, _, rfl, put_eq rfl, put_ne (by decide) f1, put_ne (by decide) f2, put_ne (by decide) f3, put_ne (by decide) f4, put_ne (by decide) f5, put_ne (by decide) f6, put_ne (by decide) f8, k0, put_ne (by decide) k1, put_ne (by decide) k2, fun e => ⟨(k3 (And'.ne (by decide) e)).1, (k3 (And'.ne (by decide) e)).2.imp fun x0 h => h.imp fun x1 h => h.imp fun x2 h => h.imp fun x3 ⟨h1, h3⟩ => ⟨h1, fun e => h3 (And'.ne (by decide) e)⟩⟩, fun e => .inr (k4 (And'.ne (by decide) e)), fun e => .inr (k5 (And'.ne (by decide) e)), fun e => .inr (k6 (And'.ne (by decide) e)), fun e => .inr (k7 (And'.ne (by decide) e))⟩
    · refine wp_of_callE (run_enter1 19 (.const (.int .i64 10)) _ rfl _ rfl (ent_19)) (of_gives (neg := false) 10 (by decide) (by decide) rfl wz) ?_
      rintro e w' ⟨p3, n3, c3, rfl, hz, hx⟩
      refine ⟨_, rfl, ?_⟩
      exact ⟨_, _, _, _, _, _, _, _, _, _, _, _, _, _, _, rfl, put_ne (by decide) f0, put_eq rfl, put_ne (by decide) f2, put_ne (by decide) f3, put_ne (by decide) f4, put_ne (by decide) f5, put_ne (by decide) f6, put_ne (by decide) f8, Ext.trans k0 hx, fun _ => hz, fun e => Ext.num hx (k2 (And'.ne (by decide) e)), fun e => ⟨(k3 (And'.ne (by decide) e)).1, (k3 (And'.ne (by decide) e)).2.imp fun x0 h => h.imp fun x1 h => h.imp fun x2 h => h.imp fun x3 ⟨h1, h3⟩ => ⟨Ext.row hx h1, fun e => h3 (And'.ne (by decide) e)⟩⟩, fun e => .inr (k4 (And'.ne (by decide) e)), fun e => .inr (k5 (And'.ne (by decide) e)), fun e => .inr (k6 (And'.ne (by decide) e)), fun e => .inr (k7 (And'.ne (by decide) e))⟩
    · obtain rfl := (f0 (he ⟨0, .data⟩ (by simp) rfl)).symm
      obtain rfl := (f1 (he ⟨1, .data⟩ (by simp) rfl)).symm
      refine wp_of_callE (run_enter2 22 (.tmp 23) (.tmp 24) _ rfl _ _ rfl rfl (ent_22)) (mul_gives (z := (a * 10)) (neg := (decide ((a * 10) < 0))) (k0.num ((XW1.out).num Z2a.out)) (k1 (he ⟨1, .data⟩ (by simp) rfl)) rfl rfl lten) ?_
      rintro e w' ⟨p4, n4, c4, rfl, hz, hx⟩
      refine ⟨_, rfl, ?_⟩
      exact ⟨_, _, _, _, _, _, _, _, _, _, _, _, _, _, _, rfl, put_ne (by decide) f0, put_ne (by decide) f1, put_eq rfl, fun e => absurd (k5 (And'.ne (by decide) e)) hn, fun e => absurd (k6 (And'.ne (by decide) e)) hn, put_ne (by decide) f5, put_ne (by decide) f6, put_ne (by decide) f8, Ext.trans k0 hx, fun e => Ext.num hx (k1 (And'.ne (by decide) e)), fun _ => hz, fun e => ⟨(k3 (And'.ne (by decide) e)).1, (k3 (And'.ne (by decide) e)).2.imp fun x0 h => h.imp fun x1 h => h.imp fun x2 h => h.imp fun x3 ⟨h1, h3⟩ => ⟨Ext.row hx h1, fun e => absurd (k7 (And'.ne (by decide) e)) hn⟩⟩, fun e => .inr (k4 (And'.ne (by decide) e)), fun _ => .inl rfl, fun _ => .inl rfl, fun _ => .inl rfl⟩
    · obtain rfl := (f2 (he ⟨2, .data⟩ (by simp) rfl)).symm
      exact wp_of_run (run_move (.tmp 25) rfl) ⟨_, _, _, _, _, _, _, _, _, _, _, _, _, _, _, rfl, put_ne (by decide) f0, put_ne (by decide) f1, put_ne (by decide) f2, put_eq rfl, put_ne (by decide) f4, put_ne (by decide) f5, put_ne (by decide) f6, put_ne (by decide) f8, k0, put_ne (by decide) k1, put_ne (by decide) k2, fun e => ⟨(k3 (And'.ne (by decide) e)).1, (k3 (And'.ne (by decide) e)).2.imp fun x0 h => h.imp fun x1 h => h.imp fun x2 h => h.imp fun x3 ⟨h1, h3⟩ => ⟨h1, fun e => h3 (And'.ne (by decide) e)⟩⟩, fun e => .inr (k4 (And'.ne (by decide) e)), fun _ => .inr (he ⟨2, .data⟩ (by simp) rfl), fun e => .inr (k6 (And'.ne (by decide) e)), fun e => .inr (k7 (And'.ne (by decide) e))⟩
    · obtain rfl := (f3 (he ⟨3, .data⟩ (by simp) rfl)).symm
      exact wp_of_run (run_extract (.tmp 22) 0 rfl _ rfl _ rfl) ⟨_, _, _, _, _, _, _, _, _, _, _, _, _, _, _, rfl, put_ne (by decide) f0, put_ne (by decide) f1, put_ne (by decide) f2, put_ne (by decide) f3, put_eq rfl, put_ne (by decide) f5, put_ne (by decide) f6, put_ne (by decide) f8, k0, put_ne (by decide) k1, put_ne (by decide) k2, fun e => ⟨(k3 (And'.ne (by decide) e)).1, (k3 (And'.ne (by decide) e)).2.imp fun x0 h => h.imp fun x1 h => h.imp fun x2 h => h.imp fun x3 ⟨h1, h3⟩ => ⟨h1, fun e => h3 (And'.ne (by decide) e)⟩⟩, fun e => .inr (k4 (And'.ne (by decide) e)), fun e => .inr (k5 (And'.ne (by decide) e)), fun _ => .inr (k5 (he ⟨3, .data⟩ (by simp) rfl)), fun e => .inr (k7 (And'.ne (by decide) e))⟩
    · obtain rfl := (f3 (he ⟨3, .data⟩ (by simp) rfl)).symm
      exact wp_of_run (run_extract (.tmp 22) 1 rfl _ rfl _ rfl) ⟨_, _, _, _, _, _, _, _, _, _, _, _, _, _, _, rfl, put_ne (by decide) f0, put_ne (by decide) f1, put_ne (by decide) f2, put_ne (by decide) f3, put_ne (by decide) f4, put_eq rfl, put_ne (by decide) f6, put_ne (by decide) f8, k0, put_ne (by decide) k1, put_ne (by decide) k2, fun e => ⟨(k3 (And'.ne (by decide) e)).1, (k3 (And'.ne (by decide) e)).2.imp fun x0 h => h.imp fun x1 h => h.imp fun x2 h => h.imp fun x3 ⟨h1, h3⟩ => ⟨h1, fun e => h3 (And'.ne (by decide) e)⟩⟩, fun e => .inr (k4 (And'.ne (by decide) e)), fun e => .inr (k5 (And'.ne (by decide) e)), fun e => .inr (k6 (And'.ne (by decide) e)), fun e => .inr (k7 (And'.ne (by decide) e))⟩
    · exact wp_of_run (run_alloc_num rfl) ⟨_, _, _, _, _, _, _, _, _, _, _, _, _, _, _, rfl, put_ne (by decide) f0, put_ne (by decide) f1, put_ne (by decide) f2, put_ne (by decide) f3, put_ne (by decide) f4, put_ne (by decide) f5, put_eq rfl, put_ne (by decide) f8, k0.trans (Ext.alloc _ _), fun e => (Ext.alloc _ _).num (k1 (And'.ne (by decide) e)), fun e => (Ext.alloc _ _).num (k2 (And'.ne (by decide) e)), fun _ => ⟨Below.size k0, false, none, 0, 0, RowAt.new _ _ _, fun e => absurd (k4 (And'.ne (by decide) e)) hn⟩, fun _ => .inl rfl, fun e => .inr (k5 (And'.ne (by decide) e)), fun e => .inr (k6 (And'.ne (by decide) e)), fun e => .inr (k7 (And'.ne (by decide) e))⟩
    · obtain rfl := (f6 (he ⟨6, .data⟩ (by simp) rfl)).symm
      obtain rfl := (f4 (he ⟨4, .data⟩ (by simp) rfl)).symm
      have h_al := (he ⟨6, .data⟩ (by simp) rfl)
      obtain ⟨hlo, x0, x1, x2, x3, hr, -⟩ := k3 h_al
      refine wp_store_row 26 (.tmp 8) (.tmp 26) rfl g2 (numCells (decide ((a * 10) < 0)) p4 n4 c4) rfl rfl 26 _ hr num_info rfl (numCells_one ..) ?_
      exact ⟨_, _, _, _, _, _, _, _, _, _, _, _, _, _, _, rfl, put_ne (by decide) f0, put_ne (by decide) f1, put_ne (by decide) f2, put_ne (by decide) f3, put_ne (by decide) f4, put_ne (by decide) f5, put_ne (by decide) f6, put_ne (by decide) f8, ext_setRow k0 hlo _, fun e => by rw [setRow_size]; exact (k1 (And'.ne (by decide) e)).setNum hr _, fun e => by rw [setRow_size]; exact (k2 (And'.ne (by decide) e)).setNum hr _, fun _ => ⟨hlo, _, _, _, _, hr.setRow _, fun _ => rfl⟩, fun _ => .inr (he ⟨6, .data⟩ (by simp) rfl), fun e => .inr (k5 (And'.ne (by decide) e)), fun e => .inr (k6 (And'.ne (by decide) e)), fun _ => .inr (he ⟨2, .chain⟩ (by simp) rfl)⟩
    · obtain rfl := (f5 (he ⟨5, .data⟩ (by simp) rfl)).symm
      exact wp_of_run (run_assign (.tmp 27) rfl) ⟨_, _, _, _, _, _, _, _, _, _, _, _, _, _, _, rfl, put_ne (by decide) f0, put_ne (by decide) f1, put_ne (by decide) f2, put_ne (by decide) f3, put_ne (by decide) f4, put_ne (by decide) f5, put_ne (by decide) f6, put_eq rfl, k0, put_ne (by decide) k1, put_ne (by decide) k2, fun e => ⟨(k3 (And'.ne (by decide) e)).1, (k3 (And'.ne (by decide) e)).2.imp fun x0 h => h.imp fun x1 h => h.imp fun x2 h => h.imp fun x3 ⟨h1, h3⟩ => ⟨h1, fun e => h3 (And'.ne (by decide) e)⟩⟩, fun e => .inr (k4 (And'.ne (by decide) e)), fun e => .inr (k5 (And'.ne (by decide) e)), fun e => .inr (k6 (And'.ne (by decide) e)), fun e => .inr (k7 (And'.ne (by decide) e))⟩
  case finR2_5 =>
    rintro D ac w5 hD ⟨v8, v9, v22, v23, v24, v25, v26, v27, p3, n3, c3, p4, n4, c4, g2, rfl, f0, f1, f2, f3, f4, f5, f6, f8, k0, k1, k2, k3, k4, k5, k6, k7⟩
    obtain rfl := (f0 (hD 0 (by simp))).symm
    obtain rfl := (f1 (hD 1 (by simp))).symm
    obtain rfl := (f2 (hD 2 (by simp))).symm
    obtain rfl := (f3 (hD 3 (by simp))).symm
    obtain rfl := (f4 (hD 4 (by simp))).symm
    obtain rfl := (f5 (hD 5 (by simp))).symm
    obtain rfl := (f6 (hD 6 (by simp))).symm
    obtain rfl := (f8 (hD 8 (by simp))).symm
    have Xw5 := Lib.hid k0
    have Z3 := Lib.hid (k1 (hD 1 (by simp)))
    have Z4 := Lib.hid (k2 (hD 2 (by simp)))
    have Rb2 : Hid (RowAt w5 g2 26 (numCells (decide ((a * 10) < 0)) p4 n4 c4)) := by
      obtain ⟨-, x0, x1, x2, x3, h1, h2⟩ := k3 (hD 6 (by simp))
      rw [← h2 (hD 7 (by simp))]
      exact h1
    have Bb2 := (k3 (hD 6 (by simp))).1
    clear hD f0 f1 f2 f3 f4 f5 f6 f8 k0 k1 k2 k3 k4 k5 k6 k7
    go_wp2
    refine wp_region_inv (fun D ac w' => ∃ v10 v11 v28 v29 v30 v31 v32 v33 v34 p6 n6 c6 p7 n7 c7 g3, ac = { tmps := #[(va), (.int .u8 dg), undef, undef, (.bool false), (.bool true), (.pointer (some ⟨w2.heap.size, 0, none⟩)), (.int .i64 d), (.pointer (some ⟨g2, 0, none⟩)), (.bool true), v10, v11, undef, undef, undef, (.bool true), (va), (.agg #[.bool (decide (b < 0)), .slice p2 n2 c2]), (.pointer (some ⟨w2.heap.size, 0, none⟩)), (.int .u8 dg), (.int .i64 dg), (.int .i64 d), (.tuple #[.agg #[.bool (decide ((a * 10) < 0)), .slice p4 n4 c4], .bool true]), (.agg #[.bool false, .slice p2 n2 c2]), (.agg #[.bool false, .slice p3 n3 c3]), (.tuple #[.agg #[.bool (decide ((a * 10) < 0)), .slice p4 n4 c4], .bool true]), (.agg #[.bool (decide ((a * 10) < 0)), .slice p4 n4 c4]), (.bool true), v28, v29, v30, v31, v32, v33, v34, undef, undef, undef, undef, undef, undef, undef, undef, undef, undef, undef, undef, undef, undef, undef, undef, undef, undef, undef, undef, undef, undef, undef, undef, undef, undef, undef, undef, undef, undef, undef, undef, undef, undef, undef, undef, undef, undef, undef, undef, undef, undef, undef, undef, undef, undef, undef, undef, undef, undef, undef], defers := [] } ∧ (D 0 → v29 = .agg #[.bool (decide ((a * 10) < 0)), .slice p4 n4 c4]) ∧ (D 1 → v30 = .int .i64 d) ∧ (D 2 → v31 = .agg #[.bool (decide (d < 0)), .slice p6 n6 c6]) ∧ (D 3 → v32 = .tuple #[.agg #[.bool (decide ((a * 10 + d) < 0)), .slice p7 n7 c7], .bool true]) ∧ (D 4 → v28 = .tuple #[.agg #[.bool (decide ((a * 10 + d) < 0)), .slice p7 n7 c7], .bool true]) ∧ (D 5 → v33 = .agg #[.bool (decide ((a * 10 + d) < 0)), .slice p7 n7 c7]) ∧ (D 6 → v34 = .bool true) ∧ (D 7 → v10 = .pointer (some ⟨g3, 0, none⟩)) ∧ (D 9 → v11 = .bool true) ∧ Ext w5 w' ∧ (D 2 → ZNum w'.heap.size w' (.agg #[.bool (decide (d < 0)), .slice p6 n6 c6]) d) ∧ (D 3 → ZNum w'.heap.size w' (.agg #[.bool (decide ((a * 10 + d) < 0)), .slice p7 n7 c7]) ((a * 10 + d))) ∧ (D 7 → w5.heap.size ≤ g3 ∧ ∃ x0 x1 x2 x3, RowAt w' g3 26 (numCells x0 x1 x2 x3) ∧ (D 8 → numCells x0 x1 x2 x3 = numCells (decide ((a * 10 + d) < 0)) p7 n7 c7)) ∧ (D 8 → D 7) ∧ (D 4 → D 3) ∧ (D 5 → D 3) ∧ (D 8 → D 3))
      (by kernel_rfl) (by kernel_rfl) ?startR5_6 ?stepR5_6 ?finR5_6
    case startR5_6 => exact ⟨_, _, _, _, _, _, _, _, _, (none : Option Addr), 0, 0, (none : Option Addr), 0, 0, 0, rfl, False.elim, False.elim, False.elim, False.elim, False.elim, False.elim, False.elim, False.elim, False.elim, Ext.drew _, False.elim, False.elim, False.elim, False.elim, False.elim, False.elim, False.elim⟩
    case stepR5_6 =>
      rintro i o D ac wz hio hn he ⟨v10, v11, v28, v29, v30, v31, v32, v33, v34, p6, n6, c6, p7, n7, c7, g3, rfl, f0, f1, f2, f3, f4, f5, f6, f7, f9, k0, k1, k2, k3, k4, k5, k6, k7⟩
      rcases i with _ | _ | _ | _ | _ | _ | _ | _ | _ | _ | i
      rotate_left 10
      · exact absurd hio (by simp)
      all_goals (obtain rfl := Option.some.inj (hio.symm.trans (by rfl)))
      · exact wp_of_run (run_load_num (.tmp 8) rfl (g2) rfl _ _ _ _ _ ((k0.row ((Ext.refl w5).row Rb2.out)))) ⟨_, _, _, _, _, _, _, _, _, _, _, _, _, _, _, _, rfl, put_eq rfl, put_ne (by decide) f1, put_ne (by decide) f2, put_ne (by decide) f3, put_ne (by decide) f4, put_ne (by decide) f5, put_ne (by decide) f6, put_ne (by decide) f7, put_ne (by decide) f9, k0, put_ne (by decide) k1, put_ne (by decide) k2, fun e => ⟨(k3 (And'.ne (by decide) e)).1, (k3 (And'.ne (by decide) e)).2.imp fun x0 h => h.imp fun x1 h => h.imp fun x2 h => h.imp fun x3 ⟨h1, h3⟩ => ⟨h1, fun e => h3 (And'.ne (by decide) e)⟩⟩, fun e => .inr (k4 (And'.ne (by decide) e)), fun e => .inr (k5 (And'.ne (by decide) e)), fun e => .inr (k6 (And'.ne (by decide) e)), fun e => .inr (k7 (And'.ne (by decide) e))⟩
      · exact wp_of_run (run_move (.tmp 7) rfl) ⟨_, _, _, _, _, _, _, _, _, _, _, _, _, _, _, _, rfl, put_ne (by decide) f0, put_eq rfl, put_ne (by decide) f2, put_ne (by decide) f3, put_ne (by decide) f4, put_ne (by decide) f5, put_ne (by decide) f6, put_ne (by decide) f7, put_ne (by decide) f9, k0, put_ne (by decide) k1, put_ne (by decide) k2, fun e => ⟨(k3 (And'.ne (by decide) e)).1, (k3 (And'.ne (by decide) e)).2.imp fun x0 h => h.imp fun x1 h => h.imp fun x2 h => h.imp fun x3 ⟨h1, h3⟩ => ⟨h1, fun e => h3 (And'.ne (by decide) e)⟩⟩, fun e => .inr (k4 (And'.ne (by decide) e)), fun e => .inr (k5 (And'.ne (by decide) e)), fun e => .inr (k6 (And'.ne (by decide) e)), fun e => .inr (k7 (And'.ne (by decide) e))⟩
      · obtain rfl := (f1 (he ⟨1, .data⟩ (by simp) rfl)).symm
        refine wp_of_callE (run_enter1 19 (.tmp 30) _ rfl _ rfl (ent_19)) (of_gives (neg := (decide (d < 0))) d hg64.1 hg64.2 rfl wz) ?_
        rintro e w' ⟨p6, n6, c6, rfl, hz, hx⟩
        refine ⟨_, rfl, ?_⟩
        exact ⟨_, _, _, _, _, _, _, _, _, _, _, _, _, _, _, _, rfl, put_ne (by decide) f0, put_ne (by decide) f1, put_eq rfl, put_ne (by decide) f3, put_ne (by decide) f4, put_ne (by decide) f5, put_ne (by decide) f6, put_ne (by decide) f7, put_ne (by decide) f9, Ext.trans k0 hx, fun _ => hz, fun e => Ext.num hx (k2 (And'.ne (by decide) e)), fun e => ⟨(k3 (And'.ne (by decide) e)).1, (k3 (And'.ne (by decide) e)).2.imp fun x0 h => h.imp fun x1 h => h.imp fun x2 h => h.imp fun x3 ⟨h1, h3⟩ => ⟨Ext.row hx h1, fun e => h3 (And'.ne (by decide) e)⟩⟩, fun e => .inr (k4 (And'.ne (by decide) e)), fun e => .inr (k5 (And'.ne (by decide) e)), fun e => .inr (k6 (And'.ne (by decide) e)), fun e => .inr (k7 (And'.ne (by decide) e))⟩
      · obtain rfl := (f0 (he ⟨0, .data⟩ (by simp) rfl)).symm
        obtain rfl := (f2 (he ⟨2, .data⟩ (by simp) rfl)).symm
        refine wp_of_callE (run_enter2 20 (.tmp 29) (.tmp 31) _ rfl _ _ rfl rfl (ent_20)) (add_gives (z := (a * 10 + d)) (neg := (decide ((a * 10 + d) < 0))) (k0.num ((Ext.refl w5).num Z4.out)) (k1 (he ⟨2, .data⟩ (by simp) rfl)) rfl rfl lnext) ?_
        rintro e w' ⟨p7, n7, c7, rfl, hz, hx⟩
        refine ⟨_, rfl, ?_⟩
        exact ⟨_, _, _, _, _, _, _, _, _, _, _, _, _, _, _, _, rfl, put_ne (by decide) f0, put_ne (by decide) f1, put_ne (by decide) f2, put_eq rfl, fun e => absurd (k5 (And'.ne (by decide) e)) hn, fun e => absurd (k6 (And'.ne (by decide) e)) hn, put_ne (by decide) f6, put_ne (by decide) f7, put_ne (by decide) f9, Ext.trans k0 hx, fun e => Ext.num hx (k1 (And'.ne (by decide) e)), fun _ => hz, fun e => ⟨(k3 (And'.ne (by decide) e)).1, (k3 (And'.ne (by decide) e)).2.imp fun x0 h => h.imp fun x1 h => h.imp fun x2 h => h.imp fun x3 ⟨h1, h3⟩ => ⟨Ext.row hx h1, fun e => absurd (k7 (And'.ne (by decide) e)) hn⟩⟩, fun e => .inr (k4 (And'.ne (by decide) e)), fun _ => .inl rfl, fun _ => .inl rfl, fun _ => .inl rfl⟩
      · obtain rfl := (f3 (he ⟨3, .data⟩ (by simp) rfl)).symm
        exact wp_of_run (run_move (.tmp 32) rfl) ⟨_, _, _, _, _, _, _, _, _, _, _, _, _, _, _, _, rfl, put_ne (by decide) f0, put_ne (by decide) f1, put_ne (by decide) f2, put_ne (by decide) f3, put_eq rfl, put_ne (by decide) f5, put_ne (by decide) f6, put_ne (by decide) f7, put_ne (by decide) f9, k0, put_ne (by decide) k1, put_ne (by decide) k2, fun e => ⟨(k3 (And'.ne (by decide) e)).1, (k3 (And'.ne (by decide) e)).2.imp fun x0 h => h.imp fun x1 h => h.imp fun x2 h => h.imp fun x3 ⟨h1, h3⟩ => ⟨h1, fun e => h3 (And'.ne (by decide) e)⟩⟩, fun e => .inr (k4 (And'.ne (by decide) e)), fun _ => .inr (he ⟨3, .data⟩ (by simp) rfl), fun e => .inr (k6 (And'.ne (by decide) e)), fun e => .inr (k7 (And'.ne (by decide) e))⟩
      · obtain rfl := (f4 (he ⟨4, .data⟩ (by simp) rfl)).symm
        exact wp_of_run (run_extract (.tmp 28) 0 rfl _ rfl _ rfl) ⟨_, _, _, _, _, _, _, _, _, _, _, _, _, _, _, _, rfl, put_ne (by decide) f0, put_ne (by decide) f1, put_ne (by decide) f2, put_ne (by decide) f3, put_ne (by decide) f4, put_eq rfl, put_ne (by decide) f6, put_ne (by decide) f7, put_ne (by decide) f9, k0, put_ne (by decide) k1, put_ne (by decide) k2, fun e => ⟨(k3 (And'.ne (by decide) e)).1, (k3 (And'.ne (by decide) e)).2.imp fun x0 h => h.imp fun x1 h => h.imp fun x2 h => h.imp fun x3 ⟨h1, h3⟩ => ⟨h1, fun e => h3 (And'.ne (by decide) e)⟩⟩, fun e => .inr (k4 (And'.ne (by decide) e)), fun e => .inr (k5 (And'.ne (by decide) e)), fun _ => .inr (k5 (he ⟨4, .data⟩ (by simp) rfl)), fun e => .inr (k7 (And'.ne (by decide) e))⟩
      · obtain rfl := (f4 (he ⟨4, .data⟩ (by simp) rfl)).symm
        exact wp_of_run (run_extract (.tmp 28) 1 rfl _ rfl _ rfl) ⟨_, _, _, _, _, _, _, _, _, _, _, _, _, _, _, _, rfl, put_ne (by decide) f0, put_ne (by decide) f1, put_ne (by decide) f2, put_ne (by decide) f3, put_ne (by decide) f4, put_ne (by decide) f5, put_eq rfl, put_ne (by decide) f7, put_ne (by decide) f9, k0, put_ne (by decide) k1, put_ne (by decide) k2, fun e => ⟨(k3 (And'.ne (by decide) e)).1, (k3 (And'.ne (by decide) e)).2.imp fun x0 h => h.imp fun x1 h => h.imp fun x2 h => h.imp fun x3 ⟨h1, h3⟩ => ⟨h1, fun e => h3 (And'.ne (by decide) e)⟩⟩, fun e => .inr (k4 (And'.ne (by decide) e)), fun e => .inr (k5 (And'.ne (by decide) e)), fun e => .inr (k6 (And'.ne (by decide) e)), fun e => .inr (k7 (And'.ne (by decide) e))⟩
      · exact wp_of_run (run_alloc_num rfl) ⟨_, _, _, _, _, _, _, _, _, _, _, _, _, _, _, _, rfl, put_ne (by decide) f0, put_ne (by decide) f1, put_ne (by decide) f2, put_ne (by decide) f3, put_ne (by decide) f4, put_ne (by decide) f5, put_ne (by decide) f6, put_eq rfl, put_ne (by decide) f9, k0.trans (Ext.alloc _ _), fun e => (Ext.alloc _ _).num (k1 (And'.ne (by decide) e)), fun e => (Ext.alloc _ _).num (k2 (And'.ne (by decide) e)), fun _ => ⟨Below.size k0, false, none, 0, 0, RowAt.new _ _ _, fun e => absurd (k4 (And'.ne (by decide) e)) hn⟩, fun _ => .inl rfl, fun e => .inr (k5 (And'.ne (by decide) e)), fun e => .inr (k6 (And'.ne (by decide) e)), fun e => .inr (k7 (And'.ne (by decide) e))⟩
      · obtain rfl := (f7 (he ⟨7, .data⟩ (by simp) rfl)).symm
        obtain rfl := (f5 (he ⟨5, .data⟩ (by simp) rfl)).symm
        have h_al := (he ⟨7, .data⟩ (by simp) rfl)
        obtain ⟨hlo, x0, x1, x2, x3, hr, -⟩ := k3 h_al
        refine wp_store_row 26 (.tmp 10) (.tmp 33) rfl g3 (numCells (decide ((a * 10 + d) < 0)) p7 n7 c7) rfl rfl 26 _ hr num_info rfl (numCells_one ..) ?_
        exact ⟨_, _, _, _, _, _, _, _, _, _, _, _, _, _, _, _, rfl, put_ne (by decide) f0, put_ne (by decide) f1, put_ne (by decide) f2, put_ne (by decide) f3, put_ne (by decide) f4, put_ne (by decide) f5, put_ne (by decide) f6, put_ne (by decide) f7, put_ne (by decide) f9, ext_setRow k0 hlo _, fun e => by rw [setRow_size]; exact (k1 (And'.ne (by decide) e)).setNum hr _, fun e => by rw [setRow_size]; exact (k2 (And'.ne (by decide) e)).setNum hr _, fun _ => ⟨hlo, _, _, _, _, hr.setRow _, fun _ => rfl⟩, fun _ => .inr (he ⟨7, .data⟩ (by simp) rfl), fun e => .inr (k5 (And'.ne (by decide) e)), fun e => .inr (k6 (And'.ne (by decide) e)), fun _ => .inr (he ⟨3, .chain⟩ (by simp) rfl)⟩
      · obtain rfl := (f6 (he ⟨6, .data⟩ (by simp) rfl)).symm
        exact wp_of_run (run_assign (.tmp 34) rfl) ⟨_, _, _, _, _, _, _, _, _, _, _, _, _, _, _, _, rfl, put_ne (by decide) f0, put_ne (by decide) f1, put_ne (by decide) f2, put_ne (by decide) f3, put_ne (by decide) f4, put_ne (by decide) f5, put_ne (by decide) f6, put_ne (by decide) f7, put_eq rfl, k0, put_ne (by decide) k1, put_ne (by decide) k2, fun e => ⟨(k3 (And'.ne (by decide) e)).1, (k3 (And'.ne (by decide) e)).2.imp fun x0 h => h.imp fun x1 h => h.imp fun x2 h => h.imp fun x3 ⟨h1, h3⟩ => ⟨h1, fun e => h3 (And'.ne (by decide) e)⟩⟩, fun e => .inr (k4 (And'.ne (by decide) e)), fun e => .inr (k5 (And'.ne (by decide) e)), fun e => .inr (k6 (And'.ne (by decide) e)), fun e => .inr (k7 (And'.ne (by decide) e))⟩
    case finR5_6 =>
      rintro D ac w8 hD ⟨v10, v11, v28, v29, v30, v31, v32, v33, v34, p6, n6, c6, p7, n7, c7, g3, rfl, f0, f1, f2, f3, f4, f5, f6, f7, f9, k0, k1, k2, k3, k4, k5, k6, k7⟩
      obtain rfl := (f0 (hD 0 (by simp))).symm
      obtain rfl := (f1 (hD 1 (by simp))).symm
      obtain rfl := (f2 (hD 2 (by simp))).symm
      obtain rfl := (f3 (hD 3 (by simp))).symm
      obtain rfl := (f4 (hD 4 (by simp))).symm
      obtain rfl := (f5 (hD 5 (by simp))).symm
      obtain rfl := (f6 (hD 6 (by simp))).symm
      obtain rfl := (f7 (hD 7 (by simp))).symm
      obtain rfl := (f9 (hD 9 (by simp))).symm
      have Xw8 := Lib.hid k0
      have Z6 := Lib.hid (k1 (hD 2 (by simp)))
      have Z7 := Lib.hid (k2 (hD 3 (by simp)))
      have Rb3 : Hid (RowAt w8 g3 26 (numCells (decide ((a * 10 + d) < 0)) p7 n7 c7)) := by
        obtain ⟨-, x0, x1, x2, x3, h1, h2⟩ := k3 (hD 7 (by simp))
        rw [← h2 (hD 8 (by simp))]
        exact h1
      have Bb3 := (k3 (hD 7 (by simp))).1
      clear hD f0 f1 f2 f3 f4 f5 f6 f7 f9 k0 k1 k2 k3 k4 k5 k6 k7
      go_wp2
      refine wp_region_inv (fun D ac w' => ∃ v12 v35 v36 v37 v38 v39 v40 v41 v42 gs, ac = { tmps := #[(va), (.int .u8 dg), undef, undef, (.bool false), (.bool true), (.pointer (some ⟨w2.heap.size, 0, none⟩)), (.int .i64 d), (.pointer (some ⟨g2, 0, none⟩)), (.bool true), (.pointer (some ⟨g3, 0, none⟩)), (.bool true), v12, undef, undef, (.bool true), (va), (.agg #[.bool (decide (b < 0)), .slice p2 n2 c2]), (.pointer (some ⟨w2.heap.size, 0, none⟩)), (.int .u8 dg), (.int .i64 dg), (.int .i64 d), (.tuple #[.agg #[.bool (decide ((a * 10) < 0)), .slice p4 n4 c4], .bool true]), (.agg #[.bool false, .slice p2 n2 c2]), (.agg #[.bool false, .slice p3 n3 c3]), (.tuple #[.agg #[.bool (decide ((a * 10) < 0)), .slice p4 n4 c4], .bool true]), (.agg #[.bool (decide ((a * 10) < 0)), .slice p4 n4 c4]), (.bool true), (.tuple #[.agg #[.bool (decide ((a * 10 + d) < 0)), .slice p7 n7 c7], .bool true]), (.agg #[.bool (decide ((a * 10) < 0)), .slice p4 n4 c4]), (.int .i64 d), (.agg #[.bool (decide (d < 0)), .slice p6 n6 c6]), (.tuple #[.agg #[.bool (decide ((a * 10 + d) < 0)), .slice p7 n7 c7], .bool true]), (.agg #[.bool (decide ((a * 10 + d) < 0)), .slice p7 n7 c7]), (.bool true), v35, v36, v37, v38, v39, v40, v41, v42, undef, undef, undef, undef, undef, undef, undef, undef, undef, undef, undef, undef, undef, undef, undef, undef, undef, undef, undef, undef, undef, undef, undef, undef, undef, undef, undef, undef, undef, undef, undef, undef, undef, undef, undef, undef, undef, undef, undef, undef, undef, undef, undef], defers := [] } ∧ (D 0 → v35 = .agg #[.bool false, .slice p2 n2 c2]) ∧ (D 1 → v36 = .string ⟨(decInt a).toArray⟩) ∧ (D 2 → v37 = .int .i64 d) ∧ (D 3 → v38 = .int .i64 (48 + d)) ∧ (D 4 → v39 = .int .u8 (bt.toNat : Int)) ∧ (D 5 → v40 = .slice (some ⟨gs, 0, none⟩) 1 1) ∧ (D 6 → v41 = .string ⟨([bt]).toArray⟩) ∧ (D 7 → v42 = .string ⟨((decInt a ++ [bt])).toArray⟩) ∧ (D 8 → v12 = .string ⟨((decInt a ++ [bt])).toArray⟩) ∧ Ext w8 w' ∧ (D 5 → RowAt w' gs 5 #[.int .u8 (bt.toNat : Int)]))
        (by kernel_rfl) (by kernel_rfl) ?startR8_7 ?stepR8_7 ?finR8_7
      case startR8_7 => exact ⟨_, _, _, _, _, _, _, _, _, 0, rfl, False.elim, False.elim, False.elim, False.elim, False.elim, False.elim, False.elim, False.elim, False.elim, Ext.drew _, False.elim⟩
      case stepR8_7 =>
        rintro i o D ac wz hio hn he ⟨v12, v35, v36, v37, v38, v39, v40, v41, v42, gs, rfl, f0, f1, f2, f3, f4, f5, f6, f7, f8, k0, k1⟩
        rcases i with _ | _ | _ | _ | _ | _ | _ | _ | _ | i
        rotate_left 9
        · exact absurd hio (by simp)
        all_goals (obtain rfl := Option.some.inj (hio.symm.trans (by rfl)))
        · exact wp_of_run (run_load_num (.tmp 6) rfl (w2.heap.size) rfl _ _ _ _ _ ((k0.row ((Ext.trans Xw5.out (Xw8.out)).row Rb1.out)))) ⟨_, _, _, _, _, _, _, _, _, _, rfl, put_eq rfl, put_ne (by decide) f1, put_ne (by decide) f2, put_ne (by decide) f3, put_ne (by decide) f4, put_ne (by decide) f5, put_ne (by decide) f6, put_ne (by decide) f7, put_ne (by decide) f8, k0, put_ne (by decide) k1⟩
        · obtain rfl := (f0 (he ⟨0, .data⟩ (by simp) rfl)).symm
          refine wp_of_callE (run_enter1 16 (.tmp 35) _ rfl _ rfl (ent_16)) (text_as rfl (text_calls _ a wz (k0.num ((Ext.trans XW1.out (Ext.trans Xw5.out (Xw8.out))).num Z2a.out)) (((Ext.trans Xw1.out (Ext.trans Xw2.out (Ext.trans XW1.out (Ext.trans Xw5.out (Xw8.out))))).trans k0).tab ht))) ?_
          rintro e w' ⟨rfl, hx⟩
          refine ⟨_, rfl, ?_⟩
          exact ⟨_, _, _, _, _, _, _, _, _, _, rfl, put_ne (by decide) f0, put_eq rfl, put_ne (by decide) f2, put_ne (by decide) f3, put_ne (by decide) f4, put_ne (by decide) f5, put_ne (by decide) f6, put_ne (by decide) f7, put_ne (by decide) f8, Ext.trans k0 hx, fun e => Ext.row hx (k1 (And'.ne (by decide) e))⟩
        · exact wp_of_run (run_move (.tmp 7) rfl) ⟨_, _, _, _, _, _, _, _, _, _, rfl, put_ne (by decide) f0, put_ne (by decide) f1, put_eq rfl, put_ne (by decide) f3, put_ne (by decide) f4, put_ne (by decide) f5, put_ne (by decide) f6, put_ne (by decide) f7, put_ne (by decide) f8, k0, put_ne (by decide) k1⟩
        · obtain rfl := (f2 (he ⟨2, .data⟩ (by simp) rfl)).symm
          exact wp_of_run (run_add (.const (.int .i64 48)) (.tmp 37) rfl rfl 48 d rfl rfl hw48) ⟨_, _, _, _, _, _, _, _, _, _, rfl, put_ne (by decide) f0, put_ne (by decide) f1, put_ne (by decide) f2, put_eq rfl, put_ne (by decide) f4, put_ne (by decide) f5, put_ne (by decide) f6, put_ne (by decide) f7, put_ne (by decide) f8, k0, put_ne (by decide) k1⟩
        · obtain rfl := (f3 (he ⟨3, .data⟩ (by simp) rfl)).symm
          exact wp_of_run (run_conv_u8' (.tmp 38) rfl (48 + d) rfl bt hbt) ⟨_, _, _, _, _, _, _, _, _, _, rfl, put_ne (by decide) f0, put_ne (by decide) f1, put_ne (by decide) f2, put_ne (by decide) f3, put_eq rfl, put_ne (by decide) f5, put_ne (by decide) f6, put_ne (by decide) f7, put_ne (by decide) f8, k0, put_ne (by decide) k1⟩
        · obtain rfl := (f4 (he ⟨4, .data⟩ (by simp) rfl)).symm
          exact wp_of_run (run_build_u8 (.tmp 39) rfl _ rfl) ⟨_, _, _, _, _, _, _, _, _, _, rfl, put_ne (by decide) f0, put_ne (by decide) f1, put_ne (by decide) f2, put_ne (by decide) f3, put_ne (by decide) f4, put_eq rfl, put_ne (by decide) f6, put_ne (by decide) f7, put_ne (by decide) f8, k0.trans (Ext.alloc _ _), fun _ => RowAt.new _ _ _⟩
        · obtain rfl := (f5 (he ⟨5, .data⟩ (by simp) rfl)).symm
          exact wp_of_run (run_conv_str (.tmp 40) rfl gs bt rfl (k1 (he ⟨5, .data⟩ (by simp) rfl))) ⟨_, _, _, _, _, _, _, _, _, _, rfl, put_ne (by decide) f0, put_ne (by decide) f1, put_ne (by decide) f2, put_ne (by decide) f3, put_ne (by decide) f4, put_ne (by decide) f5, put_eq rfl, put_ne (by decide) f7, put_ne (by decide) f8, k0, put_ne (by decide) k1⟩
        · obtain rfl := (f1 (he ⟨1, .data⟩ (by simp) rfl)).symm
          obtain rfl := (f6 (he ⟨6, .data⟩ (by simp) rfl)).symm
          exact wp_of_run (run_add_str (.tmp 36) (.tmp 41) rfl rfl _ _ rfl rfl hl1 (by simp)) ⟨_, _, _, _, _, _, _, _, _, _, rfl, put_ne (by decide) f0, put_ne (by decide) f1, put_ne (by decide) f2, put_ne (by decide) f3, put_ne (by decide) f4, put_ne (by decide) f5, put_ne (by decide) f6, put_eq rfl, put_ne (by decide) f8, k0, put_ne (by decide) k1⟩
        · obtain rfl := (f7 (he ⟨7, .data⟩ (by simp) rfl)).symm
          exact wp_of_run (run_assign (.tmp 42) rfl) ⟨_, _, _, _, _, _, _, _, _, _, rfl, put_ne (by decide) f0, put_ne (by decide) f1, put_ne (by decide) f2, put_ne (by decide) f3, put_ne (by decide) f4, put_ne (by decide) f5, put_ne (by decide) f6, put_ne (by decide) f7, put_eq rfl, k0, put_ne (by decide) k1⟩
      case finR8_7 =>
        rintro D ac w10 hD ⟨v12, v35, v36, v37, v38, v39, v40, v41, v42, gs, rfl, f0, f1, f2, f3, f4, f5, f6, f7, f8, k0, k1⟩
        obtain rfl := (f0 (hD 0 (by simp))).symm
        obtain rfl := (f1 (hD 1 (by simp))).symm
        obtain rfl := (f2 (hD 2 (by simp))).symm
        obtain rfl := (f3 (hD 3 (by simp))).symm
        obtain rfl := (f4 (hD 4 (by simp))).symm
        obtain rfl := (f5 (hD 5 (by simp))).symm
        obtain rfl := (f6 (hD 6 (by simp))).symm
        obtain rfl := (f7 (hD 7 (by simp))).symm
        obtain rfl := (f8 (hD 8 (by simp))).symm
        have Xw10 := Lib.hid k0
        clear hD f0 f1 f2 f3 f4 f5 f6 f7 f8 k0 k1
        by_cases haz : a = 0
        · have hn : n2 = 0 := by have h := Z2a.out; rw [haz] at h; exact znum_zero h
          subst hn
          have hnext0 : decInt (a * 10 + d) = [bt] := by
            unfold decInt
            rw [if_neg (by omega), show (a * 10 + d).natAbs = d.natAbs by omega, Lib.decDigits_one (by omega)]
            congr 1
            exact UInt8.toNat_inj.1 (by rw [UInt8.toNat_ofNat']; omega)
          have Haz := Lib.hid haz
          clear haz
          have hconv : (convert 46 9 (.slice (some ⟨w10.heap.size, 0, none⟩) 1 1)).run Tryd.prog (w10.alloc (.cells #[.int .u8 (48 + d)] 5)) = .ok (.string ⟨[bt].toArray⟩) (w10.alloc (.cells #[.int .u8 (48 + d)] 5)) := conv_one hbt (RowAt.new _ _ _)
          have hb1_1_10 : w10.cell? ⟨w2.heap.size, 1, none⟩ = some (.slice p2 0 c2) := ((Ext.trans Xw5.out (Ext.trans Xw8.out (Xw10.out))).row Rb1.out).cell 1
          obtain ⟨W2, hW2⟩ : ∃ W2, W2 = (w10.alloc (.cells #[.int .u8 (48 + d)] 5)) := ⟨_, rfl⟩
          have XW2 : Hid (Ext w10 W2) := by rw [hW2]; exact (Ext.alloc _ _)
          have Rb4 : Hid (RowAt W2 (w10.heap.size) 5 #[.int .u8 (48 + d)]) := by rw [hW2]; exact (RowAt.new' _ _ (by simp))
          have GW2 := Lib.hid hW2
          clear hW2
          go_wp2
          rw [← GW2.out]
          refine wp_region_inv (fun D ac w' => ∃ v13 v14 v52 v53 v54 v55 v56 v57 p11 n11 c11 p12 n12 c12 g5, ac = { tmps := #[(va), (.int .u8 dg), undef, undef, (.bool false), (.bool true), (.pointer (some ⟨w2.heap.size, 0, none⟩)), (.int .i64 d), (.pointer (some ⟨g2, 0, none⟩)), (.bool true), (.pointer (some ⟨g3, 0, none⟩)), (.bool true), (.string ⟨([bt]).toArray⟩), v13, v14, (.bool true), (va), (.agg #[.bool (decide (b < 0)), .slice p2 0 c2]), (.pointer (some ⟨w2.heap.size, 0, none⟩)), (.int .u8 dg), (.int .i64 dg), (.int .i64 d), (.tuple #[.agg #[.bool (decide ((a * 10) < 0)), .slice p4 n4 c4], .bool true]), (.agg #[.bool false, .slice p2 0 c2]), (.agg #[.bool false, .slice p3 n3 c3]), (.tuple #[.agg #[.bool (decide ((a * 10) < 0)), .slice p4 n4 c4], .bool true]), (.agg #[.bool (decide ((a * 10) < 0)), .slice p4 n4 c4]), (.bool true), (.tuple #[.agg #[.bool (decide ((a * 10 + d) < 0)), .slice p7 n7 c7], .bool true]), (.agg #[.bool (decide ((a * 10) < 0)), .slice p4 n4 c4]), (.int .i64 d), (.agg #[.bool (decide (d < 0)), .slice p6 n6 c6]), (.tuple #[.agg #[.bool (decide ((a * 10 + d) < 0)), .slice p7 n7 c7], .bool true]), (.agg #[.bool (decide ((a * 10 + d) < 0)), .slice p7 n7 c7]), (.bool true), (.agg #[.bool false, .slice p2 0 c2]), (.string ⟨(decInt a).toArray⟩), (.int .i64 d), (.int .i64 (48 + d)), (.int .u8 (bt.toNat : Int)), (.slice (some ⟨gs, 0, none⟩) 1 1), (.string ⟨([bt]).toArray⟩), (.string ⟨((decInt a ++ [bt])).toArray⟩), (.pointer (some ⟨w2.heap.size, 1, none⟩)), (.slice p2 0 c2), (.int .i64 0), (.bool true), (.int .i64 d), (.int .i64 (48 + d)), (.int .u8 (48 + d)), (.slice (some ⟨w10.heap.size, 0, none⟩) 1 1), (.string ⟨([bt]).toArray⟩), v52, v53, v54, v55, v56, v57, undef, undef, undef, undef, undef, undef, undef, undef, undef, undef, undef, undef, undef, undef, undef, undef, undef, undef, undef, undef, undef, undef, undef, undef, undef, undef, undef, undef], defers := [] } ∧ (D 0 → v53 = .agg #[.bool false, .slice p11 n11 c11]) ∧ (D 1 → v54 = .agg #[.bool false, .slice p2 0 c2]) ∧ (D 2 → v55 = .tuple #[.agg #[.bool (decide ((0 - a) < 0)), .slice p12 n12 c12], .bool true]) ∧ (D 3 → v52 = .tuple #[.agg #[.bool (decide ((0 - a) < 0)), .slice p12 n12 c12], .bool true]) ∧ (D 4 → v56 = .agg #[.bool (decide ((0 - a) < 0)), .slice p12 n12 c12]) ∧ (D 5 → v57 = .bool true) ∧ (D 6 → v13 = .pointer (some ⟨g5, 0, none⟩)) ∧ (D 8 → v14 = .bool true) ∧ Ext W2 w' ∧ (D 0 → ZNum w'.heap.size w' (.agg #[.bool false, .slice p11 n11 c11]) (0)) ∧ (D 2 → ZNum w'.heap.size w' (.agg #[.bool (decide ((0 - a) < 0)), .slice p12 n12 c12]) ((0 - a))) ∧ (D 6 → W2.heap.size ≤ g5 ∧ ∃ x0 x1 x2 x3, RowAt w' g5 26 (numCells x0 x1 x2 x3) ∧ (D 7 → numCells x0 x1 x2 x3 = numCells (decide ((0 - a) < 0)) p12 n12 c12)) ∧ (D 7 → D 6) ∧ (D 3 → D 2) ∧ (D 4 → D 2) ∧ (D 7 → D 2))
            (by kernel_rfl) (by kernel_rfl) ?startR10_10 ?stepR10_10 ?finR10_10
          case startR10_10 => exact ⟨_, _, _, _, _, _, _, _, (none : Option Addr), 0, 0, (none : Option Addr), 0, 0, 0, rfl, False.elim, False.elim, False.elim, False.elim, False.elim, False.elim, False.elim, False.elim, Ext.drew _, False.elim, False.elim, False.elim, False.elim, False.elim, False.elim, False.elim⟩
          case stepR10_10 =>
            rintro i o D ac wz hio hn he ⟨v13, v14, v52, v53, v54, v55, v56, v57, p11, n11, c11, p12, n12, c12, g5, rfl, f0, f1, f2, f3, f4, f5, f6, f8, k0, k1, k2, k3, k4, k5, k6, k7⟩
            rcases i with _ | _ | _ | _ | _ | _ | _ | _ | _ | i
            rotate_left 9
            · exact absurd hio (by simp)
            all_goals (obtain rfl := Option.some.inj (hio.symm.trans (by rfl)))
            · refine wp_of_callE (run_enter1 19 (.const (.int .i64 0)) _ rfl _ rfl (ent_19)) (of_gives (neg := false) 0 (by decide) (by decide) rfl wz) ?_
              rintro e w' ⟨p11, n11, c11, rfl, hz, hx⟩
              refine ⟨_, rfl, ?_⟩
              exact ⟨_, _, _, _, _, _, _, _, _, _, _, _, _, _, _, rfl, put_eq rfl, put_ne (by decide) f1, put_ne (by decide) f2, put_ne (by decide) f3, put_ne (by decide) f4, put_ne (by decide) f5, put_ne (by decide) f6, put_ne (by decide) f8, Ext.trans k0 hx, fun _ => hz, fun e => Ext.num hx (k2 (And'.ne (by decide) e)), fun e => ⟨(k3 (And'.ne (by decide) e)).1, (k3 (And'.ne (by decide) e)).2.imp fun x0 h => h.imp fun x1 h => h.imp fun x2 h => h.imp fun x3 ⟨h1, h3⟩ => ⟨Ext.row hx h1, fun e => h3 (And'.ne (by decide) e)⟩⟩, fun e => .inr (k4 (And'.ne (by decide) e)), fun e => .inr (k5 (And'.ne (by decide) e)), fun e => .inr (k6 (And'.ne (by decide) e)), fun e => .inr (k7 (And'.ne (by decide) e))⟩
            · exact wp_of_run (run_load_num (.tmp 6) rfl (w2.heap.size) rfl _ _ _ _ _ ((k0.row ((Ext.trans Xw5.out (Ext.trans Xw8.out (Ext.trans Xw10.out (XW2.out)))).row Rb1.out)))) ⟨_, _, _, _, _, _, _, _, _, _, _, _, _, _, _, rfl, put_ne (by decide) f0, put_eq rfl, put_ne (by decide) f2, put_ne (by decide) f3, put_ne (by decide) f4, put_ne (by decide) f5, put_ne (by decide) f6, put_ne (by decide) f8, k0, put_ne (by decide) k1, put_ne (by decide) k2, fun e => ⟨(k3 (And'.ne (by decide) e)).1, (k3 (And'.ne (by decide) e)).2.imp fun x0 h => h.imp fun x1 h => h.imp fun x2 h => h.imp fun x3 ⟨h1, h3⟩ => ⟨h1, fun e => h3 (And'.ne (by decide) e)⟩⟩, fun e => .inr (k4 (And'.ne (by decide) e)), fun e => .inr (k5 (And'.ne (by decide) e)), fun e => .inr (k6 (And'.ne (by decide) e)), fun e => .inr (k7 (And'.ne (by decide) e))⟩
            · obtain rfl := (f0 (he ⟨0, .data⟩ (by simp) rfl)).symm
              obtain rfl := (f1 (he ⟨1, .data⟩ (by simp) rfl)).symm
              refine wp_of_callE (run_enter2 21 (.tmp 53) (.tmp 54) _ rfl _ _ rfl rfl (ent_21)) (sub_gives (z := (0 - a)) (neg := (decide ((0 - a) < 0))) (k1 (he ⟨0, .data⟩ (by simp) rfl)) (k0.num ((Ext.trans XW1.out (Ext.trans Xw5.out (Ext.trans Xw8.out (Ext.trans Xw10.out (XW2.out))))).num Z2a.out)) rfl rfl lminus) ?_
              rintro e w' ⟨p12, n12, c12, rfl, hz, hx⟩
              refine ⟨_, rfl, ?_⟩
              exact ⟨_, _, _, _, _, _, _, _, _, _, _, _, _, _, _, rfl, put_ne (by decide) f0, put_ne (by decide) f1, put_eq rfl, fun e => absurd (k5 (And'.ne (by decide) e)) hn, fun e => absurd (k6 (And'.ne (by decide) e)) hn, put_ne (by decide) f5, put_ne (by decide) f6, put_ne (by decide) f8, Ext.trans k0 hx, fun e => Ext.num hx (k1 (And'.ne (by decide) e)), fun _ => hz, fun e => ⟨(k3 (And'.ne (by decide) e)).1, (k3 (And'.ne (by decide) e)).2.imp fun x0 h => h.imp fun x1 h => h.imp fun x2 h => h.imp fun x3 ⟨h1, h3⟩ => ⟨Ext.row hx h1, fun e => absurd (k7 (And'.ne (by decide) e)) hn⟩⟩, fun e => .inr (k4 (And'.ne (by decide) e)), fun _ => .inl rfl, fun _ => .inl rfl, fun _ => .inl rfl⟩
            · obtain rfl := (f2 (he ⟨2, .data⟩ (by simp) rfl)).symm
              exact wp_of_run (run_move (.tmp 55) rfl) ⟨_, _, _, _, _, _, _, _, _, _, _, _, _, _, _, rfl, put_ne (by decide) f0, put_ne (by decide) f1, put_ne (by decide) f2, put_eq rfl, put_ne (by decide) f4, put_ne (by decide) f5, put_ne (by decide) f6, put_ne (by decide) f8, k0, put_ne (by decide) k1, put_ne (by decide) k2, fun e => ⟨(k3 (And'.ne (by decide) e)).1, (k3 (And'.ne (by decide) e)).2.imp fun x0 h => h.imp fun x1 h => h.imp fun x2 h => h.imp fun x3 ⟨h1, h3⟩ => ⟨h1, fun e => h3 (And'.ne (by decide) e)⟩⟩, fun e => .inr (k4 (And'.ne (by decide) e)), fun _ => .inr (he ⟨2, .data⟩ (by simp) rfl), fun e => .inr (k6 (And'.ne (by decide) e)), fun e => .inr (k7 (And'.ne (by decide) e))⟩
            · obtain rfl := (f3 (he ⟨3, .data⟩ (by simp) rfl)).symm
              exact wp_of_run (run_extract (.tmp 52) 0 rfl _ rfl _ rfl) ⟨_, _, _, _, _, _, _, _, _, _, _, _, _, _, _, rfl, put_ne (by decide) f0, put_ne (by decide) f1, put_ne (by decide) f2, put_ne (by decide) f3, put_eq rfl, put_ne (by decide) f5, put_ne (by decide) f6, put_ne (by decide) f8, k0, put_ne (by decide) k1, put_ne (by decide) k2, fun e => ⟨(k3 (And'.ne (by decide) e)).1, (k3 (And'.ne (by decide) e)).2.imp fun x0 h => h.imp fun x1 h => h.imp fun x2 h => h.imp fun x3 ⟨h1, h3⟩ => ⟨h1, fun e => h3 (And'.ne (by decide) e)⟩⟩, fun e => .inr (k4 (And'.ne (by decide) e)), fun e => .inr (k5 (And'.ne (by decide) e)), fun _ => .inr (k5 (he ⟨3, .data⟩ (by simp) rfl)), fun e => .inr (k7 (And'.ne (by decide) e))⟩
            · obtain rfl := (f3 (he ⟨3, .data⟩ (by simp) rfl)).symm
              exact wp_of_run (run_extract (.tmp 52) 1 rfl _ rfl _ rfl) ⟨_, _, _, _, _, _, _, _, _, _, _, _, _, _, _, rfl, put_ne (by decide) f0, put_ne (by decide) f1, put_ne (by decide) f2, put_ne (by decide) f3, put_ne (by decide) f4, put_eq rfl, put_ne (by decide) f6, put_ne (by decide) f8, k0, put_ne (by decide) k1, put_ne (by decide) k2, fun e => ⟨(k3 (And'.ne (by decide) e)).1, (k3 (And'.ne (by decide) e)).2.imp fun x0 h => h.imp fun x1 h => h.imp fun x2 h => h.imp fun x3 ⟨h1, h3⟩ => ⟨h1, fun e => h3 (And'.ne (by decide) e)⟩⟩, fun e => .inr (k4 (And'.ne (by decide) e)), fun e => .inr (k5 (And'.ne (by decide) e)), fun e => .inr (k6 (And'.ne (by decide) e)), fun e => .inr (k7 (And'.ne (by decide) e))⟩
            · exact wp_of_run (run_alloc_num rfl) ⟨_, _, _, _, _, _, _, _, _, _, _, _, _, _, _, rfl, put_ne (by decide) f0, put_ne (by decide) f1, put_ne (by decide) f2, put_ne (by decide) f3, put_ne (by decide) f4, put_ne (by decide) f5, put_eq rfl, put_ne (by decide) f8, k0.trans (Ext.alloc _ _), fun e => (Ext.alloc _ _).num (k1 (And'.ne (by decide) e)), fun e => (Ext.alloc _ _).num (k2 (And'.ne (by decide) e)), fun _ => ⟨Below.size k0, false, none, 0, 0, RowAt.new _ _ _, fun e => absurd (k4 (And'.ne (by decide) e)) hn⟩, fun _ => .inl rfl, fun e => .inr (k5 (And'.ne (by decide) e)), fun e => .inr (k6 (And'.ne (by decide) e)), fun e => .inr (k7 (And'.ne (by decide) e))⟩
            · obtain rfl := (f6 (he ⟨6, .data⟩ (by simp) rfl)).symm
              obtain rfl := (f4 (he ⟨4, .data⟩ (by simp) rfl)).symm
              have h_al := (he ⟨6, .data⟩ (by simp) rfl)
              obtain ⟨hlo, x0, x1, x2, x3, hr, -⟩ := k3 h_al
              refine wp_store_row 26 (.tmp 13) (.tmp 56) rfl g5 (numCells (decide ((0 - a) < 0)) p12 n12 c12) rfl rfl 26 _ hr num_info rfl (numCells_one ..) ?_
              exact ⟨_, _, _, _, _, _, _, _, _, _, _, _, _, _, _, rfl, put_ne (by decide) f0, put_ne (by decide) f1, put_ne (by decide) f2, put_ne (by decide) f3, put_ne (by decide) f4, put_ne (by decide) f5, put_ne (by decide) f6, put_ne (by decide) f8, ext_setRow k0 hlo _, fun e => by rw [setRow_size]; exact (k1 (And'.ne (by decide) e)).setNum hr _, fun e => by rw [setRow_size]; exact (k2 (And'.ne (by decide) e)).setNum hr _, fun _ => ⟨hlo, _, _, _, _, hr.setRow _, fun _ => rfl⟩, fun _ => .inr (he ⟨6, .data⟩ (by simp) rfl), fun e => .inr (k5 (And'.ne (by decide) e)), fun e => .inr (k6 (And'.ne (by decide) e)), fun _ => .inr (he ⟨2, .chain⟩ (by simp) rfl)⟩
            · obtain rfl := (f5 (he ⟨5, .data⟩ (by simp) rfl)).symm
              exact wp_of_run (run_assign (.tmp 57) rfl) ⟨_, _, _, _, _, _, _, _, _, _, _, _, _, _, _, rfl, put_ne (by decide) f0, put_ne (by decide) f1, put_ne (by decide) f2, put_ne (by decide) f3, put_ne (by decide) f4, put_ne (by decide) f5, put_ne (by decide) f6, put_eq rfl, k0, put_ne (by decide) k1, put_ne (by decide) k2, fun e => ⟨(k3 (And'.ne (by decide) e)).1, (k3 (And'.ne (by decide) e)).2.imp fun x0 h => h.imp fun x1 h => h.imp fun x2 h => h.imp fun x3 ⟨h1, h3⟩ => ⟨h1, fun e => h3 (And'.ne (by decide) e)⟩⟩, fun e => .inr (k4 (And'.ne (by decide) e)), fun e => .inr (k5 (And'.ne (by decide) e)), fun e => .inr (k6 (And'.ne (by decide) e)), fun e => .inr (k7 (And'.ne (by decide) e))⟩
          case finR10_10 =>
            rintro D ac w13 hD ⟨v13, v14, v52, v53, v54, v55, v56, v57, p11, n11, c11, p12, n12, c12, g5, rfl, f0, f1, f2, f3, f4, f5, f6, f8, k0, k1, k2, k3, k4, k5, k6, k7⟩
            obtain rfl := (f0 (hD 0 (by simp))).symm
            obtain rfl := (f1 (hD 1 (by simp))).symm
            obtain rfl := (f2 (hD 2 (by simp))).symm
            obtain rfl := (f3 (hD 3 (by simp))).symm
            obtain rfl := (f4 (hD 4 (by simp))).symm
            obtain rfl := (f5 (hD 5 (by simp))).symm
            obtain rfl := (f6 (hD 6 (by simp))).symm
            obtain rfl := (f8 (hD 8 (by simp))).symm
            have Xw13 := Lib.hid k0
            have Z11 := Lib.hid (k1 (hD 0 (by simp)))
            have Z12 := Lib.hid (k2 (hD 2 (by simp)))
            have Rb5 : Hid (RowAt w13 g5 26 (numCells (decide ((0 - a) < 0)) p12 n12 c12)) := by
              obtain ⟨-, x0, x1, x2, x3, h1, h2⟩ := k3 (hD 6 (by simp))
              rw [← h2 (hD 7 (by simp))]
              exact h1
            have Bb5 := (k3 (hD 6 (by simp))).1
            clear hD f0 f1 f2 f3 f4 f5 f6 f8 k0 k1 k2 k3 k4 k5 k6 k7
            go_wp2
            refine wp_region_invG (fun D ac w' => ∃ v58 v59 v60 v61 v62 v63 v64 v65 v66 v67 v68 v69, ac = { tmps := #[(va), (.int .u8 dg), undef, undef, (.bool false), (.bool true), (.pointer (some ⟨w2.heap.size, 0, none⟩)), (.int .i64 d), (.pointer (some ⟨g2, 0, none⟩)), (.bool true), (.pointer (some ⟨g3, 0, none⟩)), (.bool true), (.string ⟨([bt]).toArray⟩), (.pointer (some ⟨g5, 0, none⟩)), (.bool true), (.bool true), (va), (.agg #[.bool (decide (b < 0)), .slice p2 0 c2]), (.pointer (some ⟨w2.heap.size, 0, none⟩)), (.int .u8 dg), (.int .i64 dg), (.int .i64 d), (.tuple #[.agg #[.bool (decide ((a * 10) < 0)), .slice p4 n4 c4], .bool true]), (.agg #[.bool false, .slice p2 0 c2]), (.agg #[.bool false, .slice p3 n3 c3]), (.tuple #[.agg #[.bool (decide ((a * 10) < 0)), .slice p4 n4 c4], .bool true]), (.agg #[.bool (decide ((a * 10) < 0)), .slice p4 n4 c4]), (.bool true), (.tuple #[.agg #[.bool (decide ((a * 10 + d) < 0)), .slice p7 n7 c7], .bool true]), (.agg #[.bool (decide ((a * 10) < 0)), .slice p4 n4 c4]), (.int .i64 d), (.agg #[.bool (decide (d < 0)), .slice p6 n6 c6]), (.tuple #[.agg #[.bool (decide ((a * 10 + d) < 0)), .slice p7 n7 c7], .bool true]), (.agg #[.bool (decide ((a * 10 + d) < 0)), .slice p7 n7 c7]), (.bool true), (.agg #[.bool false, .slice p2 0 c2]), (.string ⟨(decInt a).toArray⟩), (.int .i64 d), (.int .i64 (48 + d)), (.int .u8 (bt.toNat : Int)), (.slice (some ⟨gs, 0, none⟩) 1 1), (.string ⟨([bt]).toArray⟩), (.string ⟨((decInt a ++ [bt])).toArray⟩), (.pointer (some ⟨w2.heap.size, 1, none⟩)), (.slice p2 0 c2), (.int .i64 0), (.bool true), (.int .i64 d), (.int .i64 (48 + d)), (.int .u8 (48 + d)), (.slice (some ⟨w10.heap.size, 0, none⟩) 1 1), (.string ⟨([bt]).toArray⟩), (.tuple #[.agg #[.bool (decide ((0 - a) < 0)), .slice p12 n12 c12], .bool true]), (.agg #[.bool false, .slice p11 n11 c11]), (.agg #[.bool false, .slice p2 0 c2]), (.tuple #[.agg #[.bool (decide ((0 - a) < 0)), .slice p12 n12 c12], .bool true]), (.agg #[.bool (decide ((0 - a) < 0)), .slice p12 n12 c12]), (.bool true), v58, v59, v60, v61, v62, v63, v64, v65, v66, v67, v68, v69, undef, undef, undef, undef, undef, undef, undef, undef, undef, undef, undef, undef, undef, undef, undef, undef], defers := [] } ∧ (D 0 → v58 = .pointer (some ⟨w2.heap.size, 1, none⟩)) ∧ (D 1 → v59 = .slice p2 0 c2) ∧ (D 2 → v60 = .int .i64 0) ∧ (D 3 → v61 = .bool false) ∧ (D 4 → v62 = .bool false) ∧ (D 5 → v63 = undef) ∧ (D 6 → v64 = undef) ∧ (D 7 → v65 = undef) ∧ (D 8 → v66 = undef) ∧ (D 9 → v67 = undef) ∧ (D 10 → v68 = undef) ∧ (D 11 → v69 = .bool false) ∧ Ext w13 w')
              (by kernel_rfl) (by kernel_rfl) ?startR13_11 ?stepR13_11 ?finR13_11
            case startR13_11 => exact ⟨_, _, _, _, _, _, _, _, _, _, _, _, rfl, False.elim, False.elim, False.elim, False.elim, False.elim, False.elim, False.elim, False.elim, False.elim, False.elim, False.elim, False.elim, Ext.drew _⟩
            case stepR13_11 =>
              rintro i o D ac wz hio hn he ⟨v58, v59, v60, v61, v62, v63, v64, v65, v66, v67, v68, v69, rfl, f0, f1, f2, f3, f4, f5, f6, f7, f8, f9, f10, f11, k0⟩
              rcases i with _ | _ | _ | _ | _ | _ | _ | _ | _ | _ | _ | _ | i
              rotate_left 12
              · exact absurd hio (by simp)
              all_goals (obtain rfl := Option.some.inj (hio.symm.trans (by rfl)))
              · refine step_yes (wanted_of_none rfl _) ?_
                exact wp_of_run (run_field1 (.tmp 6) rfl (w2.heap.size) rfl) ⟨_, _, _, _, _, _, _, _, _, _, _, _, rfl, put_eq rfl, put_ne (by decide) f1, put_ne (by decide) f2, put_ne (by decide) f3, put_ne (by decide) f4, put_ne (by decide) f5, put_ne (by decide) f6, put_ne (by decide) f7, put_ne (by decide) f8, put_ne (by decide) f9, put_ne (by decide) f10, put_ne (by decide) f11, k0⟩
              · obtain rfl := (f0 (he ⟨0, .data⟩ (by simp) rfl)).symm
                refine step_yes (wanted_of_none rfl _) ?_
                exact wp_of_run (run_load_slice_at (.tmp 58) rfl _ rfl p2 0 c2 (((k0.row ((Ext.trans Xw5.out (Ext.trans Xw8.out (Ext.trans Xw10.out (Ext.trans XW2.out (Xw13.out))))).row Rb1.out))).cell 1)) ⟨_, _, _, _, _, _, _, _, _, _, _, _, rfl, put_ne (by decide) f0, put_eq rfl, put_ne (by decide) f2, put_ne (by decide) f3, put_ne (by decide) f4, put_ne (by decide) f5, put_ne (by decide) f6, put_ne (by decide) f7, put_ne (by decide) f8, put_ne (by decide) f9, put_ne (by decide) f10, put_ne (by decide) f11, k0⟩
              · obtain rfl := (f1 (he ⟨1, .data⟩ (by simp) rfl)).symm
                refine step_yes (wanted_of_none rfl _) ?_
                exact wp_of_run (run_len (.tmp 59) _ rfl rfl _ _ _ rfl) ⟨_, _, _, _, _, _, _, _, _, _, _, _, rfl, put_ne (by decide) f0, put_ne (by decide) f1, put_eq rfl, put_ne (by decide) f3, put_ne (by decide) f4, put_ne (by decide) f5, put_ne (by decide) f6, put_ne (by decide) f7, put_ne (by decide) f8, put_ne (by decide) f9, put_ne (by decide) f10, put_ne (by decide) f11, k0⟩
              · obtain rfl := (f2 (he ⟨2, .data⟩ (by simp) rfl)).symm
                refine step_yes (wanted_of_none rfl _) ?_
                exact wp_of_run (run_gtr_false (.tmp 60) (.const (.int .i64 0)) rfl _ _ rfl rfl (by decide)) ⟨_, _, _, _, _, _, _, _, _, _, _, _, rfl, put_ne (by decide) f0, put_ne (by decide) f1, put_ne (by decide) f2, put_eq rfl, put_ne (by decide) f4, put_ne (by decide) f5, put_ne (by decide) f6, put_ne (by decide) f7, put_ne (by decide) f8, put_ne (by decide) f9, put_ne (by decide) f10, put_ne (by decide) f11, k0⟩
              · obtain rfl := (f3 (he ⟨3, .data⟩ (by simp) rfl)).symm
                refine step_yes (wanted_of_none rfl _) ?_
                exact wp_of_run (run_move (.tmp 61) rfl) ⟨_, _, _, _, _, _, _, _, _, _, _, _, rfl, put_ne (by decide) f0, put_ne (by decide) f1, put_ne (by decide) f2, put_ne (by decide) f3, put_eq rfl, put_ne (by decide) f5, put_ne (by decide) f6, put_ne (by decide) f7, put_ne (by decide) f8, put_ne (by decide) f9, put_ne (by decide) f10, put_ne (by decide) f11, k0⟩
              · obtain rfl := (f4 (he ⟨4, .guard⟩ (by simp) rfl)).symm
                refine step_no rfl ?_
                exact ⟨_, _, _, _, _, _, _, _, _, _, _, _, rfl, put_ne (by decide) f0, put_ne (by decide) f1, put_ne (by decide) f2, put_ne (by decide) f3, put_ne (by decide) f4, put_eq rfl, put_ne (by decide) f6, put_ne (by decide) f7, put_ne (by decide) f8, put_ne (by decide) f9, put_ne (by decide) f10, put_ne (by decide) f11, k0⟩
              · obtain rfl := (f4 (he ⟨4, .chain⟩ (by simp) rfl)).symm
                refine step_no rfl ?_
                exact ⟨_, _, _, _, _, _, _, _, _, _, _, _, rfl, put_ne (by decide) f0, put_ne (by decide) f1, put_ne (by decide) f2, put_ne (by decide) f3, put_ne (by decide) f4, put_ne (by decide) f5, put_eq rfl, put_ne (by decide) f7, put_ne (by decide) f8, put_ne (by decide) f9, put_ne (by decide) f10, put_ne (by decide) f11, k0⟩
              · obtain rfl := (f4 (he ⟨4, .guard⟩ (by simp) rfl)).symm
                refine step_no rfl ?_
                exact ⟨_, _, _, _, _, _, _, _, _, _, _, _, rfl, put_ne (by decide) f0, put_ne (by decide) f1, put_ne (by decide) f2, put_ne (by decide) f3, put_ne (by decide) f4, put_ne (by decide) f5, put_ne (by decide) f6, put_eq rfl, put_ne (by decide) f8, put_ne (by decide) f9, put_ne (by decide) f10, put_ne (by decide) f11, k0⟩
              · obtain rfl := (f4 (he ⟨4, .guard⟩ (by simp) rfl)).symm
                refine step_no rfl ?_
                exact ⟨_, _, _, _, _, _, _, _, _, _, _, _, rfl, put_ne (by decide) f0, put_ne (by decide) f1, put_ne (by decide) f2, put_ne (by decide) f3, put_ne (by decide) f4, put_ne (by decide) f5, put_ne (by decide) f6, put_ne (by decide) f7, put_eq rfl, put_ne (by decide) f9, put_ne (by decide) f10, put_ne (by decide) f11, k0⟩
              · obtain rfl := (f4 (he ⟨4, .guard⟩ (by simp) rfl)).symm
                refine step_no rfl ?_
                exact ⟨_, _, _, _, _, _, _, _, _, _, _, _, rfl, put_ne (by decide) f0, put_ne (by decide) f1, put_ne (by decide) f2, put_ne (by decide) f3, put_ne (by decide) f4, put_ne (by decide) f5, put_ne (by decide) f6, put_ne (by decide) f7, put_ne (by decide) f8, put_eq rfl, put_ne (by decide) f10, put_ne (by decide) f11, k0⟩
              · obtain rfl := (f4 (he ⟨4, .guard⟩ (by simp) rfl)).symm
                refine step_no rfl ?_
                exact ⟨_, _, _, _, _, _, _, _, _, _, _, _, rfl, put_ne (by decide) f0, put_ne (by decide) f1, put_ne (by decide) f2, put_ne (by decide) f3, put_ne (by decide) f4, put_ne (by decide) f5, put_ne (by decide) f6, put_ne (by decide) f7, put_ne (by decide) f8, put_ne (by decide) f9, put_eq rfl, put_ne (by decide) f11, k0⟩
              · obtain rfl := (f4 (he ⟨4, .data⟩ (by simp) rfl)).symm
                obtain rfl := (f10 (he ⟨10, .data⟩ (by simp) rfl)).symm
                refine step_yes (wanted_of_none rfl _) ?_
                exact wp_of_run (run_pick_f (.tmp 62) (.tmp 68) (.const (.bool false)) rfl rfl) ⟨_, _, _, _, _, _, _, _, _, _, _, _, rfl, put_ne (by decide) f0, put_ne (by decide) f1, put_ne (by decide) f2, put_ne (by decide) f3, put_ne (by decide) f4, put_ne (by decide) f5, put_ne (by decide) f6, put_ne (by decide) f7, put_ne (by decide) f8, put_ne (by decide) f9, put_ne (by decide) f10, put_eq rfl, k0⟩
            case finR13_11 =>
              rintro D ac w14 hD ⟨v58, v59, v60, v61, v62, v63, v64, v65, v66, v67, v68, v69, rfl, f0, f1, f2, f3, f4, f5, f6, f7, f8, f9, f10, f11, k0⟩
              obtain rfl := (f0 (hD 0 (by simp))).symm
              obtain rfl := (f1 (hD 1 (by simp))).symm
              obtain rfl := (f2 (hD 2 (by simp))).symm
              obtain rfl := (f3 (hD 3 (by simp))).symm
              obtain rfl := (f4 (hD 4 (by simp))).symm
              obtain rfl := (f5 (hD 5 (by simp))).symm
              obtain rfl := (f6 (hD 6 (by simp))).symm
              obtain rfl := (f7 (hD 7 (by simp))).symm
              obtain rfl := (f8 (hD 8 (by simp))).symm
              obtain rfl := (f9 (hD 9 (by simp))).symm
              obtain rfl := (f10 (hD 10 (by simp))).symm
              obtain rfl := (f11 (hD 11 (by simp))).symm
              have Xw14 := Lib.hid k0
              clear hD f0 f1 f2 f3 f4 f5 f6 f7 f8 f9 f10 f11 k0
              clear hconv
              have hb3_0_14 : w14.cell? ⟨g3, 0, none⟩ = some (.bool (decide ((a * 10 + d) < 0))) := ((Ext.trans Xw10.out (Ext.trans XW2.out (Ext.trans Xw13.out (Xw14.out)))).row Rb3.out).cell 0
              have hb3_1_14 : w14.cell? ⟨g3, 1, none⟩ = some (.slice p7 n7 c7) := ((Ext.trans Xw10.out (Ext.trans XW2.out (Ext.trans Xw13.out (Xw14.out)))).row Rb3.out).cell 1
              go_wp2_with fail
              refine (text_as hnext0 (text_calls _ ((a * 10 + d)) w14 ((Ext.trans Xw10.out (Ext.trans XW2.out (Ext.trans Xw13.out (Xw14.out)))).num Z7.out) ((Ext.trans Xw1.out (Ext.trans Xw2.out (Ext.trans XW1.out (Ext.trans Xw5.out (Ext.trans Xw8.out (Ext.trans Xw10.out (Ext.trans XW2.out (Ext.trans Xw13.out (Xw14.out))))))))).tab ht))).mono ?_
              rintro e w15 ⟨rfl, hx⟩
              have Xw15 := Lib.hid hx
              clear hx 
              go_wp2
              go_ret
              exact ⟨rfl, (Ext.trans Xw1.out (Ext.trans Xw2.out (Ext.trans XW1.out (Ext.trans Xw5.out (Ext.trans Xw8.out (Ext.trans Xw10.out (Ext.trans XW2.out (Ext.trans Xw13.out (Ext.trans Xw14.out (Xw15.out))))))))))⟩
        · have hn := znum_pos Z2a.out haz
          have hnb : ((n2 : Int) == 0) = false := by simpa using hn
          have hnp : (0 : Int) < (n2 : Int) := by omega
          have hminus : decInt (0 - a) = [45] ++ decInt a := by
            unfold decInt
            rw [if_pos (by omega), if_neg (by omega)]
            rw [show (0 - a).natAbs = a.natAbs by omega]
            rfl
          have hnext : decInt (a * 10 + d) = decInt a ++ [bt] := by
            unfold decInt
            rw [if_neg (by omega), if_neg (by omega), dec_step (by omega), show (a * 10 + d).natAbs / 10 = a.natAbs by omega, show (a * 10 + d).natAbs % 10 = d.natAbs by omega]
            congr 2
            exact UInt8.toNat_inj.1 (by rw [UInt8.toNat_ofNat']; omega)
          have hb1_1_10 : w10.cell? ⟨w2.heap.size, 1, none⟩ = some (.slice p2 n2 c2) := ((Ext.trans Xw5.out (Ext.trans Xw8.out (Xw10.out))).row Rb1.out).cell 1
          go_wp2
          refine wp_region_inv (fun D ac w' => ∃ v13 v14 v52 v53 v54 v55 v56 v57 p11 n11 c11 p12 n12 c12 g4, ac = { tmps := #[(va), (.int .u8 dg), undef, undef, (.bool false), (.bool true), (.pointer (some ⟨w2.heap.size, 0, none⟩)), (.int .i64 d), (.pointer (some ⟨g2, 0, none⟩)), (.bool true), (.pointer (some ⟨g3, 0, none⟩)), (.bool true), (.string ⟨((decInt a ++ [bt])).toArray⟩), v13, v14, (.bool true), (va), (.agg #[.bool (decide (b < 0)), .slice p2 n2 c2]), (.pointer (some ⟨w2.heap.size, 0, none⟩)), (.int .u8 dg), (.int .i64 dg), (.int .i64 d), (.tuple #[.agg #[.bool (decide ((a * 10) < 0)), .slice p4 n4 c4], .bool true]), (.agg #[.bool false, .slice p2 n2 c2]), (.agg #[.bool false, .slice p3 n3 c3]), (.tuple #[.agg #[.bool (decide ((a * 10) < 0)), .slice p4 n4 c4], .bool true]), (.agg #[.bool (decide ((a * 10) < 0)), .slice p4 n4 c4]), (.bool true), (.tuple #[.agg #[.bool (decide ((a * 10 + d) < 0)), .slice p7 n7 c7], .bool true]), (.agg #[.bool (decide ((a * 10) < 0)), .slice p4 n4 c4]), (.int .i64 d), (.agg #[.bool (decide (d < 0)), .slice p6 n6 c6]), (.tuple #[.agg #[.bool (decide ((a * 10 + d) < 0)), .slice p7 n7 c7], .bool true]), (.agg #[.bool (decide ((a * 10 + d) < 0)), .slice p7 n7 c7]), (.bool true), (.agg #[.bool false, .slice p2 n2 c2]), (.string ⟨(decInt a).toArray⟩), (.int .i64 d), (.int .i64 (48 + d)), (.int .u8 (bt.toNat : Int)), (.slice (some ⟨gs, 0, none⟩) 1 1), (.string ⟨([bt]).toArray⟩), (.string ⟨((decInt a ++ [bt])).toArray⟩), (.pointer (some ⟨w2.heap.size, 1, none⟩)), (.slice p2 n2 c2), (.int .i64 n2), (.bool false), undef, undef, undef, undef, undef, v52, v53, v54, v55, v56, v57, undef, undef, undef, undef, undef, undef, undef, undef, undef, undef, undef, undef, undef, undef, undef, undef, undef, undef, undef, undef, undef, undef, undef, undef, undef, undef, undef, undef], defers := [] } ∧ (D 0 → v53 = .agg #[.bool false, .slice p11 n11 c11]) ∧ (D 1 → v54 = .agg #[.bool false, .slice p2 n2 c2]) ∧ (D 2 → v55 = .tuple #[.agg #[.bool (decide ((0 - a) < 0)), .slice p12 n12 c12], .bool true]) ∧ (D 3 → v52 = .tuple #[.agg #[.bool (decide ((0 - a) < 0)), .slice p12 n12 c12], .bool true]) ∧ (D 4 → v56 = .agg #[.bool (decide ((0 - a) < 0)), .slice p12 n12 c12]) ∧ (D 5 → v57 = .bool true) ∧ (D 6 → v13 = .pointer (some ⟨g4, 0, none⟩)) ∧ (D 8 → v14 = .bool true) ∧ Ext w10 w' ∧ (D 0 → ZNum w'.heap.size w' (.agg #[.bool false, .slice p11 n11 c11]) (0)) ∧ (D 2 → ZNum w'.heap.size w' (.agg #[.bool (decide ((0 - a) < 0)), .slice p12 n12 c12]) ((0 - a))) ∧ (D 6 → w10.heap.size ≤ g4 ∧ ∃ x0 x1 x2 x3, RowAt w' g4 26 (numCells x0 x1 x2 x3) ∧ (D 7 → numCells x0 x1 x2 x3 = numCells (decide ((0 - a) < 0)) p12 n12 c12)) ∧ (D 7 → D 6) ∧ (D 3 → D 2) ∧ (D 4 → D 2) ∧ (D 7 → D 2))
            (by kernel_rfl) (by kernel_rfl) ?startR10_10 ?stepR10_10 ?finR10_10
          case startR10_10 => exact ⟨_, _, _, _, _, _, _, _, (none : Option Addr), 0, 0, (none : Option Addr), 0, 0, 0, rfl, False.elim, False.elim, False.elim, False.elim, False.elim, False.elim, False.elim, False.elim, Ext.drew _, False.elim, False.elim, False.elim, False.elim, False.elim, False.elim, False.elim⟩
          case stepR10_10 =>
            rintro i o D ac wz hio hn he ⟨v13, v14, v52, v53, v54, v55, v56, v57, p11, n11, c11, p12, n12, c12, g4, rfl, f0, f1, f2, f3, f4, f5, f6, f8, k0, k1, k2, k3, k4, k5, k6, k7⟩
            rcases i with _ | _ | _ | _ | _ | _ | _ | _ | _ | i
            rotate_left 9
            · exact absurd hio (by simp)
            all_goals (obtain rfl := Option.some.inj (hio.symm.trans (by rfl)))
            · refine wp_of_callE (run_enter1 19 (.const (.int .i64 0)) _ rfl _ rfl (ent_19)) (of_gives (neg := false) 0 (by decide) (by decide) rfl wz) ?_
              rintro e w' ⟨p11, n11, c11, rfl, hz, hx⟩
              refine ⟨_, rfl, ?_⟩
              exact ⟨_, _, _, _, _, _, _, _, _, _, _, _, _, _, _, rfl, put_eq rfl, put_ne (by decide) f1, put_ne (by decide) f2, put_ne (by decide) f3, put_ne (by decide) f4, put_ne (by decide) f5, put_ne (by decide) f6, put_ne (by decide) f8, Ext.trans k0 hx, fun _ => hz, fun e => Ext.num hx (k2 (And'.ne (by decide) e)), fun e => ⟨(k3 (And'.ne (by decide) e)).1, (k3 (And'.ne (by decide) e)).2.imp fun x0 h => h.imp fun x1 h => h.imp fun x2 h => h.imp fun x3 ⟨h1, h3⟩ => ⟨Ext.row hx h1, fun e => h3 (And'.ne (by decide) e)⟩⟩, fun e => .inr (k4 (And'.ne (by decide) e)), fun e => .inr (k5 (And'.ne (by decide) e)), fun e => .inr (k6 (And'.ne (by decide) e)), fun e => .inr (k7 (And'.ne (by decide) e))⟩
            · exact wp_of_run (run_load_num (.tmp 6) rfl (w2.heap.size) rfl _ _ _ _ _ ((k0.row ((Ext.trans Xw5.out (Ext.trans Xw8.out (Xw10.out))).row Rb1.out)))) ⟨_, _, _, _, _, _, _, _, _, _, _, _, _, _, _, rfl, put_ne (by decide) f0, put_eq rfl, put_ne (by decide) f2, put_ne (by decide) f3, put_ne (by decide) f4, put_ne (by decide) f5, put_ne (by decide) f6, put_ne (by decide) f8, k0, put_ne (by decide) k1, put_ne (by decide) k2, fun e => ⟨(k3 (And'.ne (by decide) e)).1, (k3 (And'.ne (by decide) e)).2.imp fun x0 h => h.imp fun x1 h => h.imp fun x2 h => h.imp fun x3 ⟨h1, h3⟩ => ⟨h1, fun e => h3 (And'.ne (by decide) e)⟩⟩, fun e => .inr (k4 (And'.ne (by decide) e)), fun e => .inr (k5 (And'.ne (by decide) e)), fun e => .inr (k6 (And'.ne (by decide) e)), fun e => .inr (k7 (And'.ne (by decide) e))⟩
            · obtain rfl := (f0 (he ⟨0, .data⟩ (by simp) rfl)).symm
              obtain rfl := (f1 (he ⟨1, .data⟩ (by simp) rfl)).symm
              refine wp_of_callE (run_enter2 21 (.tmp 53) (.tmp 54) _ rfl _ _ rfl rfl (ent_21)) (sub_gives (z := (0 - a)) (neg := (decide ((0 - a) < 0))) (k1 (he ⟨0, .data⟩ (by simp) rfl)) (k0.num ((Ext.trans XW1.out (Ext.trans Xw5.out (Ext.trans Xw8.out (Xw10.out)))).num Z2a.out)) rfl rfl lminus) ?_
              rintro e w' ⟨p12, n12, c12, rfl, hz, hx⟩
              refine ⟨_, rfl, ?_⟩
              exact ⟨_, _, _, _, _, _, _, _, _, _, _, _, _, _, _, rfl, put_ne (by decide) f0, put_ne (by decide) f1, put_eq rfl, fun e => absurd (k5 (And'.ne (by decide) e)) hn, fun e => absurd (k6 (And'.ne (by decide) e)) hn, put_ne (by decide) f5, put_ne (by decide) f6, put_ne (by decide) f8, Ext.trans k0 hx, fun e => Ext.num hx (k1 (And'.ne (by decide) e)), fun _ => hz, fun e => ⟨(k3 (And'.ne (by decide) e)).1, (k3 (And'.ne (by decide) e)).2.imp fun x0 h => h.imp fun x1 h => h.imp fun x2 h => h.imp fun x3 ⟨h1, h3⟩ => ⟨Ext.row hx h1, fun e => absurd (k7 (And'.ne (by decide) e)) hn⟩⟩, fun e => .inr (k4 (And'.ne (by decide) e)), fun _ => .inl rfl, fun _ => .inl rfl, fun _ => .inl rfl⟩
            · obtain rfl := (f2 (he ⟨2, .data⟩ (by simp) rfl)).symm
              exact wp_of_run (run_move (.tmp 55) rfl) ⟨_, _, _, _, _, _, _, _, _, _, _, _, _, _, _, rfl, put_ne (by decide) f0, put_ne (by decide) f1, put_ne (by decide) f2, put_eq rfl, put_ne (by decide) f4, put_ne (by decide) f5, put_ne (by decide) f6, put_ne (by decide) f8, k0, put_ne (by decide) k1, put_ne (by decide) k2, fun e => ⟨(k3 (And'.ne (by decide) e)).1, (k3 (And'.ne (by decide) e)).2.imp fun x0 h => h.imp fun x1 h => h.imp fun x2 h => h.imp fun x3 ⟨h1, h3⟩ => ⟨h1, fun e => h3 (And'.ne (by decide) e)⟩⟩, fun e => .inr (k4 (And'.ne (by decide) e)), fun _ => .inr (he ⟨2, .data⟩ (by simp) rfl), fun e => .inr (k6 (And'.ne (by decide) e)), fun e => .inr (k7 (And'.ne (by decide) e))⟩
            · obtain rfl := (f3 (he ⟨3, .data⟩ (by simp) rfl)).symm
              exact wp_of_run (run_extract (.tmp 52) 0 rfl _ rfl _ rfl) ⟨_, _, _, _, _, _, _, _, _, _, _, _, _, _, _, rfl, put_ne (by decide) f0, put_ne (by decide) f1, put_ne (by decide) f2, put_ne (by decide) f3, put_eq rfl, put_ne (by decide) f5, put_ne (by decide) f6, put_ne (by decide) f8, k0, put_ne (by decide) k1, put_ne (by decide) k2, fun e => ⟨(k3 (And'.ne (by decide) e)).1, (k3 (And'.ne (by decide) e)).2.imp fun x0 h => h.imp fun x1 h => h.imp fun x2 h => h.imp fun x3 ⟨h1, h3⟩ => ⟨h1, fun e => h3 (And'.ne (by decide) e)⟩⟩, fun e => .inr (k4 (And'.ne (by decide) e)), fun e => .inr (k5 (And'.ne (by decide) e)), fun _ => .inr (k5 (he ⟨3, .data⟩ (by simp) rfl)), fun e => .inr (k7 (And'.ne (by decide) e))⟩
            · obtain rfl := (f3 (he ⟨3, .data⟩ (by simp) rfl)).symm
              exact wp_of_run (run_extract (.tmp 52) 1 rfl _ rfl _ rfl) ⟨_, _, _, _, _, _, _, _, _, _, _, _, _, _, _, rfl, put_ne (by decide) f0, put_ne (by decide) f1, put_ne (by decide) f2, put_ne (by decide) f3, put_ne (by decide) f4, put_eq rfl, put_ne (by decide) f6, put_ne (by decide) f8, k0, put_ne (by decide) k1, put_ne (by decide) k2, fun e => ⟨(k3 (And'.ne (by decide) e)).1, (k3 (And'.ne (by decide) e)).2.imp fun x0 h => h.imp fun x1 h => h.imp fun x2 h => h.imp fun x3 ⟨h1, h3⟩ => ⟨h1, fun e => h3 (And'.ne (by decide) e)⟩⟩, fun e => .inr (k4 (And'.ne (by decide) e)), fun e => .inr (k5 (And'.ne (by decide) e)), fun e => .inr (k6 (And'.ne (by decide) e)), fun e => .inr (k7 (And'.ne (by decide) e))⟩
            · exact wp_of_run (run_alloc_num rfl) ⟨_, _, _, _, _, _, _, _, _, _, _, _, _, _, _, rfl, put_ne (by decide) f0, put_ne (by decide) f1, put_ne (by decide) f2, put_ne (by decide) f3, put_ne (by decide) f4, put_ne (by decide) f5, put_eq rfl, put_ne (by decide) f8, k0.trans (Ext.alloc _ _), fun e => (Ext.alloc _ _).num (k1 (And'.ne (by decide) e)), fun e => (Ext.alloc _ _).num (k2 (And'.ne (by decide) e)), fun _ => ⟨Below.size k0, false, none, 0, 0, RowAt.new _ _ _, fun e => absurd (k4 (And'.ne (by decide) e)) hn⟩, fun _ => .inl rfl, fun e => .inr (k5 (And'.ne (by decide) e)), fun e => .inr (k6 (And'.ne (by decide) e)), fun e => .inr (k7 (And'.ne (by decide) e))⟩
            · obtain rfl := (f6 (he ⟨6, .data⟩ (by simp) rfl)).symm
              obtain rfl := (f4 (he ⟨4, .data⟩ (by simp) rfl)).symm
              have h_al := (he ⟨6, .data⟩ (by simp) rfl)
              obtain ⟨hlo, x0, x1, x2, x3, hr, -⟩ := k3 h_al
              refine wp_store_row 26 (.tmp 13) (.tmp 56) rfl g4 (numCells (decide ((0 - a) < 0)) p12 n12 c12) rfl rfl 26 _ hr num_info rfl (numCells_one ..) ?_
              exact ⟨_, _, _, _, _, _, _, _, _, _, _, _, _, _, _, rfl, put_ne (by decide) f0, put_ne (by decide) f1, put_ne (by decide) f2, put_ne (by decide) f3, put_ne (by decide) f4, put_ne (by decide) f5, put_ne (by decide) f6, put_ne (by decide) f8, ext_setRow k0 hlo _, fun e => by rw [setRow_size]; exact (k1 (And'.ne (by decide) e)).setNum hr _, fun e => by rw [setRow_size]; exact (k2 (And'.ne (by decide) e)).setNum hr _, fun _ => ⟨hlo, _, _, _, _, hr.setRow _, fun _ => rfl⟩, fun _ => .inr (he ⟨6, .data⟩ (by simp) rfl), fun e => .inr (k5 (And'.ne (by decide) e)), fun e => .inr (k6 (And'.ne (by decide) e)), fun _ => .inr (he ⟨2, .chain⟩ (by simp) rfl)⟩
            · obtain rfl := (f5 (he ⟨5, .data⟩ (by simp) rfl)).symm
              exact wp_of_run (run_assign (.tmp 57) rfl) ⟨_, _, _, _, _, _, _, _, _, _, _, _, _, _, _, rfl, put_ne (by decide) f0, put_ne (by decide) f1, put_ne (by decide) f2, put_ne (by decide) f3, put_ne (by decide) f4, put_ne (by decide) f5, put_ne (by decide) f6, put_eq rfl, k0, put_ne (by decide) k1, put_ne (by decide) k2, fun e => ⟨(k3 (And'.ne (by decide) e)).1, (k3 (And'.ne (by decide) e)).2.imp fun x0 h => h.imp fun x1 h => h.imp fun x2 h => h.imp fun x3 ⟨h1, h3⟩ => ⟨h1, fun e => h3 (And'.ne (by decide) e)⟩⟩, fun e => .inr (k4 (And'.ne (by decide) e)), fun e => .inr (k5 (And'.ne (by decide) e)), fun e => .inr (k6 (And'.ne (by decide) e)), fun e => .inr (k7 (And'.ne (by decide) e))⟩
          case finR10_10 =>
            rintro D ac w13 hD ⟨v13, v14, v52, v53, v54, v55, v56, v57, p11, n11, c11, p12, n12, c12, g4, rfl, f0, f1, f2, f3, f4, f5, f6, f8, k0, k1, k2, k3, k4, k5, k6, k7⟩
            obtain rfl := (f0 (hD 0 (by simp))).symm
            obtain rfl := (f1 (hD 1 (by simp))).symm
            obtain rfl := (f2 (hD 2 (by simp))).symm
            obtain rfl := (f3 (hD 3 (by simp))).symm
            obtain rfl := (f4 (hD 4 (by simp))).symm
            obtain rfl := (f5 (hD 5 (by simp))).symm
            obtain rfl := (f6 (hD 6 (by simp))).symm
            obtain rfl := (f8 (hD 8 (by simp))).symm
            have Xw13 := Lib.hid k0
            have Z11 := Lib.hid (k1 (hD 0 (by simp)))
            have Z12 := Lib.hid (k2 (hD 2 (by simp)))
            have Rb4 : Hid (RowAt w13 g4 26 (numCells (decide ((0 - a) < 0)) p12 n12 c12)) := by
              obtain ⟨-, x0, x1, x2, x3, h1, h2⟩ := k3 (hD 6 (by simp))
              rw [← h2 (hD 7 (by simp))]
              exact h1
            have Bb4 := (k3 (hD 6 (by simp))).1
            clear hD f0 f1 f2 f3 f4 f5 f6 f8 k0 k1 k2 k3 k4 k5 k6 k7
            go_wp2
            refine wp_region_invG (fun D ac w' => ∃ v58 v59 v60 v61 v62 v63 v64 v65 v66 v67 v68 v69, ac = { tmps := #[(va), (.int .u8 dg), undef, undef, (.bool false), (.bool true), (.pointer (some ⟨w2.heap.size, 0, none⟩)), (.int .i64 d), (.pointer (some ⟨g2, 0, none⟩)), (.bool true), (.pointer (some ⟨g3, 0, none⟩)), (.bool true), (.string ⟨((decInt a ++ [bt])).toArray⟩), (.pointer (some ⟨g4, 0, none⟩)), (.bool true), (.bool true), (va), (.agg #[.bool (decide (b < 0)), .slice p2 n2 c2]), (.pointer (some ⟨w2.heap.size, 0, none⟩)), (.int .u8 dg), (.int .i64 dg), (.int .i64 d), (.tuple #[.agg #[.bool (decide ((a * 10) < 0)), .slice p4 n4 c4], .bool true]), (.agg #[.bool false, .slice p2 n2 c2]), (.agg #[.bool false, .slice p3 n3 c3]), (.tuple #[.agg #[.bool (decide ((a * 10) < 0)), .slice p4 n4 c4], .bool true]), (.agg #[.bool (decide ((a * 10) < 0)), .slice p4 n4 c4]), (.bool true), (.tuple #[.agg #[.bool (decide ((a * 10 + d) < 0)), .slice p7 n7 c7], .bool true]), (.agg #[.bool (decide ((a * 10) < 0)), .slice p4 n4 c4]), (.int .i64 d), (.agg #[.bool (decide (d < 0)), .slice p6 n6 c6]), (.tuple #[.agg #[.bool (decide ((a * 10 + d) < 0)), .slice p7 n7 c7], .bool true]), (.agg #[.bool (decide ((a * 10 + d) < 0)), .slice p7 n7 c7]), (.bool true), (.agg #[.bool false, .slice p2 n2 c2]), (.string ⟨(decInt a).toArray⟩), (.int .i64 d), (.int .i64 (48 + d)), (.int .u8 (bt.toNat : Int)), (.slice (some ⟨gs, 0, none⟩) 1 1), (.string ⟨([bt]).toArray⟩), (.string ⟨((decInt a ++ [bt])).toArray⟩), (.pointer (some ⟨w2.heap.size, 1, none⟩)), (.slice p2 n2 c2), (.int .i64 n2), (.bool false), undef, undef, undef, undef, undef, (.tuple #[.agg #[.bool (decide ((0 - a) < 0)), .slice p12 n12 c12], .bool true]), (.agg #[.bool false, .slice p11 n11 c11]), (.agg #[.bool false, .slice p2 n2 c2]), (.tuple #[.agg #[.bool (decide ((0 - a) < 0)), .slice p12 n12 c12], .bool true]), (.agg #[.bool (decide ((0 - a) < 0)), .slice p12 n12 c12]), (.bool true), v58, v59, v60, v61, v62, v63, v64, v65, v66, v67, v68, v69, undef, undef, undef, undef, undef, undef, undef, undef, undef, undef, undef, undef, undef, undef, undef, undef], defers := [] } ∧ (D 0 → v58 = .pointer (some ⟨w2.heap.size, 1, none⟩)) ∧ (D 1 → v59 = .slice p2 n2 c2) ∧ (D 2 → v60 = .int .i64 (n2 : Nat)) ∧ (D 3 → v61 = .bool true) ∧ (D 4 → v62 = .bool true) ∧ (D 5 → v63 = .agg #[.bool (decide ((0 - a) < 0)), .slice p12 n12 c12]) ∧ (D 6 → v64 = .string ⟨([45] ++ decInt a).toArray⟩) ∧ (D 7 → v65 = .agg #[.bool false, .slice p2 n2 c2]) ∧ (D 8 → v66 = .string ⟨(decInt a).toArray⟩) ∧ (D 9 → v67 = .string ⟨(([45] ++ decInt a)).toArray⟩) ∧ (D 10 → v68 = .bool false) ∧ (D 11 → v69 = .bool false) ∧ Ext w13 w')
              (by kernel_rfl) (by kernel_rfl) ?startR13_11 ?stepR13_11 ?finR13_11
            case startR13_11 => exact ⟨_, _, _, _, _, _, _, _, _, _, _, _, rfl, False.elim, False.elim, False.elim, False.elim, False.elim, False.elim, False.elim, False.elim, False.elim, False.elim, False.elim, False.elim, Ext.drew _⟩
            case stepR13_11 =>
              rintro i o D ac wz hio hn he ⟨v58, v59, v60, v61, v62, v63, v64, v65, v66, v67, v68, v69, rfl, f0, f1, f2, f3, f4, f5, f6, f7, f8, f9, f10, f11, k0⟩
              rcases i with _ | _ | _ | _ | _ | _ | _ | _ | _ | _ | _ | _ | i
              rotate_left 12
              · exact absurd hio (by simp)
              all_goals (obtain rfl := Option.some.inj (hio.symm.trans (by rfl)))
              · refine step_yes (wanted_of_none rfl _) ?_
                exact wp_of_run (run_field1 (.tmp 6) rfl (w2.heap.size) rfl) ⟨_, _, _, _, _, _, _, _, _, _, _, _, rfl, put_eq rfl, put_ne (by decide) f1, put_ne (by decide) f2, put_ne (by decide) f3, put_ne (by decide) f4, put_ne (by decide) f5, put_ne (by decide) f6, put_ne (by decide) f7, put_ne (by decide) f8, put_ne (by decide) f9, put_ne (by decide) f10, put_ne (by decide) f11, k0⟩
              · obtain rfl := (f0 (he ⟨0, .data⟩ (by simp) rfl)).symm
                refine step_yes (wanted_of_none rfl _) ?_
                exact wp_of_run (run_load_slice_at (.tmp 58) rfl _ rfl p2 n2 c2 (((k0.row ((Ext.trans Xw5.out (Ext.trans Xw8.out (Ext.trans Xw10.out (Xw13.out)))).row Rb1.out))).cell 1)) ⟨_, _, _, _, _, _, _, _, _, _, _, _, rfl, put_ne (by decide) f0, put_eq rfl, put_ne (by decide) f2, put_ne (by decide) f3, put_ne (by decide) f4, put_ne (by decide) f5, put_ne (by decide) f6, put_ne (by decide) f7, put_ne (by decide) f8, put_ne (by decide) f9, put_ne (by decide) f10, put_ne (by decide) f11, k0⟩
              · obtain rfl := (f1 (he ⟨1, .data⟩ (by simp) rfl)).symm
                refine step_yes (wanted_of_none rfl _) ?_
                exact wp_of_run (run_len (.tmp 59) _ rfl rfl _ _ _ rfl) ⟨_, _, _, _, _, _, _, _, _, _, _, _, rfl, put_ne (by decide) f0, put_ne (by decide) f1, put_eq rfl, put_ne (by decide) f3, put_ne (by decide) f4, put_ne (by decide) f5, put_ne (by decide) f6, put_ne (by decide) f7, put_ne (by decide) f8, put_ne (by decide) f9, put_ne (by decide) f10, put_ne (by decide) f11, k0⟩
              · obtain rfl := (f2 (he ⟨2, .data⟩ (by simp) rfl)).symm
                refine step_yes (wanted_of_none rfl _) ?_
                exact wp_of_run (run_gtr_true (.tmp 60) (.const (.int .i64 0)) rfl _ _ rfl rfl hnp) ⟨_, _, _, _, _, _, _, _, _, _, _, _, rfl, put_ne (by decide) f0, put_ne (by decide) f1, put_ne (by decide) f2, put_eq rfl, put_ne (by decide) f4, put_ne (by decide) f5, put_ne (by decide) f6, put_ne (by decide) f7, put_ne (by decide) f8, put_ne (by decide) f9, put_ne (by decide) f10, put_ne (by decide) f11, k0⟩
              · obtain rfl := (f3 (he ⟨3, .data⟩ (by simp) rfl)).symm
                refine step_yes (wanted_of_none rfl _) ?_
                exact wp_of_run (run_move (.tmp 61) rfl) ⟨_, _, _, _, _, _, _, _, _, _, _, _, rfl, put_ne (by decide) f0, put_ne (by decide) f1, put_ne (by decide) f2, put_ne (by decide) f3, put_eq rfl, put_ne (by decide) f5, put_ne (by decide) f6, put_ne (by decide) f7, put_ne (by decide) f8, put_ne (by decide) f9, put_ne (by decide) f10, put_ne (by decide) f11, k0⟩
              · obtain rfl := (f4 (he ⟨4, .guard⟩ (by simp) rfl)).symm
                refine step_yes rfl ?_
                exact wp_of_run (run_load_num (.tmp 13) rfl (g4) rfl _ _ _ _ _ ((k0.row ((Ext.refl w13).row Rb4.out)))) ⟨_, _, _, _, _, _, _, _, _, _, _, _, rfl, put_ne (by decide) f0, put_ne (by decide) f1, put_ne (by decide) f2, put_ne (by decide) f3, put_ne (by decide) f4, put_eq rfl, put_ne (by decide) f6, put_ne (by decide) f7, put_ne (by decide) f8, put_ne (by decide) f9, put_ne (by decide) f10, put_ne (by decide) f11, k0⟩
              · obtain rfl := (f5 (he ⟨5, .data⟩ (by simp) rfl)).symm
                obtain rfl := (f4 (he ⟨4, .chain⟩ (by simp) rfl)).symm
                refine step_yes rfl ?_
                refine wp_of_callE (run_enter1 16 (.tmp 63) _ rfl _ rfl (ent_16)) (text_as hminus (text_calls _ ((0 - a)) wz (k0.num ((Ext.refl w13).num Z12.out)) (((Ext.trans Xw1.out (Ext.trans Xw2.out (Ext.trans XW1.out (Ext.trans Xw5.out (Ext.trans Xw8.out (Ext.trans Xw10.out (Xw13.out))))))).trans k0).tab ht))) ?_
                rintro e w' ⟨rfl, hx⟩
                refine ⟨_, rfl, ?_⟩
                exact ⟨_, _, _, _, _, _, _, _, _, _, _, _, rfl, put_ne (by decide) f0, put_ne (by decide) f1, put_ne (by decide) f2, put_ne (by decide) f3, put_ne (by decide) f4, put_ne (by decide) f5, put_eq rfl, put_ne (by decide) f7, put_ne (by decide) f8, put_ne (by decide) f9, put_ne (by decide) f10, put_ne (by decide) f11, Ext.trans k0 hx⟩
              · obtain rfl := (f4 (he ⟨4, .guard⟩ (by simp) rfl)).symm
                refine step_yes rfl ?_
                exact wp_of_run (run_load_num (.tmp 6) rfl (w2.heap.size) rfl _ _ _ _ _ ((k0.row ((Ext.trans Xw5.out (Ext.trans Xw8.out (Ext.trans Xw10.out (Xw13.out)))).row Rb1.out)))) ⟨_, _, _, _, _, _, _, _, _, _, _, _, rfl, put_ne (by decide) f0, put_ne (by decide) f1, put_ne (by decide) f2, put_ne (by decide) f3, put_ne (by decide) f4, put_ne (by decide) f5, put_ne (by decide) f6, put_eq rfl, put_ne (by decide) f8, put_ne (by decide) f9, put_ne (by decide) f10, put_ne (by decide) f11, k0⟩
              · obtain rfl := (f7 (he ⟨7, .data⟩ (by simp) rfl)).symm
                obtain rfl := (f4 (he ⟨4, .guard⟩ (by simp) rfl)).symm
                refine step_yes rfl ?_
                refine wp_of_callE (run_enter1 16 (.tmp 65) _ rfl _ rfl (ent_16)) (text_as rfl (text_calls _ a wz (k0.num ((Ext.trans XW1.out (Ext.trans Xw5.out (Ext.trans Xw8.out (Ext.trans Xw10.out (Xw13.out))))).num Z2a.out)) (((Ext.trans Xw1.out (Ext.trans Xw2.out (Ext.trans XW1.out (Ext.trans Xw5.out (Ext.trans Xw8.out (Ext.trans Xw10.out (Xw13.out))))))).trans k0).tab ht))) ?_
                rintro e w' ⟨rfl, hx⟩
                refine ⟨_, rfl, ?_⟩
                exact ⟨_, _, _, _, _, _, _, _, _, _, _, _, rfl, put_ne (by decide) f0, put_ne (by decide) f1, put_ne (by decide) f2, put_ne (by decide) f3, put_ne (by decide) f4, put_ne (by decide) f5, put_ne (by decide) f6, put_ne (by decide) f7, put_eq rfl, put_ne (by decide) f9, put_ne (by decide) f10, put_ne (by decide) f11, Ext.trans k0 hx⟩
              · obtain rfl := (f8 (he ⟨8, .data⟩ (by simp) rfl)).symm
                obtain rfl := (f4 (he ⟨4, .guard⟩ (by simp) rfl)).symm
                refine step_yes rfl ?_
                exact wp_of_run (run_add_str (.const (.string ⟨#[45]⟩)) (.tmp 66) rfl rfl _ _ rfl rfl (by simp) hl1) ⟨_, _, _, _, _, _, _, _, _, _, _, _, rfl, put_ne (by decide) f0, put_ne (by decide) f1, put_ne (by decide) f2, put_ne (by decide) f3, put_ne (by decide) f4, put_ne (by decide) f5, put_ne (by decide) f6, put_ne (by decide) f7, put_ne (by decide) f8, put_eq rfl, put_ne (by decide) f10, put_ne (by decide) f11, k0⟩
              · obtain rfl := (f6 (he ⟨6, .data⟩ (by simp) rfl)).symm
                obtain rfl := (f9 (he ⟨9, .data⟩ (by simp) rfl)).symm
                obtain rfl := (f4 (he ⟨4, .guard⟩ (by simp) rfl)).symm
                refine step_yes rfl ?_
                exact wp_of_run (run_neq_same (.tmp 64) (.tmp 67) rfl _ rfl rfl) ⟨_, _, _, _, _, _, _, _, _, _, _, _, rfl, put_ne (by decide) f0, put_ne (by decide) f1, put_ne (by decide) f2, put_ne (by decide) f3, put_ne (by decide) f4, put_ne (by decide) f5, put_ne (by decide) f6, put_ne (by decide) f7, put_ne (by decide) f8, put_ne (by decide) f9, put_eq rfl, put_ne (by decide) f11, k0⟩
              · obtain rfl := (f4 (he ⟨4, .data⟩ (by simp) rfl)).symm
                obtain rfl := (f10 (he ⟨10, .data⟩ (by simp) rfl)).symm
                refine step_yes (wanted_of_none rfl _) ?_
                exact wp_of_run (run_pick_t (.tmp 62) (.tmp 68) (.const (.bool false)) rfl rfl) ⟨_, _, _, _, _, _, _, _, _, _, _, _, rfl, put_ne (by decide) f0, put_ne (by decide) f1, put_ne (by decide) f2, put_ne (by decide) f3, put_ne (by decide) f4, put_ne (by decide) f5, put_ne (by decide) f6, put_ne (by decide) f7, put_ne (by decide) f8, put_ne (by decide) f9, put_ne (by decide) f10, put_eq rfl, k0⟩
            case finR13_11 =>
              rintro D ac w16 hD ⟨v58, v59, v60, v61, v62, v63, v64, v65, v66, v67, v68, v69, rfl, f0, f1, f2, f3, f4, f5, f6, f7, f8, f9, f10, f11, k0⟩
              obtain rfl := (f0 (hD 0 (by simp))).symm
              obtain rfl := (f1 (hD 1 (by simp))).symm
              obtain rfl := (f2 (hD 2 (by simp))).symm
              obtain rfl := (f3 (hD 3 (by simp))).symm
              obtain rfl := (f4 (hD 4 (by simp))).symm
              obtain rfl := (f5 (hD 5 (by simp))).symm
              obtain rfl := (f6 (hD 6 (by simp))).symm
              obtain rfl := (f7 (hD 7 (by simp))).symm
              obtain rfl := (f8 (hD 8 (by simp))).symm
              obtain rfl := (f9 (hD 9 (by simp))).symm
              obtain rfl := (f10 (hD 10 (by simp))).symm
              obtain rfl := (f11 (hD 11 (by simp))).symm
              have Xw16 := Lib.hid k0
              clear hD f0 f1 f2 f3 f4 f5 f6 f7 f8 f9 f10 f11 k0
              have hb3_0_16 : w16.cell? ⟨g3, 0, none⟩ = some (.bool (decide ((a * 10 + d) < 0))) := ((Ext.trans Xw10.out (Ext.trans Xw13.out (Xw16.out))).row Rb3.out).cell 0
              have hb3_1_16 : w16.cell? ⟨g3, 1, none⟩ = some (.slice p7 n7 c7) := ((Ext.trans Xw10.out (Ext.trans Xw13.out (Xw16.out))).row Rb3.out).cell 1
              go_wp2_with fail
              refine (text_as hnext (text_calls _ ((a * 10 + d)) w16 ((Ext.trans Xw10.out (Ext.trans Xw13.out (Xw16.out))).num Z7.out) ((Ext.trans Xw1.out (Ext.trans Xw2.out (Ext.trans XW1.out (Ext.trans Xw5.out (Ext.trans Xw8.out (Ext.trans Xw10.out (Ext.trans Xw13.out (Xw16.out)))))))).tab ht))).mono ?_
              rintro e w17 ⟨rfl, hx⟩
              have Xw17 := Lib.hid hx
              clear hx 
              go_wp2
              go_ret
              exact ⟨rfl, (Ext.trans Xw1.out (Ext.trans Xw2.out (Ext.trans XW1.out (Ext.trans Xw5.out (Ext.trans Xw8.out (Ext.trans Xw10.out (Ext.trans Xw13.out (Ext.trans Xw16.out (Xw17.out)))))))))⟩

end Go.Proofs.YtcmpgboifcemmaaDoor
