/- Texts that belong together. -/
import Derived.Test.YtegjcikofmphjaaGreatDoorQNumEarly
set_option linter.all false
/- Layer 1: Text. (Written with genreg.py and gen_text.py.) -/
namespace Go.Proofs.YtegjcikofmphjaaGreatDoor
open Go Go.RowKit Go.Shelf
attribute [local go_sem] Oper.semAt_some
structure TxSt (X n : Nat) (V : List Nat) (t : List UInt8) : Prop where
  d : Digits V
  l : V.length = 65
  n64 : n ≤ 65
  z : ∀ j, n ≤ j → V[j]?.getD 0 = 0
  top : 0 < n → V[n - 1]?.getD 0 ≠ 0
  text : (0 < n ∧ ∃ g r, X = val V * 10 ^ (9 * g) + r ∧ r < 10 ^ (9 * g) ∧ t = padTo (9 * g) r) ∨ (n = 0 ∧ t = Lib.decDigits X)
theorem TxSt.start {xs : List Nat} (hx : Norm xs) (h1 : xs.length ≤ 64) (h0 : xs ≠ []) : TxSt (val xs) xs.length (xs ++ (List.replicate 65 0).drop xs.length) [] := by
  have hp : 0 < xs.length := List.length_pos_iff.2 h0
  refine ⟨hx.1.append ((digits_replicate 65).drop _), by simp; omega, by omega, fun j hj => ?_, fun _ => ?_, .inl ⟨hp, 0, 0, ?_, by decide, rfl⟩⟩
  · rw [List.getElem?_append_right hj, List.drop_replicate, List.getElem?_replicate]
    split <;> rfl
  · rw [List.getElem?_append_left (by omega)]
    exact (noZero_last hp).1 hx.2
  · rw [val_append, List.drop_replicate, val_zeros]; simp
theorem TxSt.next {X n : Nat} {V Z : List Nat} {t : List UInt8} (h : TxSt X n V t) (h0 : 0 < n) (hd : Digits Z) (hl : Z.length = 65) (hv : val Z = val V / 1000000000) :
    val Z < val V ∧ val V % 1000000000 < 1000000000 ∧ Lib.nDigits (val V % 1000000000) ≤ 9 ∧
    (0 < (strip (Z.take n)).length → TxSt X (strip (Z.take n)).length Z (List.replicate (9 - Lib.nDigits (val V % 1000000000)) 48 ++ Lib.decDigits (val V % 1000000000) ++ t)) ∧
    ((strip (Z.take n)).length = 0 → TxSt X (strip (Z.take n)).length Z (Lib.decDigits (val V % 1000000000) ++ t)) := by
  have hp := val_pos_of_digit (h.top h0)
  have hVn := lt_of_zero h.d (by have := h.l; have := h.n64; omega) h.z
  have hle : val Z < val V := by rw [hv]; exact Nat.div_lt_self hp (by decide)
  have hr : val V % 1000000000 < 1000000000 := Nat.mod_lt _ (by decide)
  have hpad := pad_dec 9 (r := val V % 1000000000) (by decide) hr
  have hc := cd_next (R := Z) (n := n) hl h.n64 (Nat.lt_trans hle hVn)
  have hm := Nat.div_add_mod (val V) 1000000000
  obtain ⟨-, g, r, hX, hrl, ht⟩ := h.text.resolve_right (fun e => by omega)
  refine ⟨hle, hr, hpad.2, fun h1 => ?_, fun h1 => ?_⟩
  · refine ⟨hd, hl, Nat.le_trans hc.1 h.n64, hc.2.1, hc.2.2, .inl ⟨h1, g + 1, val V % 1000000000 * 10 ^ (9 * g) + r, ?_, ?_, ?_⟩⟩
    · rw [hv, hX, Nat.mul_add 9, Nat.pow_add, Nat.mul_comm (10 ^ (9 * g)), ← Nat.mul_assoc, ← Nat.add_assoc, ← Nat.add_mul]
      congr 2
      omega
    · rw [Nat.mul_add 9, Nat.pow_add, Nat.mul_comm (10 ^ (9 * g))]
      calc val V % 1000000000 * 10 ^ (9 * g) + r < (val V % 1000000000 + 1) * 10 ^ (9 * g) := by rw [Nat.add_mul]; omega
        _ ≤ 10 ^ (9 * 1) * 10 ^ (9 * g) := Nat.mul_le_mul_right _ hr
    · rw [show 9 * (g + 1) = 9 + 9 * g by omega, pad_add _ _ hrl, hpad.1, ht]
  · have hz : val Z = 0 := by
      have := val_take_of_zero (ds := Z) (n := 0) (fun j _ => hc.2.1 j (by omega))
      rw [← this]; simp [val]
    have hVs : val V % 1000000000 = val V := by rw [hz] at hv; omega
    refine ⟨hd, hl, Nat.le_trans hc.1 h.n64, hc.2.1, hc.2.2, .inr ⟨h1, ?_⟩⟩
    rw [hVs, ht, hX, dec_pad _ hp hrl]
theorem padTo_length (k r : Nat) : (padTo k r).length = k := by
  induction k generalizing r with
  | zero => rfl
  | succ k ih => rw [padTo, List.length_append, ih]; rfl
def tl : Nat := 10 * 64
theorem tl_eq : tl = 640 := rfl
theorem pow_pow (a b c d : Nat) (h : d = b * c) : a ^ d = (a ^ b) ^ c := by rw [h, Nat.pow_mul]
theorem pow_bound : B32 ^ 64 ≤ 10 ^ tl := by
  rw [pow_pow 10 10 64 tl rfl]
  exact Nat.pow_le_pow_left (by decide) 64
theorem TxSt.len {X n : Nat} {V : List Nat} {t : List UInt8} (h : TxSt X n V t) (hX : X < B32 ^ 64) : t.length ≤ 640 := by
  have hb := pow_bound
  rcases h.text with ⟨h0, g, r, e, hr, rfl⟩ | ⟨-, rfl⟩
  · rw [padTo_length]
    have hp := val_pos_of_digit (h.top h0)
    have h1 : 10 ^ (9 * g) ≤ val V * 10 ^ (9 * g) := Nat.le_mul_of_pos_left _ hp
    have h2 : 10 ^ (9 * g) < 10 ^ tl := by omega
    rw [← tl_eq]
    exact Nat.le_of_lt ((Nat.pow_lt_pow_iff_right (by decide)).1 h2)
  · rw [Lib.decDigits_length]
    rw [← tl_eq]
    exact (pad_dec tl (by decide) (by omega)).2
set_option maxRecDepth 100000 in
set_option maxHeartbeats 4000000 in
theorem text_calls (v : Value) (z : Int) (w : World) (hv : ZNum w.heap.size w v z) (ht : Tab w) :
    Calls Tryz.prog 51 #[v] w fun e w' => e = .returned (.string ⟨(decInt z).toArray⟩) ∧ Below w.heap.size w w' := by
  obtain ⟨p, c, rfl⟩ := hv.parts
  generalize hna : decide (z < 0) = na at *
  generalize hn : (digs z.natAbs).length = n at *
  obtain ⟨W1, hW1⟩ : ∃ W1, W1 = w.alloc (.cells #[.bool na, .slice p n c] 25) := ⟨_, rfl⟩
  have HB1 : Hid (Below w.heap.size w W1) := by rw [hW1]; exact (Below.refl _ w).alloc (Nat.le_refl _) _
  have Hz1 : Hid (W1.heap.size = w.heap.size + 1) := by show W1.heap.size = _; rw [hW1]; simp
  have Hr1 : Hid (RowAt W1 w.heap.size 25 (numCells na p n c)) := by rw [hW1]; exact RowAt.new w _ _
  have HV := Lib.hid ((hv.below HB1.out).mono (by rw [Hz1.out]; omega : w.heap.size ≤ W1.heap.size))
  have Hua : Hid (U32s w.heap.size w (.slice p n c) (digs z.natAbs)) := znum_slice hv
  have Hlim := Lib.hid hv.2
  have HW1 := Lib.hid hW1
  have Hna := Lib.hid hna
  have Hn := Lib.hid hn
  have Ht := Lib.hid ht
  clear hW1 hv hna hn ht
  go_enter Tryz.func51, Tryz.ntmps51
  go_wp2_with fail
  rw [← HW1.out]
  refine (right_calls_z _ z W1 HV.out).mono ?_
  rintro e w2 ⟨rfl, hb2⟩
  have Hr2 := Lib.hid (Hr1.out.below hb2 Hr1.out.lt)
  have HB2 := Lib.hid (HB1.out.trans (hb2.mono HB1.out.size))
  have hz2 : w.heap.size + 1 ≤ w2.heap.size := by rw [← Hz1.out]; exact hb2.size
  have h20 := Hr2.out.num0
  have h21 := Hr2.out.num1
  clear hb2
  by_cases hn0 : n = 0
  · subst hn0
    obtain rfl : z = 0 := by have := Hn.out; rw [List.length_eq_zero_iff, digs_nil_iff] at this; omega
    have h0 : decInt 0 = [48] := by
      show Lib.decDigits 0 = _
      rw [Lib.decDigits_one (by decide)]; rfl
    go_wp2
    go_ret
    exact ⟨by rw [h0]; rfl, HB2.out⟩
  · have hn1 : ((n : Int) == 0) = false := by simp; omega
    have hn64 : n ≤ 64 := by rw [← Hn.out]; exact digs_len64 Hlim.out
    go_wp2
    obtain ⟨W3, hW3⟩ : ∃ W3, W3 = w2.alloc (.cells Tryz.zeroCells89 89) := ⟨_, rfl⟩
    rw [← hW3]
    have HB3 : Hid (Below w.heap.size w W3) := by rw [hW3]; exact HB2.out.alloc (by omega) _
    have Hr3 : Hid (RowAt W3 w2.heap.size 89 (arr (List.replicate 65 0))) := by rw [hW3, ← zero_row]; exact RowAt.new w2 _ _
    have Hn3 : Hid (RowAt W3 w.heap.size 25 (numCells na p n c)) := by rw [hW3]; exact Hr2.out.alloc _
    have Hu3 := Lib.hid (Hua.out.below HB3.out)
    have Hstart := Lib.hid (TxSt.start (norm_digs z.natAbs) (digs_len64 Hlim.out) (fun e => hn0 (by rw [← Hn.out, e]; rfl)))
    clear hW3 h20 h21
    refine wp_region_inv (fun D a w' => ∃ v4 v14 v15 v16 v17, a = { tmps := #[(.agg #[.bool na, .slice p n c]), (.pointer (some ⟨w.heap.size, 0, none⟩)), (.string { data := #[] }), (.pointer (some ⟨w2.heap.size, 0, none⟩)), v4, undef, undef, (.agg #[.bool na, .slice p n c]), (.bool true), (.bool false), (.pointer (some ⟨w.heap.size, 1, none⟩)), (.slice p n c), (.int .i64 (n : Nat)), (.bool false), v14, v15, v16, v17, undef, undef, undef, undef, undef, undef, undef, undef, undef, undef, undef, undef, undef, undef, undef, undef, undef, undef, undef, undef, undef, undef, undef, undef, undef, undef], defers := [] } ∧ (D 0 → v14 = .slice (some ⟨w2.heap.size, 0, none⟩) 65 65) ∧ (D 1 → v15 = .pointer (some ⟨w.heap.size, 1, none⟩)) ∧ (D 2 → v16 = .slice p n c) ∧ (D 3 → v17 = .int .i64 (n : Nat)) ∧ (D 4 → v4 = .int .i64 (n : Nat)) ∧ (D 3 → D 2) ∧ (¬ D 3 → w' = W3.drew) ∧ (D 3 → RowAt w' w2.heap.size 89 (arr (digs z.natAbs ++ (List.replicate 65 0).drop (digs z.natAbs).length)) ∧ Turned w2.heap.size W3 w'))
      (by kernel_rfl) (by kernel_rfl) ?startA ?stepA ?finA
    case startA => exact ⟨undef, undef, undef, undef, undef, rfl, False.elim, False.elim, False.elim, False.elim, False.elim, False.elim, fun _ => rfl, False.elim⟩
    case stepA =>
      rintro i o D a w1 hio hn he ⟨v4, v14, v15, v16, v17, rfl, f0, f1, f2, f3, f4, k0, k1, k2⟩
      rcases i with _ | _ | _ | _ | _ | i
      rotate_left 5
      · exact absurd hio (by simp)
      all_goals (obtain rfl := Option.some.inj (hio.symm.trans (by rfl)))
      · exact wp_of_run (run_slice0 (.tmp 3) rfl w2.heap.size rfl) ⟨_, _, _, _, _, rfl, put_eq rfl, put_ne (by decide) f1, put_ne (by decide) f2, put_ne (by decide) f3, put_ne (by decide) f4, fun e => .inr (k0 (And'.ne (by decide) e)), fun h => k1 fun h' => h (.inr h'), put_ne (by decide) k2⟩
      · exact wp_of_run (run_field1 (.tmp 1) rfl w.heap.size rfl) ⟨_, _, _, _, _, rfl, put_ne (by decide) f0, put_eq rfl, put_ne (by decide) f2, put_ne (by decide) f3, put_ne (by decide) f4, fun e => .inr (k0 (And'.ne (by decide) e)), fun h => k1 fun h' => h (.inr h'), put_ne (by decide) k2⟩
      · obtain rfl := (k1 fun h => hn (k0 h)).symm
        obtain rfl := (f1 (he ⟨1, .data⟩ (by simp) rfl)).symm
        exact wp_of_run (run_load_slice_at (.tmp 15) rfl _ rfl p n c Hn3.out.drew.num1) ⟨_, _, _, _, _, rfl, put_ne (by decide) f0, put_ne (by decide) f1, put_eq rfl, put_ne (by decide) f3, put_ne (by decide) f4, fun _ => .inl rfl, fun _ => rfl, put_ne (by decide) k2⟩
      · obtain rfl := (k1 hn).symm
        obtain rfl := (f0 (he ⟨0, .data⟩ (by simp) rfl)).symm
        obtain rfl := (f2 (he ⟨2, .data⟩ (by simp) rfl)).symm
        have hl := Hn.out
        refine wp_copy_digits (.tmp 14) (.tmp 16) rfl w2.heap.size w.heap.size (.slice p n c) (digs z.natAbs) _ 89 rfl rfl Hu3.out Hr3.out.drew (by simp) (by omega) fun w5 hr5 ht5 => ?_
        exact ⟨_, _, _, _, _, rfl, put_ne (by decide) f0, put_ne (by decide) f1, put_ne (by decide) f2, put_eq (by rw [Hn.out]), put_ne (by decide) f4, fun _ => .inr (he ⟨2, .data⟩ (by simp) rfl), fun h => absurd (.inl rfl) h, fun _ => ⟨hr5, ht5.size, ht5.os, ht5.tape, ht5.output, ht5.block⟩⟩
      · obtain rfl := (f3 (he ⟨3, .data⟩ (by simp) rfl)).symm
        exact wp_of_run (run_assign (.tmp 17) rfl) ⟨_, _, _, _, _, rfl, put_ne (by decide) f0, put_ne (by decide) f1, put_ne (by decide) f2, put_ne (by decide) f3, put_eq rfl, fun e => .inr (k0 (And'.ne (by decide) e)), fun h => k1 fun h' => h (.inr h'), put_ne (by decide) k2⟩
    case finA =>
      rintro D a w1 hD ⟨v4, v14, v15, v16, v17, rfl, f0, f1, f2, f3, f4, k0, k1, k2⟩
      obtain rfl := (f4 (hD 4 (by simp))).symm
      obtain ⟨hr5, ht5⟩ := k2 (hD 3 (by simp))
      clear f0 f1 f2 f3 f4 k0 k1 k2 hD
      have HB5 : Hid (Below w.heap.size w w1) := ⟨ht5.os.trans HB3.out.os, ht5.tape.trans HB3.out.tape, ht5.output.trans HB3.out.output, by rw [ht5.size]; exact HB3.out.size, fun k hk => (ht5.block k (by omega)).trans (HB3.out.block k hk)⟩
      have Hn5 := Lib.hid ((ht5.block _ (by omega)).trans Hn3.out)
      have Hr5 := Lib.hid hr5
      clear hr5 ht5 hn0
      go_wp2
      go_loopw [4, 5] (fun c5 s5 wr => ∃ (m : Nat) (V : List Nat) (t : List UInt8), c5 = .int .i64 (m : Nat) ∧ s5 = .string ⟨t.toArray⟩ ∧ TxSt z.natAbs m V t ∧ RowAt wr w.heap.size 25 (numCells na p n c) ∧ RowAt wr w2.heap.size 89 (arr V) ∧ Below w.heap.size w wr)
        (fun _ _ wr => rowVal w2.heap.size wr)
      case atStart => exact ⟨n, _, [], rfl, rfl, by have h := Hstart.out; rw [Hn.out, val_digs] at h; rw [Hn.out]; exact h, Hn5.out, Hr5.out, HB5.out⟩
      case round =>
        obtain ⟨m, V, t, rfl, rfl, hst, hn6, hr6, hB6⟩ := hrel
        have Hst := Lib.hid hst
        have Hn6 := Lib.hid hn6
        have Hr6 := Lib.hid hr6
        have HB6 := Lib.hid hB6
        have h60 := hn6.num0
        have Hneg : Hid (decInt z = if na = true then 45 :: Lib.decDigits z.natAbs else Lib.decDigits z.natAbs) := by rw [← Hna.out]; simp [decInt, Hid]
        by_cases hm0 : m = 0
        · subst hm0
          have hlen0 := hst.len Hlim.out
          have hlen1 : ¬ 9223372036854775807 < 1 + t.length := by omega
          have Hdec : Hid (t = Lib.decDigits z.natAbs) := by
            rcases hst.text with ⟨h, -⟩ | ⟨-, h⟩
            · omega
            · exact h
          clear hst hn6 hr6 hB6
          cases na with
          | true =>
            go_wp2
            go_ret
            exact ⟨by rw [Hneg.out, ← Hdec.out]; rfl, HB6.out⟩
          | false =>
            go_wp2
            go_ret
            exact ⟨by rw [Hneg.out, ← Hdec.out]; rfl, HB6.out⟩
        · have hm1 : (0 : Int) < (m : Int) := by omega
          have hm65 : (m : Int) ≤ 65 := by have := hst.n64; omega
          have Hcut := Lib.hid (cut_calls w2.heap.size m 1000000000 V wr hr6 hst.d hst.l hst.n64 hst.z (by decide) (by decide))
          have hlen0 := hst.len Hlim.out
          have Hm0 := Lib.hid (Nat.pos_of_ne_zero hm0)
          have h2lt := hr6.lt
          clear hst hn6 hr6 hB6 h60
          go_wp2_with fail
          refine Hcut.out.mono ?_
          rintro e w7 ⟨rfl, ⟨Z, hZ, hdZ, hlZ, -, hvZ⟩, hk⟩
          obtain ⟨hlt, hr9, hnd, hyes, hno⟩ := Hst.out.next Hm0.out hdZ hlZ hvZ
          have hb7 : Below w.heap.size w w7 := ⟨hk.os.trans HB6.out.os, hk.tape.trans HB6.out.tape, hk.output.trans HB6.out.output, Nat.le_trans HB6.out.size hk.size, fun k hk' => (hk.block k (by have := HB6.out.size; omega) (by omega)).trans (HB6.out.block k hk')⟩
          have Hn7 : Hid (RowAt w7 w.heap.size 25 (numCells na p n c)) := hk.row Hn6.out Hn6.out.lt (by omega)
          have Hlt : Hid (rowVal w2.heap.size w7 < rowVal w2.heap.size wr) := by show _ < _; rw [rowVal_at hZ, rowVal_at Hr6.out]; exact hlt
          have Hds := Lib.hid (Lib.decDigits_length (val V % 1000000000))
          have HI := Lib.hid (itoa_calls (val V % 1000000000) hr9 w7 (Ht.out.below hb7))
          have Hyes := Lib.hid hyes
          have Hno := Lib.hid hno
          have hnd2 : (Lib.decDigits (val V % 1000000000)).length ≤ 9 := by rw [Lib.decDigits_length]; exact hnd
          have Hcnt : Hid (9 - Lib.nDigits (val V % 1000000000) = 9 - (Lib.decDigits (val V % 1000000000)).length) := by show _ = _; rw [Lib.decDigits_length]
          generalize Lib.decDigits (val V % 1000000000) = ds at *
          generalize val V % 1000000000 = r at *
          have hm2 := cd_next (R := Z) (n := m) hlZ (by have := Hst.out.n64; omega) (by rw [hvZ]; exact Nat.lt_of_le_of_lt (Nat.div_le_self _ _) (lt_of_zero Hst.out.d (by have := Hst.out.l; have := Hst.out.n64; omega) Hst.out.z))
          have hm2le : (strip (Z.take m)).length ≤ 65 := Nat.le_trans hm2.1 Hst.out.n64
          have Hlen : Hid (∀ W, Below w7.heap.size w7 W → Calls Tryz.prog 79 #[.slice (some ⟨w2.heap.size, 0, none⟩) m 65] W fun e w' => e = .returned (.int .i64 ((strip (Z.take m)).length : Nat)) ∧ Below W.heap.size W w') := fun W hb =>
            length_calls _ _ W (u32s_row (L := m) (cap := 65) (hZ.below hb hZ.lt) (Nat.lt_of_lt_of_le hZ.lt hb.size) (by rw [hlZ]; omega) (by rw [hlZ]; decide))
          generalize (strip (Z.take m)).length = m2 at *
          have Hb7 := Lib.hid hb7
          have HZ := Lib.hid hZ
          have hcv : IntKind.i64.wrap (r : Int) = r := by rw [IntKind.wrap_i64]; omega
          clear hk hZ hdZ hlZ hvZ hlt hyes hno hnd hb7 hm2 Hcut
          go_wp2_with fail
          refine HI.out.mono ?_
          rintro e w8 ⟨rfl, hb8⟩
          have Hb8 := Lib.hid hb8
          have HL8 := Lib.hid (Hlen.out w8 hb8)
          clear hb8
          go_wp2_with fail
          refine HL8.out.mono ?_
          rintro e w9 ⟨rfl, hb9⟩
          have Hb9 := Lib.hid (Hb8.out.trans (hb9.mono Hb8.out.size))
          clear hb9
          by_cases h20 : m2 = 0
          · subst h20
            have hsz : ¬ 9223372036854775807 < ds.length + t.length := by omega
            go_wp2
            go_roundw
            case rel => exact ⟨0, Z, ds ++ t, rfl, by rw [bytes_append], Hno.out trivial, Hn7.out.below Hb9.out Hn7.out.lt, HZ.out.below Hb9.out HZ.out.lt, Hb7.out.trans (Hb9.out.mono Hb7.out.size)⟩
            case measure => rw [rowVal_at (HZ.out.below Hb9.out HZ.out.lt), ← rowVal_at HZ.out]; exact Hlt.out
          · have h21 : (0 : Int) < (m2 : Int) := by omega
            obtain ⟨k, hk⟩ : ∃ k, k = 9 - ds.length := ⟨_, rfl⟩
            have hkI : (9 : Int) - (ds.length : Int) = (k : Int) := by omega
            have hkw : IntKind.i64.wrap (k : Int) = k := by rw [IntKind.wrap_i64]; omega
            have HR := Lib.hid (repeat_calls k (by omega) w9)
            obtain ⟨rs, hrs⟩ : ∃ rs, rs = List.replicate k (48 : UInt8) := ⟨_, rfl⟩
            have hrl : rs.length = k := by rw [hrs]; simp
            rw [← hrs] at HR
            have Hk := Lib.hid hk
            have Hrs := Lib.hid hrs
            have hsz1 : ¬ 9223372036854775807 < rs.length + ds.length := by omega
            have hsz2 : ¬ 9223372036854775807 < rs.length + ds.length + t.length := by omega
            have Hrl := Lib.hid hrl
            clear hk hrs hrl
            go_wp2_with fail
            refine HR.out.mono ?_
            rintro e w10 ⟨rfl, hb10⟩
            have Hb10 := Lib.hid (Hb9.out.trans (hb10.mono Hb9.out.size))
            clear hb10
            go_wp2
            go_roundw
            case rel => exact ⟨m2, Z, rs ++ ds ++ t, rfl, by rw [bytes_append, bytes_append], by have h := Hyes.out (Nat.pos_of_ne_zero h20); rw [Hcnt.out, ← Hk.out, ← Hrs.out] at h; exact h, Hn7.out.below Hb10.out Hn7.out.lt, HZ.out.below Hb10.out HZ.out.lt, Hb7.out.trans (Hb10.out.mono Hb7.out.size)⟩
            case measure => rw [rowVal_at (HZ.out.below Hb10.out HZ.out.lt), ← rowVal_at HZ.out]; exact Hlt.out
end Go.Proofs.YtegjcikofmphjaaGreatDoor

