/- Texts that belong together. -/
import Derived.Test.YtegjcikofmphjaaGreatDoorQCuts
import Derived.Test.YtegjcikofmphjaaGreatDoorQZs
set_option linter.all false
/- Layer 1: commonDivisor. (Written with genreg.py and gen_cd.py.) -/
namespace Go.Proofs.YtegjcikofmphjaaGreatDoor
open Go Go.RowKit Go.Shelf
attribute [local go_sem] Oper.semAt_some
section
variable {o : Oper} {a : Act} {w : World}
theorem run_assign (x : Operand) (ho : o.op = .assign x) : (execOp a.eval o).run Tryz.prog w = .ok (.value (a.eval x)) w := by
  unfold execOp; rw [ho]; rfl
end
def rowVal (g : Nat) (W : World) : Nat := match W.heap[g]? with | some (.cells cs _ _) => val (cs.toList.map fun v => (intOf v).toNat) | _ => 0
theorem rowVal_at {g : Nat} {W : World} {t : TypeId} {xs : List Nat} (h : RowAt W g t (arr xs)) : rowVal g W = val xs := by
  unfold rowVal
  rw [show W.heap[g]? = _ from h]
  have e : (arr xs).toList.map (fun v => (intOf v).toNat) = xs := by
    simp [arr, Function.comp_def, intOf]
  simp only [e]
structure CdSt (X Y m n : Nat) (ra rb : List Nat) : Prop where
  dA : Digits ra
  dB : Digits rb
  lA : ra.length = 65
  lB : rb.length = 65
  m64 : m ≤ 64
  n64 : n ≤ 64
  zA : ∀ j, m ≤ j → ra[j]?.getD 0 = 0
  zB : ∀ j, n ≤ j → rb[j]?.getD 0 = 0
  top : 0 < n → rb[n - 1]?.getD 0 ≠ 0
  gcd : Nat.gcd (val ra) (val rb) = Nat.gcd X Y
theorem CdSt.start {xs ys : List Nat} (hx : Norm xs) (hy : Norm ys) (h1 : xs.length ≤ 64) (h2 : ys.length ≤ 64) :
    CdSt (val xs) (val ys) xs.length ys.length (xs ++ (List.replicate 65 0).drop xs.length) (ys ++ (List.replicate 65 0).drop ys.length) := by
  have hz : ∀ (l : List Nat), l.length ≤ 64 → ∀ j, l.length ≤ j → (l ++ (List.replicate 65 0).drop l.length)[j]?.getD 0 = 0 := fun l hl j hj => by
    rw [List.getElem?_append_right hj, List.drop_replicate, List.getElem?_replicate]
    split <;> rfl
  have hd : ∀ (l : List Nat), Digits l → Digits (l ++ (List.replicate 65 0).drop l.length) := fun l h => h.append ((digits_replicate 65).drop _)
  have hv : ∀ (l : List Nat), val (l ++ (List.replicate 65 0).drop l.length) = val l := fun l => by rw [val_append, List.drop_replicate, val_zeros]; simp
  refine ⟨hd _ hx.1, hd _ hy.1, by simp; omega, by simp; omega, h1, h2, hz _ h1, hz _ h2, fun h0 => ?_, by rw [hv, hv]⟩
  rw [List.getElem?_append_left (by omega)]
  exact (noZero_last h0).1 hy.2
theorem CdSt.next {X Y m n : Nat} {ra rb : List Nat} (h : CdSt X Y m n ra rb) (h0 : 0 < n) : CdSt X Y n (strip ((rowOf (val ra % val rb)).take n)).length rb (rowOf (val ra % val rb)) ∧ (rowOf (val ra / val rb)).length = 65 ∧ (rowOf (val ra % val rb)).length = 65 ∧ val ra % val rb < val rb := by
  have hp := val_pos_of_digit (h.top h0)
  have hBn := lt_of_zero h.dB (by have := h.lB; have := h.n64; omega) h.zB
  have hlt := Nat.mod_lt (val ra) hp
  have hA := rowOf_lt h.lA h.dA
  have hr : val ra % val rb < B32 ^ 65 := Nat.lt_of_le_of_lt (Nat.mod_le _ _) hA
  have hq : val ra / val rb < B32 ^ 65 := Nat.lt_of_le_of_lt (Nat.div_le_self _ _) hA
  have hc := cd_next (R := rowOf (val ra % val rb)) (n := n) (rowOf_length hr) (by have := h.n64; omega) (by rw [rowOf_val]; omega)
  refine ⟨⟨h.dB, rowOf_digits _, h.lB, rowOf_length hr, h.n64, Nat.le_trans hc.1 h.n64, h.zB, hc.2.1, hc.2.2, ?_⟩, rowOf_length hq, rowOf_length hr, hlt⟩
  rw [rowOf_val, ← h.gcd, Nat.gcd_comm, ← Nat.gcd_rec, Nat.gcd_comm]
set_option maxRecDepth 100000 in
set_option maxHeartbeats 4000000 in
theorem commonDivisor_calls (v u : Value) (xs ys : List Nat) (w : World) (hx : U32s w.heap.size w v xs) (hy : U32s w.heap.size w u ys) (hnx : Norm xs) (hny : Norm ys) (h64 : xs.length ≤ 64) (h64y : ys.length ≤ 64) :
    Calls Tryz.prog 76 #[v, u] w fun e w' => ∃ r : List Nat, e = .returned (.agg (arr r)) ∧ r.length = 65 ∧ Digits r ∧ val r = Nat.gcd (val xs) (val ys) ∧ Below w.heap.size w w' := by
  obtain ⟨W3, hW3⟩ : ∃ W3, W3 = ((w.alloc (.cells Tryz.zeroCells89 89)).alloc (.cells Tryz.zeroCells89 89)).alloc (.cells Tryz.zeroCells89 89) := ⟨_, rfl⟩
  have HB3 : Hid (Below w.heap.size w W3) := by rw [hW3]; exact (((Below.refl _ w).alloc (Nat.le_refl _) _).alloc (by simp) _).alloc (by simp; omega) _
  have HR0 : Hid (RowAt W3 w.heap.size 89 (arr (List.replicate 65 0))) := by rw [hW3, ← zero_row]; exact ((RowAt.new w _ _).alloc _).alloc _
  have HR1 : Hid (RowAt W3 (w.heap.size + 1) 89 (arr (List.replicate 65 0))) := by rw [hW3, ← zero_row]; exact (RowAt.new' _ _ (by simp)).alloc _
  have HR2 : Hid (RowAt W3 (w.heap.size + 1 + 1) 89 (arr (List.replicate 65 0))) := by rw [hW3, ← zero_row]; exact RowAt.new' _ _ (by simp)
  have HW3 := Lib.hid hW3
  have Hx := Lib.hid hx
  have Hy := Lib.hid hy
  have Hstart := Lib.hid (CdSt.start hnx hny h64 h64y)
  clear hW3 hx hy hnx hny
  go_enter Tryz.func76, Tryz.ntmps76
  go_wp2_with fail
  rw [← HW3.out]
  refine wp_region_inv (fun D a w' => ∃ v7 v8 v11 v12 v13 v14 v15 v16, a = { tmps := #[v, u, undef, undef, (.pointer (some ⟨w.heap.size, 0, none⟩)), (.pointer (some ⟨w.heap.size + 1, 0, none⟩)), (.pointer (some ⟨w.heap.size + 1 + 1, 0, none⟩)), v7, v8, undef, undef, v11, v12, v13, v14, v15, v16, undef, undef, undef, undef, undef, undef, undef, undef, undef, undef, undef, undef, undef, undef, undef, undef, undef, undef, undef, undef, undef, undef, undef, undef, undef, undef, undef, undef, undef, undef, undef], defers := [] } ∧ (D 0 → v11 = .slice (some ⟨w.heap.size + 1, 0, none⟩) 65 65) ∧ (D 1 → v12 = v) ∧ (D 2 → v13 = .int .i64 (xs.length : Nat)) ∧ (D 3 → v14 = .slice (some ⟨w.heap.size + 1 + 1, 0, none⟩) 65 65) ∧ (D 4 → v15 = u) ∧ (D 5 → v16 = .int .i64 (ys.length : Nat)) ∧ (D 6 → v7 = .int .i64 (xs.length : Nat)) ∧ (D 7 → v8 = .int .i64 (ys.length : Nat)) ∧ RowAt w' (w.heap.size) 89 (arr (List.replicate 65 0)) ∧ (¬ D 2 → RowAt w' (w.heap.size + 1) 89 (arr (List.replicate 65 0))) ∧ (D 2 → RowAt w' (w.heap.size + 1) 89 (arr (xs ++ (List.replicate 65 0).drop xs.length))) ∧ (¬ D 5 → RowAt w' (w.heap.size + 1 + 1) 89 (arr (List.replicate 65 0))) ∧ (D 5 → RowAt w' (w.heap.size + 1 + 1) 89 (arr (ys ++ (List.replicate 65 0).drop ys.length))) ∧ Below w.heap.size w w')
    (by kernel_rfl) (by kernel_rfl) ?startA ?stepA ?finA
  case startA => exact ⟨undef, undef, undef, undef, undef, undef, undef, undef, rfl, False.elim, False.elim, False.elim, False.elim, False.elim, False.elim, False.elim, False.elim, HR0.out, fun _ => HR1.out, False.elim, fun _ => HR2.out, False.elim, HB3.out.drew⟩
  case stepA =>
    rintro i o D a w1 hio hn he ⟨v7, v8, v11, v12, v13, v14, v15, v16, rfl, f0, f1, f2, f3, f4, f5, f6, f7, k0, k1, k2, k3, k4, k5⟩
    rcases i with _ | _ | _ | _ | _ | _ | _ | _ | i
    rotate_left 8
    · exact absurd hio (by simp)
    all_goals (obtain rfl := Option.some.inj (hio.symm.trans (by rfl)))
    · exact wp_of_run (run_slice0 (.tmp 5) rfl (w.heap.size + 1) rfl) ⟨_, _, _, _, _, _, _, _, rfl, put_eq rfl, put_ne (by decide) f1, put_ne (by decide) f2, put_ne (by decide) f3, put_ne (by decide) f4, put_ne (by decide) f5, put_ne (by decide) f6, put_ne (by decide) f7, k0, fun h => k1 fun h' => h (.inr h'), put_ne (by decide) k2, fun h => k3 fun h' => h (.inr h'), put_ne (by decide) k4, k5⟩
    · exact wp_of_run (run_move (.tmp 0) rfl) ⟨_, _, _, _, _, _, _, _, rfl, put_ne (by decide) f0, put_eq rfl, put_ne (by decide) f2, put_ne (by decide) f3, put_ne (by decide) f4, put_ne (by decide) f5, put_ne (by decide) f6, put_ne (by decide) f7, k0, fun h => k1 fun h' => h (.inr h'), put_ne (by decide) k2, fun h => k3 fun h' => h (.inr h'), put_ne (by decide) k4, k5⟩
    · obtain rfl := (f0 (he ⟨0, .data⟩ (by simp) rfl)).symm
      refine wp_copy_digits (.tmp 11) (.tmp 12) rfl (w.heap.size + 1) w.heap.size v xs _ 89 rfl (f1 (he ⟨1, .data⟩ (by simp) rfl)) (Hx.out.below k5) (k1 hn) (by simp) (by omega) fun w2 hr2 ht2 => ?_
      exact ⟨_, _, _, _, _, _, _, _, rfl, put_ne (by decide) f0, put_ne (by decide) f1, put_eq rfl, put_ne (by decide) f3, put_ne (by decide) f4, put_ne (by decide) f5, put_ne (by decide) f6, put_ne (by decide) f7, (ht2.block _ (by omega)).trans k0, fun h => absurd (.inl rfl) h, fun _ => hr2, fun h => (ht2.block _ (by omega)).trans (k3 fun h' => h (.inr h')), fun h => (ht2.block _ (by omega)).trans (k4 (And'.ne (by decide) h)), ⟨ht2.os.trans k5.os, ht2.tape.trans k5.tape, ht2.output.trans k5.output, by rw [ht2.size]; exact k5.size, fun k hk => (ht2.block k (by omega)).trans (k5.block k hk)⟩⟩
    · exact wp_of_run (run_slice0 (.tmp 6) rfl (w.heap.size + 1 + 1) rfl) ⟨_, _, _, _, _, _, _, _, rfl, put_ne (by decide) f0, put_ne (by decide) f1, put_ne (by decide) f2, put_eq rfl, put_ne (by decide) f4, put_ne (by decide) f5, put_ne (by decide) f6, put_ne (by decide) f7, k0, fun h => k1 fun h' => h (.inr h'), put_ne (by decide) k2, fun h => k3 fun h' => h (.inr h'), put_ne (by decide) k4, k5⟩
    · exact wp_of_run (run_move (.tmp 1) rfl) ⟨_, _, _, _, _, _, _, _, rfl, put_ne (by decide) f0, put_ne (by decide) f1, put_ne (by decide) f2, put_ne (by decide) f3, put_eq rfl, put_ne (by decide) f5, put_ne (by decide) f6, put_ne (by decide) f7, k0, fun h => k1 fun h' => h (.inr h'), put_ne (by decide) k2, fun h => k3 fun h' => h (.inr h'), put_ne (by decide) k4, k5⟩
    · obtain rfl := (f3 (he ⟨3, .data⟩ (by simp) rfl)).symm
      refine wp_copy_digits (.tmp 14) (.tmp 15) rfl (w.heap.size + 1 + 1) w.heap.size u ys _ 89 rfl (f4 (he ⟨4, .data⟩ (by simp) rfl)) (Hy.out.below k5) (k3 hn) (by simp) (by omega) fun w2 hr2 ht2 => ?_
      exact ⟨_, _, _, _, _, _, _, _, rfl, put_ne (by decide) f0, put_ne (by decide) f1, put_ne (by decide) f2, put_ne (by decide) f3, put_ne (by decide) f4, put_eq rfl, put_ne (by decide) f6, put_ne (by decide) f7, (ht2.block _ (by omega)).trans k0, fun h => (ht2.block _ (by omega)).trans (k1 fun h' => h (.inr h')), fun h => (ht2.block _ (by omega)).trans (k2 (And'.ne (by decide) h)), fun h => absurd (.inl rfl) h, fun _ => hr2, ⟨ht2.os.trans k5.os, ht2.tape.trans k5.tape, ht2.output.trans k5.output, by rw [ht2.size]; exact k5.size, fun k hk => (ht2.block k (by omega)).trans (k5.block k hk)⟩⟩
    · obtain rfl := (f2 (he ⟨2, .data⟩ (by simp) rfl)).symm
      exact wp_of_run (run_assign (.tmp 13) rfl) ⟨_, _, _, _, _, _, _, _, rfl, put_ne (by decide) f0, put_ne (by decide) f1, put_ne (by decide) f2, put_ne (by decide) f3, put_ne (by decide) f4, put_ne (by decide) f5, put_eq rfl, put_ne (by decide) f7, k0, fun h => k1 fun h' => h (.inr h'), put_ne (by decide) k2, fun h => k3 fun h' => h (.inr h'), put_ne (by decide) k4, k5⟩
    · obtain rfl := (f5 (he ⟨5, .data⟩ (by simp) rfl)).symm
      exact wp_of_run (run_assign (.tmp 16) rfl) ⟨_, _, _, _, _, _, _, _, rfl, put_ne (by decide) f0, put_ne (by decide) f1, put_ne (by decide) f2, put_ne (by decide) f3, put_ne (by decide) f4, put_ne (by decide) f5, put_ne (by decide) f6, put_eq rfl, k0, fun h => k1 fun h' => h (.inr h'), put_ne (by decide) k2, fun h => k3 fun h' => h (.inr h'), put_ne (by decide) k4, k5⟩
  case finA =>
    rintro D a w1 hD ⟨v7, v8, v11, v12, v13, v14, v15, v16, rfl, f0, f1, f2, f3, f4, f5, f6, f7, k0, k1, k2, k3, k4, k5⟩
    obtain rfl := f6 (hD 6 (by simp))
    obtain rfl := f7 (hD 7 (by simp))
    have k2 := k2 (hD 2 (by simp))
    have k4 := k4 (hD 5 (by simp))
    clear k1 k3 f0 f1 f2 f3 f4 f5 f6 f7 hD HR0 HR1 HR2 HB3
    go_wp2
    go_loopw [7, 8] (fun c d wr => ∃ (m n : Nat) (ra rb : List Nat), c = .int .i64 (m : Nat) ∧ d = .int .i64 (n : Nat) ∧ CdSt (val xs) (val ys) m n ra rb ∧ RowAt wr w.heap.size 89 (arr (List.replicate 65 0)) ∧ RowAt wr (w.heap.size + 1) 89 (arr ra) ∧ RowAt wr (w.heap.size + 1 + 1) 89 (arr rb) ∧ Below w.heap.size w wr)
      (fun _ _ wr => rowVal (w.heap.size + 1 + 1) wr)
    case atStart => exact ⟨_, _, _, _, rfl, rfl, Hstart.out, k0, k2, k4, k5⟩
    case round =>
      obtain ⟨m, n, ra, rb, rfl, rfl, hst, hr0, hr1, hr2, hB⟩ := hrel
      by_cases h0 : n = 0
      · subst h0
        have hvB : val rb = 0 := by have := val_take_of_zero hst.zB; rw [← this]; simp [val]
        have Hg : Hid (val ra = Nat.gcd (val xs) (val ys)) := by show _ = _; rw [← hst.gcd, hvB, Nat.gcd_zero_right]
        have Hst := Lib.hid hst
        have Hr0 := Lib.hid hr0
        have Hr1 := Lib.hid hr1
        have HB := Lib.hid hB
        clear hst hr0 hr1 hr2 hB hvB
        go_wp2_with (first
          | (refine load_row rfl (.tmp 5) rfl (w.heap.size + 1) rfl ra Hst.out.lA 89 Hr1.out ?_)
          | (refine store_row rfl (.tmp 4) (.tmp 47) rfl w.heap.size rfl ra Hst.out.lA rfl 89 _ Hr0.out (by rw [arr_size, List.length_replicate]) ?_))
        exact ret_row rfl w.heap.size rfl ra Hst.out.lA 89 (Hr0.out.setRow _) ⟨_, rfl, Hst.out.lA, Hst.out.dA, Hg.out, below_setRow2 HB.out (Nat.le_refl _) _⟩
      · have h0n : 0 < n := Nat.pos_of_ne_zero h0
        have h0I : (0 : Int) < (n : Int) := by omega
        have hm64 := hst.m64
        have hn64 := hst.n64
        have Hr0 := Lib.hid hr0
        have Hr1 := Lib.hid hr1
        have Hr2 := Lib.hid hr2
        have HB := Lib.hid hB
        have Hst := Lib.hid hst
        have hlA := hst.lA
        have hlB := hst.lB
        have HvA : Hid (val (ra.take m) = val ra) := val_take_of_zero hst.zA
        have HvB : Hid (val (rb.take n) = val rb) := val_take_of_zero hst.zB
        clear hst hr0 hr1 hr2 hB h0
        by_cases hs : m ≤ 2 ∧ n ≤ 2
        · have hs1 : (m : Int) ≤ 2 := by omega
          have hs2 : (n : Int) ≤ 2 := by omega
          have hlim : ∀ l : List Nat, Digits l → l.length ≤ 2 → val l < 18446744073709551616 := fun l hd hl => Nat.lt_of_lt_of_le (val_lt hd) (Nat.le_trans (Nat.pow_le_pow_right B32_pos hl) (by decide))
          have HA64 : Hid (val ra < 18446744073709551616) := by show _ < _; rw [← HvA.out]; exact hlim _ (Hst.out.dA.take _) (by simp; omega)
          have HB64 : Hid (val rb < 18446744073709551616) := by show _ < _; rw [← HvB.out]; exact hlim _ (Hst.out.dB.take _) (by simp; omega)
          have HG64 : Hid (Nat.gcd (val ra) (val rb) < 18446744073709551616) := Nat.lt_of_le_of_lt (gcd_le_left' (val_pos_of_digit (Hst.out.top h0n))) HB64.out
          have Hgcd := Lib.hid Hst.out.gcd
          have HWA : Hid (∀ W2, Below wr.heap.size wr W2 → Calls Tryz.prog 96 #[.slice (some ⟨w.heap.size + 1, 0, none⟩) m 65] W2 fun e w' => e = .returned (.int .u64 (val ra : Nat)) ∧ Below W2.heap.size W2 w') := fun W2 hb => by
            rw [← HvA.out]
            exact word_calls _ _ W2 (u32s_row (Hr1.out.below hb Hr1.out.lt) (Nat.lt_of_lt_of_le Hr1.out.lt hb.size) (by omega) (by rw [hlA]; decide)) (Hst.out.dA.take _) (by simp; omega)
          have HWB : Hid (∀ W2, Below wr.heap.size wr W2 → Calls Tryz.prog 96 #[.slice (some ⟨w.heap.size + 1 + 1, 0, none⟩) n 65] W2 fun e w' => e = .returned (.int .u64 (val rb : Nat)) ∧ Below W2.heap.size W2 w') := fun W2 hb => by
            rw [← HvB.out]
            exact word_calls _ _ W2 (u32s_row (Hr2.out.below hb Hr2.out.lt) (Nat.lt_of_lt_of_le Hr2.out.lt hb.size) (by omega) (by rw [hlB]; decide)) (Hst.out.dB.take _) (by simp; omega)
          clear hlim
          go_wp2
          refine wp_region_inv (fun D a w' => ∃ v25 v26 v27 v28 v29 v30 v31 v32, a = { tmps := #[v, u, undef, undef, (.pointer (some ⟨w.heap.size, 0, none⟩)), (.pointer (some ⟨w.heap.size + 1, 0, none⟩)), (.pointer (some ⟨w.heap.size + 1 + 1, 0, none⟩)), (.int .i64 (m : Int)), (.int .i64 (n : Int)), u9, u10, v11, v12, v13, v14, v15, v16, (.int .i64 (n : Int)), (.bool true), (.int .i64 (m : Int)), (.bool true), (.bool true), (.int .i64 (n : Int)), (.bool true), (.bool true), v25, v26, v27, v28, v29, v30, v31, v32, u33, u34, u35, u36, u37, u38, u39, u40, u41, u42, u43, u44, u45, u46, undef], defers := [] } ∧ (D 0 → v25 = .int .i64 (m : Nat)) ∧ (D 1 → v26 = .slice (some ⟨w.heap.size + 1, 0, none⟩) m 65) ∧ (D 2 → v27 = .int .u64 (val ra : Nat)) ∧ (D 3 → v28 = .int .i64 (n : Nat)) ∧ (D 4 → v29 = .slice (some ⟨w.heap.size + 1 + 1, 0, none⟩) n 65) ∧ (D 5 → v30 = .int .u64 (val rb : Nat)) ∧ (D 6 → v31 = .int .u64 (Nat.gcd (val ra) (val rb) : Nat)) ∧ (D 7 → v32 = .agg (arr (split2 (Nat.gcd (val ra) (val rb))))) ∧ (D 8 → D 2 ∧ D 5 ∧ D 6 ∧ D 7) ∧ (∃ W2, Below wr.heap.size wr W2 ∧ (¬ D 8 → w' = W2) ∧ (D 8 → w' = W2.setRow (w.heap.size) (arr (split2 (Nat.gcd (val ra) (val rb)))))))
            (by kernel_rfl) (by kernel_rfl) ?startB ?stepB ?finB
          case startB => exact ⟨u25, u26, u27, u28, u29, u30, u31, u32, rfl, False.elim, False.elim, False.elim, False.elim, False.elim, False.elim, False.elim, False.elim, False.elim, ⟨wr.drew, (Below.refl _ _).drew, fun _ => rfl, False.elim⟩⟩
          case stepB =>
            rintro i o D a w1 hio hn he ⟨v25, v26, v27, v28, v29, v30, v31, v32, rfl, f0, f1, f2, f3, f4, f5, f6, f7, k0, k1⟩
            rcases i with _ | _ | _ | _ | _ | _ | _ | _ | _ | i
            rotate_left 9
            · exact absurd hio (by simp)
            all_goals (obtain rfl := Option.some.inj (hio.symm.trans (by rfl)))
            · obtain ⟨W2, hb, e0, e1⟩ := k1
              exact wp_of_run (run_move (.tmp 7) rfl) ⟨_, _, _, _, _, _, _, _, rfl, put_eq rfl, put_ne (by decide) f1, put_ne (by decide) f2, put_ne (by decide) f3, put_ne (by decide) f4, put_ne (by decide) f5, put_ne (by decide) f6, put_ne (by decide) f7, fun e => have h := k0 (And'.ne (by decide) e); ⟨.inr h.1, .inr h.2.1, .inr h.2.2.1, .inr h.2.2.2⟩, ⟨W2, hb, fun h => e0 fun h' => h (.inr h'), fun h => e1 (And'.ne (by decide) h)⟩⟩
            · obtain ⟨W2, hb, e0, e1⟩ := k1
              obtain rfl := (f0 (he ⟨0, .data⟩ (by simp) rfl)).symm
              exact wp_of_run (run_slice1 (.tmp 5) (.tmp 25) rfl (w.heap.size + 1) m rfl rfl (by omega)) ⟨_, _, _, _, _, _, _, _, rfl, put_ne (by decide) f0, put_eq rfl, put_ne (by decide) f2, put_ne (by decide) f3, put_ne (by decide) f4, put_ne (by decide) f5, put_ne (by decide) f6, put_ne (by decide) f7, fun e => have h := k0 (And'.ne (by decide) e); ⟨.inr h.1, .inr h.2.1, .inr h.2.2.1, .inr h.2.2.2⟩, ⟨W2, hb, fun h => e0 fun h' => h (.inr h'), fun h => e1 (And'.ne (by decide) h)⟩⟩
            · obtain ⟨W2, hb, e0, e1⟩ := k1
              have hn8 : ¬ D 8 := fun h => hn (k0 h).1
              obtain rfl := e0 hn8
              obtain rfl := (f1 (he ⟨1, .data⟩ (by simp) rfl)).symm
              exact wp_of_call (run_enter1 96 (.tmp 26) _ rfl _ rfl ent_word) (HWA.out _ hb) fun W3 h3 => ⟨_, _, _, _, _, _, _, _, rfl, put_ne (by decide) f0, put_ne (by decide) f1, put_eq rfl, put_ne (by decide) f3, put_ne (by decide) f4, put_ne (by decide) f5, put_ne (by decide) f6, put_ne (by decide) f7, fun e => absurd (And'.ne (by decide) e) hn8, ⟨W3, hb.trans (h3.mono hb.size), fun _ => rfl, fun h => absurd (And'.ne (by decide) h) hn8⟩⟩
            · obtain ⟨W2, hb, e0, e1⟩ := k1
              exact wp_of_run (run_move (.tmp 8) rfl) ⟨_, _, _, _, _, _, _, _, rfl, put_ne (by decide) f0, put_ne (by decide) f1, put_ne (by decide) f2, put_eq rfl, put_ne (by decide) f4, put_ne (by decide) f5, put_ne (by decide) f6, put_ne (by decide) f7, fun e => have h := k0 (And'.ne (by decide) e); ⟨.inr h.1, .inr h.2.1, .inr h.2.2.1, .inr h.2.2.2⟩, ⟨W2, hb, fun h => e0 fun h' => h (.inr h'), fun h => e1 (And'.ne (by decide) h)⟩⟩
            · obtain ⟨W2, hb, e0, e1⟩ := k1
              obtain rfl := (f3 (he ⟨3, .data⟩ (by simp) rfl)).symm
              exact wp_of_run (run_slice1 (.tmp 6) (.tmp 28) rfl (w.heap.size + 1 + 1) n rfl rfl (by omega)) ⟨_, _, _, _, _, _, _, _, rfl, put_ne (by decide) f0, put_ne (by decide) f1, put_ne (by decide) f2, put_ne (by decide) f3, put_eq rfl, put_ne (by decide) f5, put_ne (by decide) f6, put_ne (by decide) f7, fun e => have h := k0 (And'.ne (by decide) e); ⟨.inr h.1, .inr h.2.1, .inr h.2.2.1, .inr h.2.2.2⟩, ⟨W2, hb, fun h => e0 fun h' => h (.inr h'), fun h => e1 (And'.ne (by decide) h)⟩⟩
            · obtain ⟨W2, hb, e0, e1⟩ := k1
              have hn8 : ¬ D 8 := fun h => hn (k0 h).2.1
              obtain rfl := e0 hn8
              obtain rfl := (f4 (he ⟨4, .data⟩ (by simp) rfl)).symm
              exact wp_of_call (run_enter1 96 (.tmp 29) _ rfl _ rfl ent_word) (HWB.out _ hb) fun W3 h3 => ⟨_, _, _, _, _, _, _, _, rfl, put_ne (by decide) f0, put_ne (by decide) f1, put_ne (by decide) f2, put_ne (by decide) f3, put_ne (by decide) f4, put_eq rfl, put_ne (by decide) f6, put_ne (by decide) f7, fun e => absurd (And'.ne (by decide) e) hn8, ⟨W3, hb.trans (h3.mono hb.size), fun _ => rfl, fun h => absurd (And'.ne (by decide) h) hn8⟩⟩
            · obtain ⟨W2, hb, e0, e1⟩ := k1
              have hn8 : ¬ D 8 := fun h => hn (k0 h).2.2.1
              obtain rfl := e0 hn8
              obtain rfl := (f2 (he ⟨2, .data⟩ (by simp) rfl)).symm
              obtain rfl := (f5 (he ⟨5, .data⟩ (by simp) rfl)).symm
              exact wp_of_call (run_enter2 95 (.tmp 27) (.tmp 30) _ rfl _ _ rfl rfl ent_commonWord) (commonWord_calls (val ra) (val rb) HA64.out HB64.out w1) fun W3 h3 => ⟨_, _, _, _, _, _, _, _, rfl, put_ne (by decide) f0, put_ne (by decide) f1, put_ne (by decide) f2, put_ne (by decide) f3, put_ne (by decide) f4, put_ne (by decide) f5, put_eq rfl, put_ne (by decide) f7, fun e => absurd (And'.ne (by decide) e) hn8, ⟨W3, hb.trans (h3.mono hb.size), fun _ => rfl, fun h => absurd (And'.ne (by decide) h) hn8⟩⟩
            · obtain ⟨W2, hb, e0, e1⟩ := k1
              have hn8 : ¬ D 8 := fun h => hn (k0 h).2.2.2
              obtain rfl := e0 hn8
              obtain rfl := (f6 (he ⟨6, .data⟩ (by simp) rfl)).symm
              exact wp_of_call (run_enter1 66 (.tmp 31) _ rfl _ rfl ent_split) (split_calls _ HG64.out w1) fun W3 h3 => ⟨_, _, _, _, _, _, _, _, rfl, put_ne (by decide) f0, put_ne (by decide) f1, put_ne (by decide) f2, put_ne (by decide) f3, put_ne (by decide) f4, put_ne (by decide) f5, put_ne (by decide) f6, put_eq rfl, fun e => absurd (And'.ne (by decide) e) hn8, ⟨W3, hb.trans (h3.mono hb.size), fun _ => rfl, fun h => absurd (And'.ne (by decide) h) hn8⟩⟩
            · obtain ⟨W2, hb, e0, e1⟩ := k1
              obtain rfl := e0 hn
              obtain rfl := (f7 (he ⟨7, .data⟩ (by simp) rfl)).symm
              refine wp_store_row 89 (.tmp 4) (.tmp 32) rfl (w.heap.size) _ rfl rfl 89 _ (Hr0.out.below hb Hr0.out.lt) (by rw [row_info, arr_size, split2_length]) (by rw [arr_size, arr_size, split2_length, List.length_replicate]) (arr_one _) ?_
              exact ⟨_, _, _, _, _, _, _, _, rfl, put_ne (by decide) f0, put_ne (by decide) f1, put_ne (by decide) f2, put_ne (by decide) f3, put_ne (by decide) f4, put_ne (by decide) f5, put_ne (by decide) f6, put_ne (by decide) f7, fun _ => ⟨.inr (he ⟨2, .phase⟩ (by simp) rfl), .inr (he ⟨5, .phase⟩ (by simp) rfl), .inr (he ⟨6, .phase⟩ (by simp) rfl), .inr (he ⟨7, .phase⟩ (by simp) rfl)⟩, ⟨w1, hb, fun h => absurd (.inl rfl) h, fun _ => rfl⟩⟩
          case finB =>
            rintro D a w1 hD ⟨v25, v26, v27, v28, v29, v30, v31, v32, rfl, f0, f1, f2, f3, f4, f5, f6, f7, k0, k1⟩
            obtain ⟨W2, hb, -, e1⟩ := k1
            obtain rfl := e1 (hD 8 (by simp))
            clear f0 f1 f2 f3 f4 f5 f6 f7 k0 hD e1
            go_wp2
            exact ret_row rfl (w.heap.size) rfl _ (split2_length _) 89 ((Hr0.out.below hb Hr0.out.lt).setRow _) ⟨_, rfl, split2_length _, split2_digits HG64.out, by rw [split2, split2_value, Hgcd.out], below_setRow2 (HB.out.trans (hb.mono HB.out.size)) (Nat.le_refl _) _⟩
        · have Hnext := Lib.hid (Hst.out.next h0n)
          have HQl : Hid ((rowOf (val ra / val rb)).length = 65) := Hnext.out.2.1
          have HRl : Hid ((rowOf (val ra % val rb)).length = 65) := Hnext.out.2.2.1
          have hs2 : ¬ ((m : Int) ≤ 2 ∧ (n : Int) ≤ 2) := by omega
          have HDV : Hid (∀ W2, Below wr.heap.size wr W2 → Calls Tryz.prog 90 #[.slice (some ⟨w.heap.size + 1, 0, none⟩) m 65, .slice (some ⟨w.heap.size + 1 + 1, 0, none⟩) n 65] W2 fun e w' => e = .returned (.tuple #[.agg (arr (rowOf (val ra / val rb))), .agg (arr (rowOf (val ra % val rb)))]) ∧ Below W2.heap.size W2 w') := fun W2 hb => by
            have hc := divide_calls (.slice (some ⟨w.heap.size + 1, 0, none⟩) m 65) (.slice (some ⟨w.heap.size + 1 + 1, 0, none⟩) n 65) _ _ W2 (u32s_row (Hr1.out.below hb Hr1.out.lt) (Nat.lt_of_lt_of_le Hr1.out.lt hb.size) (by omega) (by rw [hlA]; decide)) (u32s_row (L := n) (cap := 65) (Hr2.out.below hb Hr2.out.lt) (Nat.lt_of_lt_of_le Hr2.out.lt hb.size) (by omega) (by rw [hlB]; decide)) (Hst.out.dA.take _) (Hst.out.dB.take _) (by simp; omega) (by simp; omega) (n - 1) (by simp; omega) (by rw [List.getElem?_take_of_lt (by omega)]; exact Hst.out.top h0n)
            refine hc.mono ?_
            rintro e w' ⟨q, r, rfl, hq, hr, hdq, hdr, hvq, hvr, hb2⟩
            rw [HvA.out, HvB.out] at hvq hvr
            rw [rowOf_eq hq hdq, rowOf_eq hr hdr, hvq, hvr]
            exact ⟨rfl, hb2⟩
          by_cases hm2 : (m : Int) ≤ 2
          · go_wp2
            refine wp_region_inv (fun D a w' => ∃ v9 v10 v33 v34 v35 v36 v37 v38 v39 v40, a = { tmps := #[v, u, undef, undef, (.pointer (some ⟨w.heap.size, 0, none⟩)), (.pointer (some ⟨w.heap.size + 1, 0, none⟩)), (.pointer (some ⟨w.heap.size + 1 + 1, 0, none⟩)), (.int .i64 (m : Int)), (.int .i64 (n : Int)), v9, v10, v11, v12, v13, v14, v15, v16, (.int .i64 (n : Int)), (.bool true), (.int .i64 (m : Int)), (.bool true), (.bool true), (.int .i64 (n : Int)), (.bool (decide ((n : Int) ≤ 2))), (.bool (decide ((n : Int) ≤ 2))), u25, u26, u27, u28, u29, u30, u31, u32, v33, v34, v35, v36, v37, v38, v39, v40, u41, u42, u43, u44, u45, u46, undef], defers := [] } ∧ (D 0 → v34 = .int .i64 (m : Nat)) ∧ (D 1 → v35 = .slice (some ⟨w.heap.size + 1, 0, none⟩) m 65) ∧ (D 2 → v36 = .int .i64 (n : Nat)) ∧ (D 3 → v37 = .slice (some ⟨w.heap.size + 1 + 1, 0, none⟩) n 65) ∧ (D 4 → v38 = .tuple #[.agg (arr (rowOf (val ra / val rb))), .agg (arr (rowOf (val ra % val rb)))]) ∧ (D 5 → v33 = .tuple #[.agg (arr (rowOf (val ra / val rb))), .agg (arr (rowOf (val ra % val rb)))]) ∧ (D 6 → v39 = .agg (arr (rowOf (val ra / val rb)))) ∧ (D 7 → v40 = .agg (arr (rowOf (val ra % val rb)))) ∧ Two wr (arr (rowOf (val ra / val rb))) (arr (rowOf (val ra % val rb))) (D 8) (D 10) (D 9) (D 11) v9 v10 w')
              (by kernel_rfl) (by kernel_rfl) ?startC ?stepC ?finC
            case startC => exact ⟨u9, u10, u33, u34, u35, u36, u37, u38, u39, u40, rfl, False.elim, False.elim, False.elim, False.elim, False.elim, False.elim, False.elim, False.elim, ⟨(Below.refl _ _).drew, False.elim, False.elim, False.elim, False.elim, False.elim⟩⟩
            case stepC =>
              rintro i o D a w1 hio hn he ⟨v9, v10, v33, v34, v35, v36, v37, v38, v39, v40, rfl, f0, f1, f2, f3, f4, f5, f6, f7, k0⟩
              rcases i with _ | _ | _ | _ | _ | _ | _ | _ | _ | _ | _ | _ | i
              rotate_left 12
              · exact absurd hio (by simp)
              all_goals (obtain rfl := Option.some.inj (hio.symm.trans (by rfl)))
              · exact wp_of_run (run_move (.tmp 7) rfl) ⟨_, _, _, _, _, _, _, _, _, _, rfl, put_eq rfl, put_ne (by decide) f1, put_ne (by decide) f2, put_ne (by decide) f3, put_ne (by decide) f4, put_ne (by decide) f5, put_ne (by decide) f6, put_ne (by decide) f7, k0.same (And'.iff (by decide)) (And'.iff (by decide)) (And'.iff (by decide)) (And'.iff (by decide)) (Below.refl _ _)⟩
              · obtain rfl := (f0 (he ⟨0, .data⟩ (by simp) rfl)).symm
                exact wp_of_run (run_slice1 (.tmp 5) (.tmp 34) rfl (w.heap.size + 1) m rfl rfl (by omega)) ⟨_, _, _, _, _, _, _, _, _, _, rfl, put_ne (by decide) f0, put_eq rfl, put_ne (by decide) f2, put_ne (by decide) f3, put_ne (by decide) f4, put_ne (by decide) f5, put_ne (by decide) f6, put_ne (by decide) f7, k0.same (And'.iff (by decide)) (And'.iff (by decide)) (And'.iff (by decide)) (And'.iff (by decide)) (Below.refl _ _)⟩
              · exact wp_of_run (run_move (.tmp 8) rfl) ⟨_, _, _, _, _, _, _, _, _, _, rfl, put_ne (by decide) f0, put_ne (by decide) f1, put_eq rfl, put_ne (by decide) f3, put_ne (by decide) f4, put_ne (by decide) f5, put_ne (by decide) f6, put_ne (by decide) f7, k0.same (And'.iff (by decide)) (And'.iff (by decide)) (And'.iff (by decide)) (And'.iff (by decide)) (Below.refl _ _)⟩
              · obtain rfl := (f2 (he ⟨2, .data⟩ (by simp) rfl)).symm
                exact wp_of_run (run_slice1 (.tmp 6) (.tmp 36) rfl (w.heap.size + 1 + 1) n rfl rfl (by omega)) ⟨_, _, _, _, _, _, _, _, _, _, rfl, put_ne (by decide) f0, put_ne (by decide) f1, put_ne (by decide) f2, put_eq rfl, put_ne (by decide) f4, put_ne (by decide) f5, put_ne (by decide) f6, put_ne (by decide) f7, k0.same (And'.iff (by decide)) (And'.iff (by decide)) (And'.iff (by decide)) (And'.iff (by decide)) (Below.refl _ _)⟩
              · obtain rfl := (f1 (he ⟨1, .data⟩ (by simp) rfl)).symm
                obtain rfl := (f3 (he ⟨3, .data⟩ (by simp) rfl)).symm
                exact wp_of_call (run_enter2 90 (.tmp 35) (.tmp 37) _ rfl _ _ rfl rfl ent_divide) (HDV.out w1 k0.1) fun W3 h3 => ⟨_, _, _, _, _, _, _, _, _, _, rfl, put_ne (by decide) f0, put_ne (by decide) f1, put_ne (by decide) f2, put_ne (by decide) f3, put_eq rfl, put_ne (by decide) f5, put_ne (by decide) f6, put_ne (by decide) f7, k0.same (And'.iff (by decide)) (And'.iff (by decide)) (And'.iff (by decide)) (And'.iff (by decide)) h3⟩
              · obtain rfl := (f4 (he ⟨4, .data⟩ (by simp) rfl)).symm
                exact wp_of_run (run_move (.tmp 38) rfl) ⟨_, _, _, _, _, _, _, _, _, _, rfl, put_ne (by decide) f0, put_ne (by decide) f1, put_ne (by decide) f2, put_ne (by decide) f3, put_ne (by decide) f4, put_eq rfl, put_ne (by decide) f6, put_ne (by decide) f7, k0.same (And'.iff (by decide)) (And'.iff (by decide)) (And'.iff (by decide)) (And'.iff (by decide)) (Below.refl _ _)⟩
              · obtain rfl := (f5 (he ⟨5, .data⟩ (by simp) rfl)).symm
                exact wp_of_run (run_extract (.tmp 33) 0 rfl _ rfl _ rfl) ⟨_, _, _, _, _, _, _, _, _, _, rfl, put_ne (by decide) f0, put_ne (by decide) f1, put_ne (by decide) f2, put_ne (by decide) f3, put_ne (by decide) f4, put_ne (by decide) f5, put_eq rfl, put_ne (by decide) f7, k0.same (And'.iff (by decide)) (And'.iff (by decide)) (And'.iff (by decide)) (And'.iff (by decide)) (Below.refl _ _)⟩
              · obtain rfl := (f5 (he ⟨5, .data⟩ (by simp) rfl)).symm
                exact wp_of_run (run_extract (.tmp 33) 1 rfl _ rfl _ rfl) ⟨_, _, _, _, _, _, _, _, _, _, rfl, put_ne (by decide) f0, put_ne (by decide) f1, put_ne (by decide) f2, put_ne (by decide) f3, put_ne (by decide) f4, put_ne (by decide) f5, put_ne (by decide) f6, put_eq rfl, k0.same (And'.iff (by decide)) (And'.iff (by decide)) (And'.iff (by decide)) (And'.iff (by decide)) (Below.refl _ _)⟩
              · exact wp_of_run (run_alloc_row rfl) ⟨_, _, _, _, _, _, _, _, _, _, rfl, put_ne (by decide) f0, put_ne (by decide) f1, put_ne (by decide) f2, put_ne (by decide) f3, put_ne (by decide) f4, put_ne (by decide) f5, put_ne (by decide) f6, put_ne (by decide) f7, k0.allocA hn (.inl rfl) (And'.iff (by decide)) (And'.iff (by decide)) (And'.iff (by decide))⟩
              · exact wp_of_run (run_alloc_row rfl) ⟨_, _, _, _, _, _, _, _, _, _, rfl, put_ne (by decide) f0, put_ne (by decide) f1, put_ne (by decide) f2, put_ne (by decide) f3, put_ne (by decide) f4, put_ne (by decide) f5, put_ne (by decide) f6, put_ne (by decide) f7, k0.allocB hn (And'.iff (by decide)) (And'.iff (by decide)) (.inl rfl) (And'.iff (by decide))⟩
              · have h6 := f6 (he ⟨6, .data⟩ (by simp) rfl)
                subst h6
                obtain ⟨g, cs, rfl, hr, hs, kk⟩ := k0.storeA (pA' := And' 10 D 8) (pS' := And' 10 D 10) (pB' := And' 10 D 9) (pT' := And' 10 D 11) (he ⟨8, .data⟩ (by simp) rfl) (by rw [arr_size, HQl.out]) (And'.iff (by decide)) (And'.iff (by decide)) (And'.iff (by decide))
                refine wp_store_row 89 (.tmp 9) (.tmp 39) rfl g _ rfl rfl 89 cs hr (by rw [row_info, arr_size, HQl.out]) (by rw [arr_size, HQl.out, hs]) (arr_one _) ?_
                exact ⟨_, _, _, _, _, _, _, _, _, _, rfl, put_ne (by decide) f0, put_ne (by decide) f1, put_ne (by decide) f2, put_ne (by decide) f3, put_ne (by decide) f4, put_ne (by decide) f5, put_ne (by decide) f6, put_ne (by decide) f7, kk⟩
              · have h7 := f7 (he ⟨7, .data⟩ (by simp) rfl)
                subst h7
                obtain ⟨g, cs, rfl, hr, hs, kk⟩ := k0.storeB (pA' := And' 11 D 8) (pS' := And' 11 D 10) (pB' := And' 11 D 9) (pT' := And' 11 D 11) (he ⟨9, .data⟩ (by simp) rfl) (by rw [arr_size, HRl.out]) (And'.iff (by decide)) (And'.iff (by decide)) (And'.iff (by decide))
                refine wp_store_row 89 (.tmp 10) (.tmp 40) rfl g _ rfl rfl 89 cs hr (by rw [row_info, arr_size, HRl.out]) (by rw [arr_size, HRl.out, hs]) (arr_one _) ?_
                exact ⟨_, _, _, _, _, _, _, _, _, _, rfl, put_ne (by decide) f0, put_ne (by decide) f1, put_ne (by decide) f2, put_ne (by decide) f3, put_ne (by decide) f4, put_ne (by decide) f5, put_ne (by decide) f6, put_ne (by decide) f7, kk⟩
            case finC =>
              rintro D a w1 hD ⟨v9, v10, v33, v34, v35, v36, v37, v38, v39, v40, rfl, f0, f1, f2, f3, f4, f5, f6, f7, k0⟩
              obtain ⟨hb, hsl9, hsl10, hne, -, -⟩ := k0
              obtain ⟨g9, cs9, rfl, hg9, hz9, hr9, e9⟩ := hsl9 (hD 8 (by simp))
              obtain ⟨g10, cs10, rfl, hg10, hz10, hr10, e10⟩ := hsl10 (hD 9 (by simp))
              obtain rfl := e10 (hD 11 (by simp))
              clear f0 f1 f2 f3 f4 f5 f6 f7 hD e9 hsl9 hsl10 hne hr9 hz9 hz10 e10
              have Hb := Lib.hid hb
              have Hr10 := Lib.hid hr10
              have Hq0 := Lib.hid (Hr0.out.below hb Hr0.out.lt)
              have Hq1 := Lib.hid (Hr1.out.below hb Hr1.out.lt)
              have Hq2 := Lib.hid (Hr2.out.below hb Hr2.out.lt)
              have hlt1 := Hr1.out.lt
              have hlt2 := Hr2.out.lt
              obtain ⟨W7, hW7⟩ : ∃ W7, W7 = (w1.setRow (w.heap.size + 1) (arr rb)).setRow (w.heap.size + 1 + 1) (arr (rowOf (val ra % val rb))) := ⟨_, rfl⟩
              have Hr70 : Hid (RowAt W7 w.heap.size 89 (arr (List.replicate 65 0))) := by rw [hW7]; exact (Hq0.out.setRowOther _ (by omega)).setRowOther _ (by omega)
              have Hr71 : Hid (RowAt W7 (w.heap.size + 1) 89 (arr rb)) := by rw [hW7]; exact (Hq1.out.setRow _).setRowOther _ (by omega)
              have Hr72 : Hid (RowAt W7 (w.heap.size + 1 + 1) 89 (arr (rowOf (val ra % val rb)))) := by rw [hW7]; exact (Hq2.out.setRowOther _ (by omega)).setRow _
              have Hr7t : Hid (RowAt W7 g10 89 (arr (rowOf (val ra % val rb)))) := by rw [hW7]; exact (Hr10.out.setRowOther _ (by omega)).setRowOther _ (by omega)
              have HB7 : Hid (Below w.heap.size w W7) := by rw [hW7]; exact below_setRow2 (below_setRow2 (HB.out.trans (hb.mono HB.out.size)) (by omega) _) (by omega) _
              have hlen := length_calls _ _ W7 (u32s_row (L := n) (cap := 65) Hr7t.out Hr7t.out.lt (by rw [HRl.out]; omega) (by rw [HRl.out]; decide))
              have Hlen := Lib.hid hlen
              have Hq2' := Lib.hid (Hq2.out.setRowOther (k := w.heap.size + 1) (arr rb) (by omega))
              have hn65 : (n : Int) ≤ 65 := by omega
              have HW7 := Lib.hid hW7
              clear hb hr10 hW7 hlen hlt1 hlt2
              go_wp2_with (first | (refine load_row rfl (.tmp 6) rfl (w.heap.size + 1 + 1) rfl rb hlB 89 Hq2.out ?_) | (refine load_row rfl (.tmp 10) rfl g10 rfl _ HRl.out 89 Hr10.out ?_) | (refine store_row rfl (.tmp 5) (.tmp 41) rfl (w.heap.size + 1) rfl rb hlB rfl 89 _ Hq1.out (by rw [arr_size, hlA]) ?_) | (refine store_row rfl (.tmp 6) (.tmp 42) rfl (w.heap.size + 1 + 1) rfl _ HRl.out rfl 89 _ Hq2'.out (by rw [arr_size, hlB]) ?_; rw [← HW7.out]))
              refine Hlen.out.mono ?_
              rintro e w8 ⟨rfl, hb8⟩
              have Hb8 := Lib.hid hb8
              have HrX := Lib.hid (Hr72.out.below hb8 Hr72.out.lt)
              clear hb8
              go_wp2
              go_roundw
              case rel => exact ⟨n, _, rb, _, rfl, rfl, Hnext.out.1, Hr70.out.below Hb8.out Hr70.out.lt, Hr71.out.below Hb8.out Hr71.out.lt, HrX.out, HB7.out.trans (Hb8.out.mono HB7.out.size)⟩
              case measure => rw [rowVal_at HrX.out, rowVal_at Hr2.out, rowOf_val]; exact Hnext.out.2.2.2
          · go_wp2
            refine wp_region_inv (fun D a w' => ∃ v9 v10 v33 v34 v35 v36 v37 v38 v39 v40, a = { tmps := #[v, u, undef, undef, (.pointer (some ⟨w.heap.size, 0, none⟩)), (.pointer (some ⟨w.heap.size + 1, 0, none⟩)), (.pointer (some ⟨w.heap.size + 1 + 1, 0, none⟩)), (.int .i64 (m : Int)), (.int .i64 (n : Int)), v9, v10, v11, v12, v13, v14, v15, v16, (.int .i64 (n : Int)), (.bool true), (.int .i64 (m : Int)), (.bool false), (.bool false), undef, undef, (.bool false), u25, u26, u27, u28, u29, u30, u31, u32, v33, v34, v35, v36, v37, v38, v39, v40, u41, u42, u43, u44, u45, u46, undef], defers := [] } ∧ (D 0 → v34 = .int .i64 (m : Nat)) ∧ (D 1 → v35 = .slice (some ⟨w.heap.size + 1, 0, none⟩) m 65) ∧ (D 2 → v36 = .int .i64 (n : Nat)) ∧ (D 3 → v37 = .slice (some ⟨w.heap.size + 1 + 1, 0, none⟩) n 65) ∧ (D 4 → v38 = .tuple #[.agg (arr (rowOf (val ra / val rb))), .agg (arr (rowOf (val ra % val rb)))]) ∧ (D 5 → v33 = .tuple #[.agg (arr (rowOf (val ra / val rb))), .agg (arr (rowOf (val ra % val rb)))]) ∧ (D 6 → v39 = .agg (arr (rowOf (val ra / val rb)))) ∧ (D 7 → v40 = .agg (arr (rowOf (val ra % val rb)))) ∧ Two wr (arr (rowOf (val ra / val rb))) (arr (rowOf (val ra % val rb))) (D 8) (D 10) (D 9) (D 11) v9 v10 w')
              (by kernel_rfl) (by kernel_rfl) ?startE ?stepE ?finE
            case startE => exact ⟨u9, u10, u33, u34, u35, u36, u37, u38, u39, u40, rfl, False.elim, False.elim, False.elim, False.elim, False.elim, False.elim, False.elim, False.elim, ⟨(Below.refl _ _).drew, False.elim, False.elim, False.elim, False.elim, False.elim⟩⟩
            case stepE =>
              rintro i o D a w1 hio hn he ⟨v9, v10, v33, v34, v35, v36, v37, v38, v39, v40, rfl, f0, f1, f2, f3, f4, f5, f6, f7, k0⟩
              rcases i with _ | _ | _ | _ | _ | _ | _ | _ | _ | _ | _ | _ | i
              rotate_left 12
              · exact absurd hio (by simp)
              all_goals (obtain rfl := Option.some.inj (hio.symm.trans (by rfl)))
              · exact wp_of_run (run_move (.tmp 7) rfl) ⟨_, _, _, _, _, _, _, _, _, _, rfl, put_eq rfl, put_ne (by decide) f1, put_ne (by decide) f2, put_ne (by decide) f3, put_ne (by decide) f4, put_ne (by decide) f5, put_ne (by decide) f6, put_ne (by decide) f7, k0.same (And'.iff (by decide)) (And'.iff (by decide)) (And'.iff (by decide)) (And'.iff (by decide)) (Below.refl _ _)⟩
              · obtain rfl := (f0 (he ⟨0, .data⟩ (by simp) rfl)).symm
                exact wp_of_run (run_slice1 (.tmp 5) (.tmp 34) rfl (w.heap.size + 1) m rfl rfl (by omega)) ⟨_, _, _, _, _, _, _, _, _, _, rfl, put_ne (by decide) f0, put_eq rfl, put_ne (by decide) f2, put_ne (by decide) f3, put_ne (by decide) f4, put_ne (by decide) f5, put_ne (by decide) f6, put_ne (by decide) f7, k0.same (And'.iff (by decide)) (And'.iff (by decide)) (And'.iff (by decide)) (And'.iff (by decide)) (Below.refl _ _)⟩
              · exact wp_of_run (run_move (.tmp 8) rfl) ⟨_, _, _, _, _, _, _, _, _, _, rfl, put_ne (by decide) f0, put_ne (by decide) f1, put_eq rfl, put_ne (by decide) f3, put_ne (by decide) f4, put_ne (by decide) f5, put_ne (by decide) f6, put_ne (by decide) f7, k0.same (And'.iff (by decide)) (And'.iff (by decide)) (And'.iff (by decide)) (And'.iff (by decide)) (Below.refl _ _)⟩
              · obtain rfl := (f2 (he ⟨2, .data⟩ (by simp) rfl)).symm
                exact wp_of_run (run_slice1 (.tmp 6) (.tmp 36) rfl (w.heap.size + 1 + 1) n rfl rfl (by omega)) ⟨_, _, _, _, _, _, _, _, _, _, rfl, put_ne (by decide) f0, put_ne (by decide) f1, put_ne (by decide) f2, put_eq rfl, put_ne (by decide) f4, put_ne (by decide) f5, put_ne (by decide) f6, put_ne (by decide) f7, k0.same (And'.iff (by decide)) (And'.iff (by decide)) (And'.iff (by decide)) (And'.iff (by decide)) (Below.refl _ _)⟩
              · obtain rfl := (f1 (he ⟨1, .data⟩ (by simp) rfl)).symm
                obtain rfl := (f3 (he ⟨3, .data⟩ (by simp) rfl)).symm
                exact wp_of_call (run_enter2 90 (.tmp 35) (.tmp 37) _ rfl _ _ rfl rfl ent_divide) (HDV.out w1 k0.1) fun W3 h3 => ⟨_, _, _, _, _, _, _, _, _, _, rfl, put_ne (by decide) f0, put_ne (by decide) f1, put_ne (by decide) f2, put_ne (by decide) f3, put_eq rfl, put_ne (by decide) f5, put_ne (by decide) f6, put_ne (by decide) f7, k0.same (And'.iff (by decide)) (And'.iff (by decide)) (And'.iff (by decide)) (And'.iff (by decide)) h3⟩
              · obtain rfl := (f4 (he ⟨4, .data⟩ (by simp) rfl)).symm
                exact wp_of_run (run_move (.tmp 38) rfl) ⟨_, _, _, _, _, _, _, _, _, _, rfl, put_ne (by decide) f0, put_ne (by decide) f1, put_ne (by decide) f2, put_ne (by decide) f3, put_ne (by decide) f4, put_eq rfl, put_ne (by decide) f6, put_ne (by decide) f7, k0.same (And'.iff (by decide)) (And'.iff (by decide)) (And'.iff (by decide)) (And'.iff (by decide)) (Below.refl _ _)⟩
              · obtain rfl := (f5 (he ⟨5, .data⟩ (by simp) rfl)).symm
                exact wp_of_run (run_extract (.tmp 33) 0 rfl _ rfl _ rfl) ⟨_, _, _, _, _, _, _, _, _, _, rfl, put_ne (by decide) f0, put_ne (by decide) f1, put_ne (by decide) f2, put_ne (by decide) f3, put_ne (by decide) f4, put_ne (by decide) f5, put_eq rfl, put_ne (by decide) f7, k0.same (And'.iff (by decide)) (And'.iff (by decide)) (And'.iff (by decide)) (And'.iff (by decide)) (Below.refl _ _)⟩
              · obtain rfl := (f5 (he ⟨5, .data⟩ (by simp) rfl)).symm
                exact wp_of_run (run_extract (.tmp 33) 1 rfl _ rfl _ rfl) ⟨_, _, _, _, _, _, _, _, _, _, rfl, put_ne (by decide) f0, put_ne (by decide) f1, put_ne (by decide) f2, put_ne (by decide) f3, put_ne (by decide) f4, put_ne (by decide) f5, put_ne (by decide) f6, put_eq rfl, k0.same (And'.iff (by decide)) (And'.iff (by decide)) (And'.iff (by decide)) (And'.iff (by decide)) (Below.refl _ _)⟩
              · exact wp_of_run (run_alloc_row rfl) ⟨_, _, _, _, _, _, _, _, _, _, rfl, put_ne (by decide) f0, put_ne (by decide) f1, put_ne (by decide) f2, put_ne (by decide) f3, put_ne (by decide) f4, put_ne (by decide) f5, put_ne (by decide) f6, put_ne (by decide) f7, k0.allocA hn (.inl rfl) (And'.iff (by decide)) (And'.iff (by decide)) (And'.iff (by decide))⟩
              · exact wp_of_run (run_alloc_row rfl) ⟨_, _, _, _, _, _, _, _, _, _, rfl, put_ne (by decide) f0, put_ne (by decide) f1, put_ne (by decide) f2, put_ne (by decide) f3, put_ne (by decide) f4, put_ne (by decide) f5, put_ne (by decide) f6, put_ne (by decide) f7, k0.allocB hn (And'.iff (by decide)) (And'.iff (by decide)) (.inl rfl) (And'.iff (by decide))⟩
              · have h6 := f6 (he ⟨6, .data⟩ (by simp) rfl)
                subst h6
                obtain ⟨g, cs, rfl, hr, hs, kk⟩ := k0.storeA (pA' := And' 10 D 8) (pS' := And' 10 D 10) (pB' := And' 10 D 9) (pT' := And' 10 D 11) (he ⟨8, .data⟩ (by simp) rfl) (by rw [arr_size, HQl.out]) (And'.iff (by decide)) (And'.iff (by decide)) (And'.iff (by decide))
                refine wp_store_row 89 (.tmp 9) (.tmp 39) rfl g _ rfl rfl 89 cs hr (by rw [row_info, arr_size, HQl.out]) (by rw [arr_size, HQl.out, hs]) (arr_one _) ?_
                exact ⟨_, _, _, _, _, _, _, _, _, _, rfl, put_ne (by decide) f0, put_ne (by decide) f1, put_ne (by decide) f2, put_ne (by decide) f3, put_ne (by decide) f4, put_ne (by decide) f5, put_ne (by decide) f6, put_ne (by decide) f7, kk⟩
              · have h7 := f7 (he ⟨7, .data⟩ (by simp) rfl)
                subst h7
                obtain ⟨g, cs, rfl, hr, hs, kk⟩ := k0.storeB (pA' := And' 11 D 8) (pS' := And' 11 D 10) (pB' := And' 11 D 9) (pT' := And' 11 D 11) (he ⟨9, .data⟩ (by simp) rfl) (by rw [arr_size, HRl.out]) (And'.iff (by decide)) (And'.iff (by decide)) (And'.iff (by decide))
                refine wp_store_row 89 (.tmp 10) (.tmp 40) rfl g _ rfl rfl 89 cs hr (by rw [row_info, arr_size, HRl.out]) (by rw [arr_size, HRl.out, hs]) (arr_one _) ?_
                exact ⟨_, _, _, _, _, _, _, _, _, _, rfl, put_ne (by decide) f0, put_ne (by decide) f1, put_ne (by decide) f2, put_ne (by decide) f3, put_ne (by decide) f4, put_ne (by decide) f5, put_ne (by decide) f6, put_ne (by decide) f7, kk⟩
            case finE =>
              rintro D a w1 hD ⟨v9, v10, v33, v34, v35, v36, v37, v38, v39, v40, rfl, f0, f1, f2, f3, f4, f5, f6, f7, k0⟩
              obtain ⟨hb, hsl9, hsl10, hne, -, -⟩ := k0
              obtain ⟨g9, cs9, rfl, hg9, hz9, hr9, e9⟩ := hsl9 (hD 8 (by simp))
              obtain ⟨g10, cs10, rfl, hg10, hz10, hr10, e10⟩ := hsl10 (hD 9 (by simp))
              obtain rfl := e10 (hD 11 (by simp))
              clear f0 f1 f2 f3 f4 f5 f6 f7 hD e9 hsl9 hsl10 hne hr9 hz9 hz10 e10
              have Hb := Lib.hid hb
              have Hr10 := Lib.hid hr10
              have Hq0 := Lib.hid (Hr0.out.below hb Hr0.out.lt)
              have Hq1 := Lib.hid (Hr1.out.below hb Hr1.out.lt)
              have Hq2 := Lib.hid (Hr2.out.below hb Hr2.out.lt)
              have hlt1 := Hr1.out.lt
              have hlt2 := Hr2.out.lt
              obtain ⟨W7, hW7⟩ : ∃ W7, W7 = (w1.setRow (w.heap.size + 1) (arr rb)).setRow (w.heap.size + 1 + 1) (arr (rowOf (val ra % val rb))) := ⟨_, rfl⟩
              have Hr70 : Hid (RowAt W7 w.heap.size 89 (arr (List.replicate 65 0))) := by rw [hW7]; exact (Hq0.out.setRowOther _ (by omega)).setRowOther _ (by omega)
              have Hr71 : Hid (RowAt W7 (w.heap.size + 1) 89 (arr rb)) := by rw [hW7]; exact (Hq1.out.setRow _).setRowOther _ (by omega)
              have Hr72 : Hid (RowAt W7 (w.heap.size + 1 + 1) 89 (arr (rowOf (val ra % val rb)))) := by rw [hW7]; exact (Hq2.out.setRowOther _ (by omega)).setRow _
              have Hr7t : Hid (RowAt W7 g10 89 (arr (rowOf (val ra % val rb)))) := by rw [hW7]; exact (Hr10.out.setRowOther _ (by omega)).setRowOther _ (by omega)
              have HB7 : Hid (Below w.heap.size w W7) := by rw [hW7]; exact below_setRow2 (below_setRow2 (HB.out.trans (hb.mono HB.out.size)) (by omega) _) (by omega) _
              have hlen := length_calls _ _ W7 (u32s_row (L := n) (cap := 65) Hr7t.out Hr7t.out.lt (by rw [HRl.out]; omega) (by rw [HRl.out]; decide))
              have Hlen := Lib.hid hlen
              have Hq2' := Lib.hid (Hq2.out.setRowOther (k := w.heap.size + 1) (arr rb) (by omega))
              have hn65 : (n : Int) ≤ 65 := by omega
              have HW7 := Lib.hid hW7
              clear hb hr10 hW7 hlen hlt1 hlt2
              go_wp2_with (first | (refine load_row rfl (.tmp 6) rfl (w.heap.size + 1 + 1) rfl rb hlB 89 Hq2.out ?_) | (refine load_row rfl (.tmp 10) rfl g10 rfl _ HRl.out 89 Hr10.out ?_) | (refine store_row rfl (.tmp 5) (.tmp 41) rfl (w.heap.size + 1) rfl rb hlB rfl 89 _ Hq1.out (by rw [arr_size, hlA]) ?_) | (refine store_row rfl (.tmp 6) (.tmp 42) rfl (w.heap.size + 1 + 1) rfl _ HRl.out rfl 89 _ Hq2'.out (by rw [arr_size, hlB]) ?_; rw [← HW7.out]))
              refine Hlen.out.mono ?_
              rintro e w8 ⟨rfl, hb8⟩
              have Hb8 := Lib.hid hb8
              have HrX := Lib.hid (Hr72.out.below hb8 Hr72.out.lt)
              clear hb8
              go_wp2
              go_roundw
              case rel => exact ⟨n, _, rb, _, rfl, rfl, Hnext.out.1, Hr70.out.below Hb8.out Hr70.out.lt, Hr71.out.below Hb8.out Hr71.out.lt, HrX.out, HB7.out.trans (Hb8.out.mono HB7.out.size)⟩
              case measure => rw [rowVal_at HrX.out, rowVal_at Hr2.out, rowOf_val]; exact Hnext.out.2.2.2
end Go.Proofs.YtegjcikofmphjaaGreatDoor

