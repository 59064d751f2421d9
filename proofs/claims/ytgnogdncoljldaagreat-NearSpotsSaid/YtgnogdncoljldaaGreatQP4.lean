import Derived.Deep.RegionHeld3
import Derived.Deep.Cut
import Derived.Test.YtgnogdncoljldaaGreatQP3
set_option linter.all false
namespace Go.Proofs.YtgnogdncoljldaaGreat
open Go Go.RowKit Go.Shelf
def Two (W0 : World) (sx sy : Array Value) (pA pS pB pT : Prop) (v7 v8 : Value) (w : World) : Prop :=
 Below W0.heap.size W0 w ∧ Slot pA pS W0.heap.size v7 sx w ∧ Slot pB pT W0.heap.size v8 sy w ∧ (pA → pB → v7 ≠ v8) ∧ (pS → pA) ∧ (pT → pB)
section
variable {W0 : World} {sx sy : Array Value} {pA pS pB pT pA' pS' pB' pT' : Prop} {v7 v8 : Value} {w w' : World}
theorem Two.same (h : Two W0 sx sy pA pS pB pT v7 v8 w) (eA : pA' ↔ pA) (eS : pS' ↔ pS) (eB : pB' ↔ pB) (eT : pT' ↔ pT) (hb : Below w.heap.size w w') : Two W0 sx sy pA' pS' pB' pT' v7 v8 w' := by
 obtain ⟨h1, h2, h3, h4, h5, h6⟩ := h
 exact ⟨h1.trans (hb.mono h1.size), h2.move eA.1 eS.1 (fun g cs _ h => h.below hb h.lt), h3.move eB.1 eT.1 (fun g cs _ h => h.below hb h.lt), fun a b => h4 (eA.1 a) (eB.1 b), fun s => eA.2 (h5 (eS.1 s)), fun s => eB.2 (h6 (eT.1 s))⟩
theorem Two.allocA (h : Two W0 sx sy pA pS pB pT v7 v8 w) (hn : ¬ pA) (hA : pA') (eS : pS' ↔ pS) (eB : pB' ↔ pB) (eT : pT' ↔ pT) : Two W0 sx sy pA' pS' pB' pT' (.pointer (some ⟨w.heap.size, 0, none⟩)) v8 (w.alloc (.cells Tryz.zeroCells155 155)) := by
 obtain ⟨h1, h2, h3, h4, h5, h6⟩ := h
 refine ⟨h1.alloc h1.size _, fun _ => ⟨_, _, rfl, h1.size, by kernel_rfl, RowAt.new _ _ _, fun s => absurd (h5 (eS.1 s)) hn⟩, h3.move eB.1 eT.1 (fun g cs _ h => h.alloc _), fun _ b he => ?_, fun _ => hA, fun s => eB.2 (h6 (eT.1 s))⟩
 obtain ⟨g, cs, e, _, _, hr, _⟩ := h3 (eB.1 b)
 have := hr.lt
 rw [e] at he
 cases he
 omega
theorem Two.allocB (h : Two W0 sx sy pA pS pB pT v7 v8 w) (hn : ¬ pB) (eA : pA' ↔ pA) (eS : pS' ↔ pS) (hB : pB') (eT : pT' ↔ pT) : Two W0 sx sy pA' pS' pB' pT' v7 (.pointer (some ⟨w.heap.size, 0, none⟩)) (w.alloc (.cells Tryz.zeroCells155 155)) := by
 obtain ⟨h1, h2, h3, h4, h5, h6⟩ := h
 refine ⟨h1.alloc h1.size _, h2.move eA.1 eS.1 (fun g cs _ h => h.alloc _), fun _ => ⟨_, _, rfl, h1.size, by kernel_rfl, RowAt.new _ _ _, fun s => absurd (h6 (eT.1 s)) hn⟩, fun a _ he => ?_, fun s => eA.2 (h5 (eS.1 s)), fun _ => hB⟩
 obtain ⟨g, cs, e, _, _, hr, _⟩ := h2 (eA.1 a)
 have := hr.lt
 rw [e] at he
 cases he
 omega
theorem Two.storeA (h : Two W0 sx sy pA pS pB pT v7 v8 w) (hA : pA) (hsx : sx.size = 65) (eA : pA' ↔ pA) (eB : pB' ↔ pB) (eT : pT' ↔ pT) : ∃ g cs, v7 = .pointer (some ⟨g, 0, none⟩) ∧ RowAt w g 155 cs ∧ cs.size = 65 ∧ Two W0 sx sy pA' pS' pB' pT' v7 v8 (w.setRow g sx) := by
 obtain ⟨h1, h2, h3, h4, h5, h6⟩ := h
 obtain ⟨g, cs, e, hg, hs, hr, _⟩ := h2 hA
 refine ⟨g, cs, e, hr, hs, below_setRow2 h1 hg _, fun _ => ⟨g, sx, e, hg, hsx, hr.setRow _, fun _ => rfl⟩, fun b => ?_, fun a b => h4 (eA.1 a) (eB.1 b), fun _ => eA.2 hA, fun s => eB.2 (h6 (eT.1 s))⟩
 have hne := h4 hA (eB.1 b)
 refine h3.move (D6' := True) (D8' := pT') (fun _ => eB.1 b) eT.1 (fun g' cs' e' h => h.setRowOther _ fun he => hne ?_) trivial
 rw [e, e', he]
theorem Two.storeB (h : Two W0 sx sy pA pS pB pT v7 v8 w) (hB : pB) (hsy : sy.size = 65) (eA : pA' ↔ pA) (eS : pS' ↔ pS) (eB : pB' ↔ pB) : ∃ g cs, v8 = .pointer (some ⟨g, 0, none⟩) ∧ RowAt w g 155 cs ∧ cs.size = 65 ∧ Two W0 sx sy pA' pS' pB' pT' v7 v8 (w.setRow g sy) := by
 obtain ⟨h1, h2, h3, h4, h5, h6⟩ := h
 obtain ⟨g, cs, e, hg, hs, hr, _⟩ := h3 hB
 refine ⟨g, cs, e, hr, hs, below_setRow2 h1 hg _, fun a => ?_, fun _ => ⟨g, sy, e, hg, hsy, hr.setRow _, fun _ => rfl⟩, fun a b => h4 (eA.1 a) (eB.1 b), fun s => eA.2 (h5 (eS.1 s)), fun _ => eB.2 hB⟩
 have hne := h4 (eA.1 a) hB
 refine h2.move (D6' := True) (D8' := pS') (fun _ => eA.1 a) eS.1 (fun g' cs' e' h => h.setRowOther _ fun he => hne ?_) trivial
 rw [e, e', he]
theorem And'.iff {D : Nat → Prop} {i j : Nat} (h : j ≠ i) : And' i D j ↔ D j := ⟨And'.ne h, .inr⟩
end
section
variable {o : Oper} {a : Act} {w : World}
theorem run_alloc_row (ho : o.op = .alloc 155) : (execOp a.eval o).run Tryz.prog w = .ok (.value (.pointer (some ⟨w.heap.size, 0, none⟩))) (w.alloc (.cells Tryz.zeroCells155 155)) := by
 unfold execOp
 simp [ho, go_sem]
theorem ent_divide (args : Array Value) (w : World) : (callFunc 162 args).run Tryz.prog w = .ok (.enter 162 args) w := enters_of Tryz.func162 (by kernel_rfl) rfl args w
theorem ent_word (args : Array Value) (w : World) : (callFunc 161 args).run Tryz.prog w = .ok (.enter 161 args) w := enters_of Tryz.func161 (by kernel_rfl) rfl args w
theorem ent_commonWord (args : Array Value) (w : World) : (callFunc 160 args).run Tryz.prog w = .ok (.enter 160 args) w := enters_of Tryz.func160 (by kernel_rfl) rfl args w
theorem ent_split (args : Array Value) (w : World) : (callFunc 119 args).run Tryz.prog w = .ok (.enter 119 args) w := enters_of Tryz.func119 (by kernel_rfl) rfl args w
end
end Go.Proofs.YtgnogdncoljldaaGreat
namespace Go.Proofs.YtgnogdncoljldaaGreat
open Go Go.RowKit Go.Shelf
attribute [local go_sem] Oper.semAt_some
def CutSt (bx b0 m nn : Nat) (R : List Nat) (s : Nat) (W : World) : Prop := ∃ (V : List Nat) (t : Nat), s ≤ m ∧ RowAt W bx 155 (arr V) ∧ Digits V ∧ V.length = 65 ∧ t < nn ∧ Boxed W (b0 + 1 + 1) 118 (.int .u32 (t : Int)) ∧ (∀ j, j < s ∨ m ≤ j → V[j]? = R[j]?) ∧ val (R.drop s) = nn * val (V.drop s) + t ∧
 Boxed W b0 34 (.slice (some ⟨bx, 0, none⟩) m 65) ∧ Boxed W (b0 + 1) 118 (.int .u32 (nn : Int)) ∧ Boxed W (b0 + 1 + 1 + 1) 34 (.slice (some ⟨bx, 0, none⟩) m 65)
theorem CutSt.own (bx b0 m nn : Nat) (R : List Nat) : Own (CutSt bx b0 m nn R) := fun s A B row h hg hr => by
 obtain ⟨V, t, h1, h2, h3, h4, h5, h6, h7, h8, h9, h10, h11⟩ := h
 exact ⟨V, t, h1, RowAt.own bx _ (fun (_ : Unit) => arr V) () _ _ _ h2 hg hr, h3, h4, h5, boxed_own (b0 + 1 + 1) _ (fun (_ : Unit) => _) () _ _ _ h6 hg hr, h7, h8, boxed_own b0 _ (fun (_ : Unit) => _) () _ _ _ h9 hg hr, boxed_own (b0 + 1) _ (fun (_ : Unit) => _) () _ _ _ h10 hg hr, boxed_own (b0 + 1 + 1 + 1) _ (fun (_ : Unit) => _) () _ _ _ h11 hg hr⟩
end Go.Proofs.YtgnogdncoljldaaGreat
namespace Go.Proofs.YtgnogdncoljldaaGreat
open Go Go.RowKit Go.Shelf
attribute [local go_sem] Oper.semAt_some
section
variable {o : Oper} {a : Act} {w : World}
theorem run_assign (x : Operand) (ho : o.op = .assign x) : (execOp a.eval o).run Tryz.prog w = .ok (.value (a.eval x)) w := by
 unfold execOp; rw [ho]; rfl
end
def rowVal (g : Nat) (W : World) : Nat := match W.heap[g]? with | some (.cells cs _ _) => val (cs.toList.map fun v => (intOf v).toNat) | _ => 0
theorem rowVal_at {g : Nat} {W : World} {t : TypeId} {xs : List Nat} (h : RowAt W g t (arr xs)) : rowVal g W = val xs := by
 unfold rowVal
 rw [show W.heap[g]? = _ from h]
 have e : (arr xs).toList.map (fun v => (intOf v).toNat) = xs := by
  simp [arr, Function.comp_def, intOf]
 simp only [e]
structure CdSt (X Y m n : Nat) (ra rb : List Nat) : Prop where
 dA : Digits ra
 dB : Digits rb
 lA : ra.length = 65
 lB : rb.length = 65
 m64 : m ≤ 64
 n64 : n ≤ 64
 zA : ∀ j, m ≤ j → ra[j]?.getD 0 = 0
 zB : ∀ j, n ≤ j → rb[j]?.getD 0 = 0
 top : 0 < n → rb[n - 1]?.getD 0 ≠ 0
 gcd : Nat.gcd (val ra) (val rb) = Nat.gcd X Y
theorem CdSt.start {xs ys : List Nat} (hx : Norm xs) (hy : Norm ys) (h1 : xs.length ≤ 64) (h2 : ys.length ≤ 64) :
  CdSt (val xs) (val ys) xs.length ys.length (xs ++ (List.replicate 65 0).drop xs.length) (ys ++ (List.replicate 65 0).drop ys.length) := by
 have hz : ∀ (l : List Nat), l.length ≤ 64 → ∀ j, l.length ≤ j → (l ++ (List.replicate 65 0).drop l.length)[j]?.getD 0 = 0 := fun l hl j hj => by
  rw [List.getElem?_append_right hj, List.drop_replicate, List.getElem?_replicate]
  split <;> rfl
 have hd : ∀ (l : List Nat), Digits l → Digits (l ++ (List.replicate 65 0).drop l.length) := fun l h => h.append ((digits_replicate 65).drop _)
 have hv : ∀ (l : List Nat), val (l ++ (List.replicate 65 0).drop l.length) = val l := fun l => by rw [val_append, List.drop_replicate, val_zeros]; simp
 refine ⟨hd _ hx.1, hd _ hy.1, by simp; omega, by simp; omega, h1, h2, hz _ h1, hz _ h2, fun h0 => ?_, by rw [hv, hv]⟩
 rw [List.getElem?_append_left (by omega)]
 exact (noZero_last h0).1 hy.2
theorem CdSt.next {X Y m n : Nat} {ra rb : List Nat} (h : CdSt X Y m n ra rb) (h0 : 0 < n) : CdSt X Y n (strip ((rowOf (val ra % val rb)).take n)).length rb (rowOf (val ra % val rb)) ∧ (rowOf (val ra / val rb)).length = 65 ∧ (rowOf (val ra % val rb)).length = 65 ∧ val ra % val rb < val rb := by
 have hp := val_pos_of_digit (h.top h0)
 have hBn := lt_of_zero h.dB (by have := h.lB; have := h.n64; omega) h.zB
 have hlt := Nat.mod_lt (val ra) hp
 have hA := rowOf_lt h.lA h.dA
 have hr : val ra % val rb < B32 ^ 65 := Nat.lt_of_le_of_lt (Nat.mod_le _ _) hA
 have hq : val ra / val rb < B32 ^ 65 := Nat.lt_of_le_of_lt (Nat.div_le_self _ _) hA
 have hc := cd_next (R := rowOf (val ra % val rb)) (n := n) (rowOf_length hr) (by have := h.n64; omega) (by rw [rowOf_val]; omega)
 refine ⟨⟨h.dB, rowOf_digits _, h.lB, rowOf_length hr, h.n64, Nat.le_trans hc.1 h.n64, h.zB, hc.2.1, hc.2.2, ?_⟩, rowOf_length hq, rowOf_length hr, hlt⟩
 rw [rowOf_val, ← h.gcd, Nat.gcd_comm, ← Nat.gcd_rec, Nat.gcd_comm]
set_option maxRecDepth 100000 in
set_option maxHeartbeats 4000000 in
theorem commonDivisor_calls (v u : Value) (xs ys : List Nat) (w : World) (hx : U32s w.heap.size w v xs) (hy : U32s w.heap.size w u ys) (hnx : Norm xs) (hny : Norm ys) (h64 : xs.length ≤ 64) (h64y : ys.length ≤ 64) :
  Calls Tryz.prog 124 #[v, u] w fun e w' => ∃ r : List Nat, e = .returned (.agg (arr r)) ∧ r.length = 65 ∧ Digits r ∧ val r = Nat.gcd (val xs) (val ys) ∧ Below w.heap.size w w' := by
 obtain ⟨W3, hW3⟩ : ∃ W3, W3 = ((w.alloc (.cells Tryz.zeroCells155 155)).alloc (.cells Tryz.zeroCells155 155)).alloc (.cells Tryz.zeroCells155 155) := ⟨_, rfl⟩
 have HB3 : Hid (Below w.heap.size w W3) := by rw [hW3]; exact (((Below.refl _ w).alloc (Nat.le_refl _) _).alloc (by simp) _).alloc (by simp; omega) _
 have HR0 : Hid (RowAt W3 w.heap.size 155 (arr (List.replicate 65 0))) := by rw [hW3, ← zero_row]; exact ((RowAt.new w _ _).alloc _).alloc _
 have HR1 : Hid (RowAt W3 (w.heap.size + 1) 155 (arr (List.replicate 65 0))) := by rw [hW3, ← zero_row]; exact (RowAt.new' _ _ (by simp)).alloc _
 have HR2 : Hid (RowAt W3 (w.heap.size + 1 + 1) 155 (arr (List.replicate 65 0))) := by rw [hW3, ← zero_row]; exact RowAt.new' _ _ (by simp)
 have HW3 := Lib.hid hW3
 have Hx := Lib.hid hx
 have Hy := Lib.hid hy
 have Hstart := Lib.hid (CdSt.start hnx hny h64 h64y)
 clear hW3 hx hy hnx hny
 go_enter Tryz.func124, Tryz.ntmps124
 go_wp2_with fail
 rw [← HW3.out]
 refine wp_region_inv (fun D a w' => ∃ v7 v8 v11 v12 v13 v14 v15 v16, a = { tmps := #[v, u, undef, undef, (.pointer (some ⟨w.heap.size, 0, none⟩)), (.pointer (some ⟨w.heap.size + 1, 0, none⟩)), (.pointer (some ⟨w.heap.size + 1 + 1, 0, none⟩)), v7, v8, undef, undef, v11, v12, v13, v14, v15, v16, undef, undef, undef, undef, undef, undef, undef, undef, undef, undef, undef, undef, undef, undef, undef, undef, undef, undef, undef, undef, undef, undef, undef, undef, undef, undef, undef, undef, undef, undef, undef], defers := [] } ∧ (D 0 → v11 = .slice (some ⟨w.heap.size + 1, 0, none⟩) 65 65) ∧ (D 1 → v12 = v) ∧ (D 2 → v13 = .int .i64 (xs.length : Nat)) ∧ (D 3 → v14 = .slice (some ⟨w.heap.size + 1 + 1, 0, none⟩) 65 65) ∧ (D 4 → v15 = u) ∧ (D 5 → v16 = .int .i64 (ys.length : Nat)) ∧ (D 6 → v7 = .int .i64 (xs.length : Nat)) ∧ (D 7 → v8 = .int .i64 (ys.length : Nat)) ∧ RowAt w' (w.heap.size) 155 (arr (List.replicate 65 0)) ∧ (¬ D 2 → RowAt w' (w.heap.size + 1) 155 (arr (List.replicate 65 0))) ∧ (D 2 → RowAt w' (w.heap.size + 1) 155 (arr (xs ++ (List.replicate 65 0).drop xs.length))) ∧ (¬ D 5 → RowAt w' (w.heap.size + 1 + 1) 155 (arr (List.replicate 65 0))) ∧ (D 5 → RowAt w' (w.heap.size + 1 + 1) 155 (arr (ys ++ (List.replicate 65 0).drop ys.length))) ∧ Below w.heap.size w w')
  (by kernel_rfl) (by kernel_rfl) ?startA ?stepA ?finA
 case startA => exact ⟨undef, undef, undef, undef, undef, undef, undef, undef, rfl, False.elim, False.elim, False.elim, False.elim, False.elim, False.elim, False.elim, False.elim, HR0.out, fun _ => HR1.out, False.elim, fun _ => HR2.out, False.elim, HB3.out.drew⟩
 case stepA =>
  rintro i o D a w1 hio hn he ⟨v7, v8, v11, v12, v13, v14, v15, v16, rfl, f0, f1, f2, f3, f4, f5, f6, f7, k0, k1, k2, k3, k4, k5⟩
  rcases i with _ | _ | _ | _ | _ | _ | _ | _ | i
  rotate_left 8
  ·exact absurd hio (by simp)
  all_goals (obtain rfl := Option.some.inj (hio.symm.trans (by rfl)))
  ·exact wp_of_run (run_slice0 (.tmp 5) rfl (w.heap.size + 1) rfl) ⟨_, _, _, _, _, _, _, _, rfl, put_eq rfl, put_ne (by decide) f1, put_ne (by decide) f2, put_ne (by decide) f3, put_ne (by decide) f4, put_ne (by decide) f5, put_ne (by decide) f6, put_ne (by decide) f7, k0, fun h => k1 fun h' => h (.inr h'), put_ne (by decide) k2, fun h => k3 fun h' => h (.inr h'), put_ne (by decide) k4, k5⟩
  ·exact wp_of_run (run_move (.tmp 0) rfl) ⟨_, _, _, _, _, _, _, _, rfl, put_ne (by decide) f0, put_eq rfl, put_ne (by decide) f2, put_ne (by decide) f3, put_ne (by decide) f4, put_ne (by decide) f5, put_ne (by decide) f6, put_ne (by decide) f7, k0, fun h => k1 fun h' => h (.inr h'), put_ne (by decide) k2, fun h => k3 fun h' => h (.inr h'), put_ne (by decide) k4, k5⟩
  ·obtain rfl := (f0 (he ⟨0, .data⟩ (by simp) rfl)).symm
   refine wp_copy_digits (.tmp 11) (.tmp 12) rfl (w.heap.size + 1) w.heap.size v xs _ 155 rfl (f1 (he ⟨1, .data⟩ (by simp) rfl)) (Hx.out.below k5) (k1 hn) (by simp) (by omega) fun w2 hr2 ht2 => ?_
   exact ⟨_, _, _, _, _, _, _, _, rfl, put_ne (by decide) f0, put_ne (by decide) f1, put_eq rfl, put_ne (by decide) f3, put_ne (by decide) f4, put_ne (by decide) f5, put_ne (by decide) f6, put_ne (by decide) f7, (ht2.block _ (by omega)).trans k0, fun h => absurd (.inl rfl) h, fun _ => hr2, fun h => (ht2.block _ (by omega)).trans (k3 fun h' => h (.inr h')), fun h => (ht2.block _ (by omega)).trans (k4 (And'.ne (by decide) h)), ⟨ht2.os.trans k5.os, ht2.tape.trans k5.tape, ht2.output.trans k5.output, by rw [ht2.size]; exact k5.size, fun k hk => (ht2.block k (by omega)).trans (k5.block k hk)⟩⟩
  ·exact wp_of_run (run_slice0 (.tmp 6) rfl (w.heap.size + 1 + 1) rfl) ⟨_, _, _, _, _, _, _, _, rfl, put_ne (by decide) f0, put_ne (by decide) f1, put_ne (by decide) f2, put_eq rfl, put_ne (by decide) f4, put_ne (by decide) f5, put_ne (by decide) f6, put_ne (by decide) f7, k0, fun h => k1 fun h' => h (.inr h'), put_ne (by decide) k2, fun h => k3 fun h' => h (.inr h'), put_ne (by decide) k4, k5⟩
  ·exact wp_of_run (run_move (.tmp 1) rfl) ⟨_, _, _, _, _, _, _, _, rfl, put_ne (by decide) f0, put_ne (by decide) f1, put_ne (by decide) f2, put_ne (by decide) f3, put_eq rfl, put_ne (by decide) f5, put_ne (by decide) f6, put_ne (by decide) f7, k0, fun h => k1 fun h' => h (.inr h'), put_ne (by decide) k2, fun h => k3 fun h' => h (.inr h'), put_ne (by decide) k4, k5⟩
  ·obtain rfl := (f3 (he ⟨3, .data⟩ (by simp) rfl)).symm
   refine wp_copy_digits (.tmp 14) (.tmp 15) rfl (w.heap.size + 1 + 1) w.heap.size u ys _ 155 rfl (f4 (he ⟨4, .data⟩ (by simp) rfl)) (Hy.out.below k5) (k3 hn) (by simp) (by omega) fun w2 hr2 ht2 => ?_
   exact ⟨_, _, _, _, _, _, _, _, rfl, put_ne (by decide) f0, put_ne (by decide) f1, put_ne (by decide) f2, put_ne (by decide) f3, put_ne (by decide) f4, put_eq rfl, put_ne (by decide) f6, put_ne (by decide) f7, (ht2.block _ (by omega)).trans k0, fun h => (ht2.block _ (by omega)).trans (k1 fun h' => h (.inr h')), fun h => (ht2.block _ (by omega)).trans (k2 (And'.ne (by decide) h)), fun h => absurd (.inl rfl) h, fun _ => hr2, ⟨ht2.os.trans k5.os, ht2.tape.trans k5.tape, ht2.output.trans k5.output, by rw [ht2.size]; exact k5.size, fun k hk => (ht2.block k (by omega)).trans (k5.block k hk)⟩⟩
  ·obtain rfl := (f2 (he ⟨2, .data⟩ (by simp) rfl)).symm
   exact wp_of_run (run_assign (.tmp 13) rfl) ⟨_, _, _, _, _, _, _, _, rfl, put_ne (by decide) f0, put_ne (by decide) f1, put_ne (by decide) f2, put_ne (by decide) f3, put_ne (by decide) f4, put_ne (by decide) f5, put_eq rfl, put_ne (by decide) f7, k0, fun h => k1 fun h' => h (.inr h'), put_ne (by decide) k2, fun h => k3 fun h' => h (.inr h'), put_ne (by decide) k4, k5⟩
  ·obtain rfl := (f5 (he ⟨5, .data⟩ (by simp) rfl)).symm
   exact wp_of_run (run_assign (.tmp 16) rfl) ⟨_, _, _, _, _, _, _, _, rfl, put_ne (by decide) f0, put_ne (by decide) f1, put_ne (by decide) f2, put_ne (by decide) f3, put_ne (by decide) f4, put_ne (by decide) f5, put_ne (by decide) f6, put_eq rfl, k0, fun h => k1 fun h' => h (.inr h'), put_ne (by decide) k2, fun h => k3 fun h' => h (.inr h'), put_ne (by decide) k4, k5⟩
 case finA =>
  rintro D a w1 hD ⟨v7, v8, v11, v12, v13, v14, v15, v16, rfl, f0, f1, f2, f3, f4, f5, f6, f7, k0, k1, k2, k3, k4, k5⟩
  obtain rfl := f6 (hD 6 (by simp))
  obtain rfl := f7 (hD 7 (by simp))
  have k2 := k2 (hD 2 (by simp))
  have k4 := k4 (hD 5 (by simp))
  clear k1 k3 f0 f1 f2 f3 f4 f5 f6 f7 hD HR0 HR1 HR2 HB3
  go_wp2
  go_loopw [7, 8] (fun c d wr => ∃ (m n : Nat) (ra rb : List Nat), c = .int .i64 (m : Nat) ∧ d = .int .i64 (n : Nat) ∧ CdSt (val xs) (val ys) m n ra rb ∧ RowAt wr w.heap.size 155 (arr (List.replicate 65 0)) ∧ RowAt wr (w.heap.size + 1) 155 (arr ra) ∧ RowAt wr (w.heap.size + 1 + 1) 155 (arr rb) ∧ Below w.heap.size w wr)
   (fun _ _ wr => rowVal (w.heap.size + 1 + 1) wr)
  case atStart => exact ⟨_, _, _, _, rfl, rfl, Hstart.out, k0, k2, k4, k5⟩
  case round =>
   obtain ⟨m, n, ra, rb, rfl, rfl, hst, hr0, hr1, hr2, hB⟩ := hrel
   by_cases h0 : n = 0
   ·subst h0
    have hvB : val rb = 0 := by have := val_take_of_zero hst.zB; rw [← this]; simp [val]
    have Hg : Hid (val ra = Nat.gcd (val xs) (val ys)) := by show _ = _; rw [← hst.gcd, hvB, Nat.gcd_zero_right]
    have Hst := Lib.hid hst
    have Hr0 := Lib.hid hr0
    have Hr1 := Lib.hid hr1
    have HB := Lib.hid hB
    clear hst hr0 hr1 hr2 hB hvB
    go_wp2_with (first
     | (refine load_row rfl (.tmp 5) rfl (w.heap.size + 1) rfl ra Hst.out.lA 155 Hr1.out ?_)
     | (refine store_row rfl (.tmp 4) (.tmp 47) rfl w.heap.size rfl ra Hst.out.lA rfl 155 _ Hr0.out (by rw [arr_size, List.length_replicate]) ?_))
    exact ret_row rfl w.heap.size rfl ra Hst.out.lA 155 (Hr0.out.setRow _) ⟨_, rfl, Hst.out.lA, Hst.out.dA, Hg.out, below_setRow2 HB.out (Nat.le_refl _) _⟩
   ·have h0n : 0 < n := Nat.pos_of_ne_zero h0
    have h0I : (0 : Int) < (n : Int) := by omega
    have hm64 := hst.m64
    have hn64 := hst.n64
    have Hr0 := Lib.hid hr0
    have Hr1 := Lib.hid hr1
    have Hr2 := Lib.hid hr2
    have HB := Lib.hid hB
    have Hst := Lib.hid hst
    have hlA := hst.lA
    have hlB := hst.lB
    have HvA : Hid (val (ra.take m) = val ra) := val_take_of_zero hst.zA
    have HvB : Hid (val (rb.take n) = val rb) := val_take_of_zero hst.zB
    clear hst hr0 hr1 hr2 hB h0
    by_cases hs : m ≤ 2 ∧ n ≤ 2
    ·have hs1 : (m : Int) ≤ 2 := by omega
     have hs2 : (n : Int) ≤ 2 := by omega
     have hlim : ∀ l : List Nat, Digits l → l.length ≤ 2 → val l < 18446744073709551616 := fun l hd hl => Nat.lt_of_lt_of_le (val_lt hd) (Nat.le_trans (Nat.pow_le_pow_right B32_pos hl) (by decide))
     have HA64 : Hid (val ra < 18446744073709551616) := by show _ < _; rw [← HvA.out]; exact hlim _ (Hst.out.dA.take _) (by simp; omega)
     have HB64 : Hid (val rb < 18446744073709551616) := by show _ < _; rw [← HvB.out]; exact hlim _ (Hst.out.dB.take _) (by simp; omega)
     have HG64 : Hid (Nat.gcd (val ra) (val rb) < 18446744073709551616) := Nat.lt_of_le_of_lt (gcd_le_left' (val_pos_of_digit (Hst.out.top h0n))) HB64.out
     have Hgcd := Lib.hid Hst.out.gcd
     have HWA : Hid (∀ W2, Below wr.heap.size wr W2 → Calls Tryz.prog 161 #[.slice (some ⟨w.heap.size + 1, 0, none⟩) m 65] W2 fun e w' => e = .returned (.int .u64 (val ra : Nat)) ∧ Below W2.heap.size W2 w') := fun W2 hb => by
      rw [← HvA.out]
      exact word_calls _ _ W2 (u32s_row (Hr1.out.below hb Hr1.out.lt) (Nat.lt_of_lt_of_le Hr1.out.lt hb.size) (by omega) (by rw [hlA]; decide)) (Hst.out.dA.take _) (by simp; omega)
     have HWB : Hid (∀ W2, Below wr.heap.size wr W2 → Calls Tryz.prog 161 #[.slice (some ⟨w.heap.size + 1 + 1, 0, none⟩) n 65] W2 fun e w' => e = .returned (.int .u64 (val rb : Nat)) ∧ Below W2.heap.size W2 w') := fun W2 hb => by
      rw [← HvB.out]
      exact word_calls _ _ W2 (u32s_row (Hr2.out.below hb Hr2.out.lt) (Nat.lt_of_lt_of_le Hr2.out.lt hb.size) (by omega) (by rw [hlB]; decide)) (Hst.out.dB.take _) (by simp; omega)
     clear hlim
     go_wp2
     refine wp_region_inv (fun D a w' => ∃ v25 v26 v27 v28 v29 v30 v31 v32, a = { tmps := #[v, u, undef, undef, (.pointer (some ⟨w.heap.size, 0, none⟩)), (.pointer (some ⟨w.heap.size + 1, 0, none⟩)), (.pointer (some ⟨w.heap.size + 1 + 1, 0, none⟩)), (.int .i64 (m : Int)), (.int .i64 (n : Int)), u9, u10, v11, v12, v13, v14, v15, v16, (.int .i64 (n : Int)), (.bool true), (.int .i64 (m : Int)), (.bool true), (.bool true), (.int .i64 (n : Int)), (.bool true), (.bool true), v25, v26, v27, v28, v29, v30, v31, v32, u33, u34, u35, u36, u37, u38, u39, u40, u41, u42, u43, u44, u45, u46, undef], defers := [] } ∧ (D 0 → v25 = .int .i64 (m : Nat)) ∧ (D 1 → v26 = .slice (some ⟨w.heap.size + 1, 0, none⟩) m 65) ∧ (D 2 → v27 = .int .u64 (val ra : Nat)) ∧ (D 3 → v28 = .int .i64 (n : Nat)) ∧ (D 4 → v29 = .slice (some ⟨w.heap.size + 1 + 1, 0, none⟩) n 65) ∧ (D 5 → v30 = .int .u64 (val rb : Nat)) ∧ (D 6 → v31 = .int .u64 (Nat.gcd (val ra) (val rb) : Nat)) ∧ (D 7 → v32 = .agg (arr (split2 (Nat.gcd (val ra) (val rb))))) ∧ (D 8 → D 2 ∧ D 5 ∧ D 6 ∧ D 7) ∧ (∃ W2, Below wr.heap.size wr W2 ∧ (¬ D 8 → w' = W2) ∧ (D 8 → w' = W2.setRow (w.heap.size) (arr (split2 (Nat.gcd (val ra) (val rb)))))))
      (by kernel_rfl) (by kernel_rfl) ?startB ?stepB ?finB
     case startB => exact ⟨u25, u26, u27, u28, u29, u30, u31, u32, rfl, False.elim, False.elim, False.elim, False.elim, False.elim, False.elim, False.elim, False.elim, False.elim, ⟨wr.drew, (Below.refl _ _).drew, fun _ => rfl, False.elim⟩⟩
     case stepB =>
      rintro i o D a w1 hio hn he ⟨v25, v26, v27, v28, v29, v30, v31, v32, rfl, f0, f1, f2, f3, f4, f5, f6, f7, k0, k1⟩
      rcases i with _ | _ | _ | _ | _ | _ | _ | _ | _ | i
      rotate_left 9
      ·exact absurd hio (by simp)
      all_goals (obtain rfl := Option.some.inj (hio.symm.trans (by rfl)))
      ·obtain ⟨W2, hb, e0, e1⟩ := k1
       exact wp_of_run (run_move (.tmp 7) rfl) ⟨_, _, _, _, _, _, _, _, rfl, put_eq rfl, put_ne (by decide) f1, put_ne (by decide) f2, put_ne (by decide) f3, put_ne (by decide) f4, put_ne (by decide) f5, put_ne (by decide) f6, put_ne (by decide) f7, fun e => have h := k0 (And'.ne (by decide) e); ⟨.inr h.1, .inr h.2.1, .inr h.2.2.1, .inr h.2.2.2⟩, ⟨W2, hb, fun h => e0 fun h' => h (.inr h'), fun h => e1 (And'.ne (by decide) h)⟩⟩
      ·obtain ⟨W2, hb, e0, e1⟩ := k1
       obtain rfl := (f0 (he ⟨0, .data⟩ (by simp) rfl)).symm
       exact wp_of_run (run_slice1 (.tmp 5) (.tmp 25) rfl (w.heap.size + 1) m rfl rfl (by omega)) ⟨_, _, _, _, _, _, _, _, rfl, put_ne (by decide) f0, put_eq rfl, put_ne (by decide) f2, put_ne (by decide) f3, put_ne (by decide) f4, put_ne (by decide) f5, put_ne (by decide) f6, put_ne (by decide) f7, fun e => have h := k0 (And'.ne (by decide) e); ⟨.inr h.1, .inr h.2.1, .inr h.2.2.1, .inr h.2.2.2⟩, ⟨W2, hb, fun h => e0 fun h' => h (.inr h'), fun h => e1 (And'.ne (by decide) h)⟩⟩
      ·obtain ⟨W2, hb, e0, e1⟩ := k1
       have hn8 : ¬ D 8 := fun h => hn (k0 h).1
       obtain rfl := e0 hn8
       obtain rfl := (f1 (he ⟨1, .data⟩ (by simp) rfl)).symm
       exact wp_of_call (run_enter1 161 (.tmp 26) _ rfl _ rfl ent_word) (HWA.out _ hb) fun W3 h3 => ⟨_, _, _, _, _, _, _, _, rfl, put_ne (by decide) f0, put_ne (by decide) f1, put_eq rfl, put_ne (by decide) f3, put_ne (by decide) f4, put_ne (by decide) f5, put_ne (by decide) f6, put_ne (by decide) f7, fun e => absurd (And'.ne (by decide) e) hn8, ⟨W3, hb.trans (h3.mono hb.size), fun _ => rfl, fun h => absurd (And'.ne (by decide) h) hn8⟩⟩
      ·obtain ⟨W2, hb, e0, e1⟩ := k1
       exact wp_of_run (run_move (.tmp 8) rfl) ⟨_, _, _, _, _, _, _, _, rfl, put_ne (by decide) f0, put_ne (by decide) f1, put_ne (by decide) f2, put_eq rfl, put_ne (by decide) f4, put_ne (by decide) f5, put_ne (by decide) f6, put_ne (by decide) f7, fun e => have h := k0 (And'.ne (by decide) e); ⟨.inr h.1, .inr h.2.1, .inr h.2.2.1, .inr h.2.2.2⟩, ⟨W2, hb, fun h => e0 fun h' => h (.inr h'), fun h => e1 (And'.ne (by decide) h)⟩⟩
      ·obtain ⟨W2, hb, e0, e1⟩ := k1
       obtain rfl := (f3 (he ⟨3, .data⟩ (by simp) rfl)).symm
       exact wp_of_run (run_slice1 (.tmp 6) (.tmp 28) rfl (w.heap.size + 1 + 1) n rfl rfl (by omega)) ⟨_, _, _, _, _, _, _, _, rfl, put_ne (by decide) f0, put_ne (by decide) f1, put_ne (by decide) f2, put_ne (by decide) f3, put_eq rfl, put_ne (by decide) f5, put_ne (by decide) f6, put_ne (by decide) f7, fun e => have h := k0 (And'.ne (by decide) e); ⟨.inr h.1, .inr h.2.1, .inr h.2.2.1, .inr h.2.2.2⟩, ⟨W2, hb, fun h => e0 fun h' => h (.inr h'), fun h => e1 (And'.ne (by decide) h)⟩⟩
      ·obtain ⟨W2, hb, e0, e1⟩ := k1
       have hn8 : ¬ D 8 := fun h => hn (k0 h).2.1
       obtain rfl := e0 hn8
       obtain rfl := (f4 (he ⟨4, .data⟩ (by simp) rfl)).symm
       exact wp_of_call (run_enter1 161 (.tmp 29) _ rfl _ rfl ent_word) (HWB.out _ hb) fun W3 h3 => ⟨_, _, _, _, _, _, _, _, rfl, put_ne (by decide) f0, put_ne (by decide) f1, put_ne (by decide) f2, put_ne (by decide) f3, put_ne (by decide) f4, put_eq rfl, put_ne (by decide) f6, put_ne (by decide) f7, fun e => absurd (And'.ne (by decide) e) hn8, ⟨W3, hb.trans (h3.mono hb.size), fun _ => rfl, fun h => absurd (And'.ne (by decide) h) hn8⟩⟩
      ·obtain ⟨W2, hb, e0, e1⟩ := k1
       have hn8 : ¬ D 8 := fun h => hn (k0 h).2.2.1
       obtain rfl := e0 hn8
       obtain rfl := (f2 (he ⟨2, .data⟩ (by simp) rfl)).symm
       obtain rfl := (f5 (he ⟨5, .data⟩ (by simp) rfl)).symm
       exact wp_of_call (run_enter2 160 (.tmp 27) (.tmp 30) _ rfl _ _ rfl rfl ent_commonWord) (commonWord_calls (val ra) (val rb) HA64.out HB64.out w1) fun W3 h3 => ⟨_, _, _, _, _, _, _, _, rfl, put_ne (by decide) f0, put_ne (by decide) f1, put_ne (by decide) f2, put_ne (by decide) f3, put_ne (by decide) f4, put_ne (by decide) f5, put_eq rfl, put_ne (by decide) f7, fun e => absurd (And'.ne (by decide) e) hn8, ⟨W3, hb.trans (h3.mono hb.size), fun _ => rfl, fun h => absurd (And'.ne (by decide) h) hn8⟩⟩
      ·obtain ⟨W2, hb, e0, e1⟩ := k1
       have hn8 : ¬ D 8 := fun h => hn (k0 h).2.2.2
       obtain rfl := e0 hn8
       obtain rfl := (f6 (he ⟨6, .data⟩ (by simp) rfl)).symm
       exact wp_of_call (run_enter1 119 (.tmp 31) _ rfl _ rfl ent_split) (split_calls _ HG64.out w1) fun W3 h3 => ⟨_, _, _, _, _, _, _, _, rfl, put_ne (by decide) f0, put_ne (by decide) f1, put_ne (by decide) f2, put_ne (by decide) f3, put_ne (by decide) f4, put_ne (by decide) f5, put_ne (by decide) f6, put_eq rfl, fun e => absurd (And'.ne (by decide) e) hn8, ⟨W3, hb.trans (h3.mono hb.size), fun _ => rfl, fun h => absurd (And'.ne (by decide) h) hn8⟩⟩
      ·obtain ⟨W2, hb, e0, e1⟩ := k1
       obtain rfl := e0 hn
       obtain rfl := (f7 (he ⟨7, .data⟩ (by simp) rfl)).symm
       refine wp_store_row 155 (.tmp 4) (.tmp 32) rfl (w.heap.size) _ rfl rfl 155 _ (Hr0.out.below hb Hr0.out.lt) (by rw [row_info, arr_size, split2_length]) (by rw [arr_size, arr_size, split2_length, List.length_replicate]) (arr_one _) ?_
       exact ⟨_, _, _, _, _, _, _, _, rfl, put_ne (by decide) f0, put_ne (by decide) f1, put_ne (by decide) f2, put_ne (by decide) f3, put_ne (by decide) f4, put_ne (by decide) f5, put_ne (by decide) f6, put_ne (by decide) f7, fun _ => ⟨.inr (he ⟨2, .phase⟩ (by simp) rfl), .inr (he ⟨5, .phase⟩ (by simp) rfl), .inr (he ⟨6, .phase⟩ (by simp) rfl), .inr (he ⟨7, .phase⟩ (by simp) rfl)⟩, ⟨w1, hb, fun h => absurd (.inl rfl) h, fun _ => rfl⟩⟩
     case finB =>
      rintro D a w1 hD ⟨v25, v26, v27, v28, v29, v30, v31, v32, rfl, f0, f1, f2, f3, f4, f5, f6, f7, k0, k1⟩
      obtain ⟨W2, hb, -, e1⟩ := k1
      obtain rfl := e1 (hD 8 (by simp))
      clear f0 f1 f2 f3 f4 f5 f6 f7 k0 hD e1
      go_wp2
      exact ret_row rfl (w.heap.size) rfl _ (split2_length _) 155 ((Hr0.out.below hb Hr0.out.lt).setRow _) ⟨_, rfl, split2_length _, split2_digits HG64.out, by rw [split2, split2_value, Hgcd.out], below_setRow2 (HB.out.trans (hb.mono HB.out.size)) (Nat.le_refl _) _⟩
    ·have Hnext := Lib.hid (Hst.out.next h0n)
     have HQl : Hid ((rowOf (val ra / val rb)).length = 65) := Hnext.out.2.1
     have HRl : Hid ((rowOf (val ra % val rb)).length = 65) := Hnext.out.2.2.1
     have hs2 : ¬ ((m : Int) ≤ 2 ∧ (n : Int) ≤ 2) := by omega
     have HDV : Hid (∀ W2, Below wr.heap.size wr W2 → Calls Tryz.prog 162 #[.slice (some ⟨w.heap.size + 1, 0, none⟩) m 65, .slice (some ⟨w.heap.size + 1 + 1, 0, none⟩) n 65] W2 fun e w' => e = .returned (.tuple #[.agg (arr (rowOf (val ra / val rb))), .agg (arr (rowOf (val ra % val rb)))]) ∧ Below W2.heap.size W2 w') := fun W2 hb => by
      have hc := divide_calls (.slice (some ⟨w.heap.size + 1, 0, none⟩) m 65) (.slice (some ⟨w.heap.size + 1 + 1, 0, none⟩) n 65) _ _ W2 (u32s_row (Hr1.out.below hb Hr1.out.lt) (Nat.lt_of_lt_of_le Hr1.out.lt hb.size) (by omega) (by rw [hlA]; decide)) (u32s_row (L := n) (cap := 65) (Hr2.out.below hb Hr2.out.lt) (Nat.lt_of_lt_of_le Hr2.out.lt hb.size) (by omega) (by rw [hlB]; decide)) (Hst.out.dA.take _) (Hst.out.dB.take _) (by simp; omega) (by simp; omega) (n - 1) (by simp; omega) (by rw [List.getElem?_take_of_lt (by omega)]; exact Hst.out.top h0n)
      refine hc.mono ?_
      rintro e w' ⟨q, r, rfl, hq, hr, hdq, hdr, hvq, hvr, hb2⟩
      rw [HvA.out, HvB.out] at hvq hvr
      rw [rowOf_eq hq hdq, rowOf_eq hr hdr, hvq, hvr]
      exact ⟨rfl, hb2⟩
     by_cases hm2 : (m : Int) ≤ 2
     ·go_wp2
      refine wp_region_inv (fun D a w' => ∃ v9 v10 v33 v34 v35 v36 v37 v38 v39 v40, a = { tmps := #[v, u, undef, undef, (.pointer (some ⟨w.heap.size, 0, none⟩)), (.pointer (some ⟨w.heap.size + 1, 0, none⟩)), (.pointer (some ⟨w.heap.size + 1 + 1, 0, none⟩)), (.int .i64 (m : Int)), (.int .i64 (n : Int)), v9, v10, v11, v12, v13, v14, v15, v16, (.int .i64 (n : Int)), (.bool true), (.int .i64 (m : Int)), (.bool true), (.bool true), (.int .i64 (n : Int)), (.bool (decide ((n : Int) ≤ 2))), (.bool (decide ((n : Int) ≤ 2))), u25, u26, u27, u28, u29, u30, u31, u32, v33, v34, v35, v36, v37, v38, v39, v40, u41, u42, u43, u44, u45, u46, undef], defers := [] } ∧ (D 0 → v34 = .int .i64 (m : Nat)) ∧ (D 1 → v35 = .slice (some ⟨w.heap.size + 1, 0, none⟩) m 65) ∧ (D 2 → v36 = .int .i64 (n : Nat)) ∧ (D 3 → v37 = .slice (some ⟨w.heap.size + 1 + 1, 0, none⟩) n 65) ∧ (D 4 → v38 = .tuple #[.agg (arr (rowOf (val ra / val rb))), .agg (arr (rowOf (val ra % val rb)))]) ∧ (D 5 → v33 = .tuple #[.agg (arr (rowOf (val ra / val rb))), .agg (arr (rowOf (val ra % val rb)))]) ∧ (D 6 → v39 = .agg (arr (rowOf (val ra / val rb)))) ∧ (D 7 → v40 = .agg (arr (rowOf (val ra % val rb)))) ∧ Two wr (arr (rowOf (val ra / val rb))) (arr (rowOf (val ra % val rb))) (D 8) (D 10) (D 9) (D 11) v9 v10 w')
       (by kernel_rfl) (by kernel_rfl) ?startC ?stepC ?finC
      case startC => exact ⟨u9, u10, u33, u34, u35, u36, u37, u38, u39, u40, rfl, False.elim, False.elim, False.elim, False.elim, False.elim, False.elim, False.elim, False.elim, ⟨(Below.refl _ _).drew, False.elim, False.elim, False.elim, False.elim, False.elim⟩⟩
      case stepC =>
       rintro i o D a w1 hio hn he ⟨v9, v10, v33, v34, v35, v36, v37, v38, v39, v40, rfl, f0, f1, f2, f3, f4, f5, f6, f7, k0⟩
       rcases i with _ | _ | _ | _ | _ | _ | _ | _ | _ | _ | _ | _ | i
       rotate_left 12
       ·exact absurd hio (by simp)
       all_goals (obtain rfl := Option.some.inj (hio.symm.trans (by rfl)))
       ·exact wp_of_run (run_move (.tmp 7) rfl) ⟨_, _, _, _, _, _, _, _, _, _, rfl, put_eq rfl, put_ne (by decide) f1, put_ne (by decide) f2, put_ne (by decide) f3, put_ne (by decide) f4, put_ne (by decide) f5, put_ne (by decide) f6, put_ne (by decide) f7, k0.same (And'.iff (by decide)) (And'.iff (by decide)) (And'.iff (by decide)) (And'.iff (by decide)) (Below.refl _ _)⟩
       ·obtain rfl := (f0 (he ⟨0, .data⟩ (by simp) rfl)).symm
        exact wp_of_run (run_slice1 (.tmp 5) (.tmp 34) rfl (w.heap.size + 1) m rfl rfl (by omega)) ⟨_, _, _, _, _, _, _, _, _, _, rfl, put_ne (by decide) f0, put_eq rfl, put_ne (by decide) f2, put_ne (by decide) f3, put_ne (by decide) f4, put_ne (by decide) f5, put_ne (by decide) f6, put_ne (by decide) f7, k0.same (And'.iff (by decide)) (And'.iff (by decide)) (And'.iff (by decide)) (And'.iff (by decide)) (Below.refl _ _)⟩
       ·exact wp_of_run (run_move (.tmp 8) rfl) ⟨_, _, _, _, _, _, _, _, _, _, rfl, put_ne (by decide) f0, put_ne (by decide) f1, put_eq rfl, put_ne (by decide) f3, put_ne (by decide) f4, put_ne (by decide) f5, put_ne (by decide) f6, put_ne (by decide) f7, k0.same (And'.iff (by decide)) (And'.iff (by decide)) (And'.iff (by decide)) (And'.iff (by decide)) (Below.refl _ _)⟩
       ·obtain rfl := (f2 (he ⟨2, .data⟩ (by simp) rfl)).symm
        exact wp_of_run (run_slice1 (.tmp 6) (.tmp 36) rfl (w.heap.size + 1 + 1) n rfl rfl (by omega)) ⟨_, _, _, _, _, _, _, _, _, _, rfl, put_ne (by decide) f0, put_ne (by decide) f1, put_ne (by decide) f2, put_eq rfl, put_ne (by decide) f4, put_ne (by decide) f5, put_ne (by decide) f6, put_ne (by decide) f7, k0.same (And'.iff (by decide)) (And'.iff (by decide)) (And'.iff (by decide)) (And'.iff (by decide)) (Below.refl _ _)⟩
       ·obtain rfl := (f1 (he ⟨1, .data⟩ (by simp) rfl)).symm
        obtain rfl := (f3 (he ⟨3, .data⟩ (by simp) rfl)).symm
        exact wp_of_call (run_enter2 162 (.tmp 35) (.tmp 37) _ rfl _ _ rfl rfl ent_divide) (HDV.out w1 k0.1) fun W3 h3 => ⟨_, _, _, _, _, _, _, _, _, _, rfl, put_ne (by decide) f0, put_ne (by decide) f1, put_ne (by decide) f2, put_ne (by decide) f3, put_eq rfl, put_ne (by decide) f5, put_ne (by decide) f6, put_ne (by decide) f7, k0.same (And'.iff (by decide)) (And'.iff (by decide)) (And'.iff (by decide)) (And'.iff (by decide)) h3⟩
       ·obtain rfl := (f4 (he ⟨4, .data⟩ (by simp) rfl)).symm
        exact wp_of_run (run_move (.tmp 38) rfl) ⟨_, _, _, _, _, _, _, _, _, _, rfl, put_ne (by decide) f0, put_ne (by decide) f1, put_ne (by decide) f2, put_ne (by decide) f3, put_ne (by decide) f4, put_eq rfl, put_ne (by decide) f6, put_ne (by decide) f7, k0.same (And'.iff (by decide)) (And'.iff (by decide)) (And'.iff (by decide)) (And'.iff (by decide)) (Below.refl _ _)⟩
       ·obtain rfl := (f5 (he ⟨5, .data⟩ (by simp) rfl)).symm
        exact wp_of_run (run_extract (.tmp 33) 0 rfl _ rfl _ rfl) ⟨_, _, _, _, _, _, _, _, _, _, rfl, put_ne (by decide) f0, put_ne (by decide) f1, put_ne (by decide) f2, put_ne (by decide) f3, put_ne (by decide) f4, put_ne (by decide) f5, put_eq rfl, put_ne (by decide) f7, k0.same (And'.iff (by decide)) (And'.iff (by decide)) (And'.iff (by decide)) (And'.iff (by decide)) (Below.refl _ _)⟩
       ·obtain rfl := (f5 (he ⟨5, .data⟩ (by simp) rfl)).symm
        exact wp_of_run (run_extract (.tmp 33) 1 rfl _ rfl _ rfl) ⟨_, _, _, _, _, _, _, _, _, _, rfl, put_ne (by decide) f0, put_ne (by decide) f1, put_ne (by decide) f2, put_ne (by decide) f3, put_ne (by decide) f4, put_ne (by decide) f5, put_ne (by decide) f6, put_eq rfl, k0.same (And'.iff (by decide)) (And'.iff (by decide)) (And'.iff (by decide)) (And'.iff (by decide)) (Below.refl _ _)⟩
       ·exact wp_of_run (run_alloc_row rfl) ⟨_, _, _, _, _, _, _, _, _, _, rfl, put_ne (by decide) f0, put_ne (by decide) f1, put_ne (by decide) f2, put_ne (by decide) f3, put_ne (by decide) f4, put_ne (by decide) f5, put_ne (by decide) f6, put_ne (by decide) f7, k0.allocA hn (.inl rfl) (And'.iff (by decide)) (And'.iff (by decide)) (And'.iff (by decide))⟩
       ·exact wp_of_run (run_alloc_row rfl) ⟨_, _, _, _, _, _, _, _, _, _, rfl, put_ne (by decide) f0, put_ne (by decide) f1, put_ne (by decide) f2, put_ne (by decide) f3, put_ne (by decide) f4, put_ne (by decide) f5, put_ne (by decide) f6, put_ne (by decide) f7, k0.allocB hn (And'.iff (by decide)) (And'.iff (by decide)) (.inl rfl) (And'.iff (by decide))⟩
       ·have h6 := f6 (he ⟨6, .data⟩ (by simp) rfl)
        subst h6
        obtain ⟨g, cs, rfl, hr, hs, kk⟩ := k0.storeA (pA' := And' 10 D 8) (pS' := And' 10 D 10) (pB' := And' 10 D 9) (pT' := And' 10 D 11) (he ⟨8, .data⟩ (by simp) rfl) (by rw [arr_size, HQl.out]) (And'.iff (by decide)) (And'.iff (by decide)) (And'.iff (by decide))
        refine wp_store_row 155 (.tmp 9) (.tmp 39) rfl g _ rfl rfl 155 cs hr (by rw [row_info, arr_size, HQl.out]) (by rw [arr_size, HQl.out, hs]) (arr_one _) ?_
        exact ⟨_, _, _, _, _, _, _, _, _, _, rfl, put_ne (by decide) f0, put_ne (by decide) f1, put_ne (by decide) f2, put_ne (by decide) f3, put_ne (by decide) f4, put_ne (by decide) f5, put_ne (by decide) f6, put_ne (by decide) f7, kk⟩
       ·have h7 := f7 (he ⟨7, .data⟩ (by simp) rfl)
        subst h7
        obtain ⟨g, cs, rfl, hr, hs, kk⟩ := k0.storeB (pA' := And' 11 D 8) (pS' := And' 11 D 10) (pB' := And' 11 D 9) (pT' := And' 11 D 11) (he ⟨9, .data⟩ (by simp) rfl) (by rw [arr_size, HRl.out]) (And'.iff (by decide)) (And'.iff (by decide)) (And'.iff (by decide))
        refine wp_store_row 155 (.tmp 10) (.tmp 40) rfl g _ rfl rfl 155 cs hr (by rw [row_info, arr_size, HRl.out]) (by rw [arr_size, HRl.out, hs]) (arr_one _) ?_
        exact ⟨_, _, _, _, _, _, _, _, _, _, rfl, put_ne (by decide) f0, put_ne (by decide) f1, put_ne (by decide) f2, put_ne (by decide) f3, put_ne (by decide) f4, put_ne (by decide) f5, put_ne (by decide) f6, put_ne (by decide) f7, kk⟩
      case finC =>
       rintro D a w1 hD ⟨v9, v10, v33, v34, v35, v36, v37, v38, v39, v40, rfl, f0, f1, f2, f3, f4, f5, f6, f7, k0⟩
       obtain ⟨hb, hsl9, hsl10, hne, -, -⟩ := k0
       obtain ⟨g9, cs9, rfl, hg9, hz9, hr9, e9⟩ := hsl9 (hD 8 (by simp))
       obtain ⟨g10, cs10, rfl, hg10, hz10, hr10, e10⟩ := hsl10 (hD 9 (by simp))
       obtain rfl := e10 (hD 11 (by simp))
       clear f0 f1 f2 f3 f4 f5 f6 f7 hD e9 hsl9 hsl10 hne hr9 hz9 hz10 e10
       have Hb := Lib.hid hb
       have Hr10 := Lib.hid hr10
       have Hq0 := Lib.hid (Hr0.out.below hb Hr0.out.lt)
       have Hq1 := Lib.hid (Hr1.out.below hb Hr1.out.lt)
       have Hq2 := Lib.hid (Hr2.out.below hb Hr2.out.lt)
       have hlt1 := Hr1.out.lt
       have hlt2 := Hr2.out.lt
       obtain ⟨W7, hW7⟩ : ∃ W7, W7 = (w1.setRow (w.heap.size + 1) (arr rb)).setRow (w.heap.size + 1 + 1) (arr (rowOf (val ra % val rb))) := ⟨_, rfl⟩
       have Hr70 : Hid (RowAt W7 w.heap.size 155 (arr (List.replicate 65 0))) := by rw [hW7]; exact (Hq0.out.setRowOther _ (by omega)).setRowOther _ (by omega)
       have Hr71 : Hid (RowAt W7 (w.heap.size + 1) 155 (arr rb)) := by rw [hW7]; exact (Hq1.out.setRow _).setRowOther _ (by omega)
       have Hr72 : Hid (RowAt W7 (w.heap.size + 1 + 1) 155 (arr (rowOf (val ra % val rb)))) := by rw [hW7]; exact (Hq2.out.setRowOther _ (by omega)).setRow _
       have Hr7t : Hid (RowAt W7 g10 155 (arr (rowOf (val ra % val rb)))) := by rw [hW7]; exact (Hr10.out.setRowOther _ (by omega)).setRowOther _ (by omega)
       have HB7 : Hid (Below w.heap.size w W7) := by rw [hW7]; exact below_setRow2 (below_setRow2 (HB.out.trans (hb.mono HB.out.size)) (by omega) _) (by omega) _
       have hlen := length_calls _ _ W7 (u32s_row (L := n) (cap := 65) Hr7t.out Hr7t.out.lt (by rw [HRl.out]; omega) (by rw [HRl.out]; decide))
       have Hlen := Lib.hid hlen
       have Hq2' := Lib.hid (Hq2.out.setRowOther (k := w.heap.size + 1) (arr rb) (by omega))
       have hn65 : (n : Int) ≤ 65 := by omega
       have HW7 := Lib.hid hW7
       clear hb hr10 hW7 hlen hlt1 hlt2
       go_wp2_with (first | (refine load_row rfl (.tmp 6) rfl (w.heap.size + 1 + 1) rfl rb hlB 155 Hq2.out ?_) | (refine load_row rfl (.tmp 10) rfl g10 rfl _ HRl.out 155 Hr10.out ?_) | (refine store_row rfl (.tmp 5) (.tmp 41) rfl (w.heap.size + 1) rfl rb hlB rfl 155 _ Hq1.out (by rw [arr_size, hlA]) ?_) | (refine store_row rfl (.tmp 6) (.tmp 42) rfl (w.heap.size + 1 + 1) rfl _ HRl.out rfl 155 _ Hq2'.out (by rw [arr_size, hlB]) ?_; rw [← HW7.out]))
       refine Hlen.out.mono ?_
       rintro e w8 ⟨rfl, hb8⟩
       have Hb8 := Lib.hid hb8
       have HrX := Lib.hid (Hr72.out.below hb8 Hr72.out.lt)
       clear hb8
       go_wp2
       go_roundw
       case rel => exact ⟨n, _, rb, _, rfl, rfl, Hnext.out.1, Hr70.out.below Hb8.out Hr70.out.lt, Hr71.out.below Hb8.out Hr71.out.lt, HrX.out, HB7.out.trans (Hb8.out.mono HB7.out.size)⟩
       case measure => rw [rowVal_at HrX.out, rowVal_at Hr2.out, rowOf_val]; exact Hnext.out.2.2.2
     ·go_wp2
      refine wp_region_inv (fun D a w' => ∃ v9 v10 v33 v34 v35 v36 v37 v38 v39 v40, a = { tmps := #[v, u, undef, undef, (.pointer (some ⟨w.heap.size, 0, none⟩)), (.pointer (some ⟨w.heap.size + 1, 0, none⟩)), (.pointer (some ⟨w.heap.size + 1 + 1, 0, none⟩)), (.int .i64 (m : Int)), (.int .i64 (n : Int)), v9, v10, v11, v12, v13, v14, v15, v16, (.int .i64 (n : Int)), (.bool true), (.int .i64 (m : Int)), (.bool false), (.bool false), undef, undef, (.bool false), u25, u26, u27, u28, u29, u30, u31, u32, v33, v34, v35, v36, v37, v38, v39, v40, u41, u42, u43, u44, u45, u46, undef], defers := [] } ∧ (D 0 → v34 = .int .i64 (m : Nat)) ∧ (D 1 → v35 = .slice (some ⟨w.heap.size + 1, 0, none⟩) m 65) ∧ (D 2 → v36 = .int .i64 (n : Nat)) ∧ (D 3 → v37 = .slice (some ⟨w.heap.size + 1 + 1, 0, none⟩) n 65) ∧ (D 4 → v38 = .tuple #[.agg (arr (rowOf (val ra / val rb))), .agg (arr (rowOf (val ra % val rb)))]) ∧ (D 5 → v33 = .tuple #[.agg (arr (rowOf (val ra / val rb))), .agg (arr (rowOf (val ra % val rb)))]) ∧ (D 6 → v39 = .agg (arr (rowOf (val ra / val rb)))) ∧ (D 7 → v40 = .agg (arr (rowOf (val ra % val rb)))) ∧ Two wr (arr (rowOf (val ra / val rb))) (arr (rowOf (val ra % val rb))) (D 8) (D 10) (D 9) (D 11) v9 v10 w')
       (by kernel_rfl) (by kernel_rfl) ?startE ?stepE ?finE
      case startE => exact ⟨u9, u10, u33, u34, u35, u36, u37, u38, u39, u40, rfl, False.elim, False.elim, False.elim, False.elim, False.elim, False.elim, False.elim, False.elim, ⟨(Below.refl _ _).drew, False.elim, False.elim, False.elim, False.elim, False.elim⟩⟩
      case stepE =>
       rintro i o D a w1 hio hn he ⟨v9, v10, v33, v34, v35, v36, v37, v38, v39, v40, rfl, f0, f1, f2, f3, f4, f5, f6, f7, k0⟩
       rcases i with _ | _ | _ | _ | _ | _ | _ | _ | _ | _ | _ | _ | i
       rotate_left 12
       ·exact absurd hio (by simp)
       all_goals (obtain rfl := Option.some.inj (hio.symm.trans (by rfl)))
       ·exact wp_of_run (run_move (.tmp 7) rfl) ⟨_, _, _, _, _, _, _, _, _, _, rfl, put_eq rfl, put_ne (by decide) f1, put_ne (by decide) f2, put_ne (by decide) f3, put_ne (by decide) f4, put_ne (by decide) f5, put_ne (by decide) f6, put_ne (by decide) f7, k0.same (And'.iff (by decide)) (And'.iff (by decide)) (And'.iff (by decide)) (And'.iff (by decide)) (Below.refl _ _)⟩
       ·obtain rfl := (f0 (he ⟨0, .data⟩ (by simp) rfl)).symm
        exact wp_of_run (run_slice1 (.tmp 5) (.tmp 34) rfl (w.heap.size + 1) m rfl rfl (by omega)) ⟨_, _, _, _, _, _, _, _, _, _, rfl, put_ne (by decide) f0, put_eq rfl, put_ne (by decide) f2, put_ne (by decide) f3, put_ne (by decide) f4, put_ne (by decide) f5, put_ne (by decide) f6, put_ne (by decide) f7, k0.same (And'.iff (by decide)) (And'.iff (by decide)) (And'.iff (by decide)) (And'.iff (by decide)) (Below.refl _ _)⟩
       ·exact wp_of_run (run_move (.tmp 8) rfl) ⟨_, _, _, _, _, _, _, _, _, _, rfl, put_ne (by decide) f0, put_ne (by decide) f1, put_eq rfl, put_ne (by decide) f3, put_ne (by decide) f4, put_ne (by decide) f5, put_ne (by decide) f6, put_ne (by decide) f7, k0.same (And'.iff (by decide)) (And'.iff (by decide)) (And'.iff (by decide)) (And'.iff (by decide)) (Below.refl _ _)⟩
       ·obtain rfl := (f2 (he ⟨2, .data⟩ (by simp) rfl)).symm
        exact wp_of_run (run_slice1 (.tmp 6) (.tmp 36) rfl (w.heap.size + 1 + 1) n rfl rfl (by omega)) ⟨_, _, _, _, _, _, _, _, _, _, rfl, put_ne (by decide) f0, put_ne (by decide) f1, put_ne (by decide) f2, put_eq rfl, put_ne (by decide) f4, put_ne (by decide) f5, put_ne (by decide) f6, put_ne (by decide) f7, k0.same (And'.iff (by decide)) (And'.iff (by decide)) (And'.iff (by decide)) (And'.iff (by decide)) (Below.refl _ _)⟩
       ·obtain rfl := (f1 (he ⟨1, .data⟩ (by simp) rfl)).symm
        obtain rfl := (f3 (he ⟨3, .data⟩ (by simp) rfl)).symm
        exact wp_of_call (run_enter2 162 (.tmp 35) (.tmp 37) _ rfl _ _ rfl rfl ent_divide) (HDV.out w1 k0.1) fun W3 h3 => ⟨_, _, _, _, _, _, _, _, _, _, rfl, put_ne (by decide) f0, put_ne (by decide) f1, put_ne (by decide) f2, put_ne (by decide) f3, put_eq rfl, put_ne (by decide) f5, put_ne (by decide) f6, put_ne (by decide) f7, k0.same (And'.iff (by decide)) (And'.iff (by decide)) (And'.iff (by decide)) (And'.iff (by decide)) h3⟩
       ·obtain rfl := (f4 (he ⟨4, .data⟩ (by simp) rfl)).symm
        exact wp_of_run (run_move (.tmp 38) rfl) ⟨_, _, _, _, _, _, _, _, _, _, rfl, put_ne (by decide) f0, put_ne (by decide) f1, put_ne (by decide) f2, put_ne (by decide) f3, put_ne (by decide) f4, put_eq rfl, put_ne (by decide) f6, put_ne (by decide) f7, k0.same (And'.iff (by decide)) (And'.iff (by decide)) (And'.iff (by decide)) (And'.iff (by decide)) (Below.refl _ _)⟩
       ·obtain rfl := (f5 (he ⟨5, .data⟩ (by simp) rfl)).symm
        exact wp_of_run (run_extract (.tmp 33) 0 rfl _ rfl _ rfl) ⟨_, _, _, _, _, _, _, _, _, _, rfl, put_ne (by decide) f0, put_ne (by decide) f1, put_ne (by decide) f2, put_ne (by decide) f3, put_ne (by decide) f4, put_ne (by decide) f5, put_eq rfl, put_ne (by decide) f7, k0.same (And'.iff (by decide)) (And'.iff (by decide)) (And'.iff (by decide)) (And'.iff (by decide)) (Below.refl _ _)⟩
       ·obtain rfl := (f5 (he ⟨5, .data⟩ (by simp) rfl)).symm
        exact wp_of_run (run_extract (.tmp 33) 1 rfl _ rfl _ rfl) ⟨_, _, _, _, _, _, _, _, _, _, rfl, put_ne (by decide) f0, put_ne (by decide) f1, put_ne (by decide) f2, put_ne (by decide) f3, put_ne (by decide) f4, put_ne (by decide) f5, put_ne (by decide) f6, put_eq rfl, k0.same (And'.iff (by decide)) (And'.iff (by decide)) (And'.iff (by decide)) (And'.iff (by decide)) (Below.refl _ _)⟩
       ·exact wp_of_run (run_alloc_row rfl) ⟨_, _, _, _, _, _, _, _, _, _, rfl, put_ne (by decide) f0, put_ne (by decide) f1, put_ne (by decide) f2, put_ne (by decide) f3, put_ne (by decide) f4, put_ne (by decide) f5, put_ne (by decide) f6, put_ne (by decide) f7, k0.allocA hn (.inl rfl) (And'.iff (by decide)) (And'.iff (by decide)) (And'.iff (by decide))⟩
       ·exact wp_of_run (run_alloc_row rfl) ⟨_, _, _, _, _, _, _, _, _, _, rfl, put_ne (by decide) f0, put_ne (by decide) f1, put_ne (by decide) f2, put_ne (by decide) f3, put_ne (by decide) f4, put_ne (by decide) f5, put_ne (by decide) f6, put_ne (by decide) f7, k0.allocB hn (And'.iff (by decide)) (And'.iff (by decide)) (.inl rfl) (And'.iff (by decide))⟩
       ·have h6 := f6 (he ⟨6, .data⟩ (by simp) rfl)
        subst h6
        obtain ⟨g, cs, rfl, hr, hs, kk⟩ := k0.storeA (pA' := And' 10 D 8) (pS' := And' 10 D 10) (pB' := And' 10 D 9) (pT' := And' 10 D 11) (he ⟨8, .data⟩ (by simp) rfl) (by rw [arr_size, HQl.out]) (And'.iff (by decide)) (And'.iff (by decide)) (And'.iff (by decide))
        refine wp_store_row 155 (.tmp 9) (.tmp 39) rfl g _ rfl rfl 155 cs hr (by rw [row_info, arr_size, HQl.out]) (by rw [arr_size, HQl.out, hs]) (arr_one _) ?_
        exact ⟨_, _, _, _, _, _, _, _, _, _, rfl, put_ne (by decide) f0, put_ne (by decide) f1, put_ne (by decide) f2, put_ne (by decide) f3, put_ne (by decide) f4, put_ne (by decide) f5, put_ne (by decide) f6, put_ne (by decide) f7, kk⟩
       ·have h7 := f7 (he ⟨7, .data⟩ (by simp) rfl)
        subst h7
        obtain ⟨g, cs, rfl, hr, hs, kk⟩ := k0.storeB (pA' := And' 11 D 8) (pS' := And' 11 D 10) (pB' := And' 11 D 9) (pT' := And' 11 D 11) (he ⟨9, .data⟩ (by simp) rfl) (by rw [arr_size, HRl.out]) (And'.iff (by decide)) (And'.iff (by decide)) (And'.iff (by decide))
        refine wp_store_row 155 (.tmp 10) (.tmp 40) rfl g _ rfl rfl 155 cs hr (by rw [row_info, arr_size, HRl.out]) (by rw [arr_size, HRl.out, hs]) (arr_one _) ?_
        exact ⟨_, _, _, _, _, _, _, _, _, _, rfl, put_ne (by decide) f0, put_ne (by decide) f1, put_ne (by decide) f2, put_ne (by decide) f3, put_ne (by decide) f4, put_ne (by decide) f5, put_ne (by decide) f6, put_ne (by decide) f7, kk⟩
      case finE =>
       rintro D a w1 hD ⟨v9, v10, v33, v34, v35, v36, v37, v38, v39, v40, rfl, f0, f1, f2, f3, f4, f5, f6, f7, k0⟩
       obtain ⟨hb, hsl9, hsl10, hne, -, -⟩ := k0
       obtain ⟨g9, cs9, rfl, hg9, hz9, hr9, e9⟩ := hsl9 (hD 8 (by simp))
       obtain ⟨g10, cs10, rfl, hg10, hz10, hr10, e10⟩ := hsl10 (hD 9 (by simp))
       obtain rfl := e10 (hD 11 (by simp))
       clear f0 f1 f2 f3 f4 f5 f6 f7 hD e9 hsl9 hsl10 hne hr9 hz9 hz10 e10
       have Hb := Lib.hid hb
       have Hr10 := Lib.hid hr10
       have Hq0 := Lib.hid (Hr0.out.below hb Hr0.out.lt)
       have Hq1 := Lib.hid (Hr1.out.below hb Hr1.out.lt)
       have Hq2 := Lib.hid (Hr2.out.below hb Hr2.out.lt)
       have hlt1 := Hr1.out.lt
       have hlt2 := Hr2.out.lt
       obtain ⟨W7, hW7⟩ : ∃ W7, W7 = (w1.setRow (w.heap.size + 1) (arr rb)).setRow (w.heap.size + 1 + 1) (arr (rowOf (val ra % val rb))) := ⟨_, rfl⟩
       have Hr70 : Hid (RowAt W7 w.heap.size 155 (arr (List.replicate 65 0))) := by rw [hW7]; exact (Hq0.out.setRowOther _ (by omega)).setRowOther _ (by omega)
       have Hr71 : Hid (RowAt W7 (w.heap.size + 1) 155 (arr rb)) := by rw [hW7]; exact (Hq1.out.setRow _).setRowOther _ (by omega)
       have Hr72 : Hid (RowAt W7 (w.heap.size + 1 + 1) 155 (arr (rowOf (val ra % val rb)))) := by rw [hW7]; exact (Hq2.out.setRowOther _ (by omega)).setRow _
       have Hr7t : Hid (RowAt W7 g10 155 (arr (rowOf (val ra % val rb)))) := by rw [hW7]; exact (Hr10.out.setRowOther _ (by omega)).setRowOther _ (by omega)
       have HB7 : Hid (Below w.heap.size w W7) := by rw [hW7]; exact below_setRow2 (below_setRow2 (HB.out.trans (hb.mono HB.out.size)) (by omega) _) (by omega) _
       have hlen := length_calls _ _ W7 (u32s_row (L := n) (cap := 65) Hr7t.out Hr7t.out.lt (by rw [HRl.out]; omega) (by rw [HRl.out]; decide))
       have Hlen := Lib.hid hlen
       have Hq2' := Lib.hid (Hq2.out.setRowOther (k := w.heap.size + 1) (arr rb) (by omega))
       have hn65 : (n : Int) ≤ 65 := by omega
       have HW7 := Lib.hid hW7
       clear hb hr10 hW7 hlen hlt1 hlt2
       go_wp2_with (first | (refine load_row rfl (.tmp 6) rfl (w.heap.size + 1 + 1) rfl rb hlB 155 Hq2.out ?_) | (refine load_row rfl (.tmp 10) rfl g10 rfl _ HRl.out 155 Hr10.out ?_) | (refine store_row rfl (.tmp 5) (.tmp 41) rfl (w.heap.size + 1) rfl rb hlB rfl 155 _ Hq1.out (by rw [arr_size, hlA]) ?_) | (refine store_row rfl (.tmp 6) (.tmp 42) rfl (w.heap.size + 1 + 1) rfl _ HRl.out rfl 155 _ Hq2'.out (by rw [arr_size, hlB]) ?_; rw [← HW7.out]))
       refine Hlen.out.mono ?_
       rintro e w8 ⟨rfl, hb8⟩
       have Hb8 := Lib.hid hb8
       have HrX := Lib.hid (Hr72.out.below hb8 Hr72.out.lt)
       clear hb8
       go_wp2
       go_roundw
       case rel => exact ⟨n, _, rb, _, rfl, rfl, Hnext.out.1, Hr70.out.below Hb8.out Hr70.out.lt, Hr71.out.below Hb8.out Hr71.out.lt, HrX.out, HB7.out.trans (Hb8.out.mono HB7.out.size)⟩
       case measure => rw [rowVal_at HrX.out, rowVal_at Hr2.out, rowOf_val]; exact Hnext.out.2.2.2
end Go.Proofs.YtgnogdncoljldaaGreat
namespace Go.Proofs.YtgnogdncoljldaaGreat
open Go Go.RowKit Go.Shelf
theorem mul_natAbs_lt {za zb : Int} (ha : za.natAbs < B32 ^ 64) (hb : zb.natAbs < B32 ^ 64) (h : 65 < (digs za.natAbs).length + (digs zb.natAbs).length) : ¬ (za * zb).natAbs < B32 ^ 64 := by
 have h1 := digs_len64 ha
 have h2 := digs_len64 hb
 have ga := val_ge_of_noZero (norm_digs za.natAbs).2 (by intro e; rw [e] at h; simp at h; omega)
 have gb := val_ge_of_noZero (norm_digs zb.natAbs).2 (by intro e; rw [e] at h; simp at h; omega)
 rw [val_digs] at ga gb
 rw [Int.natAbs_mul]
 have hm := Nat.mul_le_mul ga gb
 rw [← Nat.pow_add] at hm
 have hp := Nat.pow_le_pow_right B32_pos (show 64 ≤ (digs za.natAbs).length - 1 + ((digs zb.natAbs).length - 1) by omega)
 omega
theorem zneg_big {z : Int} (h : ¬ z.natAbs < B32 ^ 64) : zneg z = false ∧ zdigs z = [] ∧ zok z = false := by
 unfold zneg zdigs zok; rw [if_neg h, if_neg h]; exact ⟨rfl, rfl, by simp [h]⟩
set_option maxRecDepth 100000 in
set_option maxHeartbeats 2000000 in
theorem mul_calls (va vb : Value) (za zb : Int) (w : World) (ha : ZNum w.heap.size w va za) (hb : ZNum w.heap.size w vb zb) :
  Calls Tryz.prog 86 #[va, vb] w (ZPost w (za * zb)) := by
 obtain ⟨p, c, rfl⟩ := ha.parts
 obtain ⟨q, c2, rfl⟩ := hb.parts
 generalize hna : decide (za < 0) = na at *
 generalize hnb : decide (zb < 0) = nb at *
 generalize hn : (digs za.natAbs).length = n at *
 generalize hm : (digs zb.natAbs).length = m at *
 have Hcase : Hid ((65 < n + m → zneg (za * zb) = false ∧ zdigs (za * zb) = [] ∧ zok (za * zb) = false) ∧ n ≤ 64 ∧ m ≤ 64) := by
  rw [← hn, ← hm]
  exact ⟨fun h => zneg_big (mul_natAbs_lt ha.2 hb.2 h), digs_len64 ha.2, digs_len64 hb.2⟩
 obtain ⟨hn64, hm64⟩ := Hcase.out.2
 have Hn := Lib.hid hn
 have Hm := Lib.hid hm
 have Hna := Lib.hid hna
 obtain ⟨W3, hW3⟩ : ∃ W3, W3 = ((w.alloc (.cells #[.bool na, .slice p n c] 36)).alloc (.cells #[.bool nb, .slice q m c2] 36)).alloc (.cells #[.bool false, .slice none 0 0] 36) := ⟨_, rfl⟩
 have HB3 : Hid (Below w.heap.size w W3) := by rw [hW3]; exact (((Below.refl _ w).alloc (Nat.le_refl _) _).alloc (by simp) _).alloc (by simp; omega) _
 have Hz3 : Hid (W3.heap.size = w.heap.size + 3) := by show W3.heap.size = _; rw [hW3]; simp
 have Hra : Hid (RowAt W3 w.heap.size 36 (numCells na p n c)) := by rw [hW3]; exact ((RowAt.new w _ _).alloc _).alloc _
 have Hrb : Hid (RowAt W3 (w.heap.size + 1) 36 (numCells nb q m c2)) := by rw [hW3]; exact (RowAt.new' _ _ (by simp)).alloc _
 have Hrr : Hid (RowAt W3 (w.heap.size + 1 + 1) 36 (numCells false none 0 0)) := by rw [hW3]; exact RowAt.new' _ _ (by simp)
 have HA := Lib.hid ((ha.below HB3.out).mono (by rw [Hz3.out]; omega : w.heap.size ≤ W3.heap.size))
 have HBn := Lib.hid ((hb.below HB3.out).mono (by rw [Hz3.out]; omega : w.heap.size ≤ W3.heap.size))
 have HW3 := Lib.hid hW3
 have Hnb := Lib.hid hnb
 clear hW3 ha hb hna hnb hn hm
 go_enter Tryz.func86, Tryz.ntmps86
 go_wp2_with fail
 rw [← HW3.out]
 refine (right_calls_z _ za W3 HA.out).mono ?_
 rintro e w1 ⟨rfl, hb1⟩
 have Hra1 := Lib.hid (Hra.out.below hb1 (by rw [Hz3.out]; omega))
 have Hrb1 := Lib.hid (Hrb.out.below hb1 (by rw [Hz3.out]; omega))
 have Hrr1 := Lib.hid (Hrr.out.below hb1 (by rw [Hz3.out]; omega))
 have HA1 := Lib.hid ((HA.out.below hb1).mono hb1.size)
 have HBn1 := Lib.hid ((HBn.out.below hb1).mono hb1.size)
 have HB1 := Lib.hid (HB3.out.trans (hb1.mono (by rw [Hz3.out]; omega : w.heap.size ≤ W3.heap.size)))
 have hz1 : w.heap.size + 3 ≤ w1.heap.size := by rw [← Hz3.out]; exact hb1.size
 have h10 := Hrb1.out.num0
 have h11 := Hrb1.out.num1
 clear hb1
 go_wp2_with fail
 refine (right_calls_z _ zb w1 HBn1.out).mono ?_
 rintro e w2 ⟨rfl, hb2⟩
 have Hra2 := Lib.hid (Hra1.out.below hb2 (by omega))
 have Hrb2 := Lib.hid (Hrb1.out.below hb2 (by omega))
 have Hrr2 := Lib.hid (Hrr1.out.below hb2 (by omega))
 have HA2 := Lib.hid ((HA1.out.below hb2).mono hb2.size)
 have HBn2 := Lib.hid ((HBn1.out.below hb2).mono hb2.size)
 have HB2 := Lib.hid (HB1.out.trans (hb2.mono (by omega : w.heap.size ≤ w1.heap.size)))
 have hz2 : w.heap.size + 3 ≤ w2.heap.size := Nat.le_trans hz1 hb2.size
 have h20 := Hrb2.out.num0
 have h21 := Hrb2.out.num1
 have h22 := Hra2.out.num0
 have h23 := Hra2.out.num1
 clear hb2 h10 h11 hz1
 by_cases hbig : 65 < n + m
 ·obtain ⟨e1, e2, e3⟩ := Hcase.out.1 hbig
  have HE := Lib.hid (And.intro e1 (And.intro e2 e3))
  have hbigI : (65 : Int) < (n : Int) + (m : Int) := by omega
  have Hfin := Lib.hid ((Below.trans HB2.out (below_setRow2 (Below.refl _ w2) (by omega : w.heap.size ≤ w.heap.size + 1 + 1) (numCells false none 0 0))))
  clear e1 e2 e3 hbig
  go_wp2_with (refine store_num rfl (.tmp 4) (.tmp 24) rfl (w.heap.size + 1 + 1) rfl false none 0 0 rfl _ _ Hrr2.out rfl ?_)
  exact ret_num rfl (w.heap.size + 1 + 1) rfl _ rfl _ _ _ _ _ (Hrr2.out.setRow _) ⟨_, by rw [HE.out.1, HE.out.2.2], by rw [HE.out.2.1]; exact u32n_nil _ _ _, Hfin.out⟩
 ·have hsmall : ¬ (65 : Int) < (n : Int) + (m : Int) := by omega
  have hnm : n + m ≤ 65 := by omega
  have hua2 : U32s w2.heap.size w2 (.slice p n c) (digs za.natAbs) := by
   obtain ⟨⟨s, e, hu⟩, -⟩ := HA2.out; cases e; exact hu
  have hub2 : U32s w2.heap.size w2 (.slice q m c2) (digs zb.natAbs) := by
   obtain ⟨⟨s, e, hu⟩, -⟩ := HBn2.out; cases e; exact hu
  have Hprod := Lib.hid (product_calls _ _ _ _ w2 hua2 hub2 (digs_digits _) (digs_digits _) (by rw [Hn.out, Hm.out]; exact hnm))
  have Hsl := Lib.hid (prodRow_length (digs za.natAbs) (digs zb.natAbs))
  have Hres : Hid (strip ((prodRow (digs za.natAbs) (digs zb.natAbs)).take (n + m)) = digs (za.natAbs * zb.natAbs)) := by
   show _ = _
   rw [strip_digs ((prod_digits (digs_digits _) (digs_digits _)).take _), ← Hn.out, ← Hm.out, prod_take _ _ (by rw [Hn.out, Hm.out]; exact hnm), val_digs, val_digs]
  have hrs := res_of (na != nb) (za.natAbs * zb.natAbs) (za * zb) (Int.natAbs_mul _ _) (fun h => by
   rw [← Hna.out, ← Hnb.out]
   have h1 : za ≠ 0 := by intro e; subst e; simp at h
   have h2 : zb ≠ 0 := by intro e; subst e; simp at h
   by_cases h3 : za < 0 <;> by_cases h4 : zb < 0 <;> simp only [h3, h4, decide_true, decide_false, bne_self_eq_false, Bool.true_bne, Bool.false_bne, Bool.not_false]
   ·have := Int.mul_pos_of_neg_of_neg h3 h4; simp; omega
   ·have := Int.mul_neg_of_neg_of_pos h3 (by omega : 0 < zb); simp; omega
   ·have := Int.mul_neg_of_pos_of_neg (by omega : 0 < za) h4; simp; omega
   ·have := Int.mul_pos (by omega : 0 < za) (by omega : 0 < zb); simp; omega)
  have Hrs := Lib.hid hrs
  generalize prodRow (digs za.natAbs) (digs zb.natAbs) = row at *
  clear hua2 hub2 hbig hrs
  go_wp2_with fail
  refine Hprod.out.mono ?_
  rintro e w3 ⟨rfl, hb3⟩
  have hz3 : w.heap.size + 3 ≤ w3.heap.size := Nat.le_trans hz2 hb3.size
  obtain ⟨W4, hW4⟩ : ∃ W4, W4 = (w3.alloc (.cells Tryz.zeroCells155 155)).setRow w3.heap.size (arr row) := ⟨_, rfl⟩
  have Hz4 : Hid (W4.heap.size = w3.heap.size + 1) := by show W4.heap.size = _; rw [hW4]; simp
  have HB4 : Hid (Below w.heap.size w W4) := by rw [hW4]; exact below_setRow2 ((HB2.out.trans (hb3.mono (by omega))).alloc (by omega) _) (by omega) _
  have Hr4 : Hid (RowAt W4 w3.heap.size 155 (arr row)) := by rw [hW4]; exact (RowAt.new w3 _ _).setRow _
  have hra4 : RowAt W4 w.heap.size 36 (numCells na p n c) := by rw [hW4]; exact ((Hra2.out.below hb3 (by omega)).alloc _).setRowOther _ (by omega)
  have hrb4 : RowAt W4 (w.heap.size + 1) 36 (numCells nb q m c2) := by rw [hW4]; exact ((Hrb2.out.below hb3 (by omega)).alloc _).setRowOther _ (by omega)
  have Hrr4 : Hid (RowAt W4 (w.heap.size + 1 + 1) 36 (numCells false none 0 0)) := by rw [hW4]; exact ((Hrr2.out.below hb3 (by omega)).alloc _).setRowOther _ (by omega)
  have h40 := hra4.num0
  have h41 := hra4.num1
  have h42 := hrb4.num0
  have h43 := hrb4.num1
  have Hnew := Lib.hid (RowAt.new w3 155 Tryz.zeroCells155)
  have HW4 := Lib.hid hW4
  have hnum := number_calls (na != nb) _ _ W4.drew (u32s_row (B := W4.drew.heap.size) (w := W4.drew) (cap := 65) (L := n + m) Hr4.out (by show _ < W4.heap.size; rw [Hz4.out]; omega) (by rw [Hsl.out]; omega) (by rw [Hsl.out]; decide))
  rw [Hres.out, Hrs.out.1, Hrs.out.2.1, Hrs.out.2.2] at hnum
  have Hnum := Lib.hid hnum
  have hw5 : (n : Int) + (m : Int) ≤ 65 := by omega
  have hw6 : IntKind.i64.wrap ((n : Int) + (m : Int)) = (n : Int) + (m : Int) := by rw [IntKind.wrap_i64]; omega
  have hw7 : (0 : Int) ≤ (n : Int) + (m : Int) := by omega
  have hw8 : ((n : Int) + (m : Int)).toNat = n + m := by omega
  clear hW4 hra4 hrb4 hb3 hnum h20 h21 h22 h23
  go_wp2_with (refine store_row rfl (.tmp 6) (.tmp 29) rfl w3.heap.size rfl row Hsl.out rfl 155 Tryz.zeroCells155 Hnew.out (by kernel_rfl) ?_; rw [← HW4.out])
  go_region_held3 (fun W => W.cell? ⟨w.heap.size, 0, none⟩ = some (.bool na) ∧ W.cell? ⟨w.heap.size, 1, none⟩ = some (.slice p n c) ∧ W.cell? ⟨w.heap.size + 1, 0, none⟩ = some (.bool nb) ∧ W.cell? ⟨w.heap.size + 1, 1, none⟩ = some (.slice q m c2)) (first | exact ⟨by assumption, by assumption, by assumption, by assumption⟩ | exact ⟨cell_set2 _ _ _ _ _ _ _ _ (by assumption) (by show w.heap.size ≠ _; omega), cell_set2 _ _ _ _ _ _ _ _ (by assumption) (by show w.heap.size ≠ _; omega), cell_set2 _ _ _ _ _ _ _ _ (by assumption) (by show w.heap.size + 1 ≠ _; omega), cell_set2 _ _ _ _ _ _ _ _ (by assumption) (by show w.heap.size + 1 ≠ _; omega)⟩)
   (first | (go_at_call 120; refine Hnum.out.mono ?_; rintro e w5 ⟨s5, rfl, hu5, hb5⟩; have hU5 := hu5; obtain ⟨p5, c5, rfl, -, -⟩ := hU5; have hr5 := (RowAt.drew Hrr4.out).below hb5 (by show _ < W4.heap.size; rw [Hz4.out]; omega); have hr50 := hr5.num0; have hr51 := hr5.num1; have hf50 := hr5.frozen 0; have hf51 := hr5.frozen 1; have HR5 := Lib.hid hr5; have HU5 := Lib.hid hu5; have HB5 := Lib.hid hb5; have hk1 : w5.cell? ⟨w.heap.size, 0, none⟩ = some (.bool na) := (hb5.cell (p := ⟨w.heap.size, 0, none⟩) (by show _ < W4.heap.size; rw [Hz4.out]; show w.heap.size < _; omega)).trans h40; have hk2 : w5.cell? ⟨w.heap.size, 1, none⟩ = some (.slice p n c) := (hb5.cell (p := ⟨w.heap.size, 1, none⟩) (by show _ < W4.heap.size; rw [Hz4.out]; show w.heap.size < _; omega)).trans h41; have hk3 : w5.cell? ⟨w.heap.size + 1, 0, none⟩ = some (.bool nb) := (hb5.cell (p := ⟨w.heap.size + 1, 0, none⟩) (by show _ < W4.heap.size; rw [Hz4.out]; show w.heap.size + 1 < _; omega)).trans h42; have hk4 : w5.cell? ⟨w.heap.size + 1, 1, none⟩ = some (.slice q m c2) := (hb5.cell (p := ⟨w.heap.size + 1, 1, none⟩) (by show _ < W4.heap.size; rw [Hz4.out]; show w.heap.size + 1 < _; omega)).trans h43; clear hr5 hu5 hb5))
  go_wp2
  have hfin := finNum (g := w.heap.size + 1 + 1) (Below.drew HB4.out) (by omega) (by show _ < W4.heap.size; rw [Hz4.out]; omega) HU5.out HB5.out (turned_set2 w5 _ (.bool (zneg (za * zb))) (.slice p5 (zdigs (za * zb)).length c5))
  exact ret_num rfl (w.heap.size + 1 + 1) rfl _ rfl _ _ _ _ _ (numCells_set HR5.out rfl _ _ _ _) ⟨_, rfl, hfin.1, hfin.2⟩
end Go.Proofs.YtgnogdncoljldaaGreat
namespace Go.Proofs.YtgnogdncoljldaaGreat
open Go Go.RowKit Go.Shelf
set_option maxRecDepth 100000 in
set_option maxHeartbeats 2000000 in
theorem gcd_calls (va vb : Value) (za zb : Int) (w : World) (ha : ZNum w.heap.size w va za) (hb : ZNum w.heap.size w vb zb) :
  Calls Tryz.prog 70 #[va, vb] w (ZPost w ((Nat.gcd za.natAbs zb.natAbs : Nat) : Int)) := by
 obtain ⟨p, c, rfl⟩ := ha.parts
 obtain ⟨q, c2, rfl⟩ := hb.parts
 generalize hna : decide (za < 0) = na at *
 generalize hnb : decide (zb < 0) = nb at *
 generalize hn : (digs za.natAbs).length = n at *
 generalize hm : (digs zb.natAbs).length = m at *
 obtain ⟨W3, hW3⟩ : ∃ W3, W3 = ((w.alloc (.cells #[.bool na, .slice p n c] 36)).alloc (.cells #[.bool nb, .slice q m c2] 36)).alloc (.cells #[.bool false, .slice none 0 0] 36) := ⟨_, rfl⟩
 have HB3 : Hid (Below w.heap.size w W3) := by rw [hW3]; exact (((Below.refl _ w).alloc (Nat.le_refl _) _).alloc (by simp) _).alloc (by simp; omega) _
 have Hz3 : Hid (W3.heap.size = w.heap.size + 3) := by show W3.heap.size = _; rw [hW3]; simp
 have Hra : Hid (RowAt W3 w.heap.size 36 (numCells na p n c)) := by rw [hW3]; exact ((RowAt.new w _ _).alloc _).alloc _
 have Hrb : Hid (RowAt W3 (w.heap.size + 1) 36 (numCells nb q m c2)) := by rw [hW3]; exact (RowAt.new' _ _ (by simp)).alloc _
 have Hrr : Hid (RowAt W3 (w.heap.size + 1 + 1) 36 (numCells false none 0 0)) := by rw [hW3]; exact RowAt.new' _ _ (by simp)
 have HA := Lib.hid ((ha.below HB3.out).mono (by rw [Hz3.out]; omega : w.heap.size ≤ W3.heap.size))
 have HBn := Lib.hid ((hb.below HB3.out).mono (by rw [Hz3.out]; omega : w.heap.size ≤ W3.heap.size))
 have HW3 := Lib.hid hW3
 have Hnb := Lib.hid hnb
 clear hW3 ha hb hna hnb hn hm
 go_enter Tryz.func70, Tryz.ntmps70
 go_wp2_with fail
 rw [← HW3.out]
 refine (right_calls_z _ za W3 HA.out).mono ?_
 rintro e w1 ⟨rfl, hb1⟩
 have Hra1 := Lib.hid (Hra.out.below hb1 (by rw [Hz3.out]; omega))
 have Hrb1 := Lib.hid (Hrb.out.below hb1 (by rw [Hz3.out]; omega))
 have Hrr1 := Lib.hid (Hrr.out.below hb1 (by rw [Hz3.out]; omega))
 have HA1 := Lib.hid ((HA.out.below hb1).mono hb1.size)
 have HBn1 := Lib.hid ((HBn.out.below hb1).mono hb1.size)
 have HB1 := Lib.hid (HB3.out.trans (hb1.mono (by rw [Hz3.out]; omega : w.heap.size ≤ W3.heap.size)))
 have hz1 : w.heap.size + 3 ≤ w1.heap.size := by rw [← Hz3.out]; exact hb1.size
 have h10 := Hrb1.out.num0
 have h11 := Hrb1.out.num1
 clear hb1
 go_wp2_with fail
 refine (right_calls_z _ zb w1 HBn1.out).mono ?_
 rintro e w2 ⟨rfl, hb2⟩
 have Hra2 := Lib.hid (Hra1.out.below hb2 (by omega))
 have Hrb2 := Lib.hid (Hrb1.out.below hb2 (by omega))
 have Hrr2 := Lib.hid (Hrr1.out.below hb2 (by omega))
 have HA2 := Lib.hid ((HA1.out.below hb2).mono hb2.size)
 have HBn2 := Lib.hid ((HBn1.out.below hb2).mono hb2.size)
 have HB2 := Lib.hid (HB1.out.trans (hb2.mono (by omega : w.heap.size ≤ w1.heap.size)))
 have hz2 : w.heap.size + 3 ≤ w2.heap.size := Nat.le_trans hz1 hb2.size
 have h20 := Hrb2.out.num0
 have h21 := Hrb2.out.num1
 have h22 := Hra2.out.num0
 have h23 := Hra2.out.num1
 have hua2 : U32s w2.heap.size w2 (.slice p n c) (digs za.natAbs) := by
  obtain ⟨⟨s, e, hu⟩, -⟩ := HA2.out; cases e; exact hu
 have hub2 : U32s w2.heap.size w2 (.slice q m c2) (digs zb.natAbs) := by
  obtain ⟨⟨s, e, hu⟩, -⟩ := HBn2.out; cases e; exact hu
 have Hcd := Lib.hid (commonDivisor_calls _ _ _ _ w2 hua2 hub2 (norm_digs _) (norm_digs _) (digs_len64 HA2.out.2) (digs_len64 HBn2.out.2))
 have Hrs := Lib.hid (res_of false (Nat.gcd za.natAbs zb.natAbs) ((Nat.gcd za.natAbs zb.natAbs : Nat) : Int) (Int.natAbs_natCast _) (fun _ => by simp))
 clear hb2 h10 h11 hz1 hua2 hub2
 go_wp2_with fail
 refine Hcd.out.mono ?_
 rintro e w3 ⟨r, rfl, hrl, hrd, hrv, hb3⟩
 rw [val_digs, val_digs] at hrv
 have hz3 : w.heap.size + 3 ≤ w3.heap.size := Nat.le_trans hz2 hb3.size
 obtain ⟨W4, hW4⟩ : ∃ W4, W4 = (w3.alloc (.cells Tryz.zeroCells155 155)).setRow w3.heap.size (arr r) := ⟨_, rfl⟩
 have Hz4 : Hid (W4.heap.size = w3.heap.size + 1) := by show W4.heap.size = _; rw [hW4]; simp
 have HB4 : Hid (Below w.heap.size w W4) := by rw [hW4]; exact below_setRow2 ((HB2.out.trans (hb3.mono (by omega))).alloc (by omega) _) (by omega) _
 have Hr4 : Hid (RowAt W4 w3.heap.size 155 (arr r)) := by rw [hW4]; exact (RowAt.new w3 _ _).setRow _
 have Hrr4 : Hid (RowAt W4 (w.heap.size + 1 + 1) 36 (numCells false none 0 0)) := by rw [hW4]; exact ((Hrr2.out.below hb3 (by omega)).alloc _).setRowOther _ (by omega)
 have Hnew := Lib.hid (RowAt.new w3 155 Tryz.zeroCells155)
 have hnum := number_calls false _ _ W4 (u32s_row (B := W4.heap.size) (w := W4) (cap := 65) (L := 65) Hr4.out (by rw [Hz4.out]; omega) (by omega) (by rw [hrl]; decide))
 rw [List.take_of_length_le (by omega), strip_digs hrd, hrv, Hrs.out.1, Hrs.out.2.1, Hrs.out.2.2] at hnum
 have Hnum := Lib.hid hnum
 have HW4 := Lib.hid hW4
 clear hW4 hb3 hnum hrd hrv h20 h21 h22 h23
 go_wp2_with (refine store_row rfl (.tmp 6) (.tmp 20) rfl w3.heap.size rfl r hrl rfl 155 Tryz.zeroCells155 Hnew.out (by kernel_rfl) ?_; rw [← HW4.out])
 refine Hnum.out.mono ?_
 rintro e w5 ⟨s5, rfl, hu5, hb5⟩
 have hU5 := hu5
 obtain ⟨p5, c5, rfl, -, -⟩ := hU5
 have HR5 := Lib.hid (Hrr4.out.below hb5 (by rw [Hz4.out]; omega))
 have Hfin := Lib.hid (finNum (g := w.heap.size + 1 + 1) HB4.out (by omega) (by rw [Hz4.out]; omega) hu5 hb5 (turned_setRow w5 _ (numCells (zneg ((Nat.gcd za.natAbs zb.natAbs : Nat) : Int)) p5 (zdigs ((Nat.gcd za.natAbs zb.natAbs : Nat) : Int)).length c5)))
 clear hu5 hb5
 go_wp2_with (refine store_num rfl (.tmp 4) (.tmp 23) rfl (w.heap.size + 1 + 1) rfl _ _ _ _ rfl _ _ HR5.out rfl ?_)
 exact ret_num rfl (w.heap.size + 1 + 1) rfl _ rfl _ _ _ _ _ (HR5.out.setRow _) ⟨_, rfl, Hfin.out.1, Hfin.out.2⟩
end Go.Proofs.YtgnogdncoljldaaGreat
namespace Go.Proofs.YtgnogdncoljldaaGreat
open Go Go.RowKit Go.Shelf
theorem div_neg_rest {a b : Int} (ha : a < 0) (hb : 0 < b) (h : a.natAbs % b.natAbs ≠ 0) : a / b = -((a.natAbs / b.natAbs + 1 : Nat) : Int) ∧ a % b = ((b.natAbs - a.natAbs % b.natAbs : Nat) : Int) := by
 obtain ⟨x, rfl⟩ : ∃ x : Nat, a = -(x : Int) := ⟨a.natAbs, by omega⟩
 obtain ⟨y, rfl⟩ : ∃ y : Nat, b = (y : Int) := ⟨b.natAbs, by omega⟩
 simp only [Int.natAbs_neg, Int.natAbs_natCast] at h ⊢
 have hy : 0 < y := by omega
 have h1 := Nat.div_add_mod x y
 have h2 := Nat.mod_lt x hy
 have e : -(x : Int) = (y : Int) * (-((x / y + 1 : Nat) : Int)) + ((y - x % y : Nat) : Int) := by
  rw [Int.mul_neg, ← Int.natCast_mul, Nat.mul_add, Nat.mul_one]
  omega
 refine ⟨?_, ?_⟩
 ·rw [e, Int.add_comm, Int.add_mul_ediv_left _ _ (by omega)]
  rw [Int.ediv_eq_zero_of_lt (by omega) (by omega)]
  omega
 ·rw [e, Int.add_comm, Int.add_mul_emod_self_left]
  exact Int.emod_eq_of_lt (by omega) (by omega)
theorem div_neg_none {a b : Int} (ha : a < 0) (hb : 0 < b) (h : a.natAbs % b.natAbs = 0) : a / b = -((a.natAbs / b.natAbs : Nat) : Int) ∧ a % b = 0 := by
 obtain ⟨x, rfl⟩ : ∃ x : Nat, a = -(x : Int) := ⟨a.natAbs, by omega⟩
 obtain ⟨y, rfl⟩ : ∃ y : Nat, b = (y : Int) := ⟨b.natAbs, by omega⟩
 simp only [Int.natAbs_neg, Int.natAbs_natCast] at h ⊢
 have hy : 0 < y := by omega
 have h1 := Nat.div_add_mod x y
 have e : -(x : Int) = (y : Int) * (-((x / y : Nat) : Int)) := by
  rw [Int.mul_neg, ← Int.natCast_mul]
  omega
 refine ⟨?_, ?_⟩
 ·rw [e, Int.mul_ediv_cancel_left _ (by omega)]
 ·rw [e]; exact Int.mul_emod_right _ _
theorem div_pos_rest {a b : Int} (ha : 0 ≤ a) (hb : 0 < b) : a / b = ((a.natAbs / b.natAbs : Nat) : Int) ∧ a % b = ((a.natAbs % b.natAbs : Nat) : Int) := by
 obtain ⟨x, rfl⟩ : ∃ x : Nat, a = (x : Int) := ⟨a.natAbs, by omega⟩
 obtain ⟨y, rfl⟩ : ∃ y : Nat, b = (y : Int) := ⟨b.natAbs, by omega⟩
 simp only [Int.natAbs_natCast]
 exact ⟨(Int.natCast_ediv _ _).symm, (Int.natCast_emod _ _).symm⟩
theorem quo_succ_le {x y : Nat} (hy : 0 < y) (h : x % y ≠ 0) : x / y + 1 ≤ x := by
 have h1 := Nat.div_add_mod x y
 have h2 := Nat.mod_lt x hy
 have h3 : 2 * (x / y) ≤ y * (x / y) := Nat.mul_le_mul_right _ (by omega)
 omega
def DivPost (w : World) (q r : Int) (ok : Bool) (e : Ending) (w' : World) : Prop :=
 ∃ s t, e = .returned (.tuple #[.agg #[.bool (decide (q < 0)), s], .agg #[.bool (decide (r < 0)), t], .bool ok]) ∧ U32N w.heap.size w'.heap.size w' s (digs q.natAbs) ∧ U32N w.heap.size w'.heap.size w' t (digs r.natAbs) ∧ Below w.heap.size w w'
structure Df (b0 : Nat) (na nb : Bool) (p : Option Addr) (n c : Nat) (q : Option Addr) (m c2 : Nat) (W : World) : Prop where
 ra : RowAt W b0 36 (numCells na p n c)
 rb : RowAt W (b0 + 1) 36 (numCells nb q m c2)
 r4 : RowAt W (b0 + 1 + 1) 36 (numCells false none 0 0)
 r5 : RowAt W (b0 + 1 + 1 + 1) 36 (numCells false none 0 0)
theorem Df.below {b0 : Nat} {na nb : Bool} {p : Option Addr} {n c : Nat} {q : Option Addr} {m c2 : Nat} {W W' : World} (h : Df b0 na nb p n c q m c2 W) (hb : Below W.heap.size W W') : Df b0 na nb p n c q m c2 W' :=
 ⟨h.ra.below hb h.ra.lt, h.rb.below hb h.rb.lt, h.r4.below hb h.r4.lt, h.r5.below hb h.r5.lt⟩
theorem Df.set {b0 : Nat} {na nb : Bool} {p : Option Addr} {n c : Nat} {q : Option Addr} {m c2 : Nat} {W : World} (h : Df b0 na nb p n c q m c2 W) {g : Nat} (hg : b0 + 3 < g) (cs : Array Value) : Df b0 na nb p n c q m c2 (W.setRow g cs) :=
 ⟨h.ra.setRowOther _ (by omega), h.rb.setRowOther _ (by omega), h.r4.setRowOther _ (by omega), h.r5.setRowOther _ (by omega)⟩
theorem Df.alloc {b0 : Nat} {na nb : Bool} {p : Option Addr} {n c : Nat} {q : Option Addr} {m c2 : Nat} {W : World} (h : Df b0 na nb p n c q m c2 W) (o : Obj) : Df b0 na nb p n c q m c2 (W.alloc o) :=
 ⟨h.ra.alloc _, h.rb.alloc _, h.r4.alloc _, h.r5.alloc _⟩
section
variable {o : Oper} {a : Act} {w : World}
theorem run_field0 (x : Operand) (ho : o.op = .fieldAddr 36 x 0) (g : Nat) (hx : a.eval x = .pointer (some ⟨g, 0, none⟩)) : (execOp a.eval o).run Tryz.prog w = .ok (.value (.pointer (some ⟨g, 0, none⟩))) w := by
 unfold execOp
 simp only [ho, hx]
 simp [go_sem]
theorem run_field1 (x : Operand) (ho : o.op = .fieldAddr 36 x 1) (g : Nat) (hx : a.eval x = .pointer (some ⟨g, 0, none⟩)) : (execOp a.eval o).run Tryz.prog w = .ok (.value (.pointer (some ⟨g, 1, none⟩))) w := by
 unfold execOp
 simp only [ho, hx]
 simp [go_sem]
theorem run_load_slice_at (x : Operand) (ho : o.op = .load 34 x) (ad : Addr) (hx : a.eval x = .pointer (some ad)) (p : Option Addr) (n c : Nat) (hc : w.cell? ad = some (.slice p n c)) : (execOp a.eval o).run Tryz.prog w = .ok (.value (.slice p n c)) w := by
 unfold execOp
 simp only [ho, hx, Instr.loadAt, Instr.sureAddr, Sem.run_bind, Sem.run_pure, Result.andThen_ok]
 simp [hc, go_sem]
theorem run_load_bool_at (x : Operand) (ho : o.op = .load 4 x) (ad : Addr) (hx : a.eval x = .pointer (some ad)) (v : Bool) (hc : w.cell? ad = some (.bool v)) : (execOp a.eval o).run Tryz.prog w = .ok (.value (.bool v)) w := by
 unfold execOp
 simp only [ho, hx, Instr.loadAt, Instr.sureAddr, Sem.run_bind, Sem.run_pure, Result.andThen_ok]
 simp [hc, go_sem]
theorem run_load_num (x : Operand) (ho : o.op = .load 36 x) (g : Nat) (hx : a.eval x = .pointer (some ⟨g, 0, none⟩)) (neg : Bool) (p : Option Addr) (n c : Nat) (t : TypeId) (hg : RowAt w g t (numCells neg p n c)) : (execOp a.eval o).run Tryz.prog w = .ok (.value (.agg #[.bool neg, .slice p n c])) w := by
 unfold execOp
 simp only [ho, hx, Instr.loadAt, Instr.sureAddr, Sem.run_bind, Sem.run_pure, Result.andThen_ok, run_loadVar_row w g t 36 (numCells neg p n c) (0, 0) _ hg Tryz.underlying36 rfl num_info]
 rfl
theorem run_alloc_num (ho : o.op = .alloc 36) : (execOp a.eval o).run Tryz.prog w = .ok (.value (.pointer (some ⟨w.heap.size, 0, none⟩))) (w.alloc (.cells (numCells false none 0 0) 36)) := by
 unfold execOp
 simp [ho, go_sem]
 rfl
theorem wp_of_callE {K : Act → World → Prop} {Q : Exit → Act → World → Prop} {f : FuncId} {args : Array Value} (h : (execOp a.eval o).run Tryz.prog w = .ok (.enter f args) w) {R : Ending → World → Prop}
  (hc : Calls Tryz.prog f args w R) (hk : ∀ e w', R e w' → ∃ v, e = .returned v ∧ K (a.put o.dst v) w') : o.wp Tryz.prog a w K Q := by
 unfold Oper.wp; rw [h]
 refine hc.mono ?_
 intro e w' hr
 obtain ⟨v, rfl, hk⟩ := hk e w' hr
 exact hk
theorem ent_difference (args : Array Value) (w : World) : (callFunc 165 args).run Tryz.prog w = .ok (.enter 165 args) w := enters_of Tryz.func165 (by kernel_rfl) rfl args w
theorem ent_number (args : Array Value) (w : World) : (callFunc 120 args).run Tryz.prog w = .ok (.enter 120 args) w := enters_of Tryz.func120 (by kernel_rfl) rfl args w
end
end Go.Proofs.YtgnogdncoljldaaGreat
namespace Go.Proofs.YtgnogdncoljldaaGreat
open Go Go.RowKit Go.Shelf
def zcmp (a b : Int) : Int := if a < b then -1 else if b < a then 1 else 0
theorem zcmp_of {a b : Int} (ha : a.natAbs < B32 ^ 64) (hb : b.natAbs < B32 ^ 64) :
  (a < 0 → b < 0 → cmpL (digs b.natAbs) (digs a.natAbs) = zcmp a b) ∧ (a < 0 → ¬ b < 0 → zcmp a b = -1) ∧ (¬ a < 0 → b < 0 → zcmp a b = 1) ∧ (¬ a < 0 → ¬ b < 0 → cmpL (digs a.natAbs) (digs b.natAbs) = zcmp a b) := by
 rw [cmpL_norm (norm_digs _) (norm_digs _), cmpL_norm (norm_digs _) (norm_digs _), val_digs, val_digs]
 unfold zcmp sgn
 refine ⟨fun h1 h2 => ?_, fun h1 h2 => ?_, fun h1 h2 => ?_, fun h1 h2 => ?_⟩ <;> (repeat' split) <;> omega
theorem znum_slice {B : Nat} {w : World} {b : Bool} {s : Value} {z : Int} (h : ZNum B w (.agg #[.bool b, s]) z) : U32s B w s (digs z.natAbs) := by
 obtain ⟨⟨s', e, hu⟩, -⟩ := h
 cases e
 exact hu
set_option maxRecDepth 100000 in
set_option maxHeartbeats 2000000 in
theorem cmp_nn (va vb : Value) (za zb : Int) (w : World) (ha : ZNum w.heap.size w va za) (hb : ZNum w.heap.size w vb zb) (hca : za < 0) (hcb : zb < 0) :
  Calls Tryz.prog 125 #[va, vb] w fun e w' => e = .returned (.int .i64 (zcmp za zb)) ∧ Below w.heap.size w w' := by
 have hz := zcmp_of ha.2 hb.2
 obtain ⟨p, c, rfl⟩ := ha.parts
 obtain ⟨q, c2, rfl⟩ := hb.parts
 rw [show decide (za < 0) = true by simp; omega] at *
 rw [show decide (zb < 0) = true by simp; omega] at *
 have hz := hz.1 hca hcb
 have Hz := Lib.hid hz
 clear hz hca hcb
 obtain ⟨W3, hW3⟩ : ∃ W3, W3 = (w.alloc (.cells #[.bool true, .slice p (digs za.natAbs).length c] 36)).alloc (.cells #[.bool true, .slice q (digs zb.natAbs).length c2] 36) := ⟨_, rfl⟩
 have HB3 : Hid (Below w.heap.size w W3) := by rw [hW3]; exact ((Below.refl _ w).alloc (Nat.le_refl _) _).alloc (by simp) _
 have Hz3 : Hid (W3.heap.size = w.heap.size + 2) := by show W3.heap.size = _; rw [hW3]; simp
 have Hra : Hid (RowAt W3 w.heap.size 36 (numCells true p (digs za.natAbs).length c)) := by rw [hW3]; exact (RowAt.new w _ _).alloc _
 have Hrb : Hid (RowAt W3 (w.heap.size + 1) 36 (numCells true q (digs zb.natAbs).length c2)) := by rw [hW3]; exact RowAt.new' _ _ (by simp)
 have HA := Lib.hid ((ha.below HB3.out).mono (by rw [Hz3.out]; omega : w.heap.size ≤ W3.heap.size))
 have HBn := Lib.hid ((hb.below HB3.out).mono (by rw [Hz3.out]; omega : w.heap.size ≤ W3.heap.size))
 have HW3 := Lib.hid hW3
 generalize (digs za.natAbs).length = n at *
 generalize (digs zb.natAbs).length = m at *
 clear hW3 ha hb
 go_enter Tryz.func125, Tryz.ntmps125
 go_wp2_with fail
 rw [← HW3.out]
 refine (right_calls_z _ za W3 HA.out).mono ?_
 rintro e w1 ⟨rfl, hb1⟩
 have Hra1 := Lib.hid (Hra.out.below hb1 (by rw [Hz3.out]; omega))
 have Hrb1 := Lib.hid (Hrb.out.below hb1 (by rw [Hz3.out]; omega))
 have HA1 := Lib.hid ((HA.out.below hb1).mono hb1.size)
 have HBn1 := Lib.hid ((HBn.out.below hb1).mono hb1.size)
 have HB1 := Lib.hid (HB3.out.trans (hb1.mono (by rw [Hz3.out]; omega : w.heap.size ≤ W3.heap.size)))
 have hz1 : w.heap.size + 2 ≤ w1.heap.size := by rw [← Hz3.out]; exact hb1.size
 have h10 := Hrb1.out.num0
 have h11 := Hrb1.out.num1
 clear hb1
 go_wp2_with fail
 refine (right_calls_z _ zb w1 HBn1.out).mono ?_
 rintro e w2 ⟨rfl, hb2⟩
 have Hra2 := Lib.hid (Hra1.out.below hb2 (by omega))
 have Hrb2 := Lib.hid (Hrb1.out.below hb2 (by omega))
 have HA2 := Lib.hid ((HA1.out.below hb2).mono hb2.size)
 have HBn2 := Lib.hid ((HBn1.out.below hb2).mono hb2.size)
 have HB2 := Lib.hid (HB1.out.trans (hb2.mono (by omega : w.heap.size ≤ w1.heap.size)))
 have hz2 : w.heap.size + 2 ≤ w2.heap.size := Nat.le_trans hz1 hb2.size
 have h20 := Hrb2.out.num0
 have h21 := Hrb2.out.num1
 have h22 := Hra2.out.num0
 have h23 := Hra2.out.num1
 clear hb2 h10 h11 hz1
 have hcall := order_calls _ _ (digs zb.natAbs) (digs za.natAbs) w2 (znum_slice HBn2.out) (znum_slice HA2.out) (digs_digits _) (digs_digits _)
 rw [Hz.out] at hcall
 have Hcall := Lib.hid hcall
 clear hcall
 go_wp2_with fail
 refine Hcall.out.mono ?_
 rintro e w3 ⟨rfl, hb3⟩
 go_wp2
 go_ret
 exact ⟨rfl, HB2.out.trans (hb3.mono (by omega))⟩
set_option maxRecDepth 100000 in
set_option maxHeartbeats 2000000 in
theorem cmp_np (va vb : Value) (za zb : Int) (w : World) (ha : ZNum w.heap.size w va za) (hb : ZNum w.heap.size w vb zb) (hca : za < 0) (hcb : ¬ zb < 0) :
  Calls Tryz.prog 125 #[va, vb] w fun e w' => e = .returned (.int .i64 (zcmp za zb)) ∧ Below w.heap.size w w' := by
 have hz := zcmp_of ha.2 hb.2
 obtain ⟨p, c, rfl⟩ := ha.parts
 obtain ⟨q, c2, rfl⟩ := hb.parts
 rw [show decide (za < 0) = true by simp; omega] at *
 rw [show decide (zb < 0) = false by simp; omega] at *
 have hz := hz.2.1 hca hcb
 have Hz := Lib.hid hz
 clear hz hca hcb
 obtain ⟨W3, hW3⟩ : ∃ W3, W3 = (w.alloc (.cells #[.bool true, .slice p (digs za.natAbs).length c] 36)).alloc (.cells #[.bool false, .slice q (digs zb.natAbs).length c2] 36) := ⟨_, rfl⟩
 have HB3 : Hid (Below w.heap.size w W3) := by rw [hW3]; exact ((Below.refl _ w).alloc (Nat.le_refl _) _).alloc (by simp) _
 have Hz3 : Hid (W3.heap.size = w.heap.size + 2) := by show W3.heap.size = _; rw [hW3]; simp
 have Hra : Hid (RowAt W3 w.heap.size 36 (numCells true p (digs za.natAbs).length c)) := by rw [hW3]; exact (RowAt.new w _ _).alloc _
 have Hrb : Hid (RowAt W3 (w.heap.size + 1) 36 (numCells false q (digs zb.natAbs).length c2)) := by rw [hW3]; exact RowAt.new' _ _ (by simp)
 have HA := Lib.hid ((ha.below HB3.out).mono (by rw [Hz3.out]; omega : w.heap.size ≤ W3.heap.size))
 have HBn := Lib.hid ((hb.below HB3.out).mono (by rw [Hz3.out]; omega : w.heap.size ≤ W3.heap.size))
 have HW3 := Lib.hid hW3
 generalize (digs za.natAbs).length = n at *
 generalize (digs zb.natAbs).length = m at *
 clear hW3 ha hb
 go_enter Tryz.func125, Tryz.ntmps125
 go_wp2_with fail
 rw [← HW3.out]
 refine (right_calls_z _ za W3 HA.out).mono ?_
 rintro e w1 ⟨rfl, hb1⟩
 have Hra1 := Lib.hid (Hra.out.below hb1 (by rw [Hz3.out]; omega))
 have Hrb1 := Lib.hid (Hrb.out.below hb1 (by rw [Hz3.out]; omega))
 have HA1 := Lib.hid ((HA.out.below hb1).mono hb1.size)
 have HBn1 := Lib.hid ((HBn.out.below hb1).mono hb1.size)
 have HB1 := Lib.hid (HB3.out.trans (hb1.mono (by rw [Hz3.out]; omega : w.heap.size ≤ W3.heap.size)))
 have hz1 : w.heap.size + 2 ≤ w1.heap.size := by rw [← Hz3.out]; exact hb1.size
 have h10 := Hrb1.out.num0
 have h11 := Hrb1.out.num1
 clear hb1
 go_wp2_with fail
 refine (right_calls_z _ zb w1 HBn1.out).mono ?_
 rintro e w2 ⟨rfl, hb2⟩
 have Hra2 := Lib.hid (Hra1.out.below hb2 (by omega))
 have Hrb2 := Lib.hid (Hrb1.out.below hb2 (by omega))
 have HA2 := Lib.hid ((HA1.out.below hb2).mono hb2.size)
 have HBn2 := Lib.hid ((HBn1.out.below hb2).mono hb2.size)
 have HB2 := Lib.hid (HB1.out.trans (hb2.mono (by omega : w.heap.size ≤ w1.heap.size)))
 have hz2 : w.heap.size + 2 ≤ w2.heap.size := Nat.le_trans hz1 hb2.size
 have h20 := Hrb2.out.num0
 have h21 := Hrb2.out.num1
 have h22 := Hra2.out.num0
 have h23 := Hra2.out.num1
 clear hb2 h10 h11 hz1
 go_wp2
 go_ret
 exact ⟨by rw [Hz.out]; rfl, HB2.out⟩
set_option maxRecDepth 100000 in
set_option maxHeartbeats 2000000 in
theorem cmp_pn (va vb : Value) (za zb : Int) (w : World) (ha : ZNum w.heap.size w va za) (hb : ZNum w.heap.size w vb zb) (hca : ¬ za < 0) (hcb : zb < 0) :
  Calls Tryz.prog 125 #[va, vb] w fun e w' => e = .returned (.int .i64 (zcmp za zb)) ∧ Below w.heap.size w w' := by
 have hz := zcmp_of ha.2 hb.2
 obtain ⟨p, c, rfl⟩ := ha.parts
 obtain ⟨q, c2, rfl⟩ := hb.parts
 rw [show decide (za < 0) = false by simp; omega] at *
 rw [show decide (zb < 0) = true by simp; omega] at *
 have hz := hz.2.2.1 hca hcb
 have Hz := Lib.hid hz
 clear hz hca hcb
 obtain ⟨W3, hW3⟩ : ∃ W3, W3 = (w.alloc (.cells #[.bool false, .slice p (digs za.natAbs).length c] 36)).alloc (.cells #[.bool true, .slice q (digs zb.natAbs).length c2] 36) := ⟨_, rfl⟩
 have HB3 : Hid (Below w.heap.size w W3) := by rw [hW3]; exact ((Below.refl _ w).alloc (Nat.le_refl _) _).alloc (by simp) _
 have Hz3 : Hid (W3.heap.size = w.heap.size + 2) := by show W3.heap.size = _; rw [hW3]; simp
 have Hra : Hid (RowAt W3 w.heap.size 36 (numCells false p (digs za.natAbs).length c)) := by rw [hW3]; exact (RowAt.new w _ _).alloc _
 have Hrb : Hid (RowAt W3 (w.heap.size + 1) 36 (numCells true q (digs zb.natAbs).length c2)) := by rw [hW3]; exact RowAt.new' _ _ (by simp)
 have HA := Lib.hid ((ha.below HB3.out).mono (by rw [Hz3.out]; omega : w.heap.size ≤ W3.heap.size))
 have HBn := Lib.hid ((hb.below HB3.out).mono (by rw [Hz3.out]; omega : w.heap.size ≤ W3.heap.size))
 have HW3 := Lib.hid hW3
 generalize (digs za.natAbs).length = n at *
 generalize (digs zb.natAbs).length = m at *
 clear hW3 ha hb
 go_enter Tryz.func125, Tryz.ntmps125
 go_wp2_with fail
 rw [← HW3.out]
 refine (right_calls_z _ za W3 HA.out).mono ?_
 rintro e w1 ⟨rfl, hb1⟩
 have Hra1 := Lib.hid (Hra.out.below hb1 (by rw [Hz3.out]; omega))
 have Hrb1 := Lib.hid (Hrb.out.below hb1 (by rw [Hz3.out]; omega))
 have HA1 := Lib.hid ((HA.out.below hb1).mono hb1.size)
 have HBn1 := Lib.hid ((HBn.out.below hb1).mono hb1.size)
 have HB1 := Lib.hid (HB3.out.trans (hb1.mono (by rw [Hz3.out]; omega : w.heap.size ≤ W3.heap.size)))
 have hz1 : w.heap.size + 2 ≤ w1.heap.size := by rw [← Hz3.out]; exact hb1.size
 have h10 := Hrb1.out.num0
 have h11 := Hrb1.out.num1
 clear hb1
 go_wp2_with fail
 refine (right_calls_z _ zb w1 HBn1.out).mono ?_
 rintro e w2 ⟨rfl, hb2⟩
 have Hra2 := Lib.hid (Hra1.out.below hb2 (by omega))
 have Hrb2 := Lib.hid (Hrb1.out.below hb2 (by omega))
 have HA2 := Lib.hid ((HA1.out.below hb2).mono hb2.size)
 have HBn2 := Lib.hid ((HBn1.out.below hb2).mono hb2.size)
 have HB2 := Lib.hid (HB1.out.trans (hb2.mono (by omega : w.heap.size ≤ w1.heap.size)))
 have hz2 : w.heap.size + 2 ≤ w2.heap.size := Nat.le_trans hz1 hb2.size
 have h20 := Hrb2.out.num0
 have h21 := Hrb2.out.num1
 have h22 := Hra2.out.num0
 have h23 := Hra2.out.num1
 clear hb2 h10 h11 hz1
 go_wp2
 go_ret
 exact ⟨by rw [Hz.out]; rfl, HB2.out⟩
set_option maxRecDepth 100000 in
set_option maxHeartbeats 2000000 in
theorem cmp_pp (va vb : Value) (za zb : Int) (w : World) (ha : ZNum w.heap.size w va za) (hb : ZNum w.heap.size w vb zb) (hca : ¬ za < 0) (hcb : ¬ zb < 0) :
  Calls Tryz.prog 125 #[va, vb] w fun e w' => e = .returned (.int .i64 (zcmp za zb)) ∧ Below w.heap.size w w' := by
 have hz := zcmp_of ha.2 hb.2
 obtain ⟨p, c, rfl⟩ := ha.parts
 obtain ⟨q, c2, rfl⟩ := hb.parts
 rw [show decide (za < 0) = false by simp; omega] at *
 rw [show decide (zb < 0) = false by simp; omega] at *
 have hz := hz.2.2.2 hca hcb
 have Hz := Lib.hid hz
 clear hz hca hcb
 obtain ⟨W3, hW3⟩ : ∃ W3, W3 = (w.alloc (.cells #[.bool false, .slice p (digs za.natAbs).length c] 36)).alloc (.cells #[.bool false, .slice q (digs zb.natAbs).length c2] 36) := ⟨_, rfl⟩
 have HB3 : Hid (Below w.heap.size w W3) := by rw [hW3]; exact ((Below.refl _ w).alloc (Nat.le_refl _) _).alloc (by simp) _
 have Hz3 : Hid (W3.heap.size = w.heap.size + 2) := by show W3.heap.size = _; rw [hW3]; simp
 have Hra : Hid (RowAt W3 w.heap.size 36 (numCells false p (digs za.natAbs).length c)) := by rw [hW3]; exact (RowAt.new w _ _).alloc _
 have Hrb : Hid (RowAt W3 (w.heap.size + 1) 36 (numCells false q (digs zb.natAbs).length c2)) := by rw [hW3]; exact RowAt.new' _ _ (by simp)
 have HA := Lib.hid ((ha.below HB3.out).mono (by rw [Hz3.out]; omega : w.heap.size ≤ W3.heap.size))
 have HBn := Lib.hid ((hb.below HB3.out).mono (by rw [Hz3.out]; omega : w.heap.size ≤ W3.heap.size))
 have HW3 := Lib.hid hW3
 generalize (digs za.natAbs).length = n at *
 generalize (digs zb.natAbs).length = m at *
 clear hW3 ha hb
 go_enter Tryz.func125, Tryz.ntmps125
 go_wp2_with fail
 rw [← HW3.out]
 refine (right_calls_z _ za W3 HA.out).mono ?_
 rintro e w1 ⟨rfl, hb1⟩
 have Hra1 := Lib.hid (Hra.out.below hb1 (by rw [Hz3.out]; omega))
 have Hrb1 := Lib.hid (Hrb.out.below hb1 (by rw [Hz3.out]; omega))
 have HA1 := Lib.hid ((HA.out.below hb1).mono hb1.size)
 have HBn1 := Lib.hid ((HBn.out.below hb1).mono hb1.size)
 have HB1 := Lib.hid (HB3.out.trans (hb1.mono (by rw [Hz3.out]; omega : w.heap.size ≤ W3.heap.size)))
 have hz1 : w.heap.size + 2 ≤ w1.heap.size := by rw [← Hz3.out]; exact hb1.size
 have h10 := Hrb1.out.num0
 have h11 := Hrb1.out.num1
 clear hb1
 go_wp2_with fail
 refine (right_calls_z _ zb w1 HBn1.out).mono ?_
 rintro e w2 ⟨rfl, hb2⟩
 have Hra2 := Lib.hid (Hra1.out.below hb2 (by omega))
 have Hrb2 := Lib.hid (Hrb1.out.below hb2 (by omega))
 have HA2 := Lib.hid ((HA1.out.below hb2).mono hb2.size)
 have HBn2 := Lib.hid ((HBn1.out.below hb2).mono hb2.size)
 have HB2 := Lib.hid (HB1.out.trans (hb2.mono (by omega : w.heap.size ≤ w1.heap.size)))
 have hz2 : w.heap.size + 2 ≤ w2.heap.size := Nat.le_trans hz1 hb2.size
 have h20 := Hrb2.out.num0
 have h21 := Hrb2.out.num1
 have h22 := Hra2.out.num0
 have h23 := Hra2.out.num1
 clear hb2 h10 h11 hz1
 have hcall := order_calls _ _ (digs za.natAbs) (digs zb.natAbs) w2 (znum_slice HA2.out) (znum_slice HBn2.out) (digs_digits _) (digs_digits _)
 rw [Hz.out] at hcall
 have Hcall := Lib.hid hcall
 clear hcall
 go_wp2_with fail
 refine Hcall.out.mono ?_
 rintro e w3 ⟨rfl, hb3⟩
 go_wp2
 go_ret
 exact ⟨rfl, HB2.out.trans (hb3.mono (by omega))⟩
theorem cmp_calls (va vb : Value) (za zb : Int) (w : World) (ha : ZNum w.heap.size w va za) (hb : ZNum w.heap.size w vb zb) :
  Calls Tryz.prog 125 #[va, vb] w fun e w' => e = .returned (.int .i64 (zcmp za zb)) ∧ Below w.heap.size w w' := by
 by_cases h1 : za < 0 <;> by_cases h2 : zb < 0
 ·exact cmp_nn va vb za zb w ha hb h1 h2
 ·exact cmp_np va vb za zb w ha hb h1 h2
 ·exact cmp_pn va vb za zb w ha hb h1 h2
 ·exact cmp_pp va vb za zb w ha hb h1 h2
end Go.Proofs.YtgnogdncoljldaaGreat
namespace Go.Proofs.YtgnogdncoljldaaGreat
open Go Go.RowKit Go.Shelf
attribute [local go_sem] Oper.semAt_some
theorem U32N.move {lo lo' B B' : Nat} {w w' : World} {p : Option Addr} {n c : Nat} {ds : List Nat} (h : U32N lo B w (.slice p n c) ds) (hl : lo' ≤ lo) (hB : B ≤ B')
  (hw : ∀ b off, p = some ⟨b, off, none⟩ → 0 < ds.length → lo ≤ b → b < B → w'.heap[b]? = w.heap[b]?) : U32N lo' B' w' (.slice p n c) ds := by
 obtain ⟨p', c', e, hm, hc⟩ := h
 cases e
 refine ⟨_, _, rfl, hm, fun h0 => ?_⟩
 obtain ⟨b, off, rfl, h1, h2, h3⟩ := hc h0
 exact ⟨b, off, rfl, Nat.le_trans hl h1, Nat.lt_of_lt_of_le h2 hB, fun j hj => (World.cell?_of_block (hw b off rfl h0 h1 h2)).trans (h3 j hj)⟩
theorem U32N.block {lo B : Nat} {w : World} {p : Option Addr} {n c : Nat} {ds : List Nat} (h : U32N lo B w (.slice p n c) ds) {b off : Nat} (hp : p = some ⟨b, off, none⟩) (h0 : 0 < ds.length) : lo ≤ b ∧ b < B := by
 obtain ⟨p', c', e, hm, hc⟩ := h
 cases e
 obtain ⟨b', off', e, h1, h2, -⟩ := hc h0
 rw [hp] at e
 cases e
 exact ⟨h1, h2⟩
theorem res_ok {neg : Bool} {n : Nat} {z : Int} (hz : z.natAbs = n) (h : n ≠ 0 → neg = decide (z < 0)) (hl : z.natAbs < B32 ^ 64) : resNeg neg (digs n) = decide (z < 0) ∧ resDs (digs n) = digs z.natAbs ∧ resOk (digs n) = true := by
 have hr := res_of neg n z hz h
 unfold zneg zdigs zok at hr
 rw [if_pos hl, if_pos hl] at hr
 exact ⟨hr.1, hr.2.1, by rw [hr.2.2]; simp [hl]⟩
theorem div_lim {a b : Int} (ha : a.natAbs < B32 ^ 64) (hb : b.natAbs < B32 ^ 64) (h : 0 < b) : (a / b).natAbs < B32 ^ 64 ∧ (a % b).natAbs < B32 ^ 64 ∧ ((a / b).natAbs ≠ 0 → decide (a < 0) = decide (a / b < 0)) := by
 refine ⟨Nat.lt_of_le_of_lt (Int.natAbs_ediv_le_natAbs a b) ha, ?_, fun h0 => ?_⟩
 ·have h1 := Int.emod_nonneg a (by omega : b ≠ 0)
  have h2 := Int.emod_lt_of_pos a h
  omega
 ·by_cases hneg : a < 0
  ·have := Int.ediv_neg_of_neg_of_pos hneg h
   simp [hneg, this]
  ·have := Int.ediv_nonneg (by omega : 0 ≤ a) (by omega : 0 ≤ b)
   simp [hneg]; omega
theorem one_digits : Digits [1] := fun d hd => by simp at hd; subst hd; decide
theorem take_val_lt {Q : List Nat} {n k : Nat} (h : val Q < B32 ^ n) : val (Q.take n) = val Q := val_take_of_zero fun j hj => digit_zero_above (s := 0) (k := n) (by simpa using h) (by omega)
theorem div_adjust {Q R : List Nat} {x y n m : Nat} (hn : (digs x).length = n) (hm : (digs y).length = m) (hn64 : n ≤ 64) (hm64 : m ≤ 64) (hQl : Q.length = 65) (hRl : R.length = 65) (hQd : Digits Q) (hRd : Digits R) (hQ : val Q = x / y) (hR : val R = x % y) (hy : 0 < y) (h : x % y ≠ 0) :
  val ((sumRow (Q.take n) [1]).take n) = x / y + 1 ∧ val ((combRow subLo subHi (digs y) (R.take m)).take m) = y - x % y := by
 have hx0 : x ≠ 0 := fun e => by subst e; simp at h
 have hn1 : 1 ≤ n := by
  rcases Nat.eq_zero_or_pos n with e | e
  ·rw [e, List.length_eq_zero_iff, digs_nil_iff] at hn; exact absurd hn hx0
  ·exact e
 have hxn : x < B32 ^ n := digs_len.1 (by omega)
 have hym : y < B32 ^ m := digs_len.1 (by omega)
 have hle := quo_succ_le hy h
 have hQn : val (Q.take n) = x / y := by rw [take_val_lt (k := 0) (by rw [hQ]; omega), hQ]
 have hRm : val (R.take m) = x % y := by rw [take_val_lt (k := 0) (by rw [hR]; have := Nat.mod_lt x hy; omega), hR]
 have hlen : (Q.take n).length = n := by simp; omega
 constructor
 ·have h1 := sum_val (Q.take n) [1] (by rw [hlen]; exact hn64) (by simp)
  rw [hlen, hQn, show max n [1].length = n by simp; omega, show val [1] = 1 from rfl] at h1
  have h2 := drop_zero_of_lt (R := (sumRow (Q.take n) [1]).take (n + 1)) (k := n) (by rw [h1]; omega)
  have h3 := val_take_drop ((sumRow (Q.take n) [1]).take (n + 1)) (s := n) (by simp [sumRow_length]; omega)
  rw [h2, h1, List.take_take, Nat.min_eq_left (by omega)] at h3
  omega
 ·have h1 := dif_val (digs_digits y) (hRd.take m) (by simp; omega) (by omega) (by rw [hRm, val_digs]; have := Nat.mod_lt x hy; omega)
  rw [hm, val_digs, hRm] at h1
  exact h1
structure Dm (w : World) (b0 g7 : Nat) (na : Bool) (p : Option Addr) (n c : Nat) (q : Option Addr) (m c2 : Nat) (zq zr : Int) (Q R : List Nat) (W : World) : Prop where
 df : Df b0 na false p n c q m c2 W
 r7 : RowAt W g7 155 (arr Q)
 r8 : RowAt W (g7 + 1) 155 (arr R)
 lQ : Q.length = 65
 lR : R.length = 65
 dQ : Digits Q
 dR : Digits R
 vQ : val (Q.take n) = zq.natAbs
 vR : val (R.take m) = zr.natAbs
 below : Below w.heap.size w W
theorem ret_num2 {fn : Func} {R : Ending → World → Prop} {tmps : Array Value} {w : World} {r s u : Tmp} (hres : fn.results = #[.cell r 36, .cell s 36, .tmp u]) (g : Nat) (hp : tmps.getD r undef = .pointer (some ⟨g, 0, none⟩)) (k : Nat) (hk : tmps.getD s undef = .pointer (some ⟨k, 0, none⟩)) (ok : Bool) (hu : tmps.getD u undef = .bool ok)
  (n1 : Bool) (p1 : Option Addr) (l1 c1 : Nat) (n2 : Bool) (p2 : Option Addr) (l2 c2 : Nat) (t1 t2 : TypeId) (hg : RowAt w g t1 (numCells n1 p1 l1 c1)) (hg2 : RowAt w k t2 (numCells n2 p2 l2 c2)) (hR : R (.returned (.tuple #[.agg #[.bool n1, .slice p1 l1 c1], .agg #[.bool n2, .slice p2 l2 c2], .bool ok])) w) : bodyPost Tryz.prog fn R .ret { tmps, defers := [] } w := by
 refine bodyPost_ret (v := .tuple #[.agg #[.bool n1, .slice p1 l1 c1], .agg #[.bool n2, .slice p2 l2 c2], .bool ok]) ?_ rfl hR
 have hp' : tmps[r]?.getD undef = .pointer (some ⟨g, 0, none⟩) := by simpa using hp
 have hq' : tmps[s]?.getD undef = .pointer (some ⟨k, 0, none⟩) := by simpa using hk
 have hu' : tmps[u]?.getD undef = .bool ok := by simpa using hu
 have h1 := run_loadVar_row (P := Tryz.prog) w g t1 36 (numCells n1 p1 l1 c1) (0, 0) _ hg Tryz.underlying36 rfl num_info
 have h2 := run_loadVar_row (P := Tryz.prog) w k t2 36 (numCells n2 p2 l2 c2) (0, 0) _ hg2 Tryz.underlying36 rfl num_info
 simp [results, hres, hp', hq', hu', asAddr, h1, h2, numCells]
set_option maxRecDepth 100000 in
set_option maxHeartbeats 4000000 in
theorem div_ok (va vb : Value) (za zb : Int) (w : World) (ha : ZNum w.heap.size w va za) (hb : ZNum w.heap.size w vb zb) (h : 0 < zb) :
  Calls Tryz.prog 128 #[va, vb] w (DivPost w (za / zb) (za % zb) true) := by
 obtain ⟨p, c, rfl⟩ := ha.parts
 obtain ⟨q, c2, rfl⟩ := hb.parts
 generalize hna : decide (za < 0) = na at *
 generalize hnb : decide (zb < 0) = nb at *
 generalize hn : (digs za.natAbs).length = n at *
 generalize hm : (digs zb.natAbs).length = m at *
 obtain ⟨W4, hW4⟩ : ∃ W4, W4 = (((w.alloc (.cells #[.bool na, .slice p n c] 36)).alloc (.cells #[.bool nb, .slice q m c2] 36)).alloc (.cells #[.bool false, .slice none 0 0] 36)).alloc (.cells #[.bool false, .slice none 0 0] 36) := ⟨_, rfl⟩
 have HB4 : Hid (Below w.heap.size w W4) := by rw [hW4]; exact ((((Below.refl _ w).alloc (Nat.le_refl _) _).alloc (by simp) _).alloc (by simp; omega) _).alloc (by simp; omega) _
 have Hz4 : Hid (W4.heap.size = w.heap.size + 4) := by show W4.heap.size = _; rw [hW4]; simp
 have HD4 : Hid (Df w.heap.size na nb p n c q m c2 W4) := by
  rw [hW4]
  exact ⟨(((RowAt.new w _ _).alloc _).alloc _).alloc _, ((RowAt.new' _ _ (by simp)).alloc _).alloc _, (RowAt.new' _ _ (by simp)).alloc _, RowAt.new' _ _ (by simp)⟩
 have HA := Lib.hid ((ha.below HB4.out).mono (by rw [Hz4.out]; omega : w.heap.size ≤ W4.heap.size))
 have HBn := Lib.hid ((hb.below HB4.out).mono (by rw [Hz4.out]; omega : w.heap.size ≤ W4.heap.size))
 have HbU : Hid (U32s w.heap.size w (.slice q m c2) (digs zb.natAbs)) := znum_slice hb
 have HW4 := Lib.hid hW4
 have Hna := Lib.hid hna
 have Hnb := Lib.hid hnb
 have Hn := Lib.hid hn
 have Hm := Lib.hid hm
 clear hW4 ha hb hna hnb hn hm
 go_enter Tryz.func128, Tryz.ntmps128
 go_wp2_with fail
 rw [← HW4.out]
 refine (right_calls_z _ za W4 HA.out).mono ?_
 rintro e w1 ⟨rfl, hb1⟩
 have HD1 := Lib.hid (HD4.out.below hb1)
 have HA1 := Lib.hid ((HA.out.below hb1).mono hb1.size)
 have HBn1 := Lib.hid ((HBn.out.below hb1).mono hb1.size)
 have HB1 := Lib.hid (HB4.out.trans (hb1.mono (by rw [Hz4.out]; omega : w.heap.size ≤ W4.heap.size)))
 have hz1 : w.heap.size + 4 ≤ w1.heap.size := by rw [← Hz4.out]; exact hb1.size
 have h10 := HD1.out.rb.num0
 have h11 := HD1.out.rb.num1
 clear hb1
 go_wp2_with fail
 refine (right_calls_z _ zb w1 HBn1.out).mono ?_
 rintro e w2 ⟨rfl, hb2⟩
 have HD2 := Lib.hid (HD1.out.below hb2)
 have HA2 := Lib.hid ((HA1.out.below hb2).mono hb2.size)
 have HBn2 := Lib.hid ((HBn1.out.below hb2).mono hb2.size)
 have HB2 := Lib.hid (HB1.out.trans (hb2.mono (by omega : w.heap.size ≤ w1.heap.size)))
 have hz2 : w.heap.size + 4 ≤ w2.heap.size := Nat.le_trans hz1 hb2.size
 have h20 := HD2.out.rb.num0
 have h21 := HD2.out.rb.num1
 have h22 := HD2.out.ra.num0
 have h23 := HD2.out.ra.num1
 clear hb2 h10 h11 hz1
 obtain rfl : nb = false := by rw [← Hnb.out]; simp; omega
 have hm0 : m ≠ 0 := fun e => by
  have h1 := Hm.out
  rw [e, List.length_eq_zero_iff, digs_nil_iff] at h1
  omega
 have hm1 : ((m : Int) == 0) = false := by simp; omega
 have hua2 : U32s w2.heap.size w2 (.slice p n c) (digs za.natAbs) := by
  obtain ⟨⟨s, e, hu⟩, -⟩ := HA2.out; cases e; exact hu
 have hub2 : U32s w2.heap.size w2 (.slice q m c2) (digs zb.natAbs) := znum_slice HBn2.out
 have hn64 : n ≤ 64 := by rw [← Hn.out]; exact digs_len64 HA2.out.2
 have hm64 : m ≤ 64 := by rw [← Hm.out]; exact digs_len64 HBn2.out.2
 have Hdv := Lib.hid (divide_calls _ _ _ _ w2 hua2 hub2 (digs_digits _) (digs_digits _) (digs_len64 HA2.out.2) (digs_len64 HBn2.out.2) (m - 1) (by rw [Hm.out]; omega) (by rw [← Hm.out]; exact (noZero_last (by rw [Hm.out]; omega)).1 (norm_digs _).2))
 have Hlim : Hid ((za / zb).natAbs < B32 ^ 64 ∧ (za % zb).natAbs < B32 ^ 64 ∧ ((za / zb).natAbs ≠ 0 → decide (za < 0) = decide (za / zb < 0))) := div_lim HA2.out.2 HBn2.out.2 h
 have Hub2 := Lib.hid hub2
 clear hua2 hub2
 go_wp2_with fail
 refine Hdv.out.mono ?_
 rintro e w3 ⟨Q, R, rfl, hQl, hRl, hQd, hRd, hQv, hRv, hb3⟩
 rw [val_digs, val_digs] at hQv hRv
 have hz3 : w.heap.size + 4 ≤ w3.heap.size := Nat.le_trans hz2 hb3.size
 obtain ⟨W6, hW6⟩ : ∃ W6, W6 = (((w3.alloc (.cells Tryz.zeroCells155 155)).alloc (.cells Tryz.zeroCells155 155)).setRow w3.heap.size (arr Q)).setRow (w3.heap.size + 1) (arr R) := ⟨_, rfl⟩
 have HD6 : Hid (Df w.heap.size na false p n c q m c2 W6) := by rw [hW6]; exact ((((HD2.out.below hb3).alloc _).alloc _).set (by omega) _).set (by omega) _
 have Hz6 : Hid (W6.heap.size = w3.heap.size + 2) := by show W6.heap.size = _; rw [hW6]; simp
 have HB6 : Hid (Below w.heap.size w W6) := by rw [hW6]; exact below_setRow2 (below_setRow2 (((HB2.out.trans (hb3.mono (by omega))).alloc (by omega) _).alloc (by simp; omega) _) (by omega) _) (by omega) _
 have H67 : Hid (RowAt W6 w3.heap.size 155 (arr Q)) := by rw [hW6]; exact (((RowAt.new w3 _ _).alloc _).setRow _).setRowOther _ (by omega)
 have H68 : Hid (RowAt W6 (w3.heap.size + 1) 155 (arr R)) := by rw [hW6]; exact ((RowAt.new' (W := w3.alloc _) 155 Tryz.zeroCells155 (by simp)).setRowOther _ (by omega)).setRow _
 have Hub6 : Hid (U32s W6.heap.size W6 (.slice q m c2) (digs zb.natAbs)) := by
  have hb6 : Below w2.heap.size w2 W6 := by rw [hW6]; exact below_setRow2 (below_setRow2 ((hb3.alloc hb3.size _).alloc (by simp; exact Nat.le_succ_of_le hb3.size) _) hb3.size _) (Nat.le_succ_of_le hb3.size) _
  exact (Hub2.out.below hb6).mono hb6.size
 have Hnew7 := Lib.hid ((RowAt.new w3 155 Tryz.zeroCells155).alloc (.cells Tryz.zeroCells155 155))
 have Hnew8 := Lib.hid ((RowAt.new' (W := w3.alloc (.cells Tryz.zeroCells155 155)) (g := w3.heap.size + 1) 155 Tryz.zeroCells155 (by simp)).setRowOther (k := w3.heap.size) (arr Q) (by omega))
 have HQR := Lib.hid (And.intro (And.intro hQl hRl) (And.intro (And.intro hQd hRd) (And.intro hQv hRv)))
 have HW6 := Lib.hid hW6
 have h60 := HD6.out.ra.num0
 have h61 := HD6.out.ra.num1
 have h62 := HD6.out.rb.num1
 have hm65 : (m : Int) ≤ 65 := by omega
 have hn65 : (n : Int) ≤ 65 := by omega
 clear hW6 hb3 h20 h21 h22 h23 hQd hRd hQv hRv
 go_upto_region 4 with (first
   | (refine store_row rfl (.tmp 7) (.tmp 39) rfl w3.heap.size rfl Q hQl rfl 155 _ Hnew7.out (by kernel_rfl) ?_)
   | (refine store_row rfl (.tmp 8) (.tmp 40) rfl (w3.heap.size + 1) rfl R hRl rfl 155 _ Hnew8.out (by kernel_rfl) ?_; rw [← HW6.out]))
 rename_i K1 hK1 K2 hK2
 have htail : ∀ (u13 u14 u15 u16 u17 u18 u19 u20 u21 u22 u23 u24 u25 u26 u27 u28 u29 u30 u31 u32 u33 u34 u35 u36 u37 u38 u39 u40 u41 u42 u43 u44 u45 u46 u47 u48 u49 u50 u51 u52 u53 u54 u55 u56 u57 u58 u59 u60 u61 u62 u63 u64 u65 u66 u67 u68 u69 u70 u71 u72 u73 u74 u75 u76 u77 u78 u79 u80 u81 u82 u83 : Value) (Q R : List Nat) (wc : World), Dm w w.heap.size w3.heap.size na p n c q m c2 (za / zb) (za % zb) Q R wc → K1 { tmps := #[(.agg #[.bool na, .slice p n c]), (.agg #[.bool false, .slice q m c2]), (.pointer (some ⟨w.heap.size, 0, none⟩)), (.pointer (some ⟨w.heap.size + 1, 0, none⟩)), (.pointer (some ⟨w.heap.size + 1 + 1, 0, none⟩)), (.pointer (some ⟨w.heap.size + 1 + 1 + 1, 0, none⟩)), (.bool false), (.pointer (some ⟨w3.heap.size, 0, none⟩)), (.pointer (some ⟨w3.heap.size + 1, 0, none⟩)), undef, undef, undef, undef, u13, u14, u15, u16, u17, u18, u19, u20, u21, u22, u23, u24, u25, u26, u27, u28, u29, u30, u31, u32, u33, u34, u35, u36, u37, u38, u39, u40, u41, u42, u43, u44, u45, u46, u47, u48, u49, u50, u51, u52, u53, u54, u55, u56, u57, u58, u59, u60, u61, u62, u63, u64, u65, u66, u67, u68, u69, u70, u71, u72, u73, u74, u75, u76, u77, u78, u79, u80, u81, u82, u83], defers := [] } wc := by
  intro u13 u14 u15 u16 u17 u18 u19 u20 u21 u22 u23 u24 u25 u26 u27 u28 u29 u30 u31 u32 u33 u34 u35 u36 u37 u38 u39 u40 u41 u42 u43 u44 u45 u46 u47 u48 u49 u50 u51 u52 u53 u54 u55 u56 u57 u58 u59 u60 u61 u62 u63 u64 u65 u66 u67 u68 u69 u70 u71 u72 u73 u74 u75 u76 u77 u78 u79 u80 u81 u82 u83 Q' R' wc hdm
  have Hdm := Lib.hid hdm
  have hq64 : (za / zb).natAbs < B32 ^ 64 := Hlim.out.1
  have hr64 : (za % zb).natAbs < B32 ^ 64 := Hlim.out.2.1
  have hrs := res_ok (neg := na) (n := (za / zb).natAbs) (z := za / zb) rfl (fun h0 => by rw [← Hna.out]; exact Hlim.out.2.2 h0) hq64
  have HN7 : Hid (∀ W2, Below wc.heap.size wc W2 → Calls Tryz.prog 120 #[.bool na, .slice (some ⟨w3.heap.size, 0, none⟩) n 65] W2 (NumPost W2 (decide (za / zb < 0)) (digs (za / zb).natAbs) true)) := fun W2 hb => by
   have hnum := number_calls na _ _ W2 (u32s_row (L := n) (cap := 65) (Hdm.out.r7.below hb Hdm.out.r7.lt) (Nat.lt_of_lt_of_le Hdm.out.r7.lt hb.size) (by rw [Hdm.out.lQ]; omega) (by rw [Hdm.out.lQ]; decide))
   rwa [strip_digs (Hdm.out.dQ.take _), Hdm.out.vQ, hrs.1, hrs.2.1, hrs.2.2] at hnum
  clear hdm hK2 K2 hrs h60 h61 h62
  refine hK1 _ _ ?_
  go_wp2_with fail
  refine wp_region_inv (fun D a w' => ∃ v9 v10 v64 v65 v66 v67 v68 v69 v70 v71 v72 v73 sp sc g, a = { tmps := #[(.agg #[.bool na, .slice p n c]), (.agg #[.bool false, .slice q m c2]), (.pointer (some ⟨w.heap.size, 0, none⟩)), (.pointer (some ⟨w.heap.size + 1, 0, none⟩)), (.pointer (some ⟨w.heap.size + 1 + 1, 0, none⟩)), (.pointer (some ⟨w.heap.size + 1 + 1 + 1, 0, none⟩)), (.bool false), (.pointer (some ⟨w3.heap.size, 0, none⟩)), (.pointer (some ⟨w3.heap.size + 1, 0, none⟩)), v9, v10, undef, undef, u13, u14, u15, u16, u17, u18, u19, u20, u21, u22, u23, u24, u25, u26, u27, u28, u29, u30, u31, u32, u33, u34, u35, u36, u37, u38, u39, u40, u41, u42, u43, u44, u45, u46, u47, u48, u49, u50, u51, u52, u53, u54, u55, u56, u57, u58, u59, u60, u61, u62, u63, v64, v65, v66, v67, v68, v69, v70, v71, v72, v73, u74, u75, u76, u77, u78, u79, u80, u81, u82, u83], defers := [] } ∧ (D 0 → v65 = .pointer (some ⟨w.heap.size, 0, none⟩)) ∧ (D 1 → v66 = .bool na) ∧ (D 2 → v67 = .pointer (some ⟨w.heap.size, 1, none⟩)) ∧ (D 3 → v68 = .slice p n c) ∧ (D 4 → v69 = .int .i64 (n : Nat)) ∧ (D 5 → v70 = .slice (some ⟨w3.heap.size, 0, none⟩) n 65) ∧ (D 6 → v71 = .tuple #[.agg #[.bool (decide (za / zb < 0)), .slice sp (digs (za / zb).natAbs).length sc], .bool true]) ∧ (D 7 → v64 = .tuple #[.agg #[.bool (decide (za / zb < 0)), .slice sp (digs (za / zb).natAbs).length sc], .bool true]) ∧ (D 8 → v72 = .agg #[.bool (decide (za / zb < 0)), .slice sp (digs (za / zb).natAbs).length sc]) ∧ (D 9 → v73 = .bool true) ∧ (D 10 → v9 = .pointer (some ⟨g, 0, none⟩)) ∧ (D 12 → v10 = .bool true) ∧ Below wc.heap.size wc w' ∧ (D 6 → U32N wc.heap.size w'.heap.size w' (.slice sp (digs (za / zb).natAbs).length sc) (digs (za / zb).natAbs)) ∧ (D 10 → wc.heap.size ≤ g ∧ ∃ cs, RowAt w' g 36 cs ∧ cs.size = 2 ∧ (D 11 → cs = numCells (decide (za / zb < 0)) sp (digs (za / zb).natAbs).length sc)) ∧ (D 6 → D 10 → 0 < (digs (za / zb).natAbs).length → ∀ b off, sp = some ⟨b, off, none⟩ → b ≠ g) ∧ (D 11 → D 10) ∧ (D 7 → D 6) ∧ (D 8 → D 7) ∧ (D 11 → D 6))
   (by kernel_rfl) (by kernel_rfl) ?startS ?stepS ?finS
  case startS => exact ⟨undef, undef, u64, u65, u66, u67, u68, u69, u70, u71, u72, u73, (none : Option Addr), 0, 0, rfl, False.elim, False.elim, False.elim, False.elim, False.elim, False.elim, False.elim, False.elim, False.elim, False.elim, False.elim, False.elim, (Below.refl _ _).drew, False.elim, False.elim, False.elim, False.elim, False.elim, False.elim, False.elim⟩
  case stepS =>
   rintro i o D a w1 hio hn he ⟨v9, v10, v64, v65, v66, v67, v68, v69, v70, v71, v72, v73, sp, sc, g, rfl, f0, f1, f2, f3, f4, f5, f6, f7, f8, f9, f10, f12, k0, k1, k2, k3, k4, k5, k6, k7⟩
   rcases i with _ | _ | _ | _ | _ | _ | _ | _ | _ | _ | _ | _ | _ | i
   rotate_left 13
   ·exact absurd hio (by simp)
   all_goals (obtain rfl := Option.some.inj (hio.symm.trans (by rfl)))
   ·exact wp_of_run (run_field0 (.tmp 2) rfl (w.heap.size) rfl) ⟨_, _, _, _, _, _, _, _, _, _, _, _, _, _, _, rfl, put_eq rfl, put_ne (by decide) f1, put_ne (by decide) f2, put_ne (by decide) f3, put_ne (by decide) f4, put_ne (by decide) f5, put_ne (by decide) f6, put_ne (by decide) f7, put_ne (by decide) f8, put_ne (by decide) f9, put_ne (by decide) f10, put_ne (by decide) f12, k0, put_ne (by decide) k1, fun e => (k2 (And'.ne (by decide) e)).imp id fun ⟨cs, h1, h2, h3⟩ => ⟨cs, h1, h2, fun e => h3 (And'.ne (by decide) e)⟩, fun e e' => k3 (And'.ne (by decide) e) (And'.ne (by decide) e'), fun e => .inr (k4 (And'.ne (by decide) e)), fun e => .inr (k5 (And'.ne (by decide) e)), fun e => .inr (k6 (And'.ne (by decide) e)), fun e => .inr (k7 (And'.ne (by decide) e))⟩
   ·obtain rfl := (f0 (he ⟨0, .data⟩ (by simp) rfl)).symm
    exact wp_of_run (run_load_bool_at (.tmp 65) rfl _ rfl na (Hdm.out.df.ra.below k0 Hdm.out.df.ra.lt).num0) ⟨_, _, _, _, _, _, _, _, _, _, _, _, _, _, _, rfl, put_ne (by decide) f0, put_eq rfl, put_ne (by decide) f2, put_ne (by decide) f3, put_ne (by decide) f4, put_ne (by decide) f5, put_ne (by decide) f6, put_ne (by decide) f7, put_ne (by decide) f8, put_ne (by decide) f9, put_ne (by decide) f10, put_ne (by decide) f12, k0, put_ne (by decide) k1, fun e => (k2 (And'.ne (by decide) e)).imp id fun ⟨cs, h1, h2, h3⟩ => ⟨cs, h1, h2, fun e => h3 (And'.ne (by decide) e)⟩, fun e e' => k3 (And'.ne (by decide) e) (And'.ne (by decide) e'), fun e => .inr (k4 (And'.ne (by decide) e)), fun e => .inr (k5 (And'.ne (by decide) e)), fun e => .inr (k6 (And'.ne (by decide) e)), fun e => .inr (k7 (And'.ne (by decide) e))⟩
   ·exact wp_of_run (run_field1 (.tmp 2) rfl (w.heap.size) rfl) ⟨_, _, _, _, _, _, _, _, _, _, _, _, _, _, _, rfl, put_ne (by decide) f0, put_ne (by decide) f1, put_eq rfl, put_ne (by decide) f3, put_ne (by decide) f4, put_ne (by decide) f5, put_ne (by decide) f6, put_ne (by decide) f7, put_ne (by decide) f8, put_ne (by decide) f9, put_ne (by decide) f10, put_ne (by decide) f12, k0, put_ne (by decide) k1, fun e => (k2 (And'.ne (by decide) e)).imp id fun ⟨cs, h1, h2, h3⟩ => ⟨cs, h1, h2, fun e => h3 (And'.ne (by decide) e)⟩, fun e e' => k3 (And'.ne (by decide) e) (And'.ne (by decide) e'), fun e => .inr (k4 (And'.ne (by decide) e)), fun e => .inr (k5 (And'.ne (by decide) e)), fun e => .inr (k6 (And'.ne (by decide) e)), fun e => .inr (k7 (And'.ne (by decide) e))⟩
   ·obtain rfl := (f2 (he ⟨2, .data⟩ (by simp) rfl)).symm
    exact wp_of_run (run_load_slice_at (.tmp 67) rfl _ rfl p n c (Hdm.out.df.ra.below k0 Hdm.out.df.ra.lt).num1) ⟨_, _, _, _, _, _, _, _, _, _, _, _, _, _, _, rfl, put_ne (by decide) f0, put_ne (by decide) f1, put_ne (by decide) f2, put_eq rfl, put_ne (by decide) f4, put_ne (by decide) f5, put_ne (by decide) f6, put_ne (by decide) f7, put_ne (by decide) f8, put_ne (by decide) f9, put_ne (by decide) f10, put_ne (by decide) f12, k0, put_ne (by decide) k1, fun e => (k2 (And'.ne (by decide) e)).imp id fun ⟨cs, h1, h2, h3⟩ => ⟨cs, h1, h2, fun e => h3 (And'.ne (by decide) e)⟩, fun e e' => k3 (And'.ne (by decide) e) (And'.ne (by decide) e'), fun e => .inr (k4 (And'.ne (by decide) e)), fun e => .inr (k5 (And'.ne (by decide) e)), fun e => .inr (k6 (And'.ne (by decide) e)), fun e => .inr (k7 (And'.ne (by decide) e))⟩
   ·obtain rfl := (f3 (he ⟨3, .data⟩ (by simp) rfl)).symm
    exact wp_of_run (run_len (.tmp 68) _ rfl rfl _ n _ rfl) ⟨_, _, _, _, _, _, _, _, _, _, _, _, _, _, _, rfl, put_ne (by decide) f0, put_ne (by decide) f1, put_ne (by decide) f2, put_ne (by decide) f3, put_eq rfl, put_ne (by decide) f5, put_ne (by decide) f6, put_ne (by decide) f7, put_ne (by decide) f8, put_ne (by decide) f9, put_ne (by decide) f10, put_ne (by decide) f12, k0, put_ne (by decide) k1, fun e => (k2 (And'.ne (by decide) e)).imp id fun ⟨cs, h1, h2, h3⟩ => ⟨cs, h1, h2, fun e => h3 (And'.ne (by decide) e)⟩, fun e e' => k3 (And'.ne (by decide) e) (And'.ne (by decide) e'), fun e => .inr (k4 (And'.ne (by decide) e)), fun e => .inr (k5 (And'.ne (by decide) e)), fun e => .inr (k6 (And'.ne (by decide) e)), fun e => .inr (k7 (And'.ne (by decide) e))⟩
   ·obtain rfl := (f4 (he ⟨4, .data⟩ (by simp) rfl)).symm
    exact wp_of_run (run_slice1 (.tmp 7) (.tmp 69) rfl w3.heap.size n rfl rfl (by omega)) ⟨_, _, _, _, _, _, _, _, _, _, _, _, _, _, _, rfl, put_ne (by decide) f0, put_ne (by decide) f1, put_ne (by decide) f2, put_ne (by decide) f3, put_ne (by decide) f4, put_eq rfl, put_ne (by decide) f6, put_ne (by decide) f7, put_ne (by decide) f8, put_ne (by decide) f9, put_ne (by decide) f10, put_ne (by decide) f12, k0, put_ne (by decide) k1, fun e => (k2 (And'.ne (by decide) e)).imp id fun ⟨cs, h1, h2, h3⟩ => ⟨cs, h1, h2, fun e => h3 (And'.ne (by decide) e)⟩, fun e e' => k3 (And'.ne (by decide) e) (And'.ne (by decide) e'), fun e => .inr (k4 (And'.ne (by decide) e)), fun e => .inr (k5 (And'.ne (by decide) e)), fun e => .inr (k6 (And'.ne (by decide) e)), fun e => .inr (k7 (And'.ne (by decide) e))⟩
   ·obtain rfl := (f1 (he ⟨1, .data⟩ (by simp) rfl)).symm
    obtain rfl := (f5 (he ⟨5, .data⟩ (by simp) rfl)).symm
    refine wp_of_callE (run_enter2 120 (.tmp 66) (.tmp 70) _ rfl _ _ rfl rfl ent_number) (HN7.out w1 k0) ?_
    rintro e w' ⟨s5, rfl, hu5, hb5⟩
    have hU5 := hu5
    obtain ⟨p5, c5, rfl, -, -⟩ := hU5
    refine ⟨_, rfl, ?_⟩
    exact ⟨_, _, _, _, _, _, _, _, _, _, _, _, _, _, _, rfl, put_ne (by decide) f0, put_ne (by decide) f1, put_ne (by decide) f2, put_ne (by decide) f3, put_ne (by decide) f4, put_ne (by decide) f5, put_eq rfl, (fun e => absurd (k5 (And'.ne (by decide) e)) hn), (fun e => absurd (k5 (k6 (And'.ne (by decide) e))) hn), put_ne (by decide) f9, put_ne (by decide) f10, put_ne (by decide) f12, k0.trans (hb5.mono k0.size), fun _ => hu5.move k0.size (Nat.le_refl _) fun _ _ _ _ _ _ => rfl, fun e => (k2 (And'.ne (by decide) e)).imp id fun ⟨cs, h1, h2, h3⟩ => ⟨cs, h1.below hb5 h1.lt, h2, fun e => absurd (k7 (And'.ne (by decide) e)) hn⟩, fun _ e h0 b off hp => by obtain ⟨cs, hr, -⟩ := (k2 (And'.ne (by decide) e)).2; have := hr.lt; have := (hu5.block hp h0).1; omega, fun e => .inr (k4 (And'.ne (by decide) e)), fun _ => .inl rfl, fun e => .inr (k6 (And'.ne (by decide) e)), fun _ => .inl rfl⟩
   ·obtain rfl := (f6 (he ⟨6, .data⟩ (by simp) rfl)).symm
    exact wp_of_run (run_move (.tmp 71) rfl) ⟨_, _, _, _, _, _, _, _, _, _, _, _, _, _, _, rfl, put_ne (by decide) f0, put_ne (by decide) f1, put_ne (by decide) f2, put_ne (by decide) f3, put_ne (by decide) f4, put_ne (by decide) f5, put_ne (by decide) f6, put_eq rfl, put_ne (by decide) f8, put_ne (by decide) f9, put_ne (by decide) f10, put_ne (by decide) f12, k0, put_ne (by decide) k1, fun e => (k2 (And'.ne (by decide) e)).imp id fun ⟨cs, h1, h2, h3⟩ => ⟨cs, h1, h2, fun e => h3 (And'.ne (by decide) e)⟩, fun e e' => k3 (And'.ne (by decide) e) (And'.ne (by decide) e'), fun e => .inr (k4 (And'.ne (by decide) e)), fun _ => .inr (he ⟨6, .data⟩ (by simp) rfl), fun _ => .inl rfl, fun e => .inr (k7 (And'.ne (by decide) e))⟩
   ·obtain rfl := (f7 (he ⟨7, .data⟩ (by simp) rfl)).symm
    exact wp_of_run (run_extract (.tmp 64) 0 rfl _ rfl _ rfl) ⟨_, _, _, _, _, _, _, _, _, _, _, _, _, _, _, rfl, put_ne (by decide) f0, put_ne (by decide) f1, put_ne (by decide) f2, put_ne (by decide) f3, put_ne (by decide) f4, put_ne (by decide) f5, put_ne (by decide) f6, put_ne (by decide) f7, put_eq rfl, put_ne (by decide) f9, put_ne (by decide) f10, put_ne (by decide) f12, k0, put_ne (by decide) k1, fun e => (k2 (And'.ne (by decide) e)).imp id fun ⟨cs, h1, h2, h3⟩ => ⟨cs, h1, h2, fun e => h3 (And'.ne (by decide) e)⟩, fun e e' => k3 (And'.ne (by decide) e) (And'.ne (by decide) e'), fun e => .inr (k4 (And'.ne (by decide) e)), fun e => .inr (k5 (And'.ne (by decide) e)), fun _ => .inr (he ⟨7, .data⟩ (by simp) rfl), fun e => .inr (k7 (And'.ne (by decide) e))⟩
   ·obtain rfl := (f7 (he ⟨7, .data⟩ (by simp) rfl)).symm
    exact wp_of_run (run_extract (.tmp 64) 1 rfl _ rfl _ rfl) ⟨_, _, _, _, _, _, _, _, _, _, _, _, _, _, _, rfl, put_ne (by decide) f0, put_ne (by decide) f1, put_ne (by decide) f2, put_ne (by decide) f3, put_ne (by decide) f4, put_ne (by decide) f5, put_ne (by decide) f6, put_ne (by decide) f7, put_ne (by decide) f8, put_eq rfl, put_ne (by decide) f10, put_ne (by decide) f12, k0, put_ne (by decide) k1, fun e => (k2 (And'.ne (by decide) e)).imp id fun ⟨cs, h1, h2, h3⟩ => ⟨cs, h1, h2, fun e => h3 (And'.ne (by decide) e)⟩, fun e e' => k3 (And'.ne (by decide) e) (And'.ne (by decide) e'), fun e => .inr (k4 (And'.ne (by decide) e)), fun e => .inr (k5 (And'.ne (by decide) e)), fun e => .inr (k6 (And'.ne (by decide) e)), fun e => .inr (k7 (And'.ne (by decide) e))⟩
   ·exact wp_of_run (run_alloc_num rfl) ⟨_, _, _, _, _, _, _, _, _, _, _, _, _, _, _, rfl, put_ne (by decide) f0, put_ne (by decide) f1, put_ne (by decide) f2, put_ne (by decide) f3, put_ne (by decide) f4, put_ne (by decide) f5, put_ne (by decide) f6, put_ne (by decide) f7, put_ne (by decide) f8, put_ne (by decide) f9, put_eq rfl, put_ne (by decide) f12, k0.alloc k0.size _, fun e => (k1 (And'.ne (by decide) e)).move (Nat.le_refl _) (by simp) fun b off _ _ _ h => Below.heap_alloc _ _ _ h, fun _ => ⟨k0.size, _, RowAt.new _ _ _, rfl, fun e => absurd (k4 (And'.ne (by decide) e)) hn⟩, fun e _ h0 b off hp => by have := ((k1 (And'.ne (by decide) e)).block hp h0).2; omega, fun _ => .inl rfl, fun e => .inr (k5 (And'.ne (by decide) e)), fun e => .inr (k6 (And'.ne (by decide) e)), fun e => .inr (k7 (And'.ne (by decide) e))⟩
   ·have h10 := he ⟨10, .data⟩ (by simp) rfl
    have h6 := he ⟨6, .phase⟩ (by simp) rfl
    obtain rfl := (f10 h10).symm
    obtain rfl := (f8 (he ⟨8, .data⟩ (by simp) rfl)).symm
    obtain ⟨hlo, cs, hr, hs, -⟩ := k2 h10
    refine wp_store_row 36 (.tmp 9) (.tmp 72) rfl g (numCells (decide (za / zb < 0)) sp (digs (za / zb).natAbs).length sc) rfl rfl 36 cs hr num_info (by rw [hs]; rfl) (numCells_one ..) ?_
    exact ⟨_, _, _, _, _, _, _, _, _, _, _, _, _, _, _, rfl, put_ne (by decide) f0, put_ne (by decide) f1, put_ne (by decide) f2, put_ne (by decide) f3, put_ne (by decide) f4, put_ne (by decide) f5, put_ne (by decide) f6, put_ne (by decide) f7, put_ne (by decide) f8, put_ne (by decide) f9, put_ne (by decide) f10, put_ne (by decide) f12, below_setRow2 k0 hlo _, fun e => (k1 h6).move (Nat.le_refl _) (by simp [World.setRow]) fun b off hp h0 _ _ => setRow_other _ _ _ _ (k3 h6 h10 h0 b off hp), fun _ => ⟨hlo, _, hr.setRow _, rfl, fun _ => rfl⟩, fun _ _ => k3 h6 h10, fun _ => .inr h10, fun e => .inr (k5 (And'.ne (by decide) e)), fun e => .inr (k6 (And'.ne (by decide) e)), fun _ => .inr (he ⟨6, .phase⟩ (by simp) rfl)⟩
   ·obtain rfl := (f9 (he ⟨9, .data⟩ (by simp) rfl)).symm
    exact wp_of_run (run_assign (.tmp 73) rfl) ⟨_, _, _, _, _, _, _, _, _, _, _, _, _, _, _, rfl, put_ne (by decide) f0, put_ne (by decide) f1, put_ne (by decide) f2, put_ne (by decide) f3, put_ne (by decide) f4, put_ne (by decide) f5, put_ne (by decide) f6, put_ne (by decide) f7, put_ne (by decide) f8, put_ne (by decide) f9, put_ne (by decide) f10, put_eq rfl, k0, put_ne (by decide) k1, fun e => (k2 (And'.ne (by decide) e)).imp id fun ⟨cs, h1, h2, h3⟩ => ⟨cs, h1, h2, fun e => h3 (And'.ne (by decide) e)⟩, fun e e' => k3 (And'.ne (by decide) e) (And'.ne (by decide) e'), fun e => .inr (k4 (And'.ne (by decide) e)), fun e => .inr (k5 (And'.ne (by decide) e)), fun e => .inr (k6 (And'.ne (by decide) e)), fun e => .inr (k7 (And'.ne (by decide) e))⟩
  case finS =>
   rintro D a w1 hD ⟨v9, v10, v64, v65, v66, v67, v68, v69, v70, v71, v72, v73, sp, sc, g, rfl, f0, f1, f2, f3, f4, f5, f6, f7, f8, f9, f10, f12, k0, k1, k2, k3, k4, k5, k6, k7⟩
   obtain rfl := (f10 (hD 10 (by simp))).symm
   obtain rfl := (f12 (hD 12 (by simp))).symm
   have hu := k1 (hD 6 (by simp))
   obtain ⟨hlo, cs, hr9, -, hcs⟩ := k2 (hD 10 (by simp))
   obtain rfl := hcs (hD 11 (by simp))
   have hblk := k3 (hD 6 (by simp)) (hD 10 (by simp))
   clear f0 f1 f2 f3 f4 f5 f6 f7 f8 f9 f10 f12 hD k1 k2 k3 k4 k5 k6 k7
   have hwc : w.heap.size ≤ wc.heap.size := Hdm.out.below.size
   have hg3 : w.heap.size + 1 + 1 + 1 < wc.heap.size := Hdm.out.df.r5.lt
   have hrs := res_ok (neg := false) (n := (za % zb).natAbs) (z := za % zb) rfl (fun _ => by have := Int.emod_nonneg za (by omega : zb ≠ 0); simp; omega) hr64
   have hnum := number_calls false _ _ w1 (u32s_row (L := m) (cap := 65) (Hdm.out.r8.below k0 Hdm.out.r8.lt) (Nat.lt_of_lt_of_le Hdm.out.r8.lt k0.size) (by rw [Hdm.out.lR]; omega) (by rw [Hdm.out.lR]; decide))
   rw [strip_digs (Hdm.out.dR.take _), Hdm.out.vR, hrs.1, hrs.2.1, hrs.2.2] at hnum
   have HN8 := Lib.hid hnum
   have h81 := (Hdm.out.df.rb.below k0 Hdm.out.df.rb.lt).num1
   have K0 := Lib.hid k0
   have Hu1 := Lib.hid hu
   have Hr9 := Lib.hid hr9
   have Hblk := Lib.hid hblk
   clear hrs hnum k0 hu hr9 hblk
   go_wp2_with fail
   refine HN8.out.mono ?_
   rintro e w5 ⟨s5, rfl, hu5, hb5⟩
   have hU5 := hu5
   obtain ⟨p5, c5, rfl, -, -⟩ := hU5
   have hz5 : wc.heap.size ≤ w5.heap.size := Nat.le_trans K0.out.size hb5.size
   obtain ⟨W6, hW6⟩ : ∃ W6, W6 = (w5.alloc (.cells #[.bool false, .slice none 0 0] 36)).setRow w5.heap.size (numCells (decide (za % zb < 0)) p5 (digs (za % zb).natAbs).length c5) := ⟨_, rfl⟩
   have hold : ∀ k, k < w5.heap.size → W6.heap[k]? = w5.heap[k]? := fun k hk => by rw [hW6, setRow_other _ _ _ _ (by omega)]; exact Below.heap_alloc _ _ _ hk
   have hs6 : W6.heap.size = w5.heap.size + 1 := by rw [hW6]; simp
   have hg1 := Hr9.out.lt
   have Hwc5 : Hid (∀ k, k < wc.heap.size → W6.heap[k]? = wc.heap[k]?) := fun k hk => (hold k (by omega)).trans ((hb5.block k (Nat.lt_of_lt_of_le hk K0.out.size)).trans (K0.out.block k hk))
   have H9 : Hid (RowAt W6 g 36 (numCells (decide (za / zb < 0)) sp (digs (za / zb).natAbs).length sc)) := (hold g (Nat.lt_of_lt_of_le hg1 hb5.size)).trans (Hr9.out.below hb5 hg1)
   have H11 : Hid (RowAt W6 w5.heap.size 36 (numCells (decide (za % zb < 0)) p5 (digs (za % zb).natAbs).length c5)) := by rw [hW6]; exact (RowAt.new w5 _ _).setRow _
   have H4 : Hid (RowAt W6 (w.heap.size + 1 + 1) 36 (numCells false none 0 0)) := (Hwc5.out _ Hdm.out.df.r4.lt).trans Hdm.out.df.r4
   have H5 : Hid (RowAt W6 (w.heap.size + 1 + 1 + 1) 36 (numCells false none 0 0)) := (Hwc5.out _ Hdm.out.df.r5.lt).trans Hdm.out.df.r5
   have Hu : Hid (U32N wc.heap.size W6.heap.size W6 (.slice sp (digs (za / zb).natAbs).length sc) (digs (za / zb).natAbs)) := Hu1.out.move (Nat.le_refl _) (by rw [hs6]; exact Nat.le_succ_of_le hb5.size) fun b off _ _ _ h2 => (hold b (Nat.lt_of_lt_of_le h2 hb5.size)).trans (hb5.block b h2)
   have Hu5 : Hid (U32N wc.heap.size W6.heap.size W6 (.slice p5 (digs (za % zb).natAbs).length c5) (digs (za % zb).natAbs)) := hu5.move K0.out.size (by rw [hs6]; omega) fun b off _ _ _ h2 => hold b h2
   have HB6' : Hid (Below w.heap.size w W6) := by
    have h1 : Below w1.heap.size w1 W6 := by rw [hW6]; exact below_setRow2 (hb5.alloc hb5.size _) hb5.size _
    exact (Hdm.out.below.trans (K0.out.mono hwc)).trans (h1.mono (Nat.le_trans hwc K0.out.size))
   have Hnew5 := Lib.hid (RowAt.new w5 36 (numCells false none 0 0))
   have HW6' := Lib.hid hW6
   clear hb5 hu5 hW6 hold hs6
   go_wp2_with (refine store_num rfl (.tmp 11) (.tmp 80) rfl w5.heap.size rfl _ _ _ _ rfl _ _ Hnew5.out rfl ?_; rw [← HW6'.out])
   refine wp_region_inv (fun D a w' => ∃ v6 v82 v83, a = { tmps := #[(.agg #[.bool na, .slice p n c]), (.agg #[.bool false, .slice q m c2]), (.pointer (some ⟨w.heap.size, 0, none⟩)), (.pointer (some ⟨w.heap.size + 1, 0, none⟩)), (.pointer (some ⟨w.heap.size + 1 + 1, 0, none⟩)), (.pointer (some ⟨w.heap.size + 1 + 1 + 1, 0, none⟩)), v6, (.pointer (some ⟨w3.heap.size, 0, none⟩)), (.pointer (some ⟨w3.heap.size + 1, 0, none⟩)), (.pointer (some ⟨g, 0, none⟩)), (.bool true), (.pointer (some ⟨w5.heap.size, 0, none⟩)), (.bool true), u13, u14, u15, u16, u17, u18, u19, u20, u21, u22, u23, u24, u25, u26, u27, u28, u29, u30, u31, u32, u33, u34, u35, u36, u37, u38, u39, u40, u41, u42, u43, u44, u45, u46, u47, u48, u49, u50, u51, u52, u53, u54, u55, u56, u57, u58, u59, u60, u61, u62, u63, v64, v65, v66, v67, v68, v69, v70, v71, v72, v73, (.tuple #[.agg #[.bool (decide (za % zb < 0)), .slice p5 (digs (za % zb).natAbs).length c5], .bool true]), (.pointer (some ⟨w.heap.size + 1, 1, none⟩)), (.slice q m c2), (.int .i64 (m : Nat)), (.slice (some ⟨w3.heap.size + 1, 0, none⟩) m 65), (.tuple #[.agg #[.bool (decide (za % zb < 0)), .slice p5 (digs (za % zb).natAbs).length c5], .bool true]), (.agg #[.bool (decide (za % zb < 0)), .slice p5 (digs (za % zb).natAbs).length c5]), (.bool true), v82, v83], defers := [] } ∧ (D 0 → v82 = .agg #[.bool (decide (za / zb < 0)), .slice sp (digs (za / zb).natAbs).length sc]) ∧ (D 1 → v83 = .agg #[.bool (decide (za % zb < 0)), .slice p5 (digs (za % zb).natAbs).length c5]) ∧ (D 4 → v6 = .bool true) ∧ (D 2 → D 0) ∧ (D 3 → D 1 ∧ D 2) ∧ (¬ D 2 → w' = W6.drew) ∧ (D 2 → ¬ D 3 → w' = W6.drew.setRow (w.heap.size + 1 + 1) (numCells (decide (za / zb < 0)) sp (digs (za / zb).natAbs).length sc)) ∧ (D 3 → w' = (W6.drew.setRow (w.heap.size + 1 + 1) (numCells (decide (za / zb < 0)) sp (digs (za / zb).natAbs).length sc)).setRow (w.heap.size + 1 + 1 + 1) (numCells (decide (za % zb < 0)) p5 (digs (za % zb).natAbs).length c5)))
    (by kernel_rfl) (by kernel_rfl) ?startT ?stepT ?finT
   case startT => exact ⟨.bool false, u82, u83, rfl, False.elim, False.elim, False.elim, False.elim, False.elim, fun _ => rfl, False.elim, False.elim⟩
   case stepT =>
    rintro i o D a w1 hio hn he ⟨v6, v82, v83, rfl, f0, f1, f4, k0, k1, k2, k3, k4⟩
    rcases i with _ | _ | _ | _ | _ | i
    rotate_left 5
    ·exact absurd hio (by simp)
    all_goals (obtain rfl := Option.some.inj (hio.symm.trans (by rfl)))
    ·obtain rfl := (k2 fun h => hn (k0 h)).symm
     exact wp_of_run (run_load_num (.tmp 9) rfl g rfl _ sp _ sc 36 H9.out) ⟨_, _, _, rfl, put_eq rfl, put_ne (by decide) f1, put_ne (by decide) f4, fun _ => .inl rfl, fun e => (k1 (And'.ne (by decide) e)).imp .inr .inr, fun _ => rfl, fun h h' => k3 (And'.ne (by decide) h) fun h2 => h' (.inr h2), fun h => k4 (And'.ne (by decide) h)⟩
    ·have hr11 : RowAt w1 w5.heap.size 36 (numCells (decide (za % zb < 0)) p5 (digs (za % zb).natAbs).length c5) := by
      by_cases h2 : D 2
      ·rw [k3 h2 fun h3 => hn (k1 h3).1]; exact H11.out.drew.setRowOther _ (by omega)
      ·rw [k2 h2]; exact H11.out.drew
     exact wp_of_run (run_load_num (.tmp 11) rfl w5.heap.size rfl _ p5 _ c5 36 hr11) ⟨_, _, _, rfl, put_ne (by decide) f0, put_eq rfl, put_ne (by decide) f4, fun e => .inr (k0 (And'.ne (by decide) e)), fun e => ⟨.inl rfl, .inr (k1 (And'.ne (by decide) e)).2⟩, fun h => k2 fun h' => h (.inr h'), fun h h' => k3 (And'.ne (by decide) h) fun h2 => h' (.inr h2), fun h => k4 (And'.ne (by decide) h)⟩
    ·obtain rfl := (k2 hn).symm
     obtain rfl := (f0 (he ⟨0, .data⟩ (by simp) rfl)).symm
     refine wp_store_row 36 (.tmp 4) (.tmp 82) rfl (w.heap.size + 1 + 1) (numCells (decide (za / zb < 0)) sp (digs (za / zb).natAbs).length sc) rfl rfl 36 _ H4.out.drew num_info rfl (numCells_one ..) ?_
     exact ⟨_, _, _, rfl, put_ne (by decide) f0, put_ne (by decide) f1, put_ne (by decide) f4, fun _ => .inr (he ⟨0, .phase⟩ (by simp) rfl), fun e => absurd (k1 (And'.ne (by decide) e)).2 hn, fun h => absurd (.inl rfl) h, fun _ _ => rfl, fun h => absurd (k1 (And'.ne (by decide) h)).2 hn⟩
    ·have h2 := he ⟨2, .chain⟩ (by simp) rfl
     obtain rfl := (k3 h2 hn).symm
     obtain rfl := (f1 (he ⟨1, .data⟩ (by simp) rfl)).symm
     refine wp_store_row 36 (.tmp 5) (.tmp 83) rfl (w.heap.size + 1 + 1 + 1) (numCells (decide (za % zb < 0)) p5 (digs (za % zb).natAbs).length c5) rfl rfl 36 _ (H5.out.drew.setRowOther _ (by omega)) num_info rfl (numCells_one ..) ?_
     exact ⟨_, _, _, rfl, put_ne (by decide) f0, put_ne (by decide) f1, put_ne (by decide) f4, fun _ => .inr (k0 h2), fun _ => ⟨.inr (he ⟨1, .phase⟩ (by simp) rfl), .inr h2⟩, fun h => absurd (.inr h2) h, fun _ h => absurd (.inl rfl) h, fun _ => rfl⟩
    ·exact wp_of_run (run_assign (.const (.bool true)) rfl) ⟨_, _, _, rfl, put_ne (by decide) f0, put_ne (by decide) f1, put_eq rfl, fun e => .inr (k0 (And'.ne (by decide) e)), fun e => (k1 (And'.ne (by decide) e)).imp .inr .inr, fun h => k2 fun h' => h (.inr h'), fun h h' => k3 (And'.ne (by decide) h) fun h2 => h' (.inr h2), fun h => k4 (And'.ne (by decide) h)⟩
   case finT =>
    rintro D a w1 hD ⟨v6, v82, v83, rfl, f0, f1, f4, k0, k1, k2, k3, k4⟩
    obtain rfl := (f4 (hD 4 (by simp))).symm
    obtain rfl := (k4 (hD 3 (by simp))).symm
    clear f0 f1 f4 hD k0 k1 k2 k3 k4
    go_wp2
    refine ret_num2 rfl (w.heap.size + 1 + 1) rfl (w.heap.size + 1 + 1 + 1) rfl _ rfl _ _ _ _ _ _ _ _ _ _ ((H4.out.drew.setRow _).setRowOther _ (by omega)) ((H5.out.drew.setRowOther _ (by omega)).setRow _) ⟨_, _, rfl, ?_, ?_, below_setRow2 (below_setRow2 HB6'.out.drew (by omega) _) (by omega) _⟩
    ·exact (Hu.out.move hwc (by simp [World.setRow]) fun b off _ _ h1 _ => (setRow_other _ _ _ _ (by omega)).trans (setRow_other _ _ _ _ (by omega)))
    ·exact (Hu5.out.move hwc (by simp [World.setRow]) fun b off _ _ h1 _ => (setRow_other _ _ _ _ (by omega)).trans (setRow_other _ _ _ _ (by omega)))
 clear hK1
 have hcQ : val (Q.take n) = za.natAbs / zb.natAbs := by
  rw [take_val_lt (k := 0) (by rw [HQR.out.2.2.1]; exact Nat.lt_of_le_of_lt (Nat.div_le_self _ _) (digs_len.1 (by rw [Hn.out]; exact Nat.le_refl _))), HQR.out.2.2.1]
 have hcR : val (R.take m) = za.natAbs % zb.natAbs := by
  rw [take_val_lt (k := 0) (by rw [HQR.out.2.2.2]; exact Nat.lt_trans (Nat.mod_lt _ (by omega)) (digs_len.1 (by rw [Hm.out]; exact Nat.le_refl _))), HQR.out.2.2.2]
 have HcQ := Lib.hid hcQ
 have HcR := Lib.hid hcR
 clear hcQ hcR
 by_cases hneg : za < 0
 ·have hna : na = true := by rw [← Hna.out]; simp [hneg]
  subst hna
  have Hlen := Lib.hid (length_calls _ _ W6 (u32s_row (L := m) (cap := 65) H68.out (by rw [Hz6.out]; omega) (by omega) (by rw [hRl]; decide)))
  have hL : (strip (R.take m)).length = 0 ↔ za.natAbs % zb.natAbs = 0 := by
   rw [List.length_eq_zero_iff, strip_digs (HQR.out.2.1.2.take _), HcR.out, digs_nil_iff]
  generalize (strip (R.take m)).length = L at *
  have HL := Lib.hid hL
  clear hL
  by_cases hr0 : L = 0
  ·obtain ⟨e1, e2⟩ := div_neg_none hneg h (HL.out.1 hr0)
   have HE := Lib.hid (And.intro e1 e2)
   have hr1 : ¬ ((0 : Int) < (L : Int)) := by omega
   have Hmod := Lib.hid (HL.out.1 hr0)
   clear e1 e2 hr0
   go_wp2_with fail
   refine Hlen.out.mono ?_
   rintro e w7 ⟨rfl, hb7⟩
   have Hb7 := Lib.hid hb7
   clear hb7
   go_wp2_with fail
   exact htail _ _ _ _ _ _ _ _ _ _ _ _ _ _ _ _ _ _ _ _ _ _ _ _ _ _ _ _ _ _ _ _ _ _ _ _ _ _ _ _ _ _ _ _ _ _ _ _ _ _ _ _ _ _ _ _ _ _ _ _ _ _ _ _ _ _ _ _ _ _ _ Q R _ ⟨HD6.out.below Hb7.out, H67.out.below Hb7.out H67.out.lt, H68.out.below Hb7.out H68.out.lt, hQl, hRl, HQR.out.2.1.1, HQR.out.2.1.2, by rw [HcQ.out, HE.out.1, Int.natAbs_neg, Int.natAbs_natCast], by rw [HcR.out, HE.out.2, Hmod.out]; rfl, HB6.out.trans (Hb7.out.mono HB6.out.size)⟩
  ·obtain ⟨e1, e2⟩ := div_neg_rest hneg h (fun e => hr0 (HL.out.2 e))
   have HE := Lib.hid (And.intro e1 e2)
   have hr1 : (0 : Int) < (L : Int) := by omega
   have Hadj := Lib.hid (div_adjust Hn.out Hm.out hn64 hm64 hQl hRl HQR.out.2.1.1 HQR.out.2.1.2 HQR.out.2.2.1 HQR.out.2.2.2 (by omega : 0 < zb.natAbs) (fun e => hr0 (HL.out.2 e)))
   have Hval : Hid (val ((sumRow (Q.take n) [1]).take n) = (za / zb).natAbs ∧ val ((combRow subLo subHi (digs zb.natAbs) (R.take m)).take m) = (za % zb).natAbs) := by
    show _ ∧ _
    rw [Hadj.out.1, Hadj.out.2, HE.out.1, HE.out.2]
    exact ⟨by rw [Int.natAbs_neg, Int.natAbs_natCast], by rw [Int.natAbs_natCast]⟩
   clear e1 e2 hr0
   go_wp2_with fail
   refine Hlen.out.mono ?_
   rintro e w7 ⟨rfl, hb7⟩
   have hz7 : w3.heap.size + 2 ≤ w7.heap.size := by rw [← Hz6.out]; exact hb7.size
   have HD7 := Lib.hid (HD6.out.below hb7)
   have H77 := Lib.hid (H67.out.below hb7 H67.out.lt)
   have H78 := Lib.hid (H68.out.below hb7 H68.out.lt)
   have HB7 := Lib.hid (HB6.out.trans (hb7.mono HB6.out.size))
   have Hub7 := Lib.hid ((Hub6.out.below hb7).mono hb7.size)
   have h70 := HD7.out.ra.num0
   have h71 := HD7.out.ra.num1
   have h72 := HD7.out.rb.num1
   obtain ⟨W8, hW8⟩ : ∃ W8, W8 = w7.alloc (.cells #[.int .u32 1] 118) := ⟨_, rfl⟩
   have hb8 : Below w7.heap.size w7 W8 := by rw [hW8]; exact (Below.refl _ _).alloc (Nat.le_refl _) _
   have hone : U32s W8.heap.size W8 (.slice (some ⟨w7.heap.size, 0, none⟩) 1 1) [1] := ⟨_, 1, rfl, by unfold maxLen; decide, fun _ => ⟨w7.heap.size, 0, rfl, by rw [hW8]; simp, fun j hj => by
    obtain rfl : j = 0 := by simp at hj; omega
    rw [hW8]
    exact (RowAt.new w7 118 #[.int .u32 1]).cell 0⟩⟩
   have HS := Lib.hid (sum_calls (.slice (some ⟨w3.heap.size, 0, none⟩) n 65) _ _ _ W8 (u32s_row (L := n) (cap := 65) (H77.out.below hb8 H77.out.lt) (Nat.lt_of_lt_of_le H77.out.lt hb8.size) (by omega) (by rw [hQl]; decide)) hone (HQR.out.2.1.1.take _) one_digits (by simp; omega) (by simp))
   have HW8 := Lib.hid hW8
   have Hb8 := Lib.hid hb8
   clear hb7 hb8 hone hW8 h60 h61 h62
   go_wp2_with fail
   rw [← HW8.out]
   refine HS.out.mono ?_
   rintro e w9 ⟨rfl, hb9⟩
   have hb79 : Below w7.heap.size w7 w9 := Hb8.out.trans (hb9.mono Hb8.out.size)
   obtain ⟨W10, hW10⟩ : ∃ W10, W10 = w9.setRow w3.heap.size (arr (sumRow (Q.take n) [1])) := ⟨_, rfl⟩
   have HD10 : Hid (Df w.heap.size true false p n c q m c2 W10) := by rw [hW10]; exact (HD7.out.below hb79).set (by omega) _
   have H107 : Hid (RowAt W10 w3.heap.size 155 (arr (sumRow (Q.take n) [1]))) := by rw [hW10]; exact (H77.out.below hb79 H77.out.lt).setRow _
   have H108 : Hid (RowAt W10 (w3.heap.size + 1) 155 (arr R)) := by rw [hW10]; exact (H78.out.below hb79 H78.out.lt).setRowOther _ (by omega)
   have HB10 : Hid (Below w.heap.size w W10) := by rw [hW10]; exact below_setRow2 (HB7.out.trans (hb79.mono HB7.out.size)) (by omega) _
   have Hub10 : Hid (U32s w3.heap.size w (.slice q m c2) (digs zb.natAbs)) := HbU.out.mono (by omega)
   have HDF : Hid (∀ W2, Below W10.heap.size W10 W2 → Calls Tryz.prog 165 #[.slice q m c2, .slice (some ⟨w3.heap.size + 1, 0, none⟩) m 65] W2 fun e w' => e = .returned (.agg (arr (combRow subLo subHi (digs zb.natAbs) (R.take m)))) ∧ Below W2.heap.size W2 w') := fun W2 hb =>
    have hb' : Below w.heap.size w W2 := HB10.out.trans (hb.mono HB10.out.size)
    difference_calls _ _ _ _ W2 ((HbU.out.below hb').mono hb'.size) (u32s_row (L := m) (cap := 65) (H108.out.below hb H108.out.lt) (Nat.lt_of_lt_of_le H108.out.lt hb.size) (by omega) (by rw [hRl]; decide)) (digs_digits _) (HQR.out.2.1.2.take _) (by rw [Hm.out]; exact hm64)
   have H97 := Lib.hid (H77.out.below hb79 H77.out.lt)
   have HW10 := Lib.hid hW10
   clear hb9 hb79 hW10 h70 h71 h72
   go_wp2_with (refine store_row rfl (.tmp 7) (.tmp 56) rfl w3.heap.size rfl _ (sumRow_length _ _) rfl 155 _ H97.out (by rw [arr_size, hQl]) ?_; rw [← HW10.out])
   refine wp_region_inv (fun D a w' => ∃ v57 v58 v59 v60 v61 v62 v63, a = { tmps := #[(.agg #[.bool true, .slice p n c]), (.agg #[.bool false, .slice q m c2]), (.pointer (some ⟨w.heap.size, 0, none⟩)), (.pointer (some ⟨w.heap.size + 1, 0, none⟩)), (.pointer (some ⟨w.heap.size + 1 + 1, 0, none⟩)), (.pointer (some ⟨w.heap.size + 1 + 1 + 1, 0, none⟩)), (.bool false), (.pointer (some ⟨w3.heap.size, 0, none⟩)), (.pointer (some ⟨w3.heap.size + 1, 0, none⟩)), undef, undef, undef, undef, (.agg #[.bool true, .slice p n c]), (.bool true), (.bool false), (.bool false), (.agg #[.bool false, .slice q m c2]), (.bool true), (.bool false), (.bool false), (.bool false), (.pointer (some ⟨w.heap.size + 1, 0, none⟩)), (.bool false), (.bool false), (.bool false), (.pointer (some ⟨w.heap.size + 1, 1, none⟩)), (.slice q m c2), (.int .i64 (m : Nat)), (.bool false), (.bool false), undef, undef, (.tuple #[.agg (arr Q), .agg (arr R)]), (.pointer (some ⟨w.heap.size, 1, none⟩)), (.slice p n c), (.pointer (some ⟨w.heap.size + 1, 1, none⟩)), (.slice q m c2), (.tuple #[.agg (arr Q), .agg (arr R)]), (.agg (arr Q)), (.agg (arr R)), (.pointer (some ⟨w.heap.size, 0, none⟩)), (.bool true), (.bool true), (.pointer (some ⟨w.heap.size + 1, 1, none⟩)), (.slice q m c2), (.int .i64 (m : Nat)), (.slice (some ⟨w3.heap.size + 1, 0, none⟩) m 65), (.int .i64 (L : Nat)), (.bool true), (.bool true), (.pointer (some ⟨w.heap.size, 1, none⟩)), (.slice p n c), (.int .i64 (n : Nat)), (.slice (some ⟨w3.heap.size, 0, none⟩) n 65), (.slice (some ⟨w7.heap.size, 0, none⟩) 1 1), (.agg (arr (sumRow (Q.take n) [1]))), v57, v58, v59, v60, v61, v62, v63, undef, undef, undef, undef, undef, undef, undef, undef, undef, undef, undef, undef, undef, undef, undef, undef, undef, undef, undef, undef], defers := [] } ∧ (D 0 → v57 = .pointer (some ⟨w.heap.size + 1, 1, none⟩)) ∧ (D 1 → v58 = .slice q m c2) ∧ (D 2 → v59 = .pointer (some ⟨w.heap.size + 1, 1, none⟩)) ∧ (D 3 → v60 = .slice q m c2) ∧ (D 4 → v61 = .int .i64 (m : Nat)) ∧ (D 5 → v62 = .slice (some ⟨w3.heap.size + 1, 0, none⟩) m 65) ∧ (D 6 → v63 = .agg (arr (combRow subLo subHi (digs zb.natAbs) (R.take m)))) ∧ (D 7 → D 1 ∧ D 3 ∧ D 6) ∧ (∃ W2, Below W10.heap.size W10 W2 ∧ (¬ D 7 → w' = W2) ∧ (D 7 → w' = W2.setRow (w3.heap.size + 1) (arr (combRow subLo subHi (digs zb.natAbs) (R.take m))))))
    (by kernel_rfl) (by kernel_rfl) ?startU ?stepU ?finU
   case startU => exact ⟨undef, undef, undef, undef, undef, undef, undef, rfl, False.elim, False.elim, False.elim, False.elim, False.elim, False.elim, False.elim, False.elim, ⟨W10.drew, (Below.refl _ _).drew, fun _ => rfl, False.elim⟩⟩
   case stepU =>
    rintro i o D a w1 hio hn he ⟨v57, v58, v59, v60, v61, v62, v63, rfl, f0, f1, f2, f3, f4, f5, f6, k0, k1⟩
    rcases i with _ | _ | _ | _ | _ | _ | _ | _ | i
    rotate_left 8
    ·exact absurd hio (by simp)
    all_goals (obtain rfl := Option.some.inj (hio.symm.trans (by rfl)))
    ·obtain ⟨W2, hb, e0, e1⟩ := k1
     exact wp_of_run (run_field1 (.tmp 3) rfl (w.heap.size + 1) rfl) ⟨_, _, _, _, _, _, _, rfl, put_eq rfl, put_ne (by decide) f1, put_ne (by decide) f2, put_ne (by decide) f3, put_ne (by decide) f4, put_ne (by decide) f5, put_ne (by decide) f6, fun e => have h := k0 (And'.ne (by decide) e); ⟨.inr h.1, .inr h.2.1, .inr h.2.2⟩, ⟨W2, hb, fun h => e0 fun h' => h (.inr h'), fun h => e1 (And'.ne (by decide) h)⟩⟩
    ·obtain ⟨W2, hb, e0, e1⟩ := k1
     obtain rfl := e0 fun h => hn (k0 h).1
     obtain rfl := (f0 (he ⟨0, .data⟩ (by simp) rfl)).symm
     exact wp_of_run (run_load_slice_at (.tmp 57) rfl _ rfl q m c2 (HD10.out.rb.below hb HD10.out.rb.lt).num1) ⟨_, _, _, _, _, _, _, rfl, put_ne (by decide) f0, put_eq rfl, put_ne (by decide) f2, put_ne (by decide) f3, put_ne (by decide) f4, put_ne (by decide) f5, put_ne (by decide) f6, fun e => have h := k0 (And'.ne (by decide) e); ⟨.inr h.1, .inr h.2.1, .inr h.2.2⟩, ⟨w1, hb, fun _ => rfl, fun h => e1 (And'.ne (by decide) h)⟩⟩
    ·obtain ⟨W2, hb, e0, e1⟩ := k1
     exact wp_of_run (run_field1 (.tmp 3) rfl (w.heap.size + 1) rfl) ⟨_, _, _, _, _, _, _, rfl, put_ne (by decide) f0, put_ne (by decide) f1, put_eq rfl, put_ne (by decide) f3, put_ne (by decide) f4, put_ne (by decide) f5, put_ne (by decide) f6, fun e => have h := k0 (And'.ne (by decide) e); ⟨.inr h.1, .inr h.2.1, .inr h.2.2⟩, ⟨W2, hb, fun h => e0 fun h' => h (.inr h'), fun h => e1 (And'.ne (by decide) h)⟩⟩
    ·obtain ⟨W2, hb, e0, e1⟩ := k1
     obtain rfl := e0 fun h => hn (k0 h).2.1
     obtain rfl := (f2 (he ⟨2, .data⟩ (by simp) rfl)).symm
     exact wp_of_run (run_load_slice_at (.tmp 59) rfl _ rfl q m c2 (HD10.out.rb.below hb HD10.out.rb.lt).num1) ⟨_, _, _, _, _, _, _, rfl, put_ne (by decide) f0, put_ne (by decide) f1, put_ne (by decide) f2, put_eq rfl, put_ne (by decide) f4, put_ne (by decide) f5, put_ne (by decide) f6, fun e => have h := k0 (And'.ne (by decide) e); ⟨.inr h.1, .inr h.2.1, .inr h.2.2⟩, ⟨w1, hb, fun _ => rfl, fun h => e1 (And'.ne (by decide) h)⟩⟩
    ·obtain ⟨W2, hb, e0, e1⟩ := k1
     obtain rfl := (f3 (he ⟨3, .data⟩ (by simp) rfl)).symm
     exact wp_of_run (run_len (.tmp 60) _ rfl rfl _ m _ rfl) ⟨_, _, _, _, _, _, _, rfl, put_ne (by decide) f0, put_ne (by decide) f1, put_ne (by decide) f2, put_ne (by decide) f3, put_eq rfl, put_ne (by decide) f5, put_ne (by decide) f6, fun e => have h := k0 (And'.ne (by decide) e); ⟨.inr h.1, .inr h.2.1, .inr h.2.2⟩, ⟨W2, hb, fun h => e0 fun h' => h (.inr h'), fun h => e1 (And'.ne (by decide) h)⟩⟩
    ·obtain ⟨W2, hb, e0, e1⟩ := k1
     obtain rfl := (f4 (he ⟨4, .data⟩ (by simp) rfl)).symm
     exact wp_of_run (run_slice1 (.tmp 8) (.tmp 61) rfl (w3.heap.size + 1) m rfl rfl (by omega)) ⟨_, _, _, _, _, _, _, rfl, put_ne (by decide) f0, put_ne (by decide) f1, put_ne (by decide) f2, put_ne (by decide) f3, put_ne (by decide) f4, put_eq rfl, put_ne (by decide) f6, fun e => have h := k0 (And'.ne (by decide) e); ⟨.inr h.1, .inr h.2.1, .inr h.2.2⟩, ⟨W2, hb, fun h => e0 fun h' => h (.inr h'), fun h => e1 (And'.ne (by decide) h)⟩⟩
    ·obtain ⟨W2, hb, e0, e1⟩ := k1
     have hn7 : ¬ D 7 := fun h => hn (k0 h).2.2
     obtain rfl := e0 hn7
     obtain rfl := (f1 (he ⟨1, .data⟩ (by simp) rfl)).symm
     obtain rfl := (f5 (he ⟨5, .data⟩ (by simp) rfl)).symm
     exact wp_of_call (run_enter2 165 (.tmp 58) (.tmp 62) _ rfl _ _ rfl rfl ent_difference) (HDF.out w1 hb) fun W3 h3 => ⟨_, _, _, _, _, _, _, rfl, put_ne (by decide) f0, put_ne (by decide) f1, put_ne (by decide) f2, put_ne (by decide) f3, put_ne (by decide) f4, put_ne (by decide) f5, put_eq rfl, fun e => absurd (And'.ne (by decide) e) hn7, ⟨W3, hb.trans (h3.mono hb.size), fun _ => rfl, fun h => absurd (And'.ne (by decide) h) hn7⟩⟩
    ·obtain ⟨W2, hb, e0, e1⟩ := k1
     obtain rfl := e0 hn
     obtain rfl := (f6 (he ⟨6, .data⟩ (by simp) rfl)).symm
     refine wp_store_row 155 (.tmp 8) (.tmp 63) rfl (w3.heap.size + 1) _ rfl rfl 155 _ (H108.out.below hb H108.out.lt) (by rw [row_info, arr_size, combRow_length]) (by rw [arr_size, arr_size, hRl, combRow_length]) (arr_one _) ?_
     exact ⟨_, _, _, _, _, _, _, rfl, put_ne (by decide) f0, put_ne (by decide) f1, put_ne (by decide) f2, put_ne (by decide) f3, put_ne (by decide) f4, put_ne (by decide) f5, put_ne (by decide) f6, fun _ => ⟨.inr (he ⟨1, .phase⟩ (by simp) rfl), .inr (he ⟨3, .phase⟩ (by simp) rfl), .inr (he ⟨6, .phase⟩ (by simp) rfl)⟩, ⟨w1, hb, fun h => absurd (.inl rfl) h, fun _ => rfl⟩⟩
   case finU =>
    rintro D a w1 hD ⟨v57, v58, v59, v60, v61, v62, v63, rfl, f0, f1, f2, f3, f4, f5, f6, k0, k1⟩
    obtain ⟨W2, hb, -, e1⟩ := k1
    obtain rfl := e1 (hD 7 (by simp))
    exact htail _ _ _ _ _ _ _ _ _ _ _ _ _ _ _ _ _ _ _ _ _ _ _ _ _ _ _ _ _ _ _ _ _ _ _ _ _ _ _ _ _ _ _ _ _ _ _ _ _ _ _ _ _ _ _ _ _ _ _ _ _ _ _ _ _ _ _ _ _ _ _ (sumRow (Q.take n) [1]) (combRow subLo subHi (digs zb.natAbs) (R.take m)) _ ⟨(HD10.out.below hb).set (by omega) _, (H107.out.below hb H107.out.lt).setRowOther _ (by omega), (H108.out.below hb H108.out.lt).setRow _, sumRow_length _ _, combRow_length _ _ _ _, sum_digits (HQR.out.2.1.1.take _) one_digits, dif_digits _ _, Hval.out.1, Hval.out.2, below_setRow2 (HB10.out.trans (hb.mono HB10.out.size)) (by omega) _⟩
 ·have hna : na = false := by rw [← Hna.out]; simp [hneg]
  subst hna
  obtain ⟨e1, e2⟩ := div_pos_rest (by omega : 0 ≤ za) h
  have HE := Lib.hid (And.intro e1 e2)
  clear e1 e2
  go_wp2_with fail
  exact htail _ _ _ _ _ _ _ _ _ _ _ _ _ _ _ _ _ _ _ _ _ _ _ _ _ _ _ _ _ _ _ _ _ _ _ _ _ _ _ _ _ _ _ _ _ _ _ _ _ _ _ _ _ _ _ _ _ _ _ _ _ _ _ _ _ _ _ _ _ _ _ Q R _ ⟨HD6.out, H67.out, H68.out, hQl, hRl, HQR.out.2.1.1, HQR.out.2.1.2, by rw [HcQ.out, HE.out.1, Int.natAbs_natCast], by rw [HcR.out, HE.out.2, Int.natAbs_natCast], HB6.out⟩
end Go.Proofs.YtgnogdncoljldaaGreat

