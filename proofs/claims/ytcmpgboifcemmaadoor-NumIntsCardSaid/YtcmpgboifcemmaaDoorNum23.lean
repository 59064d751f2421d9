/- Layer 1: cut. -/
import Derived.Test.YtcmpgboifcemmaaDoorOps2
set_option linter.all false
namespace Go.Proofs.YtcmpgboifcemmaaDoor
open Go Go.RowKit Go.Shelf

attribute [local go_sem] Oper.semAt_some

theorem cut_step {R V : List Nat} {s m t d : Nat} (hV : V.length = 65) (hR : R.length = 65) (hs : s < 65) (hsame : V[s]? = R[s]?) (hd : d = V[s]?.getD 0) (h : val (R.drop (s + 1)) = m * val (V.drop (s + 1)) + t) :
    val (R.drop s) = m * val ((V.set s ((t * 4294967296 + d) / m)).drop s) + (t * 4294967296 + d) % m := by
  have h4 : val ((V.set s ((t * 4294967296 + d) / m)).drop s) = (t * 4294967296 + d) / m + B32 * val (V.drop (s + 1)) := by
    rw [val_drop (ds := V.set s _) (s := s) (by simp; omega)]
    simp [hV, hs, List.drop_set]
  have h5 := Nat.mod_add_div (t * 4294967296 + d) m
  rw [h4, val_drop (ds := R) (s := s) (by omega), ← hsame, ← hd, h]
  unfold B32
  rw [Nat.mul_add, Nat.mul_add, Nat.mul_left_comm m 4294967296]
  omega

/-- What holds with s digits to come. -/
def CutSt (bx b0 m nn : Nat) (R : List Nat) (s : Nat) (W : World) : Prop := ∃ (V : List Nat) (t : Nat), s ≤ m ∧ RowAt W bx 52 (arr V) ∧ Digits V ∧ V.length = 65 ∧ t < nn ∧ Boxed W (b0 + 1 + 1) 48 (.int .u32 (t : Int)) ∧ (∀ j, j < s ∨ m ≤ j → V[j]? = R[j]?) ∧ val (R.drop s) = nn * val (V.drop s) + t ∧
  Boxed W b0 24 (.slice (some ⟨bx, 0, none⟩) m 65) ∧ Boxed W (b0 + 1) 48 (.int .u32 (nn : Int)) ∧ Boxed W (b0 + 1 + 1 + 1) 24 (.slice (some ⟨bx, 0, none⟩) m 65)
theorem CutSt.own (bx b0 m nn : Nat) (R : List Nat) : Own (CutSt bx b0 m nn R) := fun s A B row h hg hr => by
  obtain ⟨V, t, h1, h2, h3, h4, h5, h6, h7, h8, h9, h10, h11⟩ := h
  exact ⟨V, t, h1, RowAt.own bx _ (fun (_ : Unit) => arr V) () _ _ _ h2 hg hr, h3, h4, h5, boxed_own (b0 + 1 + 1) _ (fun (_ : Unit) => _) () _ _ _ h6 hg hr, h7, h8, boxed_own b0 _ (fun (_ : Unit) => _) () _ _ _ h9 hg hr, boxed_own (b0 + 1) _ (fun (_ : Unit) => _) () _ _ _ h10 hg hr, boxed_own (b0 + 1 + 1 + 1) _ (fun (_ : Unit) => _) () _ _ _ h11 hg hr⟩

theorem ownFrom_keeps {β : Type} {n₀ B g : Nat} {w₀ : World} (hn : n₀ ≤ w₀.heap.size) (hB : n₀ ≤ B) : OwnFrom B (fun (_ : β) W => Keeps n₀ g w₀ W) := fun _ W W' row hs hg hr => by
  have hb : Below n₀ W W' := Below.grown (Below.refl _ W) hg (Nat.le_trans hn hs.size) (fun k e => Nat.le_trans hB (hr k e).1)
  exact hs.below hb

set_option maxRecDepth 100000 in
set_option maxHeartbeats 4000000 in
theorem cut_calls (bx m nn : Nat) (R : List Nat) (w : World) (hrow : RowAt w bx 52 (arr R)) (hdR : Digits R) (hR : R.length = 65) (hm : m ≤ 65) (hz : ∀ j, m ≤ j → R[j]?.getD 0 = 0) (hn0 : 0 < nn) (hnB : nn < 4294967296) :
    Calls Tryd.prog 40 #[.slice (some ⟨bx, 0, none⟩) m 65, .int .u32 nn] w fun e w' => e = .returned (.int .u32 (val R % nn : Nat)) ∧
      (∃ Z, RowAt w' bx 52 (arr Z) ∧ Digits Z ∧ Z.length = 65 ∧ (∀ j, m ≤ j → Z[j]? = R[j]?) ∧ val Z = val R / nn) ∧ Keeps w.heap.size bx w w' := by
  obtain ⟨b0, hb0⟩ : ∃ b0, b0 = w.heap.size := ⟨_, rfl⟩
  obtain ⟨W3, hW3⟩ : ∃ W3, W3 = ((w.alloc (.cells #[.slice (some ⟨bx, 0, none⟩) m 65] 24)).alloc (.cells #[.int .u32 nn] 48)).alloc (.cells #[.int .u32 0] 48) := ⟨_, rfl⟩
  obtain ⟨W4, hW4⟩ : ∃ W4, W4 = W3.alloc (.cells #[.slice (some ⟨bx, 0, none⟩) m 65] 24) := ⟨_, rfl⟩
  have Hz := Lib.hid hz
  have Hb0 := Lib.hid hb0
  have HW3 := Lib.hid hW3
  have HW4 := Lib.hid hW4
  clear hz hb0 hW3 hW4
  refine (callsIn_wide (n := 5)).1 ?_
  refine callsIn_of_wp_marks Tryd.func40 rfl trivial ?_ rfl
  simp only [Tryd.ntmps40, List.size_toArray, List.length_cons, List.length_nil, Nat.reduceAdd, Nat.reduceSub, Array.replicate_succ, Array.replicate_zero, List.push_toArray, List.append_toArray, List.nil_append, List.cons_append]
  gi_wp2_with (refine ⟨trivial, ?_⟩; gi_at_call 50; refine (callsIn_wide.2 (down_calls _ _ _ _)).mono ?_; rintro e w' ⟨rfl, rfl⟩)
  rw [← HW3.out, ← HW4.out]
  have hbx : bx < w.heap.size := hrow.lt
  have hs4 : W4.heap.size = w.heap.size + 4 := by rw [HW4.out, HW3.out]; simp
  have hr4 : RowAt W4 bx 52 (arr R) := by rw [HW4.out, HW3.out]; exact (((hrow.alloc _).alloc _).alloc _).alloc _
  have hk4 : Keeps w.heap.size bx w W4 := (Keeps.refl _ _ w).below (by rw [HW4.out, HW3.out]; exact ((((Below.refl _ w).alloc (Nat.le_refl _) _).alloc (by simp) _).alloc (by simp; omega) _).alloc (by simp; omega) _)
  have hx0 : Boxed W4 w.heap.size 24 (.slice (some ⟨bx, 0, none⟩) m 65) := by rw [HW4.out, HW3.out]; exact (((Boxed.new w _ _).alloc _).alloc _).alloc _
  have hx1 : Boxed W4 (w.heap.size + 1) 48 (.int .u32 (nn : Int)) := by
    rw [HW4.out, HW3.out]
    have := Boxed.new (w.alloc (.cells #[.slice (some ⟨bx, 0, none⟩) m 65] 24)) 48 (.int .u32 (nn : Int))
    rw [World.size_alloc] at this
    exact (this.alloc _).alloc _
  have hx2 : Boxed W4 (w.heap.size + 1 + 1) 48 (.int .u32 ((0 : Nat) : Int)) := by
    rw [HW4.out, HW3.out]
    have := Boxed.new ((w.alloc (.cells #[.slice (some ⟨bx, 0, none⟩) m 65] 24)).alloc (.cells #[.int .u32 nn] 48)) 48 (.int .u32 0)
    rw [World.size_alloc, World.size_alloc] at this
    exact this.alloc _
  have hx3 : Boxed W4 (w.heap.size + 1 + 1 + 1) 24 (.slice (some ⟨bx, 0, none⟩) m 65) := by
    have h := Boxed.new W3 24 (.slice (some ⟨bx, 0, none⟩) m 65)
    rw [show W3.heap.size = w.heap.size + 1 + 1 + 1 by rw [HW3.out]; simp, ← HW4.out] at h
    exact h
  have hst : CutSt bx w.heap.size m nn R m W4 := ⟨R, 0, Nat.le_refl _, hr4, hdR, hR, hn0, hx2, fun _ _ => rfl, by
    have h1 : val (R.drop m) = 0 := val_zero_of_all fun d hd => by
      obtain ⟨i, hi, rfl⟩ := List.getElem_of_mem hd
      have hi' : m + i < R.length := by simp at hi; omega
      have := Hz.out (m + i) (by omega)
      simpa [hi'] using this
    rw [h1]; simp, hx0, hx1, hx3⟩
  have Hs4 := Lib.hid hs4
  clear hs4 hr4 hx0 hx1 hx2 hx3
  have h1 : 1 ≤ 5 := by decide
  have hro : Fence.wide.round = none := rfl
  refine wpIn_rangeFunc_S (α := Nat × Nat) hro h1 (gf := 65) (lb := #[.pointer (some ⟨w.heap.size + 1 + 1 + 1, 0, none⟩)]) rfl trivial (enters_of Tryd.func65 (by kernel_rfl) rfl)
    (down1_seq 4 (by decide) (w.heap.size + 1 + 1 + 1) (some ⟨bx, 0, none⟩) m 65 (by unfold maxLen; omega)) (fun _ => rfl)
    (fun s W => CutSt bx w.heap.size m nn R s W ∧ Keeps w.heap.size bx w W)
    (fun _ _ => False)
    (OwnFrom.and ((CutSt.own _ _ _ _ _).from _) (ownFrom_keeps (Nat.le_refl _) (by rw [Hs4.out]; omega)))
    (fun c => Own.from (fun _ A B row hs hg hr => hs) _)
    (fun s x => Own.from (fun _ A B row hs hg hr => by obtain ⟨b, off, e, h⟩ := hs; exact ⟨b, off, e, cell_kept h hg hr⟩) _)
    ?wk ⟨hst, hk4⟩ (fun x => { tmps := #[(.slice (some ⟨bx, 0, none⟩) m 65), (.int .u32 (nn : Int)), (.pointer (some ⟨w.heap.size, 0, none⟩)), (.pointer (some ⟨w.heap.size + 1, 0, none⟩)), (.int .u32 0), (.pointer (some ⟨w.heap.size + 1 + 1, 0, none⟩)), (.int .i64 (x.1 : Int)), (.int .u32 (x.2 : Int)), (.slice (some ⟨bx, 0, none⟩) m 65), (.func (.func 65) #[] #[.pointer (some ⟨w.heap.size + 1 + 1 + 1, 0, none⟩)]), (.int .i64 (x.1 : Int)), (.int .u32 (x.2 : Int)), undef, undef, undef, undef, undef, undef, undef, undef, undef, undef, undef], defers := [] }) ?assign ?body ?done ?stop
  case wk =>
    rintro s W ⟨⟨V, t, hs, hr, hdV, hlV, _, _, _, _, _, _, hit⟩, hB⟩
    refine ⟨hs, hit.cell, fun k hk => ⟨bx, 0, V[k]?.getD 0, rfl, ?_⟩⟩
    rw [Nat.zero_add]
    exact (hr.cell k).trans (arr_get _ k (by omega))
  case assign =>
    intro l x W K hK
    gi_wp2
    exact hK
  case body =>
    rintro l s ⟨k, d⟩ s2 W ⟨⟨V, t, hs, hr, hdV, hlV, htn, hx2, hsame, hval, hx0, hx1, hx3⟩, hk⟩ ⟨h1, h2⟩ ⟨b', off, e, hcell⟩
    dsimp only at h1 h2 hcell ⊢
    subst h2; subst h1
    cases e
    rw [Nat.zero_add] at hcell
    have hs2 : s2 < m := hs
    have hd : d = V[s2]?.getD 0 := by
      have := (hr.cell s2).trans (arr_get _ s2 (by omega))
      rw [hcell] at this; exact u32_inj this
    have hdlt : d < 4294967296 := by rw [hd]; exact hdV.getD s2
    have HC3 := Lib.hid (div32_bound hnB hdlt htn)
    have Hstep := Lib.hid (cut_step hlV hR (by omega) (hsame s2 (.inl (by omega))) hd hval)
    have Hmod := Lib.hid (Nat.mod_lt (t * 4294967296 + d) hn0)
    obtain ⟨q, hq⟩ : ∃ q, q = (t * 4294967296 + d) / nn := ⟨_, rfl⟩
    obtain ⟨r, hr2⟩ : ∃ r, r = (t * 4294967296 + d) % nn := ⟨_, rfl⟩
    have HC : Hid (∀ W2, Calls Tryd.prog 57 #[.int .u32 t, .int .u32 d, .int .u32 nn] W2 fun e w' => e = .returned (.tuple #[.int .u32 (q : Int), .int .u32 (r : Int)]) ∧ Below W2.heap.size W2 w') := fun W2 => by rw [hq, hr2]; exact div32_calls t d nn hdlt hnB htn W2
    rw [← hq] at HC3
    rw [← hq, ← hr2] at Hstep
    rw [← hr2] at Hmod
    have hc0 := (show Boxed W.drew w.heap.size 24 (.slice (some ⟨bx, 0, none⟩) m 65) from hx0).cell
    have hc1 := (show Boxed W.drew (w.heap.size + 1) 48 (.int .u32 (nn : Int)) from hx1).cell
    have hc2 := (show Boxed W.drew (w.heap.size + 1 + 1) 48 (.int .u32 (t : Int)) from hx2).cell
    have hs2I : (s2 : Int) < (m : Int) := by omega
    have hs2J : (0 : Int) ≤ (s2 : Int) := by omega
    have Hr := Lib.hid hr
    have Hx0 := Lib.hid hx0
    have Hx1 := Lib.hid hx1
    have Hx2 := Lib.hid hx2
    have Hx3 := Lib.hid hx3
    have Hsame := Lib.hid hsame
    have Hk := Lib.hid hk
    have hkl : ∀ W2, Below W.drew.heap.size W.drew W2 → RowAt W2 bx 52 (arr V) ∧ Boxed W2 (w.heap.size + 1 + 1) 48 (.int .u32 (t : Int)) := fun W2 hb => ⟨RowAt.below (RowAt.drew Hr.out) hb Hr.out.lt, RowAt.boxed (RowAt.below (RowAt.drew (RowAt.ofBoxed Hx2.out)) hb Hx2.out.lt)⟩
    have Hkl := Lib.hid hkl
    clear hq hr2 hd hr hx0 hx1 hx2 hx3 hsame hk hval hcell hst hk4 hkl
    gi_wp2
    refine Code.wpIn_mono (Q := fun e a w' => e = .normal ∧ ∃ u12 u13 u14 u15 u16 u17 u18 u19 u20 u21 u22 : Value, a = { tmps := #[(.slice (some ⟨bx, 0, none⟩) m 65), (.int .u32 (nn : Int)), (.pointer (some ⟨w.heap.size, 0, none⟩)), (.pointer (some ⟨w.heap.size + 1, 0, none⟩)), (.int .u32 0), (.pointer (some ⟨w.heap.size + 1 + 1, 0, none⟩)), (.int .i64 (s2 : Int)), (.int .u32 (d : Int)), (.slice (some ⟨bx, 0, none⟩) m 65), (.func (.func 65) #[] #[.pointer (some ⟨w.heap.size + 1 + 1 + 1, 0, none⟩)]), (.int .i64 (s2 : Int)), (.int .u32 (d : Int)), u12, u13, u14, u15, u16, u17, u18, u19, u20, u21, u22], defers := [] } ∧ ∃ W2, Below W.drew.heap.size W.drew W2 ∧ w' = (W2.setCell ⟨bx, s2, none⟩ (.int .u32 (q : Int))).setCell ⟨w.heap.size + 1 + 1, 0, none⟩ (.int .u32 (r : Int))) ?imp ?reg
    case reg =>
      have hWd : ∀ W2, Below W.drew.heap.size W.drew W2 → RowAt W2 bx 52 (arr V) ∧ Boxed W2 (w.heap.size + 1 + 1) 48 (.int .u32 (t : Int)) := Hkl.out
      have hWc : ∀ W2, Below W.drew.heap.size W.drew W2 → Boxed W2 w.heap.size 24 (.slice (some ⟨bx, 0, none⟩) m 65) ∧ Boxed W2 (w.heap.size + 1) 48 (.int .u32 (nn : Int)) ∧ Boxed W2 (w.heap.size + 1 + 1) 48 (.int .u32 (t : Int)) := fun W2 hb => ⟨(hb.block _ Hx0.out.lt).trans Hx0.out, (hb.block _ Hx1.out.lt).trans Hx1.out, (hb.block _ Hx2.out.lt).trans Hx2.out⟩
      refine wpIn_region_inv (fun D a w' => ∃ v12 v13 v14 v15 v16 v17 v18 v19 v20 v21, a = { tmps := #[(.slice (some ⟨bx, 0, none⟩) m 65), (.int .u32 (nn : Int)), (.pointer (some ⟨w.heap.size, 0, none⟩)), (.pointer (some ⟨w.heap.size + 1, 0, none⟩)), (.int .u32 0), (.pointer (some ⟨w.heap.size + 1 + 1, 0, none⟩)), (.int .i64 (s2 : Int)), (.int .u32 (d : Int)), (.slice (some ⟨bx, 0, none⟩) m 65), (.func (.func 65) #[] #[.pointer (some ⟨w.heap.size + 1 + 1 + 1, 0, none⟩)]), (.int .i64 (s2 : Int)), (.int .u32 (d : Int)), v12, v13, v14, v15, v16, v17, v18, v19, v20, v21, undef], defers := [] } ∧
        (D 0 → v13 = .slice (some ⟨bx, 0, none⟩) m 65) ∧ (D 1 → v14 = .int .i64 (s2 : Int)) ∧ (D 2 → v15 = .int .u32 (t : Int)) ∧ (D 3 → v16 = .int .u32 (d : Int)) ∧ (D 4 → v17 = .int .u32 (nn : Int)) ∧ (D 5 → v18 = .tuple #[.int .u32 (q : Int), .int .u32 (r : Int)]) ∧ (D 6 → v12 = .tuple #[.int .u32 (q : Int), .int .u32 (r : Int)]) ∧
        (D 7 → v19 = .int .u32 (q : Int)) ∧ (D 8 → v20 = .int .u32 (r : Int)) ∧ (D 9 → v21 = .pointer (some ⟨bx, s2, none⟩)) ∧ (D 11 → D 10) ∧ (D 10 → D 0 ∧ D 2 ∧ D 4 ∧ D 5) ∧
        ∃ W2, Below W.drew.heap.size W.drew W2 ∧ (¬ D 10 → w' = W2) ∧ (D 10 → ¬ D 11 → w' = W2.setCell ⟨bx, s2, none⟩ (.int .u32 (q : Int))) ∧ (D 11 → w' = (W2.setCell ⟨bx, s2, none⟩ (.int .u32 (q : Int))).setCell ⟨w.heap.size + 1 + 1, 0, none⟩ (.int .u32 (r : Int))))
        (by kernel_rfl) (by kernel_rfl) ?start ?step ?fin
      case start => exact ⟨undef, undef, undef, undef, undef, undef, undef, undef, undef, undef, rfl, False.elim, False.elim, False.elim, False.elim, False.elim, False.elim, False.elim, False.elim, False.elim, False.elim, False.elim, False.elim, W.drew, Below.refl _ _, fun _ => rfl, False.elim, False.elim⟩
      case step =>
        rintro i o D a w1 hio hn he ⟨v12, v13, v14, v15, v16, v17, v18, v19, v20, v21, rfl, f0, f1, f2, f3, f4, f5, f6, f7, f8, f9, f11, f10, W2, hb, e0, e1, e2⟩
        rcases i with _ | _ | _ | _ | _ | _ | _ | _ | _ | _ | _ | _ | i
        rotate_left 12
        · exact absurd hio (by simp)
        all_goals (obtain rfl := Option.some.inj (hio.symm.trans (by rfl)))
        · obtain rfl := e0 fun h => hn (f10 h).1
          exact wpr_of_run (by simp) (run_load_slice (.tmp 2) rfl w.heap.size rfl _ _ _ (hWc _ hb).1.cell) ⟨_, _, _, _, _, _, _, _, _, _, rfl, put_eq rfl, put_ne (by decide) f1, put_ne (by decide) f2, put_ne (by decide) f3, put_ne (by decide) f4, put_ne (by decide) f5, put_ne (by decide) f6, put_ne (by decide) f7, put_ne (by decide) f8, put_ne (by decide) f9, fun e => .inr (f11 (And'.ne (by decide) e)), fun e => have h := f10 (And'.ne (by decide) e); ⟨.inr h.1, .inr h.2.1, .inr h.2.2.1, .inr h.2.2.2⟩, w1, hb, fun _ => rfl, fun h h' => e1 (And'.ne (by decide) h) fun h2 => h' (.inr h2), fun h => e2 (And'.ne (by decide) h)⟩
        · exact wpr_of_run (by simp) (run_move (.tmp 6) rfl) ⟨_, _, _, _, _, _, _, _, _, _, rfl, put_ne (by decide) f0, put_eq rfl, put_ne (by decide) f2, put_ne (by decide) f3, put_ne (by decide) f4, put_ne (by decide) f5, put_ne (by decide) f6, put_ne (by decide) f7, put_ne (by decide) f8, put_ne (by decide) f9, fun e => .inr (f11 (And'.ne (by decide) e)), fun e => have h := f10 (And'.ne (by decide) e); ⟨.inr h.1, .inr h.2.1, .inr h.2.2.1, .inr h.2.2.2⟩, W2, hb, fun h => e0 fun h' => h (.inr h'), fun h h' => e1 (And'.ne (by decide) h) fun h2 => h' (.inr h2), fun h => e2 (And'.ne (by decide) h)⟩
        · obtain rfl := e0 fun h => hn (f10 h).2.1
          exact wpr_of_run (by simp) (run_load_u32 (.tmp 5) rfl (w.heap.size + 1 + 1) rfl _ (hWc _ hb).2.2.cell) ⟨_, _, _, _, _, _, _, _, _, _, rfl, put_ne (by decide) f0, put_ne (by decide) f1, put_eq rfl, put_ne (by decide) f3, put_ne (by decide) f4, put_ne (by decide) f5, put_ne (by decide) f6, put_ne (by decide) f7, put_ne (by decide) f8, put_ne (by decide) f9, fun e => .inr (f11 (And'.ne (by decide) e)), fun e => have h := f10 (And'.ne (by decide) e); ⟨.inr h.1, .inr h.2.1, .inr h.2.2.1, .inr h.2.2.2⟩, w1, hb, fun _ => rfl, fun h h' => e1 (And'.ne (by decide) h) fun h2 => h' (.inr h2), fun h => e2 (And'.ne (by decide) h)⟩
        · exact wpr_of_run (by simp) (run_move (.tmp 7) rfl) ⟨_, _, _, _, _, _, _, _, _, _, rfl, put_ne (by decide) f0, put_ne (by decide) f1, put_ne (by decide) f2, put_eq rfl, put_ne (by decide) f4, put_ne (by decide) f5, put_ne (by decide) f6, put_ne (by decide) f7, put_ne (by decide) f8, put_ne (by decide) f9, fun e => .inr (f11 (And'.ne (by decide) e)), fun e => have h := f10 (And'.ne (by decide) e); ⟨.inr h.1, .inr h.2.1, .inr h.2.2.1, .inr h.2.2.2⟩, W2, hb, fun h => e0 fun h' => h (.inr h'), fun h h' => e1 (And'.ne (by decide) h) fun h2 => h' (.inr h2), fun h => e2 (And'.ne (by decide) h)⟩
        · obtain rfl := e0 fun h => hn (f10 h).2.2.1
          exact wpr_of_run (by simp) (run_load_u32 (.tmp 3) rfl (w.heap.size + 1) rfl _ (hWc _ hb).2.1.cell) ⟨_, _, _, _, _, _, _, _, _, _, rfl, put_ne (by decide) f0, put_ne (by decide) f1, put_ne (by decide) f2, put_ne (by decide) f3, put_eq rfl, put_ne (by decide) f5, put_ne (by decide) f6, put_ne (by decide) f7, put_ne (by decide) f8, put_ne (by decide) f9, fun e => .inr (f11 (And'.ne (by decide) e)), fun e => have h := f10 (And'.ne (by decide) e); ⟨.inr h.1, .inr h.2.1, .inr h.2.2.1, .inr h.2.2.2⟩, w1, hb, fun _ => rfl, fun h h' => e1 (And'.ne (by decide) h) fun h2 => h' (.inr h2), fun h => e2 (And'.ne (by decide) h)⟩
        · have hn10 : ¬ D 10 := fun h => hn (f10 h).2.2.2
          obtain rfl := e0 hn10
          obtain rfl := f2 (he ⟨2, .data⟩ (by simp) rfl)
          obtain rfl := f3 (he ⟨3, .data⟩ (by simp) rfl)
          obtain rfl := f4 (he ⟨4, .data⟩ (by simp) rfl)
          exact wpr_of_call (by decide) (by simp) (run_enter3 57 (.tmp 15) (.tmp 16) (.tmp 17) _ rfl _ _ _ rfl rfl rfl ent_div32) (HC.out w1) fun W3 h3 => ⟨_, _, _, _, _, _, _, _, _, _, rfl, put_ne (by decide) f0, put_ne (by decide) f1, put_ne (by decide) f2, put_ne (by decide) f3, put_ne (by decide) f4, put_eq rfl, put_ne (by decide) f6, put_ne (by decide) f7, put_ne (by decide) f8, put_ne (by decide) f9, fun e => .inr (f11 (And'.ne (by decide) e)), fun e => absurd (And'.ne (by decide) e) hn10, W3, hb.trans (h3.mono hb.size), fun _ => rfl, fun h => absurd (And'.ne (by decide) h) hn10, fun h => absurd (f11 (And'.ne (by decide) h)) hn10⟩
        · obtain rfl := f5 (he ⟨5, .data⟩ (by simp) rfl)
          exact wpr_of_run (by simp) (run_move (.tmp 18) rfl) ⟨_, _, _, _, _, _, _, _, _, _, rfl, put_ne (by decide) f0, put_ne (by decide) f1, put_ne (by decide) f2, put_ne (by decide) f3, put_ne (by decide) f4, put_ne (by decide) f5, put_eq rfl, put_ne (by decide) f7, put_ne (by decide) f8, put_ne (by decide) f9, fun e => .inr (f11 (And'.ne (by decide) e)), fun e => have h := f10 (And'.ne (by decide) e); ⟨.inr h.1, .inr h.2.1, .inr h.2.2.1, .inr h.2.2.2⟩, W2, hb, fun h => e0 fun h' => h (.inr h'), fun h h' => e1 (And'.ne (by decide) h) fun h2 => h' (.inr h2), fun h => e2 (And'.ne (by decide) h)⟩
        · obtain rfl := f6 (he ⟨6, .data⟩ (by simp) rfl)
          exact wpr_of_run (by simp) (run_extract (.tmp 12) 0 rfl _ rfl _ rfl) ⟨_, _, _, _, _, _, _, _, _, _, rfl, put_ne (by decide) f0, put_ne (by decide) f1, put_ne (by decide) f2, put_ne (by decide) f3, put_ne (by decide) f4, put_ne (by decide) f5, put_ne (by decide) f6, put_eq rfl, put_ne (by decide) f8, put_ne (by decide) f9, fun e => .inr (f11 (And'.ne (by decide) e)), fun e => have h := f10 (And'.ne (by decide) e); ⟨.inr h.1, .inr h.2.1, .inr h.2.2.1, .inr h.2.2.2⟩, W2, hb, fun h => e0 fun h' => h (.inr h'), fun h h' => e1 (And'.ne (by decide) h) fun h2 => h' (.inr h2), fun h => e2 (And'.ne (by decide) h)⟩
        · obtain rfl := f6 (he ⟨6, .data⟩ (by simp) rfl)
          exact wpr_of_run (by simp) (run_extract (.tmp 12) 1 rfl _ rfl _ rfl) ⟨_, _, _, _, _, _, _, _, _, _, rfl, put_ne (by decide) f0, put_ne (by decide) f1, put_ne (by decide) f2, put_ne (by decide) f3, put_ne (by decide) f4, put_ne (by decide) f5, put_ne (by decide) f6, put_ne (by decide) f7, put_eq rfl, put_ne (by decide) f9, fun e => .inr (f11 (And'.ne (by decide) e)), fun e => have h := f10 (And'.ne (by decide) e); ⟨.inr h.1, .inr h.2.1, .inr h.2.2.1, .inr h.2.2.2⟩, W2, hb, fun h => e0 fun h' => h (.inr h'), fun h h' => e1 (And'.ne (by decide) h) fun h2 => h' (.inr h2), fun h => e2 (And'.ne (by decide) h)⟩
        · obtain rfl := f0 (he ⟨0, .data⟩ (by simp) rfl)
          obtain rfl := f1 (he ⟨1, .data⟩ (by simp) rfl)
          exact wpr_of_run (by simp) (run_index_slice (.tmp 13) (.tmp 14) rfl bx m 65 s2 rfl rfl hs2) ⟨_, _, _, _, _, _, _, _, _, _, rfl, put_ne (by decide) f0, put_ne (by decide) f1, put_ne (by decide) f2, put_ne (by decide) f3, put_ne (by decide) f4, put_ne (by decide) f5, put_ne (by decide) f6, put_ne (by decide) f7, put_ne (by decide) f8, put_eq rfl, fun e => .inr (f11 (And'.ne (by decide) e)), fun e => have h := f10 (And'.ne (by decide) e); ⟨.inr h.1, .inr h.2.1, .inr h.2.2.1, .inr h.2.2.2⟩, W2, hb, fun h => e0 fun h' => h (.inr h'), fun h h' => e1 (And'.ne (by decide) h) fun h2 => h' (.inr h2), fun h => e2 (And'.ne (by decide) h)⟩
        · obtain rfl := e0 hn
          have h7 := f7 (he ⟨7, .data⟩ (by simp) rfl)
          have h9 := f9 (he ⟨9, .data⟩ (by simp) rfl)
          subst h7 h9
          exact wpr_of_skip (by simp) (run_store_u32 (.tmp 21) (.tmp 19) rfl bx s2 q (V[s2]?.getD 0) rfl rfl (((hWd _ hb).1.cell s2).trans (arr_get _ s2 (by omega))) ((hWd _ hb).1.frozen s2)) ⟨_, _, _, _, _, _, _, _, _, _, rfl, put_ne (by decide) f0, put_ne (by decide) f1, put_ne (by decide) f2, put_ne (by decide) f3, put_ne (by decide) f4, put_ne (by decide) f5, put_ne (by decide) f6, put_ne (by decide) f7, put_ne (by decide) f8, put_ne (by decide) f9, fun e => absurd (f11 (And'.ne (by decide) e)) hn, fun _ => ⟨.inr (he ⟨0, .phase⟩ (by simp) rfl), .inr (he ⟨2, .phase⟩ (by simp) rfl), .inr (he ⟨4, .phase⟩ (by simp) rfl), .inr (he ⟨5, .phase⟩ (by simp) rfl)⟩, w1, hb, fun h => absurd (.inl rfl) h, fun _ _ => rfl, fun h => absurd (f11 (And'.ne (by decide) h)) hn⟩
        · have h10 := he ⟨10, .chain⟩ (by simp) rfl
          obtain rfl := e1 h10 hn
          have h8 := f8 (he ⟨8, .data⟩ (by simp) rfl)
          subst h8
          have hbq := (RowAt.setOther (RowAt.ofBoxed (hWd _ hb).2) ⟨bx, s2, none⟩ (.int .u32 (q : Int)) (show w.heap.size + 1 + 1 ≠ bx by omega)).boxed
          exact wpr_of_skip (by simp) (run_store_u32 (.tmp 5) (.tmp 20) rfl (w.heap.size + 1 + 1) 0 r t rfl rfl hbq.cell hbq.frozen) ⟨_, _, _, _, _, _, _, _, _, _, rfl, put_ne (by decide) f0, put_ne (by decide) f1, put_ne (by decide) f2, put_ne (by decide) f3, put_ne (by decide) f4, put_ne (by decide) f5, put_ne (by decide) f6, put_ne (by decide) f7, put_ne (by decide) f8, put_ne (by decide) f9, fun _ => .inr h10, fun _ => have h := f10 h10; ⟨.inr h.1, .inr h.2.1, .inr h.2.2.1, .inr h.2.2.2⟩, W2, hb, fun h => absurd (.inr h10) h, fun _ h => absurd (.inl rfl) h, fun _ => rfl⟩
      case fin =>
        rintro D a w1 hD ⟨v12, v13, v14, v15, v16, v17, v18, v19, v20, v21, rfl, f0, f1, f2, f3, f4, f5, f6, f7, f8, f9, f11, f10, W2, hb, e0, e1, e2⟩
        exact ⟨rfl, _, _, _, _, _, _, _, _, _, _, _, rfl, W2, hb, e2 (hD 11 (by simp))⟩
    case imp =>
      rintro e a Wy ⟨rfl, u12, u13, u14, u15, u16, u17, u18, u19, u20, u21, u22, rfl, W2, hb, rfl⟩
      have hB2 : ∀ k, k < W.heap.size → W2.heap[k]? = W.heap[k]? := fun k hk' => hb.block k hk'
      have hoth : ∀ k, k ≠ bx → k ≠ w.heap.size + 1 + 1 → ((W2.setCell ⟨bx, s2, none⟩ (.int .u32 (q : Int))).setCell ⟨w.heap.size + 1 + 1, 0, none⟩ (.int .u32 (r : Int))).heap[k]? = W2.heap[k]? := fun k h7 hg => (heap_setCell_other _ _ _ _ hg).trans (heap_setCell_other W2 ⟨bx, s2, none⟩ k _ h7)
      show KeepsFrom _ _ _ ∧ _
      refine ⟨⟨?_, ?_⟩, ⟨V.set s2 q, r, by omega, ?_, hdV.set _ HC3.out, by simpa using hlV, Hmod.out, ?_, ?_, Hstep.out, ?_, ?_, ?_⟩, ?_⟩
      · rw [World.size_setCell, World.size_setCell]; exact hb.size
      · intro k o hBk ho _
        have hks := Hs4.out
        rw [hoth k (by omega) (by omega), hB2 k (Array.getElem?_eq_some_iff.1 ho).1]; exact ho
      · rw [← arr_set]; exact RowAt.setOther ((Hkl.out W2 hb).1.set s2 _) _ _ (show bx ≠ w.heap.size + 1 + 1 by omega)
      · exact Boxed.set _ (RowAt.setOther (RowAt.ofBoxed (Hkl.out W2 hb).2) ⟨bx, s2, none⟩ _ (show w.heap.size + 1 + 1 ≠ bx by omega)).boxed
      · intro j hj
        rw [List.getElem?_set_ne (by omega)]
        exact Hsame.out j (by omega)
      · exact ((hoth _ (by omega) (by omega)).trans (hB2 _ Hx0.out.lt)).trans Hx0.out
      · exact ((hoth _ (by omega) (by omega)).trans (hB2 _ Hx1.out.lt)).trans Hx1.out
      · exact ((hoth _ (by omega) (by omega)).trans (hB2 _ Hx3.out.lt)).trans Hx3.out
      · have hk2 : Keeps w.heap.size bx w W2 := Hk.out.below (Below.mono (below_of_drew hb) Hk.out.size)
        exact (hk2.setCell (p := ⟨bx, s2, none⟩) (.inl rfl) _).setCell (p := ⟨w.heap.size + 1 + 1, 0, none⟩) (.inr (show w.heap.size ≤ w.heap.size + 1 + 1 by omega)) _
  case done =>
    rintro D s W hD rfl ⟨⟨V, t, -, hr, hdV, hlV, htn, hx2, hsame, hval, -⟩, hk⟩ hK
    rw [List.drop_zero, List.drop_zero] at hval
    have hq : val V = val R / nn := by rw [hval, Nat.mul_add_div hn0, Nat.div_eq_of_lt htn, Nat.add_zero]
    have hm2 : t = val R % nn := by rw [hval, Nat.mul_add_mod, Nat.mod_eq_of_lt htn]
    have hcr := hx2.cell
    have Hq := Lib.hid hq
    have Hm2 := Lib.hid hm2
    have Hr := Lib.hid hr
    have HD : Hid (w.heap.size + 4 ≤ D) := by rw [← Hs4.out]; exact hD
    clear hval hq hm2 hr hst hk4 hx2
    gi_wp2
    have hDb := HD.out
    refine endM hK (v := .int .u32 (t : Int)) (by simp [results, Tryd.f40, go_sem]) ⟨by rw [Hm2.out], ⟨V, (World.putObj_heap_other (show bx ≠ D by omega)).trans Hr.out, hdV, hlV, fun j hj => hsame j (.inr hj), Hq.out⟩, hk.below (belowK_b (w := w) (Nat.le_refl _) W D _ _ (by omega) hK rfl rfl)⟩
  case stop => exact fun D c W hD h => h.elim

end Go.Proofs.YtcmpgboifcemmaaDoor
