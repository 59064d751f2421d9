/- Layer 1: order. -/
import Derived.Test.YtcmpgboifcemmaaDoorNum1
set_option linter.all false
namespace Go.Proofs.YtcmpgboifcemmaaDoor
open Go Go.RowKit Go.Shelf

attribute [local go_sem] Oper.semAt_some

set_option maxRecDepth 100000 in
set_option maxHeartbeats 2000000 in
/-- Lists of different lengths. -/
theorem order_len (v u : Value) (xs ys : List Nat) (w : World) (hx : U32s w.heap.size w v xs) (hy : U32s w.heap.size w u ys) (hne : xs.length ≠ ys.length) :
    Calls Tryd.prog 47 #[v, u] w fun e w' => e = .returned (.int .i64 (cmpL xs ys)) ∧ Below w.heap.size w w' := by
  obtain ⟨p, cap, rfl, hl, hc⟩ := hx
  obtain ⟨q, cap2, rfl, hl2, hc2⟩ := hy
  have h1 := digs_lt_maxLen hl
  have h2 := digs_lt_maxLen hl2
  clear hc hc2 hl hl2
  have hcmp : (xs.length < ys.length ∧ cmpL xs ys = -1) ∨ (ys.length < xs.length ∧ cmpL xs ys = 1) := by
    unfold cmpL
    by_cases h : xs.length < ys.length
    · exact .inl ⟨h, by rw [if_pos h]⟩
    · exact .inr ⟨by omega, by rw [if_neg h, if_pos (by omega)]⟩
  refine (callsIn_wide (n := 5)).1 ?_
  refine callsIn_of_wp_marks Tryd.func47 rfl trivial ?_ rfl
  simp only [Tryd.ntmps47, List.size_toArray, List.length_cons, List.length_nil, Nat.reduceAdd, Nat.reduceSub, Array.replicate_succ, Array.replicate_zero, List.push_toArray, List.append_toArray, List.nil_append, List.cons_append]
  rcases hcmp with ⟨hlt, hcmp⟩ | ⟨hlt, hcmp⟩
  · rw [hcmp]
    clear hcmp
    gi_wp2
    exact endM0 (v := .int .i64 (-1)) (by simp [results, Tryd.f47, go_sem]) ⟨rfl, ((Below.refl _ w).alloc (Nat.le_refl _) _).alloc (by simp) _⟩
  · rw [hcmp]
    clear hcmp
    have hnl : ((xs.length : Int) < (ys.length : Int)) = False := by simp; omega
    gi_wp2
    exact endM0 (v := .int .i64 1) (by simp [results, Tryd.f47, go_sem]) ⟨rfl, ((Below.refl _ w).alloc (Nat.le_refl _) _).alloc (by simp) _⟩

set_option maxRecDepth 100000 in
set_option maxHeartbeats 2000000 in
theorem order_eq (v u : Value) (xs ys : List Nat) (w : World) (hx : U32s w.heap.size w v xs) (hy : U32s w.heap.size w u ys) (he : xs.length = ys.length) (hdx : Digits xs) (hdy : Digits ys) :
    Calls Tryd.prog 47 #[v, u] w fun e w' => e = .returned (.int .i64 (sgn (val xs) (val ys))) ∧ Below w.heap.size w w' := by
  obtain ⟨p, cap, rfl, hl, hc⟩ := hx
  obtain ⟨q, cap2, rfl, hl2, hc2⟩ := hy
  have hlm := digs_lt_maxLen hl
  rw [← he] at hc2 ⊢
  obtain ⟨n, hn⟩ : ∃ n, n = xs.length := ⟨_, rfl⟩
  have Hn := Lib.hid hn
  have He := Lib.hid he
  clear hn he
  rw [← Hn.out] at hlm hc hc2 ⊢
  have hnn : ((n : Int) != n) = false := by simp
  refine (callsIn_wide (n := 5)).1 ?_
  refine callsIn_of_wp_marks Tryd.func47 rfl trivial ?_ rfl
  simp only [Tryd.ntmps47, List.size_toArray, List.length_cons, List.length_nil, Nat.reduceAdd, Nat.reduceSub, Array.replicate_succ, Array.replicate_zero, List.push_toArray, List.append_toArray, List.nil_append, List.cons_append]
  gi_wp2_with (refine ⟨trivial, ?_⟩; gi_at_call 50; refine (callsIn_wide.2 (down_calls _ _ _ _)).mono ?_; rintro e w' ⟨rfl, rfl⟩)
  have bY := Boxed.new w 24 (.slice q n cap2)
  have bR := Boxed.new (w.alloc (.cells #[.slice q n cap2] 24)) 3 (.int .i64 0)
  have bN := Boxed.new ((w.alloc (.cells #[.slice q n cap2] 24)).alloc (.cells #[.int .i64 0] 3)) 24 (.slice p n cap)
  simp only [World.size_alloc] at bN bR
  have hB0 : Below w.heap.size w (((w.alloc (.cells #[.slice q n cap2] 24)).alloc (.cells #[.int .i64 0] 3)).alloc (.cells #[.slice p n cap] 24)) := (((Below.refl _ w).alloc (Nat.le_refl _) _).alloc (by simp) _).alloc (by simp; omega) _
  have h1 : 1 ≤ 5 := by decide
  have hro : Fence.wide.round = none := rfl
  refine wpIn_rangeFunc_S (α := Nat × Nat) hro h1 (gf := 65) (lb := #[.pointer (some ⟨w.heap.size + 1 + 1, 0, none⟩)]) rfl trivial (enters_of Tryd.func65 (by kernel_rfl) rfl)
    (down1_seq 4 (by decide) (w.heap.size + 1 + 1) p n cap (by rw [Hn.out]; exact hl)) (fun _ => rfl)
    (fun s W => (s ≤ n ∧ xs.drop s = ys.drop s ∧ Boxed W w.heap.size 24 (.slice q n cap2) ∧ Boxed W (w.heap.size + 1) 3 (.int .i64 0) ∧ Boxed W (w.heap.size + 1 + 1) 24 (.slice p n cap)) ∧ Below w.heap.size w W)
    (fun c W => (c = .ret ∧ Boxed W (w.heap.size + 1) 3 (.int .i64 (sgn (val xs) (val ys)))) ∧ Below w.heap.size w W)
    (OwnFrom.and (Own.from (fun s A B row hs hg hr => ⟨hs.1, hs.2.1, boxed_own _ _ (fun _ => _) () _ _ _ hs.2.2.1 hg hr, boxed_own _ _ (fun _ => _) () _ _ _ hs.2.2.2.1 hg hr, boxed_own _ _ (fun _ => _) () _ _ _ hs.2.2.2.2 hg hr⟩) _) (ownFrom_below (Nat.le_refl _) (by simp; omega)))
    (fun c => OwnFrom.and (Own.from (fun s A B row hs hg hr => ⟨hs.1, boxed_own _ _ (fun _ => _) () _ _ _ hs.2 hg hr⟩) _) (ownFrom_below (Nat.le_refl _) (by simp; omega)))
    (fun s x => Own.from (fun _ A B row hs hg hr => by obtain ⟨b, off, e, h⟩ := hs; exact ⟨b, off, e, cell_kept h hg hr⟩) _)
    ?wk ⟨⟨Nat.le_refl _, ?start, (bY.alloc _).alloc _, bR.alloc _, bN⟩, hB0⟩
    (fun x => { tmps := #[.slice p n cap, .slice q n cap2, undef, .pointer (some ⟨w.heap.size, 0, none⟩), .pointer (some ⟨w.heap.size + 1, 0, none⟩), .int .i64 (x.1 : Int), .int .u32 (x.2 : Int), .slice p n cap, .int .i64 n, .slice q n cap2, .int .i64 n, .bool false, undef, undef, undef, undef, undef, .slice p n cap, .func (.func 65) #[] #[.pointer (some ⟨w.heap.size + 1 + 1, 0, none⟩)], .int .i64 (x.1 : Int), .int .u32 (x.2 : Int), undef, undef, undef, undef, undef, undef, undef, undef, undef, undef, undef, undef], defers := [] }) ?assign ?body ?done ?stop
  case start => rw [List.drop_eq_nil_of_le (by rw [Hn.out]; exact Nat.le_refl _), List.drop_eq_nil_of_le (by rw [Hn.out, He.out]; exact Nat.le_refl _)]
  case wk =>
    rintro s W ⟨⟨hs, _, _, _, hb⟩, hB⟩
    refine ⟨hs, hb.cell, fun k hk => ?_⟩
    obtain ⟨b, off, rfl, hlt, hcs⟩ := hc (by omega)
    exact ⟨b, off, _, rfl, (hB.cell (p := ⟨b, off + k, none⟩) hlt).trans (hcs k (by omega))⟩
  case assign =>
    intro l x W K hK
    gi_wp2
    exact hK
  case body =>
    rintro l s ⟨k, d⟩ s2 W ⟨⟨hs, hz, hby, hbr, hbn⟩, hB⟩ ⟨h1, h2⟩ ⟨b, off, rfl, hcell⟩
    dsimp only at h1 h2 hcell ⊢
    subst h2; subst h1
    have hs2 : s2 < n := hs
    obtain ⟨b', off', e, hlt, hcs⟩ := hc (Nat.lt_of_le_of_lt (Nat.zero_le _) hs2)
    obtain ⟨b2, off2, rfl, hlt2, hcs2⟩ := hc2 (Nat.lt_of_le_of_lt (Nat.zero_le _) hs2)
    cases e
    have hd0 : d = xs[s2]?.getD 0 := by
      have := (hB.cell (p := ⟨b, off + s2, none⟩) hlt).trans (hcs s2 hs2)
      rw [hcell] at this; exact u32_inj this
    have hcy := (hB.cell (p := ⟨b2, off2 + s2, none⟩) hlt2).trans (hcs2 s2 hs2)
    obtain ⟨e, he0⟩ : ∃ e, e = ys[s2]?.getD 0 := ⟨_, rfl⟩
    rw [← he0] at hcy
    have hcr := hbr.cell
    have hfr := hbr.frozen
    have hcb := hby.cell
    have Hd := Lib.hid hd0
    have He0 := Lib.hid he0
    have Hz := Lib.hid hz
    clear hc hcs hc2 hcs2 hd0 he0 hz hl hl2
    have hlx : s2 < xs.length := by rw [← Hn.out]; exact hs2
    have hly : s2 < ys.length := by rw [← He.out, ← Hn.out]; exact hs2
    rcases Nat.lt_trichotomy d e with hlt3 | heq | hgt
    · have hr : sgn (val xs) (val ys) = -1 := sgn_lt (val_lt_of_digit He.out hdx hlx Hz.out (by rw [← Hd.out, ← He0.out]; exact hlt3))
      have Hr := Lib.hid hr
      clear hr hlx hly
      gi_wp2
      exact ⟨(KeepsOthers.setCell _ _ _).from _, ⟨rfl, by rw [Hr.out]; exact hbr.set _⟩, hB.setCell (p := ⟨w.heap.size + 1, 0, none⟩) (Nat.le_succ _) _⟩
    · subst heq
      have hz2 := drop_eq_cons hlx hly Hz.out (by rw [← Hd.out, ← He0.out])
      have Hz2 := Lib.hid hz2
      clear hz2 hlx hly
      gi_wp2
      exact ⟨(KeepsOthers.refl _).from _, ⟨by omega, Hz2.out, hby, hbr, hbn⟩, hB⟩
    · have hr : sgn (val xs) (val ys) = 1 := sgn_gt (val_lt_of_digit He.out.symm hdy hly Hz.out.symm (by rw [← Hd.out, ← He0.out]; exact hgt))
      have Hr := Lib.hid hr
      clear hr hlx hly
      gi_wp2
      exact ⟨(KeepsOthers.setCell _ _ _).from _, ⟨rfl, by rw [Hr.out]; exact hbr.set _⟩, hB.setCell (p := ⟨w.heap.size + 1, 0, none⟩) (Nat.le_succ _) _⟩
  case done =>
    rintro D s W hD rfl ⟨⟨hs, hz, hby, hbr, hbn⟩, hB⟩ hK
    have hcr := hbr.cell
    have hfr := hbr.frozen
    have hst : sgn (val xs) (val ys) = 0 := by
      have : xs = ys := by simpa using hz
      rw [this]; exact sgn_eq _
    have hK2 := (KeepsOthers.setCell W ⟨w.heap.size + 1, 0, none⟩ (.int .i64 0)).same D _ hK rfl
    have hc5 := cell_kept (hbr.set (.int .i64 0)).cell (grownBy_putObj' _ D (.deferred none)) (fun r e => by cases e; exact ⟨_, hK2, rfl⟩)
    have Hst := Lib.hid hst
    clear hz hst
    gi_wp2
    refine endM hK2 (v := .int .i64 0) (by simp [results, Tryd.f47, go_sem, hc5]) ⟨by rw [Hst.out], (hB.setCell (p := ⟨w.heap.size + 1, 0, none⟩) (Nat.le_succ _) _).trans (belowK_b (w := w) (Nat.le_refl _) _ D _ _ (by simp at hD; omega) hK2 rfl rfl)⟩
  case stop =>
    rintro D c W hD ⟨⟨rfl, hbr⟩, hB⟩ hK
    have hc5 := cell_kept hbr.cell (grownBy_putObj' _ D (.deferred none)) (fun r e => by cases e; exact ⟨_, hK, rfl⟩)
    gi_wp2
    refine endM hK (v := .int .i64 (sgn (val xs) (val ys))) (by simp [results, Tryd.f47, go_sem, hc5]) ⟨rfl, hB.trans (belowK_b (w := w) (Nat.le_refl _) W D _ _ (by simp at hD; omega) hK rfl rfl)⟩

theorem order_calls (v u : Value) (xs ys : List Nat) (w : World) (hx : U32s w.heap.size w v xs) (hy : U32s w.heap.size w u ys) (hdx : Digits xs) (hdy : Digits ys) :
    Calls Tryd.prog 47 #[v, u] w fun e w' => e = .returned (.int .i64 (cmpL xs ys)) ∧ Below w.heap.size w w' := by
  by_cases he : xs.length = ys.length
  · rw [cmpL_len he]; exact order_eq v u xs ys w hx hy he hdx hdy
  · exact order_len v u xs ys w hx hy he

end Go.Proofs.YtcmpgboifcemmaaDoor
