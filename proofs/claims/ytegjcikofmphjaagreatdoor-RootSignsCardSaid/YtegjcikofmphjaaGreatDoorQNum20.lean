/- Texts that belong together. -/
import Derived.Test.YtegjcikofmphjaaGreatDoorQDiv
set_option linter.all false
/- Layer 1: divide. -/
namespace Go.Proofs.YtegjcikofmphjaaGreatDoor
open Go Go.RowKit Go.Shelf
attribute [local go_sem] Oper.semAt_some
set_option maxRecDepth 100000 in
set_option maxHeartbeats 8000000 in
theorem divide_calls (v u : Value) (xs ys : List Nat) (w : World) (hx : U32s w.heap.size w v xs) (hy : U32s w.heap.size w u ys) (hdx : Digits xs) (hdy : Digits ys) (h64 : xs.length ≤ 64) (h64y : ys.length ≤ 64) (m1 : Nat) (hm1 : ys.length = m1 + 1) (htop : ys[m1]?.getD 0 ≠ 0) :
    Calls Tryz.prog 90 #[v, u] w fun e w' => ∃ q r : List Nat, e = .returned (.tuple #[.agg (arr q), .agg (arr r)]) ∧ q.length = 65 ∧ r.length = 65 ∧ Digits q ∧ Digits r ∧ val q = val xs / val ys ∧ val r = val xs % val ys ∧ Below w.heap.size w w' := by
  obtain ⟨p, cap, rfl, hl, hc⟩ := id hx
  obtain ⟨q, cap2, rfl, hl2, hc2⟩ := id hy
  obtain ⟨by_, oy, rfl, hbyB, hcy⟩ := hc2 (by omega)
  have htl := hdy.getD m1
  obtain ⟨hb31, hbmul⟩ := lz_bounds htop htl
  have hcyt := hcy m1 (by omega)
  obtain ⟨n, hn⟩ : ∃ n, n = xs.length := ⟨_, rfl⟩
  obtain ⟨W3, hW3⟩ : ∃ W3, W3 = ((w.alloc (.cells #[.slice (some ⟨by_, oy, none⟩) (m1 + 1) cap2] 23)).alloc (.cells Tryz.zeroCells89 89)).alloc (.cells Tryz.zeroCells89 89) := ⟨_, rfl⟩
  have HB3 : Hid (Below w.heap.size w W3) := by rw [hW3]; exact (((Below.refl _ w).alloc (Nat.le_refl _) _).alloc (by simp) _).alloc (by simp; omega) _
  have Hz3 : Hid (W3.heap.size = w.heap.size + 3) := by show W3.heap.size = _; rw [hW3]; simp
  have Hb3 : Hid (Boxed W3 w.heap.size 23 (.slice (some ⟨by_, oy, none⟩) (m1 + 1) cap2)) := by rw [hW3]; exact ((Boxed.new w _ _).alloc _).alloc _
  have Hq3 : Hid (RowAt W3 (w.heap.size + 1) 89 Tryz.zeroCells89) := by rw [hW3]; exact (RowAt.new' _ _ (by simp)).alloc _
  have Hr3 : Hid (RowAt W3 (w.heap.size + 1 + 1) 89 Tryz.zeroCells89) := by rw [hW3]; exact RowAt.new' _ _ (by simp)
  have hlz := lz_calls (ys[m1]?.getD 0) htl W3
  have Hx := Lib.hid hx
  have Hy := Lib.hid hy
  have Hx' : Hid (U32s w.heap.size w (.slice p n cap) xs) := by rw [hn]; exact hx
  have Hy' : Hid (U32s w.heap.size w (.slice (some ⟨by_, oy, none⟩) (m1 + 1) cap2) ys) := by rw [← hm1]; exact hy
  have Hc := Lib.hid hc
  have Hdx := Lib.hid hdx
  have Hcy := Lib.hid hcy
  have Hn := Lib.hid hn
  have Hm := Lib.hid hm1
  have Htop := Lib.hid htop
  have Hbmul := Lib.hid hbmul
  have hcyt3 : W3.cell? ⟨by_, oy + m1, none⟩ = some (.int .u32 (ys[m1]?.getD 0 : Nat)) := (HB3.out.cell (p := ⟨by_, oy + m1, none⟩) hbyB).trans hcyt
  have hcb3 := Hb3.out.cell
  rw [hm1, ← hn]
  rw [← hn] at h64
  rw [hm1] at h64y
  generalize hyt : ys[m1]?.getD 0 = yt at *
  obtain ⟨b, hb⟩ : ∃ b, b = lz yt := ⟨_, rfl⟩
  rw [← hb] at hlz hb31 Hbmul
  have Hlz := Lib.hid hlz
  have Hyt := Lib.hid hyt
  have HW3 := Lib.hid hW3
  clear hlz hx hy hc hcy hn hm1 htop hbmul hc2 hl hl2 hb hyt htl hW3
  have hs1 : by_ < w.heap.size + 1 := by omega
  have hs2 : by_ < w.heap.size + 1 + 1 := by omega
  refine (callsIn_wide (n := 5)).1 ?_
  refine callsIn_of_wp_marks Tryz.func90 rfl trivial ?_ rfl
  simp only [Tryz.ntmps90, List.size_toArray, List.length_cons, List.length_nil, Nat.reduceAdd, Nat.reduceSub, Array.replicate_succ, Array.replicate_zero, List.push_toArray, List.append_toArray, List.nil_append, List.cons_append]
  refine wpIn_wide.2 ?_
  go_wp2_with fail
  rw [← HW3.out]
  refine Hlz.out.mono ?_
  rintro e w0 ⟨rfl, rfl⟩
  go_wp2_with fail
  obtain ⟨W4, hW4⟩ : ∃ W4, W4 = W3.alloc (.cells #[.int .i64 b] 3) := ⟨_, rfl⟩
  rw [← hW4]
  have HB4 : Hid (Below w.heap.size w W4) := by rw [hW4]; exact HB3.out.alloc HB3.out.size _
  have Hb6 : Boxed W4 W3.heap.size 3 (.int .i64 b) := by rw [hW4]; exact Boxed.new _ _ _
  have Hb3' : Boxed W4 w.heap.size 23 (.slice (some ⟨by_, oy, none⟩) (m1 + 1) cap2) := by rw [hW4]; exact Hb3.out.alloc _
  refine wp_region_inv (fun D a w' => ∃ v22 v23 v24 v25 v26 v27 v7 v8, a = { tmps := #[(.slice p n cap), (.slice (some ⟨by_, oy, none⟩) (m1 + 1) cap2), undef, (.pointer (some ⟨w.heap.size, 0, none⟩)), (.pointer (some ⟨w.heap.size + 1, 0, none⟩)), (.pointer (some ⟨w.heap.size + 1 + 1, 0, none⟩)), (.pointer (some ⟨W3.heap.size, 0, none⟩)), v7, v8, undef, undef, undef, undef, undef, undef, (.slice (some ⟨by_, oy, none⟩) (m1 + 1) cap2), (.slice (some ⟨by_, oy, none⟩) (m1 + 1) cap2), (.int .i64 ((m1 : Int) + 1)), (.int .i64 (m1 : Int)), (.pointer (some ⟨by_, oy + m1, none⟩)), (.int .u32 (yt : Int)), (.int .i64 (b : Int)), v22, v23, v24, v25, v26, v27, undef, undef, undef, undef, undef, undef, undef, undef, undef, undef, undef, undef, undef, undef, undef, undef, undef, undef, undef, undef, undef, undef, undef, undef, undef, undef, undef, undef, undef, undef, undef, undef, undef, undef, undef, undef, undef, undef, undef, undef, undef, undef, undef, undef, undef], defers := [] } ∧ Pick D W4 (.slice p n cap) (.slice (some ⟨by_, oy, none⟩) (m1 + 1) cap2) (.int .i64 b) (arr (shRow b xs)) (arr (shRow b ys)) v22 v23 v24 v25 v26 v27 v7 v8 w') rfl (by kernel_rfl) ?start ?step ?done
  case start => exact ⟨undef, undef, undef, undef, undef, undef, undef, undef, rfl, (Below.refl _ _).drew, False.elim, False.elim, False.elim, False.elim, False.elim, False.elim, fun h => h.elim, fun h => h.elim, False.elim, False.elim, False.elim⟩
  case step =>
    rintro i o D a w1 hio hn he ⟨v22, v23, v24, v25, v26, v27, v7, v8, rfl, hp⟩
    have hbw : Below W4.heap.size W4 w1 := hp.1
    have hc6 : w1.cell? ⟨W3.heap.size, 0, none⟩ = some (.int .i64 b) := (hbw.cell (p := ⟨_, 0, none⟩) Hb6.lt).trans Hb6.cell
    have hc3 : w1.cell? ⟨w.heap.size, 0, none⟩ = some (.slice (some ⟨by_, oy, none⟩) (m1 + 1) cap2) := (hbw.cell (p := ⟨_, 0, none⟩) Hb3'.lt).trans Hb3'.cell
    have hle := (HB4.out.trans (hbw.mono HB4.out.size))
    rcases i with _ | _ | _ | _ | _ | _ | _ | _ | _ | _ | i
    rotate_left 10
    · exact absurd hio (by simp)
    all_goals (obtain rfl := Option.some.inj (hio.symm.trans (by rfl)))
    · refine BigFrame.wp_move (.tmp 0) rfl ?_
      exact ⟨_, _, _, _, _, _, _, _, rfl, hp.s0⟩
    · refine wp_load_int (.tmp 6) rfl _ rfl _ hc6 ?_
      exact ⟨_, _, _, _, _, _, _, _, rfl, hp.s1⟩
    · obtain rfl := hp.2.1 (he ⟨0, .data⟩ (by simp) rfl)
      obtain rfl := hp.2.2.1 (he ⟨1, .data⟩ (by simp) rfl)
      refine wp_call_shifted (.tmp 22) (.tmp 23) _ rfl (.slice p n cap) (.int .i64 b) rfl rfl (.agg (arr (shRow b xs))) (shifted_calls (.slice p n cap) b hb31 xs w1 ((Hx'.out.below hle).mono hle.size) hdx (by rw [← Hn.out]; exact h64)) fun w2 hb2 => ?_
      exact ⟨_, _, _, _, _, _, _, _, rfl, hp.s2 hb2⟩
    · refine wp_load_slice (.tmp 3) rfl _ rfl _ _ _ hc3 ?_
      exact ⟨_, _, _, _, _, _, _, _, rfl, hp.s3⟩
    · refine wp_load_int (.tmp 6) rfl _ rfl _ hc6 ?_
      exact ⟨_, _, _, _, _, _, _, _, rfl, hp.s4⟩
    · obtain rfl := hp.2.2.2.2.1 (he ⟨3, .data⟩ (by simp) rfl)
      obtain rfl := hp.2.2.2.2.2.1 (he ⟨4, .data⟩ (by simp) rfl)
      refine wp_call_shifted (.tmp 25) (.tmp 26) _ rfl (.slice (some ⟨by_, oy, none⟩) (m1 + 1) cap2) (.int .i64 b) rfl rfl (.agg (arr (shRow b ys))) (shifted_calls (.slice (some ⟨by_, oy, none⟩) (m1 + 1) cap2) b hb31 ys w1 ((Hy'.out.below hle).mono hle.size) hdy (by rw [Hm.out]; exact h64y)) fun w2 hb2 => ?_
      exact ⟨_, _, _, _, _, _, _, _, rfl, hp.s5 hb2⟩
    · refine wp_alloc_row rfl ?_
      exact ⟨_, _, _, _, _, _, _, _, rfl, hp.s6 hn⟩
    · refine wp_alloc_row rfl ?_
      exact ⟨_, _, _, _, _, _, _, _, rfl, hp.s7 hn⟩
    · obtain rfl := hp.2.2.2.1 (he ⟨2, .data⟩ (by simp) rfl)
      obtain ⟨g, cs, rfl, hr, hs, hp'⟩ := hp.s8 (he ⟨6, .data⟩ (by simp) rfl) (by rw [arr_size, shRow_length])
      refine wp_store_row 89 (.tmp 7) (.tmp 24) rfl g _ rfl rfl 89 cs hr (by rw [row_info, arr_size, shRow_length]) (by rw [arr_size, shRow_length, hs]) (arr_one _) ?_
      exact ⟨_, _, _, _, _, _, _, _, rfl, hp'⟩
    · obtain rfl := hp.2.2.2.2.2.2.1 (he ⟨5, .data⟩ (by simp) rfl)
      obtain ⟨g, cs, rfl, hr, hs, hp'⟩ := hp.s9 (he ⟨7, .data⟩ (by simp) rfl) (by rw [arr_size, shRow_length])
      refine wp_store_row 89 (.tmp 8) (.tmp 27) rfl g _ rfl rfl 89 cs hr (by rw [row_info, arr_size, shRow_length]) (by rw [arr_size, shRow_length, hs]) (arr_one _) ?_
      exact ⟨_, _, _, _, _, _, _, _, rfl, hp'⟩
  case done =>
    rintro D a w1 hD ⟨v22, v23, v24, v25, v26, v27, v7, v8, rfl, hp⟩
    obtain ⟨g7, cs7, rfl, hg7, -, hr7, e7⟩ := hp.2.2.2.2.2.2.2.1 (hD 6 (by simp))
    obtain rfl := e7 (hD 8 (by simp))
    obtain ⟨g8, cs8, rfl, hg8, -, hr8, e8⟩ := hp.2.2.2.2.2.2.2.2.1 (hD 7 (by simp))
    obtain rfl := e8 (hD 9 (by simp))
    have h78 : g7 ≠ g8 := fun e => hp.2.2.2.2.2.2.2.2.2.1 (hD 6 (by simp)) (hD 7 (by simp)) (by rw [e])
    have hB := hp.1
    clear hp hD e7 e8
    have hb3 : Boxed w1 w.heap.size 23 (.slice (some ⟨by_, oy, none⟩) (m1 + 1) cap2) := (hB.block _ Hb3'.lt).trans Hb3'
    have hb6 : Boxed w1 W3.heap.size 3 (.int .i64 b) := (hB.block _ Hb6.lt).trans Hb6
    have hc3 := (hb3.alloc (.cells Tryz.zeroCells89 89)).cell
    obtain ⟨pl, hpl⟩ : ∃ pl : Nat, pl = n - m1 := ⟨_, rfl⟩
    have hmax : max (0 : Int) ((n : Int) - ((m1 : Int) + 1) + 1) = (pl : Int) := by omega
    have hpl65 : (pl : Int) ≤ 65 := by omega
    have hpl65' : pl ≤ 65 := by omega
    have Hpl := Lib.hid hpl
    clear hpl
    go_wp2_with fail
    refine (down_calls _ _ _ _).mono ?_
    rintro e w2 ⟨rfl, rfl⟩
    go_wp2_with fail
    have hs41 : W4.heap.size = w.heap.size + 4 := by rw [hW4]; simp [Hz3.out]
    have hs3 : W3.heap.size = w.heap.size + 3 := Hz3.out
    have hq1 : RowAt W4 (w.heap.size + 1) 89 Tryz.zeroCells89 := by rw [hW4]; exact Hq3.out.alloc _
    have hq2 : RowAt W4 (w.heap.size + 1 + 1) 89 Tryz.zeroCells89 := by rw [hW4]; exact Hr3.out.alloc _
    obtain ⟨gq, hgq⟩ : ∃ gq, gq = w1.heap.size := ⟨_, rfl⟩
    rw [← hgq]
    obtain ⟨W6, hW6⟩ : ∃ W6, W6 = (w1.alloc (.cells Tryz.zeroCells89 89)).alloc (.cells #[.slice (some ⟨gq, 0, none⟩) pl 65] 23) := ⟨_, rfl⟩
    rw [← hW6]
    have hg7q : g7 < gq := by rw [hgq]; exact hr7.lt
    have hg8q : g8 < gq := by rw [hgq]; exact hr8.lt
    have hs6 : W6.heap.size = gq + 2 := by rw [hW6, hgq]; simp
    have h6old : ∀ k, k < gq → W6.heap[k]? = w1.heap[k]? := fun k hk => by rw [hW6]; rw [Below.heap_alloc _ _ _ (by simp; omega), Below.heap_alloc _ _ _ (by omega)]
    have hB6 : Below w.heap.size w W6 := by rw [hW6]; exact ((HB4.out.trans (hB.mono (by omega))).alloc (by omega) _).alloc (by simp; omega) _
    have hF6 : DivFix w.heap.size W3.heap.size gq g8 pl b (.slice (some ⟨by_, oy, none⟩) (m1 + 1) cap2) (shRow b ys) W6 := by
      refine ⟨(h6old _ (by omega)).trans hb3, ((h6old _ (by omega)).trans (hB.block _ (by omega))).trans hq1, ((h6old _ (by omega)).trans (hB.block _ (by omega))).trans hq2, (h6old _ (by omega)).trans hb6, (h6old _ hg8q).trans hr8, ?_⟩
      rw [hW6]
      have := Boxed.new (w1.alloc (.cells Tryz.zeroCells89 89)) 23 (.slice (some ⟨gq, 0, none⟩) pl 65)
      rw [World.size_alloc, ← hgq] at this
      exact this
    have h76 : RowAt W6 g7 89 (arr (shRow b xs)) := (h6old _ hg7q).trans hr7
    have hq6 : RowAt W6 gq 89 (arr (List.replicate 65 0)) := by
      rw [hW6, ← zero_row]; exact (RowAt.new' _ _ hgq).alloc _
    have hne : ∀ k, k = w.heap.size ∨ k = w.heap.size + 1 ∨ k = w.heap.size + 1 + 1 ∨ k = W3.heap.size ∨ k = g8 ∨ k = gq + 1 → k ≠ g7 ∧ k ≠ gq := fun k hk => by omega
    have hDD : val (shRow b ys) = val ys * 2 ^ b := shRow_val hb31 ys (by rw [Hm.out]; omega)
    have hXX : val (shRow b xs) = val xs * 2 ^ b := shRow_val hb31 xs (by rw [← Hn.out]; omega)
    have hdY : Digits (shRow b ys) := shRow_digits hb31 hdy
    have hytop : ys[m1]?.getD 0 ≠ 0 := by rw [Hyt.out]; exact Htop.out
    have hyge : B32 ^ m1 ≤ val ys := val_ge_digit (by rw [Hm.out]; omega) hytop
    have hxlt : val xs < B32 ^ n := by rw [Hn.out]; exact val_lt Hdx.out
    have hstart : val ((shRow b xs).drop pl) < val (shRow b ys) := div_start (shRow_length _ _) Hpl.out hpl65' hxlt hXX hyge hDD
    have hYlt : val (shRow b ys) < B32 ^ (m1 + 1) := by rw [hDD]; exact shY_lt hb31 hdy Hm.out (by rw [Hyt.out]; exact Hbmul.out)
    have hYge : B32 ^ m1 ≤ val (shRow b ys) := by rw [hDD]; exact Nat.le_trans hyge (Nat.le_mul_of_pos_right _ (Nat.two_pow_pos b))
    have h1 : 1 ≤ 5 := by decide
    have hro : Fence.wide.round = none := rfl
    have Hs41 := Lib.hid hs41
    have Hs3 := Lib.hid hs3
    have Hgq := Lib.hid hgq
    have HW6 := Lib.hid hW6
    have Hs6 := Lib.hid hs6
    have HDD := Lib.hid hDD
    have HXX := Lib.hid hXX
    have Hne := Lib.hid hne
    have h0g : w.heap.size < gq := by omega
    have HYpos : Hid (0 < val (shRow b ys)) := Nat.lt_of_lt_of_le (Nat.pow_pos B32_pos) hYge
    have HYt : Hid (val ((shRow b ys).take (m1 + 1)) = val (shRow b ys)) := val_take_of_zero fun j hj => digit_zero_above (s := 0) (k := m1 + 1) (by simpa using hYlt) (by omega)
    have HYtop : Hid ((shRow b ys)[m1]?.getD 0 ≠ 0) := top_ne_zero hdY hYlt hYge (by rw [shRow_length]; omega)
    have HYlt : Hid (val (shRow b ys) < B32 ^ (m1 + 1)) := hYlt
    have Hxlt := Lib.hid hxlt
    clear hytop hyge hxlt hYlt hYge
    clear hs41 hs3 hgq hW6 hs6 hDD hXX h6old hne hc3 hb3 hb6 hr7 hr8 hq1 hq2 hW4 hcb3 hcyt3 hcyt
    refine (wpIn_wide (n := 5)).1 ?_
    refine wpIn_rangeFunc_S (α := Nat × Nat) hro h1 (gf := 119) (lb := #[.pointer (some ⟨gq + 1, 0, none⟩)]) rfl trivial (enters_of Tryz.func119 (by kernel_rfl) rfl)
      (down1_seq 4 (by decide) (gq + 1) (some ⟨gq, 0, none⟩) pl 65 (by unfold maxLen; omega)) (fun _ => rfl)
      (fun s W => (DivSt g7 gq pl (val (shRow b ys)) (val (shRow b xs)) s W ∧ DivFix w.heap.size W3.heap.size gq g8 pl b (.slice (some ⟨by_, oy, none⟩) (m1 + 1) cap2) (shRow b ys) W) ∧ Below w.heap.size w W)
      (fun _ _ => False)
      (OwnFrom.and (Own.from (fun s A B row hs hg hr => ⟨DivSt.own _ _ _ _ _ s A B row hs.1 hg hr, DivFix.own _ _ _ _ _ _ _ _ s A B row hs.2 hg hr⟩) _) (ownFrom_below (Nat.le_refl _) (by rw [Hs6.out]; omega)))
      (fun c => Own.from (fun _ A B row hs hg hr => hs) _)
      (fun s x => Own.from (fun _ A B row hs hg hr => by obtain ⟨b, off, e, h⟩ := hs; exact ⟨b, off, e, cell_kept h hg hr⟩) _)
      ?wk ⟨⟨⟨_, _, Nat.le_refl _, h76, hq6, shRow_digits hb31 Hdx.out, shRow_length _ _, ?z1, by simp, ?z2, hstart⟩, hF6⟩, hB6⟩
      (fun x => { tmps := #[(.slice p n cap), (.slice (some ⟨by_, oy, none⟩) (m1 + 1) cap2), undef, (.pointer (some ⟨w.heap.size, 0, none⟩)), (.pointer (some ⟨w.heap.size + 1, 0, none⟩)), (.pointer (some ⟨w.heap.size + 1 + 1, 0, none⟩)), (.pointer (some ⟨W3.heap.size, 0, none⟩)), (.pointer (some ⟨g7, 0, none⟩)), (.pointer (some ⟨g8, 0, none⟩)), (.pointer (some ⟨gq, 0, none⟩)), (.int .i64 (pl : Int)), (.int .i64 (x.1 : Int)), undef, undef, undef, (.slice (some ⟨by_, oy, none⟩) (m1 + 1) cap2), (.slice (some ⟨by_, oy, none⟩) (m1 + 1) cap2), (.int .i64 ((m1 : Int) + 1)), (.int .i64 (m1 : Int)), (.pointer (some ⟨by_, oy + m1, none⟩)), (.int .u32 (yt : Int)), (.int .i64 (b : Int)), v22, v23, v24, v25, v26, v27, (.slice p n cap), (.int .i64 (n : Int)), (.slice (some ⟨by_, oy, none⟩) (m1 + 1) cap2), (.int .i64 ((m1 : Int) + 1)), (.int .i64 ((n : Int) - ((m1 : Int) + 1))), (.int .i64 ((n : Int) - ((m1 : Int) + 1) + 1)), (.int .i64 (pl : Int)), (.int .i64 (pl : Int)), (.slice (some ⟨gq, 0, none⟩) pl 65), (.func (.func 119) #[] #[.pointer (some ⟨gq + 1, 0, none⟩)]), (.int .i64 (x.1 : Int)), (.int .u32 (x.2 : Int)), undef, undef, undef, undef, undef, undef, undef, undef, undef, undef, undef, undef, undef, undef, undef, undef, undef, undef, undef, undef, undef, undef, undef, undef, undef, undef, undef, undef, undef, undef, undef, undef, undef], defers := [] }) ?assign ?body ?done ?stop
    case z1 => intro d hd; rw [List.eq_of_mem_replicate hd]; exact B32_pos
    case z2 => rw [List.drop_replicate, val_zeros]; simp
    case wk =>
      rintro s W ⟨⟨⟨R, Qt, hs, _, hq, _, _, hdQ, hlQ, _⟩, hf⟩, hB⟩
      refine ⟨hs, hf.it.cell, fun k hk => ⟨gq, 0, Qt[k]?.getD 0, rfl, ?_⟩⟩
      rw [Nat.zero_add]
      exact (hq.cell k).trans (arr_get _ k (by omega))
    case assign =>
      intro l x W K hK
      gi_wp2
      exact hK
    case body =>
      rintro l s ⟨k, d⟩ s2 W ⟨⟨⟨R, Qt, hs, hr, hq, hdR, hlR, hdQ, hlQ, hinv, hlt⟩, hf⟩, hB⟩ ⟨h1, h2⟩ -
      dsimp only at h1 h2 ⊢
      subst h2; subst h1
      have hs2 : s2 < pl := hs
      have hpl2 := Hpl.out
      have hYt := HYt.out
      have hYl : ((shRow b ys).take (m1 + 1)).length = m1 + 1 := by rw [List.length_take, shRow_length]; omega
      have hYg : ∀ j, j < m1 + 1 → ((shRow b ys).take (m1 + 1))[j]?.getD 0 = (shRow b ys)[j]?.getD 0 := fun j hj => by rw [List.getElem?_take_of_lt hj]
      have ht := takeOut_calls g7 s2 (65 - s2) g8 0 65 m1 89 ((shRow b ys).take (m1 + 1)) R W.drew hr hdR (hdY.take _) hYl hlR (by have := Hpl.out; omega) (by have := Hpl.out; omega) (by omega) (show g8 < W.heap.size from hf.r8.lt) (Ne.symm h78)
        (fun j hj => by rw [hYg j hj, Nat.zero_add]; exact (show RowAt W.drew g8 89 (arr (shRow b ys)) from hf.r8).cell j |>.trans (arr_get _ j (by rw [shRow_length]; omega))) (by rw [hYg m1 (by omega)]; exact HYtop.out)
        (fun j hj => digit_zero_above (s := s2 + 1) (k := m1 + 1) (Nat.lt_trans hlt HYlt.out) (by rw [hYl] at hj; omega)) (by rw [hYt]; exact div_bound hdR hlR (by omega) hlt)
      rw [hYt, hYl] at ht
      have hq2 : val (R.drop s2) / val (shRow b ys) < B32 := by rw [Nat.div_lt_iff_lt_mul HYpos.out]; exact div_bound hdR hlR (by omega) hlt
      obtain ⟨qd, hqd⟩ : ∃ qd, qd = val (R.drop s2) / val (shRow b ys) := ⟨_, rfl⟩
      rw [← hqd] at ht hq2
      obtain ⟨P1, hP1⟩ : ∃ P1 : World → Prop, P1 = fun w' => (∃ Z, RowAt w' g7 89 (arr Z) ∧ Digits Z ∧ Z.length = 65 ∧ (∀ j, j < s2 ∨ s2 + (m1 + 1) < j → Z[j]? = R[j]?) ∧ val (Z.drop s2) = val (R.drop s2) % val (shRow b ys)) ∧ Keeps W.drew.heap.size g7 W.drew w' := ⟨_, rfl⟩
      have hT : Calls Tryz.prog 111 #[.slice (some ⟨g7, s2, none⟩) (m1 + 1 + 1) (65 - s2), .slice (some ⟨g8, 0, none⟩) (m1 + 1) 65] W.drew fun e w' => e = .returned (.int .u32 (qd : Nat)) ∧ P1 w' := by rw [hP1]; exact ht
      have hkeep : ∀ W', P1 W' → Keeps W.drew.heap.size g7 W.drew W' := fun W' h => by rw [hP1] at h; exact h.2
      have hgqW : gq < W.drew.heap.size := hq.lt
      have h0W : w.heap.size < W.drew.heap.size := hf.y.lt
      have h0e := (Hne.out w.heap.size (by simp))
      clear ht
      gi_wp2
      refine wpIn_region_inv (fun D a W' => ∃ v40 v41 v42 v43 v44 v45 v46 v47 v48 v49 v50 v51 v52 : Value, a = { tmps := #[(.slice p n cap), (.slice (some ⟨by_, oy, none⟩) (m1 + 1) cap2), undef, (.pointer (some ⟨w.heap.size, 0, none⟩)), (.pointer (some ⟨w.heap.size + 1, 0, none⟩)), (.pointer (some ⟨w.heap.size + 1 + 1, 0, none⟩)), (.pointer (some ⟨W3.heap.size, 0, none⟩)), (.pointer (some ⟨g7, 0, none⟩)), (.pointer (some ⟨g8, 0, none⟩)), (.pointer (some ⟨gq, 0, none⟩)), (.int .i64 (pl : Int)), (.int .i64 (s2 : Int)), undef, undef, undef, (.slice (some ⟨by_, oy, none⟩) (m1 + 1) cap2), (.slice (some ⟨by_, oy, none⟩) (m1 + 1) cap2), (.int .i64 ((m1 : Int) + 1)), (.int .i64 (m1 : Int)), (.pointer (some ⟨by_, oy + m1, none⟩)), (.int .u32 (yt : Int)), (.int .i64 (b : Int)), v22, v23, v24, v25, v26, v27, (.slice p n cap), (.int .i64 (n : Int)), (.slice (some ⟨by_, oy, none⟩) (m1 + 1) cap2), (.int .i64 ((m1 : Int) + 1)), (.int .i64 ((n : Int) - ((m1 : Int) + 1))), (.int .i64 ((n : Int) - ((m1 : Int) + 1) + 1)), (.int .i64 (pl : Int)), (.int .i64 (pl : Int)), (.slice (some ⟨gq, 0, none⟩) pl 65), (.func (.func 119) #[] #[.pointer (some ⟨gq + 1, 0, none⟩)]), (.int .i64 (s2 : Int)), (.int .u32 (d : Int)), v40, v41, v42, v43, v44, v45, v46, v47, v48, v49, v50, v51, v52, undef, undef, undef, undef, undef, undef, undef, undef, undef, undef, undef, undef, undef, undef, undef, undef, undef, undef, undef, undef], defers := [] } ∧ Tk D (.int .i64 (s2 : Int)) (.slice (some ⟨by_, oy, none⟩) (m1 + 1) cap2) (.int .i64 ((m1 + 1 : Nat) : Int)) (.int .i64 ((s2 + (m1 + 1) : Nat) : Int)) (.int .i64 ((s2 + (m1 + 1) + 1 : Nat) : Int)) (.slice (some ⟨g7, s2, none⟩) (m1 + 1 + 1) (65 - s2)) (.slice (some ⟨g8, 0, none⟩) (m1 + 1) 65) (.int .u32 (qd : Int)) (.pointer (some ⟨gq, s2, none⟩)) W.drew P1 (fun W' => ∃ W2, P1 W2 ∧ W' = W2.setCell ⟨gq, s2, none⟩ (.int .u32 (qd : Int))) v40 v41 v42 v43 v44 v45 v46 v47 v48 v49 v50 v51 v52 W' ∧ Boxed W' w.heap.size 23 (.slice (some ⟨by_, oy, none⟩) (m1 + 1) cap2)) (by kernel_rfl) (by kernel_rfl) ?start ?step ?fin
      case start => exact ⟨undef, undef, undef, undef, undef, undef, undef, undef, undef, undef, undef, undef, undef, rfl, ⟨False.elim, False.elim, False.elim, False.elim, False.elim, False.elim, False.elim, False.elim, False.elim, False.elim, False.elim, False.elim, False.elim, fun _ => rfl, False.elim, False.elim, False.elim⟩, hf.y⟩
      case step =>
        rintro i o D a W' hio hn he ⟨v40, v41, v42, v43, v44, v45, v46, v47, v48, v49, v50, v51, v52, rfl, ht, hy⟩
        rcases i with _ | _ | _ | _ | _ | _ | _ | _ | _ | _ | _ | _ | _ | _ | i
        rotate_left 14
        · exact absurd hio (by simp)
        all_goals (obtain rfl := Option.some.inj (hio.symm.trans (by rfl)))
        · exact wpr_of_run (by simp) (run_move (.tmp 11) rfl) ⟨_, _, _, _, _, _, _, _, _, _, _, _, _, rfl, ht.s0, hy⟩
        · exact wpr_of_run (by simp) (run_move (.tmp 11) rfl) ⟨_, _, _, _, _, _, _, _, _, _, _, _, _, rfl, ht.s1, hy⟩
        · exact wpr_of_run (by simp) (run_move (.tmp 11) rfl) ⟨_, _, _, _, _, _, _, _, _, _, _, _, _, rfl, ht.s2, hy⟩
        · exact wpr_of_run (by simp) (run_load_slice (.tmp 3) rfl w.heap.size rfl _ _ _ hy.cell) ⟨_, _, _, _, _, _, _, _, _, _, _, _, _, rfl, ht.s3, hy⟩
        · obtain rfl := ht.2.2.2.1 (he ⟨3, .data⟩ (by simp) rfl)
          exact wpr_of_run (by simp) (run_len (.tmp 43) _ rfl rfl _ (m1 + 1) _ rfl) ⟨_, _, _, _, _, _, _, _, _, _, _, _, _, rfl, ht.s4, hy⟩
        · obtain rfl := ht.2.2.1 (he ⟨2, .data⟩ (by simp) rfl)
          obtain rfl := ht.2.2.2.2.1 (he ⟨4, .data⟩ (by simp) rfl)
          exact wpr_of_run (by simp) (run_addN (.tmp 42) (.tmp 44) rfl rfl s2 (m1 + 1) rfl rfl (by omega)) ⟨_, _, _, _, _, _, _, _, _, _, _, _, _, rfl, ht.s5, hy⟩
        · obtain rfl := ht.2.2.2.2.2.1 (he ⟨5, .data⟩ (by simp) rfl)
          exact wpr_of_run (by simp) (run_addN (.tmp 45) (.const (.int .i64 1)) rfl rfl (s2 + (m1 + 1)) 1 rfl rfl (by omega)) ⟨_, _, _, _, _, _, _, _, _, _, _, _, _, rfl, ht.s6, hy⟩
        · obtain rfl := ht.2.1 (he ⟨1, .data⟩ (by simp) rfl)
          obtain rfl := ht.2.2.2.2.2.2.1 (he ⟨6, .data⟩ (by simp) rfl)
          exact wpr_of_run (by simp) (run_slice2 (.tmp 7) (.tmp 41) (.tmp 46) rfl g7 s2 (s2 + (m1 + 1) + 1) rfl rfl rfl (by omega) (by omega) (by omega) (m1 + 1 + 1) (by omega)) ⟨_, _, _, _, _, _, _, _, _, _, _, _, _, rfl, ht.s7, hy⟩
        · exact wpr_of_run (by simp) (run_load_slice (.tmp 3) rfl w.heap.size rfl _ _ _ hy.cell) ⟨_, _, _, _, _, _, _, _, _, _, _, _, _, rfl, ht.s8, hy⟩
        · obtain rfl := ht.2.2.2.2.2.2.2.2.1 (he ⟨8, .data⟩ (by simp) rfl)
          exact wpr_of_run (by simp) (run_len (.tmp 48) _ rfl rfl _ (m1 + 1) _ rfl) ⟨_, _, _, _, _, _, _, _, _, _, _, _, _, rfl, ht.s9, hy⟩
        · obtain rfl := ht.2.2.2.2.2.2.2.2.2.1 (he ⟨9, .data⟩ (by simp) rfl)
          exact wpr_of_run (by simp) (run_slice1 (.tmp 8) (.tmp 49) rfl g8 (m1 + 1) rfl rfl (by omega)) ⟨_, _, _, _, _, _, _, _, _, _, _, _, _, rfl, ht.s10, hy⟩
        · obtain rfl := ht.2.2.2.2.2.2.2.1 (he ⟨7, .data⟩ (by simp) rfl)
          obtain rfl := ht.2.2.2.2.2.2.2.2.2.2.1 (he ⟨10, .data⟩ (by simp) rfl)
          obtain rfl := ht.2.2.2.2.2.2.2.2.2.2.2.2.2.1 hn
          exact wpr_of_call (by decide) (by simp) (run_enter2 111 (.tmp 47) (.tmp 50) _ rfl _ _ rfl rfl ent_takeOut) hT fun W2 h2 => ⟨_, _, _, _, _, _, _, _, _, _, _, _, _, rfl, ht.s11 hn h2, ((hkeep W2 h2).block _ h0W h0e.1).trans hf.y⟩
        · obtain rfl := ht.1 (he ⟨0, .data⟩ (by simp) rfl)
          exact wpr_of_run (by simp) (run_index (.tmp 9) (.tmp 40) rfl gq s2 rfl rfl (by omega)) ⟨_, _, _, _, _, _, _, _, _, _, _, _, _, rfl, ht.s12, hy⟩
        · obtain rfl := ht.2.2.2.2.2.2.2.2.2.2.2.1 (he ⟨11, .data⟩ (by simp) rfl)
          obtain rfl := ht.2.2.2.2.2.2.2.2.2.2.2.2.1 (he ⟨12, .data⟩ (by simp) rfl)
          have hp1 := ht.2.2.2.2.2.2.2.2.2.2.2.2.2.2.1 (he ⟨11, .data⟩ (by simp) rfl) hn
          have hqr := (hkeep W' hp1).row (show RowAt W.drew gq 89 (arr Qt) from hq) hgqW (by omega)
          exact wpr_of_skip (by simp) (run_store_u32 (.tmp 52) (.tmp 51) rfl gq s2 qd (Qt[s2]?.getD 0) rfl rfl ((hqr.cell s2).trans (arr_get _ s2 (by omega))) (hqr.frozen s2)) ⟨_, _, _, _, _, _, _, _, _, _, _, _, _, rfl, ht.s13 (he ⟨11, .data⟩ (by simp) rfl) ⟨W', hp1, rfl⟩, (RowAt.setOther (RowAt.ofBoxed hy) ⟨gq, s2, none⟩ _ h0e.2).boxed⟩
      case fin =>
        rintro D a W' hD ⟨v40, v41, v42, v43, v44, v45, v46, v47, v48, v49, v50, v51, v52, rfl, ht, hy⟩
        obtain ⟨W2, hp1, rfl⟩ := ht.2.2.2.2.2.2.2.2.2.2.2.2.2.2.2.1 (hD 13 (by simp))
        clear ht
        rw [hP1] at hp1
        obtain ⟨⟨Z, hZ, hdZ, hlZ, hsZ, hmZ⟩, hk⟩ := hp1
        have hqr := hk.row (show RowAt W.drew gq 89 (arr Qt) from hq) hgqW (by omega)
        show KeepsFrom _ _ _ ∧ _
        refine ⟨⟨?_, ?_⟩, ⟨⟨Z, Qt.set s2 qd, by omega, hZ.setOther _ _ (show g7 ≠ gq by omega), by rw [← arr_set]; exact hqr.set s2 _, hdZ, hlZ, hdQ.set _ hq2, by simpa using hlQ, ?_, ?_⟩, ?_⟩, ?_⟩
        · rw [World.size_setCell]; exact hk.size
        · intro k o hBk ho _
          have hkl : k < W.heap.size := (Array.getElem?_eq_some_iff.1 ho).1
          have hks := Hs6.out
          rw [heap_setCell_other _ _ _ _ (show k ≠ gq by omega)]
          exact (hk.block k hkl (by omega)).trans ho
        · rw [hqd]; exact div_step hlR hlZ hlQ (by omega) (fun j hj => hsZ j (.inl hj)) hmZ hinv
        · rw [hmZ]; exact Nat.mod_lt _ HYpos.out
        · refine hf.move g7 Hne.out fun k hk' h7 hq' => ?_
          rw [heap_setCell_other _ _ _ _ hq']
          exact hk.block k hk' h7
        · have hb2 : Below w.heap.size W W2 := ⟨hk.os, hk.tape, hk.output, hk.size, fun k hk' => hk.block k (by have := hf.y.lt; show k < W.heap.size; omega) (by have := Hs41.out; omega)⟩
          exact (hB.trans hb2).setCell (p := ⟨gq, s2, none⟩) (Nat.le_of_lt h0g) _
    case done =>
      rintro D s W hD rfl ⟨⟨⟨R, Qt, -, hr, hq, hdR, hlR, hdQ, hlQ, hinv, hlt⟩, hf⟩, hB⟩ hK
      rw [Nat.pow_zero, Nat.mul_one, List.drop_zero, HXX.out, HDD.out] at hinv
      rw [List.drop_zero, HDD.out] at hlt
      have hfin := Lib.hid (div_done hinv hlt)
      have Hlt := Lib.hid hlt
      have hn65 : (n : Int) + 1 ≤ 65 := by omega
      have hn66 : (n : Int) ≤ 64 := by omega
      have hn67 : (0 : Int) ≤ (n : Int) + 1 := by omega
      have hn68 : ((n : Int) + 1).toNat = n + 1 := by omega
      clear hinv hlt hstart hF6 h76 hq6 hB6 Hb3' Hb6
      go_wp2_with fail
      refine (down_calls _ _ _ _).mono ?_
      rintro e w2 ⟨rfl, rfl⟩
      go_wp2_with fail
      obtain ⟨gc, hgc⟩ : ∃ gc, gc = W.heap.size := ⟨_, rfl⟩
      rw [← hgc]
      obtain ⟨W8, hW8⟩ : ∃ W8, W8 = (W.alloc (.cells #[.int .u32 0] 87)).alloc (.cells #[.slice (some ⟨g7, 0, none⟩) (n + 1) 65] 23) := ⟨_, rfl⟩
      rw [← hW8]
      have hs8 : W8.heap.size = gc + 2 := by rw [hW8, hgc]; simp
      have h8old : ∀ k, k < gc → W8.heap[k]? = W.heap[k]? := fun k hk => by rw [hW8]; rw [Below.heap_alloc _ _ _ (by simp; omega), Below.heap_alloc _ _ _ (by omega)]
      have h7c : g7 < gc := by rw [hgc]; exact hr.lt
      have hqc : gq < gc := by rw [hgc]; exact hq.lt
      have hDc : D < gc := by rw [hgc]; exact (Array.getElem?_eq_some_iff.1 hK).1
      have h0c : w.heap.size < gc := by omega
      have hB8 : Below w.heap.size w W8 := by rw [hW8]; exact (hB.alloc (by omega) _).alloc (by simp; omega) _
      have hF8 : BackFix w.heap.size W3.heap.size gq gc g7 D b n Qt W8 := by
        refine ⟨(h8old _ (by rw [hgc]; exact hf.q1.lt)).trans hf.q1, (h8old _ (by rw [hgc]; exact hf.q2.lt)).trans hf.q2, (h8old _ (by rw [hgc]; exact hf.by_.lt)).trans hf.by_, (h8old _ hqc).trans hq, ?_, (h8old _ hDc).trans hK⟩
        rw [hW8]
        have := Boxed.new (W.alloc (.cells #[.int .u32 0] 87)) 23 (.slice (some ⟨g7, 0, none⟩) (n + 1) 65)
        rw [World.size_alloc, ← hgc] at this
        exact this
      have h78' : RowAt W8 g7 89 (arr R) := (h8old _ h7c).trans hr
      have hc8 : Boxed W8 gc 87 (.int .u32 ((0 * 2 ^ (32 - b) : Nat) : Int)) := by rw [hW8, hgc, Nat.zero_mul]; exact (Boxed.new _ _ _).alloc _
      have h07 : w.heap.size < g7 := by have := Hs41.out; omega
      have h3c : W3.heap.size ≠ gc := by have := Hs3.out; have := hf.by_.lt; omega
      have HneB : Hid (∀ k, k = w.heap.size + 1 ∨ k = w.heap.size + 1 + 1 ∨ k = W3.heap.size ∨ k = gq ∨ k = gc + 1 ∨ k = D → k ≠ g7 ∧ k ≠ gc) := fun k hk => by
        have h41 := Hs41.out
        have h3' := Hs3.out
        have hs6' := Hs6.out
        omega
      have Hgc := Lib.hid hgc
      have HW8 := Lib.hid hW8
      have Hs8 := Lib.hid hs8
      clear hgc hW8 hs8 h8old
      have h2 : 1 ≤ 5 := by decide
      refine (wpIn_wide (n := 5)).1 ?_
      refine wpIn_rangeFunc_S (α := Nat × Nat) hro h2 (gf := 119) (lb := #[.pointer (some ⟨gc + 1, 0, none⟩)]) rfl trivial (enters_of Tryz.func119 (by kernel_rfl) rfl)
        (down1_seq 4 (by decide) (gc + 1) (some ⟨g7, 0, none⟩) (n + 1) 65 (by unfold maxLen; omega)) (fun _ => rfl)
        (fun s W => (BackSt g7 gc n b R s W ∧ BackFix w.heap.size W3.heap.size gq gc g7 D b n Qt W) ∧ Below w.heap.size w W)
        (fun _ _ => False)
        (OwnFrom.and (OwnFrom.and ((BackSt.own _ _ _ _ _).from _) (BackFix.own _ _ _ _ _ _ _ _ _ _ (by rw [Hs8.out]; omega))) (ownFrom_below (Nat.le_refl _) (by rw [Hs8.out]; omega)))
        (fun c => Own.from (fun _ A B row hs hg hr => hs) _)
        (fun s x => Own.from (fun _ A B row hs hg hr => by obtain ⟨b, off, e, h⟩ := hs; exact ⟨b, off, e, cell_kept h hg hr⟩) _)
        ?wk2 ⟨⟨⟨R, 0, Nat.le_refl _, h78', hdR, hlR, Nat.two_pow_pos b, hc8, fun j _ => rfl, ?z3⟩, hF8⟩, hB8⟩
        (fun x => { tmps := #[(.slice p n cap), (.slice (some ⟨by_, oy, none⟩) (m1 + 1) cap2), undef, (.pointer (some ⟨w.heap.size, 0, none⟩)), (.pointer (some ⟨w.heap.size + 1, 0, none⟩)), (.pointer (some ⟨w.heap.size + 1 + 1, 0, none⟩)), (.pointer (some ⟨W3.heap.size, 0, none⟩)), (.pointer (some ⟨g7, 0, none⟩)), (.pointer (some ⟨g8, 0, none⟩)), (.pointer (some ⟨gq, 0, none⟩)), (.int .i64 (pl : Int)), undef, (.pointer (some ⟨gc, 0, none⟩)), (.int .i64 (x.1 : Int)), (.int .u32 (x.2 : Int)), (.slice (some ⟨by_, oy, none⟩) (m1 + 1) cap2), (.slice (some ⟨by_, oy, none⟩) (m1 + 1) cap2), (.int .i64 ((m1 : Int) + 1)), (.int .i64 (m1 : Int)), (.pointer (some ⟨by_, oy + m1, none⟩)), (.int .u32 (yt : Int)), (.int .i64 (b : Int)), v22, v23, v24, v25, v26, v27, (.slice p n cap), (.int .i64 (n : Int)), (.slice (some ⟨by_, oy, none⟩) (m1 + 1) cap2), (.int .i64 ((m1 : Int) + 1)), (.int .i64 ((n : Int) - ((m1 : Int) + 1))), (.int .i64 ((n : Int) - ((m1 : Int) + 1) + 1)), (.int .i64 (pl : Int)), (.int .i64 (pl : Int)), (.slice (some ⟨gq, 0, none⟩) pl 65), (.func (.func 119) #[] #[.pointer (some ⟨gq + 1, 0, none⟩)]), undef, undef, undef, undef, undef, undef, undef, undef, undef, undef, undef, undef, undef, undef, undef, (.slice p n cap), (.int .i64 (n : Int)), (.int .i64 ((n : Int) + 1)), (.slice (some ⟨g7, 0, none⟩) (n + 1) 65), (.func (.func 119) #[] #[.pointer (some ⟨gc + 1, 0, none⟩)]), (.int .i64 (x.1 : Int)), (.int .u32 (x.2 : Int)), undef, undef, undef, undef, undef, undef, undef, undef, undef, undef, undef, undef, undef], defers := [] }) ?assign2 ?body2 ?done2 ?stop2
      case z3 =>
        have hz : val R < B32 ^ (n + 1) := by
          rw [hfin.out.2]
          have h1 : val xs % val ys ≤ val xs := Nat.mod_le _ _
          have h2 : 2 ^ b ≤ B32 := Nat.pow_le_pow_right (n := 2) (by decide) (by omega : b ≤ 32)
          calc val xs % val ys * 2 ^ b ≤ val xs * B32 := Nat.mul_le_mul h1 h2
            _ < B32 ^ n * B32 := Nat.mul_lt_mul_of_pos_right Hxlt.out B32_pos
            _ = B32 ^ (n + 1) := (Nat.pow_succ ..).symm
        rw [drop_zero_of_lt hz, Nat.mul_zero]
      case wk2 =>
        rintro s W' ⟨⟨⟨V, t, hs, hr', hdV, hlV, _⟩, hf'⟩, hB'⟩
        refine ⟨hs, hf'.it.cell, fun k hk => ⟨g7, 0, V[k]?.getD 0, rfl, ?_⟩⟩
        rw [Nat.zero_add]
        exact (hr'.cell k).trans (arr_get _ k (by omega))
      case assign2 =>
        intro l x W K hK
        gi_wp2
        exact hK
      case body2 =>
        rintro l s ⟨k, d⟩ s2 W' ⟨⟨⟨V, t, hs, hr', hdV, hlV, htb, hc', hsame, hval⟩, hf'⟩, hB'⟩ ⟨h1, h2⟩ ⟨b', off, e, hcell⟩
        dsimp only at h1 h2 hcell ⊢
        subst h2; subst h1
        cases e
        rw [Nat.zero_add] at hcell
        have hs2 : s2 < n + 1 := hs
        have hd : d = V[s2]?.getD 0 := by
          have := (hr'.cell s2).trans (arr_get _ s2 (by omega))
          rw [hcell] at this; exact u32_inj this
        obtain ⟨c, hc⟩ : ∃ c, c = t * 2 ^ (32 - b) := ⟨_, rfl⟩
        rw [← hc] at hc'
        have hcb := (show Boxed W'.drew W3.heap.size 3 (.int .i64 (b : Int)) from hf'.by_).cell
        have hcc := (show Boxed W'.drew gc 87 (.int .u32 (c : Int)) from hc').cell
        have hcc0 := hc'.frozen
        have hcr : W'.drew.cell? ⟨g7, s2, none⟩ = some (.int .u32 (d : Int)) := hcell
        have hfr : W'.drew.frozen? ⟨g7, s2, none⟩ = false := (show RowAt W'.drew g7 89 (arr V) from hr').frozen s2
        have hk65 : (s2 : Int) < 65 := by omega
        have Hval := Lib.hid hval
        have Hsame := Lib.hid hsame
        have Hc2 := Lib.hid hc
        have Hd := Lib.hid hd
        have Hr' := Lib.hid hr'
        have Hc' := Lib.hid hc'
        have Hf' := Lib.hid hf'
        have HB' := Lib.hid hB'
        clear hval hsame hc hd hr' hc' hf' hB' hcell hr hq hf hB hK h78' hc8 hF8 hB8
        gi_wp2
        obtain ⟨W9, hW9⟩ : ∃ W9 : World, W9 = (W'.setCell ⟨g7, s2, none⟩ (.int .u32 (bits .or .u32 ((d : Int) / 2 ^ b) (c : Int)))).drew := ⟨_, rfl⟩
        refine Code.wpIn_mono (Q := fun e a w' => e = .normal ∧ ∃ u60 u61 u62 u63 u64 u65 u66 : Value, a = { tmps := #[(.slice p n cap), (.slice (some ⟨by_, oy, none⟩) (m1 + 1) cap2), undef, (.pointer (some ⟨w.heap.size, 0, none⟩)), (.pointer (some ⟨w.heap.size + 1, 0, none⟩)), (.pointer (some ⟨w.heap.size + 1 + 1, 0, none⟩)), (.pointer (some ⟨W3.heap.size, 0, none⟩)), (.pointer (some ⟨g7, 0, none⟩)), (.pointer (some ⟨g8, 0, none⟩)), (.pointer (some ⟨gq, 0, none⟩)), (.int .i64 (pl : Int)), undef, (.pointer (some ⟨gc, 0, none⟩)), (.int .i64 (s2 : Int)), (.int .u32 (d : Int)), (.slice (some ⟨by_, oy, none⟩) (m1 + 1) cap2), (.slice (some ⟨by_, oy, none⟩) (m1 + 1) cap2), (.int .i64 ((m1 : Int) + 1)), (.int .i64 (m1 : Int)), (.pointer (some ⟨by_, oy + m1, none⟩)), (.int .u32 (yt : Int)), (.int .i64 (b : Int)), v22, v23, v24, v25, v26, v27, (.slice p n cap), (.int .i64 (n : Int)), (.slice (some ⟨by_, oy, none⟩) (m1 + 1) cap2), (.int .i64 ((m1 : Int) + 1)), (.int .i64 ((n : Int) - ((m1 : Int) + 1))), (.int .i64 ((n : Int) - ((m1 : Int) + 1) + 1)), (.int .i64 (pl : Int)), (.int .i64 (pl : Int)), (.slice (some ⟨gq, 0, none⟩) pl 65), (.func (.func 119) #[] #[.pointer (some ⟨gq + 1, 0, none⟩)]), undef, undef, undef, undef, undef, undef, undef, undef, undef, undef, undef, undef, undef, undef, undef, (.slice p n cap), (.int .i64 (n : Int)), (.int .i64 ((n : Int) + 1)), (.slice (some ⟨g7, 0, none⟩) (n + 1) 65), (.func (.func 119) #[] #[.pointer (some ⟨gc + 1, 0, none⟩)]), (.int .i64 (s2 : Int)), (.int .u32 (d : Int)), u60, u61, u62, u63, u64, u65, u66, undef, undef, undef, undef, undef, undef], defers := [] } ∧ w' = W9) ?imp ?reg
        case reg =>
          gi_region
          all_goals exact ⟨rfl, _, _, _, _, _, _, _, rfl, hW9.symm⟩
        case imp =>
          rintro e a Wy ⟨rfl, u60, u61, u62, u63, u64, u65, u66, rfl, rfl⟩
          have hby9 : Boxed Wy W3.heap.size 3 (.int .i64 (b : Int)) := by rw [hW9]; exact (RowAt.setOther (RowAt.ofBoxed Hf'.out.by_) ⟨g7, s2, none⟩ _ (Hne.out _ (by simp)).1).boxed
          have hc9 : Boxed Wy gc 87 (.int .u32 (c : Int)) := by rw [hW9]; exact (RowAt.setOther (RowAt.ofBoxed Hc'.out) ⟨g7, s2, none⟩ _ (show gc ≠ g7 by omega)).boxed
          have hcb9 := hby9.cell
          have hcc9 := hc9.cell
          have hcf9 := hc9.frozen
          have HW9 := Lib.hid hW9
          have h32 : IntKind.i64.wrap (32 - (b : Int)) = 32 - (b : Int) := by rw [IntKind.wrap_i64]; omega
          clear hcb hcc hcc0 hcr hfr hW9
          gi_wp2
          have hdlt : d < B32 := by rw [Hd.out]; exact hdV.getD s2
          rw [back_carry hb31 d]
          rw [HW9.out]
          rw [Hc2.out, back_or hb31 hdlt htb]
          have hne2 : ∀ k, k = w.heap.size + 1 ∨ k = w.heap.size + 1 + 1 ∨ k = W3.heap.size ∨ k = gq ∨ k = gc + 1 ∨ k = D → k ≠ g7 ∧ k ≠ gc := HneB.out
          have hoth : ∀ k, k ≠ g7 → k ≠ gc → ((W'.setCell ⟨g7, s2, none⟩ (.int .u32 ((d / 2 ^ b + t * 2 ^ (32 - b) : Nat) : Int))).drew.setCell ⟨gc, 0, none⟩ (.int .u32 ((d % 2 ^ b * 2 ^ (32 - b) : Nat) : Int))).heap[k]? = W'.heap[k]? := fun k h7 hg => by
            rw [heap_setCell_other _ _ _ _ hg]
            exact heap_setCell_other W' ⟨g7, s2, none⟩ k _ h7
          show KeepsFrom _ _ _ ∧ _
          refine ⟨⟨?_, ?_⟩, ⟨⟨V.set s2 (d / 2 ^ b + t * 2 ^ (32 - b)), d % 2 ^ b, by omega, ?_, hdV.set _ (back_digit hb31 hdlt htb), by simpa using hlV, Nat.mod_lt _ (Nat.two_pow_pos b), ?_, ?_, ?_⟩, ?_⟩, ?_⟩
          · rw [World.size_setCell]; show _ ≤ (W'.setCell _ _).heap.size; rw [World.size_setCell]; exact Nat.le_refl _
          · intro k o hBk ho _
            have hks := Hs8.out
            rw [hoth k (by omega) (by omega)]; exact ho
          · rw [← arr_set]; exact RowAt.setOther (Hr'.out.set s2 _).drew _ _ (show g7 ≠ gc by omega)
          · exact Boxed.set _ (RowAt.drew (RowAt.setOther (RowAt.ofBoxed Hc'.out) ⟨g7, s2, none⟩ _ (show gc ≠ g7 by omega))).boxed
          · intro j hj
            rw [List.getElem?_set_ne (by omega)]
            exact Hsame.out j (by omega)
          · exact back_val hb31 hlV hlR (by omega) (Hsame.out s2 (by omega)) Hd.out Hval.out
          · exact Hf'.out.move hne2 fun k _ h7 hg => hoth k h7 hg
          · exact ((HB'.out.setCell (p := ⟨g7, s2, none⟩) (show w.heap.size ≤ g7 by omega) _).drew).setCell (p := ⟨gc, 0, none⟩) (Nat.le_of_lt h0c) _
      case done2 =>
        rintro D2 s W' hD2 rfl ⟨⟨⟨V, t, -, hr', hdV, hlV, htb, hc', -, hval⟩, hf'⟩, hB'⟩ hK2
        rw [List.drop_zero, List.drop_zero, hfin.out.2] at hval
        have HV : Hid (val V = val xs % val ys) := back_done hval htb
        have hs8' := Hs8.out
        have hnd : ∀ k, k = gq ∨ k = g7 ∨ k = D ∨ k = D2 → k ≠ w.heap.size + 1 ∧ k ≠ w.heap.size + 1 + 1 := fun k hk => by
          have h41 := Hs41.out
          have hs6' := Hs6.out
          omega
        have hDD2 : D ≠ D2 := by omega
        have hDB : w.heap.size ≤ D := by have hs6' := Hs6.out; omega
        have hDB2 : w.heap.size ≤ D2 := by omega
        clear hs8'
        go_wp2_with fail
        refine wp_region_inv (fun Dn a Wz => ∃ v71 v72 : Value, a = { tmps := #[(.slice p n cap), (.slice (some ⟨by_, oy, none⟩) (m1 + 1) cap2), undef, (.pointer (some ⟨w.heap.size, 0, none⟩)), (.pointer (some ⟨w.heap.size + 1, 0, none⟩)), (.pointer (some ⟨w.heap.size + 1 + 1, 0, none⟩)), (.pointer (some ⟨W3.heap.size, 0, none⟩)), (.pointer (some ⟨g7, 0, none⟩)), (.pointer (some ⟨g8, 0, none⟩)), (.pointer (some ⟨gq, 0, none⟩)), (.int .i64 (pl : Int)), undef, (.pointer (some ⟨gc, 0, none⟩)), undef, undef, (.slice (some ⟨by_, oy, none⟩) (m1 + 1) cap2), (.slice (some ⟨by_, oy, none⟩) (m1 + 1) cap2), (.int .i64 ((m1 : Int) + 1)), (.int .i64 (m1 : Int)), (.pointer (some ⟨by_, oy + m1, none⟩)), (.int .u32 (yt : Int)), (.int .i64 (b : Int)), v22, v23, v24, v25, v26, v27, (.slice p n cap), (.int .i64 (n : Int)), (.slice (some ⟨by_, oy, none⟩) (m1 + 1) cap2), (.int .i64 ((m1 : Int) + 1)), (.int .i64 ((n : Int) - ((m1 : Int) + 1))), (.int .i64 ((n : Int) - ((m1 : Int) + 1) + 1)), (.int .i64 (pl : Int)), (.int .i64 (pl : Int)), (.slice (some ⟨gq, 0, none⟩) pl 65), (.func (.func 119) #[] #[.pointer (some ⟨gq + 1, 0, none⟩)]), undef, undef, undef, undef, undef, undef, undef, undef, undef, undef, undef, undef, undef, undef, undef, (.slice p n cap), (.int .i64 (n : Int)), (.int .i64 ((n : Int) + 1)), (.slice (some ⟨g7, 0, none⟩) (n + 1) 65), (.func (.func 119) #[] #[.pointer (some ⟨gc + 1, 0, none⟩)]), undef, undef, undef, undef, undef, undef, undef, undef, undef, undef, undef, undef, undef, v71, v72], defers := [{ target := .collected D2, args := #[] }, { target := .collected D, args := #[] }] } ∧ (Dn 0 → v71 = .agg (arr Qt)) ∧ (Dn 1 → v72 = .agg (arr V)) ∧ RowAt Wz gq 89 (arr Qt) ∧ RowAt Wz g7 89 (arr V) ∧ Wz.heap[D]? = some (.deferred (some [])) ∧ Wz.heap[D2]? = some (.deferred (some [])) ∧ (∃ c4 : Array Value, c4.size = 65 ∧ RowAt Wz (w.heap.size + 1) 89 c4 ∧ (Dn 2 → c4 = arr Qt)) ∧ (∃ c5 : Array Value, c5.size = 65 ∧ RowAt Wz (w.heap.size + 1 + 1) 89 c5 ∧ (Dn 3 → c5 = arr V)) ∧ Below w.heap.size w Wz) rfl (by kernel_rfl) ?start3 ?step3 ?fin3
        case start3 => exact ⟨undef, undef, rfl, False.elim, False.elim, hf'.q, hr', hf'.d, hK2, ⟨_, by kernel_rfl, hf'.q1, False.elim⟩, ⟨_, by kernel_rfl, hf'.q2, False.elim⟩, hB'.drew⟩
        case step3 =>
          rintro i o Dn a Wz hio hn he ⟨v71, v72, rfl, e0, e1, hzq, hz7, hzD, hzD2, ⟨c4, hl4, hz4, e4⟩, ⟨c5, hl5, hz5, e5⟩, hBz⟩
          rcases i with _ | _ | _ | _ | i
          rotate_left 4
          · exact absurd hio (by simp)
          all_goals (obtain rfl := Option.some.inj (hio.symm.trans (by rfl)))
          · exact wp_of_run (run_load_row (.tmp 9) rfl gq rfl Qt hlQ _ hzq) ⟨_, _, rfl, fun _ => rfl, by simpa using e1, hzq, hz7, hzD, hzD2, ⟨c4, hl4, hz4, by simpa using e4⟩, ⟨c5, hl5, hz5, by simpa using e5⟩, hBz⟩
          · exact wp_of_run (run_load_row (.tmp 7) rfl g7 rfl V hlV _ hz7) ⟨_, _, rfl, by simpa using e0, fun _ => rfl, hzq, hz7, hzD, hzD2, ⟨c4, hl4, hz4, by simpa using e4⟩, ⟨c5, hl5, hz5, by simpa using e5⟩, hBz⟩
          · obtain rfl := e0 (he ⟨0, .data⟩ (by simp) rfl)
            refine wp_store_row 89 (.tmp 4) (.tmp 71) rfl (w.heap.size + 1) _ rfl rfl 89 c4 hz4 (by rw [row_info, arr_size, hlQ]) (by rw [arr_size, hlQ, hl4]) (arr_one _) ?_
            exact ⟨_, _, rfl, fun _ => rfl, by simpa using e1, hzq.setRowOther _ (hnd _ (by simp)).1, hz7.setRowOther _ (hnd _ (by simp)).1, (setRow_other _ _ _ _ (hnd D (by simp)).1).trans hzD, (setRow_other _ _ _ _ (hnd D2 (by simp)).1).trans hzD2, ⟨_, by rw [arr_size, hlQ], hz4.setRow _, fun _ => rfl⟩, ⟨c5, hl5, hz5.setRowOther _ (by omega), by simpa using e5⟩, below_setRow2 hBz (by omega) _⟩
          · obtain rfl := e1 (he ⟨1, .data⟩ (by simp) rfl)
            refine wp_store_row 89 (.tmp 5) (.tmp 72) rfl (w.heap.size + 1 + 1) _ rfl rfl 89 c5 hz5 (by rw [row_info, arr_size, hlV]) (by rw [arr_size, hlV, hl5]) (arr_one _) ?_
            exact ⟨_, _, rfl, by simpa using e0, fun _ => rfl, hzq.setRowOther _ (hnd _ (by simp)).2, hz7.setRowOther _ (hnd _ (by simp)).2, (setRow_other _ _ _ _ (hnd D (by simp)).2).trans hzD, (setRow_other _ _ _ _ (hnd D2 (by simp)).2).trans hzD2, ⟨c4, hl4, hz4.setRowOther _ (by omega), by simpa using e4⟩, ⟨_, by rw [arr_size, hlV], hz5.setRow _, fun _ => rfl⟩, below_setRow2 hBz (by omega) _⟩
        case fin3 =>
          rintro Dn a Wz hDn ⟨v71, v72, rfl, e0, e1, hzq, hz7, hzD, hzD2, ⟨c4, hl4, hz4, e4⟩, ⟨c5, hl5, hz5, e5⟩, hBz⟩
          obtain rfl := e4 (hDn 2 (by simp))
          obtain rfl := e5 (hDn 3 (by simp))
          clear hzq hz7 hr' hc' hf' hB' hK2 hval e0 e1 e4 e5
          go_wp2_with fail
          have hE : (Wz.putObj D2 (.deferred none)).heap[D]? = some (.deferred (some [])) := (World.putObj_heap_other hDD2).trans hzD
          have hkp : ∀ k, k ≠ D → k ≠ D2 → ((Wz.putObj D2 (.deferred none)).putObj D (.deferred none)).heap[k]? = Wz.heap[k]? := fun k h1 h2 => (World.putObj_heap_other h1).trans (World.putObj_heap_other h2)
          have hD1 := hnd D (by simp)
          have hD3 := hnd D2 (by simp)
          refine endM2 hzD2 hE (results_two_rows rfl _ _ (w.heap.size + 1) (w.heap.size + 1 + 1) 89 89 Qt V hlQ hlV rfl rfl ((hkp _ (Ne.symm hD1.1) (Ne.symm hD3.1)).trans hz4) ((hkp _ (Ne.symm hD1.2) (Ne.symm hD3.2)).trans hz5)) ?_
          exact ⟨Qt, V, rfl, hlQ, hlV, hdQ, hdV, hfin.out.1, HV.out, (hBz.trans (belowK_b (w := w) (Nat.le_refl _) Wz D2 _ _ hDB2 hzD2 rfl rfl)).trans (belowK_b (w := w) (Nat.le_refl _) _ D _ _ hDB hE rfl rfl)⟩
      case stop2 => exact fun D c W hD h => h.elim
    case stop => exact fun D c W hD h => h.elim
end Go.Proofs.YtegjcikofmphjaaGreatDoor

