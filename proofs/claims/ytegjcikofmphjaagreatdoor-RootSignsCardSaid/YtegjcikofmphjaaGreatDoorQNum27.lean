/- Texts that belong together. -/
import Derived.Test.YtegjcikofmphjaaGreatDoorQDivMath
import Derived.Test.YtegjcikofmphjaaGreatDoorQZs
import Derived.Deep.Cut
set_option linter.all false
/- Layer 1: Div. -/
namespace Go.Proofs.YtegjcikofmphjaaGreatDoor
open Go Go.RowKit Go.Shelf
attribute [local go_sem] Oper.semAt_some
theorem U32N.move {lo lo' B B' : Nat} {w w' : World} {p : Option Addr} {n c : Nat} {ds : List Nat} (h : U32N lo B w (.slice p n c) ds) (hl : lo' ≤ lo) (hB : B ≤ B')
    (hw : ∀ b off, p = some ⟨b, off, none⟩ → 0 < ds.length → lo ≤ b → b < B → w'.heap[b]? = w.heap[b]?) : U32N lo' B' w' (.slice p n c) ds := by
  obtain ⟨p', c', e, hm, hc⟩ := h
  cases e
  refine ⟨_, _, rfl, hm, fun h0 => ?_⟩
  obtain ⟨b, off, rfl, h1, h2, h3⟩ := hc h0
  exact ⟨b, off, rfl, Nat.le_trans hl h1, Nat.lt_of_lt_of_le h2 hB, fun j hj => (World.cell?_of_block (hw b off rfl h0 h1 h2)).trans (h3 j hj)⟩
theorem U32N.block {lo B : Nat} {w : World} {p : Option Addr} {n c : Nat} {ds : List Nat} (h : U32N lo B w (.slice p n c) ds) {b off : Nat} (hp : p = some ⟨b, off, none⟩) (h0 : 0 < ds.length) : lo ≤ b ∧ b < B := by
  obtain ⟨p', c', e, hm, hc⟩ := h
  cases e
  obtain ⟨b', off', e, h1, h2, -⟩ := hc h0
  rw [hp] at e
  cases e
  exact ⟨h1, h2⟩
theorem res_ok {neg : Bool} {n : Nat} {z : Int} (hz : z.natAbs = n) (h : n ≠ 0 → neg = decide (z < 0)) (hl : z.natAbs < B32 ^ 64) : resNeg neg (digs n) = decide (z < 0) ∧ resDs (digs n) = digs z.natAbs ∧ resOk (digs n) = true := by
  have hr := res_of neg n z hz h
  unfold zneg zdigs zok at hr
  rw [if_pos hl, if_pos hl] at hr
  exact ⟨hr.1, hr.2.1, by rw [hr.2.2]; simp [hl]⟩
theorem div_lim {a b : Int} (ha : a.natAbs < B32 ^ 64) (hb : b.natAbs < B32 ^ 64) (h : 0 < b) : (a / b).natAbs < B32 ^ 64 ∧ (a % b).natAbs < B32 ^ 64 ∧ ((a / b).natAbs ≠ 0 → decide (a < 0) = decide (a / b < 0)) := by
  refine ⟨Nat.lt_of_le_of_lt (Int.natAbs_ediv_le_natAbs a b) ha, ?_, fun h0 => ?_⟩
  · have h1 := Int.emod_nonneg a (by omega : b ≠ 0)
    have h2 := Int.emod_lt_of_pos a h
    omega
  · by_cases hneg : a < 0
    · have := Int.ediv_neg_of_neg_of_pos hneg h
      simp [hneg, this]
    · have := Int.ediv_nonneg (by omega : 0 ≤ a) (by omega : 0 ≤ b)
      simp [hneg]; omega
theorem one_digits : Digits [1] := fun d hd => by simp at hd; subst hd; decide
theorem take_val_lt {Q : List Nat} {n k : Nat} (h : val Q < B32 ^ n) : val (Q.take n) = val Q := val_take_of_zero fun j hj => digit_zero_above (s := 0) (k := n) (by simpa using h) (by omega)
theorem div_adjust {Q R : List Nat} {x y n m : Nat} (hn : (digs x).length = n) (hm : (digs y).length = m) (hn64 : n ≤ 64) (hm64 : m ≤ 64) (hQl : Q.length = 65) (hRl : R.length = 65) (hQd : Digits Q) (hRd : Digits R) (hQ : val Q = x / y) (hR : val R = x % y) (hy : 0 < y) (h : x % y ≠ 0) :
    val ((sumRow (Q.take n) [1]).take n) = x / y + 1 ∧ val ((combRow subLo subHi (digs y) (R.take m)).take m) = y - x % y := by
  have hx0 : x ≠ 0 := fun e => by subst e; simp at h
  have hn1 : 1 ≤ n := by
    rcases Nat.eq_zero_or_pos n with e | e
    · rw [e, List.length_eq_zero_iff, digs_nil_iff] at hn; exact absurd hn hx0
    · exact e
  have hxn : x < B32 ^ n := digs_len.1 (by omega)
  have hym : y < B32 ^ m := digs_len.1 (by omega)
  have hle := quo_succ_le hy h
  have hQn : val (Q.take n) = x / y := by rw [take_val_lt (k := 0) (by rw [hQ]; omega), hQ]
  have hRm : val (R.take m) = x % y := by rw [take_val_lt (k := 0) (by rw [hR]; have := Nat.mod_lt x hy; omega), hR]
  have hlen : (Q.take n).length = n := by simp; omega
  constructor
  · have h1 := sum_val (Q.take n) [1] (by rw [hlen]; exact hn64) (by simp)
    rw [hlen, hQn, show max n [1].length = n by simp; omega, show val [1] = 1 from rfl] at h1
    have h2 := drop_zero_of_lt (R := (sumRow (Q.take n) [1]).take (n + 1)) (k := n) (by rw [h1]; omega)
    have h3 := val_take_drop ((sumRow (Q.take n) [1]).take (n + 1)) (s := n) (by simp [sumRow_length]; omega)
    rw [h2, h1, List.take_take, Nat.min_eq_left (by omega)] at h3
    omega
  · have h1 := dif_val (digs_digits y) (hRd.take m) (by simp; omega) (by omega) (by rw [hRm, val_digs]; have := Nat.mod_lt x hy; omega)
    rw [hm, val_digs, hRm] at h1
    exact h1
structure Dm (w : World) (b0 g7 : Nat) (na : Bool) (p : Option Addr) (n c : Nat) (q : Option Addr) (m c2 : Nat) (zq zr : Int) (Q R : List Nat) (W : World) : Prop where
  df : Df b0 na false p n c q m c2 W
  r7 : RowAt W g7 89 (arr Q)
  r8 : RowAt W (g7 + 1) 89 (arr R)
  lQ : Q.length = 65
  lR : R.length = 65
  dQ : Digits Q
  dR : Digits R
  vQ : val (Q.take n) = zq.natAbs
  vR : val (R.take m) = zr.natAbs
  below : Below w.heap.size w W
theorem ret_num2 {fn : Func} {R : Ending → World → Prop} {tmps : Array Value} {w : World} {r s u : Tmp} (hres : fn.results = #[.cell r 25, .cell s 25, .tmp u]) (g : Nat) (hp : tmps.getD r undef = .pointer (some ⟨g, 0, none⟩)) (k : Nat) (hk : tmps.getD s undef = .pointer (some ⟨k, 0, none⟩)) (ok : Bool) (hu : tmps.getD u undef = .bool ok)
    (n1 : Bool) (p1 : Option Addr) (l1 c1 : Nat) (n2 : Bool) (p2 : Option Addr) (l2 c2 : Nat) (t1 t2 : TypeId) (hg : RowAt w g t1 (numCells n1 p1 l1 c1)) (hg2 : RowAt w k t2 (numCells n2 p2 l2 c2)) (hR : R (.returned (.tuple #[.agg #[.bool n1, .slice p1 l1 c1], .agg #[.bool n2, .slice p2 l2 c2], .bool ok])) w) : bodyPost Tryz.prog fn R .ret { tmps, defers := [] } w := by
  refine bodyPost_ret (v := .tuple #[.agg #[.bool n1, .slice p1 l1 c1], .agg #[.bool n2, .slice p2 l2 c2], .bool ok]) ?_ rfl hR
  have hp' : tmps[r]?.getD undef = .pointer (some ⟨g, 0, none⟩) := by simpa using hp
  have hq' : tmps[s]?.getD undef = .pointer (some ⟨k, 0, none⟩) := by simpa using hk
  have hu' : tmps[u]?.getD undef = .bool ok := by simpa using hu
  have h1 := run_loadVar_row (P := Tryz.prog) w g t1 25 (numCells n1 p1 l1 c1) (0, 0) _ hg Tryz.underlying25 rfl num_info
  have h2 := run_loadVar_row (P := Tryz.prog) w k t2 25 (numCells n2 p2 l2 c2) (0, 0) _ hg2 Tryz.underlying25 rfl num_info
  simp [results, hres, hp', hq', hu', asAddr, h1, h2, numCells]
set_option maxRecDepth 100000 in
set_option maxHeartbeats 4000000 in
theorem div_ok (va vb : Value) (za zb : Int) (w : World) (ha : ZNum w.heap.size w va za) (hb : ZNum w.heap.size w vb zb) (h : 0 < zb) :
    Calls Tryz.prog 68 #[va, vb] w (DivPost w (za / zb) (za % zb) true) := by
  obtain ⟨p, c, rfl⟩ := ha.parts
  obtain ⟨q, c2, rfl⟩ := hb.parts
  generalize hna : decide (za < 0) = na at *
  generalize hnb : decide (zb < 0) = nb at *
  generalize hn : (digs za.natAbs).length = n at *
  generalize hm : (digs zb.natAbs).length = m at *
  obtain ⟨W4, hW4⟩ : ∃ W4, W4 = (((w.alloc (.cells #[.bool na, .slice p n c] 25)).alloc (.cells #[.bool nb, .slice q m c2] 25)).alloc (.cells #[.bool false, .slice none 0 0] 25)).alloc (.cells #[.bool false, .slice none 0 0] 25) := ⟨_, rfl⟩
  have HB4 : Hid (Below w.heap.size w W4) := by rw [hW4]; exact ((((Below.refl _ w).alloc (Nat.le_refl _) _).alloc (by simp) _).alloc (by simp; omega) _).alloc (by simp; omega) _
  have Hz4 : Hid (W4.heap.size = w.heap.size + 4) := by show W4.heap.size = _; rw [hW4]; simp
  have HD4 : Hid (Df w.heap.size na nb p n c q m c2 W4) := by
    rw [hW4]
    exact ⟨(((RowAt.new w _ _).alloc _).alloc _).alloc _, ((RowAt.new' _ _ (by simp)).alloc _).alloc _, (RowAt.new' _ _ (by simp)).alloc _, RowAt.new' _ _ (by simp)⟩
  have HA := Lib.hid ((ha.below HB4.out).mono (by rw [Hz4.out]; omega : w.heap.size ≤ W4.heap.size))
  have HBn := Lib.hid ((hb.below HB4.out).mono (by rw [Hz4.out]; omega : w.heap.size ≤ W4.heap.size))
  have HbU : Hid (U32s w.heap.size w (.slice q m c2) (digs zb.natAbs)) := znum_slice hb
  have HW4 := Lib.hid hW4
  have Hna := Lib.hid hna
  have Hnb := Lib.hid hnb
  have Hn := Lib.hid hn
  have Hm := Lib.hid hm
  clear hW4 ha hb hna hnb hn hm
  go_enter Tryz.func68, Tryz.ntmps68
  go_wp2_with fail
  rw [← HW4.out]
  refine (right_calls_z _ za W4 HA.out).mono ?_
  rintro e w1 ⟨rfl, hb1⟩
  have HD1 := Lib.hid (HD4.out.below hb1)
  have HA1 := Lib.hid ((HA.out.below hb1).mono hb1.size)
  have HBn1 := Lib.hid ((HBn.out.below hb1).mono hb1.size)
  have HB1 := Lib.hid (HB4.out.trans (hb1.mono (by rw [Hz4.out]; omega : w.heap.size ≤ W4.heap.size)))
  have hz1 : w.heap.size + 4 ≤ w1.heap.size := by rw [← Hz4.out]; exact hb1.size
  have h10 := HD1.out.rb.num0
  have h11 := HD1.out.rb.num1
  clear hb1
  go_wp2_with fail
  refine (right_calls_z _ zb w1 HBn1.out).mono ?_
  rintro e w2 ⟨rfl, hb2⟩
  have HD2 := Lib.hid (HD1.out.below hb2)
  have HA2 := Lib.hid ((HA1.out.below hb2).mono hb2.size)
  have HBn2 := Lib.hid ((HBn1.out.below hb2).mono hb2.size)
  have HB2 := Lib.hid (HB1.out.trans (hb2.mono (by omega : w.heap.size ≤ w1.heap.size)))
  have hz2 : w.heap.size + 4 ≤ w2.heap.size := Nat.le_trans hz1 hb2.size
  have h20 := HD2.out.rb.num0
  have h21 := HD2.out.rb.num1
  have h22 := HD2.out.ra.num0
  have h23 := HD2.out.ra.num1
  clear hb2 h10 h11 hz1
  obtain rfl : nb = false := by rw [← Hnb.out]; simp; omega
  have hm0 : m ≠ 0 := fun e => by
    have h1 := Hm.out
    rw [e, List.length_eq_zero_iff, digs_nil_iff] at h1
    omega
  have hm1 : ((m : Int) == 0) = false := by simp; omega
  have hua2 : U32s w2.heap.size w2 (.slice p n c) (digs za.natAbs) := by
    obtain ⟨⟨s, e, hu⟩, -⟩ := HA2.out; cases e; exact hu
  have hub2 : U32s w2.heap.size w2 (.slice q m c2) (digs zb.natAbs) := znum_slice HBn2.out
  have hn64 : n ≤ 64 := by rw [← Hn.out]; exact digs_len64 HA2.out.2
  have hm64 : m ≤ 64 := by rw [← Hm.out]; exact digs_len64 HBn2.out.2
  have Hdv := Lib.hid (divide_calls _ _ _ _ w2 hua2 hub2 (digs_digits _) (digs_digits _) (digs_len64 HA2.out.2) (digs_len64 HBn2.out.2) (m - 1) (by rw [Hm.out]; omega) (by rw [← Hm.out]; exact (noZero_last (by rw [Hm.out]; omega)).1 (norm_digs _).2))
  have Hlim : Hid ((za / zb).natAbs < B32 ^ 64 ∧ (za % zb).natAbs < B32 ^ 64 ∧ ((za / zb).natAbs ≠ 0 → decide (za < 0) = decide (za / zb < 0))) := div_lim HA2.out.2 HBn2.out.2 h
  have Hub2 := Lib.hid hub2
  clear hua2 hub2
  go_wp2_with fail
  refine Hdv.out.mono ?_
  rintro e w3 ⟨Q, R, rfl, hQl, hRl, hQd, hRd, hQv, hRv, hb3⟩
  rw [val_digs, val_digs] at hQv hRv
  have hz3 : w.heap.size + 4 ≤ w3.heap.size := Nat.le_trans hz2 hb3.size
  obtain ⟨W6, hW6⟩ : ∃ W6, W6 = (((w3.alloc (.cells Tryz.zeroCells89 89)).alloc (.cells Tryz.zeroCells89 89)).setRow w3.heap.size (arr Q)).setRow (w3.heap.size + 1) (arr R) := ⟨_, rfl⟩
  have HD6 : Hid (Df w.heap.size na false p n c q m c2 W6) := by rw [hW6]; exact ((((HD2.out.below hb3).alloc _).alloc _).set (by omega) _).set (by omega) _
  have Hz6 : Hid (W6.heap.size = w3.heap.size + 2) := by show W6.heap.size = _; rw [hW6]; simp
  have HB6 : Hid (Below w.heap.size w W6) := by rw [hW6]; exact below_setRow2 (below_setRow2 (((HB2.out.trans (hb3.mono (by omega))).alloc (by omega) _).alloc (by simp; omega) _) (by omega) _) (by omega) _
  have H67 : Hid (RowAt W6 w3.heap.size 89 (arr Q)) := by rw [hW6]; exact (((RowAt.new w3 _ _).alloc _).setRow _).setRowOther _ (by omega)
  have H68 : Hid (RowAt W6 (w3.heap.size + 1) 89 (arr R)) := by rw [hW6]; exact ((RowAt.new' (W := w3.alloc _) 89 Tryz.zeroCells89 (by simp)).setRowOther _ (by omega)).setRow _
  have Hub6 : Hid (U32s W6.heap.size W6 (.slice q m c2) (digs zb.natAbs)) := by
    have hb6 : Below w2.heap.size w2 W6 := by rw [hW6]; exact below_setRow2 (below_setRow2 ((hb3.alloc hb3.size _).alloc (by simp; exact Nat.le_succ_of_le hb3.size) _) hb3.size _) (Nat.le_succ_of_le hb3.size) _
    exact (Hub2.out.below hb6).mono hb6.size
  have Hnew7 := Lib.hid ((RowAt.new w3 89 Tryz.zeroCells89).alloc (.cells Tryz.zeroCells89 89))
  have Hnew8 := Lib.hid ((RowAt.new' (W := w3.alloc (.cells Tryz.zeroCells89 89)) (g := w3.heap.size + 1) 89 Tryz.zeroCells89 (by simp)).setRowOther (k := w3.heap.size) (arr Q) (by omega))
  have HQR := Lib.hid (And.intro (And.intro hQl hRl) (And.intro (And.intro hQd hRd) (And.intro hQv hRv)))
  have HW6 := Lib.hid hW6
  have h60 := HD6.out.ra.num0
  have h61 := HD6.out.ra.num1
  have h62 := HD6.out.rb.num1
  have hm65 : (m : Int) ≤ 65 := by omega
  have hn65 : (n : Int) ≤ 65 := by omega
  clear hW6 hb3 h20 h21 h22 h23 hQd hRd hQv hRv
  go_upto_region 4 with (first
      | (refine store_row rfl (.tmp 7) (.tmp 39) rfl w3.heap.size rfl Q hQl rfl 89 _ Hnew7.out (by kernel_rfl) ?_)
      | (refine store_row rfl (.tmp 8) (.tmp 40) rfl (w3.heap.size + 1) rfl R hRl rfl 89 _ Hnew8.out (by kernel_rfl) ?_; rw [← HW6.out]))
  rename_i K1 hK1 K2 hK2
  have htail : ∀ (u13 u14 u15 u16 u17 u18 u19 u20 u21 u22 u23 u24 u25 u26 u27 u28 u29 u30 u31 u32 u33 u34 u35 u36 u37 u38 u39 u40 u41 u42 u43 u44 u45 u46 u47 u48 u49 u50 u51 u52 u53 u54 u55 u56 u57 u58 u59 u60 u61 u62 u63 u64 u65 u66 u67 u68 u69 u70 u71 u72 u73 u74 u75 u76 u77 u78 u79 u80 u81 u82 u83 : Value) (Q R : List Nat) (wc : World), Dm w w.heap.size w3.heap.size na p n c q m c2 (za / zb) (za % zb) Q R wc → K1 { tmps := #[(.agg #[.bool na, .slice p n c]), (.agg #[.bool false, .slice q m c2]), (.pointer (some ⟨w.heap.size, 0, none⟩)), (.pointer (some ⟨w.heap.size + 1, 0, none⟩)), (.pointer (some ⟨w.heap.size + 1 + 1, 0, none⟩)), (.pointer (some ⟨w.heap.size + 1 + 1 + 1, 0, none⟩)), (.bool false), (.pointer (some ⟨w3.heap.size, 0, none⟩)), (.pointer (some ⟨w3.heap.size + 1, 0, none⟩)), undef, undef, undef, undef, u13, u14, u15, u16, u17, u18, u19, u20, u21, u22, u23, u24, u25, u26, u27, u28, u29, u30, u31, u32, u33, u34, u35, u36, u37, u38, u39, u40, u41, u42, u43, u44, u45, u46, u47, u48, u49, u50, u51, u52, u53, u54, u55, u56, u57, u58, u59, u60, u61, u62, u63, u64, u65, u66, u67, u68, u69, u70, u71, u72, u73, u74, u75, u76, u77, u78, u79, u80, u81, u82, u83], defers := [] } wc := by
    intro u13 u14 u15 u16 u17 u18 u19 u20 u21 u22 u23 u24 u25 u26 u27 u28 u29 u30 u31 u32 u33 u34 u35 u36 u37 u38 u39 u40 u41 u42 u43 u44 u45 u46 u47 u48 u49 u50 u51 u52 u53 u54 u55 u56 u57 u58 u59 u60 u61 u62 u63 u64 u65 u66 u67 u68 u69 u70 u71 u72 u73 u74 u75 u76 u77 u78 u79 u80 u81 u82 u83 Q' R' wc hdm
    have Hdm := Lib.hid hdm
    have hq64 : (za / zb).natAbs < B32 ^ 64 := Hlim.out.1
    have hr64 : (za % zb).natAbs < B32 ^ 64 := Hlim.out.2.1
    have hrs := res_ok (neg := na) (n := (za / zb).natAbs) (z := za / zb) rfl (fun h0 => by rw [← Hna.out]; exact Hlim.out.2.2 h0) hq64
    have HN7 : Hid (∀ W2, Below wc.heap.size wc W2 → Calls Tryz.prog 67 #[.bool na, .slice (some ⟨w3.heap.size, 0, none⟩) n 65] W2 (NumPost W2 (decide (za / zb < 0)) (digs (za / zb).natAbs) true)) := fun W2 hb => by
      have hnum := number_calls na _ _ W2 (u32s_row (L := n) (cap := 65) (Hdm.out.r7.below hb Hdm.out.r7.lt) (Nat.lt_of_lt_of_le Hdm.out.r7.lt hb.size) (by rw [Hdm.out.lQ]; omega) (by rw [Hdm.out.lQ]; decide))
      rwa [strip_digs (Hdm.out.dQ.take _), Hdm.out.vQ, hrs.1, hrs.2.1, hrs.2.2] at hnum
    clear hdm hK2 K2 hrs h60 h61 h62
    refine hK1 _ _ ?_
    go_wp2_with fail
    refine wp_region_inv (fun D a w' => ∃ v9 v10 v64 v65 v66 v67 v68 v69 v70 v71 v72 v73 sp sc g, a = { tmps := #[(.agg #[.bool na, .slice p n c]), (.agg #[.bool false, .slice q m c2]), (.pointer (some ⟨w.heap.size, 0, none⟩)), (.pointer (some ⟨w.heap.size + 1, 0, none⟩)), (.pointer (some ⟨w.heap.size + 1 + 1, 0, none⟩)), (.pointer (some ⟨w.heap.size + 1 + 1 + 1, 0, none⟩)), (.bool false), (.pointer (some ⟨w3.heap.size, 0, none⟩)), (.pointer (some ⟨w3.heap.size + 1, 0, none⟩)), v9, v10, undef, undef, u13, u14, u15, u16, u17, u18, u19, u20, u21, u22, u23, u24, u25, u26, u27, u28, u29, u30, u31, u32, u33, u34, u35, u36, u37, u38, u39, u40, u41, u42, u43, u44, u45, u46, u47, u48, u49, u50, u51, u52, u53, u54, u55, u56, u57, u58, u59, u60, u61, u62, u63, v64, v65, v66, v67, v68, v69, v70, v71, v72, v73, u74, u75, u76, u77, u78, u79, u80, u81, u82, u83], defers := [] } ∧ (D 0 → v65 = .pointer (some ⟨w.heap.size, 0, none⟩)) ∧ (D 1 → v66 = .bool na) ∧ (D 2 → v67 = .pointer (some ⟨w.heap.size, 1, none⟩)) ∧ (D 3 → v68 = .slice p n c) ∧ (D 4 → v69 = .int .i64 (n : Nat)) ∧ (D 5 → v70 = .slice (some ⟨w3.heap.size, 0, none⟩) n 65) ∧ (D 6 → v71 = .tuple #[.agg #[.bool (decide (za / zb < 0)), .slice sp (digs (za / zb).natAbs).length sc], .bool true]) ∧ (D 7 → v64 = .tuple #[.agg #[.bool (decide (za / zb < 0)), .slice sp (digs (za / zb).natAbs).length sc], .bool true]) ∧ (D 8 → v72 = .agg #[.bool (decide (za / zb < 0)), .slice sp (digs (za / zb).natAbs).length sc]) ∧ (D 9 → v73 = .bool true) ∧ (D 10 → v9 = .pointer (some ⟨g, 0, none⟩)) ∧ (D 12 → v10 = .bool true) ∧ Below wc.heap.size wc w' ∧ (D 6 → U32N wc.heap.size w'.heap.size w' (.slice sp (digs (za / zb).natAbs).length sc) (digs (za / zb).natAbs)) ∧ (D 10 → wc.heap.size ≤ g ∧ ∃ cs, RowAt w' g 25 cs ∧ cs.size = 2 ∧ (D 11 → cs = numCells (decide (za / zb < 0)) sp (digs (za / zb).natAbs).length sc)) ∧ (D 6 → D 10 → 0 < (digs (za / zb).natAbs).length → ∀ b off, sp = some ⟨b, off, none⟩ → b ≠ g) ∧ (D 11 → D 10) ∧ (D 7 → D 6) ∧ (D 8 → D 7) ∧ (D 11 → D 6))
      (by kernel_rfl) (by kernel_rfl) ?startS ?stepS ?finS
    case startS => exact ⟨undef, undef, u64, u65, u66, u67, u68, u69, u70, u71, u72, u73, (none : Option Addr), 0, 0, rfl, False.elim, False.elim, False.elim, False.elim, False.elim, False.elim, False.elim, False.elim, False.elim, False.elim, False.elim, False.elim, (Below.refl _ _).drew, False.elim, False.elim, False.elim, False.elim, False.elim, False.elim, False.elim⟩
    case stepS =>
      rintro i o D a w1 hio hn he ⟨v9, v10, v64, v65, v66, v67, v68, v69, v70, v71, v72, v73, sp, sc, g, rfl, f0, f1, f2, f3, f4, f5, f6, f7, f8, f9, f10, f12, k0, k1, k2, k3, k4, k5, k6, k7⟩
      rcases i with _ | _ | _ | _ | _ | _ | _ | _ | _ | _ | _ | _ | _ | i
      rotate_left 13
      · exact absurd hio (by simp)
      all_goals (obtain rfl := Option.some.inj (hio.symm.trans (by rfl)))
      · exact wp_of_run (run_field0 (.tmp 2) rfl (w.heap.size) rfl) ⟨_, _, _, _, _, _, _, _, _, _, _, _, _, _, _, rfl, put_eq rfl, put_ne (by decide) f1, put_ne (by decide) f2, put_ne (by decide) f3, put_ne (by decide) f4, put_ne (by decide) f5, put_ne (by decide) f6, put_ne (by decide) f7, put_ne (by decide) f8, put_ne (by decide) f9, put_ne (by decide) f10, put_ne (by decide) f12, k0, put_ne (by decide) k1, fun e => (k2 (And'.ne (by decide) e)).imp id fun ⟨cs, h1, h2, h3⟩ => ⟨cs, h1, h2, fun e => h3 (And'.ne (by decide) e)⟩, fun e e' => k3 (And'.ne (by decide) e) (And'.ne (by decide) e'), fun e => .inr (k4 (And'.ne (by decide) e)), fun e => .inr (k5 (And'.ne (by decide) e)), fun e => .inr (k6 (And'.ne (by decide) e)), fun e => .inr (k7 (And'.ne (by decide) e))⟩
      · obtain rfl := (f0 (he ⟨0, .data⟩ (by simp) rfl)).symm
        exact wp_of_run (run_load_bool_at (.tmp 65) rfl _ rfl na (Hdm.out.df.ra.below k0 Hdm.out.df.ra.lt).num0) ⟨_, _, _, _, _, _, _, _, _, _, _, _, _, _, _, rfl, put_ne (by decide) f0, put_eq rfl, put_ne (by decide) f2, put_ne (by decide) f3, put_ne (by decide) f4, put_ne (by decide) f5, put_ne (by decide) f6, put_ne (by decide) f7, put_ne (by decide) f8, put_ne (by decide) f9, put_ne (by decide) f10, put_ne (by decide) f12, k0, put_ne (by decide) k1, fun e => (k2 (And'.ne (by decide) e)).imp id fun ⟨cs, h1, h2, h3⟩ => ⟨cs, h1, h2, fun e => h3 (And'.ne (by decide) e)⟩, fun e e' => k3 (And'.ne (by decide) e) (And'.ne (by decide) e'), fun e => .inr (k4 (And'.ne (by decide) e)), fun e => .inr (k5 (And'.ne (by decide) e)), fun e => .inr (k6 (And'.ne (by decide) e)), fun e => .inr (k7 (And'.ne (by decide) e))⟩
      · exact wp_of_run (run_field1 (.tmp 2) rfl (w.heap.size) rfl) ⟨_, _, _, _, _, _, _, _, _, _, _, _, _, _, _, rfl, put_ne (by decide) f0, put_ne (by decide) f1, put_eq rfl, put_ne (by decide) f3, put_ne (by decide) f4, put_ne (by decide) f5, put_ne (by decide) f6, put_ne (by decide) f7, put_ne (by decide) f8, put_ne (by decide) f9, put_ne (by decide) f10, put_ne (by decide) f12, k0, put_ne (by decide) k1, fun e => (k2 (And'.ne (by decide) e)).imp id fun ⟨cs, h1, h2, h3⟩ => ⟨cs, h1, h2, fun e => h3 (And'.ne (by decide) e)⟩, fun e e' => k3 (And'.ne (by decide) e) (And'.ne (by decide) e'), fun e => .inr (k4 (And'.ne (by decide) e)), fun e => .inr (k5 (And'.ne (by decide) e)), fun e => .inr (k6 (And'.ne (by decide) e)), fun e => .inr (k7 (And'.ne (by decide) e))⟩
      · obtain rfl := (f2 (he ⟨2, .data⟩ (by simp) rfl)).symm
        exact wp_of_run (run_load_slice_at (.tmp 67) rfl _ rfl p n c (Hdm.out.df.ra.below k0 Hdm.out.df.ra.lt).num1) ⟨_, _, _, _, _, _, _, _, _, _, _, _, _, _, _, rfl, put_ne (by decide) f0, put_ne (by decide) f1, put_ne (by decide) f2, put_eq rfl, put_ne (by decide) f4, put_ne (by decide) f5, put_ne (by decide) f6, put_ne (by decide) f7, put_ne (by decide) f8, put_ne (by decide) f9, put_ne (by decide) f10, put_ne (by decide) f12, k0, put_ne (by decide) k1, fun e => (k2 (And'.ne (by decide) e)).imp id fun ⟨cs, h1, h2, h3⟩ => ⟨cs, h1, h2, fun e => h3 (And'.ne (by decide) e)⟩, fun e e' => k3 (And'.ne (by decide) e) (And'.ne (by decide) e'), fun e => .inr (k4 (And'.ne (by decide) e)), fun e => .inr (k5 (And'.ne (by decide) e)), fun e => .inr (k6 (And'.ne (by decide) e)), fun e => .inr (k7 (And'.ne (by decide) e))⟩
      · obtain rfl := (f3 (he ⟨3, .data⟩ (by simp) rfl)).symm
        exact wp_of_run (run_len (.tmp 68) _ rfl rfl _ n _ rfl) ⟨_, _, _, _, _, _, _, _, _, _, _, _, _, _, _, rfl, put_ne (by decide) f0, put_ne (by decide) f1, put_ne (by decide) f2, put_ne (by decide) f3, put_eq rfl, put_ne (by decide) f5, put_ne (by decide) f6, put_ne (by decide) f7, put_ne (by decide) f8, put_ne (by decide) f9, put_ne (by decide) f10, put_ne (by decide) f12, k0, put_ne (by decide) k1, fun e => (k2 (And'.ne (by decide) e)).imp id fun ⟨cs, h1, h2, h3⟩ => ⟨cs, h1, h2, fun e => h3 (And'.ne (by decide) e)⟩, fun e e' => k3 (And'.ne (by decide) e) (And'.ne (by decide) e'), fun e => .inr (k4 (And'.ne (by decide) e)), fun e => .inr (k5 (And'.ne (by decide) e)), fun e => .inr (k6 (And'.ne (by decide) e)), fun e => .inr (k7 (And'.ne (by decide) e))⟩
      · obtain rfl := (f4 (he ⟨4, .data⟩ (by simp) rfl)).symm
        exact wp_of_run (run_slice1 (.tmp 7) (.tmp 69) rfl w3.heap.size n rfl rfl (by omega)) ⟨_, _, _, _, _, _, _, _, _, _, _, _, _, _, _, rfl, put_ne (by decide) f0, put_ne (by decide) f1, put_ne (by decide) f2, put_ne (by decide) f3, put_ne (by decide) f4, put_eq rfl, put_ne (by decide) f6, put_ne (by decide) f7, put_ne (by decide) f8, put_ne (by decide) f9, put_ne (by decide) f10, put_ne (by decide) f12, k0, put_ne (by decide) k1, fun e => (k2 (And'.ne (by decide) e)).imp id fun ⟨cs, h1, h2, h3⟩ => ⟨cs, h1, h2, fun e => h3 (And'.ne (by decide) e)⟩, fun e e' => k3 (And'.ne (by decide) e) (And'.ne (by decide) e'), fun e => .inr (k4 (And'.ne (by decide) e)), fun e => .inr (k5 (And'.ne (by decide) e)), fun e => .inr (k6 (And'.ne (by decide) e)), fun e => .inr (k7 (And'.ne (by decide) e))⟩
      · obtain rfl := (f1 (he ⟨1, .data⟩ (by simp) rfl)).symm
        obtain rfl := (f5 (he ⟨5, .data⟩ (by simp) rfl)).symm
        refine wp_of_callE (run_enter2 67 (.tmp 66) (.tmp 70) _ rfl _ _ rfl rfl ent_number) (HN7.out w1 k0) ?_
        rintro e w' ⟨s5, rfl, hu5, hb5⟩
        have hU5 := hu5
        obtain ⟨p5, c5, rfl, -, -⟩ := hU5
        refine ⟨_, rfl, ?_⟩
        exact ⟨_, _, _, _, _, _, _, _, _, _, _, _, _, _, _, rfl, put_ne (by decide) f0, put_ne (by decide) f1, put_ne (by decide) f2, put_ne (by decide) f3, put_ne (by decide) f4, put_ne (by decide) f5, put_eq rfl, (fun e => absurd (k5 (And'.ne (by decide) e)) hn), (fun e => absurd (k5 (k6 (And'.ne (by decide) e))) hn), put_ne (by decide) f9, put_ne (by decide) f10, put_ne (by decide) f12, k0.trans (hb5.mono k0.size), fun _ => hu5.move k0.size (Nat.le_refl _) fun _ _ _ _ _ _ => rfl, fun e => (k2 (And'.ne (by decide) e)).imp id fun ⟨cs, h1, h2, h3⟩ => ⟨cs, h1.below hb5 h1.lt, h2, fun e => absurd (k7 (And'.ne (by decide) e)) hn⟩, fun _ e h0 b off hp => by obtain ⟨cs, hr, -⟩ := (k2 (And'.ne (by decide) e)).2; have := hr.lt; have := (hu5.block hp h0).1; omega, fun e => .inr (k4 (And'.ne (by decide) e)), fun _ => .inl rfl, fun e => .inr (k6 (And'.ne (by decide) e)), fun _ => .inl rfl⟩
      · obtain rfl := (f6 (he ⟨6, .data⟩ (by simp) rfl)).symm
        exact wp_of_run (run_move (.tmp 71) rfl) ⟨_, _, _, _, _, _, _, _, _, _, _, _, _, _, _, rfl, put_ne (by decide) f0, put_ne (by decide) f1, put_ne (by decide) f2, put_ne (by decide) f3, put_ne (by decide) f4, put_ne (by decide) f5, put_ne (by decide) f6, put_eq rfl, put_ne (by decide) f8, put_ne (by decide) f9, put_ne (by decide) f10, put_ne (by decide) f12, k0, put_ne (by decide) k1, fun e => (k2 (And'.ne (by decide) e)).imp id fun ⟨cs, h1, h2, h3⟩ => ⟨cs, h1, h2, fun e => h3 (And'.ne (by decide) e)⟩, fun e e' => k3 (And'.ne (by decide) e) (And'.ne (by decide) e'), fun e => .inr (k4 (And'.ne (by decide) e)), fun _ => .inr (he ⟨6, .data⟩ (by simp) rfl), fun _ => .inl rfl, fun e => .inr (k7 (And'.ne (by decide) e))⟩
      · obtain rfl := (f7 (he ⟨7, .data⟩ (by simp) rfl)).symm
        exact wp_of_run (run_extract (.tmp 64) 0 rfl _ rfl _ rfl) ⟨_, _, _, _, _, _, _, _, _, _, _, _, _, _, _, rfl, put_ne (by decide) f0, put_ne (by decide) f1, put_ne (by decide) f2, put_ne (by decide) f3, put_ne (by decide) f4, put_ne (by decide) f5, put_ne (by decide) f6, put_ne (by decide) f7, put_eq rfl, put_ne (by decide) f9, put_ne (by decide) f10, put_ne (by decide) f12, k0, put_ne (by decide) k1, fun e => (k2 (And'.ne (by decide) e)).imp id fun ⟨cs, h1, h2, h3⟩ => ⟨cs, h1, h2, fun e => h3 (And'.ne (by decide) e)⟩, fun e e' => k3 (And'.ne (by decide) e) (And'.ne (by decide) e'), fun e => .inr (k4 (And'.ne (by decide) e)), fun e => .inr (k5 (And'.ne (by decide) e)), fun _ => .inr (he ⟨7, .data⟩ (by simp) rfl), fun e => .inr (k7 (And'.ne (by decide) e))⟩
      · obtain rfl := (f7 (he ⟨7, .data⟩ (by simp) rfl)).symm
        exact wp_of_run (run_extract (.tmp 64) 1 rfl _ rfl _ rfl) ⟨_, _, _, _, _, _, _, _, _, _, _, _, _, _, _, rfl, put_ne (by decide) f0, put_ne (by decide) f1, put_ne (by decide) f2, put_ne (by decide) f3, put_ne (by decide) f4, put_ne (by decide) f5, put_ne (by decide) f6, put_ne (by decide) f7, put_ne (by decide) f8, put_eq rfl, put_ne (by decide) f10, put_ne (by decide) f12, k0, put_ne (by decide) k1, fun e => (k2 (And'.ne (by decide) e)).imp id fun ⟨cs, h1, h2, h3⟩ => ⟨cs, h1, h2, fun e => h3 (And'.ne (by decide) e)⟩, fun e e' => k3 (And'.ne (by decide) e) (And'.ne (by decide) e'), fun e => .inr (k4 (And'.ne (by decide) e)), fun e => .inr (k5 (And'.ne (by decide) e)), fun e => .inr (k6 (And'.ne (by decide) e)), fun e => .inr (k7 (And'.ne (by decide) e))⟩
      · exact wp_of_run (run_alloc_num rfl) ⟨_, _, _, _, _, _, _, _, _, _, _, _, _, _, _, rfl, put_ne (by decide) f0, put_ne (by decide) f1, put_ne (by decide) f2, put_ne (by decide) f3, put_ne (by decide) f4, put_ne (by decide) f5, put_ne (by decide) f6, put_ne (by decide) f7, put_ne (by decide) f8, put_ne (by decide) f9, put_eq rfl, put_ne (by decide) f12, k0.alloc k0.size _, fun e => (k1 (And'.ne (by decide) e)).move (Nat.le_refl _) (by simp) fun b off _ _ _ h => heap_alloc_old _ _ _ h, fun _ => ⟨k0.size, _, RowAt.new _ _ _, rfl, fun e => absurd (k4 (And'.ne (by decide) e)) hn⟩, fun e _ h0 b off hp => by have := ((k1 (And'.ne (by decide) e)).block hp h0).2; omega, fun _ => .inl rfl, fun e => .inr (k5 (And'.ne (by decide) e)), fun e => .inr (k6 (And'.ne (by decide) e)), fun e => .inr (k7 (And'.ne (by decide) e))⟩
      · have h10 := he ⟨10, .data⟩ (by simp) rfl
        have h6 := he ⟨6, .phase⟩ (by simp) rfl
        obtain rfl := (f10 h10).symm
        obtain rfl := (f8 (he ⟨8, .data⟩ (by simp) rfl)).symm
        obtain ⟨hlo, cs, hr, hs, -⟩ := k2 h10
        refine wp_store_row 25 (.tmp 9) (.tmp 72) rfl g (numCells (decide (za / zb < 0)) sp (digs (za / zb).natAbs).length sc) rfl rfl 25 cs hr num_info (by rw [hs]; rfl) (numCells_one ..) ?_
        exact ⟨_, _, _, _, _, _, _, _, _, _, _, _, _, _, _, rfl, put_ne (by decide) f0, put_ne (by decide) f1, put_ne (by decide) f2, put_ne (by decide) f3, put_ne (by decide) f4, put_ne (by decide) f5, put_ne (by decide) f6, put_ne (by decide) f7, put_ne (by decide) f8, put_ne (by decide) f9, put_ne (by decide) f10, put_ne (by decide) f12, below_setRow2 k0 hlo _, fun e => (k1 h6).move (Nat.le_refl _) (by simp [World.setRow]) fun b off hp h0 _ _ => setRow_other _ _ _ _ (k3 h6 h10 h0 b off hp), fun _ => ⟨hlo, _, hr.setRow _, rfl, fun _ => rfl⟩, fun _ _ => k3 h6 h10, fun _ => .inr h10, fun e => .inr (k5 (And'.ne (by decide) e)), fun e => .inr (k6 (And'.ne (by decide) e)), fun _ => .inr (he ⟨6, .phase⟩ (by simp) rfl)⟩
      · obtain rfl := (f9 (he ⟨9, .data⟩ (by simp) rfl)).symm
        exact wp_of_run (run_assign (.tmp 73) rfl) ⟨_, _, _, _, _, _, _, _, _, _, _, _, _, _, _, rfl, put_ne (by decide) f0, put_ne (by decide) f1, put_ne (by decide) f2, put_ne (by decide) f3, put_ne (by decide) f4, put_ne (by decide) f5, put_ne (by decide) f6, put_ne (by decide) f7, put_ne (by decide) f8, put_ne (by decide) f9, put_ne (by decide) f10, put_eq rfl, k0, put_ne (by decide) k1, fun e => (k2 (And'.ne (by decide) e)).imp id fun ⟨cs, h1, h2, h3⟩ => ⟨cs, h1, h2, fun e => h3 (And'.ne (by decide) e)⟩, fun e e' => k3 (And'.ne (by decide) e) (And'.ne (by decide) e'), fun e => .inr (k4 (And'.ne (by decide) e)), fun e => .inr (k5 (And'.ne (by decide) e)), fun e => .inr (k6 (And'.ne (by decide) e)), fun e => .inr (k7 (And'.ne (by decide) e))⟩
    case finS =>
      rintro D a w1 hD ⟨v9, v10, v64, v65, v66, v67, v68, v69, v70, v71, v72, v73, sp, sc, g, rfl, f0, f1, f2, f3, f4, f5, f6, f7, f8, f9, f10, f12, k0, k1, k2, k3, k4, k5, k6, k7⟩
      obtain rfl := (f10 (hD 10 (by simp))).symm
      obtain rfl := (f12 (hD 12 (by simp))).symm
      have hu := k1 (hD 6 (by simp))
      obtain ⟨hlo, cs, hr9, -, hcs⟩ := k2 (hD 10 (by simp))
      obtain rfl := hcs (hD 11 (by simp))
      have hblk := k3 (hD 6 (by simp)) (hD 10 (by simp))
      clear f0 f1 f2 f3 f4 f5 f6 f7 f8 f9 f10 f12 hD k1 k2 k3 k4 k5 k6 k7
      have hwc : w.heap.size ≤ wc.heap.size := Hdm.out.below.size
      have hg3 : w.heap.size + 1 + 1 + 1 < wc.heap.size := Hdm.out.df.r5.lt
      have hrs := res_ok (neg := false) (n := (za % zb).natAbs) (z := za % zb) rfl (fun _ => by have := Int.emod_nonneg za (by omega : zb ≠ 0); simp; omega) hr64
      have hnum := number_calls false _ _ w1 (u32s_row (L := m) (cap := 65) (Hdm.out.r8.below k0 Hdm.out.r8.lt) (Nat.lt_of_lt_of_le Hdm.out.r8.lt k0.size) (by rw [Hdm.out.lR]; omega) (by rw [Hdm.out.lR]; decide))
      rw [strip_digs (Hdm.out.dR.take _), Hdm.out.vR, hrs.1, hrs.2.1, hrs.2.2] at hnum
      have HN8 := Lib.hid hnum
      have h81 := (Hdm.out.df.rb.below k0 Hdm.out.df.rb.lt).num1
      have K0 := Lib.hid k0
      have Hu1 := Lib.hid hu
      have Hr9 := Lib.hid hr9
      have Hblk := Lib.hid hblk
      clear hrs hnum k0 hu hr9 hblk
      go_wp2_with fail
      refine HN8.out.mono ?_
      rintro e w5 ⟨s5, rfl, hu5, hb5⟩
      have hU5 := hu5
      obtain ⟨p5, c5, rfl, -, -⟩ := hU5
      have hz5 : wc.heap.size ≤ w5.heap.size := Nat.le_trans K0.out.size hb5.size
      obtain ⟨W6, hW6⟩ : ∃ W6, W6 = (w5.alloc (.cells #[.bool false, .slice none 0 0] 25)).setRow w5.heap.size (numCells (decide (za % zb < 0)) p5 (digs (za % zb).natAbs).length c5) := ⟨_, rfl⟩
      have hold : ∀ k, k < w5.heap.size → W6.heap[k]? = w5.heap[k]? := fun k hk => by rw [hW6, setRow_other _ _ _ _ (by omega)]; exact heap_alloc_old _ _ _ hk
      have hs6 : W6.heap.size = w5.heap.size + 1 := by rw [hW6]; simp
      have hg1 := Hr9.out.lt
      have Hwc5 : Hid (∀ k, k < wc.heap.size → W6.heap[k]? = wc.heap[k]?) := fun k hk => (hold k (by omega)).trans ((hb5.block k (Nat.lt_of_lt_of_le hk K0.out.size)).trans (K0.out.block k hk))
      have H9 : Hid (RowAt W6 g 25 (numCells (decide (za / zb < 0)) sp (digs (za / zb).natAbs).length sc)) := (hold g (Nat.lt_of_lt_of_le hg1 hb5.size)).trans (Hr9.out.below hb5 hg1)
      have H11 : Hid (RowAt W6 w5.heap.size 25 (numCells (decide (za % zb < 0)) p5 (digs (za % zb).natAbs).length c5)) := by rw [hW6]; exact (RowAt.new w5 _ _).setRow _
      have H4 : Hid (RowAt W6 (w.heap.size + 1 + 1) 25 (numCells false none 0 0)) := (Hwc5.out _ Hdm.out.df.r4.lt).trans Hdm.out.df.r4
      have H5 : Hid (RowAt W6 (w.heap.size + 1 + 1 + 1) 25 (numCells false none 0 0)) := (Hwc5.out _ Hdm.out.df.r5.lt).trans Hdm.out.df.r5
      have Hu : Hid (U32N wc.heap.size W6.heap.size W6 (.slice sp (digs (za / zb).natAbs).length sc) (digs (za / zb).natAbs)) := Hu1.out.move (Nat.le_refl _) (by rw [hs6]; exact Nat.le_succ_of_le hb5.size) fun b off _ _ _ h2 => (hold b (Nat.lt_of_lt_of_le h2 hb5.size)).trans (hb5.block b h2)
      have Hu5 : Hid (U32N wc.heap.size W6.heap.size W6 (.slice p5 (digs (za % zb).natAbs).length c5) (digs (za % zb).natAbs)) := hu5.move K0.out.size (by rw [hs6]; omega) fun b off _ _ _ h2 => hold b h2
      have HB6' : Hid (Below w.heap.size w W6) := by
        have h1 : Below w1.heap.size w1 W6 := by rw [hW6]; exact below_setRow2 (hb5.alloc hb5.size _) hb5.size _
        exact (Hdm.out.below.trans (K0.out.mono hwc)).trans (h1.mono (Nat.le_trans hwc K0.out.size))
      have Hnew5 := Lib.hid (RowAt.new w5 25 (numCells false none 0 0))
      have HW6' := Lib.hid hW6
      clear hb5 hu5 hW6 hold hs6
      go_wp2_with (refine store_num rfl (.tmp 11) (.tmp 80) rfl w5.heap.size rfl _ _ _ _ rfl _ _ Hnew5.out rfl ?_; rw [← HW6'.out])
      refine wp_region_inv (fun D a w' => ∃ v6 v82 v83, a = { tmps := #[(.agg #[.bool na, .slice p n c]), (.agg #[.bool false, .slice q m c2]), (.pointer (some ⟨w.heap.size, 0, none⟩)), (.pointer (some ⟨w.heap.size + 1, 0, none⟩)), (.pointer (some ⟨w.heap.size + 1 + 1, 0, none⟩)), (.pointer (some ⟨w.heap.size + 1 + 1 + 1, 0, none⟩)), v6, (.pointer (some ⟨w3.heap.size, 0, none⟩)), (.pointer (some ⟨w3.heap.size + 1, 0, none⟩)), (.pointer (some ⟨g, 0, none⟩)), (.bool true), (.pointer (some ⟨w5.heap.size, 0, none⟩)), (.bool true), u13, u14, u15, u16, u17, u18, u19, u20, u21, u22, u23, u24, u25, u26, u27, u28, u29, u30, u31, u32, u33, u34, u35, u36, u37, u38, u39, u40, u41, u42, u43, u44, u45, u46, u47, u48, u49, u50, u51, u52, u53, u54, u55, u56, u57, u58, u59, u60, u61, u62, u63, v64, v65, v66, v67, v68, v69, v70, v71, v72, v73, (.tuple #[.agg #[.bool (decide (za % zb < 0)), .slice p5 (digs (za % zb).natAbs).length c5], .bool true]), (.pointer (some ⟨w.heap.size + 1, 1, none⟩)), (.slice q m c2), (.int .i64 (m : Nat)), (.slice (some ⟨w3.heap.size + 1, 0, none⟩) m 65), (.tuple #[.agg #[.bool (decide (za % zb < 0)), .slice p5 (digs (za % zb).natAbs).length c5], .bool true]), (.agg #[.bool (decide (za % zb < 0)), .slice p5 (digs (za % zb).natAbs).length c5]), (.bool true), v82, v83], defers := [] } ∧ (D 0 → v82 = .agg #[.bool (decide (za / zb < 0)), .slice sp (digs (za / zb).natAbs).length sc]) ∧ (D 1 → v83 = .agg #[.bool (decide (za % zb < 0)), .slice p5 (digs (za % zb).natAbs).length c5]) ∧ (D 4 → v6 = .bool true) ∧ (D 2 → D 0) ∧ (D 3 → D 1 ∧ D 2) ∧ (¬ D 2 → w' = W6.drew) ∧ (D 2 → ¬ D 3 → w' = W6.drew.setRow (w.heap.size + 1 + 1) (numCells (decide (za / zb < 0)) sp (digs (za / zb).natAbs).length sc)) ∧ (D 3 → w' = (W6.drew.setRow (w.heap.size + 1 + 1) (numCells (decide (za / zb < 0)) sp (digs (za / zb).natAbs).length sc)).setRow (w.heap.size + 1 + 1 + 1) (numCells (decide (za % zb < 0)) p5 (digs (za % zb).natAbs).length c5)))
        (by kernel_rfl) (by kernel_rfl) ?startT ?stepT ?finT
      case startT => exact ⟨.bool false, u82, u83, rfl, False.elim, False.elim, False.elim, False.elim, False.elim, fun _ => rfl, False.elim, False.elim⟩
      case stepT =>
        rintro i o D a w1 hio hn he ⟨v6, v82, v83, rfl, f0, f1, f4, k0, k1, k2, k3, k4⟩
        rcases i with _ | _ | _ | _ | _ | i
        rotate_left 5
        · exact absurd hio (by simp)
        all_goals (obtain rfl := Option.some.inj (hio.symm.trans (by rfl)))
        · obtain rfl := (k2 fun h => hn (k0 h)).symm
          exact wp_of_run (run_load_num (.tmp 9) rfl g rfl _ sp _ sc 25 H9.out) ⟨_, _, _, rfl, put_eq rfl, put_ne (by decide) f1, put_ne (by decide) f4, fun _ => .inl rfl, fun e => (k1 (And'.ne (by decide) e)).imp .inr .inr, fun _ => rfl, fun h h' => k3 (And'.ne (by decide) h) fun h2 => h' (.inr h2), fun h => k4 (And'.ne (by decide) h)⟩
        · have hr11 : RowAt w1 w5.heap.size 25 (numCells (decide (za % zb < 0)) p5 (digs (za % zb).natAbs).length c5) := by
            by_cases h2 : D 2
            · rw [k3 h2 fun h3 => hn (k1 h3).1]; exact H11.out.drew.setRowOther _ (by omega)
            · rw [k2 h2]; exact H11.out.drew
          exact wp_of_run (run_load_num (.tmp 11) rfl w5.heap.size rfl _ p5 _ c5 25 hr11) ⟨_, _, _, rfl, put_ne (by decide) f0, put_eq rfl, put_ne (by decide) f4, fun e => .inr (k0 (And'.ne (by decide) e)), fun e => ⟨.inl rfl, .inr (k1 (And'.ne (by decide) e)).2⟩, fun h => k2 fun h' => h (.inr h'), fun h h' => k3 (And'.ne (by decide) h) fun h2 => h' (.inr h2), fun h => k4 (And'.ne (by decide) h)⟩
        · obtain rfl := (k2 hn).symm
          obtain rfl := (f0 (he ⟨0, .data⟩ (by simp) rfl)).symm
          refine wp_store_row 25 (.tmp 4) (.tmp 82) rfl (w.heap.size + 1 + 1) (numCells (decide (za / zb < 0)) sp (digs (za / zb).natAbs).length sc) rfl rfl 25 _ H4.out.drew num_info rfl (numCells_one ..) ?_
          exact ⟨_, _, _, rfl, put_ne (by decide) f0, put_ne (by decide) f1, put_ne (by decide) f4, fun _ => .inr (he ⟨0, .phase⟩ (by simp) rfl), fun e => absurd (k1 (And'.ne (by decide) e)).2 hn, fun h => absurd (.inl rfl) h, fun _ _ => rfl, fun h => absurd (k1 (And'.ne (by decide) h)).2 hn⟩
        · have h2 := he ⟨2, .chain⟩ (by simp) rfl
          obtain rfl := (k3 h2 hn).symm
          obtain rfl := (f1 (he ⟨1, .data⟩ (by simp) rfl)).symm
          refine wp_store_row 25 (.tmp 5) (.tmp 83) rfl (w.heap.size + 1 + 1 + 1) (numCells (decide (za % zb < 0)) p5 (digs (za % zb).natAbs).length c5) rfl rfl 25 _ (H5.out.drew.setRowOther _ (by omega)) num_info rfl (numCells_one ..) ?_
          exact ⟨_, _, _, rfl, put_ne (by decide) f0, put_ne (by decide) f1, put_ne (by decide) f4, fun _ => .inr (k0 h2), fun _ => ⟨.inr (he ⟨1, .phase⟩ (by simp) rfl), .inr h2⟩, fun h => absurd (.inr h2) h, fun _ h => absurd (.inl rfl) h, fun _ => rfl⟩
        · exact wp_of_run (run_assign (.const (.bool true)) rfl) ⟨_, _, _, rfl, put_ne (by decide) f0, put_ne (by decide) f1, put_eq rfl, fun e => .inr (k0 (And'.ne (by decide) e)), fun e => (k1 (And'.ne (by decide) e)).imp .inr .inr, fun h => k2 fun h' => h (.inr h'), fun h h' => k3 (And'.ne (by decide) h) fun h2 => h' (.inr h2), fun h => k4 (And'.ne (by decide) h)⟩
      case finT =>
        rintro D a w1 hD ⟨v6, v82, v83, rfl, f0, f1, f4, k0, k1, k2, k3, k4⟩
        obtain rfl := (f4 (hD 4 (by simp))).symm
        obtain rfl := (k4 (hD 3 (by simp))).symm
        clear f0 f1 f4 hD k0 k1 k2 k3 k4
        go_wp2
        refine ret_num2 rfl (w.heap.size + 1 + 1) rfl (w.heap.size + 1 + 1 + 1) rfl _ rfl _ _ _ _ _ _ _ _ _ _ ((H4.out.drew.setRow _).setRowOther _ (by omega)) ((H5.out.drew.setRowOther _ (by omega)).setRow _) ⟨_, _, rfl, ?_, ?_, below_setRow2 (below_setRow2 HB6'.out.drew (by omega) _) (by omega) _⟩
        · exact (Hu.out.move hwc (by simp [World.setRow]) fun b off _ _ h1 _ => (setRow_other _ _ _ _ (by omega)).trans (setRow_other _ _ _ _ (by omega)))
        · exact (Hu5.out.move hwc (by simp [World.setRow]) fun b off _ _ h1 _ => (setRow_other _ _ _ _ (by omega)).trans (setRow_other _ _ _ _ (by omega)))
  clear hK1
  have hcQ : val (Q.take n) = za.natAbs / zb.natAbs := by
    rw [take_val_lt (k := 0) (by rw [HQR.out.2.2.1]; exact Nat.lt_of_le_of_lt (Nat.div_le_self _ _) (digs_len.1 (by rw [Hn.out]; exact Nat.le_refl _))), HQR.out.2.2.1]
  have hcR : val (R.take m) = za.natAbs % zb.natAbs := by
    rw [take_val_lt (k := 0) (by rw [HQR.out.2.2.2]; exact Nat.lt_trans (Nat.mod_lt _ (by omega)) (digs_len.1 (by rw [Hm.out]; exact Nat.le_refl _))), HQR.out.2.2.2]
  have HcQ := Lib.hid hcQ
  have HcR := Lib.hid hcR
  clear hcQ hcR
  by_cases hneg : za < 0
  · have hna : na = true := by rw [← Hna.out]; simp [hneg]
    subst hna
    have Hlen := Lib.hid (length_calls _ _ W6 (u32s_row (L := m) (cap := 65) H68.out (by rw [Hz6.out]; omega) (by omega) (by rw [hRl]; decide)))
    have hL : (strip (R.take m)).length = 0 ↔ za.natAbs % zb.natAbs = 0 := by
      rw [List.length_eq_zero_iff, strip_digs (HQR.out.2.1.2.take _), HcR.out, digs_nil_iff]
    generalize (strip (R.take m)).length = L at *
    have HL := Lib.hid hL
    clear hL
    by_cases hr0 : L = 0
    · obtain ⟨e1, e2⟩ := div_neg_none hneg h (HL.out.1 hr0)
      have HE := Lib.hid (And.intro e1 e2)
      have hr1 : ¬ ((0 : Int) < (L : Int)) := by omega
      have Hmod := Lib.hid (HL.out.1 hr0)
      clear e1 e2 hr0
      go_wp2_with fail
      refine Hlen.out.mono ?_
      rintro e w7 ⟨rfl, hb7⟩
      have Hb7 := Lib.hid hb7
      clear hb7
      go_wp2_with fail
      exact htail _ _ _ _ _ _ _ _ _ _ _ _ _ _ _ _ _ _ _ _ _ _ _ _ _ _ _ _ _ _ _ _ _ _ _ _ _ _ _ _ _ _ _ _ _ _ _ _ _ _ _ _ _ _ _ _ _ _ _ _ _ _ _ _ _ _ _ _ _ _ _ Q R _ ⟨HD6.out.below Hb7.out, H67.out.below Hb7.out H67.out.lt, H68.out.below Hb7.out H68.out.lt, hQl, hRl, HQR.out.2.1.1, HQR.out.2.1.2, by rw [HcQ.out, HE.out.1, Int.natAbs_neg, Int.natAbs_natCast], by rw [HcR.out, HE.out.2, Hmod.out]; rfl, HB6.out.trans (Hb7.out.mono HB6.out.size)⟩
    · obtain ⟨e1, e2⟩ := div_neg_rest hneg h (fun e => hr0 (HL.out.2 e))
      have HE := Lib.hid (And.intro e1 e2)
      have hr1 : (0 : Int) < (L : Int) := by omega
      have Hadj := Lib.hid (div_adjust Hn.out Hm.out hn64 hm64 hQl hRl HQR.out.2.1.1 HQR.out.2.1.2 HQR.out.2.2.1 HQR.out.2.2.2 (by omega : 0 < zb.natAbs) (fun e => hr0 (HL.out.2 e)))
      have Hval : Hid (val ((sumRow (Q.take n) [1]).take n) = (za / zb).natAbs ∧ val ((combRow subLo subHi (digs zb.natAbs) (R.take m)).take m) = (za % zb).natAbs) := by
        show _ ∧ _
        rw [Hadj.out.1, Hadj.out.2, HE.out.1, HE.out.2]
        exact ⟨by rw [Int.natAbs_neg, Int.natAbs_natCast], by rw [Int.natAbs_natCast]⟩
      clear e1 e2 hr0
      go_wp2_with fail
      refine Hlen.out.mono ?_
      rintro e w7 ⟨rfl, hb7⟩
      have hz7 : w3.heap.size + 2 ≤ w7.heap.size := by rw [← Hz6.out]; exact hb7.size
      have HD7 := Lib.hid (HD6.out.below hb7)
      have H77 := Lib.hid (H67.out.below hb7 H67.out.lt)
      have H78 := Lib.hid (H68.out.below hb7 H68.out.lt)
      have HB7 := Lib.hid (HB6.out.trans (hb7.mono HB6.out.size))
      have Hub7 := Lib.hid ((Hub6.out.below hb7).mono hb7.size)
      have h70 := HD7.out.ra.num0
      have h71 := HD7.out.ra.num1
      have h72 := HD7.out.rb.num1
      obtain ⟨W8, hW8⟩ : ∃ W8, W8 = w7.alloc (.cells #[.int .u32 1] 87) := ⟨_, rfl⟩
      have hb8 : Below w7.heap.size w7 W8 := by rw [hW8]; exact (Below.refl _ _).alloc (Nat.le_refl _) _
      have hone : U32s W8.heap.size W8 (.slice (some ⟨w7.heap.size, 0, none⟩) 1 1) [1] := ⟨_, 1, rfl, by unfold maxLen; decide, fun _ => ⟨w7.heap.size, 0, rfl, by rw [hW8]; simp, fun j hj => by
        obtain rfl : j = 0 := by simp at hj; omega
        rw [hW8]
        exact (RowAt.new w7 87 #[.int .u32 1]).cell 0⟩⟩
      have HS := Lib.hid (sum_calls (.slice (some ⟨w3.heap.size, 0, none⟩) n 65) _ _ _ W8 (u32s_row (L := n) (cap := 65) (H77.out.below hb8 H77.out.lt) (Nat.lt_of_lt_of_le H77.out.lt hb8.size) (by omega) (by rw [hQl]; decide)) hone (HQR.out.2.1.1.take _) one_digits (by simp; omega) (by simp))
      have HW8 := Lib.hid hW8
      have Hb8 := Lib.hid hb8
      clear hb7 hb8 hone hW8 h60 h61 h62
      go_wp2_with fail
      rw [← HW8.out]
      refine HS.out.mono ?_
      rintro e w9 ⟨rfl, hb9⟩
      have hb79 : Below w7.heap.size w7 w9 := Hb8.out.trans (hb9.mono Hb8.out.size)
      obtain ⟨W10, hW10⟩ : ∃ W10, W10 = w9.setRow w3.heap.size (arr (sumRow (Q.take n) [1])) := ⟨_, rfl⟩
      have HD10 : Hid (Df w.heap.size true false p n c q m c2 W10) := by rw [hW10]; exact (HD7.out.below hb79).set (by omega) _
      have H107 : Hid (RowAt W10 w3.heap.size 89 (arr (sumRow (Q.take n) [1]))) := by rw [hW10]; exact (H77.out.below hb79 H77.out.lt).setRow _
      have H108 : Hid (RowAt W10 (w3.heap.size + 1) 89 (arr R)) := by rw [hW10]; exact (H78.out.below hb79 H78.out.lt).setRowOther _ (by omega)
      have HB10 : Hid (Below w.heap.size w W10) := by rw [hW10]; exact below_setRow2 (HB7.out.trans (hb79.mono HB7.out.size)) (by omega) _
      have Hub10 : Hid (U32s w3.heap.size w (.slice q m c2) (digs zb.natAbs)) := HbU.out.mono (by omega)
      have HDF : Hid (∀ W2, Below W10.heap.size W10 W2 → Calls Tryz.prog 92 #[.slice q m c2, .slice (some ⟨w3.heap.size + 1, 0, none⟩) m 65] W2 fun e w' => e = .returned (.agg (arr (combRow subLo subHi (digs zb.natAbs) (R.take m)))) ∧ Below W2.heap.size W2 w') := fun W2 hb =>
        have hb' : Below w.heap.size w W2 := HB10.out.trans (hb.mono HB10.out.size)
        difference_calls _ _ _ _ W2 ((HbU.out.below hb').mono hb'.size) (u32s_row (L := m) (cap := 65) (H108.out.below hb H108.out.lt) (Nat.lt_of_lt_of_le H108.out.lt hb.size) (by omega) (by rw [hRl]; decide)) (digs_digits _) (HQR.out.2.1.2.take _) (by rw [Hm.out]; exact hm64)
      have H97 := Lib.hid (H77.out.below hb79 H77.out.lt)
      have HW10 := Lib.hid hW10
      clear hb9 hb79 hW10 h70 h71 h72
      go_wp2_with (refine store_row rfl (.tmp 7) (.tmp 56) rfl w3.heap.size rfl _ (sumRow_length _ _) rfl 89 _ H97.out (by rw [arr_size, hQl]) ?_; rw [← HW10.out])
      refine wp_region_inv (fun D a w' => ∃ v57 v58 v59 v60 v61 v62 v63, a = { tmps := #[(.agg #[.bool true, .slice p n c]), (.agg #[.bool false, .slice q m c2]), (.pointer (some ⟨w.heap.size, 0, none⟩)), (.pointer (some ⟨w.heap.size + 1, 0, none⟩)), (.pointer (some ⟨w.heap.size + 1 + 1, 0, none⟩)), (.pointer (some ⟨w.heap.size + 1 + 1 + 1, 0, none⟩)), (.bool false), (.pointer (some ⟨w3.heap.size, 0, none⟩)), (.pointer (some ⟨w3.heap.size + 1, 0, none⟩)), undef, undef, undef, undef, (.agg #[.bool true, .slice p n c]), (.bool true), (.bool false), (.bool false), (.agg #[.bool false, .slice q m c2]), (.bool true), (.bool false), (.bool false), (.bool false), (.pointer (some ⟨w.heap.size + 1, 0, none⟩)), (.bool false), (.bool false), (.bool false), (.pointer (some ⟨w.heap.size + 1, 1, none⟩)), (.slice q m c2), (.int .i64 (m : Nat)), (.bool false), (.bool false), undef, undef, (.tuple #[.agg (arr Q), .agg (arr R)]), (.pointer (some ⟨w.heap.size, 1, none⟩)), (.slice p n c), (.pointer (some ⟨w.heap.size + 1, 1, none⟩)), (.slice q m c2), (.tuple #[.agg (arr Q), .agg (arr R)]), (.agg (arr Q)), (.agg (arr R)), (.pointer (some ⟨w.heap.size, 0, none⟩)), (.bool true), (.bool true), (.pointer (some ⟨w.heap.size + 1, 1, none⟩)), (.slice q m c2), (.int .i64 (m : Nat)), (.slice (some ⟨w3.heap.size + 1, 0, none⟩) m 65), (.int .i64 (L : Nat)), (.bool true), (.bool true), (.pointer (some ⟨w.heap.size, 1, none⟩)), (.slice p n c), (.int .i64 (n : Nat)), (.slice (some ⟨w3.heap.size, 0, none⟩) n 65), (.slice (some ⟨w7.heap.size, 0, none⟩) 1 1), (.agg (arr (sumRow (Q.take n) [1]))), v57, v58, v59, v60, v61, v62, v63, undef, undef, undef, undef, undef, undef, undef, undef, undef, undef, undef, undef, undef, undef, undef, undef, undef, undef, undef, undef], defers := [] } ∧ (D 0 → v57 = .pointer (some ⟨w.heap.size + 1, 1, none⟩)) ∧ (D 1 → v58 = .slice q m c2) ∧ (D 2 → v59 = .pointer (some ⟨w.heap.size + 1, 1, none⟩)) ∧ (D 3 → v60 = .slice q m c2) ∧ (D 4 → v61 = .int .i64 (m : Nat)) ∧ (D 5 → v62 = .slice (some ⟨w3.heap.size + 1, 0, none⟩) m 65) ∧ (D 6 → v63 = .agg (arr (combRow subLo subHi (digs zb.natAbs) (R.take m)))) ∧ (D 7 → D 1 ∧ D 3 ∧ D 6) ∧ (∃ W2, Below W10.heap.size W10 W2 ∧ (¬ D 7 → w' = W2) ∧ (D 7 → w' = W2.setRow (w3.heap.size + 1) (arr (combRow subLo subHi (digs zb.natAbs) (R.take m))))))
        (by kernel_rfl) (by kernel_rfl) ?startU ?stepU ?finU
      case startU => exact ⟨undef, undef, undef, undef, undef, undef, undef, rfl, False.elim, False.elim, False.elim, False.elim, False.elim, False.elim, False.elim, False.elim, ⟨W10.drew, (Below.refl _ _).drew, fun _ => rfl, False.elim⟩⟩
      case stepU =>
        rintro i o D a w1 hio hn he ⟨v57, v58, v59, v60, v61, v62, v63, rfl, f0, f1, f2, f3, f4, f5, f6, k0, k1⟩
        rcases i with _ | _ | _ | _ | _ | _ | _ | _ | i
        rotate_left 8
        · exact absurd hio (by simp)
        all_goals (obtain rfl := Option.some.inj (hio.symm.trans (by rfl)))
        · obtain ⟨W2, hb, e0, e1⟩ := k1
          exact wp_of_run (run_field1 (.tmp 3) rfl (w.heap.size + 1) rfl) ⟨_, _, _, _, _, _, _, rfl, put_eq rfl, put_ne (by decide) f1, put_ne (by decide) f2, put_ne (by decide) f3, put_ne (by decide) f4, put_ne (by decide) f5, put_ne (by decide) f6, fun e => have h := k0 (And'.ne (by decide) e); ⟨.inr h.1, .inr h.2.1, .inr h.2.2⟩, ⟨W2, hb, fun h => e0 fun h' => h (.inr h'), fun h => e1 (And'.ne (by decide) h)⟩⟩
        · obtain ⟨W2, hb, e0, e1⟩ := k1
          obtain rfl := e0 fun h => hn (k0 h).1
          obtain rfl := (f0 (he ⟨0, .data⟩ (by simp) rfl)).symm
          exact wp_of_run (run_load_slice_at (.tmp 57) rfl _ rfl q m c2 (HD10.out.rb.below hb HD10.out.rb.lt).num1) ⟨_, _, _, _, _, _, _, rfl, put_ne (by decide) f0, put_eq rfl, put_ne (by decide) f2, put_ne (by decide) f3, put_ne (by decide) f4, put_ne (by decide) f5, put_ne (by decide) f6, fun e => have h := k0 (And'.ne (by decide) e); ⟨.inr h.1, .inr h.2.1, .inr h.2.2⟩, ⟨w1, hb, fun _ => rfl, fun h => e1 (And'.ne (by decide) h)⟩⟩
        · obtain ⟨W2, hb, e0, e1⟩ := k1
          exact wp_of_run (run_field1 (.tmp 3) rfl (w.heap.size + 1) rfl) ⟨_, _, _, _, _, _, _, rfl, put_ne (by decide) f0, put_ne (by decide) f1, put_eq rfl, put_ne (by decide) f3, put_ne (by decide) f4, put_ne (by decide) f5, put_ne (by decide) f6, fun e => have h := k0 (And'.ne (by decide) e); ⟨.inr h.1, .inr h.2.1, .inr h.2.2⟩, ⟨W2, hb, fun h => e0 fun h' => h (.inr h'), fun h => e1 (And'.ne (by decide) h)⟩⟩
        · obtain ⟨W2, hb, e0, e1⟩ := k1
          obtain rfl := e0 fun h => hn (k0 h).2.1
          obtain rfl := (f2 (he ⟨2, .data⟩ (by simp) rfl)).symm
          exact wp_of_run (run_load_slice_at (.tmp 59) rfl _ rfl q m c2 (HD10.out.rb.below hb HD10.out.rb.lt).num1) ⟨_, _, _, _, _, _, _, rfl, put_ne (by decide) f0, put_ne (by decide) f1, put_ne (by decide) f2, put_eq rfl, put_ne (by decide) f4, put_ne (by decide) f5, put_ne (by decide) f6, fun e => have h := k0 (And'.ne (by decide) e); ⟨.inr h.1, .inr h.2.1, .inr h.2.2⟩, ⟨w1, hb, fun _ => rfl, fun h => e1 (And'.ne (by decide) h)⟩⟩
        · obtain ⟨W2, hb, e0, e1⟩ := k1
          obtain rfl := (f3 (he ⟨3, .data⟩ (by simp) rfl)).symm
          exact wp_of_run (run_len (.tmp 60) _ rfl rfl _ m _ rfl) ⟨_, _, _, _, _, _, _, rfl, put_ne (by decide) f0, put_ne (by decide) f1, put_ne (by decide) f2, put_ne (by decide) f3, put_eq rfl, put_ne (by decide) f5, put_ne (by decide) f6, fun e => have h := k0 (And'.ne (by decide) e); ⟨.inr h.1, .inr h.2.1, .inr h.2.2⟩, ⟨W2, hb, fun h => e0 fun h' => h (.inr h'), fun h => e1 (And'.ne (by decide) h)⟩⟩
        · obtain ⟨W2, hb, e0, e1⟩ := k1
          obtain rfl := (f4 (he ⟨4, .data⟩ (by simp) rfl)).symm
          exact wp_of_run (run_slice1 (.tmp 8) (.tmp 61) rfl (w3.heap.size + 1) m rfl rfl (by omega)) ⟨_, _, _, _, _, _, _, rfl, put_ne (by decide) f0, put_ne (by decide) f1, put_ne (by decide) f2, put_ne (by decide) f3, put_ne (by decide) f4, put_eq rfl, put_ne (by decide) f6, fun e => have h := k0 (And'.ne (by decide) e); ⟨.inr h.1, .inr h.2.1, .inr h.2.2⟩, ⟨W2, hb, fun h => e0 fun h' => h (.inr h'), fun h => e1 (And'.ne (by decide) h)⟩⟩
        · obtain ⟨W2, hb, e0, e1⟩ := k1
          have hn7 : ¬ D 7 := fun h => hn (k0 h).2.2
          obtain rfl := e0 hn7
          obtain rfl := (f1 (he ⟨1, .data⟩ (by simp) rfl)).symm
          obtain rfl := (f5 (he ⟨5, .data⟩ (by simp) rfl)).symm
          exact wp_of_call (run_enter2 92 (.tmp 58) (.tmp 62) _ rfl _ _ rfl rfl ent_difference) (HDF.out w1 hb) fun W3 h3 => ⟨_, _, _, _, _, _, _, rfl, put_ne (by decide) f0, put_ne (by decide) f1, put_ne (by decide) f2, put_ne (by decide) f3, put_ne (by decide) f4, put_ne (by decide) f5, put_eq rfl, fun e => absurd (And'.ne (by decide) e) hn7, ⟨W3, hb.trans (h3.mono hb.size), fun _ => rfl, fun h => absurd (And'.ne (by decide) h) hn7⟩⟩
        · obtain ⟨W2, hb, e0, e1⟩ := k1
          obtain rfl := e0 hn
          obtain rfl := (f6 (he ⟨6, .data⟩ (by simp) rfl)).symm
          refine wp_store_row 89 (.tmp 8) (.tmp 63) rfl (w3.heap.size + 1) _ rfl rfl 89 _ (H108.out.below hb H108.out.lt) (by rw [row_info, arr_size, combRow_length]) (by rw [arr_size, arr_size, hRl, combRow_length]) (arr_one _) ?_
          exact ⟨_, _, _, _, _, _, _, rfl, put_ne (by decide) f0, put_ne (by decide) f1, put_ne (by decide) f2, put_ne (by decide) f3, put_ne (by decide) f4, put_ne (by decide) f5, put_ne (by decide) f6, fun _ => ⟨.inr (he ⟨1, .phase⟩ (by simp) rfl), .inr (he ⟨3, .phase⟩ (by simp) rfl), .inr (he ⟨6, .phase⟩ (by simp) rfl)⟩, ⟨w1, hb, fun h => absurd (.inl rfl) h, fun _ => rfl⟩⟩
      case finU =>
        rintro D a w1 hD ⟨v57, v58, v59, v60, v61, v62, v63, rfl, f0, f1, f2, f3, f4, f5, f6, k0, k1⟩
        obtain ⟨W2, hb, -, e1⟩ := k1
        obtain rfl := e1 (hD 7 (by simp))
        exact htail _ _ _ _ _ _ _ _ _ _ _ _ _ _ _ _ _ _ _ _ _ _ _ _ _ _ _ _ _ _ _ _ _ _ _ _ _ _ _ _ _ _ _ _ _ _ _ _ _ _ _ _ _ _ _ _ _ _ _ _ _ _ _ _ _ _ _ _ _ _ _ (sumRow (Q.take n) [1]) (combRow subLo subHi (digs zb.natAbs) (R.take m)) _ ⟨(HD10.out.below hb).set (by omega) _, (H107.out.below hb H107.out.lt).setRowOther _ (by omega), (H108.out.below hb H108.out.lt).setRow _, sumRow_length _ _, combRow_length _ _ _ _, sum_digits (HQR.out.2.1.1.take _) one_digits, dif_digits _ _, Hval.out.1, Hval.out.2, below_setRow2 (HB10.out.trans (hb.mono HB10.out.size)) (by omega) _⟩
  · have hna : na = false := by rw [← Hna.out]; simp [hneg]
    subst hna
    obtain ⟨e1, e2⟩ := div_pos_rest (by omega : 0 ≤ za) h
    have HE := Lib.hid (And.intro e1 e2)
    clear e1 e2
    go_wp2_with fail
    exact htail _ _ _ _ _ _ _ _ _ _ _ _ _ _ _ _ _ _ _ _ _ _ _ _ _ _ _ _ _ _ _ _ _ _ _ _ _ _ _ _ _ _ _ _ _ _ _ _ _ _ _ _ _ _ _ _ _ _ _ _ _ _ _ _ _ _ _ _ _ _ _ Q R _ ⟨HD6.out, H67.out, H68.out, hQl, hRl, HQR.out.2.1.1, HQR.out.2.1.2, by rw [HcQ.out, HE.out.1, Int.natAbs_natCast], by rw [HcR.out, HE.out.2, Int.natAbs_natCast], HB6.out⟩
end Go.Proofs.YtegjcikofmphjaaGreatDoor

