/- sanity. (Written with genline.py and gen_san.py.) -/
import Derived.Test.YtdaipflgcgefgaaDoorRefs
set_option linter.all false
namespace Go.Proofs.YtdaipflgcgefgaaDoor
open Go Go.RowKit Go.Shelf

theorem text_of_big : decInt (-18446744073709551616) = [45, 49, 56, 52, 52, 54, 55, 52, 52, 48, 55, 51, 55, 48, 57, 53, 53, 49, 54, 49, 54] := by
  show (45 :: Lib.decDigits 18446744073709551616) = _
  simp [Lib.decDigits]

set_option maxRecDepth 100000 in
set_option maxHeartbeats 16000000 in
theorem sanity_calls (w : World) (ht : Tab w) : Calls Tryd.prog 9 #[] w fun e w' => e = .returned (.bool true) ∧ Ext w w' := by
  go_enter Tryd.func9, Tryd.ntmps9
  obtain ⟨W1, hW1⟩ : ∃ W1, W1 = ((w.alloc (.cells #[.int .u32 4294967295] 48)).alloc (.cells #[.bool false, .slice (some ⟨w.heap.size, 0, none⟩) 1 1] 26)) := ⟨_, rfl⟩
  have XW1 : Hid (Ext w W1) := by rw [hW1]; exact (Ext.alloc _ _).trans (Ext.alloc _ _)
  have Ra0 : Hid (RowAt W1 (w.heap.size) 48 #[.int .u32 4294967295]) := by rw [hW1]; exact (RowAt.new' _ _ (by simp)).alloc _
  have Ra1 : Hid (RowAt W1 (w.heap.size + 1) 26 #[.bool false, .slice (some ⟨w.heap.size, 0, none⟩) 1 1]) := by rw [hW1]; exact (RowAt.new' _ _ (by simp))
  have GW1 := Lib.hid hW1
  clear hW1
  have Zbig : Hid (ZNum W1.heap.size W1 (.agg #[.bool false, .slice (some ⟨w.heap.size, 0, none⟩) 1 1]) 4294967295) := znum_lit (ds := [4294967295]) (u32s_arr (xs := [4294967295]) Ra0.out Ra0.out.lt (by unfold maxLen; decide)) (digs_lit (by decide) (by decide) (by decide)) rfl (lim64 (by decide))
  go_wp2_with fail
  rw [← GW1.out]
  refine (mul_gives (z := 18446744065119617025) (neg := false) ((Ext.refl W1).num Zbig.out) ((Ext.refl W1).num Zbig.out) (by decide) rfl (lim64 (by decide))).mono ?_
  rintro e w1 ⟨p1, n1, c1, rfl, hz, hx⟩
  have Xw1 := Lib.hid hx
  have Zsq := Lib.hid hz
  clear hx hz
  obtain ⟨W2, hW2⟩ : ∃ W2, W2 = (w1.alloc (.cells #[.bool false, .slice p1 n1 c1] 26)) := ⟨_, rfl⟩
  have XW2 : Hid (Ext w1 W2) := by rw [hW2]; exact Ext.alloc _ _
  have Rb2 : Hid (RowAt W2 (w1.heap.size) 26 #[.bool false, .slice p1 n1 c1]) := by rw [hW2]; exact (RowAt.new' _ _ (by simp))
  have GW2 := Lib.hid hW2
  clear hW2
  go_wp2_with fail
  rw [← GW2.out]
  refine (of_gives (neg := false) (4294967296) (by decide) (by decide) rfl W2).mono ?_
  rintro e w2 ⟨p2, n2, c2, rfl, hz, hx⟩
  have Xw2 := Lib.hid hx
  have Zx := Lib.hid hz
  clear hx hz
  go_wp2_with fail
  refine (of_gives (neg := false) (1) (by decide) (by decide) rfl w2).mono ?_
  rintro e w3 ⟨p3, n3, c3, rfl, hz, hx⟩
  have Xw3 := Lib.hid hx
  have Zone := Lib.hid hz
  clear hx hz
  go_wp2_with fail
  refine (sub_gives (z := 4294967295) (neg := false) ((Xw3.out).num Zx.out) ((Ext.refl w3).num Zone.out) (by decide) rfl (lim64 (by decide))).mono ?_
  rintro e w4 ⟨p4, n4, c4, rfl, hz, hx⟩
  have Xw4 := Lib.hid hx
  have Zdf := Lib.hid hz
  clear hx hz
  obtain ⟨W3, hW3⟩ : ∃ W3, W3 = (w4.alloc (.cells #[.bool false, .slice p4 n4 c4] 26)) := ⟨_, rfl⟩
  have XW3 : Hid (Ext w4 W3) := by rw [hW3]; exact Ext.alloc _ _
  have Rb4 : Hid (RowAt W3 (w4.heap.size) 26 #[.bool false, .slice p4 n4 c4]) := by rw [hW3]; exact (RowAt.new' _ _ (by simp))
  have GW3 := Lib.hid hW3
  clear hW3
  go_wp2_with fail
  rw [← GW3.out]
  refine (of_gives (neg := false) (4294967296) (by decide) (by decide) rfl W3).mono ?_
  rintro e w5 ⟨p5, n5, c5, rfl, hz, hx⟩
  have Xw5 := Lib.hid hx
  have Zy := Lib.hid hz
  clear hx hz
  obtain ⟨W4, hW4⟩ : ∃ W4, W4 = (w5.alloc (.cells #[.int .u32 0, .int .u32 1] 48)) := ⟨_, rfl⟩
  have XW4 : Hid (Ext w5 W4) := by rw [hW4]; exact Ext.alloc _ _
  have Rs5 : Hid (RowAt W4 (w5.heap.size) 48 #[.int .u32 0, .int .u32 1]) := by rw [hW4]; exact (RowAt.new' _ _ (by simp))
  have GW4 := Lib.hid hW4
  clear hW4
  have Us5 : Hid (U32s W4.heap.size W4 (.slice (some ⟨w5.heap.size, 0, none⟩) 2 2) [0, 1]) := u32s_arr (xs := [0, 1]) Rs5.out Rs5.out.lt (by unfold maxLen; decide)
  go_wp2_with fail
  rw [← GW4.out]
  refine (is_lit (z := 4294967296) ((XW4.out).num Zy.out) Us5.out (digs_lit (by decide) (by decide) (by decide)) rfl).mono ?_
  rintro e w6 ⟨rfl, hx⟩
  have Xw6 := Lib.hid hx
  clear hx 
  go_wp2_with fail
  refine (of_gives (neg := true) (-1) (by decide) (by decide) rfl w6).mono ?_
  rintro e w7 ⟨p7, n7, c7, rfl, hz, hx⟩
  have Xw7 := Lib.hid hx
  have Zm1 := Lib.hid hz
  clear hx hz
  obtain ⟨W5, hW5⟩ : ∃ W5, W5 = (w7.alloc (.cells #[.int .u32 1] 48)) := ⟨_, rfl⟩
  have XW5 : Hid (Ext w7 W5) := by rw [hW5]; exact Ext.alloc _ _
  have Rs7 : Hid (RowAt W5 (w7.heap.size) 48 #[.int .u32 1]) := by rw [hW5]; exact (RowAt.new' _ _ (by simp))
  have GW5 := Lib.hid hW5
  clear hW5
  have Us7 : Hid (U32s W5.heap.size W5 (.slice (some ⟨w7.heap.size, 0, none⟩) 1 1) [1]) := u32s_arr (xs := [1]) Rs7.out Rs7.out.lt (by unfold maxLen; decide)
  go_wp2_with fail
  rw [← GW5.out]
  refine (is_lit (z := -1) ((XW5.out).num Zm1.out) Us7.out (digs_lit (by decide) (by decide) (by decide)) rfl).mono ?_
  rintro e w8 ⟨rfl, hx⟩
  have Xw8 := Lib.hid hx
  clear hx 
  have hb20 := ((Xw2.out.trans (Xw3.out.trans (Xw4.out.trans (XW3.out.trans (Xw5.out.trans (XW4.out.trans (Xw6.out.trans (Xw7.out.trans (XW5.out.trans (Xw8.out)))))))))).row Rb2.out).num0
  have hb21 := ((Xw2.out.trans (Xw3.out.trans (Xw4.out.trans (XW3.out.trans (Xw5.out.trans (XW4.out.trans (Xw6.out.trans (Xw7.out.trans (XW5.out.trans (Xw8.out)))))))))).row Rb2.out).num1
  obtain ⟨W6, hW6⟩ : ∃ W6, W6 = (w8.alloc (.cells #[.int .u32 1, .int .u32 4294967294] 48)) := ⟨_, rfl⟩
  have XW6 : Hid (Ext w8 W6) := by rw [hW6]; exact Ext.alloc _ _
  have Rs8 : Hid (RowAt W6 (w8.heap.size) 48 #[.int .u32 1, .int .u32 4294967294]) := by rw [hW6]; exact (RowAt.new' _ _ (by simp))
  have GW6 := Lib.hid hW6
  clear hW6
  have Us8 : Hid (U32s W6.heap.size W6 (.slice (some ⟨w8.heap.size, 0, none⟩) 2 2) [1, 4294967294]) := u32s_arr (xs := [1, 4294967294]) Rs8.out Rs8.out.lt (by unfold maxLen; decide)
  go_wp2_with fail
  rw [← GW6.out]
  refine (is_lit (z := 18446744065119617025) ((XW2.out.trans (Xw2.out.trans (Xw3.out.trans (Xw4.out.trans (XW3.out.trans (Xw5.out.trans (XW4.out.trans (Xw6.out.trans (Xw7.out.trans (XW5.out.trans (Xw8.out.trans (XW6.out)))))))))))).num Zsq.out) Us8.out (digs_lit (by decide) (by decide) (by decide)) rfl).mono ?_
  rintro e w9 ⟨rfl, hx⟩
  have Xw9 := Lib.hid hx
  clear hx 
  have hb40 := ((Xw5.out.trans (XW4.out.trans (Xw6.out.trans (Xw7.out.trans (XW5.out.trans (Xw8.out.trans (XW6.out.trans (Xw9.out)))))))).row Rb4.out).num0
  have hb41 := ((Xw5.out.trans (XW4.out.trans (Xw6.out.trans (Xw7.out.trans (XW5.out.trans (Xw8.out.trans (XW6.out.trans (Xw9.out)))))))).row Rb4.out).num1
  obtain ⟨W7, hW7⟩ : ∃ W7, W7 = (w9.alloc (.cells #[.int .u32 4294967295] 48)) := ⟨_, rfl⟩
  have XW7 : Hid (Ext w9 W7) := by rw [hW7]; exact Ext.alloc _ _
  have Rs9 : Hid (RowAt W7 (w9.heap.size) 48 #[.int .u32 4294967295]) := by rw [hW7]; exact (RowAt.new' _ _ (by simp))
  have GW7 := Lib.hid hW7
  clear hW7
  have Us9 : Hid (U32s W7.heap.size W7 (.slice (some ⟨w9.heap.size, 0, none⟩) 1 1) [4294967295]) := u32s_arr (xs := [4294967295]) Rs9.out Rs9.out.lt (by unfold maxLen; decide)
  go_wp2_with fail
  rw [← GW7.out]
  refine (is_lit (z := 4294967295) ((XW3.out.trans (Xw5.out.trans (XW4.out.trans (Xw6.out.trans (Xw7.out.trans (XW5.out.trans (Xw8.out.trans (XW6.out.trans (Xw9.out.trans (XW7.out)))))))))).num Zdf.out) Us9.out (digs_lit (by decide) (by decide) (by decide)) rfl).mono ?_
  rintro e w10 ⟨rfl, hx⟩
  have Xw10 := Lib.hid hx
  clear hx 
  go_wp2_with fail
  refine (of_gives (neg := true) (-7) (by decide) (by decide) rfl w10).mono ?_
  rintro e w11 ⟨p11, n11, c11, rfl, hz, hx⟩
  have Xw11 := Lib.hid hx
  have Zm7 := Lib.hid hz
  clear hx hz
  go_wp2_with fail
  refine (of_gives (neg := false) (2) (by decide) (by decide) rfl w11).mono ?_
  rintro e w12 ⟨p12, n12, c12, rfl, hz, hx⟩
  have Xw12 := Lib.hid hx
  have Ztwo := Lib.hid hz
  clear hx hz
  go_wp2_with fail
  refine (div_gives (q := -4) (r := 1) (nq := true) (nr := false) ((Xw12.out).num Zm7.out) ((Ext.refl w12).num Ztwo.out) (by decide) (by decide) (by decide) rfl rfl).mono ?_
  rintro e w13 ⟨p13, n13, c13, q13, m13, d13, rfl, hz, hz2, hx⟩
  have Xw13 := Lib.hid hx
  have Zq := Lib.hid hz
  have Zr := Lib.hid hz2
  clear hx hz hz2
  obtain ⟨W8, hW8⟩ : ∃ W8, W8 = ((w13.alloc (.cells #[.bool true, .slice p13 n13 c13] 26)).alloc (.cells #[.bool false, .slice q13 m13 d13] 26)) := ⟨_, rfl⟩
  have XW8 : Hid (Ext w13 W8) := by rw [hW8]; exact (Ext.alloc _ _).trans (Ext.alloc _ _)
  have Rb7 : Hid (RowAt W8 (w13.heap.size) 26 #[.bool true, .slice p13 n13 c13]) := by rw [hW8]; exact (RowAt.new' _ _ (by simp)).alloc _
  have Rb8 : Hid (RowAt W8 (w13.heap.size + 1) 26 #[.bool false, .slice q13 m13 d13]) := by rw [hW8]; exact (RowAt.new' _ _ (by simp))
  have GW8 := Lib.hid hW8
  clear hW8
  go_wp2_with fail
  rw [← GW8.out]
  refine (of_gives (neg := false) (7) (by decide) (by decide) rfl W8).mono ?_
  rintro e w14 ⟨p14, n14, c14, rfl, hz, hx⟩
  have Xw14 := Lib.hid hx
  have Zsv := Lib.hid hz
  clear hx hz
  go_wp2_with fail
  refine (of_gives (neg := false) (0) (by decide) (by decide) rfl w14).mono ?_
  rintro e w15 ⟨p15, n15, c15, rfl, hz, hx⟩
  have Xw15 := Lib.hid hx
  have Zze := Lib.hid hz
  clear hx hz
  go_wp2_with fail
  refine (div_none ((Xw15.out).num Zsv.out) ((Ext.refl w15).num Zze.out) (by decide)).mono ?_
  rintro e w16 ⟨p16, n16, c16, q16, m16, d16, rfl, hz, hz2, hx⟩
  have Xw16 := Lib.hid hx
  have Zq2 := Lib.hid hz
  have Zr2 := Lib.hid hz2
  clear hx hz hz2
  obtain ⟨W9, hW9⟩ : ∃ W9, W9 = ((w16.alloc (.cells #[.bool false, .slice p16 n16 c16] 26)).alloc (.cells #[.bool false, .slice q16 m16 d16] 26)) := ⟨_, rfl⟩
  have XW9 : Hid (Ext w16 W9) := by rw [hW9]; exact (Ext.alloc _ _).trans (Ext.alloc _ _)
  have Rb10 : Hid (RowAt W9 (w16.heap.size) 26 #[.bool false, .slice p16 n16 c16]) := by rw [hW9]; exact (RowAt.new' _ _ (by simp)).alloc _
  have Rb11 : Hid (RowAt W9 (w16.heap.size + 1) 26 #[.bool false, .slice q16 m16 d16]) := by rw [hW9]; exact (RowAt.new' _ _ (by simp))
  have GW9 := Lib.hid hW9
  clear hW9
  go_wp2_with fail
  rw [← GW9.out]
  refine (of_gives (neg := true) (-12) (by decide) (by decide) rfl W9).mono ?_
  rintro e w17 ⟨p17, n17, c17, rfl, hz, hx⟩
  have Xw17 := Lib.hid hx
  have Zm12 := Lib.hid hz
  clear hx hz
  go_wp2_with fail
  refine (of_gives (neg := false) (18) (by decide) (by decide) rfl w17).mono ?_
  rintro e w18 ⟨p18, n18, c18, rfl, hz, hx⟩
  have Xw18 := Lib.hid hx
  have Zet := Lib.hid hz
  clear hx hz
  go_wp2_with fail
  refine (gcd_gives (z := 6) ((Xw18.out).num Zm12.out) ((Ext.refl w18).num Zet.out) (by decide)).mono ?_
  rintro e w19 ⟨p19, n19, c19, rfl, hz, hx⟩
  have Xw19 := Lib.hid hx
  have Zg := Lib.hid hz
  clear hx hz
  obtain ⟨W10, hW10⟩ : ∃ W10, W10 = (w19.alloc (.cells #[.bool false, .slice p19 n19 c19] 26)) := ⟨_, rfl⟩
  have XW10 : Hid (Ext w19 W10) := by rw [hW10]; exact Ext.alloc _ _
  have Rb13 : Hid (RowAt W10 (w19.heap.size) 26 #[.bool false, .slice p19 n19 c19]) := by rw [hW10]; exact (RowAt.new' _ _ (by simp))
  have GW10 := Lib.hid hW10
  clear hW10
  go_wp2_with fail
  rw [← GW10.out]
  refine (of_gives (neg := false) (0) (by decide) (by decide) rfl W10).mono ?_
  rintro e w20 ⟨p20, n20, c20, rfl, hz, hx⟩
  have Xw20 := Lib.hid hx
  have Zz1 := Lib.hid hz
  clear hx hz
  go_wp2_with fail
  refine (of_gives (neg := false) (0) (by decide) (by decide) rfl w20).mono ?_
  rintro e w21 ⟨p21, n21, c21, rfl, hz, hx⟩
  have Xw21 := Lib.hid hx
  have Zz2 := Lib.hid hz
  clear hx hz
  go_wp2_with fail
  refine (gcd_gives (z := 0) ((Xw21.out).num Zz1.out) ((Ext.refl w21).num Zz2.out) (by decide)).mono ?_
  rintro e w22 ⟨p22, n22, c22, rfl, hz, hx⟩
  have Xw22 := Lib.hid hx
  have Zh := Lib.hid hz
  clear hx hz
  obtain ⟨W11, hW11⟩ : ∃ W11, W11 = ((w22.alloc (.cells #[.bool false, .slice p22 n22 c22] 26)).alloc (.cells #[.int .u32 4] 48)) := ⟨_, rfl⟩
  have XW11 : Hid (Ext w22 W11) := by rw [hW11]; exact (Ext.alloc _ _).trans (Ext.alloc _ _)
  have Rb15 : Hid (RowAt W11 (w22.heap.size) 26 #[.bool false, .slice p22 n22 c22]) := by rw [hW11]; exact (RowAt.new' _ _ (by simp)).alloc _
  have Rs9 : Hid (RowAt W11 (w22.heap.size + 1) 48 #[.int .u32 4]) := by rw [hW11]; exact (RowAt.new' _ _ (by simp))
  have GW11 := Lib.hid hW11
  clear hW11
  have Us9 : Hid (U32s W11.heap.size W11 (.slice (some ⟨w22.heap.size + 1, 0, none⟩) 1 1) [4]) := u32s_arr (xs := [4]) Rs9.out Rs9.out.lt (by unfold maxLen; decide)
  have hb70 : ∀ o1, (w22.alloc o1).cell? ⟨w13.heap.size, 0, none⟩ = some (.bool true) := fun o1 => ((((Xw14.out.trans (Xw15.out.trans (Xw16.out.trans (XW9.out.trans (Xw17.out.trans (Xw18.out.trans (Xw19.out.trans (XW10.out.trans (Xw20.out.trans (Xw21.out.trans (Xw22.out)))))))))))).trans (Ext.alloc _ o1)).row Rb7.out).num0
  have hb71 : ∀ o1, (w22.alloc o1).cell? ⟨w13.heap.size, 1, none⟩ = some (.slice p13 n13 c13) := fun o1 => ((((Xw14.out.trans (Xw15.out.trans (Xw16.out.trans (XW9.out.trans (Xw17.out.trans (Xw18.out.trans (Xw19.out.trans (XW10.out.trans (Xw20.out.trans (Xw21.out.trans (Xw22.out)))))))))))).trans (Ext.alloc _ o1)).row Rb7.out).num1
  go_wp2_with fail
  rw [← GW11.out]
  refine (is_lit (z := -4) ((XW8.out.trans (Xw14.out.trans (Xw15.out.trans (Xw16.out.trans (XW9.out.trans (Xw17.out.trans (Xw18.out.trans (Xw19.out.trans (XW10.out.trans (Xw20.out.trans (Xw21.out.trans (Xw22.out.trans (XW11.out))))))))))))).num Zq.out) Us9.out (digs_lit (by decide) (by decide) (by decide)) rfl).mono ?_
  rintro e w23 ⟨rfl, hx⟩
  have Xw23 := Lib.hid hx
  clear hx 
  have hb80 := ((Xw14.out.trans (Xw15.out.trans (Xw16.out.trans (XW9.out.trans (Xw17.out.trans (Xw18.out.trans (Xw19.out.trans (XW10.out.trans (Xw20.out.trans (Xw21.out.trans (Xw22.out.trans (XW11.out.trans (Xw23.out))))))))))))).row Rb8.out).num0
  have hb81 := ((Xw14.out.trans (Xw15.out.trans (Xw16.out.trans (XW9.out.trans (Xw17.out.trans (Xw18.out.trans (Xw19.out.trans (XW10.out.trans (Xw20.out.trans (Xw21.out.trans (Xw22.out.trans (XW11.out.trans (Xw23.out))))))))))))).row Rb8.out).num1
  obtain ⟨W12, hW12⟩ : ∃ W12, W12 = (w23.alloc (.cells #[.int .u32 1] 48)) := ⟨_, rfl⟩
  have XW12 : Hid (Ext w23 W12) := by rw [hW12]; exact Ext.alloc _ _
  have Rs23 : Hid (RowAt W12 (w23.heap.size) 48 #[.int .u32 1]) := by rw [hW12]; exact (RowAt.new' _ _ (by simp))
  have GW12 := Lib.hid hW12
  clear hW12
  have Us23 : Hid (U32s W12.heap.size W12 (.slice (some ⟨w23.heap.size, 0, none⟩) 1 1) [1]) := u32s_arr (xs := [1]) Rs23.out Rs23.out.lt (by unfold maxLen; decide)
  go_wp2_with fail
  rw [← GW12.out]
  refine (is_lit (z := 1) ((XW8.out.trans (Xw14.out.trans (Xw15.out.trans (Xw16.out.trans (XW9.out.trans (Xw17.out.trans (Xw18.out.trans (Xw19.out.trans (XW10.out.trans (Xw20.out.trans (Xw21.out.trans (Xw22.out.trans (XW11.out.trans (Xw23.out.trans (XW12.out))))))))))))))).num Zr.out) Us23.out (digs_lit (by decide) (by decide) (by decide)) rfl).mono ?_
  rintro e w24 ⟨rfl, hx⟩
  have Xw24 := Lib.hid hx
  clear hx 
  have hb130 := ((Xw20.out.trans (Xw21.out.trans (Xw22.out.trans (XW11.out.trans (Xw23.out.trans (XW12.out.trans (Xw24.out))))))).row Rb13.out).num0
  have hb131 := ((Xw20.out.trans (Xw21.out.trans (Xw22.out.trans (XW11.out.trans (Xw23.out.trans (XW12.out.trans (Xw24.out))))))).row Rb13.out).num1
  obtain ⟨W13, hW13⟩ : ∃ W13, W13 = (w24.alloc (.cells #[.int .u32 6] 48)) := ⟨_, rfl⟩
  have XW13 : Hid (Ext w24 W13) := by rw [hW13]; exact Ext.alloc _ _
  have Rs24 : Hid (RowAt W13 (w24.heap.size) 48 #[.int .u32 6]) := by rw [hW13]; exact (RowAt.new' _ _ (by simp))
  have GW13 := Lib.hid hW13
  clear hW13
  have Us24 : Hid (U32s W13.heap.size W13 (.slice (some ⟨w24.heap.size, 0, none⟩) 1 1) [6]) := u32s_arr (xs := [6]) Rs24.out Rs24.out.lt (by unfold maxLen; decide)
  go_wp2_with fail
  rw [← GW13.out]
  refine (is_lit (z := 6) ((XW10.out.trans (Xw20.out.trans (Xw21.out.trans (Xw22.out.trans (XW11.out.trans (Xw23.out.trans (XW12.out.trans (Xw24.out.trans (XW13.out))))))))).num Zg.out) Us24.out (digs_lit (by decide) (by decide) (by decide)) rfl).mono ?_
  rintro e w25 ⟨rfl, hx⟩
  have Xw25 := Lib.hid hx
  clear hx 
  have hb150 := ((Xw23.out.trans (XW12.out.trans (Xw24.out.trans (XW13.out.trans (Xw25.out))))).row Rb15.out).num0
  have hb151 := ((Xw23.out.trans (XW12.out.trans (Xw24.out.trans (XW13.out.trans (Xw25.out))))).row Rb15.out).num1
  go_wp2_with fail
  refine (is_lit (z := 0) ((XW11.out.trans (Xw23.out.trans (XW12.out.trans (Xw24.out.trans (XW13.out.trans (Xw25.out)))))).num Zh.out) (u32s_nil _ _) (digs_lit (by decide) (by decide) (by decide)) rfl).mono ?_
  rintro e w26 ⟨rfl, hx⟩
  have Xw26 := Lib.hid hx
  clear hx 
  obtain ⟨W14, hW14⟩ : ∃ W14, W14 = (w26.alloc (.cells #[.int .u32 0, .int .u32 2147483648] 48)) := ⟨_, rfl⟩
  have XW14 : Hid (Ext w26 W14) := by rw [hW14]; exact Ext.alloc _ _
  have Ri1 : Hid (RowAt W14 (w26.heap.size) 48 #[.int .u32 0, .int .u32 2147483648]) := by rw [hW14]; exact (RowAt.new' _ _ (by simp))
  have GW14 := Lib.hid hW14
  clear hW14
  have Ui1 : Hid (U32s W14.heap.size W14 (.slice (some ⟨w26.heap.size, 0, none⟩) 2 2) [0, 2147483648]) := u32s_arr (xs := [0, 2147483648]) Ri1.out Ri1.out.lt (by unfold maxLen; decide)
  have Zi1 : Hid (ZNum W14.heap.size W14 (.agg #[.bool false, .slice (some ⟨w26.heap.size, 0, none⟩) 2 2]) (9223372036854775808)) := znum_lit (ds := [0, 2147483648]) Ui1.out (digs_lit (by decide) (by decide) (by decide)) rfl (lim64 (by decide))
  go_wp2_with fail
  rw [← GW14.out]
  refine (int_none Zi1.out (by decide)).mono ?_
  rintro e w27 ⟨rfl, hx⟩
  have Xw27 := Lib.hid hx
  clear hx 
  obtain ⟨W15, hW15⟩ : ∃ W15, W15 = (w27.alloc (.cells #[.int .u32 0, .int .u32 2147483648] 48)) := ⟨_, rfl⟩
  have XW15 : Hid (Ext w27 W15) := by rw [hW15]; exact Ext.alloc _ _
  have Ri2 : Hid (RowAt W15 (w27.heap.size) 48 #[.int .u32 0, .int .u32 2147483648]) := by rw [hW15]; exact (RowAt.new' _ _ (by simp))
  have GW15 := Lib.hid hW15
  clear hW15
  have Ui2 : Hid (U32s W15.heap.size W15 (.slice (some ⟨w27.heap.size, 0, none⟩) 2 2) [0, 2147483648]) := u32s_arr (xs := [0, 2147483648]) Ri2.out Ri2.out.lt (by unfold maxLen; decide)
  have Zi2 : Hid (ZNum W15.heap.size W15 (.agg #[.bool true, .slice (some ⟨w27.heap.size, 0, none⟩) 2 2]) (-9223372036854775808)) := znum_lit (ds := [0, 2147483648]) Ui2.out (digs_lit (by decide) (by decide) (by decide)) rfl (lim64 (by decide))
  go_wp2_with fail
  rw [← GW15.out]
  refine (int_gives Zi2.out (by decide) (by decide)).mono ?_
  rintro e w28 ⟨rfl, hx⟩
  have Xw28 := Lib.hid hx
  clear hx 
  obtain ⟨W16, hW16⟩ : ∃ W16, W16 = (w28.alloc (.cells #[.int .u32 0, .int .u32 0, .int .u32 1] 48)) := ⟨_, rfl⟩
  have XW16 : Hid (Ext w28 W16) := by rw [hW16]; exact Ext.alloc _ _
  have Rt1 : Hid (RowAt W16 (w28.heap.size) 48 #[.int .u32 0, .int .u32 0, .int .u32 1]) := by rw [hW16]; exact (RowAt.new' _ _ (by simp))
  have GW16 := Lib.hid hW16
  clear hW16
  have Ut1 : Hid (U32s W16.heap.size W16 (.slice (some ⟨w28.heap.size, 0, none⟩) 3 3) [0, 0, 1]) := u32s_arr (xs := [0, 0, 1]) Rt1.out Rt1.out.lt (by unfold maxLen; decide)
  have Zt1 : Hid (ZNum W16.heap.size W16 (.agg #[.bool true, .slice (some ⟨w28.heap.size, 0, none⟩) 3 3]) (-18446744073709551616)) := znum_lit (ds := [0, 0, 1]) Ut1.out (digs_lit (by decide) (by decide) (by decide)) rfl (lim64 (by decide))
  go_wp2_with fail
  rw [← GW16.out]
  refine (text_calls _ _ _ Zt1.out ((XW1.out.trans (Xw1.out.trans (XW2.out.trans (Xw2.out.trans (Xw3.out.trans (Xw4.out.trans (XW3.out.trans (Xw5.out.trans (XW4.out.trans (Xw6.out.trans (Xw7.out.trans (XW5.out.trans (Xw8.out.trans (XW6.out.trans (Xw9.out.trans (XW7.out.trans (Xw10.out.trans (Xw11.out.trans (Xw12.out.trans (Xw13.out.trans (XW8.out.trans (Xw14.out.trans (Xw15.out.trans (Xw16.out.trans (XW9.out.trans (Xw17.out.trans (Xw18.out.trans (Xw19.out.trans (XW10.out.trans (Xw20.out.trans (Xw21.out.trans (Xw22.out.trans (XW11.out.trans (Xw23.out.trans (XW12.out.trans (Xw24.out.trans (XW13.out.trans (Xw25.out.trans (Xw26.out.trans (XW14.out.trans (Xw27.out.trans (XW15.out.trans (Xw28.out.trans (XW16.out)))))))))))))))))))))))))))))))))))))))))))).tab ht)).mono ?_
  rintro e w29 ⟨rfl, hx⟩
  have Xw29 := Lib.hid hx
  clear hx 
  rw [text_of_big]
  go_wp2
  go_ret
  exact ⟨rfl, (XW1.out.trans (Xw1.out.trans (XW2.out.trans (Xw2.out.trans (Xw3.out.trans (Xw4.out.trans (XW3.out.trans (Xw5.out.trans (XW4.out.trans (Xw6.out.trans (Xw7.out.trans (XW5.out.trans (Xw8.out.trans (XW6.out.trans (Xw9.out.trans (XW7.out.trans (Xw10.out.trans (Xw11.out.trans (Xw12.out.trans (Xw13.out.trans (XW8.out.trans (Xw14.out.trans (Xw15.out.trans (Xw16.out.trans (XW9.out.trans (Xw17.out.trans (Xw18.out.trans (Xw19.out.trans (XW10.out.trans (Xw20.out.trans (Xw21.out.trans (Xw22.out.trans (XW11.out.trans (Xw23.out.trans (XW12.out.trans (Xw24.out.trans (XW13.out.trans (Xw25.out.trans (Xw26.out.trans (XW14.out.trans (Xw27.out.trans (XW15.out.trans (Xw28.out.trans (XW16.out.trans (Xw29.out)))))))))))))))))))))))))))))))))))))))))))))⟩

end Go.Proofs.YtdaipflgcgefgaaDoor
