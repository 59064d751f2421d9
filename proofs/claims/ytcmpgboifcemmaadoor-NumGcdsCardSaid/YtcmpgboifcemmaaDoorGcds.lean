/- NumGcds. (Written with sym.py and gen_back.py.) -/
import Derived.Test.YtcmpgboifcemmaaDoorBack
set_option linter.all false
namespace Go.Proofs.YtcmpgboifcemmaaDoor
open Go Go.RowKit Go.Shelf

theorem gcd_lt {a b k : Nat} (ha : a < B32 ^ k) (hb : b < B32 ^ k) : Nat.gcd a b < B32 ^ k := by
  rcases Nat.eq_zero_or_pos b with e | e
  · subst e; rw [Nat.gcd_zero_right]; exact ha
  · exact Nat.lt_of_le_of_lt (Nat.le_of_dvd e (Nat.gcd_dvd_right a b)) hb
theorem emod_gcd_l {a b g : Int} (hg : ((Nat.gcd a.natAbs b.natAbs : Nat) : Int) = g) : a % g = 0 := by
  subst hg
  exact Int.emod_eq_zero_of_dvd (Int.ofNat_dvd_left.2 (Nat.gcd_dvd_left _ _))
theorem emod_gcd_r {a b g : Int} (hg : ((Nat.gcd a.natAbs b.natAbs : Nat) : Int) = g) : b % g = 0 := by
  subst hg
  exact Int.emod_eq_zero_of_dvd (Int.ofNat_dvd_left.2 (Nat.gcd_dvd_right _ _))
theorem div_zero {va vb : Value} {za zb q : Int} {nq : Bool} {w : World} (ha : ZNum w.heap.size w va za) (hb : ZNum w.heap.size w vb zb) (h : 0 < zb) (hq : za / zb = q) (hr : za % zb = 0) (hnq : decide (q < 0) = nq) :
    Calls Tryd.prog 11 #[va, vb] w fun e w' => ∃ p n c p2 c2, e = .returned (.tuple #[.agg #[.bool nq, .slice p n c], .agg #[.bool false, .slice p2 0 c2], .bool true]) ∧ ZNum w'.heap.size w' (.agg #[.bool nq, .slice p n c]) q ∧ Ext w w' :=
  (div_gives (nr := false) ha hb h hq hr hnq rfl).mono fun e w' ⟨p, n, c, p2, n2, c2, he, hz, hz2, hx⟩ => by
    have := znum_zero hz2
    subst this
    exact ⟨p, n, c, p2, c2, he, hz, hx⟩

set_option maxRecDepth 100000 in
set_option maxHeartbeats 16000000 in
theorem numGcds_walk (va vb vc : Value) (la lb lc : List Int) (w : World) (ht : Tab w) (hva : I64s w.heap.size w va la) (hvb : I64s w.heap.size w vb lb) (hvc : I64s w.heap.size w vc lc) :
    Calls Tryd.prog 7 #[va, vb, vc] w fun e w' => e = .returned (.bool true) ∧ Ext w w' := by
  obtain ⟨a, ha⟩ : ∃ a, madeOf la = a := ⟨_, rfl⟩
  obtain ⟨b, hb⟩ : ∃ b, madeOf lb = b := ⟨_, rfl⟩
  obtain ⟨c, hc⟩ : ∃ c, madeOf lc = c := ⟨_, rfl⟩
  obtain ⟨d, hcd⟩ : ∃ d : Int, (c.natAbs : Int) = d := ⟨_, rfl⟩
  obtain ⟨g, hg⟩ : ∃ g : Int, ((Nat.gcd a.natAbs b.natAbs : Nat) : Int) = g := ⟨_, rfl⟩
  have la6 := madeOf_lt la
  have lb6 := madeOf_lt lb
  have lc6 := madeOf_lt lc
  rw [ha] at la6
  rw [hb] at lb6
  rw [hc] at lc6
  have ld6 : d.natAbs < B32 ^ 6 := by rw [← hcd, Int.natAbs_natCast]; exact lc6
  have lg6 : g.natAbs < B32 ^ 6 := by rw [← hg, Int.natAbs_natCast]; exact gcd_lt la6 lb6
  have lad := lim_up (lim_mul la6 ld6) (by decide)
  have lbd := lim_up (lim_mul lb6 ld6) (by decide)
  have lgd := lim_up (lim_mul lg6 ld6) (by decide)
  have hd0 : 0 ≤ d := by omega
  have hg0 : 0 ≤ g := by omega
  have hag := emod_gcd_l hg
  have hbg := emod_gcd_r hg
  have hgd : ((Nat.gcd (a * d).natAbs (b * d).natAbs : Nat) : Int) = g * d := by
    rw [Int.natAbs_mul, Int.natAbs_mul, Nat.gcd_mul_right, Int.natCast_mul, hg, Int.natAbs_of_nonneg hd0]
  have hself : ((Nat.gcd d.natAbs (a * d).natAbs : Nat) : Int) = d := by
    rw [Int.natAbs_mul, Nat.gcd_mul_left_right, Int.natAbs_of_nonneg hd0]
  have hgn : ¬ g < 0 := by omega
  have HA := Lib.hid hva
  have HB := Lib.hid hvb
  have HC := Lib.hid hvc
  have Hcd := Lib.hid hcd
  clear hva hvb hvc la6 lb6 lc6 ld6 lg6 hd0 hg0
  go_enter Tryd.func7, Tryd.ntmps7
  go_wp2_with fail
  refine (sanity_calls w ((Ext.refl w).tab ht)).mono ?_
  rintro e w1 ⟨rfl, hx⟩
  have Xw1 := Lib.hid hx
  clear hx 
  go_wp2_with fail
  refine (makes_of ha (makes_calls va la w1 ((Xw1.out).i64s HA.out))).mono ?_
  rintro e w2 ⟨p2, n2, c2, rfl, hz, hx⟩
  have Xw2 := Lib.hid hx
  have Z2 := Lib.hid hz
  clear hx hz
  go_wp2_with fail
  refine (makes_of hb (makes_calls vb lb w2 ((Ext.trans Xw1.out (Xw2.out)).i64s HB.out))).mono ?_
  rintro e w3 ⟨p3, n3, c3, rfl, hz, hx⟩
  have Xw3 := Lib.hid hx
  have Z3 := Lib.hid hz
  clear hx hz
  go_wp2_with fail
  refine (makes_of hc (makes_calls vc lc w3 ((Ext.trans Xw1.out (Ext.trans Xw2.out (Xw3.out))).i64s HC.out))).mono ?_
  rintro e w4 ⟨p4, n4, c4, rfl, hz, hx⟩
  have Xw4 := Lib.hid hx
  have Z4 := Lib.hid hz
  clear hx hz
  have Z4a := Lib.hid (znum_abs hcd Z4.out)
  obtain ⟨W1, hW1⟩ : ∃ W1, W1 = (((w4.alloc (.cells #[.bool (decide (a < 0)), .slice p2 n2 c2] 26)).alloc (.cells #[.bool (decide (b < 0)), .slice p3 n3 c3] 26)).alloc (.cells #[.bool false, .slice p4 n4 c4] 26)) := ⟨_, rfl⟩
  have XW1 : Hid (Ext w4 W1) := by rw [hW1]; exact (((Ext.alloc _ _).trans (Ext.alloc _ _)).trans (Ext.alloc _ _))
  have Rb1 : Hid (RowAt W1 (w4.heap.size) 26 #[.bool (decide (a < 0)), .slice p2 n2 c2]) := by rw [hW1]; exact (((RowAt.new' _ _ (by simp)).alloc _).alloc _)
  have Rb2 : Hid (RowAt W1 (w4.heap.size + 1) 26 #[.bool (decide (b < 0)), .slice p3 n3 c3]) := by rw [hW1]; exact ((RowAt.new' _ _ (by simp)).alloc _)
  have Rb3 : Hid (RowAt W1 (w4.heap.size + 1 + 1) 26 #[.bool false, .slice p4 n4 c4]) := by rw [hW1]; exact (RowAt.new' _ _ (by simp))
  have GW1 := Lib.hid hW1
  clear hW1
  go_wp2_with fail
  rw [← GW1.out]
  refine (gcd_gives (z := g) ((Ext.trans Xw3.out (Ext.trans Xw4.out (XW1.out))).num Z2.out) ((Ext.trans Xw4.out (XW1.out)).num Z3.out) hg).mono ?_
  rintro e w5 ⟨p5, n5, c5, rfl, hz, hx⟩
  have Xw5 := Lib.hid hx
  have Z5 := Lib.hid hz
  clear hx hz
  by_cases hgz : g = 0
  · have hn : n5 = 0 := by have h := Z5.out; rw [hgz] at h; exact znum_zero h
    subst hn
    clear hgz
    have hb1_0_5_1 : ∀ o0, (w5.alloc o0).cell? ⟨w4.heap.size, 0, none⟩ = some (.bool (decide (a < 0))) := fun o0 => (((Xw5.out).trans (Ext.alloc _ o0)).row Rb1.out).cell 0
    have hb1_1_5_1 : ∀ o0, (w5.alloc o0).cell? ⟨w4.heap.size, 1, none⟩ = some (.slice p2 n2 c2) := fun o0 => (((Xw5.out).trans (Ext.alloc _ o0)).row Rb1.out).cell 1
    have hb3_0_5_1 : ∀ o0, (w5.alloc o0).cell? ⟨w4.heap.size + 1 + 1, 0, none⟩ = some (.bool false) := fun o0 => (((Xw5.out).trans (Ext.alloc _ o0)).row Rb3.out).cell 0
    have hb3_1_5_1 : ∀ o0, (w5.alloc o0).cell? ⟨w4.heap.size + 1 + 1, 1, none⟩ = some (.slice p4 n4 c4) := fun o0 => (((Xw5.out).trans (Ext.alloc _ o0)).row Rb3.out).cell 1
    obtain ⟨W2, hW2⟩ : ∃ W2, W2 = (w5.alloc (.cells #[.bool false, .slice p5 0 c5] 26)) := ⟨_, rfl⟩
    have XW2 : Hid (Ext w5 W2) := by rw [hW2]; exact (Ext.alloc _ _)
    have Rb4 : Hid (RowAt W2 (w5.heap.size) 26 #[.bool false, .slice p5 0 c5]) := by rw [hW2]; exact (RowAt.new' _ _ (by simp))
    have GW2 := Lib.hid hW2
    clear hW2
    go_wp2_with fail
    rw [← GW2.out]
    refine (mul_gives (z := (a * d)) (neg := (decide ((a * d) < 0))) ((Ext.trans Xw3.out (Ext.trans Xw4.out (Ext.trans XW1.out (Ext.trans Xw5.out (XW2.out))))).num Z2.out) ((Ext.trans XW1.out (Ext.trans Xw5.out (XW2.out))).num Z4a.out) rfl rfl lad).mono ?_
    rintro e w6 ⟨p6, n6, c6, rfl, hz, hx⟩
    have Xw6 := Lib.hid hx
    have Z6 := Lib.hid hz
    clear hx hz
    have hb2_0_6_1 : ∀ o0, (w6.alloc o0).cell? ⟨w4.heap.size + 1, 0, none⟩ = some (.bool (decide (b < 0))) := fun o0 => (((Ext.trans Xw5.out (Ext.trans XW2.out (Xw6.out))).trans (Ext.alloc _ o0)).row Rb2.out).cell 0
    have hb2_1_6_1 : ∀ o0, (w6.alloc o0).cell? ⟨w4.heap.size + 1, 1, none⟩ = some (.slice p3 n3 c3) := fun o0 => (((Ext.trans Xw5.out (Ext.trans XW2.out (Xw6.out))).trans (Ext.alloc _ o0)).row Rb2.out).cell 1
    have hb3_0_6_1 : ∀ o0, (w6.alloc o0).cell? ⟨w4.heap.size + 1 + 1, 0, none⟩ = some (.bool false) := fun o0 => (((Ext.trans Xw5.out (Ext.trans XW2.out (Xw6.out))).trans (Ext.alloc _ o0)).row Rb3.out).cell 0
    have hb3_1_6_1 : ∀ o0, (w6.alloc o0).cell? ⟨w4.heap.size + 1 + 1, 1, none⟩ = some (.slice p4 n4 c4) := fun o0 => (((Ext.trans Xw5.out (Ext.trans XW2.out (Xw6.out))).trans (Ext.alloc _ o0)).row Rb3.out).cell 1
    obtain ⟨W3, hW3⟩ : ∃ W3, W3 = (w6.alloc (.cells #[.bool (decide ((a * d) < 0)), .slice p6 n6 c6] 26)) := ⟨_, rfl⟩
    have XW3 : Hid (Ext w6 W3) := by rw [hW3]; exact (Ext.alloc _ _)
    have Rb5 : Hid (RowAt W3 (w6.heap.size) 26 #[.bool (decide ((a * d) < 0)), .slice p6 n6 c6]) := by rw [hW3]; exact (RowAt.new' _ _ (by simp))
    have GW3 := Lib.hid hW3
    clear hW3
    go_wp2_with fail
    rw [← GW3.out]
    refine (mul_gives (z := (b * d)) (neg := (decide ((b * d) < 0))) ((Ext.trans Xw4.out (Ext.trans XW1.out (Ext.trans Xw5.out (Ext.trans XW2.out (Ext.trans Xw6.out (XW3.out)))))).num Z3.out) ((Ext.trans XW1.out (Ext.trans Xw5.out (Ext.trans XW2.out (Ext.trans Xw6.out (XW3.out))))).num Z4a.out) rfl rfl lbd).mono ?_
    rintro e w7 ⟨p7, n7, c7, rfl, hz, hx⟩
    have Xw7 := Lib.hid hx
    have Z7 := Lib.hid hz
    clear hx hz
    have hb4_0_7_1 : ∀ o0, (w7.alloc o0).cell? ⟨w5.heap.size, 0, none⟩ = some (.bool false) := fun o0 => (((Ext.trans Xw6.out (Ext.trans XW3.out (Xw7.out))).trans (Ext.alloc _ o0)).row Rb4.out).cell 0
    have hb4_1_7_1 : ∀ o0, (w7.alloc o0).cell? ⟨w5.heap.size, 1, none⟩ = some (.slice p5 0 c5) := fun o0 => (((Ext.trans Xw6.out (Ext.trans XW3.out (Xw7.out))).trans (Ext.alloc _ o0)).row Rb4.out).cell 1
    have hb3_0_7_1 : ∀ o0, (w7.alloc o0).cell? ⟨w4.heap.size + 1 + 1, 0, none⟩ = some (.bool false) := fun o0 => (((Ext.trans Xw5.out (Ext.trans XW2.out (Ext.trans Xw6.out (Ext.trans XW3.out (Xw7.out))))).trans (Ext.alloc _ o0)).row Rb3.out).cell 0
    have hb3_1_7_1 : ∀ o0, (w7.alloc o0).cell? ⟨w4.heap.size + 1 + 1, 1, none⟩ = some (.slice p4 n4 c4) := fun o0 => (((Ext.trans Xw5.out (Ext.trans XW2.out (Ext.trans Xw6.out (Ext.trans XW3.out (Xw7.out))))).trans (Ext.alloc _ o0)).row Rb3.out).cell 1
    obtain ⟨W4, hW4⟩ : ∃ W4, W4 = (w7.alloc (.cells #[.bool (decide ((b * d) < 0)), .slice p7 n7 c7] 26)) := ⟨_, rfl⟩
    have XW4 : Hid (Ext w7 W4) := by rw [hW4]; exact (Ext.alloc _ _)
    have Rb6 : Hid (RowAt W4 (w7.heap.size) 26 #[.bool (decide ((b * d) < 0)), .slice p7 n7 c7]) := by rw [hW4]; exact (RowAt.new' _ _ (by simp))
    have GW4 := Lib.hid hW4
    clear hW4
    go_wp2_with fail
    rw [← GW4.out]
    refine (mul_gives (z := (g * d)) (neg := (decide ((g * d) < 0))) ((Ext.trans XW2.out (Ext.trans Xw6.out (Ext.trans XW3.out (Ext.trans Xw7.out (XW4.out))))).num Z5.out) ((Ext.trans XW1.out (Ext.trans Xw5.out (Ext.trans XW2.out (Ext.trans Xw6.out (Ext.trans XW3.out (Ext.trans Xw7.out (XW4.out))))))).num Z4a.out) rfl rfl lgd).mono ?_
    rintro e w8 ⟨p8, n8, c8, rfl, hz, hx⟩
    have Xw8 := Lib.hid hx
    have Z8 := Lib.hid hz
    clear hx hz
    have hb5_0_8_1 : ∀ o0, (w8.alloc o0).cell? ⟨w6.heap.size, 0, none⟩ = some (.bool (decide ((a * d) < 0))) := fun o0 => (((Ext.trans Xw7.out (Ext.trans XW4.out (Xw8.out))).trans (Ext.alloc _ o0)).row Rb5.out).cell 0
    have hb5_1_8_1 : ∀ o0, (w8.alloc o0).cell? ⟨w6.heap.size, 1, none⟩ = some (.slice p6 n6 c6) := fun o0 => (((Ext.trans Xw7.out (Ext.trans XW4.out (Xw8.out))).trans (Ext.alloc _ o0)).row Rb5.out).cell 1
    have hb6_0_8_1 : ∀ o0, (w8.alloc o0).cell? ⟨w7.heap.size, 0, none⟩ = some (.bool (decide ((b * d) < 0))) := fun o0 => (((Xw8.out).trans (Ext.alloc _ o0)).row Rb6.out).cell 0
    have hb6_1_8_1 : ∀ o0, (w8.alloc o0).cell? ⟨w7.heap.size, 1, none⟩ = some (.slice p7 n7 c7) := fun o0 => (((Xw8.out).trans (Ext.alloc _ o0)).row Rb6.out).cell 1
    obtain ⟨W5, hW5⟩ : ∃ W5, W5 = (w8.alloc (.cells #[.bool (decide ((g * d) < 0)), .slice p8 n8 c8] 26)) := ⟨_, rfl⟩
    have XW5 : Hid (Ext w8 W5) := by rw [hW5]; exact (Ext.alloc _ _)
    have Rb7 : Hid (RowAt W5 (w8.heap.size) 26 #[.bool (decide ((g * d) < 0)), .slice p8 n8 c8]) := by rw [hW5]; exact (RowAt.new' _ _ (by simp))
    have GW5 := Lib.hid hW5
    clear hW5
    go_wp2_with fail
    rw [← GW5.out]
    refine (gcd_gives (z := (g * d)) ((Ext.trans XW3.out (Ext.trans Xw7.out (Ext.trans XW4.out (Ext.trans Xw8.out (XW5.out))))).num Z6.out) ((Ext.trans XW4.out (Ext.trans Xw8.out (XW5.out))).num Z7.out) hgd).mono ?_
    rintro e w9 ⟨p9, n9, c9, rfl, hz, hx⟩
    have Xw9 := Lib.hid hx
    have Z9 := Lib.hid hz
    clear hx hz
    have hb3_0_9_1 : ∀ o0, (w9.alloc o0).cell? ⟨w4.heap.size + 1 + 1, 0, none⟩ = some (.bool false) := fun o0 => (((Ext.trans Xw5.out (Ext.trans XW2.out (Ext.trans Xw6.out (Ext.trans XW3.out (Ext.trans Xw7.out (Ext.trans XW4.out (Ext.trans Xw8.out (Ext.trans XW5.out (Xw9.out))))))))).trans (Ext.alloc _ o0)).row Rb3.out).cell 0
    have hb3_1_9_1 : ∀ o0, (w9.alloc o0).cell? ⟨w4.heap.size + 1 + 1, 1, none⟩ = some (.slice p4 n4 c4) := fun o0 => (((Ext.trans Xw5.out (Ext.trans XW2.out (Ext.trans Xw6.out (Ext.trans XW3.out (Ext.trans Xw7.out (Ext.trans XW4.out (Ext.trans Xw8.out (Ext.trans XW5.out (Xw9.out))))))))).trans (Ext.alloc _ o0)).row Rb3.out).cell 1
    have hb5_0_9_1 : ∀ o0, (w9.alloc o0).cell? ⟨w6.heap.size, 0, none⟩ = some (.bool (decide ((a * d) < 0))) := fun o0 => (((Ext.trans Xw7.out (Ext.trans XW4.out (Ext.trans Xw8.out (Ext.trans XW5.out (Xw9.out))))).trans (Ext.alloc _ o0)).row Rb5.out).cell 0
    have hb5_1_9_1 : ∀ o0, (w9.alloc o0).cell? ⟨w6.heap.size, 1, none⟩ = some (.slice p6 n6 c6) := fun o0 => (((Ext.trans Xw7.out (Ext.trans XW4.out (Ext.trans Xw8.out (Ext.trans XW5.out (Xw9.out))))).trans (Ext.alloc _ o0)).row Rb5.out).cell 1
    obtain ⟨W6, hW6⟩ : ∃ W6, W6 = (w9.alloc (.cells #[.bool false, .slice p9 n9 c9] 26)) := ⟨_, rfl⟩
    have XW6 : Hid (Ext w9 W6) := by rw [hW6]; exact (Ext.alloc _ _)
    have Rb8 : Hid (RowAt W6 (w9.heap.size) 26 #[.bool false, .slice p9 n9 c9]) := by rw [hW6]; exact (RowAt.new' _ _ (by simp))
    have GW6 := Lib.hid hW6
    clear hW6
    go_wp2_with fail
    rw [← GW6.out]
    refine (gcd_gives (z := d) ((Ext.trans XW1.out (Ext.trans Xw5.out (Ext.trans XW2.out (Ext.trans Xw6.out (Ext.trans XW3.out (Ext.trans Xw7.out (Ext.trans XW4.out (Ext.trans Xw8.out (Ext.trans XW5.out (Ext.trans Xw9.out (XW6.out))))))))))).num Z4a.out) ((Ext.trans XW3.out (Ext.trans Xw7.out (Ext.trans XW4.out (Ext.trans Xw8.out (Ext.trans XW5.out (Ext.trans Xw9.out (XW6.out))))))).num Z6.out) hself).mono ?_
    rintro e w10 ⟨p10, n10, c10, rfl, hz, hx⟩
    have Xw10 := Lib.hid hx
    have Z10 := Lib.hid hz
    clear hx hz
    have hb8_0_10_1 : ∀ o0, (w10.alloc o0).cell? ⟨w9.heap.size, 0, none⟩ = some (.bool false) := fun o0 => (((Xw10.out).trans (Ext.alloc _ o0)).row Rb8.out).cell 0
    have hb8_1_10_1 : ∀ o0, (w10.alloc o0).cell? ⟨w9.heap.size, 1, none⟩ = some (.slice p9 n9 c9) := fun o0 => (((Xw10.out).trans (Ext.alloc _ o0)).row Rb8.out).cell 1
    have hb7_0_10_1 : ∀ o0, (w10.alloc o0).cell? ⟨w8.heap.size, 0, none⟩ = some (.bool (decide ((g * d) < 0))) := fun o0 => (((Ext.trans Xw9.out (Ext.trans XW6.out (Xw10.out))).trans (Ext.alloc _ o0)).row Rb7.out).cell 0
    have hb7_1_10_1 : ∀ o0, (w10.alloc o0).cell? ⟨w8.heap.size, 1, none⟩ = some (.slice p8 n8 c8) := fun o0 => (((Ext.trans Xw9.out (Ext.trans XW6.out (Xw10.out))).trans (Ext.alloc _ o0)).row Rb7.out).cell 1
    obtain ⟨W7, hW7⟩ : ∃ W7, W7 = (w10.alloc (.cells #[.bool false, .slice p10 n10 c10] 26)) := ⟨_, rfl⟩
    have XW7 : Hid (Ext w10 W7) := by rw [hW7]; exact (Ext.alloc _ _)
    have Rb9 : Hid (RowAt W7 (w10.heap.size) 26 #[.bool false, .slice p10 n10 c10]) := by rw [hW7]; exact (RowAt.new' _ _ (by simp))
    have GW7 := Lib.hid hW7
    clear hW7
    go_wp2_with fail
    rw [← GW7.out]
    refine (same_calls _ _ ((g * d)) W7 ((Ext.trans XW6.out (Ext.trans Xw10.out (XW7.out))).num Z9.out) ((Ext.trans XW5.out (Ext.trans Xw9.out (Ext.trans XW6.out (Ext.trans Xw10.out (XW7.out))))).num Z8.out)).mono ?_
    rintro e w11 ⟨rfl, hx⟩
    have Xw11 := Lib.hid hx
    clear hx 
    have hb9_0_11 : w11.cell? ⟨w10.heap.size, 0, none⟩ = some (.bool false) := ((Xw11.out).row Rb9.out).cell 0
    have hb9_1_11 : w11.cell? ⟨w10.heap.size, 1, none⟩ = some (.slice p10 n10 c10) := ((Xw11.out).row Rb9.out).cell 1
    have hb3_0_11 : w11.cell? ⟨w4.heap.size + 1 + 1, 0, none⟩ = some (.bool false) := ((Ext.trans Xw5.out (Ext.trans XW2.out (Ext.trans Xw6.out (Ext.trans XW3.out (Ext.trans Xw7.out (Ext.trans XW4.out (Ext.trans Xw8.out (Ext.trans XW5.out (Ext.trans Xw9.out (Ext.trans XW6.out (Ext.trans Xw10.out (Ext.trans XW7.out (Xw11.out))))))))))))).row Rb3.out).cell 0
    have hb3_1_11 : w11.cell? ⟨w4.heap.size + 1 + 1, 1, none⟩ = some (.slice p4 n4 c4) := ((Ext.trans Xw5.out (Ext.trans XW2.out (Ext.trans Xw6.out (Ext.trans XW3.out (Ext.trans Xw7.out (Ext.trans XW4.out (Ext.trans Xw8.out (Ext.trans XW5.out (Ext.trans Xw9.out (Ext.trans XW6.out (Ext.trans Xw10.out (Ext.trans XW7.out (Xw11.out))))))))))))).row Rb3.out).cell 1
    go_wp2_with fail
    refine (same_calls _ _ d w11 ((Ext.trans XW7.out (Xw11.out)).num Z10.out) ((Ext.trans XW1.out (Ext.trans Xw5.out (Ext.trans XW2.out (Ext.trans Xw6.out (Ext.trans XW3.out (Ext.trans Xw7.out (Ext.trans XW4.out (Ext.trans Xw8.out (Ext.trans XW5.out (Ext.trans Xw9.out (Ext.trans XW6.out (Ext.trans Xw10.out (Ext.trans XW7.out (Xw11.out)))))))))))))).num Z4a.out)).mono ?_
    rintro e w12 ⟨rfl, hx⟩
    have Xw12 := Lib.hid hx
    clear hx 
    go_wp2
    go_ret
    exact ⟨rfl, (Ext.trans Xw1.out (Ext.trans Xw2.out (Ext.trans Xw3.out (Ext.trans Xw4.out (Ext.trans XW1.out (Ext.trans Xw5.out (Ext.trans XW2.out (Ext.trans Xw6.out (Ext.trans XW3.out (Ext.trans Xw7.out (Ext.trans XW4.out (Ext.trans Xw8.out (Ext.trans XW5.out (Ext.trans Xw9.out (Ext.trans XW6.out (Ext.trans Xw10.out (Ext.trans XW7.out (Ext.trans Xw11.out (Xw12.out)))))))))))))))))))⟩
  · have hn := znum_pos Z5.out hgz
    have hgp : 0 < g := by omega
    have hnp : (0 : Int) < (n5 : Int) := by omega
    clear hgz
    have hb1_0_5_1 : ∀ o0, (w5.alloc o0).cell? ⟨w4.heap.size, 0, none⟩ = some (.bool (decide (a < 0))) := fun o0 => (((Xw5.out).trans (Ext.alloc _ o0)).row Rb1.out).cell 0
    have hb1_1_5_1 : ∀ o0, (w5.alloc o0).cell? ⟨w4.heap.size, 1, none⟩ = some (.slice p2 n2 c2) := fun o0 => (((Xw5.out).trans (Ext.alloc _ o0)).row Rb1.out).cell 1
    obtain ⟨W2, hW2⟩ : ∃ W2, W2 = (w5.alloc (.cells #[.bool false, .slice p5 n5 c5] 26)) := ⟨_, rfl⟩
    have XW2 : Hid (Ext w5 W2) := by rw [hW2]; exact (Ext.alloc _ _)
    have Rb4 : Hid (RowAt W2 (w5.heap.size) 26 #[.bool false, .slice p5 n5 c5]) := by rw [hW2]; exact (RowAt.new' _ _ (by simp))
    have GW2 := Lib.hid hW2
    clear hW2
    go_wp2_with fail
    rw [← GW2.out]
    refine (div_zero (q := (a / g)) (nq := decide ((a / g) < 0)) ((Ext.trans Xw3.out (Ext.trans Xw4.out (Ext.trans XW1.out (Ext.trans Xw5.out (XW2.out))))).num Z2.out) ((XW2.out).num Z5.out) hgp rfl hag rfl).mono ?_
    rintro e w6 ⟨p6, n6, c6, q6, e6, rfl, hz, hx⟩
    have Xw6 := Lib.hid hx
    have Z6 := Lib.hid hz
    clear hx hz
    have hb2_0_6_2 : ∀ o0 o1, ((w6.alloc o0).alloc o1).cell? ⟨w4.heap.size + 1, 0, none⟩ = some (.bool (decide (b < 0))) := fun o0 o1 => ((((Ext.trans Xw5.out (Ext.trans XW2.out (Xw6.out))).trans (Ext.alloc _ o0)).trans (Ext.alloc _ o1)).row Rb2.out).cell 0
    have hb2_1_6_2 : ∀ o0 o1, ((w6.alloc o0).alloc o1).cell? ⟨w4.heap.size + 1, 1, none⟩ = some (.slice p3 n3 c3) := fun o0 o1 => ((((Ext.trans Xw5.out (Ext.trans XW2.out (Xw6.out))).trans (Ext.alloc _ o0)).trans (Ext.alloc _ o1)).row Rb2.out).cell 1
    have hb4_0_6_2 : ∀ o0 o1, ((w6.alloc o0).alloc o1).cell? ⟨w5.heap.size, 0, none⟩ = some (.bool false) := fun o0 o1 => ((((Xw6.out).trans (Ext.alloc _ o0)).trans (Ext.alloc _ o1)).row Rb4.out).cell 0
    have hb4_1_6_2 : ∀ o0 o1, ((w6.alloc o0).alloc o1).cell? ⟨w5.heap.size, 1, none⟩ = some (.slice p5 n5 c5) := fun o0 o1 => ((((Xw6.out).trans (Ext.alloc _ o0)).trans (Ext.alloc _ o1)).row Rb4.out).cell 1
    obtain ⟨W3, hW3⟩ : ∃ W3, W3 = ((w6.alloc (.cells #[.bool (decide ((a / g) < 0)), .slice p6 n6 c6] 26)).alloc (.cells #[.bool false, .slice q6 0 e6] 26)) := ⟨_, rfl⟩
    have XW3 : Hid (Ext w6 W3) := by rw [hW3]; exact ((Ext.alloc _ _).trans (Ext.alloc _ _))
    have Rb5 : Hid (RowAt W3 (w6.heap.size) 26 #[.bool (decide ((a / g) < 0)), .slice p6 n6 c6]) := by rw [hW3]; exact ((RowAt.new' _ _ (by simp)).alloc _)
    have Rb6 : Hid (RowAt W3 (w6.heap.size + 1) 26 #[.bool false, .slice q6 0 e6]) := by rw [hW3]; exact (RowAt.new' _ _ (by simp))
    have GW3 := Lib.hid hW3
    clear hW3
    go_wp2_with fail
    rw [← GW3.out]
    refine (div_zero (q := (b / g)) (nq := decide ((b / g) < 0)) ((Ext.trans Xw4.out (Ext.trans XW1.out (Ext.trans Xw5.out (Ext.trans XW2.out (Ext.trans Xw6.out (XW3.out)))))).num Z3.out) ((Ext.trans XW2.out (Ext.trans Xw6.out (XW3.out))).num Z5.out) hgp rfl hbg rfl).mono ?_
    rintro e w7 ⟨p7, n7, c7, q7, e7, rfl, hz, hx⟩
    have Xw7 := Lib.hid hx
    have Z7 := Lib.hid hz
    clear hx hz
    have hb6_1_7_2 : ∀ o0 o1, ((w7.alloc o0).alloc o1).cell? ⟨w6.heap.size + 1, 1, none⟩ = some (.slice q6 0 e6) := fun o0 o1 => ((((Xw7.out).trans (Ext.alloc _ o0)).trans (Ext.alloc _ o1)).row Rb6.out).cell 1
    have hb1_0_7_2 : ∀ o0 o1, ((w7.alloc o0).alloc o1).cell? ⟨w4.heap.size, 0, none⟩ = some (.bool (decide (a < 0))) := fun o0 o1 => ((((Ext.trans Xw5.out (Ext.trans XW2.out (Ext.trans Xw6.out (Ext.trans XW3.out (Xw7.out))))).trans (Ext.alloc _ o0)).trans (Ext.alloc _ o1)).row Rb1.out).cell 0
    have hb1_1_7_2 : ∀ o0 o1, ((w7.alloc o0).alloc o1).cell? ⟨w4.heap.size, 1, none⟩ = some (.slice p2 n2 c2) := fun o0 o1 => ((((Ext.trans Xw5.out (Ext.trans XW2.out (Ext.trans Xw6.out (Ext.trans XW3.out (Xw7.out))))).trans (Ext.alloc _ o0)).trans (Ext.alloc _ o1)).row Rb1.out).cell 1
    have hb3_0_7_2 : ∀ o0 o1, ((w7.alloc o0).alloc o1).cell? ⟨w4.heap.size + 1 + 1, 0, none⟩ = some (.bool false) := fun o0 o1 => ((((Ext.trans Xw5.out (Ext.trans XW2.out (Ext.trans Xw6.out (Ext.trans XW3.out (Xw7.out))))).trans (Ext.alloc _ o0)).trans (Ext.alloc _ o1)).row Rb3.out).cell 0
    have hb3_1_7_2 : ∀ o0 o1, ((w7.alloc o0).alloc o1).cell? ⟨w4.heap.size + 1 + 1, 1, none⟩ = some (.slice p4 n4 c4) := fun o0 o1 => ((((Ext.trans Xw5.out (Ext.trans XW2.out (Ext.trans Xw6.out (Ext.trans XW3.out (Xw7.out))))).trans (Ext.alloc _ o0)).trans (Ext.alloc _ o1)).row Rb3.out).cell 1
    obtain ⟨W4, hW4⟩ : ∃ W4, W4 = ((w7.alloc (.cells #[.bool (decide ((b / g) < 0)), .slice p7 n7 c7] 26)).alloc (.cells #[.bool false, .slice q7 0 e7] 26)) := ⟨_, rfl⟩
    have XW4 : Hid (Ext w7 W4) := by rw [hW4]; exact ((Ext.alloc _ _).trans (Ext.alloc _ _))
    have Rb7 : Hid (RowAt W4 (w7.heap.size) 26 #[.bool (decide ((b / g) < 0)), .slice p7 n7 c7]) := by rw [hW4]; exact ((RowAt.new' _ _ (by simp)).alloc _)
    have Rb8 : Hid (RowAt W4 (w7.heap.size + 1) 26 #[.bool false, .slice q7 0 e7]) := by rw [hW4]; exact (RowAt.new' _ _ (by simp))
    have GW4 := Lib.hid hW4
    clear hW4
    go_wp2_with fail
    rw [← GW4.out]
    refine (mul_gives (z := (a * d)) (neg := (decide ((a * d) < 0))) ((Ext.trans Xw3.out (Ext.trans Xw4.out (Ext.trans XW1.out (Ext.trans Xw5.out (Ext.trans XW2.out (Ext.trans Xw6.out (Ext.trans XW3.out (Ext.trans Xw7.out (XW4.out))))))))).num Z2.out) ((Ext.trans XW1.out (Ext.trans Xw5.out (Ext.trans XW2.out (Ext.trans Xw6.out (Ext.trans XW3.out (Ext.trans Xw7.out (XW4.out))))))).num Z4a.out) rfl rfl lad).mono ?_
    rintro e w8 ⟨p8, n8, c8, rfl, hz, hx⟩
    have Xw8 := Lib.hid hx
    have Z8 := Lib.hid hz
    clear hx hz
    have hb2_0_8_1 : ∀ o0, (w8.alloc o0).cell? ⟨w4.heap.size + 1, 0, none⟩ = some (.bool (decide (b < 0))) := fun o0 => (((Ext.trans Xw5.out (Ext.trans XW2.out (Ext.trans Xw6.out (Ext.trans XW3.out (Ext.trans Xw7.out (Ext.trans XW4.out (Xw8.out))))))).trans (Ext.alloc _ o0)).row Rb2.out).cell 0
    have hb2_1_8_1 : ∀ o0, (w8.alloc o0).cell? ⟨w4.heap.size + 1, 1, none⟩ = some (.slice p3 n3 c3) := fun o0 => (((Ext.trans Xw5.out (Ext.trans XW2.out (Ext.trans Xw6.out (Ext.trans XW3.out (Ext.trans Xw7.out (Ext.trans XW4.out (Xw8.out))))))).trans (Ext.alloc _ o0)).row Rb2.out).cell 1
    have hb3_0_8_1 : ∀ o0, (w8.alloc o0).cell? ⟨w4.heap.size + 1 + 1, 0, none⟩ = some (.bool false) := fun o0 => (((Ext.trans Xw5.out (Ext.trans XW2.out (Ext.trans Xw6.out (Ext.trans XW3.out (Ext.trans Xw7.out (Ext.trans XW4.out (Xw8.out))))))).trans (Ext.alloc _ o0)).row Rb3.out).cell 0
    have hb3_1_8_1 : ∀ o0, (w8.alloc o0).cell? ⟨w4.heap.size + 1 + 1, 1, none⟩ = some (.slice p4 n4 c4) := fun o0 => (((Ext.trans Xw5.out (Ext.trans XW2.out (Ext.trans Xw6.out (Ext.trans XW3.out (Ext.trans Xw7.out (Ext.trans XW4.out (Xw8.out))))))).trans (Ext.alloc _ o0)).row Rb3.out).cell 1
    obtain ⟨W5, hW5⟩ : ∃ W5, W5 = (w8.alloc (.cells #[.bool (decide ((a * d) < 0)), .slice p8 n8 c8] 26)) := ⟨_, rfl⟩
    have XW5 : Hid (Ext w8 W5) := by rw [hW5]; exact (Ext.alloc _ _)
    have Rb9 : Hid (RowAt W5 (w8.heap.size) 26 #[.bool (decide ((a * d) < 0)), .slice p8 n8 c8]) := by rw [hW5]; exact (RowAt.new' _ _ (by simp))
    have GW5 := Lib.hid hW5
    clear hW5
    go_wp2_with fail
    rw [← GW5.out]
    refine (mul_gives (z := (b * d)) (neg := (decide ((b * d) < 0))) ((Ext.trans Xw4.out (Ext.trans XW1.out (Ext.trans Xw5.out (Ext.trans XW2.out (Ext.trans Xw6.out (Ext.trans XW3.out (Ext.trans Xw7.out (Ext.trans XW4.out (Ext.trans Xw8.out (XW5.out)))))))))).num Z3.out) ((Ext.trans XW1.out (Ext.trans Xw5.out (Ext.trans XW2.out (Ext.trans Xw6.out (Ext.trans XW3.out (Ext.trans Xw7.out (Ext.trans XW4.out (Ext.trans Xw8.out (XW5.out))))))))).num Z4a.out) rfl rfl lbd).mono ?_
    rintro e w9 ⟨p9, n9, c9, rfl, hz, hx⟩
    have Xw9 := Lib.hid hx
    have Z9 := Lib.hid hz
    clear hx hz
    have hb4_0_9_1 : ∀ o0, (w9.alloc o0).cell? ⟨w5.heap.size, 0, none⟩ = some (.bool false) := fun o0 => (((Ext.trans Xw6.out (Ext.trans XW3.out (Ext.trans Xw7.out (Ext.trans XW4.out (Ext.trans Xw8.out (Ext.trans XW5.out (Xw9.out))))))).trans (Ext.alloc _ o0)).row Rb4.out).cell 0
    have hb4_1_9_1 : ∀ o0, (w9.alloc o0).cell? ⟨w5.heap.size, 1, none⟩ = some (.slice p5 n5 c5) := fun o0 => (((Ext.trans Xw6.out (Ext.trans XW3.out (Ext.trans Xw7.out (Ext.trans XW4.out (Ext.trans Xw8.out (Ext.trans XW5.out (Xw9.out))))))).trans (Ext.alloc _ o0)).row Rb4.out).cell 1
    have hb3_0_9_1 : ∀ o0, (w9.alloc o0).cell? ⟨w4.heap.size + 1 + 1, 0, none⟩ = some (.bool false) := fun o0 => (((Ext.trans Xw5.out (Ext.trans XW2.out (Ext.trans Xw6.out (Ext.trans XW3.out (Ext.trans Xw7.out (Ext.trans XW4.out (Ext.trans Xw8.out (Ext.trans XW5.out (Xw9.out))))))))).trans (Ext.alloc _ o0)).row Rb3.out).cell 0
    have hb3_1_9_1 : ∀ o0, (w9.alloc o0).cell? ⟨w4.heap.size + 1 + 1, 1, none⟩ = some (.slice p4 n4 c4) := fun o0 => (((Ext.trans Xw5.out (Ext.trans XW2.out (Ext.trans Xw6.out (Ext.trans XW3.out (Ext.trans Xw7.out (Ext.trans XW4.out (Ext.trans Xw8.out (Ext.trans XW5.out (Xw9.out))))))))).trans (Ext.alloc _ o0)).row Rb3.out).cell 1
    obtain ⟨W6, hW6⟩ : ∃ W6, W6 = (w9.alloc (.cells #[.bool (decide ((b * d) < 0)), .slice p9 n9 c9] 26)) := ⟨_, rfl⟩
    have XW6 : Hid (Ext w9 W6) := by rw [hW6]; exact (Ext.alloc _ _)
    have Rb10 : Hid (RowAt W6 (w9.heap.size) 26 #[.bool (decide ((b * d) < 0)), .slice p9 n9 c9]) := by rw [hW6]; exact (RowAt.new' _ _ (by simp))
    have GW6 := Lib.hid hW6
    clear hW6
    go_wp2_with fail
    rw [← GW6.out]
    refine (mul_gives (z := (g * d)) (neg := (decide ((g * d) < 0))) ((Ext.trans XW2.out (Ext.trans Xw6.out (Ext.trans XW3.out (Ext.trans Xw7.out (Ext.trans XW4.out (Ext.trans Xw8.out (Ext.trans XW5.out (Ext.trans Xw9.out (XW6.out))))))))).num Z5.out) ((Ext.trans XW1.out (Ext.trans Xw5.out (Ext.trans XW2.out (Ext.trans Xw6.out (Ext.trans XW3.out (Ext.trans Xw7.out (Ext.trans XW4.out (Ext.trans Xw8.out (Ext.trans XW5.out (Ext.trans Xw9.out (XW6.out))))))))))).num Z4a.out) rfl rfl lgd).mono ?_
    rintro e w10 ⟨p10, n10, c10, rfl, hz, hx⟩
    have Xw10 := Lib.hid hx
    have Z10 := Lib.hid hz
    clear hx hz
    have hb9_0_10_1 : ∀ o0, (w10.alloc o0).cell? ⟨w8.heap.size, 0, none⟩ = some (.bool (decide ((a * d) < 0))) := fun o0 => (((Ext.trans Xw9.out (Ext.trans XW6.out (Xw10.out))).trans (Ext.alloc _ o0)).row Rb9.out).cell 0
    have hb9_1_10_1 : ∀ o0, (w10.alloc o0).cell? ⟨w8.heap.size, 1, none⟩ = some (.slice p8 n8 c8) := fun o0 => (((Ext.trans Xw9.out (Ext.trans XW6.out (Xw10.out))).trans (Ext.alloc _ o0)).row Rb9.out).cell 1
    have hb10_0_10_1 : ∀ o0, (w10.alloc o0).cell? ⟨w9.heap.size, 0, none⟩ = some (.bool (decide ((b * d) < 0))) := fun o0 => (((Xw10.out).trans (Ext.alloc _ o0)).row Rb10.out).cell 0
    have hb10_1_10_1 : ∀ o0, (w10.alloc o0).cell? ⟨w9.heap.size, 1, none⟩ = some (.slice p9 n9 c9) := fun o0 => (((Xw10.out).trans (Ext.alloc _ o0)).row Rb10.out).cell 1
    obtain ⟨W7, hW7⟩ : ∃ W7, W7 = (w10.alloc (.cells #[.bool (decide ((g * d) < 0)), .slice p10 n10 c10] 26)) := ⟨_, rfl⟩
    have XW7 : Hid (Ext w10 W7) := by rw [hW7]; exact (Ext.alloc _ _)
    have Rb11 : Hid (RowAt W7 (w10.heap.size) 26 #[.bool (decide ((g * d) < 0)), .slice p10 n10 c10]) := by rw [hW7]; exact (RowAt.new' _ _ (by simp))
    have GW7 := Lib.hid hW7
    clear hW7
    go_wp2_with fail
    rw [← GW7.out]
    refine (gcd_gives (z := (g * d)) ((Ext.trans XW5.out (Ext.trans Xw9.out (Ext.trans XW6.out (Ext.trans Xw10.out (XW7.out))))).num Z8.out) ((Ext.trans XW6.out (Ext.trans Xw10.out (XW7.out))).num Z9.out) hgd).mono ?_
    rintro e w11 ⟨p11, n11, c11, rfl, hz, hx⟩
    have Xw11 := Lib.hid hx
    have Z11 := Lib.hid hz
    clear hx hz
    have hb3_0_11_1 : ∀ o0, (w11.alloc o0).cell? ⟨w4.heap.size + 1 + 1, 0, none⟩ = some (.bool false) := fun o0 => (((Ext.trans Xw5.out (Ext.trans XW2.out (Ext.trans Xw6.out (Ext.trans XW3.out (Ext.trans Xw7.out (Ext.trans XW4.out (Ext.trans Xw8.out (Ext.trans XW5.out (Ext.trans Xw9.out (Ext.trans XW6.out (Ext.trans Xw10.out (Ext.trans XW7.out (Xw11.out))))))))))))).trans (Ext.alloc _ o0)).row Rb3.out).cell 0
    have hb3_1_11_1 : ∀ o0, (w11.alloc o0).cell? ⟨w4.heap.size + 1 + 1, 1, none⟩ = some (.slice p4 n4 c4) := fun o0 => (((Ext.trans Xw5.out (Ext.trans XW2.out (Ext.trans Xw6.out (Ext.trans XW3.out (Ext.trans Xw7.out (Ext.trans XW4.out (Ext.trans Xw8.out (Ext.trans XW5.out (Ext.trans Xw9.out (Ext.trans XW6.out (Ext.trans Xw10.out (Ext.trans XW7.out (Xw11.out))))))))))))).trans (Ext.alloc _ o0)).row Rb3.out).cell 1
    have hb9_0_11_1 : ∀ o0, (w11.alloc o0).cell? ⟨w8.heap.size, 0, none⟩ = some (.bool (decide ((a * d) < 0))) := fun o0 => (((Ext.trans Xw9.out (Ext.trans XW6.out (Ext.trans Xw10.out (Ext.trans XW7.out (Xw11.out))))).trans (Ext.alloc _ o0)).row Rb9.out).cell 0
    have hb9_1_11_1 : ∀ o0, (w11.alloc o0).cell? ⟨w8.heap.size, 1, none⟩ = some (.slice p8 n8 c8) := fun o0 => (((Ext.trans Xw9.out (Ext.trans XW6.out (Ext.trans Xw10.out (Ext.trans XW7.out (Xw11.out))))).trans (Ext.alloc _ o0)).row Rb9.out).cell 1
    obtain ⟨W8, hW8⟩ : ∃ W8, W8 = (w11.alloc (.cells #[.bool false, .slice p11 n11 c11] 26)) := ⟨_, rfl⟩
    have XW8 : Hid (Ext w11 W8) := by rw [hW8]; exact (Ext.alloc _ _)
    have Rb12 : Hid (RowAt W8 (w11.heap.size) 26 #[.bool false, .slice p11 n11 c11]) := by rw [hW8]; exact (RowAt.new' _ _ (by simp))
    have GW8 := Lib.hid hW8
    clear hW8
    go_wp2_with fail
    rw [← GW8.out]
    refine (gcd_gives (z := d) ((Ext.trans XW1.out (Ext.trans Xw5.out (Ext.trans XW2.out (Ext.trans Xw6.out (Ext.trans XW3.out (Ext.trans Xw7.out (Ext.trans XW4.out (Ext.trans Xw8.out (Ext.trans XW5.out (Ext.trans Xw9.out (Ext.trans XW6.out (Ext.trans Xw10.out (Ext.trans XW7.out (Ext.trans Xw11.out (XW8.out))))))))))))))).num Z4a.out) ((Ext.trans XW5.out (Ext.trans Xw9.out (Ext.trans XW6.out (Ext.trans Xw10.out (Ext.trans XW7.out (Ext.trans Xw11.out (XW8.out))))))).num Z8.out) hself).mono ?_
    rintro e w12 ⟨p12, n12, c12, rfl, hz, hx⟩
    have Xw12 := Lib.hid hx
    have Z12 := Lib.hid hz
    clear hx hz
    have hb12_0_12_1 : ∀ o0, (w12.alloc o0).cell? ⟨w11.heap.size, 0, none⟩ = some (.bool false) := fun o0 => (((Xw12.out).trans (Ext.alloc _ o0)).row Rb12.out).cell 0
    have hb12_1_12_1 : ∀ o0, (w12.alloc o0).cell? ⟨w11.heap.size, 1, none⟩ = some (.slice p11 n11 c11) := fun o0 => (((Xw12.out).trans (Ext.alloc _ o0)).row Rb12.out).cell 1
    have hb11_0_12_1 : ∀ o0, (w12.alloc o0).cell? ⟨w10.heap.size, 0, none⟩ = some (.bool (decide ((g * d) < 0))) := fun o0 => (((Ext.trans Xw11.out (Ext.trans XW8.out (Xw12.out))).trans (Ext.alloc _ o0)).row Rb11.out).cell 0
    have hb11_1_12_1 : ∀ o0, (w12.alloc o0).cell? ⟨w10.heap.size, 1, none⟩ = some (.slice p10 n10 c10) := fun o0 => (((Ext.trans Xw11.out (Ext.trans XW8.out (Xw12.out))).trans (Ext.alloc _ o0)).row Rb11.out).cell 1
    obtain ⟨W9, hW9⟩ : ∃ W9, W9 = (w12.alloc (.cells #[.bool false, .slice p12 n12 c12] 26)) := ⟨_, rfl⟩
    have XW9 : Hid (Ext w12 W9) := by rw [hW9]; exact (Ext.alloc _ _)
    have Rb13 : Hid (RowAt W9 (w12.heap.size) 26 #[.bool false, .slice p12 n12 c12]) := by rw [hW9]; exact (RowAt.new' _ _ (by simp))
    have GW9 := Lib.hid hW9
    clear hW9
    go_wp2_with fail
    rw [← GW9.out]
    refine (same_calls _ _ ((g * d)) W9 ((Ext.trans XW8.out (Ext.trans Xw12.out (XW9.out))).num Z11.out) ((Ext.trans XW7.out (Ext.trans Xw11.out (Ext.trans XW8.out (Ext.trans Xw12.out (XW9.out))))).num Z10.out)).mono ?_
    rintro e w13 ⟨rfl, hx⟩
    have Xw13 := Lib.hid hx
    clear hx 
    have hb13_0_13 : w13.cell? ⟨w12.heap.size, 0, none⟩ = some (.bool false) := ((Xw13.out).row Rb13.out).cell 0
    have hb13_1_13 : w13.cell? ⟨w12.heap.size, 1, none⟩ = some (.slice p12 n12 c12) := ((Xw13.out).row Rb13.out).cell 1
    have hb3_0_13 : w13.cell? ⟨w4.heap.size + 1 + 1, 0, none⟩ = some (.bool false) := ((Ext.trans Xw5.out (Ext.trans XW2.out (Ext.trans Xw6.out (Ext.trans XW3.out (Ext.trans Xw7.out (Ext.trans XW4.out (Ext.trans Xw8.out (Ext.trans XW5.out (Ext.trans Xw9.out (Ext.trans XW6.out (Ext.trans Xw10.out (Ext.trans XW7.out (Ext.trans Xw11.out (Ext.trans XW8.out (Ext.trans Xw12.out (Ext.trans XW9.out (Xw13.out))))))))))))))))).row Rb3.out).cell 0
    have hb3_1_13 : w13.cell? ⟨w4.heap.size + 1 + 1, 1, none⟩ = some (.slice p4 n4 c4) := ((Ext.trans Xw5.out (Ext.trans XW2.out (Ext.trans Xw6.out (Ext.trans XW3.out (Ext.trans Xw7.out (Ext.trans XW4.out (Ext.trans Xw8.out (Ext.trans XW5.out (Ext.trans Xw9.out (Ext.trans XW6.out (Ext.trans Xw10.out (Ext.trans XW7.out (Ext.trans Xw11.out (Ext.trans XW8.out (Ext.trans Xw12.out (Ext.trans XW9.out (Xw13.out))))))))))))))))).row Rb3.out).cell 1
    go_wp2_with fail
    refine (same_calls _ _ d w13 ((Ext.trans XW9.out (Xw13.out)).num Z12.out) ((Ext.trans XW1.out (Ext.trans Xw5.out (Ext.trans XW2.out (Ext.trans Xw6.out (Ext.trans XW3.out (Ext.trans Xw7.out (Ext.trans XW4.out (Ext.trans Xw8.out (Ext.trans XW5.out (Ext.trans Xw9.out (Ext.trans XW6.out (Ext.trans Xw10.out (Ext.trans XW7.out (Ext.trans Xw11.out (Ext.trans XW8.out (Ext.trans Xw12.out (Ext.trans XW9.out (Xw13.out)))))))))))))))))).num Z4a.out)).mono ?_
    rintro e w14 ⟨rfl, hx⟩
    have Xw14 := Lib.hid hx
    clear hx 
    go_wp2
    go_ret
    exact ⟨rfl, (Ext.trans Xw1.out (Ext.trans Xw2.out (Ext.trans Xw3.out (Ext.trans Xw4.out (Ext.trans XW1.out (Ext.trans Xw5.out (Ext.trans XW2.out (Ext.trans Xw6.out (Ext.trans XW3.out (Ext.trans Xw7.out (Ext.trans XW4.out (Ext.trans Xw8.out (Ext.trans XW5.out (Ext.trans Xw9.out (Ext.trans XW6.out (Ext.trans Xw10.out (Ext.trans XW7.out (Ext.trans Xw11.out (Ext.trans XW8.out (Ext.trans Xw12.out (Ext.trans XW9.out (Ext.trans Xw13.out (Xw14.out)))))))))))))))))))))))⟩

end Go.Proofs.YtcmpgboifcemmaaDoor
