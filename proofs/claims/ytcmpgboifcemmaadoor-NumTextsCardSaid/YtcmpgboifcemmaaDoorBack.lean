/- NumBack. (Written with sym.py and gen_back.py.) -/
import Derived.Test.YtcmpgboifcemmaaDoorRing
set_option linter.all false
namespace Go.Proofs.YtcmpgboifcemmaaDoor
open Go Go.RowKit Go.Shelf

theorem lim_sub {a b : Int} {k : Nat} (ha : a.natAbs < B32 ^ k) (hb : b.natAbs < B32 ^ k) : (a - b).natAbs < B32 ^ (k + 1) := by
  have h : B32 ^ (k + 1) = B32 ^ k * B32 := Nat.pow_succ ..
  have h2 : B32 ^ k * 2 ≤ B32 ^ k * B32 := Nat.mul_le_mul_left _ (by decide)
  omega
theorem znum_abs {B : Nat} {w : World} {x : Bool} {s : Value} {z d : Int} (hd : (z.natAbs : Int) = d) (h : ZNum B w (.agg #[.bool x, s]) z) : ZNum B w (.agg #[.bool false, s]) d := by
  have hu := znum_slice h
  have hl := h.2
  subst hd
  exact ⟨⟨s, by simp, by rw [Int.natAbs_natCast]; exact hu⟩, by rw [Int.natAbs_natCast]; exact hl⟩
theorem znum_pos {B : Nat} {w : World} {b : Bool} {p : Option Addr} {n c : Nat} {z : Int} (h : ZNum B w (.agg #[.bool b, .slice p n c]) z) (hz : z ≠ 0) : ¬ (n : Int) = 0 := by
  obtain ⟨q, c2, hq, -⟩ := znum_slice h
  cases hq
  intro h0
  have h1 : digs z.natAbs = [] := List.length_eq_zero_iff.1 (by omega)
  rw [digs_nil_iff] at h1
  omega

set_option maxRecDepth 100000 in
set_option maxHeartbeats 16000000 in
theorem numBack_walk (va vb : Value) (la lb : List Int) (w : World) (ht : Tab w) (hva : I64s w.heap.size w va la) (hvb : I64s w.heap.size w vb lb) :
    Calls Tryd.prog 6 #[va, vb] w fun e w' => e = .returned (.bool true) ∧ Ext w w' := by
  obtain ⟨a, ha⟩ : ∃ a, madeOf la = a := ⟨_, rfl⟩
  obtain ⟨b, hb⟩ : ∃ b, madeOf lb = b := ⟨_, rfl⟩
  obtain ⟨d, hbd⟩ : ∃ d : Int, (b.natAbs : Int) = d := ⟨_, rfl⟩
  have la6 := madeOf_lt la
  have lb6 := madeOf_lt lb
  rw [ha] at la6
  rw [hb] at lb6
  have la1 := lim_up la6 (by decide)
  have HA := Lib.hid hva
  have HB := Lib.hid hvb
  have HL := Lib.hid (And.intro la6 lb6)
  have Hbd := Lib.hid hbd
  clear hva hvb la6 lb6
  go_enter Tryd.func6, Tryd.ntmps6
  go_wp2_with fail
  refine (sanity_calls w ((Ext.refl w).tab ht)).mono ?_
  rintro e w1 ⟨rfl, hx⟩
  have Xw1 := Lib.hid hx
  clear hx 
  go_wp2_with fail
  refine (makes_of ha (makes_calls va la w1 ((Xw1.out).i64s HA.out))).mono ?_
  rintro e w2 ⟨p2, n2, c2, rfl, hz, hx⟩
  have Xw2 := Lib.hid hx
  have Z2 := Lib.hid hz
  clear hx hz
  go_wp2_with fail
  refine (makes_of hb (makes_calls vb lb w2 ((Ext.trans Xw1.out (Xw2.out)).i64s HB.out))).mono ?_
  rintro e w3 ⟨p3, n3, c3, rfl, hz, hx⟩
  have Xw3 := Lib.hid hx
  have Z3 := Lib.hid hz
  clear hx hz
  have Z3a := Lib.hid (znum_abs hbd Z3.out)
  by_cases hd : d = 0
  · have hd0 : d ≤ 0 := by omega
    have hn3 : n3 = 0 := by have h := Z3a.out; rw [hd] at h; exact znum_zero h
    subst hn3
    clear hd
    obtain ⟨W1, hW1⟩ : ∃ W1, W1 = ((w3.alloc (.cells #[.bool (decide (a < 0)), .slice p2 n2 c2] 26)).alloc (.cells #[.bool false, .slice p3 0 c3] 26)) := ⟨_, rfl⟩
    have XW1 : Hid (Ext w3 W1) := by rw [hW1]; exact ((Ext.alloc _ _).trans (Ext.alloc _ _))
    have Rb1 : Hid (RowAt W1 (w3.heap.size) 26 #[.bool (decide (a < 0)), .slice p2 n2 c2]) := by rw [hW1]; exact ((RowAt.new' _ _ (by simp)).alloc _)
    have Rb2 : Hid (RowAt W1 (w3.heap.size + 1) 26 #[.bool false, .slice p3 0 c3]) := by rw [hW1]; exact (RowAt.new' _ _ (by simp))
    have GW1 := Lib.hid hW1
    clear hW1
    go_wp2_with fail
    rw [← GW1.out]
    refine (div_none ((Ext.trans Xw3.out (XW1.out)).num Z2.out) ((XW1.out).num Z3a.out) hd0).mono ?_
    rintro e w4 ⟨p4, n4, c4, q4, m4, e4, rfl, hz, hz2, hx⟩
    have Xw4 := Lib.hid hx
    have Z4 := Lib.hid hz
    have Y4 := Lib.hid hz2
    clear hx hz hz2
    have hb2_1_4_2 : ∀ o0 o1, ((w4.alloc o0).alloc o1).cell? ⟨w3.heap.size + 1, 1, none⟩ = some (.slice p3 0 c3) := fun o0 o1 => ((((Xw4.out).trans (Ext.alloc _ o0)).trans (Ext.alloc _ o1)).row Rb2.out).cell 1
    go_wp2
    go_ret
    exact ⟨rfl, (((Ext.trans Xw1.out (Ext.trans Xw2.out (Ext.trans Xw3.out (Ext.trans XW1.out (Xw4.out))))).trans (Ext.alloc _ _)).trans (Ext.alloc _ _))⟩
  · have hn3 := znum_pos Z3a.out hd
    have hdp : 0 < d := by omega
    obtain ⟨q, hq⟩ : ∃ q, a / d = q := ⟨_, rfl⟩
    obtain ⟨r, hr⟩ : ∃ r, a % d = r := ⟨_, rfl⟩
    have hr0 : 0 ≤ r := by rw [← hr]; exact Int.emod_nonneg _ (by omega)
    have hrd : r < d := by rw [← hr]; exact Int.emod_lt_of_pos _ hdp
    have hrn : decide (r < 0) = false := by simp; omega
    have hadd : q * d + r = a := by rw [← hq, ← hr, Int.mul_comm]; exact Int.mul_ediv_add_emod _ _
    have lqd : (q * d).natAbs < B32 ^ 64 := by
      have h1 : q * d = a - r := by omega
      rw [h1]
      exact lim_up (lim_sub HL.out.1 (by have := HL.out.2; have := Hbd.out; omega)) (by decide)
    have hcmp : zcmp r d = -1 := by unfold zcmp; rw [if_pos hrd]
    clear hbd hr0 hrd hd
    obtain ⟨W1, hW1⟩ : ∃ W1, W1 = ((w3.alloc (.cells #[.bool (decide (a < 0)), .slice p2 n2 c2] 26)).alloc (.cells #[.bool false, .slice p3 n3 c3] 26)) := ⟨_, rfl⟩
    have XW1 : Hid (Ext w3 W1) := by rw [hW1]; exact ((Ext.alloc _ _).trans (Ext.alloc _ _))
    have Rb1 : Hid (RowAt W1 (w3.heap.size) 26 #[.bool (decide (a < 0)), .slice p2 n2 c2]) := by rw [hW1]; exact ((RowAt.new' _ _ (by simp)).alloc _)
    have Rb2 : Hid (RowAt W1 (w3.heap.size + 1) 26 #[.bool false, .slice p3 n3 c3]) := by rw [hW1]; exact (RowAt.new' _ _ (by simp))
    have GW1 := Lib.hid hW1
    clear hW1
    go_wp2_with fail
    rw [← GW1.out]
    refine (div_gives (q := q) (r := r) (nq := decide (q < 0)) (nr := false) ((Ext.trans Xw3.out (XW1.out)).num Z2.out) ((XW1.out).num Z3a.out) hdp hq hr rfl hrn).mono ?_
    rintro e w4 ⟨p4, n4, c4, q4, m4, e4, rfl, hz, hz2, hx⟩
    have Xw4 := Lib.hid hx
    have Z4 := Lib.hid hz
    have Y4 := Lib.hid hz2
    clear hx hz hz2
    have hb2_1_4_2 : ∀ o0 o1, ((w4.alloc o0).alloc o1).cell? ⟨w3.heap.size + 1, 1, none⟩ = some (.slice p3 n3 c3) := fun o0 o1 => ((((Xw4.out).trans (Ext.alloc _ o0)).trans (Ext.alloc _ o1)).row Rb2.out).cell 1
    have hb2_0_4_2 : ∀ o0 o1, ((w4.alloc o0).alloc o1).cell? ⟨w3.heap.size + 1, 0, none⟩ = some (.bool false) := fun o0 o1 => ((((Xw4.out).trans (Ext.alloc _ o0)).trans (Ext.alloc _ o1)).row Rb2.out).cell 0
    obtain ⟨W2, hW2⟩ : ∃ W2, W2 = ((w4.alloc (.cells #[.bool (decide (q < 0)), .slice p4 n4 c4] 26)).alloc (.cells #[.bool false, .slice q4 m4 e4] 26)) := ⟨_, rfl⟩
    have XW2 : Hid (Ext w4 W2) := by rw [hW2]; exact ((Ext.alloc _ _).trans (Ext.alloc _ _))
    have Rb3 : Hid (RowAt W2 (w4.heap.size) 26 #[.bool (decide (q < 0)), .slice p4 n4 c4]) := by rw [hW2]; exact ((RowAt.new' _ _ (by simp)).alloc _)
    have Rb4 : Hid (RowAt W2 (w4.heap.size + 1) 26 #[.bool false, .slice q4 m4 e4]) := by rw [hW2]; exact (RowAt.new' _ _ (by simp))
    have GW2 := Lib.hid hW2
    clear hW2
    go_wp2_with fail
    rw [← GW2.out]
    refine (mul_gives (z := (q * d)) (neg := (decide ((q * d) < 0))) ((XW2.out).num Z4.out) ((Ext.trans XW1.out (Ext.trans Xw4.out (XW2.out))).num Z3a.out) rfl rfl lqd).mono ?_
    rintro e w5 ⟨p5, n5, c5, rfl, hz, hx⟩
    have Xw5 := Lib.hid hx
    have Z5 := Lib.hid hz
    clear hx hz
    have hb4_0_5_1 : ∀ o0, (w5.alloc o0).cell? ⟨w4.heap.size + 1, 0, none⟩ = some (.bool false) := fun o0 => (((Xw5.out).trans (Ext.alloc _ o0)).row Rb4.out).cell 0
    have hb4_1_5_1 : ∀ o0, (w5.alloc o0).cell? ⟨w4.heap.size + 1, 1, none⟩ = some (.slice q4 m4 e4) := fun o0 => (((Xw5.out).trans (Ext.alloc _ o0)).row Rb4.out).cell 1
    obtain ⟨W3, hW3⟩ : ∃ W3, W3 = (w5.alloc (.cells #[.bool (decide ((q * d) < 0)), .slice p5 n5 c5] 26)) := ⟨_, rfl⟩
    have XW3 : Hid (Ext w5 W3) := by rw [hW3]; exact (Ext.alloc _ _)
    have Rb5 : Hid (RowAt W3 (w5.heap.size) 26 #[.bool (decide ((q * d) < 0)), .slice p5 n5 c5]) := by rw [hW3]; exact (RowAt.new' _ _ (by simp))
    have GW3 := Lib.hid hW3
    clear hW3
    go_wp2_with fail
    rw [← GW3.out]
    refine (add_gives (z := a) (neg := (decide (a < 0))) ((XW3.out).num Z5.out) ((Ext.trans XW2.out (Ext.trans Xw5.out (XW3.out))).num Y4.out) hadd rfl la1).mono ?_
    rintro e w6 ⟨p6, n6, c6, rfl, hz, hx⟩
    have Xw6 := Lib.hid hx
    have Z6 := Lib.hid hz
    clear hx hz
    have hb1_0_6_1 : ∀ o0, (w6.alloc o0).cell? ⟨w3.heap.size, 0, none⟩ = some (.bool (decide (a < 0))) := fun o0 => (((Ext.trans Xw4.out (Ext.trans XW2.out (Ext.trans Xw5.out (Ext.trans XW3.out (Xw6.out))))).trans (Ext.alloc _ o0)).row Rb1.out).cell 0
    have hb1_1_6_1 : ∀ o0, (w6.alloc o0).cell? ⟨w3.heap.size, 1, none⟩ = some (.slice p2 n2 c2) := fun o0 => (((Ext.trans Xw4.out (Ext.trans XW2.out (Ext.trans Xw5.out (Ext.trans XW3.out (Xw6.out))))).trans (Ext.alloc _ o0)).row Rb1.out).cell 1
    obtain ⟨W4, hW4⟩ : ∃ W4, W4 = (w6.alloc (.cells #[.bool (decide (a < 0)), .slice p6 n6 c6] 26)) := ⟨_, rfl⟩
    have XW4 : Hid (Ext w6 W4) := by rw [hW4]; exact (Ext.alloc _ _)
    have Rb6 : Hid (RowAt W4 (w6.heap.size) 26 #[.bool (decide (a < 0)), .slice p6 n6 c6]) := by rw [hW4]; exact (RowAt.new' _ _ (by simp))
    have GW4 := Lib.hid hW4
    clear hW4
    go_wp2_with fail
    rw [← GW4.out]
    refine (same_calls _ _ a W4 ((XW4.out).num Z6.out) ((Ext.trans Xw3.out (Ext.trans XW1.out (Ext.trans Xw4.out (Ext.trans XW2.out (Ext.trans Xw5.out (Ext.trans XW3.out (Ext.trans Xw6.out (XW4.out)))))))).num Z2.out)).mono ?_
    rintro e w7 ⟨rfl, hx⟩
    have Xw7 := Lib.hid hx
    clear hx 
    have hb4_0_7 : w7.cell? ⟨w4.heap.size + 1, 0, none⟩ = some (.bool false) := ((Ext.trans Xw5.out (Ext.trans XW3.out (Ext.trans Xw6.out (Ext.trans XW4.out (Xw7.out))))).row Rb4.out).cell 0
    have hb4_1_7 : w7.cell? ⟨w4.heap.size + 1, 1, none⟩ = some (.slice q4 m4 e4) := ((Ext.trans Xw5.out (Ext.trans XW3.out (Ext.trans Xw6.out (Ext.trans XW4.out (Xw7.out))))).row Rb4.out).cell 1
    have hb2_0_7 : w7.cell? ⟨w3.heap.size + 1, 0, none⟩ = some (.bool false) := ((Ext.trans Xw4.out (Ext.trans XW2.out (Ext.trans Xw5.out (Ext.trans XW3.out (Ext.trans Xw6.out (Ext.trans XW4.out (Xw7.out))))))).row Rb2.out).cell 0
    have hb2_1_7 : w7.cell? ⟨w3.heap.size + 1, 1, none⟩ = some (.slice p3 n3 c3) := ((Ext.trans Xw4.out (Ext.trans XW2.out (Ext.trans Xw5.out (Ext.trans XW3.out (Ext.trans Xw6.out (Ext.trans XW4.out (Xw7.out))))))).row Rb2.out).cell 1
    go_wp2_with fail
    refine (cmp_calls _ _ r d w7 ((Ext.trans XW2.out (Ext.trans Xw5.out (Ext.trans XW3.out (Ext.trans Xw6.out (Ext.trans XW4.out (Xw7.out)))))).num Y4.out) ((Ext.trans XW1.out (Ext.trans Xw4.out (Ext.trans XW2.out (Ext.trans Xw5.out (Ext.trans XW3.out (Ext.trans Xw6.out (Ext.trans XW4.out (Xw7.out)))))))).num Z3a.out)).mono ?_
    rintro e w8 ⟨rfl, hx⟩
    have Xw8 := Lib.hid hx
    clear hx 
    rw [hcmp]
    have hb3_0_8 : w8.cell? ⟨w4.heap.size, 0, none⟩ = some (.bool (decide (q < 0))) := ((Ext.trans Xw5.out (Ext.trans XW3.out (Ext.trans Xw6.out (Ext.trans XW4.out (Ext.trans Xw7.out (Xw8.out)))))).row Rb3.out).cell 0
    have hb3_1_8 : w8.cell? ⟨w4.heap.size, 1, none⟩ = some (.slice p4 n4 c4) := ((Ext.trans Xw5.out (Ext.trans XW3.out (Ext.trans Xw6.out (Ext.trans XW4.out (Ext.trans Xw7.out (Xw8.out)))))).row Rb3.out).cell 1
    go_wp2_with fail
    refine (right_calls_z _ (q) w8 ((Ext.trans XW2.out (Ext.trans Xw5.out (Ext.trans XW3.out (Ext.trans Xw6.out (Ext.trans XW4.out (Ext.trans Xw7.out (Xw8.out))))))).num Z4.out)).mono ?_
    rintro e w9 ⟨rfl, hx⟩
    have Xw9 := Lib.hid hx
    clear hx 
    have hb4_0_9 : w9.cell? ⟨w4.heap.size + 1, 0, none⟩ = some (.bool false) := ((Ext.trans Xw5.out (Ext.trans XW3.out (Ext.trans Xw6.out (Ext.trans XW4.out (Ext.trans Xw7.out (Ext.trans Xw8.out (Xw9.out))))))).row Rb4.out).cell 0
    have hb4_1_9 : w9.cell? ⟨w4.heap.size + 1, 1, none⟩ = some (.slice q4 m4 e4) := ((Ext.trans Xw5.out (Ext.trans XW3.out (Ext.trans Xw6.out (Ext.trans XW4.out (Ext.trans Xw7.out (Ext.trans Xw8.out (Xw9.out))))))).row Rb4.out).cell 1
    go_wp2_with fail
    refine (right_calls_z _ (r) w9 ((Ext.trans XW2.out (Ext.trans Xw5.out (Ext.trans XW3.out (Ext.trans Xw6.out (Ext.trans XW4.out (Ext.trans Xw7.out (Ext.trans Xw8.out (Xw9.out)))))))).num Y4.out)).mono ?_
    rintro e w10 ⟨rfl, hx⟩
    have Xw10 := Lib.hid hx
    clear hx 
    go_wp2
    go_ret
    exact ⟨rfl, (Ext.trans Xw1.out (Ext.trans Xw2.out (Ext.trans Xw3.out (Ext.trans XW1.out (Ext.trans Xw4.out (Ext.trans XW2.out (Ext.trans Xw5.out (Ext.trans XW3.out (Ext.trans Xw6.out (Ext.trans XW4.out (Ext.trans Xw7.out (Ext.trans Xw8.out (Ext.trans Xw9.out (Xw10.out))))))))))))))⟩

end Go.Proofs.YtcmpgboifcemmaaDoor
