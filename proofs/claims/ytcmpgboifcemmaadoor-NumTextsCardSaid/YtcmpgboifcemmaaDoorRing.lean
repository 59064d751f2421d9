/- NumRing. (Written with sym.py and gen_ring.py.) -/
import Derived.Test.YtcmpgboifcemmaaDoorSan
import Derived.Test.YtcmpgboifcemmaaDoorRefs
set_option linter.all false
namespace Go.Proofs.YtcmpgboifcemmaaDoor
open Go Go.RowKit Go.Shelf

theorem makes_of {la : List Int} {a : Int} {v : Value} {w : World} (h : madeOf la = a) (hc : Calls Tryd.prog 10 #[v] w (Gives1 w (madeOf la) (decide (madeOf la < 0)))) : Calls Tryd.prog 10 #[v] w (Gives1 w a (decide (a < 0))) := by subst h; exact hc
theorem znum_zero {B : Nat} {w : World} {b : Bool} {p : Option Addr} {n c : Nat} (h : ZNum B w (.agg #[.bool b, .slice p n c]) 0) : n = 0 := by
  obtain ⟨⟨s, he, q, c2, hq, -⟩, -⟩ := h
  simp only [Value.agg.injEq] at he
  have h2 := congrArg (fun (l : Array Value) => l[1]?) he
  simp only [List.getElem?_toArray, List.getElem?_cons_succ, List.getElem?_cons_zero, Option.some.injEq] at h2
  subst h2
  cases hq
  rfl
theorem sub_zero {va vb : Value} {za zb : Int} {w : World} (ha : ZNum w.heap.size w va za) (hb : ZNum w.heap.size w vb zb) (hz : za - zb = 0) :
    Calls Tryd.prog 21 #[va, vb] w fun e w' => ∃ p c, e = .returned (.tuple #[.agg #[.bool false, .slice p 0 c], .bool true]) ∧ Ext w w' :=
  (sub_gives (neg := false) ha hb hz rfl (lim64 (by decide))).mono fun e w' ⟨p, n, c, he, hz, hx⟩ => by
    have := znum_zero hz
    subst this
    exact ⟨p, c, he, hx⟩
theorem lim_add {a b : Int} {k : Nat} (ha : a.natAbs < B32 ^ k) (hb : b.natAbs < B32 ^ k) : (a + b).natAbs < B32 ^ (k + 1) := by
  have h : B32 ^ (k + 1) = B32 ^ k * B32 := Nat.pow_succ ..
  have h2 : B32 ^ k * 2 ≤ B32 ^ k * B32 := Nat.mul_le_mul_left _ (by decide)
  omega
theorem lim_mul {a b : Int} {j k : Nat} (ha : a.natAbs < B32 ^ j) (hb : b.natAbs < B32 ^ k) : (a * b).natAbs < B32 ^ (j + k) := by
  rw [Int.natAbs_mul, Nat.pow_add]
  exact Nat.mul_lt_mul'' ha hb
theorem lim_up {n k : Nat} (h : n < B32 ^ k) (hk : k ≤ 64) : n < B32 ^ 64 := Nat.lt_of_lt_of_le h (Nat.pow_le_pow_right B32_pos hk)

set_option maxRecDepth 100000 in
set_option maxHeartbeats 16000000 in
theorem numRing_walk (va vb vc : Value) (la lb lc : List Int) (w : World) (ht : Tab w) (hva : I64s w.heap.size w va la) (hvb : I64s w.heap.size w vb lb) (hvc : I64s w.heap.size w vc lc) :
    Calls Tryd.prog 5 #[va, vb, vc] w fun e w' => e = .returned (.bool true) ∧ Ext w w' := by
  obtain ⟨a, ha⟩ : ∃ a, madeOf la = a := ⟨_, rfl⟩
  obtain ⟨b, hb⟩ : ∃ b, madeOf lb = b := ⟨_, rfl⟩
  obtain ⟨c, hc⟩ : ∃ c, madeOf lc = c := ⟨_, rfl⟩
  have la6 := madeOf_lt la
  have lb6 := madeOf_lt lb
  have lc6 := madeOf_lt lc
  rw [ha] at la6
  rw [hb] at lb6
  rw [hc] at lc6
  have la1 := lim_up la6 (by decide)
  have lab := lim_up (lim_add la6 lb6) (by decide)
  have labc := lim_up (lim_mul (lim_add la6 lb6) lc6) (by decide)
  have lac := lim_up (lim_mul la6 lc6) (by decide)
  have lcb := lim_up (lim_mul lc6 lb6) (by decide)
  have hdist : a * c + c * b = (a + b) * c := by rw [Int.add_mul, Int.mul_comm c b]
  have HA := Lib.hid hva
  have HB := Lib.hid hvb
  have HC := Lib.hid hvc
  have HL := Lib.hid (And.intro la6 (And.intro lb6 lc6))
  clear hva hvb hvc la6 lb6 lc6
  go_enter Tryd.func5, Tryd.ntmps5
  go_wp2_with fail
  refine (sanity_calls w ((Ext.refl w).tab ht)).mono ?_
  rintro e w1 ⟨rfl, hx⟩
  have Xw1 := Lib.hid hx
  clear hx 
  go_wp2_with fail
  refine (makes_of ha (makes_calls va la w1 ((Xw1.out).i64s HA.out))).mono ?_
  rintro e w2 ⟨p2, n2, c2, rfl, hz, hx⟩
  have Xw2 := Lib.hid hx
  have Z2 := Lib.hid hz
  clear hx hz
  go_wp2_with fail
  refine (makes_of hb (makes_calls vb lb w2 ((Ext.trans Xw1.out (Xw2.out)).i64s HB.out))).mono ?_
  rintro e w3 ⟨p3, n3, c3, rfl, hz, hx⟩
  have Xw3 := Lib.hid hx
  have Z3 := Lib.hid hz
  clear hx hz
  go_wp2_with fail
  refine (makes_of hc (makes_calls vc lc w3 ((Ext.trans Xw1.out (Ext.trans Xw2.out (Xw3.out))).i64s HC.out))).mono ?_
  rintro e w4 ⟨p4, n4, c4, rfl, hz, hx⟩
  have Xw4 := Lib.hid hx
  have Z4 := Lib.hid hz
  clear hx hz
  obtain ⟨W1, hW1⟩ : ∃ W1, W1 = (((w4.alloc (.cells #[.bool (decide (a < 0)), .slice p2 n2 c2] 26)).alloc (.cells #[.bool (decide (b < 0)), .slice p3 n3 c3] 26)).alloc (.cells #[.bool (decide (c < 0)), .slice p4 n4 c4] 26)) := ⟨_, rfl⟩
  have XW1 : Hid (Ext w4 W1) := by rw [hW1]; exact (((Ext.alloc _ _).trans (Ext.alloc _ _)).trans (Ext.alloc _ _))
  have Rb1 : Hid (RowAt W1 (w4.heap.size) 26 #[.bool (decide (a < 0)), .slice p2 n2 c2]) := by rw [hW1]; exact (((RowAt.new' _ _ (by simp)).alloc _).alloc _)
  have Rb2 : Hid (RowAt W1 (w4.heap.size + 1) 26 #[.bool (decide (b < 0)), .slice p3 n3 c3]) := by rw [hW1]; exact ((RowAt.new' _ _ (by simp)).alloc _)
  have Rb3 : Hid (RowAt W1 (w4.heap.size + 1 + 1) 26 #[.bool (decide (c < 0)), .slice p4 n4 c4]) := by rw [hW1]; exact (RowAt.new' _ _ (by simp))
  have GW1 := Lib.hid hW1
  clear hW1
  go_wp2_with fail
  rw [← GW1.out]
  refine (add_gives (z := (a + b)) (neg := (decide ((a + b) < 0))) ((Ext.trans Xw3.out (Ext.trans Xw4.out (XW1.out))).num Z2.out) ((Ext.trans Xw4.out (XW1.out)).num Z3.out) rfl rfl lab).mono ?_
  rintro e w5 ⟨p5, n5, c5, rfl, hz, hx⟩
  have Xw5 := Lib.hid hx
  have Z5 := Lib.hid hz
  clear hx hz
  have hb2_0_5_1 : ∀ o0, (w5.alloc o0).cell? ⟨w4.heap.size + 1, 0, none⟩ = some (.bool (decide (b < 0))) := fun o0 => (((Xw5.out).trans (Ext.alloc _ o0)).row Rb2.out).cell 0
  have hb2_1_5_1 : ∀ o0, (w5.alloc o0).cell? ⟨w4.heap.size + 1, 1, none⟩ = some (.slice p3 n3 c3) := fun o0 => (((Xw5.out).trans (Ext.alloc _ o0)).row Rb2.out).cell 1
  have hb1_0_5_1 : ∀ o0, (w5.alloc o0).cell? ⟨w4.heap.size, 0, none⟩ = some (.bool (decide (a < 0))) := fun o0 => (((Xw5.out).trans (Ext.alloc _ o0)).row Rb1.out).cell 0
  have hb1_1_5_1 : ∀ o0, (w5.alloc o0).cell? ⟨w4.heap.size, 1, none⟩ = some (.slice p2 n2 c2) := fun o0 => (((Xw5.out).trans (Ext.alloc _ o0)).row Rb1.out).cell 1
  obtain ⟨W2, hW2⟩ : ∃ W2, W2 = (w5.alloc (.cells #[.bool (decide ((a + b) < 0)), .slice p5 n5 c5] 26)) := ⟨_, rfl⟩
  have XW2 : Hid (Ext w5 W2) := by rw [hW2]; exact (Ext.alloc _ _)
  have Rb4 : Hid (RowAt W2 (w5.heap.size) 26 #[.bool (decide ((a + b) < 0)), .slice p5 n5 c5]) := by rw [hW2]; exact (RowAt.new' _ _ (by simp))
  have GW2 := Lib.hid hW2
  clear hW2
  go_wp2_with fail
  rw [← GW2.out]
  refine (add_gives (z := (a + b)) (neg := (decide ((a + b) < 0))) ((Ext.trans Xw4.out (Ext.trans XW1.out (Ext.trans Xw5.out (XW2.out)))).num Z3.out) ((Ext.trans Xw3.out (Ext.trans Xw4.out (Ext.trans XW1.out (Ext.trans Xw5.out (XW2.out))))).num Z2.out) (Int.add_comm b a) rfl lab).mono ?_
  rintro e w6 ⟨p6, n6, c6, rfl, hz, hx⟩
  have Xw6 := Lib.hid hx
  have Z6 := Lib.hid hz
  clear hx hz
  have hb4_0_6_1 : ∀ o0, (w6.alloc o0).cell? ⟨w5.heap.size, 0, none⟩ = some (.bool (decide ((a + b) < 0))) := fun o0 => (((Xw6.out).trans (Ext.alloc _ o0)).row Rb4.out).cell 0
  have hb4_1_6_1 : ∀ o0, (w6.alloc o0).cell? ⟨w5.heap.size, 1, none⟩ = some (.slice p5 n5 c5) := fun o0 => (((Xw6.out).trans (Ext.alloc _ o0)).row Rb4.out).cell 1
  have hb3_0_6_1 : ∀ o0, (w6.alloc o0).cell? ⟨w4.heap.size + 1 + 1, 0, none⟩ = some (.bool (decide (c < 0))) := fun o0 => (((Ext.trans Xw5.out (Ext.trans XW2.out (Xw6.out))).trans (Ext.alloc _ o0)).row Rb3.out).cell 0
  have hb3_1_6_1 : ∀ o0, (w6.alloc o0).cell? ⟨w4.heap.size + 1 + 1, 1, none⟩ = some (.slice p4 n4 c4) := fun o0 => (((Ext.trans Xw5.out (Ext.trans XW2.out (Xw6.out))).trans (Ext.alloc _ o0)).row Rb3.out).cell 1
  obtain ⟨W3, hW3⟩ : ∃ W3, W3 = (w6.alloc (.cells #[.bool (decide ((a + b) < 0)), .slice p6 n6 c6] 26)) := ⟨_, rfl⟩
  have XW3 : Hid (Ext w6 W3) := by rw [hW3]; exact (Ext.alloc _ _)
  have Rb5 : Hid (RowAt W3 (w6.heap.size) 26 #[.bool (decide ((a + b) < 0)), .slice p6 n6 c6]) := by rw [hW3]; exact (RowAt.new' _ _ (by simp))
  have GW3 := Lib.hid hW3
  clear hW3
  go_wp2_with fail
  rw [← GW3.out]
  refine (mul_gives (z := ((a + b) * c)) (neg := (decide (((a + b) * c) < 0))) ((Ext.trans XW2.out (Ext.trans Xw6.out (XW3.out))).num Z5.out) ((Ext.trans XW1.out (Ext.trans Xw5.out (Ext.trans XW2.out (Ext.trans Xw6.out (XW3.out))))).num Z4.out) rfl rfl labc).mono ?_
  rintro e w7 ⟨p7, n7, c7, rfl, hz, hx⟩
  have Xw7 := Lib.hid hx
  have Z7 := Lib.hid hz
  clear hx hz
  have hb1_0_7_1 : ∀ o0, (w7.alloc o0).cell? ⟨w4.heap.size, 0, none⟩ = some (.bool (decide (a < 0))) := fun o0 => (((Ext.trans Xw5.out (Ext.trans XW2.out (Ext.trans Xw6.out (Ext.trans XW3.out (Xw7.out))))).trans (Ext.alloc _ o0)).row Rb1.out).cell 0
  have hb1_1_7_1 : ∀ o0, (w7.alloc o0).cell? ⟨w4.heap.size, 1, none⟩ = some (.slice p2 n2 c2) := fun o0 => (((Ext.trans Xw5.out (Ext.trans XW2.out (Ext.trans Xw6.out (Ext.trans XW3.out (Xw7.out))))).trans (Ext.alloc _ o0)).row Rb1.out).cell 1
  have hb3_0_7_1 : ∀ o0, (w7.alloc o0).cell? ⟨w4.heap.size + 1 + 1, 0, none⟩ = some (.bool (decide (c < 0))) := fun o0 => (((Ext.trans Xw5.out (Ext.trans XW2.out (Ext.trans Xw6.out (Ext.trans XW3.out (Xw7.out))))).trans (Ext.alloc _ o0)).row Rb3.out).cell 0
  have hb3_1_7_1 : ∀ o0, (w7.alloc o0).cell? ⟨w4.heap.size + 1 + 1, 1, none⟩ = some (.slice p4 n4 c4) := fun o0 => (((Ext.trans Xw5.out (Ext.trans XW2.out (Ext.trans Xw6.out (Ext.trans XW3.out (Xw7.out))))).trans (Ext.alloc _ o0)).row Rb3.out).cell 1
  obtain ⟨W4, hW4⟩ : ∃ W4, W4 = (w7.alloc (.cells #[.bool (decide (((a + b) * c) < 0)), .slice p7 n7 c7] 26)) := ⟨_, rfl⟩
  have XW4 : Hid (Ext w7 W4) := by rw [hW4]; exact (Ext.alloc _ _)
  have Rb6 : Hid (RowAt W4 (w7.heap.size) 26 #[.bool (decide (((a + b) * c) < 0)), .slice p7 n7 c7]) := by rw [hW4]; exact (RowAt.new' _ _ (by simp))
  have GW4 := Lib.hid hW4
  clear hW4
  go_wp2_with fail
  rw [← GW4.out]
  refine (mul_gives (z := (a * c)) (neg := (decide ((a * c) < 0))) ((Ext.trans Xw3.out (Ext.trans Xw4.out (Ext.trans XW1.out (Ext.trans Xw5.out (Ext.trans XW2.out (Ext.trans Xw6.out (Ext.trans XW3.out (Ext.trans Xw7.out (XW4.out))))))))).num Z2.out) ((Ext.trans XW1.out (Ext.trans Xw5.out (Ext.trans XW2.out (Ext.trans Xw6.out (Ext.trans XW3.out (Ext.trans Xw7.out (XW4.out))))))).num Z4.out) rfl rfl lac).mono ?_
  rintro e w8 ⟨p8, n8, c8, rfl, hz, hx⟩
  have Xw8 := Lib.hid hx
  have Z8 := Lib.hid hz
  clear hx hz
  have hb3_0_8_1 : ∀ o0, (w8.alloc o0).cell? ⟨w4.heap.size + 1 + 1, 0, none⟩ = some (.bool (decide (c < 0))) := fun o0 => (((Ext.trans Xw5.out (Ext.trans XW2.out (Ext.trans Xw6.out (Ext.trans XW3.out (Ext.trans Xw7.out (Ext.trans XW4.out (Xw8.out))))))).trans (Ext.alloc _ o0)).row Rb3.out).cell 0
  have hb3_1_8_1 : ∀ o0, (w8.alloc o0).cell? ⟨w4.heap.size + 1 + 1, 1, none⟩ = some (.slice p4 n4 c4) := fun o0 => (((Ext.trans Xw5.out (Ext.trans XW2.out (Ext.trans Xw6.out (Ext.trans XW3.out (Ext.trans Xw7.out (Ext.trans XW4.out (Xw8.out))))))).trans (Ext.alloc _ o0)).row Rb3.out).cell 1
  have hb2_0_8_1 : ∀ o0, (w8.alloc o0).cell? ⟨w4.heap.size + 1, 0, none⟩ = some (.bool (decide (b < 0))) := fun o0 => (((Ext.trans Xw5.out (Ext.trans XW2.out (Ext.trans Xw6.out (Ext.trans XW3.out (Ext.trans Xw7.out (Ext.trans XW4.out (Xw8.out))))))).trans (Ext.alloc _ o0)).row Rb2.out).cell 0
  have hb2_1_8_1 : ∀ o0, (w8.alloc o0).cell? ⟨w4.heap.size + 1, 1, none⟩ = some (.slice p3 n3 c3) := fun o0 => (((Ext.trans Xw5.out (Ext.trans XW2.out (Ext.trans Xw6.out (Ext.trans XW3.out (Ext.trans Xw7.out (Ext.trans XW4.out (Xw8.out))))))).trans (Ext.alloc _ o0)).row Rb2.out).cell 1
  obtain ⟨W5, hW5⟩ : ∃ W5, W5 = (w8.alloc (.cells #[.bool (decide ((a * c) < 0)), .slice p8 n8 c8] 26)) := ⟨_, rfl⟩
  have XW5 : Hid (Ext w8 W5) := by rw [hW5]; exact (Ext.alloc _ _)
  have Rb7 : Hid (RowAt W5 (w8.heap.size) 26 #[.bool (decide ((a * c) < 0)), .slice p8 n8 c8]) := by rw [hW5]; exact (RowAt.new' _ _ (by simp))
  have GW5 := Lib.hid hW5
  clear hW5
  go_wp2_with fail
  rw [← GW5.out]
  refine (mul_gives (z := (c * b)) (neg := (decide ((c * b) < 0))) ((Ext.trans XW1.out (Ext.trans Xw5.out (Ext.trans XW2.out (Ext.trans Xw6.out (Ext.trans XW3.out (Ext.trans Xw7.out (Ext.trans XW4.out (Ext.trans Xw8.out (XW5.out))))))))).num Z4.out) ((Ext.trans Xw4.out (Ext.trans XW1.out (Ext.trans Xw5.out (Ext.trans XW2.out (Ext.trans Xw6.out (Ext.trans XW3.out (Ext.trans Xw7.out (Ext.trans XW4.out (Ext.trans Xw8.out (XW5.out)))))))))).num Z3.out) rfl rfl lcb).mono ?_
  rintro e w9 ⟨p9, n9, c9, rfl, hz, hx⟩
  have Xw9 := Lib.hid hx
  have Z9 := Lib.hid hz
  clear hx hz
  have hb7_0_9_1 : ∀ o0, (w9.alloc o0).cell? ⟨w8.heap.size, 0, none⟩ = some (.bool (decide ((a * c) < 0))) := fun o0 => (((Xw9.out).trans (Ext.alloc _ o0)).row Rb7.out).cell 0
  have hb7_1_9_1 : ∀ o0, (w9.alloc o0).cell? ⟨w8.heap.size, 1, none⟩ = some (.slice p8 n8 c8) := fun o0 => (((Xw9.out).trans (Ext.alloc _ o0)).row Rb7.out).cell 1
  obtain ⟨W6, hW6⟩ : ∃ W6, W6 = (w9.alloc (.cells #[.bool (decide ((c * b) < 0)), .slice p9 n9 c9] 26)) := ⟨_, rfl⟩
  have XW6 : Hid (Ext w9 W6) := by rw [hW6]; exact (Ext.alloc _ _)
  have Rb8 : Hid (RowAt W6 (w9.heap.size) 26 #[.bool (decide ((c * b) < 0)), .slice p9 n9 c9]) := by rw [hW6]; exact (RowAt.new' _ _ (by simp))
  have GW6 := Lib.hid hW6
  clear hW6
  go_wp2_with fail
  rw [← GW6.out]
  refine (add_gives (z := ((a + b) * c)) (neg := (decide (((a + b) * c) < 0))) ((Ext.trans XW5.out (Ext.trans Xw9.out (XW6.out))).num Z8.out) ((XW6.out).num Z9.out) hdist rfl labc).mono ?_
  rintro e w10 ⟨p10, n10, c10, rfl, hz, hx⟩
  have Xw10 := Lib.hid hx
  have Z10 := Lib.hid hz
  clear hx hz
  have hb4_0_10_1 : ∀ o0, (w10.alloc o0).cell? ⟨w5.heap.size, 0, none⟩ = some (.bool (decide ((a + b) < 0))) := fun o0 => (((Ext.trans Xw6.out (Ext.trans XW3.out (Ext.trans Xw7.out (Ext.trans XW4.out (Ext.trans Xw8.out (Ext.trans XW5.out (Ext.trans Xw9.out (Ext.trans XW6.out (Xw10.out))))))))).trans (Ext.alloc _ o0)).row Rb4.out).cell 0
  have hb4_1_10_1 : ∀ o0, (w10.alloc o0).cell? ⟨w5.heap.size, 1, none⟩ = some (.slice p5 n5 c5) := fun o0 => (((Ext.trans Xw6.out (Ext.trans XW3.out (Ext.trans Xw7.out (Ext.trans XW4.out (Ext.trans Xw8.out (Ext.trans XW5.out (Ext.trans Xw9.out (Ext.trans XW6.out (Xw10.out))))))))).trans (Ext.alloc _ o0)).row Rb4.out).cell 1
  have hb2_0_10_1 : ∀ o0, (w10.alloc o0).cell? ⟨w4.heap.size + 1, 0, none⟩ = some (.bool (decide (b < 0))) := fun o0 => (((Ext.trans Xw5.out (Ext.trans XW2.out (Ext.trans Xw6.out (Ext.trans XW3.out (Ext.trans Xw7.out (Ext.trans XW4.out (Ext.trans Xw8.out (Ext.trans XW5.out (Ext.trans Xw9.out (Ext.trans XW6.out (Xw10.out))))))))))).trans (Ext.alloc _ o0)).row Rb2.out).cell 0
  have hb2_1_10_1 : ∀ o0, (w10.alloc o0).cell? ⟨w4.heap.size + 1, 1, none⟩ = some (.slice p3 n3 c3) := fun o0 => (((Ext.trans Xw5.out (Ext.trans XW2.out (Ext.trans Xw6.out (Ext.trans XW3.out (Ext.trans Xw7.out (Ext.trans XW4.out (Ext.trans Xw8.out (Ext.trans XW5.out (Ext.trans Xw9.out (Ext.trans XW6.out (Xw10.out))))))))))).trans (Ext.alloc _ o0)).row Rb2.out).cell 1
  obtain ⟨W7, hW7⟩ : ∃ W7, W7 = (w10.alloc (.cells #[.bool (decide (((a + b) * c) < 0)), .slice p10 n10 c10] 26)) := ⟨_, rfl⟩
  have XW7 : Hid (Ext w10 W7) := by rw [hW7]; exact (Ext.alloc _ _)
  have Rb9 : Hid (RowAt W7 (w10.heap.size) 26 #[.bool (decide (((a + b) * c) < 0)), .slice p10 n10 c10]) := by rw [hW7]; exact (RowAt.new' _ _ (by simp))
  have GW7 := Lib.hid hW7
  clear hW7
  go_wp2_with fail
  rw [← GW7.out]
  refine (sub_gives (z := a) (neg := (decide (a < 0))) ((Ext.trans XW2.out (Ext.trans Xw6.out (Ext.trans XW3.out (Ext.trans Xw7.out (Ext.trans XW4.out (Ext.trans Xw8.out (Ext.trans XW5.out (Ext.trans Xw9.out (Ext.trans XW6.out (Ext.trans Xw10.out (XW7.out))))))))))).num Z5.out) ((Ext.trans Xw4.out (Ext.trans XW1.out (Ext.trans Xw5.out (Ext.trans XW2.out (Ext.trans Xw6.out (Ext.trans XW3.out (Ext.trans Xw7.out (Ext.trans XW4.out (Ext.trans Xw8.out (Ext.trans XW5.out (Ext.trans Xw9.out (Ext.trans XW6.out (Ext.trans Xw10.out (XW7.out)))))))))))))).num Z3.out) (by omega) rfl la1).mono ?_
  rintro e w11 ⟨p11, n11, c11, rfl, hz, hx⟩
  have Xw11 := Lib.hid hx
  have Z11 := Lib.hid hz
  clear hx hz
  have hb6_0_11_1 : ∀ o0, (w11.alloc o0).cell? ⟨w7.heap.size, 0, none⟩ = some (.bool (decide (((a + b) * c) < 0))) := fun o0 => (((Ext.trans Xw8.out (Ext.trans XW5.out (Ext.trans Xw9.out (Ext.trans XW6.out (Ext.trans Xw10.out (Ext.trans XW7.out (Xw11.out))))))).trans (Ext.alloc _ o0)).row Rb6.out).cell 0
  have hb6_1_11_1 : ∀ o0, (w11.alloc o0).cell? ⟨w7.heap.size, 1, none⟩ = some (.slice p7 n7 c7) := fun o0 => (((Ext.trans Xw8.out (Ext.trans XW5.out (Ext.trans Xw9.out (Ext.trans XW6.out (Ext.trans Xw10.out (Ext.trans XW7.out (Xw11.out))))))).trans (Ext.alloc _ o0)).row Rb6.out).cell 1
  have hb9_0_11_1 : ∀ o0, (w11.alloc o0).cell? ⟨w10.heap.size, 0, none⟩ = some (.bool (decide (((a + b) * c) < 0))) := fun o0 => (((Xw11.out).trans (Ext.alloc _ o0)).row Rb9.out).cell 0
  have hb9_1_11_1 : ∀ o0, (w11.alloc o0).cell? ⟨w10.heap.size, 1, none⟩ = some (.slice p10 n10 c10) := fun o0 => (((Xw11.out).trans (Ext.alloc _ o0)).row Rb9.out).cell 1
  obtain ⟨W8, hW8⟩ : ∃ W8, W8 = (w11.alloc (.cells #[.bool (decide (a < 0)), .slice p11 n11 c11] 26)) := ⟨_, rfl⟩
  have XW8 : Hid (Ext w11 W8) := by rw [hW8]; exact (Ext.alloc _ _)
  have Rb10 : Hid (RowAt W8 (w11.heap.size) 26 #[.bool (decide (a < 0)), .slice p11 n11 c11]) := by rw [hW8]; exact (RowAt.new' _ _ (by simp))
  have GW8 := Lib.hid hW8
  clear hW8
  go_wp2_with fail
  rw [← GW8.out]
  refine (sub_zero ((Ext.trans XW4.out (Ext.trans Xw8.out (Ext.trans XW5.out (Ext.trans Xw9.out (Ext.trans XW6.out (Ext.trans Xw10.out (Ext.trans XW7.out (Ext.trans Xw11.out (XW8.out))))))))).num Z7.out) ((Ext.trans XW7.out (Ext.trans Xw11.out (XW8.out))).num Z10.out) (Int.sub_self _)).mono ?_
  rintro e w12 ⟨p12, c12, rfl, hx⟩
  have Xw12 := Lib.hid hx
  clear hx 
  have hb4_0_12_1 : ∀ o0, (w12.alloc o0).cell? ⟨w5.heap.size, 0, none⟩ = some (.bool (decide ((a + b) < 0))) := fun o0 => (((Ext.trans Xw6.out (Ext.trans XW3.out (Ext.trans Xw7.out (Ext.trans XW4.out (Ext.trans Xw8.out (Ext.trans XW5.out (Ext.trans Xw9.out (Ext.trans XW6.out (Ext.trans Xw10.out (Ext.trans XW7.out (Ext.trans Xw11.out (Ext.trans XW8.out (Xw12.out))))))))))))).trans (Ext.alloc _ o0)).row Rb4.out).cell 0
  have hb4_1_12_1 : ∀ o0, (w12.alloc o0).cell? ⟨w5.heap.size, 1, none⟩ = some (.slice p5 n5 c5) := fun o0 => (((Ext.trans Xw6.out (Ext.trans XW3.out (Ext.trans Xw7.out (Ext.trans XW4.out (Ext.trans Xw8.out (Ext.trans XW5.out (Ext.trans Xw9.out (Ext.trans XW6.out (Ext.trans Xw10.out (Ext.trans XW7.out (Ext.trans Xw11.out (Ext.trans XW8.out (Xw12.out))))))))))))).trans (Ext.alloc _ o0)).row Rb4.out).cell 1
  have hb5_0_12_1 : ∀ o0, (w12.alloc o0).cell? ⟨w6.heap.size, 0, none⟩ = some (.bool (decide ((a + b) < 0))) := fun o0 => (((Ext.trans Xw7.out (Ext.trans XW4.out (Ext.trans Xw8.out (Ext.trans XW5.out (Ext.trans Xw9.out (Ext.trans XW6.out (Ext.trans Xw10.out (Ext.trans XW7.out (Ext.trans Xw11.out (Ext.trans XW8.out (Xw12.out))))))))))).trans (Ext.alloc _ o0)).row Rb5.out).cell 0
  have hb5_1_12_1 : ∀ o0, (w12.alloc o0).cell? ⟨w6.heap.size, 1, none⟩ = some (.slice p6 n6 c6) := fun o0 => (((Ext.trans Xw7.out (Ext.trans XW4.out (Ext.trans Xw8.out (Ext.trans XW5.out (Ext.trans Xw9.out (Ext.trans XW6.out (Ext.trans Xw10.out (Ext.trans XW7.out (Ext.trans Xw11.out (Ext.trans XW8.out (Xw12.out))))))))))).trans (Ext.alloc _ o0)).row Rb5.out).cell 1
  obtain ⟨W9, hW9⟩ : ∃ W9, W9 = (w12.alloc (.cells #[.bool false, .slice p12 0 c12] 26)) := ⟨_, rfl⟩
  have XW9 : Hid (Ext w12 W9) := by rw [hW9]; exact (Ext.alloc _ _)
  have Rb11 : Hid (RowAt W9 (w12.heap.size) 26 #[.bool false, .slice p12 0 c12]) := by rw [hW9]; exact (RowAt.new' _ _ (by simp))
  have GW9 := Lib.hid hW9
  clear hW9
  go_wp2_with fail
  rw [← GW9.out]
  refine (same_calls _ _ ((a + b)) W9 ((Ext.trans XW2.out (Ext.trans Xw6.out (Ext.trans XW3.out (Ext.trans Xw7.out (Ext.trans XW4.out (Ext.trans Xw8.out (Ext.trans XW5.out (Ext.trans Xw9.out (Ext.trans XW6.out (Ext.trans Xw10.out (Ext.trans XW7.out (Ext.trans Xw11.out (Ext.trans XW8.out (Ext.trans Xw12.out (XW9.out))))))))))))))).num Z5.out) ((Ext.trans XW3.out (Ext.trans Xw7.out (Ext.trans XW4.out (Ext.trans Xw8.out (Ext.trans XW5.out (Ext.trans Xw9.out (Ext.trans XW6.out (Ext.trans Xw10.out (Ext.trans XW7.out (Ext.trans Xw11.out (Ext.trans XW8.out (Ext.trans Xw12.out (XW9.out))))))))))))).num Z6.out)).mono ?_
  rintro e w13 ⟨rfl, hx⟩
  have Xw13 := Lib.hid hx
  clear hx 
  have hb6_0_13 : w13.cell? ⟨w7.heap.size, 0, none⟩ = some (.bool (decide (((a + b) * c) < 0))) := ((Ext.trans Xw8.out (Ext.trans XW5.out (Ext.trans Xw9.out (Ext.trans XW6.out (Ext.trans Xw10.out (Ext.trans XW7.out (Ext.trans Xw11.out (Ext.trans XW8.out (Ext.trans Xw12.out (Ext.trans XW9.out (Xw13.out))))))))))).row Rb6.out).cell 0
  have hb6_1_13 : w13.cell? ⟨w7.heap.size, 1, none⟩ = some (.slice p7 n7 c7) := ((Ext.trans Xw8.out (Ext.trans XW5.out (Ext.trans Xw9.out (Ext.trans XW6.out (Ext.trans Xw10.out (Ext.trans XW7.out (Ext.trans Xw11.out (Ext.trans XW8.out (Ext.trans Xw12.out (Ext.trans XW9.out (Xw13.out))))))))))).row Rb6.out).cell 1
  have hb9_0_13 : w13.cell? ⟨w10.heap.size, 0, none⟩ = some (.bool (decide (((a + b) * c) < 0))) := ((Ext.trans Xw11.out (Ext.trans XW8.out (Ext.trans Xw12.out (Ext.trans XW9.out (Xw13.out))))).row Rb9.out).cell 0
  have hb9_1_13 : w13.cell? ⟨w10.heap.size, 1, none⟩ = some (.slice p10 n10 c10) := ((Ext.trans Xw11.out (Ext.trans XW8.out (Ext.trans Xw12.out (Ext.trans XW9.out (Xw13.out))))).row Rb9.out).cell 1
  go_wp2_with fail
  refine (same_calls _ _ (((a + b) * c)) w13 ((Ext.trans XW4.out (Ext.trans Xw8.out (Ext.trans XW5.out (Ext.trans Xw9.out (Ext.trans XW6.out (Ext.trans Xw10.out (Ext.trans XW7.out (Ext.trans Xw11.out (Ext.trans XW8.out (Ext.trans Xw12.out (Ext.trans XW9.out (Xw13.out)))))))))))).num Z7.out) ((Ext.trans XW7.out (Ext.trans Xw11.out (Ext.trans XW8.out (Ext.trans Xw12.out (Ext.trans XW9.out (Xw13.out)))))).num Z10.out)).mono ?_
  rintro e w14 ⟨rfl, hx⟩
  have Xw14 := Lib.hid hx
  clear hx 
  have hb10_0_14 : w14.cell? ⟨w11.heap.size, 0, none⟩ = some (.bool (decide (a < 0))) := ((Ext.trans Xw12.out (Ext.trans XW9.out (Ext.trans Xw13.out (Xw14.out)))).row Rb10.out).cell 0
  have hb10_1_14 : w14.cell? ⟨w11.heap.size, 1, none⟩ = some (.slice p11 n11 c11) := ((Ext.trans Xw12.out (Ext.trans XW9.out (Ext.trans Xw13.out (Xw14.out)))).row Rb10.out).cell 1
  have hb1_0_14 : w14.cell? ⟨w4.heap.size, 0, none⟩ = some (.bool (decide (a < 0))) := ((Ext.trans Xw5.out (Ext.trans XW2.out (Ext.trans Xw6.out (Ext.trans XW3.out (Ext.trans Xw7.out (Ext.trans XW4.out (Ext.trans Xw8.out (Ext.trans XW5.out (Ext.trans Xw9.out (Ext.trans XW6.out (Ext.trans Xw10.out (Ext.trans XW7.out (Ext.trans Xw11.out (Ext.trans XW8.out (Ext.trans Xw12.out (Ext.trans XW9.out (Ext.trans Xw13.out (Xw14.out)))))))))))))))))).row Rb1.out).cell 0
  have hb1_1_14 : w14.cell? ⟨w4.heap.size, 1, none⟩ = some (.slice p2 n2 c2) := ((Ext.trans Xw5.out (Ext.trans XW2.out (Ext.trans Xw6.out (Ext.trans XW3.out (Ext.trans Xw7.out (Ext.trans XW4.out (Ext.trans Xw8.out (Ext.trans XW5.out (Ext.trans Xw9.out (Ext.trans XW6.out (Ext.trans Xw10.out (Ext.trans XW7.out (Ext.trans Xw11.out (Ext.trans XW8.out (Ext.trans Xw12.out (Ext.trans XW9.out (Ext.trans Xw13.out (Xw14.out)))))))))))))))))).row Rb1.out).cell 1
  go_wp2_with fail
  refine (same_calls _ _ a w14 ((Ext.trans XW8.out (Ext.trans Xw12.out (Ext.trans XW9.out (Ext.trans Xw13.out (Xw14.out))))).num Z11.out) ((Ext.trans Xw3.out (Ext.trans Xw4.out (Ext.trans XW1.out (Ext.trans Xw5.out (Ext.trans XW2.out (Ext.trans Xw6.out (Ext.trans XW3.out (Ext.trans Xw7.out (Ext.trans XW4.out (Ext.trans Xw8.out (Ext.trans XW5.out (Ext.trans Xw9.out (Ext.trans XW6.out (Ext.trans Xw10.out (Ext.trans XW7.out (Ext.trans Xw11.out (Ext.trans XW8.out (Ext.trans Xw12.out (Ext.trans XW9.out (Ext.trans Xw13.out (Xw14.out))))))))))))))))))))).num Z2.out)).mono ?_
  rintro e w15 ⟨rfl, hx⟩
  have Xw15 := Lib.hid hx
  clear hx 
  have hb11_1_15 : w15.cell? ⟨w12.heap.size, 1, none⟩ = some (.slice p12 0 c12) := ((Ext.trans Xw13.out (Ext.trans Xw14.out (Xw15.out))).row Rb11.out).cell 1
  have hb11_0_15 : w15.cell? ⟨w12.heap.size, 0, none⟩ = some (.bool false) := ((Ext.trans Xw13.out (Ext.trans Xw14.out (Xw15.out))).row Rb11.out).cell 0
  go_wp2
  go_ret
  exact ⟨rfl, (Ext.trans Xw1.out (Ext.trans Xw2.out (Ext.trans Xw3.out (Ext.trans Xw4.out (Ext.trans XW1.out (Ext.trans Xw5.out (Ext.trans XW2.out (Ext.trans Xw6.out (Ext.trans XW3.out (Ext.trans Xw7.out (Ext.trans XW4.out (Ext.trans Xw8.out (Ext.trans XW5.out (Ext.trans Xw9.out (Ext.trans XW6.out (Ext.trans Xw10.out (Ext.trans XW7.out (Ext.trans Xw11.out (Ext.trans XW8.out (Ext.trans Xw12.out (Ext.trans XW9.out (Ext.trans Xw13.out (Ext.trans Xw14.out (Xw15.out))))))))))))))))))))))))⟩

end Go.Proofs.YtcmpgboifcemmaaDoor
