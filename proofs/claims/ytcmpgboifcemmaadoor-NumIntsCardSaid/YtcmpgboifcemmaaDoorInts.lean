/- NumInts. (Written with genline.py and gen_ints.py.) -/
import Derived.Test.YtcmpgboifcemmaaDoorSan
set_option linter.all false
namespace Go.Proofs.YtcmpgboifcemmaaDoor
open Go Go.RowKit Go.Shelf

theorem tmod_bounds (n : Int) : -2147483648 < n.tmod 2147483648 ∧ n.tmod 2147483648 < 2147483648 := by
  have h := Int.natAbs_tmod n 2147483648
  have h2 : n.natAbs % 2147483648 < 2147483648 := Nat.mod_lt _ (by decide)
  rw [show (2147483648 : Int).natAbs = 2147483648 from rfl] at h
  omega
theorem prod_bounds {a b : Int} (ha : -2147483648 < a ∧ a < 2147483648) (hb : -2147483648 < b ∧ b < 2147483648) : -9223372036854775808 ≤ a * b ∧ a * b ≤ 9223372036854775807 ∧ (a * b).natAbs < 79228162514264337593543950336 := by
  have h := Int.natAbs_mul a b
  have h2 : a.natAbs * b.natAbs ≤ 2147483648 * 2147483648 := Nat.mul_le_mul (by omega) (by omega)
  generalize a * b = p at *
  omega

set_option maxRecDepth 100000 in
set_option maxHeartbeats 16000000 in
theorem numInts_walk (n m : Int) (w : World) (ht : Tab w) (hn : -9223372036854775808 ≤ n ∧ n ≤ 9223372036854775807) (hm : -9223372036854775808 ≤ m ∧ m ≤ 9223372036854775807) :
    Calls Tryd.prog 4 #[.int .i64 n, .int .i64 m] w fun e w' => e = .returned (.bool true) ∧ Ext w w' := by
  have ha := tmod_bounds n
  have hb := tmod_bounds m
  generalize hga : n.tmod 2147483648 = a at *
  generalize hgb : m.tmod 2147483648 = b at *
  have hab := prod_bounds ha hb
  have ha2 : -9223372036854775808 ≤ a ∧ a ≤ 9223372036854775807 := by omega
  have hb2 : -9223372036854775808 ≤ b ∧ b ≤ 9223372036854775807 := by omega
  have hw1 : IntKind.i64.wrap (a + b) = a + b := by rw [IntKind.wrap_i64]; omega
  have hw2 : IntKind.i64.wrap (a - b) = a - b := by rw [IntKind.wrap_i64]; omega
  have hw3 : IntKind.i64.wrap (a * b) = a * b := by rw [IntKind.wrap_i64]; have := hab; generalize a * b = p at *; omega
  go_enter Tryd.func4, Tryd.ntmps4
  go_wp2_with fail
  refine (sanity_calls w ht).mono ?_
  rintro e w1 ⟨rfl, hx⟩
  have Xw1 := Lib.hid hx
  clear hx 
  go_wp2_with fail
  refine (of_gives (neg := decide (n < 0)) n hn.1 hn.2 rfl w1).mono ?_
  rintro e w2 ⟨p2, n2, c2, rfl, hz, hx⟩
  have Xw2 := Lib.hid hx
  have Zn := Lib.hid hz
  clear hx hz
  go_wp2_with fail
  refine (int_gives ((Ext.refl w2).num Zn.out) hn.1 hn.2).mono ?_
  rintro e w3 ⟨rfl, hx⟩
  have Xw3 := Lib.hid hx
  clear hx 
  go_wp2_with fail
  refine (of_gives (neg := decide (a < 0)) a ha2.1 ha2.2 rfl w3).mono ?_
  rintro e w4 ⟨p4, n4, c4, rfl, hz, hx⟩
  have Xw4 := Lib.hid hx
  have Za1 := Lib.hid hz
  clear hx hz
  have Zasum := Za1
  go_wp2_with fail
  refine (of_gives (neg := decide (b < 0)) b hb2.1 hb2.2 rfl w4).mono ?_
  rintro e w5 ⟨p5, n5, c5, rfl, hz, hx⟩
  have Xw5 := Lib.hid hx
  have Zbsum := Lib.hid hz
  clear hx hz
  go_wp2_with fail
  refine (add_gives (neg := decide (a + b < 0)) ((Xw5.out).num Zasum.out) ((Ext.refl w5).num Zbsum.out) rfl rfl (lim64 (by omega))).mono ?_
  rintro e w6 ⟨p6, n6, c6, rfl, hz, hx⟩
  have Xw6 := Lib.hid hx
  have Zsum := Lib.hid hz
  clear hx hz
  obtain ⟨W1, hW1⟩ : ∃ W1, W1 = (w6.alloc (.cells #[.bool (decide (a + b < 0)), .slice p6 n6 c6] 26)) := ⟨_, rfl⟩
  have XW1 : Hid (Ext w6 W1) := by rw [hW1]; exact Ext.alloc _ _
  have Rbsum : Hid (RowAt W1 (w6.heap.size) 26 #[.bool (decide (a + b < 0)), .slice p6 n6 c6]) := by rw [hW1]; exact (RowAt.new' _ _ (by simp))
  have GW1 := Lib.hid hW1
  clear hW1
  go_wp2_with fail
  rw [← GW1.out]
  refine (of_gives (neg := decide (a < 0)) a ha2.1 ha2.2 rfl W1).mono ?_
  rintro e w7 ⟨p7, n7, c7, rfl, hz, hx⟩
  have Xw7 := Lib.hid hx
  have Zadif := Lib.hid hz
  clear hx hz
  go_wp2_with fail
  refine (of_gives (neg := decide (b < 0)) b hb2.1 hb2.2 rfl w7).mono ?_
  rintro e w8 ⟨p8, n8, c8, rfl, hz, hx⟩
  have Xw8 := Lib.hid hx
  have Zbdif := Lib.hid hz
  clear hx hz
  go_wp2_with fail
  refine (sub_gives (neg := decide (a - b < 0)) ((Xw8.out).num Zadif.out) ((Ext.refl w8).num Zbdif.out) rfl rfl (lim64 (by omega))).mono ?_
  rintro e w9 ⟨p9, n9, c9, rfl, hz, hx⟩
  have Xw9 := Lib.hid hx
  have Zdif := Lib.hid hz
  clear hx hz
  obtain ⟨W2, hW2⟩ : ∃ W2, W2 = (w9.alloc (.cells #[.bool (decide (a - b < 0)), .slice p9 n9 c9] 26)) := ⟨_, rfl⟩
  have XW2 : Hid (Ext w9 W2) := by rw [hW2]; exact Ext.alloc _ _
  have Rbdif : Hid (RowAt W2 (w9.heap.size) 26 #[.bool (decide (a - b < 0)), .slice p9 n9 c9]) := by rw [hW2]; exact (RowAt.new' _ _ (by simp))
  have GW2 := Lib.hid hW2
  clear hW2
  go_wp2_with fail
  rw [← GW2.out]
  refine (of_gives (neg := decide (a < 0)) a ha2.1 ha2.2 rfl W2).mono ?_
  rintro e w10 ⟨p10, n10, c10, rfl, hz, hx⟩
  have Xw10 := Lib.hid hx
  have Zaprd := Lib.hid hz
  clear hx hz
  go_wp2_with fail
  refine (of_gives (neg := decide (b < 0)) b hb2.1 hb2.2 rfl w10).mono ?_
  rintro e w11 ⟨p11, n11, c11, rfl, hz, hx⟩
  have Xw11 := Lib.hid hx
  have Zbprd := Lib.hid hz
  clear hx hz
  go_wp2_with fail
  refine (mul_gives (neg := decide (a * b < 0)) ((Xw11.out).num Zaprd.out) ((Ext.refl w11).num Zbprd.out) rfl rfl (lim64 hab.2.2)).mono ?_
  rintro e w12 ⟨p12, n12, c12, rfl, hz, hx⟩
  have Xw12 := Lib.hid hx
  have Zprd := Lib.hid hz
  clear hx hz
  obtain ⟨W3, hW3⟩ : ∃ W3, W3 = (w12.alloc (.cells #[.bool (decide (a * b < 0)), .slice p12 n12 c12] 26)) := ⟨_, rfl⟩
  have XW3 : Hid (Ext w12 W3) := by rw [hW3]; exact Ext.alloc _ _
  have Rbprd : Hid (RowAt W3 (w12.heap.size) 26 #[.bool (decide (a * b < 0)), .slice p12 n12 c12]) := by rw [hW3]; exact (RowAt.new' _ _ (by simp))
  have GW3 := Lib.hid hW3
  clear hW3
  have hs0 : ∀ o1, (w12.alloc o1).cell? ⟨w6.heap.size, 0, none⟩ = some (.bool (decide (a + b < 0))) := fun o1 => ((((Ext.trans Xw7.out (Ext.trans Xw8.out (Ext.trans Xw9.out (Ext.trans XW2.out (Ext.trans Xw10.out (Ext.trans Xw11.out (Xw12.out)))))))).trans (Ext.alloc _ o1)).row Rbsum.out).num0
  have hs1 : ∀ o1, (w12.alloc o1).cell? ⟨w6.heap.size, 1, none⟩ = some (.slice p6 n6 c6) := fun o1 => ((((Ext.trans Xw7.out (Ext.trans Xw8.out (Ext.trans Xw9.out (Ext.trans XW2.out (Ext.trans Xw10.out (Ext.trans Xw11.out (Xw12.out)))))))).trans (Ext.alloc _ o1)).row Rbsum.out).num1
  go_wp2_with fail
  rw [← GW3.out]
  refine (int_gives ((Ext.trans XW1.out (Ext.trans Xw7.out (Ext.trans Xw8.out (Ext.trans Xw9.out (Ext.trans XW2.out (Ext.trans Xw10.out (Ext.trans Xw11.out (Ext.trans Xw12.out (XW3.out))))))))).num Zsum.out) (by omega) (by omega)).mono ?_
  rintro e w13 ⟨rfl, hx⟩
  have Xw13 := Lib.hid hx
  clear hx 
  have hbdif0 := ((Ext.trans Xw10.out (Ext.trans Xw11.out (Ext.trans Xw12.out (Ext.trans XW3.out (Xw13.out))))).row Rbdif.out).num0
  have hbdif1 := ((Ext.trans Xw10.out (Ext.trans Xw11.out (Ext.trans Xw12.out (Ext.trans XW3.out (Xw13.out))))).row Rbdif.out).num1
  go_wp2_with fail
  refine (int_gives ((Ext.trans XW2.out (Ext.trans Xw10.out (Ext.trans Xw11.out (Ext.trans Xw12.out (Ext.trans XW3.out (Xw13.out)))))).num Zdif.out) (by omega) (by omega)).mono ?_
  rintro e w14 ⟨rfl, hx⟩
  have Xw14 := Lib.hid hx
  clear hx 
  have hbprd0 := ((Ext.trans Xw13.out (Xw14.out)).row Rbprd.out).num0
  have hbprd1 := ((Ext.trans Xw13.out (Xw14.out)).row Rbprd.out).num1
  go_wp2_with fail
  refine (int_gives ((Ext.trans XW3.out (Ext.trans Xw13.out (Xw14.out))).num Zprd.out) hab.1 hab.2.1).mono ?_
  rintro e w15 ⟨rfl, hx⟩
  have Xw15 := Lib.hid hx
  clear hx 
  by_cases h1 : n < m
  ·
    have hcmp : zcmp n m = -1 := by unfold zcmp; rw [if_pos h1]
    have h2 : ¬ m < n := by omega
    go_wp2_with fail
    refine (of_gives (neg := decide (n < 0)) n hn.1 hn.2 rfl w15).mono ?_
    rintro e w16 ⟨p16, n16, c16, rfl, hz, hx⟩
    have Xw16 := Lib.hid hx
    have Zn3 := Lib.hid hz
    clear hx hz
    go_wp2_with fail
    refine (of_gives (neg := decide (m < 0)) m hm.1 hm.2 rfl w16).mono ?_
    rintro e w17 ⟨p17, n17, c17, rfl, hz, hx⟩
    have Xw17 := Lib.hid hx
    have Zm3 := Lib.hid hz
    clear hx hz
    go_wp2_with fail
    refine (cmp_calls _ _ n m w17 ((Xw17.out).num Zn3.out) ((Ext.refl w17).num Zm3.out)).mono ?_
    rintro e w18 ⟨rfl, hx⟩
    have Xw18 := Lib.hid hx
    clear hx 
    rw [hcmp]
    go_wp2_with fail
    refine (of_gives (neg := decide (n < 0)) n hn.1 hn.2 rfl w18).mono ?_
    rintro e w19 ⟨p19, n19, c19, rfl, hz, hx⟩
    have Xw19 := Lib.hid hx
    have Zn4 := Lib.hid hz
    clear hx hz
    go_wp2_with fail
    refine (right_calls_z _ n w19 ((Ext.refl w19).num Zn4.out)).mono ?_
    rintro e w20 ⟨rfl, hx⟩
    have Xw20 := Lib.hid hx
    clear hx 
    go_wp2
    go_ret
    exact ⟨rfl, (Ext.trans Xw1.out (Ext.trans Xw2.out (Ext.trans Xw3.out (Ext.trans Xw4.out (Ext.trans Xw5.out (Ext.trans Xw6.out (Ext.trans XW1.out (Ext.trans Xw7.out (Ext.trans Xw8.out (Ext.trans Xw9.out (Ext.trans XW2.out (Ext.trans Xw10.out (Ext.trans Xw11.out (Ext.trans Xw12.out (Ext.trans XW3.out (Ext.trans Xw13.out (Ext.trans Xw14.out (Ext.trans Xw15.out (Ext.trans Xw16.out (Ext.trans Xw17.out (Ext.trans Xw18.out (Ext.trans Xw19.out (Xw20.out)))))))))))))))))))))))⟩
  by_cases h2 : m < n
  ·
    have hcmp : zcmp n m = 1 := by unfold zcmp; rw [if_neg h1, if_pos h2]
    go_wp2_with fail
    refine (of_gives (neg := decide (n < 0)) n hn.1 hn.2 rfl w15).mono ?_
    rintro e w16 ⟨p16, n16, c16, rfl, hz, hx⟩
    have Xw16 := Lib.hid hx
    have Zn3 := Lib.hid hz
    clear hx hz
    go_wp2_with fail
    refine (of_gives (neg := decide (m < 0)) m hm.1 hm.2 rfl w16).mono ?_
    rintro e w17 ⟨p17, n17, c17, rfl, hz, hx⟩
    have Xw17 := Lib.hid hx
    have Zm3 := Lib.hid hz
    clear hx hz
    go_wp2_with fail
    refine (cmp_calls _ _ n m w17 ((Xw17.out).num Zn3.out) ((Ext.refl w17).num Zm3.out)).mono ?_
    rintro e w18 ⟨rfl, hx⟩
    have Xw18 := Lib.hid hx
    clear hx 
    rw [hcmp]
    go_wp2_with fail
    refine (of_gives (neg := decide (n < 0)) n hn.1 hn.2 rfl w18).mono ?_
    rintro e w19 ⟨p19, n19, c19, rfl, hz, hx⟩
    have Xw19 := Lib.hid hx
    have Zn4 := Lib.hid hz
    clear hx hz
    go_wp2_with fail
    refine (right_calls_z _ n w19 ((Ext.refl w19).num Zn4.out)).mono ?_
    rintro e w20 ⟨rfl, hx⟩
    have Xw20 := Lib.hid hx
    clear hx 
    go_wp2
    go_ret
    exact ⟨rfl, (Ext.trans Xw1.out (Ext.trans Xw2.out (Ext.trans Xw3.out (Ext.trans Xw4.out (Ext.trans Xw5.out (Ext.trans Xw6.out (Ext.trans XW1.out (Ext.trans Xw7.out (Ext.trans Xw8.out (Ext.trans Xw9.out (Ext.trans XW2.out (Ext.trans Xw10.out (Ext.trans Xw11.out (Ext.trans Xw12.out (Ext.trans XW3.out (Ext.trans Xw13.out (Ext.trans Xw14.out (Ext.trans Xw15.out (Ext.trans Xw16.out (Ext.trans Xw17.out (Ext.trans Xw18.out (Ext.trans Xw19.out (Xw20.out)))))))))))))))))))))))⟩
  ·
    have hcmp : zcmp n m = 0 := by unfold zcmp; rw [if_neg h1, if_neg h2]
    go_wp2_with fail
    refine (of_gives (neg := decide (n < 0)) n hn.1 hn.2 rfl w15).mono ?_
    rintro e w16 ⟨p16, n16, c16, rfl, hz, hx⟩
    have Xw16 := Lib.hid hx
    have Zn3 := Lib.hid hz
    clear hx hz
    go_wp2_with fail
    refine (of_gives (neg := decide (m < 0)) m hm.1 hm.2 rfl w16).mono ?_
    rintro e w17 ⟨p17, n17, c17, rfl, hz, hx⟩
    have Xw17 := Lib.hid hx
    have Zm3 := Lib.hid hz
    clear hx hz
    go_wp2_with fail
    refine (cmp_calls _ _ n m w17 ((Xw17.out).num Zn3.out) ((Ext.refl w17).num Zm3.out)).mono ?_
    rintro e w18 ⟨rfl, hx⟩
    have Xw18 := Lib.hid hx
    clear hx 
    rw [hcmp]
    go_wp2_with fail
    refine (of_gives (neg := decide (n < 0)) n hn.1 hn.2 rfl w18).mono ?_
    rintro e w19 ⟨p19, n19, c19, rfl, hz, hx⟩
    have Xw19 := Lib.hid hx
    have Zn4 := Lib.hid hz
    clear hx hz
    go_wp2_with fail
    refine (right_calls_z _ n w19 ((Ext.refl w19).num Zn4.out)).mono ?_
    rintro e w20 ⟨rfl, hx⟩
    have Xw20 := Lib.hid hx
    clear hx 
    go_wp2
    go_ret
    exact ⟨rfl, (Ext.trans Xw1.out (Ext.trans Xw2.out (Ext.trans Xw3.out (Ext.trans Xw4.out (Ext.trans Xw5.out (Ext.trans Xw6.out (Ext.trans XW1.out (Ext.trans Xw7.out (Ext.trans Xw8.out (Ext.trans Xw9.out (Ext.trans XW2.out (Ext.trans Xw10.out (Ext.trans Xw11.out (Ext.trans Xw12.out (Ext.trans XW3.out (Ext.trans Xw13.out (Ext.trans Xw14.out (Ext.trans Xw15.out (Ext.trans Xw16.out (Ext.trans Xw17.out (Ext.trans Xw18.out (Ext.trans Xw19.out (Xw20.out)))))))))))))))))))))))⟩

end Go.Proofs.YtcmpgboifcemmaaDoor
