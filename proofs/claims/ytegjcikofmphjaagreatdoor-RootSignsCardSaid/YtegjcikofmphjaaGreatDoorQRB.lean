/- Texts that belong together. -/
import Derived.Test.YtegjcikofmphjaaGreatDoorQRefA
import Derived.Test.YtegjcikofmphjaaGreatDoorQRef5
set_option linter.all false
/- The reference of layer 1: Cmp, Of, Mod. -/
namespace Go.Proofs.YtegjcikofmphjaaGreatDoor
open Go Go.RowKit Go.Shelf
theorem rightB_z {z : Int} (h : z.natAbs < B32 ^ 64) : rightB (decide (z < 0)) (digs z.natAbs) = true := right_z _ h (fun h0 => by simp; omega)
set_option maxRecDepth 100000 in
set_option maxHeartbeats 4000000 in
theorem rcmp_ok (va vb : Value) (za zb : Int) (w : World) (ha : ZNum w.heap.size w va za) (hb : ZNum w.heap.size w vb zb) :
    Calls Tryz.prog 41 #[va, vb] w fun e w' => e = .returned (.int .i64 (zcmp za zb)) ∧ Ext w w' := by
  obtain ⟨c1, c2, c3, c4⟩ := zcmp_of ha.2 hb.2
  obtain ⟨p, c, rfl⟩ := ha.parts
  obtain ⟨q, cb, rfl⟩ := hb.parts
  have hua := znum_slice ha
  have hub := znum_slice hb
  have Hra := Lib.hid (rightB_z ha.2)
  have Hrb := Lib.hid (rightB_z hb.2)
  have C1 : Hid (decide (za < 0) = true → decide (zb < 0) = true → cmpL (digs zb.natAbs) (digs za.natAbs) = zcmp za zb) := fun h1 h2 => c1 (by simpa using h1) (by simpa using h2)
  have C2 : Hid (decide (za < 0) = true → decide (zb < 0) = false → zcmp za zb = -1) := fun h1 h2 => c2 (by simpa using h1) (by simpa using h2)
  have C3 : Hid (decide (za < 0) = false → decide (zb < 0) = true → zcmp za zb = 1) := fun h1 h2 => c3 (by simpa using h1) (by simpa using h2)
  have C4 : Hid (decide (za < 0) = false → decide (zb < 0) = false → cmpL (digs za.natAbs) (digs zb.natAbs) = zcmp za zb) := fun h1 h2 => c4 (by simpa using h1) (by simpa using h2)
  generalize zcmp za zb = z at *
  generalize decide (za < 0) = na at *
  generalize decide (zb < 0) = nb at *
  obtain ⟨n, hn⟩ : ∃ n, n = (digs za.natAbs).length := ⟨_, rfl⟩
  obtain ⟨m, hm⟩ : ∃ m, m = (digs zb.natAbs).length := ⟨_, rfl⟩
  rw [← hn] at hua ⊢
  rw [← hm] at hub ⊢
  obtain ⟨W3, hW3⟩ : ∃ W3, W3 = (w.alloc (.cells #[.bool na, .slice p n c] 25)).alloc (.cells #[.bool nb, .slice q m cb] 25) := ⟨_, rfl⟩
  have HB3 : Hid (Ext w W3) := by rw [hW3]; exact (Ext.alloc _ _).trans (Ext.alloc _ _)
  have HRa : Hid (RowAt W3 w.heap.size 25 (numCells na p n c)) := by rw [hW3]; exact (RowAt.new w _ _).alloc _
  have HRb : Hid (RowAt W3 (w.heap.size + 1) 25 (numCells nb q m cb)) := by rw [hW3]; exact RowAt.new' _ _ (by simp)
  have HA := Lib.hid (HB3.out.u32s hua)
  have HBn := Lib.hid (HB3.out.u32s hub)
  have HW3 := Lib.hid hW3
  clear ha hb hua hub c1 c2 c3 c4 hn hm hW3
  cases na <;> cases nb
  · go_enter Tryz.func41, Tryz.ntmps41
    go_wp2_with fail
    rw [← HW3.out]
    refine (rright_calls false _ _ W3 HA.out).mono ?_
    rintro e w1 ⟨rfl, hb1⟩
    rw [Hra.out]
    have HRa1 := Lib.hid (hb1.row HRa.out)
    have HRb1 := Lib.hid (hb1.row HRb.out)
    have HA1 := Lib.hid (hb1.u32s HA.out)
    have HBn1 := Lib.hid (hb1.u32s HBn.out)
    have HB1 := Lib.hid (HB3.out.trans hb1)
    have h10 := HRb1.out.num0
    have h11 := HRb1.out.num1
    clear hb1
    go_wp2_with fail
    refine (rright_calls false _ _ w1 HBn1.out).mono ?_
    rintro e w2 ⟨rfl, hb2⟩
    rw [Hrb.out]
    have HRa2 := Lib.hid (hb2.row HRa1.out)
    have HRb2 := Lib.hid (hb2.row HRb1.out)
    have HA2 := Lib.hid (hb2.u32s HA1.out)
    have HBn2 := Lib.hid (hb2.u32s HBn1.out)
    have HB2 := Lib.hid (HB1.out.trans hb2)
    have h20 := HRb2.out.num0
    have h21 := HRb2.out.num1
    have h22 := HRa2.out.num0
    have h23 := HRa2.out.num1
    clear hb2 h10 h11
    have hcall := compare_calls _ _ (digs za.natAbs) (digs zb.natAbs) w2 HA2.out HBn2.out (digs_digits _) (digs_digits _)
    rw [C4.out (by simp) (by simp)] at hcall
    have Hcall := Lib.hid hcall
    clear hcall
    go_wp2_with fail
    refine Hcall.out.mono ?_
    rintro e w3 ⟨rfl, hb3⟩
    go_wp2
    go_ret
    exact ⟨rfl, HB2.out.trans hb3⟩
  · obtain rfl := C3.out (by simp) (by simp)
    go_enter Tryz.func41, Tryz.ntmps41
    go_wp2_with fail
    rw [← HW3.out]
    refine (rright_calls false _ _ W3 HA.out).mono ?_
    rintro e w1 ⟨rfl, hb1⟩
    rw [Hra.out]
    have HRa1 := Lib.hid (hb1.row HRa.out)
    have HRb1 := Lib.hid (hb1.row HRb.out)
    have HA1 := Lib.hid (hb1.u32s HA.out)
    have HBn1 := Lib.hid (hb1.u32s HBn.out)
    have HB1 := Lib.hid (HB3.out.trans hb1)
    have h10 := HRb1.out.num0
    have h11 := HRb1.out.num1
    clear hb1
    go_wp2_with fail
    refine (rright_calls true _ _ w1 HBn1.out).mono ?_
    rintro e w2 ⟨rfl, hb2⟩
    rw [Hrb.out]
    have HRa2 := Lib.hid (hb2.row HRa1.out)
    have HRb2 := Lib.hid (hb2.row HRb1.out)
    have HA2 := Lib.hid (hb2.u32s HA1.out)
    have HBn2 := Lib.hid (hb2.u32s HBn1.out)
    have HB2 := Lib.hid (HB1.out.trans hb2)
    have h20 := HRb2.out.num0
    have h21 := HRb2.out.num1
    have h22 := HRa2.out.num0
    have h23 := HRa2.out.num1
    clear hb2 h10 h11
    go_wp2
    go_ret
    exact ⟨rfl, HB2.out⟩
  · obtain rfl := C2.out (by simp) (by simp)
    go_enter Tryz.func41, Tryz.ntmps41
    go_wp2_with fail
    rw [← HW3.out]
    refine (rright_calls true _ _ W3 HA.out).mono ?_
    rintro e w1 ⟨rfl, hb1⟩
    rw [Hra.out]
    have HRa1 := Lib.hid (hb1.row HRa.out)
    have HRb1 := Lib.hid (hb1.row HRb.out)
    have HA1 := Lib.hid (hb1.u32s HA.out)
    have HBn1 := Lib.hid (hb1.u32s HBn.out)
    have HB1 := Lib.hid (HB3.out.trans hb1)
    have h10 := HRb1.out.num0
    have h11 := HRb1.out.num1
    clear hb1
    go_wp2_with fail
    refine (rright_calls false _ _ w1 HBn1.out).mono ?_
    rintro e w2 ⟨rfl, hb2⟩
    rw [Hrb.out]
    have HRa2 := Lib.hid (hb2.row HRa1.out)
    have HRb2 := Lib.hid (hb2.row HRb1.out)
    have HA2 := Lib.hid (hb2.u32s HA1.out)
    have HBn2 := Lib.hid (hb2.u32s HBn1.out)
    have HB2 := Lib.hid (HB1.out.trans hb2)
    have h20 := HRb2.out.num0
    have h21 := HRb2.out.num1
    have h22 := HRa2.out.num0
    have h23 := HRa2.out.num1
    clear hb2 h10 h11
    go_wp2
    go_ret
    exact ⟨rfl, HB2.out⟩
  · go_enter Tryz.func41, Tryz.ntmps41
    go_wp2_with fail
    rw [← HW3.out]
    refine (rright_calls true _ _ W3 HA.out).mono ?_
    rintro e w1 ⟨rfl, hb1⟩
    rw [Hra.out]
    have HRa1 := Lib.hid (hb1.row HRa.out)
    have HRb1 := Lib.hid (hb1.row HRb.out)
    have HA1 := Lib.hid (hb1.u32s HA.out)
    have HBn1 := Lib.hid (hb1.u32s HBn.out)
    have HB1 := Lib.hid (HB3.out.trans hb1)
    have h10 := HRb1.out.num0
    have h11 := HRb1.out.num1
    clear hb1
    go_wp2_with fail
    refine (rright_calls true _ _ w1 HBn1.out).mono ?_
    rintro e w2 ⟨rfl, hb2⟩
    rw [Hrb.out]
    have HRa2 := Lib.hid (hb2.row HRa1.out)
    have HRb2 := Lib.hid (hb2.row HRb1.out)
    have HA2 := Lib.hid (hb2.u32s HA1.out)
    have HBn2 := Lib.hid (hb2.u32s HBn1.out)
    have HB2 := Lib.hid (HB1.out.trans hb2)
    have h20 := HRb2.out.num0
    have h21 := HRb2.out.num1
    have h22 := HRa2.out.num0
    have h23 := HRa2.out.num1
    clear hb2 h10 h11
    have hcall := compare_calls _ _ (digs zb.natAbs) (digs za.natAbs) w2 HBn2.out HA2.out (digs_digits _) (digs_digits _)
    rw [C1.out (by simp) (by simp)] at hcall
    have Hcall := Lib.hid hcall
    clear hcall
    go_wp2_with fail
    refine Hcall.out.mono ?_
    rintro e w3 ⟨rfl, hb3⟩
    go_wp2
    go_ret
    exact ⟨rfl, HB2.out.trans hb3⟩
theorem of_shr {a : Nat} (h : a < 18446744073709551616) : (a : Int) / 4294967296 % 4294967296 = ((a / B32 : Nat) : Int) := by
  unfold B32; omega
theorem of_lo {a : Nat} : (a : Int) % 4294967296 = ((a % B32 : Nat) : Int) := by
  unfold B32; omega
theorem lohi_val {a : Nat} : val [a % B32, a / B32] = a := by
  simp only [val]
  have := Nat.mod_add_div a B32
  omega
theorem lohi_digits {a : Nat} (h : a < 18446744073709551616) : Digits [a % B32, a / B32] := by
  refine Digits.cons.2 ⟨Nat.mod_lt _ B32_pos, Digits.cons.2 ⟨?_, Digits.nil⟩⟩
  unfold B32; omega
set_option maxRecDepth 100000 in
set_option maxHeartbeats 4000000 in
theorem rof_ok (z : Int) (h1 : -9223372036854775808 ≤ z) (h2 : z ≤ 9223372036854775807) (w : World) :
    Calls Tryz.prog 34 #[.int .i64 z] w (Gives1 w z (decide (z < 0))) := by
  obtain ⟨a, ha⟩ : ∃ a, a = z.natAbs := ⟨_, rfl⟩
  have hal : a < 18446744073709551616 := by omega
  have ha64 : val [a % B32, a / B32] < B32 ^ 64 := by rw [lohi_val]; have := pow64; omega
  have hmz : ∀ neg, neg = decide (z < 0) → madeZ neg (val [a % B32, a / B32]) = z := by
    rintro neg rfl
    rw [lohi_val]
    unfold madeZ
    by_cases h : z < 0
    · simp [h]; omega
    · simp [h]; omega
  have hw1 : z < 0 → IntKind.u64.wrap (-IntKind.u64.wrap z) = (a : Int) := fun h => by rw [of_wrap h h1, ha]
  have hw0 : ¬ z < 0 → IntKind.u64.wrap z = (a : Int) := fun h => by rw [of_wrap0 (by omega) h2, ha]
  have hdg := lohi_digits hal
  have Hlo : Hid ((a : Int) % 4294967296 = ((a % B32 : Nat) : Int)) := of_lo
  have Hhi : Hid ((a : Int) / 4294967296 % 4294967296 = ((a / B32 : Nat) : Int)) := of_shr hal
  have H64 := Lib.hid ha64
  have Hmz := Lib.hid hmz
  have Hdg := Lib.hid hdg
  clear hal ha64 hmz hdg ha h1 h2
  by_cases hn : z < 0
  · have hz := hw1 hn
    have hdn : decide (z < 0) = true := by simp [hn]
    rw [hdn] at Hmz ⊢
    have Hhn := Lib.hid hn
    clear hw1 hw0
    obtain ⟨W2, hW2⟩ : ∃ W2, W2 = (w.alloc (.cells #[.bool false, .slice none 0 0] 25)).alloc (.cells #[.int .u32 ((a : Int) % 4294967296), .int .u32 ((a : Int) / 4294967296 % 4294967296)] 87) := ⟨_, rfl⟩
    have hx2 : Ext w W2 := by rw [hW2]; exact (Ext.alloc _ _).trans (Ext.alloc _ _)
    have hr2 : RowAt W2 w.heap.size 25 (numCells false none 0 0) := by rw [hW2]; exact (RowAt.new w _ _).alloc _
    have hr3 : RowAt W2 (w.heap.size + 1) 87 (arr [a % B32, a / B32]) := by
      have e : #[Value.int .u32 ((a : Int) % 4294967296), Value.int .u32 ((a : Int) / 4294967296 % 4294967296)] = arr [a % B32, a / B32] := by rw [Hlo.out, Hhi.out]; rfl
      rw [hW2, ← e]; exact RowAt.new' _ _ (by simp)
    have hm := made_gives true (some ⟨w.heap.size + 1, 0, none⟩) 2 [a % B32, a / B32] W2 (u32s_arr (cap := 2) hr3 hr3.lt (by show 2 ≤ maxLen; unfold maxLen; decide)) (.inr (Nat.le_refl _)) Hdg.out H64.out
    rw [Hmz.out true rfl, hdn] at hm
    have Hm := Lib.hid hm
    have Hx2 := Lib.hid hx2
    have Hr2 := Lib.hid hr2
    have HW2 := Lib.hid hW2
    clear hm hx2 hr2 hr3 hW2 hdn
    go_enter Tryz.func34, Tryz.ntmps34
    go_wp2_with fail
    rw [← HW2.out]
    refine Hm.out.mono ?_
    rintro e w3 ⟨p3, n3, c3, rfl, hz3, hx3⟩
    have Hz := Lib.hid hz3
    have Hx := Lib.hid hx3
    have hs1 := Below.size hx3
    have hlt := Hr2.out.lt
    clear hz3 hx3
    go_wp2_with (first | (refine store_num rfl (.tmp 4) (.tmp 22) rfl w3.heap.size rfl _ _ _ _ rfl _ _ (RowAt.new' _ _ rfl) rfl ?_) | (refine load_num rfl (.tmp 4) rfl w3.heap.size rfl _ _ _ _ _ ((RowAt.new' _ _ rfl).setRow _) ?_) | (refine store_num rfl (.tmp 2) (.tmp 24) rfl w.heap.size rfl _ _ _ _ rfl _ _ (((Hx.out.row Hr2.out).alloc _).setRowOther _ (by omega)) rfl ?_))
    exact ret_num1 rfl w.heap.size rfl _ _ _ _ _ ((((Hx.out.row Hr2.out).alloc _).setRowOther _ (by omega)).setRow _) (made_tail Hz.out Hx.out Hr2.out Hx2.out)
  · have hz := hw0 hn
    have hdn : decide (z < 0) = false := by simp; omega
    rw [hdn] at Hmz ⊢
    have Hhn := Lib.hid hn
    clear hw1 hw0
    obtain ⟨W2, hW2⟩ : ∃ W2, W2 = (w.alloc (.cells #[.bool false, .slice none 0 0] 25)).alloc (.cells #[.int .u32 ((a : Int) % 4294967296), .int .u32 ((a : Int) / 4294967296 % 4294967296)] 87) := ⟨_, rfl⟩
    have hx2 : Ext w W2 := by rw [hW2]; exact (Ext.alloc _ _).trans (Ext.alloc _ _)
    have hr2 : RowAt W2 w.heap.size 25 (numCells false none 0 0) := by rw [hW2]; exact (RowAt.new w _ _).alloc _
    have hr3 : RowAt W2 (w.heap.size + 1) 87 (arr [a % B32, a / B32]) := by
      have e : #[Value.int .u32 ((a : Int) % 4294967296), Value.int .u32 ((a : Int) / 4294967296 % 4294967296)] = arr [a % B32, a / B32] := by rw [Hlo.out, Hhi.out]; rfl
      rw [hW2, ← e]; exact RowAt.new' _ _ (by simp)
    have hm := made_gives false (some ⟨w.heap.size + 1, 0, none⟩) 2 [a % B32, a / B32] W2 (u32s_arr (cap := 2) hr3 hr3.lt (by show 2 ≤ maxLen; unfold maxLen; decide)) (.inr (Nat.le_refl _)) Hdg.out H64.out
    rw [Hmz.out false rfl, hdn] at hm
    have Hm := Lib.hid hm
    have Hx2 := Lib.hid hx2
    have Hr2 := Lib.hid hr2
    have HW2 := Lib.hid hW2
    clear hm hx2 hr2 hr3 hW2 hdn
    go_enter Tryz.func34, Tryz.ntmps34
    go_wp2_with fail
    rw [← HW2.out]
    refine Hm.out.mono ?_
    rintro e w3 ⟨p3, n3, c3, rfl, hz3, hx3⟩
    have Hz := Lib.hid hz3
    have Hx := Lib.hid hx3
    have hs1 := Below.size hx3
    have hlt := Hr2.out.lt
    clear hz3 hx3
    go_wp2_with (first | (refine store_num rfl (.tmp 4) (.tmp 22) rfl w3.heap.size rfl _ _ _ _ rfl _ _ (RowAt.new' _ _ rfl) rfl ?_) | (refine load_num rfl (.tmp 4) rfl w3.heap.size rfl _ _ _ _ _ ((RowAt.new' _ _ rfl).setRow _) ?_) | (refine store_num rfl (.tmp 2) (.tmp 24) rfl w.heap.size rfl _ _ _ _ rfl _ _ (((Hx.out.row Hr2.out).alloc _).setRowOther _ (by omega)) rfl ?_))
    exact ret_num1 rfl w.heap.size rfl _ _ _ _ _ ((((Hx.out.row Hr2.out).alloc _).setRowOther _ (by omega)).setRow _) (made_tail Hz.out Hx.out Hr2.out Hx2.out)
end Go.Proofs.YtegjcikofmphjaaGreatDoor

