/- What the laws of layer 4 share: cut, sanity. -/
import Derived.Test.YtblpalhnjkfjoaaRefD
set_option linter.all false
namespace Go.Proofs.Ytblpalhnjkfjoaa
open Go Go.RowKit Go.Shelf

theorem extract_take (s : Bs) (n : Nat) : (⟨s.toArray⟩ : ByteArray).extract 0 n = ⟨(s.take n).toArray⟩ := by
  apply ByteArray.ext
  simp
theorem min_take (s : Bs) (n : Nat) : s.take (min s.length n) = s.take n := by
  rcases Nat.le_total s.length n with h | h
  · rw [Nat.min_eq_left h, List.take_length, List.take_of_length_le h]
  · rw [Nat.min_eq_right h]

set_option maxRecDepth 100000 in
set_option maxHeartbeats 1000000 in
theorem cut_calls (s : Bs) (w : World) :
    Calls Try.prog 10 #[.string ⟨s.toArray⟩] w fun e w' => e = .returned (.string ⟨(s.take 300).toArray⟩) ∧ Ext w w' := by
  have hsz := bytes_size s
  have hm : (min (s.length : Int) 300).toNat = min s.length 300 := by omega
  go_enter Try.func10, Try.ntmps10
  go_wp2_with fail
  go_ret
  refine ⟨?_, Ext.refl _⟩
  rw [← min_take, ← extract_take, ← hm]
  rfl

theorem ex_0 : dig [] = [0, 0, 0, 20, 0, 0, 0, 26] := by decide
theorem ex_1 : dig [0] = [0, 14, 187, 45, 0, 16, 36, 201] := by decide
theorem ex_2 : chainL [] [] = [1, 0, 0, 0, 0] := by decide
theorem ex_3 : markL [107] [109] = [2, 0, 0, 0, 1, 107, 109, 107] := by decide

set_option maxRecDepth 100000 in
set_option maxHeartbeats 1000000 in
theorem sanity_calls (w : World) :
    Calls Try.prog 9 #[] w fun e w' => e = .returned (.bool true) ∧ Ext w w' := by
  go_enter Try.func9, Try.ntmps9
  go_wp2_with fail
  refine (of_calls [] (by simp) _).mono ?_
  rintro e w1 ⟨rfl, hx1⟩
  rw [ex_0]
  go_wp2_with fail
  refine (of_calls [0] (by simp) _).mono ?_
  rintro e w2 ⟨rfl, hx2⟩
  rw [ex_1]
  go_wp2_with fail
  refine (chain_calls [] [] (by simp) (by simp) _).mono ?_
  rintro e w3 ⟨rfl, hx3⟩
  rw [ex_2]
  obtain ⟨c, hc⟩ : ∃ c, c = dig [1, 0, 0, 0, 0] := ⟨_, rfl⟩
  rw [← hc]
  have HC := Lib.hid hc
  clear hc
  go_wp2_with fail
  refine (of_calls [1, 0, 0, 0, 0] (by simp) _).mono ?_
  rintro e w4 ⟨rfl, hx4⟩
  rw [← HC.out]
  go_wp2_with fail
  refine (mark_calls [107] [109] (by simp) (by simp) _).mono ?_
  rintro e w5 ⟨rfl, hx5⟩
  rw [ex_3]
  obtain ⟨d, hd⟩ : ∃ d, d = dig [2, 0, 0, 0, 1, 107, 109, 107] := ⟨_, rfl⟩
  rw [← hd]
  have HD := Lib.hid hd
  clear hd
  go_wp2_with fail
  refine (of_calls [2, 0, 0, 0, 1, 107, 109, 107] (by simp) _).mono ?_
  rintro e w6 ⟨rfl, hx6⟩
  rw [← HD.out]
  go_wp2_with fail
  refine (mark_calls [107] [109] (by simp) (by simp) _).mono ?_
  rintro e w7 ⟨rfl, hx7⟩
  rw [ex_3, ← HD.out]
  go_wp2_with fail
  refine (check_calls [107] [109] d (by simp) (by simp) _).mono ?_
  rintro e w8 ⟨rfl, hx8⟩
  rw [ex_3, ← HD.out, show decide (([107] : Bs) ≠ [] ∧ d = d) = true by simp]
  go_wp2_with fail
  refine (mark_calls [] [109] (by simp) (by simp) _).mono ?_
  rintro e w9 ⟨rfl, hx9⟩
  go_wp2_with fail
  refine (check_calls [] [109] _ (by simp) (by simp) _).mono ?_
  rintro e wa ⟨rfl, hxa⟩
  rw [show decide (([] : Bs) ≠ [] ∧ dig (markL [] [109]) = dig (markL [] [109])) = false by simp]
  go_wp2_with fail
  go_ret
  exact ⟨rfl, hx1.trans (hx2.trans (hx3.trans (hx4.trans (hx5.trans (hx6.trans (hx7.trans (hx8.trans (hx9.trans hxa))))))))⟩

end Go.Proofs.Ytblpalhnjkfjoaa
