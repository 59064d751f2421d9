/- DigestAccepts, as a walk. -/
import Derived.Test.YtblpalhnjkfjoaaOf
set_option linter.all false
namespace Go.Proofs.Ytblpalhnjkfjoaa
open Go Go.RowKit Go.Shelf

theorem x_cat (k : Bs) : (⟨#[120]⟩ : ByteArray) ++ ⟨k.toArray⟩ = ⟨((120 : UInt8) :: k).toArray⟩ := by
  rw [show (⟨#[120]⟩ : ByteArray) = ⟨[(120 : UInt8)].toArray⟩ from rfl, bytes_append]
  rfl

theorem last_true (c : UInt8) (k d : Bs) : decide (c :: k ≠ [] ∧ d = d) = true := by simp

set_option maxRecDepth 100000 in
set_option maxHeartbeats 1000000 in
theorem digestAccepts_walk (s u v : Bs) (w : World) : Calls Try.prog 7 #[.string ⟨s.toArray⟩, .string ⟨u.toArray⟩, .string ⟨v.toArray⟩] w fun e w' => e = .returned (.bool true) ∧ Ext w w' := by
  go_enter Try.func7, Try.ntmps7
  go_wp2_with fail
  refine (sanity_calls _).mono ?_
  rintro e w1 ⟨rfl, hx1⟩
  go_wp2_with fail
  refine (cut_calls s _).mono ?_
  rintro e w2 ⟨rfl, hx2⟩
  have ht := take_short s
  obtain ⟨k, hte⟩ : ∃ t, t = s.take 300 := ⟨_, rfl⟩
  rw [← hte] at ht ⊢
  have Hk := Lib.hid ht
  clear hte ht
  go_wp2_with fail
  refine (cut_calls u _).mono ?_
  rintro e w3 ⟨rfl, hx3⟩
  have ht := take_short u
  obtain ⟨m, hte⟩ : ∃ t, t = u.take 300 := ⟨_, rfl⟩
  rw [← hte] at ht ⊢
  have Hm := Lib.hid ht
  clear hte ht
  go_wp2_with fail
  refine (cut_calls v _).mono ?_
  rintro e w4 ⟨rfl, hx4⟩
  obtain ⟨x, hte⟩ : ∃ t, t = v.take 300 := ⟨_, rfl⟩
  rw [← hte]
  clear hte
  go_wp2_with fail
  refine (mark_calls k m (by have := Hk.out; omega) (by have := Hm.out; omega) _).mono ?_
  rintro e w5 ⟨rfl, hx5⟩
  obtain ⟨d, hd⟩ : ∃ d, d = dig (markL k m) := ⟨_, rfl⟩
  rw [← hd]
  have HC : Hid (∀ (y : Bs) (w : World), Calls Try.prog 16 #[.string ⟨k.toArray⟩, .string ⟨m.toArray⟩, .string ⟨y.toArray⟩] w fun e w' => e = .returned (.bool (decide (k ≠ [] ∧ y = d))) ∧ Ext w w') := by
    intro y w
    rw [hd]
    exact check_calls k m y (by have := Hk.out; omega) (by have := Hm.out; omega) w
  clear hd
  have hs1 : (⟨#[120]⟩ : ByteArray).size = 1 := rfl
  have hs2 := bytes_size k
  have hkl : k.length ≤ 300 := Hk.out
  have hkx : Hid (((120 : UInt8) :: k).length < 4294967296) := by show _ < _; simp; omega
  by_cases h0 : k = []
  · have hk : List.isEmpty k = true := by simp [h0]
    have H1 : Hid (∀ y : Bs, decide (k ≠ [] ∧ y = d) = false) := by intro y; simp [h0]
    clear h0
    go_wp2_with fail
    refine (HC.out d _).mono ?_
    rintro e w6 ⟨rfl, hx6⟩
    rw [H1.out]
    go_wp2_with fail
    refine (HC.out x _).mono ?_
    rintro e w7 ⟨rfl, hx7⟩
    rw [H1.out]
    go_wp2_with fail
    rw [x_cat]
    refine (mark_calls _ m hkx.out (by have := Hm.out; omega) _).mono ?_
    rintro e w8 ⟨rfl, hx8⟩
    go_wp2_with fail
    refine (check_calls _ m _ hkx.out (by have := Hm.out; omega) _).mono ?_
    rintro e w9 ⟨rfl, hx9⟩
    rw [last_true]
    go_wp2_with fail
    go_ret
    exact ⟨rfl, hx1.trans (hx2.trans (hx3.trans (hx4.trans (hx5.trans (hx6.trans (hx7.trans (hx8.trans hx9)))))))⟩
  · have hk : List.isEmpty k = false := by simpa using h0
    have H1 : Hid (∀ y : Bs, decide (k ≠ [] ∧ y = d) = (y == d)) := by intro y; rw [beqL]; simp [h0]
    clear h0
    go_wp2_with fail
    refine (HC.out d _).mono ?_
    rintro e w6 ⟨rfl, hx6⟩
    rw [H1.out]
    go_wp2_with fail
    refine (HC.out x _).mono ?_
    rintro e w7 ⟨rfl, hx7⟩
    rw [H1.out]
    go_wp2_with fail
    rw [x_cat]
    refine (mark_calls _ m hkx.out (by have := Hm.out; omega) _).mono ?_
    rintro e w8 ⟨rfl, hx8⟩
    go_wp2_with fail
    refine (check_calls _ m _ hkx.out (by have := Hm.out; omega) _).mono ?_
    rintro e w9 ⟨rfl, hx9⟩
    rw [last_true]
    go_wp2_with fail
    go_ret
    exact ⟨rfl, hx1.trans (hx2.trans (hx3.trans (hx4.trans (hx5.trans (hx6.trans (hx7.trans (hx8.trans hx9)))))))⟩

end Go.Proofs.Ytblpalhnjkfjoaa
