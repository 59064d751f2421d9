/- DigestOf and DigestChains, as walks. -/
import Derived.Test.YtblpalhnjkfjoaaLaw
set_option linter.all false
namespace Go.Proofs.Ytblpalhnjkfjoaa
open Go Go.RowKit Go.Shelf

theorem take_short (s : Bs) : (s.take 300).length ≤ 300 := by rw [List.length_take]; omega

set_option maxRecDepth 100000 in
set_option maxHeartbeats 1000000 in
theorem digestOf_walk (s : Bs) (w : World) : Calls Try.prog 3 #[.string ⟨s.toArray⟩] w fun e w' => e = .returned (.bool true) ∧ Ext w w' := by
  go_enter Try.func3, Try.ntmps3
  go_wp2_with fail
  refine (sanity_calls _).mono ?_
  rintro e w1 ⟨rfl, hx1⟩
  go_wp2_with fail
  refine (cut_calls s _).mono ?_
  rintro e w2 ⟨rfl, hx2⟩
  have ht := take_short s
  obtain ⟨t, hte⟩ : ∃ t, t = s.take 300 := ⟨_, rfl⟩
  rw [← hte] at ht ⊢
  have Ht := Lib.hid ht
  clear hte ht
  go_wp2_with fail
  refine (of_calls t (by have := Ht.out; omega) _).mono ?_
  rintro e w3 ⟨rfl, hx3⟩
  have hsz : (⟨(dig t).toArray⟩ : ByteArray).size = 8 := by rw [bytes_size]; rfl
  go_wp2_with fail
  refine (rof_calls t (by have := Ht.out; omega) _).mono ?_
  rintro e w4 ⟨rfl, hx4⟩
  go_wp2_with fail
  refine (of_calls t (by have := Ht.out; omega) _).mono ?_
  rintro e w5 ⟨rfl, hx5⟩
  go_wp2_with fail
  go_ret
  exact ⟨rfl, hx1.trans (hx2.trans (hx3.trans (hx4.trans hx5)))⟩

set_option maxRecDepth 100000 in
set_option maxHeartbeats 1000000 in
theorem digestChains_walk (s u : Bs) (w : World) : Calls Try.prog 4 #[.string ⟨s.toArray⟩, .string ⟨u.toArray⟩] w fun e w' => e = .returned (.bool true) ∧ Ext w w' := by
  go_enter Try.func4, Try.ntmps4
  go_wp2_with fail
  refine (sanity_calls _).mono ?_
  rintro e w1 ⟨rfl, hx1⟩
  go_wp2_with fail
  refine (cut_calls s _).mono ?_
  rintro e w2 ⟨rfl, hx2⟩
  have ht := take_short s
  obtain ⟨a, hte⟩ : ∃ t, t = s.take 300 := ⟨_, rfl⟩
  rw [← hte] at ht ⊢
  have Ha := Lib.hid ht
  clear hte ht
  go_wp2_with fail
  refine (cut_calls u _).mono ?_
  rintro e w3 ⟨rfl, hx3⟩
  have ht := take_short u
  obtain ⟨b, hte⟩ : ∃ t, t = u.take 300 := ⟨_, rfl⟩
  rw [← hte] at ht ⊢
  have Hb := Lib.hid ht
  clear hte ht
  go_wp2_with fail
  refine (chain_calls a b (by have := Ha.out; omega) (by have := Hb.out; omega) _).mono ?_
  rintro e w4 ⟨rfl, hx4⟩
  go_wp2_with fail
  refine (rchain_calls a b (by have := Ha.out; omega) (by have := Hb.out; omega) _).mono ?_
  rintro e w5 ⟨rfl, hx5⟩
  go_wp2_with fail
  refine (of_calls a (by have := Ha.out; omega) _).mono ?_
  rintro e w6 ⟨rfl, hx6⟩
  have hd : (dig a).length = 8 := rfl
  have Hd := Lib.hid hd
  clear hd
  go_wp2_with fail
  refine (chain_calls (dig a) b (by have := Hd.out; omega) (by have := Hb.out; omega) _).mono ?_
  rintro e w7 ⟨rfl, hx7⟩
  go_wp2_with fail
  refine (rof_calls a (by have := Ha.out; omega) _).mono ?_
  rintro e w8 ⟨rfl, hx8⟩
  go_wp2_with fail
  refine (rchain_calls (dig a) b (by have := Hd.out; omega) (by have := Hb.out; omega) _).mono ?_
  rintro e w9 ⟨rfl, hx9⟩
  go_wp2_with fail
  go_ret
  exact ⟨rfl, hx1.trans (hx2.trans (hx3.trans (hx4.trans (hx5.trans (hx6.trans (hx7.trans (hx8.trans hx9)))))))⟩

end Go.Proofs.Ytblpalhnjkfjoaa
