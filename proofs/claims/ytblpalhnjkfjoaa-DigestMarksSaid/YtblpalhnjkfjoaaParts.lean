/- DigestParts, as a walk. -/
import Derived.Test.YtblpalhnjkfjoaaOf
set_option linter.all false
namespace Go.Proofs.Ytblpalhnjkfjoaa
open Go Go.RowKit Go.Shelf

theorem take_hundred (s : Bs) : (s.take 100).length ≤ 100 := by rw [List.length_take]; omega

theorem len_cat (n : Nat) (h : n ≤ 100) : (⟨#[0, 0, 0]⟩ : ByteArray) ++ ⟨[UInt8.ofNat n].toArray⟩ = ⟨(b4 n).toArray⟩ := by
  rw [show (⟨#[0, 0, 0]⟩ : ByteArray) = ⟨[(0 : UInt8), 0, 0].toArray⟩ from rfl, bytes_append]
  unfold b4
  rw [Nat.div_eq_of_lt (by omega : n < 16777216), Nat.div_eq_of_lt (by omega : n < 65536), Nat.div_eq_of_lt (by omega : n < 256)]
  rfl
/-- One byte, as a string. -/
theorem one_back (w : World) (n : Nat) (h : n < 256) (t : TypeId) : (convert 29 9 (.slice (some ⟨w.heap.size, 0, none⟩) 1 1)).run Try.prog (w.alloc (.cells #[.int .u8 (n : Int)] t)) = .ok (.string ⟨[UInt8.ofNat n].toArray⟩) (w.alloc (.cells #[.int .u8 (n : Int)] t)) := by
  have := run_convert_bytes_back (P := Try.prog) (w.alloc (.cells #[.int .u8 (n : Int)] t)) 29 9 5 ⟨w.heap.size, 0, none⟩ 1 [UInt8.ofNat n] Try.underlying29 Try.underlying5 Try.underlying9 (fun j hj => by
    rw [addr0, World.cell?_alloc_mark]
    have hj8 : j < 1 := hj
    obtain rfl : j = 0 := by omega
    show some (Value.int .u8 (n : Int)) = some (Value.int .u8 ((UInt8.ofNat n).toNat : Int))
    rw [u8_toNat, Nat.mod_eq_of_lt h])
  exact this

set_option maxRecDepth 100000 in
set_option maxHeartbeats 1000000 in
theorem digestParts_walk (s u : Bs) (w : World) : Calls Try.prog 8 #[.string ⟨s.toArray⟩, .string ⟨u.toArray⟩] w fun e w' => e = .returned (.bool true) ∧ Ext w w' := by
  have hs1 := bytes_size s
  have hs2 := bytes_size u
  have hm1 : (min (s.length : Int) 100).toNat = min s.length 100 := by omega
  have hm2 : (min (u.length : Int) 100).toNat = min u.length 100 := by omega
  go_enter Try.func8, Try.ntmps8
  go_wp2_with fail
  refine (sanity_calls _).mono ?_
  rintro e w1 ⟨rfl, hx1⟩
  go_wp2_with fail
  go_quiet (fail)
  go_wp2_with fail
  have e1 : (⟨s.toArray⟩ : ByteArray).extract 0 (min s.length 100) = ⟨(s.take 100).toArray⟩ := by rw [extract_take, min_take]
  have e2 : (⟨u.toArray⟩ : ByteArray).extract 0 (min u.length 100) = ⟨(u.take 100).toArray⟩ := by rw [extract_take, min_take]
  have e3 : min s.length 100 = (s.take 100).length := by rw [List.length_take, Nat.min_comm]
  rw [e1, e2, e3]
  have ht := take_hundred s
  have ht2 := take_hundred u
  obtain ⟨a, hae⟩ : ∃ t, t = s.take 100 := ⟨_, rfl⟩
  obtain ⟨b, hbe⟩ : ∃ t, t = u.take 100 := ⟨_, rfl⟩
  rw [← hae] at ht ⊢
  rw [← hbe] at ht2 ⊢
  have Ha := Lib.hid ht
  have Hb := Lib.hid ht2
  clear e1 e2 e3 hae hbe hs1 hs2 hm1 hm2
  obtain ⟨w2, hw2⟩ : ∃ w2, w2 = w1.drewN nq := ⟨_, rfl⟩
  have hh : w1.heap.size = w2.heap.size := by rw [hw2]; rfl
  have hx2 : Ext w1 w2 := by rw [hw2]; exact Ext.drewN _ _
  rw [← hw2, hh]
  have Hx2 := Lib.hid hx2
  clear hw2 hh hx2
  rw [one_back w2 a.length (by omega)]
  simp only [Result.andThen]
  rw [Oper.upon_value]
  have hs1 := bytes_size [UInt8.ofNat a.length]
  have hs0 : (⟨#[0, 0, 0]⟩ : ByteArray).size = 3 := rfl
  obtain ⟨w3, hw3⟩ : ∃ w3, w3 = w2.alloc (.cells #[.int .u8 (a.length : Int)] 5) := ⟨_, rfl⟩
  have Hx3 : Hid (Ext w2 w3) := by rw [hw3]; exact Ext.alloc _ _
  rw [← hw3]
  clear hw3
  go_wp2_with fail
  rw [len_cat a.length Ha.out]
  refine (chain_calls a b (by have := Ha.out; omega) (by have := Hb.out; omega) _).mono ?_
  rintro e w4 ⟨rfl, hx4⟩
  have hz1 : (⟨#[1]⟩ : ByteArray).size = 1 := rfl
  have hz2 : (⟨#[2]⟩ : ByteArray).size = 1 := rfl
  have hz3 := bytes_size (b4 a.length)
  rw [b4_length] at hz3
  have hz4 := bytes_size a
  have hz5 := bytes_size b
  have HL1 : Hid ((chainL a b).length ≤ 9223372036854775807) := by show (chainL a b).length ≤ _; simp [chainL, b4_length]; omega
  have HL2 : Hid ((markL a b).length ≤ 9223372036854775807) := by show (markL a b).length ≤ _; simp [markL, b4_length]; omega
  clear hs0 hs1
  go_wp2_with fail
  rw [chain_cat]
  refine (of_calls _ HL1.out _).mono ?_
  rintro e w5 ⟨rfl, hx5⟩
  go_wp2_with fail
  refine (mark_calls a b (by have := Ha.out; omega) (by have := Hb.out; omega) _).mono ?_
  rintro e w6 ⟨rfl, hx6⟩
  go_wp2_with fail
  rw [mark_cat]
  refine (of_calls _ HL2.out _).mono ?_
  rintro e w7 ⟨rfl, hx7⟩
  go_wp2_with fail
  go_ret
  exact ⟨rfl, hx1.trans (Hx2.out.trans (Hx3.out.trans (hx4.trans (hx5.trans (hx6.trans hx7)))))⟩

end Go.Proofs.Ytblpalhnjkfjoaa
