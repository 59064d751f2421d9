/- Texts that belong together. -/
import Derived.Test.YtegjcikofmphjaaGreatDoorQBase
import Derived.Test.YtegjcikofmphjaaGreatDoorQNumBits
set_option linter.all false
/- What layer 1 calls of package bits: Sub32, Add32, LeadingZeros32. -/
namespace Go.Proofs.YtegjcikofmphjaaGreatDoor
open Go Go.RowKit Go.Shelf
set_option maxRecDepth 100000 in
set_option maxHeartbeats 2000000 in
theorem add32_calls (x y c : Nat) (hx : x < B32) (hy : y < B32) (hc : c ≤ 1) (w : World) :
    Calls Tryz.prog 128 #[.int .u32 x, .int .u32 y, .int .u32 c] w fun e w' => e = .returned (.tuple #[.int .u32 (addLo x y c : Nat), .int .u32 (addHi x y c : Nat)]) ∧ w = w' := by
  have e1 : ((addLo x y c : Nat) : Int) = ((x : Int) + y + c) % 4294967296 := by unfold addLo B32; omega
  have e2 : ((addHi x y c : Nat) : Int) = ((x : Int) + y + c) / 4294967296 := by unfold addHi B32; omega
  rw [e1, e2]
  clear e1 e2
  unfold B32 at *
  go_enter Tryz.func128, Tryz.ntmps128
  go_wp2
  go_ret2
  exact ⟨rfl, rfl⟩
theorem u32_keep (n : Int) (h0 : 0 ≤ n) (h1 : n < 2 ^ 32) : IntKind.u32.wrap n = n := by
  rw [IntKind.wrap_u32]; omega
theorem u32_and (a b : Nat) (ha : a < 4294967296) (hb : b < 4294967296) : bits .and .u32 (a : Int) (b : Int) = ((a &&& b : Nat) : Int) := (bits_nat .u32 32 (by decide) u32_keep a b ha hb).1
theorem u32_or (a b : Nat) (ha : a < 4294967296) (hb : b < 4294967296) : bits .or .u32 (a : Int) (b : Int) = ((a ||| b : Nat) : Int) := (bits_nat .u32 32 (by decide) u32_keep a b ha hb).2
theorem u32_xor (a b : Nat) (ha : a < 4294967296) (hb : b < 4294967296) : bits .xor .u32 (a : Int) (b : Int) = ((a ^^^ b : Nat) : Int) := by
  have hx : a ^^^ b < 2 ^ 32 := Nat.xor_lt_two_pow (by omega) (by omega)
  have h1 : (BitVec.ofInt 32 (a : Int)).toNat = a := by
    rw [BitVec.ofInt_natCast, BitVec.toNat_ofNat]; exact Nat.mod_eq_of_lt (by omega)
  have h2 : (BitVec.ofInt 32 (b : Int)).toNat = b := by
    rw [BitVec.ofInt_natCast, BitVec.toNat_ofNat]; exact Nat.mod_eq_of_lt (by omega)
  show IntKind.u32.wrap ((BitVec.ofInt 32 (a : Int) ^^^ BitVec.ofInt 32 (b : Int)).toNat : Int) = _
  rw [BitVec.toNat_xor, h1, h2, IntKind.wrap_u32]
  omega
theorem top_bit {n : Nat} (h : n < 4294967296) : n / 2147483648 = if n.testBit 31 then 1 else 0 := by
  have e : n.testBit 31 = decide (n / 2147483648 % 2 = 1) := Nat.testBit_eq_decide_div_mod_eq
  rw [e]
  by_cases h1 : n / 2147483648 % 2 = 1 <;> simp [h1] <;> omega
theorem bit31 {n : Nat} (h : n < 4294967296) : n.testBit 31 = decide (2147483648 ≤ n) := by
  have e : n.testBit 31 = decide (n / 2147483648 % 2 = 1) := Nat.testBit_eq_decide_div_mod_eq
  rw [e]
  by_cases h1 : 2147483648 ≤ n <;> simp [h1] <;> omega
theorem sub_bits (x y c : Nat) (hx : x < 4294967296) (hy : y < 4294967296) (hc : c ≤ 1) :
    bits .or .u32 (bits .and .u32 (bits .xor .u32 IntKind.u32.max (x : Int)) (y : Int)) (bits .and .u32 (bits .xor .u32 IntKind.u32.max (bits .xor .u32 (x : Int) (y : Int))) (((x : Int) - y - c) % 4294967296)) / 2147483648 = ((subHi x y c : Nat) : Int) := by
  have hmax : IntKind.u32.max = ((4294967295 : Nat) : Int) := by decide
  have hd : (((x : Int) - y - c) % 4294967296) = (((x + 8589934592 - y - c) % 4294967296 : Nat) : Int) := by omega
  have hdl : (x + 8589934592 - y - c) % 4294967296 < 4294967296 := Nat.mod_lt _ (by decide)
  have hdv : (x + 8589934592 - y - c) % 4294967296 = if x < y + c then x + 4294967296 - y - c else x - y - c := by split <;> omega
  rw [hmax, hd]
  generalize (x + 8589934592 - y - c) % 4294967296 = d at *
  have l1 : 4294967295 ^^^ x < 4294967296 := Nat.xor_lt_two_pow (n := 32) (by decide) (by omega)
  have l2 : x ^^^ y < 4294967296 := Nat.xor_lt_two_pow (n := 32) (by omega) (by omega)
  have l3 : 4294967295 ^^^ (x ^^^ y) < 4294967296 := Nat.xor_lt_two_pow (n := 32) (by decide) (by omega)
  have l4 : (4294967295 ^^^ x) &&& y < 4294967296 := Nat.and_lt_two_pow (n := 32) _ (by omega)
  have l5 : (4294967295 ^^^ (x ^^^ y)) &&& d < 4294967296 := Nat.and_lt_two_pow (n := 32) _ (by omega)
  have l6 : ((4294967295 ^^^ x) &&& y) ||| ((4294967295 ^^^ (x ^^^ y)) &&& d) < 4294967296 := Nat.or_lt_two_pow (n := 32) (by omega) (by omega)
  rw [u32_xor _ _ (by decide) hx, u32_and _ _ l1 hy, u32_xor _ _ hx hy, u32_xor _ _ (by decide) l2, u32_and _ _ l3 hdl, u32_or _ _ l4 l5]
  have h31 : Nat.testBit 4294967295 31 = true := by decide
  have ht := top_bit l6
  rw [Nat.testBit_or, Nat.testBit_and, Nat.testBit_and, Nat.testBit_xor, Nat.testBit_xor, Nat.testBit_xor, h31, bit31 hx, bit31 hy, bit31 hdl] at ht
  have : (((((4294967295 ^^^ x) &&& y) ||| ((4294967295 ^^^ (x ^^^ y)) &&& d) : Nat) : Int)) / 2147483648 = ((((((4294967295 ^^^ x) &&& y) ||| ((4294967295 ^^^ (x ^^^ y)) &&& d)) / 2147483648 : Nat)) : Int) := by omega
  rw [this, ht]
  unfold subHi
  by_cases h1 : 2147483648 ≤ x <;> by_cases h2 : 2147483648 ≤ y <;> by_cases h3 : 2147483648 ≤ d <;> by_cases h4 : x < y + c <;> simp [h1, h2, h3, h4] at hdv ⊢ <;> omega
theorem sub_lo (x y c : Nat) (hx : x < 4294967296) (hy : y < 4294967296) (hc : c ≤ 1) : ((x : Int) - y - c) % 4294967296 = ((subLo x y c : Nat) : Int) := by
  unfold subLo B32; omega
set_option maxRecDepth 100000 in
set_option maxHeartbeats 2000000 in
theorem sub32_calls (x y c : Nat) (hx : x < B32) (hy : y < B32) (hc : c ≤ 1) (w : World) :
    Calls Tryz.prog 127 #[.int .u32 x, .int .u32 y, .int .u32 c] w fun e w' => e = .returned (.tuple #[.int .u32 (subLo x y c : Nat), .int .u32 (subHi x y c : Nat)]) ∧ w = w' := by
  unfold B32 at *
  go_enter Tryz.func127, Tryz.ntmps127
  go_wp2
  all_goals (go_ret2; refine ⟨?_, rfl⟩)
  all_goals
    have h1 := sub_bits x y c hx hy hc
    have h2 := sub_lo x y c hx hy hc
    show Ending.returned (.tuple #[.int .u32 (((x : Int) - y - c) % 4294967296), .int .u32 (bits .or .u32 (bits .and .u32 (bits .xor .u32 IntKind.u32.max (x : Int)) (y : Int)) (bits .and .u32 (bits .xor .u32 IntKind.u32.max (bits .xor .u32 (x : Int) (y : Int))) (((x : Int) - y - c) % 4294967296)) / 2147483648)]) = _
    rw [h1, h2]
def lz (x : Nat) : Nat := 32 - Lib.bitLen x
set_option maxHeartbeats 2000000 in
theorem lz_calls (x : Nat) (hx : x < B32) (w : World) :
    Calls Tryz.prog 109 #[.int .u32 x] w fun e w' => e = .returned (.int .i64 (lz x : Nat)) ∧ w = w' := by
  have hlen := len32_calls x w (by omega) (by unfold B32 at hx; omega)
  rw [Int.toNat_natCast] at hlen
  have hle : Lib.bitLen x ≤ 32 := Lib.bitLen_le x 32 (by decide) hx
  have hlz : ((lz x : Nat) : Int) = 32 - (Lib.bitLen x : Int) := by unfold lz; omega
  rw [hlz]
  generalize Lib.bitLen x = l at *
  have Hlen := Lib.hid hlen
  clear hlen hlz hx
  go_enter Tryz.func109, Tryz.ntmps109
  go_wp2_with fail
  refine Hlen.out.mono ?_
  rintro e w1 ⟨rfl, rfl⟩
  go_wp2
  go_ret
  exact ⟨rfl, rfl⟩
theorem bitLenAux_lt : ∀ (f x : Nat), x < 2 ^ f → x < 2 ^ Lib.bitLenAux f x
  | 0, x, h => by simpa [Lib.bitLenAux] using h
  | f + 1, x, h => by
    unfold Lib.bitLenAux
    split
    · rename_i h0; subst h0; decide
    · have := bitLenAux_lt f (x / 2) (by rw [Nat.pow_succ] at h; omega)
      rw [Nat.pow_add, Nat.pow_one]
      omega
theorem lz_bounds {x : Nat} (h0 : x ≠ 0) (hx : x < B32) : lz x ≤ 31 ∧ x * 2 ^ lz x < B32 := by
  have h1 := bitLenAux_lt 64 x (by unfold B32 at hx; omega)
  have h2 : Lib.bitLen x ≤ 32 := Lib.bitLen_le x 32 (by decide) hx
  have h3 : 0 < Lib.bitLen x := by
    rcases Nat.eq_zero_or_pos (Lib.bitLen x) with h | h
    · have h1' : x < 2 ^ Lib.bitLen x := h1
      rw [h] at h1'; omega
    · exact h
  have h1' : x < 2 ^ Lib.bitLen x := h1
  refine ⟨by unfold lz; omega, ?_⟩
  unfold lz
  calc x * 2 ^ (32 - Lib.bitLen x) < 2 ^ Lib.bitLen x * 2 ^ (32 - Lib.bitLen x) := Nat.mul_lt_mul_of_pos_right h1' (Nat.two_pow_pos _)
    _ = 2 ^ 32 := by rw [← Nat.pow_add]; congr 1; omega
end Go.Proofs.YtegjcikofmphjaaGreatDoor

