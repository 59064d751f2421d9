/- Texts that belong together. -/
import Derived.Test.YtegjcikofmphjaaGreatDoorQRef8
set_option linter.all false
/- Mathematics of division, bit by bit. -/
namespace Go.Proofs.YtegjcikofmphjaaGreatDoor
theorem pow32 (j : Nat) : B32 ^ j = 2 ^ (32 * j) := by
  rw [show B32 = 2 ^ 32 by decide, ← Nat.pow_mul]
theorem val_div_pow {xs : List Nat} (hd : Digits xs) (j : Nat) : val xs / B32 ^ j = val (xs.drop j) := by
  by_cases h : j ≤ xs.length
  · rw [val_take_drop xs h]
    have h1 := val_lt (hd.take j)
    rw [List.length_take, Nat.min_eq_left h] at h1
    rw [Nat.add_mul_div_left _ _ (Nat.pow_pos B32_pos), Nat.div_eq_of_lt h1, Nat.zero_add]
  · rw [List.drop_eq_nil_of_le (by omega)]
    have h1 := val_lt hd
    have h2 : B32 ^ xs.length ≤ B32 ^ j := Nat.pow_le_pow_right B32_pos (by omega)
    exact Nat.div_eq_of_lt (by omega)
theorem drop_val (xs : List Nat) (j : Nat) : val (xs.drop j) = xs[j]?.getD 0 + B32 * val (xs.drop (j + 1)) := by
  by_cases h : j < xs.length
  · exact val_drop h
  · rw [List.drop_eq_nil_of_le (by omega), List.drop_eq_nil_of_le (by omega), getD_of_ge (by omega)]; rfl
theorem digit_bit {xs : List Nat} (hd : Digits xs) (k : Nat) : xs[k / 32]?.getD 0 / 2 ^ (k % 32) % 2 = val xs / 2 ^ k % 2 := by
  obtain ⟨i, hi⟩ : ∃ i, i = k % 32 := ⟨_, rfl⟩
  obtain ⟨j, hj⟩ : ∃ j, j = k / 32 := ⟨_, rfl⟩
  have hk : k = 32 * j + i := by omega
  rw [← hi, ← hj, hk, Nat.pow_add, ← pow32, ← Nat.div_div_eq_div_mul, val_div_pow hd, drop_val]
  have e : B32 = 2 ^ i * (2 * 2 ^ (31 - i)) := by
    rw [← Nat.pow_succ', ← Nat.pow_add, show i + (31 - i).succ = 32 by omega]; rfl
  rw [e, Nat.mul_assoc, Nat.add_mul_div_left _ _ (Nat.pow_pos (by decide)), Nat.mul_assoc]
  omega
theorem or_bit {d i : Nat} (h : d / 2 ^ i % 2 = 0) : d ||| 2 ^ i = d + 2 ^ i := by
  have h1 : d % 2 ^ i < 2 ^ i := Nat.mod_lt _ (Nat.pow_pos (by decide))
  have h2 : d = 2 ^ i * (d / 2 ^ i) + d % 2 ^ i := (Nat.div_add_mod _ _).symm
  have h3 : 2 ^ i * (d / 2 ^ i) ||| 2 ^ i = 2 ^ i * (d / 2 ^ i + 1) := by
    have e : d / 2 ^ i = 2 * (d / 2 ^ i / 2) := by omega
    have h4 : d / 2 ^ i ||| 1 = d / 2 ^ i + 1 := by
      rw [e]
      have := Nat.two_pow_add_eq_or_of_lt (i := 1) (b := 1) (by decide) (d / 2 ^ i / 2)
      simpa using this.symm
    rw [← h4, Nat.mul_comm, Nat.mul_comm _ (d / 2 ^ i ||| 1), ← Nat.shiftLeft_eq, ← Nat.shiftLeft_eq, Nat.shiftLeft_or_distrib, Nat.one_shiftLeft]
  rw [Nat.or_comm] 
  conv => lhs; rw [h2, Nat.two_pow_add_eq_or_of_lt h1, ← Nat.or_assoc, Nat.or_comm (2 ^ i), h3, ← Nat.two_pow_add_eq_or_of_lt h1]
  rw [Nat.mul_add, Nat.mul_one]
  omega
theorem quo_step {h bit D : Nat} (hD : 0 < D) (hb : bit < 2) :
    (2 * (h % D) + bit < D → (2 * h + bit) % D = 2 * (h % D) + bit ∧ (2 * h + bit) / D = 2 * (h / D)) ∧ (D ≤ 2 * (h % D) + bit → (2 * h + bit) % D = 2 * (h % D) + bit - D ∧ (2 * h + bit) / D = 2 * (h / D) + 1) := by
  have h1 : h % D < D := Nat.mod_lt _ hD
  have h2 : D * (h / D) + h % D = h := Nat.div_add_mod _ _
  have e : 2 * h + bit = D * (2 * (h / D)) + (2 * (h % D) + bit) := by
    rw [Nat.mul_left_comm]; omega
  generalize h % D = r at *
  generalize h / D = q at *
  rw [e]
  constructor
  · intro hlt
    rw [Nat.mul_add_mod, Nat.mod_eq_of_lt hlt, Nat.mul_add_div hD, Nat.div_eq_of_lt hlt]
    exact ⟨rfl, rfl⟩
  · intro hge
    have e2 : 2 * r + bit = D * 1 + (2 * r + bit - D) := by omega
    have hlt : 2 * r + bit - D < D := by omega
    rw [e2, Nat.mul_add_mod, Nat.mul_add_mod, Nat.mod_eq_of_lt hlt, Nat.mul_add_div hD, Nat.mul_add_div hD, Nat.div_eq_of_lt hlt]
    omega
theorem half_pow (A k : Nat) : A / 2 ^ k = 2 * (A / 2 ^ (k + 1)) + A / 2 ^ k % 2 := by
  rw [Nat.pow_succ, ← Nat.div_div_eq_div_mul]; omega
end Go.Proofs.YtegjcikofmphjaaGreatDoor

