/- Texts that belong together. -/
import Derived.Below
set_option linter.all false
/- Mathematics of the binary greatest common divisor: what is kept while twos are taken out and the lesser number is subtracted. No program is named. -/
namespace Go.Proofs.YtegjcikofmphjaaGreatDoor
theorem odd_dvd2 {d n : Nat} (hd : d % 2 = 1) : d ∣ 2 * n ↔ d ∣ n := by
  have hc : Nat.Coprime d 2 := by
    unfold Nat.Coprime
    rw [Nat.gcd_comm, Nat.gcd_rec, hd]
    decide
  exact ⟨fun h => hc.dvd_of_dvd_mul_left h, fun h => Nat.dvd_trans h (Nat.dvd_mul_left _ _)⟩
def OddSame (X Y g : Nat) : Prop := ∀ d, d % 2 = 1 → (d ∣ X ∧ d ∣ Y ↔ d ∣ g)
theorem OddSame.swap {X Y g : Nat} (h : OddSame X Y g) : OddSame Y X g := fun d hd => by rw [And.comm]; exact h d hd
theorem OddSame.halfX {X Y g : Nat} (h : OddSame X Y g) (he : X % 2 = 0) : OddSame (X / 2) Y g := fun d hd => by
  have e : X = 2 * (X / 2) := by omega
  rw [← h d hd, ← odd_dvd2 (n := X / 2) hd, ← e]
theorem OddSame.halfY {X Y g : Nat} (h : OddSame X Y g) (he : Y % 2 = 0) : OddSame X (Y / 2) g := (h.swap.halfX he).swap
theorem OddSame.sub {X Y g : Nat} (h : OddSame X Y g) (hle : Y ≤ X) : OddSame (X - Y) Y g := fun d hd => by
  rw [← h d hd]
  constructor
  · rintro ⟨h1, h2⟩
    refine ⟨?_, h2⟩
    have := Nat.dvd_add h1 h2
    rwa [Nat.sub_add_cancel hle] at this
  · rintro ⟨h1, h2⟩
    exact ⟨Nat.dvd_sub h1 h2, h2⟩
theorem OddSame.fin {Y g : Nat} (h : OddSame 0 Y g) (hY : Y % 2 = 1) (hg : g % 2 = 1) : Y = g :=
  Nat.dvd_antisymm ((h Y hY).1 ⟨Nat.dvd_zero _, Nat.dvd_refl _⟩) ((h g hg).2 (Nat.dvd_refl _)).2
theorem OddSame.start (X Y : Nat) : OddSame X Y (Nat.gcd X Y) := fun d _ => (Nat.dvd_gcd_iff (k := d) (m := X) (n := Y)).symm
theorem gcd_odd {X Y : Nat} (h : X % 2 = 1 ∨ Y % 2 = 1) : Nat.gcd X Y % 2 = 1 := by
  have h1 := Nat.gcd_dvd_left X Y
  have h2 := Nat.gcd_dvd_right X Y
  generalize Nat.gcd X Y = g at *
  rcases Nat.mod_two_eq_zero_or_one g with e | e
  · exfalso
    have h3 : 2 ∣ g := Nat.dvd_of_mod_eq_zero e
    rcases h with h | h
    · have := Nat.mod_eq_zero_of_dvd (Nat.dvd_trans h3 h1); omega
    · have := Nat.mod_eq_zero_of_dvd (Nat.dvd_trans h3 h2); omega
  · exact e
theorem gcd_twos (t X Y : Nat) : Nat.gcd (2 ^ t * X) (2 ^ t * Y) = 2 ^ t * Nat.gcd X Y := Nat.gcd_mul_left _ _ _
theorem two_step (t X : Nat) (h : X % 2 = 0) : 2 ^ t * X = 2 ^ (t + 1) * (X / 2) := by
  have e : X = 2 * (X / 2) := by omega
  conv => lhs; rw [e]
  rw [Nat.pow_succ, Nat.mul_assoc]
theorem two_bound {t X n : Nat} (h0 : 0 < X) (h : 2 ^ t * X < 2 ^ n) : t < n := by
  have h1 : 2 ^ t * 1 ≤ 2 ^ t * X := Nat.mul_le_mul_left _ h0
  rw [Nat.mul_one] at h1
  exact (Nat.pow_lt_pow_iff_right (by decide : 1 < 2)).1 (Nat.lt_of_le_of_lt h1 h)
end Go.Proofs.YtegjcikofmphjaaGreatDoor

