/- Texts that belong together. -/
import Derived.Test.YtegjcikofmphjaaGreatDoorRows
set_option linter.all false
/- Numbers with a square root, by whole numbers alone: the sign of a + b √c, and comparing. -/
namespace Go.Proofs.YtegjcikofmphjaaGreatDoor
namespace RM
theorem mul_le_mul' {a b c d : Int} (h1 : a ≤ b) (h2 : c ≤ d) (ha : 0 ≤ a) (hc : 0 ≤ c) : a * c ≤ b * d :=
  Int.le_trans (Int.mul_le_mul_of_nonneg_right h1 hc) (Int.mul_le_mul_of_nonneg_left h2 (Int.le_trans ha h1))
theorem sq_lt {a b : Int} (ha : 0 ≤ a) (h : a < b) : a * a < b * b := by
  have h1 : a * a ≤ a * b := Int.mul_le_mul_of_nonneg_left (by omega) ha
  have h2 : a * b < b * b := Int.mul_lt_mul_of_pos_right h (by omega)
  omega
theorem le_of_sq {a b : Int} (hb : 0 ≤ b) (h : a * a ≤ b * b) : a ≤ b := by
  apply Classical.byContradiction
  intro h'
  have := sq_lt hb (show b < a by omega)
  omega
def Grows (f : Nat → Int) : Prop := ∀ M : Int, ∃ k0 : Nat, ∀ k, k0 ≤ k → M < f k
def Flat (f : Nat → Int) : Prop := ∃ (C : Int) (k0 : Nat), ∀ k, k0 ≤ k → -C ≤ f k ∧ f k ≤ C
theorem Grows.mono {f g : Nat → Int} (h : Grows f) (hg : ∃ k0 : Nat, ∀ k, k0 ≤ k → f k ≤ g k) : Grows g := fun M => by
  obtain ⟨k0, h0⟩ := h M
  obtain ⟨k1, h1⟩ := hg
  exact ⟨max k0 k1, fun k hk => by have := h0 k (by omega); have := h1 k (by omega); omega⟩
theorem Grows.linear {f : Nat → Int} (A C : Int) (hA : 0 < A) (h : ∃ k0 : Nat, ∀ k, k0 ≤ k → (k : Int) ≤ A * f k + C) : Grows f := fun M => by
  obtain ⟨k0, h0⟩ := h
  refine ⟨max k0 (A * M.natAbs + C.natAbs + 1).natAbs, fun k hk => ?_⟩
  have h1 := h0 k (by omega)
  apply Classical.byContradiction
  intro h'
  have h2 : A * f k ≤ A * M.natAbs := Int.mul_le_mul_of_nonneg_left (by omega) (by omega)
  have h3 : 0 ≤ A * (M.natAbs : Int) := Int.mul_nonneg (by omega) (by omega)
  omega
theorem Grows.add {f g : Nat → Int} (h : Grows f) (hg : ∃ (C : Int) (k0 : Nat), ∀ k, k0 ≤ k → C ≤ g k) : Grows (fun k => f k + g k) := fun M => by
  obtain ⟨C, k1, h1⟩ := hg
  obtain ⟨k0, h0⟩ := h (M - C)
  exact ⟨max k0 k1, fun k hk => by have := h0 k (by omega); have := h1 k (by omega); show M < f k + g k; omega⟩
theorem Grows.not_flat {f : Nat → Int} (h : Grows f) (hf : ∃ (C : Int) (k0 : Nat), ∀ k, k0 ≤ k → f k ≤ C) : False := by
  obtain ⟨C, k1, h1⟩ := hf
  obtain ⟨k0, h0⟩ := h C
  have := h0 (max k0 k1) (by omega)
  have := h1 (max k0 k1) (by omega)
  omega
def Appr (c : Int) (t : Nat → Int) : Prop := ∃ E : Int, 0 ≤ E ∧ ∀ k : Nat, 0 ≤ t k ∧ t k * t k ≤ c * (k * k) ∧ c * (k * k) ≤ t k * t k + E * t k + E
section
variable {c : Int} {t : Nat → Int}
theorem Appr.le (h : Appr c t) (hc : 0 ≤ c) (k : Nat) : t k ≤ (c + 1) * k := by
  obtain ⟨E, -, h⟩ := h
  obtain ⟨h0, h1, -⟩ := h k
  refine le_of_sq (Int.mul_nonneg (by omega) (by omega)) ?_
  have : 0 ≤ (c * c + c + 1) * (k * k : Int) := Int.mul_nonneg (by have := Int.mul_nonneg hc hc; omega) (Int.mul_nonneg (by omega) (by omega))
  grind
theorem Appr.zero (h : Appr 0 t) (k : Nat) : t k = 0 := by
  have := h.le (by omega) k
  obtain ⟨E, -, h⟩ := h
  obtain ⟨h0, h1, -⟩ := h k
  have h2 : t k ≤ 0 := le_of_sq (by omega) (by omega)
  omega
theorem Appr.grows (h : Appr c t) (hc : 0 < c) : Grows t := by
  obtain ⟨E, hE, h⟩ := h
  refine Grows.linear 1 (E + 1) (by omega) ⟨0, fun k _ => ?_⟩
  obtain ⟨h0, h1, h2⟩ := h k
  refine le_of_sq (by omega) ?_
  have h3 : 1 * (k * k : Int) ≤ c * (k * k) := Int.mul_le_mul_of_nonneg_right (by omega) (Int.mul_nonneg (by omega) (by omega))
  have h4 : 0 ≤ E * E := Int.mul_nonneg hE hE
  have h5 : 0 ≤ E * t k := Int.mul_nonneg hE h0
  grind
end
def sideZ (a b c : Int) : Int := if b = 0 ∨ c = 0 then a.sign else if a = 0 ∨ a.sign = b.sign then b.sign else a.sign * (a * a - b * b * c).sign
theorem sideZ_neg (a b c : Int) : sideZ (-a) (-b) c = - sideZ a b c := by
  unfold sideZ
  simp only [Int.neg_eq_zero, Int.sign_neg, Int.neg_mul_neg]
  split
  · rfl
  · by_cases h : a = 0 ∨ a.sign = b.sign
    · rw [if_pos h, if_pos (by omega)]
    · rw [if_neg h, if_neg (by omega), Int.neg_mul]
theorem sign_cases (a : Int) : (a < 0 ∧ a.sign = -1) ∨ (a = 0 ∧ a.sign = 0) ∨ (0 < a ∧ a.sign = 1) := by
  rcases Int.lt_trichotomy a 0 with h | h | h
  · exact .inl ⟨h, Int.sign_eq_neg_one_of_neg h⟩
  · exact .inr (.inl ⟨h, by rw [h]; rfl⟩)
  · exact .inr (.inr ⟨h, Int.sign_eq_one_of_pos h⟩)
theorem sideZ_range (a b c : Int) : sideZ a b c = -1 ∨ sideZ a b c = 0 ∨ sideZ a b c = 1 := by
  unfold sideZ
  rcases sign_cases a with ⟨h1, h2⟩ | ⟨h1, h2⟩ | ⟨h1, h2⟩ <;> rcases sign_cases b with ⟨h3, h4⟩ | ⟨h3, h4⟩ | ⟨h3, h4⟩ <;> rcases sign_cases (a * a - b * b * c) with ⟨h5, h6⟩ | ⟨h5, h6⟩ | ⟨h5, h6⟩ <;> rw [h2, h4, h6] <;> split <;> (try split) <;> simp
theorem sideZ_one {a b c : Int} (hc : 0 ≤ c) (h : sideZ a b c = 1) : (0 < a ∧ (b = 0 ∨ c = 0)) ∨ (0 ≤ a ∧ 0 < b ∧ 0 < c) ∨ (0 < a ∧ b < 0 ∧ 0 < c ∧ b * b * c < a * a) ∨ (a < 0 ∧ 0 < b ∧ 0 < c ∧ a * a < b * b * c) := by
  unfold sideZ at h
  rcases sign_cases a with ⟨h1, h2⟩ | ⟨h1, h2⟩ | ⟨h1, h2⟩ <;> rcases sign_cases b with ⟨h3, h4⟩ | ⟨h3, h4⟩ | ⟨h3, h4⟩ <;> rcases sign_cases (a * a - b * b * c) with ⟨h5, h6⟩ | ⟨h5, h6⟩ | ⟨h5, h6⟩ <;> rw [h2, h4, h6] at h <;> split at h <;> (try split at h) <;> omega
theorem sideZ_zero {a b c : Int} (hc : 0 ≤ c) (h : sideZ a b c = 0) : (a = 0 ∧ (b = 0 ∨ c = 0)) ∨ (0 < a ∧ b < 0 ∧ 0 < c ∧ a * a = b * b * c) ∨ (a < 0 ∧ 0 < b ∧ 0 < c ∧ a * a = b * b * c) := by
  unfold sideZ at h
  rcases sign_cases a with ⟨h1, h2⟩ | ⟨h1, h2⟩ | ⟨h1, h2⟩ <;> rcases sign_cases b with ⟨h3, h4⟩ | ⟨h3, h4⟩ | ⟨h3, h4⟩ <;> rcases sign_cases (a * a - b * b * c) with ⟨h5, h6⟩ | ⟨h5, h6⟩ | ⟨h5, h6⟩ <;> rw [h2, h4, h6] at h <;> split at h <;> (try split at h) <;> omega
section
variable {a b c : Int} {t : Nat → Int}
theorem grows_of_sq {p q : Nat → Int} {A B C : Int} (hA : 0 < A) (h0 : ∀ k, 0 ≤ p k ∧ 0 ≤ q k) (hs : ∀ k : Nat, p k + q k ≤ A * k) (hd : ∀ k : Nat, (k : Int) * k ≤ p k * p k - q k * q k + B * k + C) (hC : 0 ≤ C) (hB : 0 ≤ B) : Grows (fun k => p k - q k) := by
  refine Grows.linear A (B + C) hA ⟨(B + C + 1).natAbs, fun k hk => ?_⟩
  apply Classical.byContradiction
  intro h'
  obtain ⟨hp, hq⟩ := h0 k
  have h1 := hs k
  have h2 := hd k
  have h3 : A * (p k - q k) < k - (B + C) := by omega
  have hk1 : (1 : Int) ≤ k := by omega
  have hCk : C * 1 ≤ C * k := Int.mul_le_mul_of_nonneg_left hk1 hC
  have h4 : k * (k - (B + C)) ≤ (p k - q k) * (p k + q k) := by grind
  have h8 : 0 < k * (k - (B + C)) := Int.mul_pos (by omega) (by omega)
  by_cases hpq : 0 ≤ p k - q k
  · have h5 : (p k - q k) * (p k + q k) ≤ (p k - q k) * (A * k) := Int.mul_le_mul_of_nonneg_left h1 hpq
    have h6 : k * (A * (p k - q k)) < k * (k - (B + C)) := Int.mul_lt_mul_of_pos_left h3 (by omega)
    grind
  · have h5 : (p k - q k) * (p k + q k) ≤ 0 := Int.mul_nonpos_of_nonpos_of_nonneg (by omega) (by omega)
    omega
theorem side_grows (ht : Appr c t) (hc : 0 ≤ c) (h : sideZ a b c = 1) : Grows (fun k => a * k + b * t k) := by
  have hle := ht.le hc
  rcases sideZ_one hc h with ⟨h1, h2⟩ | ⟨h1, h2, h3⟩ | ⟨h1, h2, h3, h4⟩ | ⟨h1, h2, h3, h4⟩
  · have hbt : ∀ k, b * t k = 0 := by
      rcases h2 with rfl | rfl
      · intro k; omega
      · intro k; rw [ht.zero k]; omega
    refine Grows.linear 1 0 (by omega) ⟨0, fun k _ => ?_⟩
    show (k : Int) ≤ 1 * (a * k + b * t k) + 0
    have : 1 * (k : Int) ≤ a * k := Int.mul_le_mul_of_nonneg_right (by omega) (by omega)
    have := hbt k
    omega
  · refine (ht.grows h3).mono ⟨0, fun k _ => ?_⟩
    obtain ⟨E, hE, ht⟩ := ht
    have h4 := (ht k).1
    have : 1 * t k ≤ b * t k := Int.mul_le_mul_of_nonneg_right (by omega) h4
    have : 0 ≤ a * (k : Int) := Int.mul_nonneg h1 (by omega)
    omega
  · obtain ⟨E, hE, ht⟩ := ht
    have key := grows_of_sq (p := fun k => a * k) (q := fun k => -b * t k) (A := a - b * (c + 1)) (B := b * b * 0) (C := 0) (by have := Int.mul_nonneg (a := -b) (b := c + 1) (by omega) (by omega); grind) (fun k => ⟨Int.mul_nonneg (by omega) (by omega), Int.mul_nonneg (by omega) (ht k).1⟩) (fun k => by
      have := Int.mul_le_mul_of_nonneg_left (hle k) (show 0 ≤ -b by omega)
      grind) (fun k => by
      obtain ⟨g1, g2, g3⟩ := ht k
      have h5 : 0 ≤ (a * a - b * b * c - 1) * (k * k : Int) := Int.mul_nonneg (by omega) (Int.mul_nonneg (by omega) (by omega))
      have h6 : b * b * (t k * t k) ≤ b * b * (c * (k * k)) := Int.mul_le_mul_of_nonneg_left g2 (by have := Int.mul_nonneg (a := -b) (b := -b) (by omega) (by omega); grind)
      grind) (by omega) (by omega)
    refine key.mono ⟨0, fun k _ => ?_⟩
    show a * (k : Int) - -b * t k ≤ a * k + b * t k
    grind
  · obtain ⟨E, hE, ht⟩ := ht
    have hbb : 0 ≤ b * b := Int.mul_nonneg (by omega) (by omega)
    have hbe := Int.mul_nonneg hbb hE
    have key := grows_of_sq (p := fun k => b * t k) (q := fun k => -a * k) (A := b * (c + 1) - a) (B := b * b * E * (c + 1)) (C := b * b * E) (by have := Int.mul_nonneg (a := b) (b := c + 1) (by omega) (by omega); omega) (fun k => ⟨Int.mul_nonneg (by omega) (ht k).1, Int.mul_nonneg (by omega) (by omega)⟩) (fun k => by
      have := Int.mul_le_mul_of_nonneg_left (hle k) (show 0 ≤ b by omega)
      grind) (fun k => by
      obtain ⟨g1, g2, g3⟩ := ht k
      have h5 : 0 ≤ (b * b * c - a * a - 1) * (k * k : Int) := Int.mul_nonneg (by omega) (Int.mul_nonneg (by omega) (by omega))
      have h6 : b * b * (c * (k * k)) ≤ b * b * (t k * t k + E * t k + E) := Int.mul_le_mul_of_nonneg_left g3 hbb
      have h7 : b * b * E * t k ≤ b * b * E * ((c + 1) * k) := Int.mul_le_mul_of_nonneg_left (hle k) hbe
      grind) hbe (Int.mul_nonneg hbe (by omega))
    refine key.mono ⟨0, fun k _ => ?_⟩
    show b * t k - -a * (k : Int) ≤ a * k + b * t k
    grind
theorem side_flat (ht : Appr c t) (hc : 0 ≤ c) (h : sideZ a b c = 0) : Flat (fun k => a * k + b * t k) := by
  rcases sideZ_zero hc h with ⟨h1, h2⟩ | ⟨h1, h2, h3, h4⟩ | ⟨h1, h2, h3, h4⟩
  · have hbt : ∀ k, b * t k = 0 := by
      rcases h2 with rfl | rfl
      · intro k; omega
      · intro k; rw [ht.zero k]; omega
    refine ⟨0, 0, fun k _ => ?_⟩
    show -0 ≤ a * (k : Int) + b * t k ∧ a * (k : Int) + b * t k ≤ 0
    rw [hbt k, h1]; omega
  · obtain ⟨E, hE, ht⟩ := ht
    have hbb : 0 ≤ b * b := by have := Int.mul_nonneg (a := -b) (b := -b) (by omega) (by omega); grind
    refine ⟨b * b * E, 1, fun k hk => ?_⟩
    obtain ⟨g1, g2, g3⟩ := ht k
    show -(b * b * E) ≤ a * (k : Int) + b * t k ∧ a * (k : Int) + b * t k ≤ b * b * E
    have e : (a * k + b * t k) * (a * k - b * t k) = b * b * (c * (k * k) - t k * t k) := by grind
    have l1 : b * b * (c * (k * k) - t k * t k) ≤ b * b * (E * t k + E) := Int.mul_le_mul_of_nonneg_left (by omega) hbb
    have l2 : 0 ≤ b * b * (c * (k * k) - t k * t k) := Int.mul_nonneg hbb (by omega)
    have s1 : 1 * (k : Int) ≤ a * k := Int.mul_le_mul_of_nonneg_right (by omega) (by omega)
    have s2 : 1 * t k ≤ -b * t k := Int.mul_le_mul_of_nonneg_right (by omega) g1
    have s3 : t k + 1 ≤ a * k - b * t k := by grind
    have s4 := Int.mul_nonneg hbb hE
    constructor
    · apply Classical.byContradiction
      intro h'
      have : (a * k + b * t k) * (a * k - b * t k) < 0 := Int.mul_neg_of_neg_of_pos (by omega) (by omega)
      omega
    · refine Int.le_of_mul_le_mul_right (a := a * k - b * t k) ?_ (by omega)
      have : b * b * E * (t k + 1) ≤ b * b * E * (a * k - b * t k) := Int.mul_le_mul_of_nonneg_left s3 s4
      grind
  · obtain ⟨E, hE, ht⟩ := ht
    have hbb : 0 ≤ b * b := Int.mul_nonneg (by omega) (by omega)
    refine ⟨b * b * E, 1, fun k hk => ?_⟩
    obtain ⟨g1, g2, g3⟩ := ht k
    show -(b * b * E) ≤ a * (k : Int) + b * t k ∧ a * (k : Int) + b * t k ≤ b * b * E
    have e : -(a * k + b * t k) * (b * t k - a * k) = b * b * (c * (k * k) - t k * t k) := by grind
    have l1 : b * b * (c * (k * k) - t k * t k) ≤ b * b * (E * t k + E) := Int.mul_le_mul_of_nonneg_left (by omega) hbb
    have l2 : 0 ≤ b * b * (c * (k * k) - t k * t k) := Int.mul_nonneg hbb (by omega)
    have s1 : 1 * (k : Int) ≤ -a * k := Int.mul_le_mul_of_nonneg_right (by omega) (by omega)
    have s2 : 1 * t k ≤ b * t k := Int.mul_le_mul_of_nonneg_right (by omega) g1
    have s3 : t k + 1 ≤ b * t k - a * k := by grind
    have s4 := Int.mul_nonneg hbb hE
    constructor
    · have : -(a * (k : Int) + b * t k) ≤ b * b * E := by
        refine Int.le_of_mul_le_mul_right (a := b * t k - a * k) ?_ (by omega)
        have : b * b * E * (t k + 1) ≤ b * b * E * (b * t k - a * k) := Int.mul_le_mul_of_nonneg_left s3 s4
        grind
      omega
    · apply Classical.byContradiction
      intro h'
      have : -(a * (k : Int) + b * t k) * (b * t k - a * k) < 0 := Int.mul_neg_of_neg_of_pos (by omega) (by omega)
      omega
end
theorem Grows.div {f : Nat → Int} {D : Int} (hD : 0 < D) (h : Grows (fun k => D * f k)) : Grows f := fun M => by
  obtain ⟨k0, h0⟩ := h (D * M)
  exact ⟨k0, fun k hk => Int.lt_of_mul_lt_mul_left (h0 k hk) (by omega)⟩
theorem Flat.div {f : Nat → Int} {D : Int} (hD : 0 < D) (h : Flat (fun k => D * f k)) : Flat f := by
  obtain ⟨C, k0, h0⟩ := h
  refine ⟨C, k0, fun k hk => ?_⟩
  obtain ⟨h1, h2⟩ := h0 k hk
  replace h1 : -C ≤ D * f k := h1
  replace h2 : D * f k ≤ C := h2
  by_cases hf : 0 ≤ f k
  · have : 1 * f k ≤ D * f k := Int.mul_le_mul_of_nonneg_right (by omega) hf
    omega
  · have : 1 * (-f k) ≤ D * (-f k) := Int.mul_le_mul_of_nonneg_right (by omega) (by omega)
    grind
def Rho (N D : Int) (r : Nat → Int) : Prop := ∀ k : Nat, 0 ≤ r k ∧ D * (r k * r k) ≤ N * (k * k) ∧ N * (k * k) < D * ((r k + 1) * (r k + 1))
section
variable {N D : Int} {r : Nat → Int}
theorem Rho.appr (h : Rho N D r) (hD : 0 < D) : Appr (N * D) (fun k => D * r k) := by
  have hDD : 0 < D * D := Int.mul_pos hD hD
  refine ⟨2 * D + D * D, by omega, fun k => ?_⟩
  obtain ⟨h0, h1, h2⟩ := h k
  have h3 := Int.mul_le_mul_of_nonneg_left h1 (show 0 ≤ D by omega)
  have h4 := Int.mul_le_mul_of_nonneg_left (show N * (k * k) ≤ D * ((r k + 1) * (r k + 1)) by omega) (show 0 ≤ D by omega)
  refine ⟨Int.mul_nonneg (by omega) h0, by grind, ?_⟩
  have h5 : 0 ≤ D * D * (D * r k) := Int.mul_nonneg (by omega) (Int.mul_nonneg (by omega) h0)
  grind
theorem Rho.le (h : Rho N D r) (hD : 0 < D) (hN : 0 ≤ N) (k : Nat) : r k ≤ (N + 1) * k := by
  obtain ⟨h0, h1, h2⟩ := h k
  refine le_of_sq (Int.mul_nonneg (by omega) (by omega)) ?_
  have h3 : 1 * (r k * r k) ≤ D * (r k * r k) := Int.mul_le_mul_of_nonneg_right (by omega) (Int.mul_nonneg h0 h0)
  have : 0 ≤ (N * N + N + 1) * (k * k : Int) := Int.mul_nonneg (by have := Int.mul_nonneg hN hN; omega) (Int.mul_nonneg (by omega) (by omega))
  grind
theorem Rho.grows (h : Rho N D r) (hD : 0 < D) (hN : 0 < N) : Grows r := Grows.div hD ((h.appr hD).grows (Int.mul_pos hN hD))
theorem Rho.zero (h : Rho 0 D r) (hD : 0 < D) (k : Nat) : r k = 0 := by
  have := h.le hD (by omega) k
  have h0 := (h k).1
  have h1 := (h k).2.1
  apply Classical.byContradiction
  intro h'
  have : 0 < D * (r k * r k) := Int.mul_pos hD (Int.mul_pos (by omega) (by omega))
  omega
theorem Rho.err (h : Rho N D r) (hD : 0 < D) (hN : 0 ≤ N) (k : Nat) : 0 ≤ N * (k * k) - D * (r k * r k) ∧ N * (k * k) - D * (r k * r k) ≤ D * (2 * (N + 1)) * k + D := by
  obtain ⟨h0, h1, h2⟩ := h k
  have h3 := Int.mul_le_mul_of_nonneg_left (h.le hD hN k) (show 0 ≤ 2 * D by omega)
  refine ⟨by omega, ?_⟩
  grind
theorem Rho.low (h : Rho N D r) (hD : 0 < D) (hN : 0 < N) : ∃ k0 : Nat, ∀ k : Nat, k0 ≤ k → (k : Int) ≤ 2 * D * r k := by
  obtain ⟨E, hE, ha⟩ := h.appr hD
  refine ⟨(2 * E + 2).natAbs, fun k hk => ?_⟩
  obtain ⟨h0, h1, h2⟩ := ha k
  replace h0 : 0 ≤ D * r k := h0
  have h3 : 1 * (k * k : Int) ≤ N * D * (k * k) := Int.mul_le_mul_of_nonneg_right (by have := Int.mul_pos hN hD; omega) (Int.mul_nonneg (by omega) (by omega))
  have h4 : (k : Int) ≤ D * r k + E + 1 := by
    refine le_of_sq (by omega) ?_
    have h4 : 0 ≤ E * E := Int.mul_nonneg hE hE
    have h5 : 0 ≤ E * (D * r k) := Int.mul_nonneg hE h0
    grind
  grind
end
theorem core_grows {x r z : Nat → Int} {F A C : Int} (hF : 0 < F) (hx : Grows x) (hr : ∀ k, 0 ≤ r k) (hs : ∀ k : Nat, x k + r k ≤ A * k) (hd : ∀ k : Nat, 1 ≤ k → (k : Int) * (z k - C) ≤ F * (x k * x k - r k * r k)) (hz : Grows z) : Grows (fun k => x k - r k) := fun M => by
  obtain ⟨k0, h0⟩ := hz (C + F * (M.natAbs * A))
  obtain ⟨k1, h1⟩ := hx 0
  refine ⟨max 1 (max k0 k1), fun k hk => ?_⟩
  show M < x k - r k
  have g0 := h0 k (by omega)
  have g1 := h1 k (by omega)
  have g2 := hr k
  have g3 := hs k
  have g4 := hd k (by omega)
  apply Classical.byContradiction
  intro h'
  have e : x k * x k - r k * r k = (x k - r k) * (x k + r k) := by grind
  have i1 : (x k - r k) * (x k + r k) ≤ (M.natAbs : Int) * (x k + r k) := Int.mul_le_mul_of_nonneg_right (by omega) (by omega)
  have i2 : (M.natAbs : Int) * (x k + r k) ≤ M.natAbs * (A * k) := Int.mul_le_mul_of_nonneg_left g3 (by omega)
  have i3 : F * (x k * x k - r k * r k) ≤ F * (M.natAbs * (A * k)) := Int.mul_le_mul_of_nonneg_left (by omega) (by omega)
  have i4 : (k : Int) * (F * (M.natAbs * A)) < k * (z k - C) := Int.mul_lt_mul_of_pos_left (by omega) (by omega)
  grind
theorem core_less {x r z : Nat → Int} {F A C : Int} (hF : 0 < F) (hx : Grows x) (hr : ∀ k, 0 ≤ r k) (hs : ∀ k : Nat, x k + r k ≤ A * k) (hd : ∀ k : Nat, 1 ≤ k → F * (x k * x k - r k * r k) ≤ (k : Int) * (z k + C)) (hz : Grows (fun k => -z k)) : Grows (fun k => r k - x k) := fun M => by
  obtain ⟨k0, h0⟩ := hz (C + F * (M.natAbs * A))
  obtain ⟨k1, h1⟩ := hx 0
  refine ⟨max 1 (max k0 k1), fun k hk => ?_⟩
  show M < r k - x k
  have g0 := h0 k (by omega)
  replace g0 : C + F * (M.natAbs * A) < -z k := g0
  have g1 := h1 k (by omega)
  have g2 := hr k
  have g3 := hs k
  have g4 := hd k (by omega)
  apply Classical.byContradiction
  intro h'
  have i1 : (r k - x k) * (x k + r k) ≤ (M.natAbs : Int) * (x k + r k) := Int.mul_le_mul_of_nonneg_right (by omega) (by omega)
  have i2 : (M.natAbs : Int) * (x k + r k) ≤ M.natAbs * (A * k) := Int.mul_le_mul_of_nonneg_left g3 (by omega)
  have e : r k * r k - x k * x k = (r k - x k) * (x k + r k) := by grind
  have i3 : F * (r k * r k - x k * x k) ≤ F * (M.natAbs * (A * k)) := Int.mul_le_mul_of_nonneg_left (by omega) (by omega)
  have i4 : (k : Int) * (F * (M.natAbs * A)) < k * (-z k - C) := Int.mul_lt_mul_of_pos_left (by omega) (by omega)
  grind
theorem core_flat {x r z : Nat → Int} {F G C : Int} (hF : 0 < F) (hC : 0 ≤ C) (hx : Grows x) (hr : ∀ k, 0 ≤ r k) (hG : 0 ≤ G) (hs : ∃ k0 : Nat, ∀ k : Nat, k0 ≤ k → (k : Int) ≤ G * r k) (hd : ∀ k : Nat, 1 ≤ k → F * (x k * x k - r k * r k) ≤ (k : Int) * (z k + C)) (hd' : ∀ k : Nat, 1 ≤ k → (k : Int) * (z k - C) ≤ F * (x k * x k - r k * r k)) (hz : Flat z) : Flat (fun k => x k - r k) := by
  obtain ⟨B, k0, h0⟩ := hz
  obtain ⟨k1, h1⟩ := hs
  obtain ⟨k2, h2⟩ := hx 0
  refine ⟨G * (B.natAbs + C), max 1 (max k0 (max k1 k2)), fun k hk => ?_⟩
  show -(G * (B.natAbs + C)) ≤ x k - r k ∧ x k - r k ≤ G * (B.natAbs + C)
  have g0 := h0 k (by omega)
  have g1 := h1 k (by omega)
  have g2 := h2 k (by omega)
  have g3 := hd k (by omega)
  have g4 := hd' k (by omega)
  have g5 := hr k
  have l1 : (k : Int) * (z k + C) ≤ k * (B.natAbs + C) := Int.mul_le_mul_of_nonneg_left (by omega) (by omega)
  have l2 : (k : Int) * (-(B.natAbs + C)) ≤ k * (z k - C) := Int.mul_le_mul_of_nonneg_left (by omega) (by omega)
  have hS : 0 < x k + r k := by omega
  have hk2 : (k : Int) ≤ G * (x k + r k) := by
    have : G * r k ≤ G * (x k + r k) := Int.mul_le_mul_of_nonneg_left (by omega) hG
    omega
  have l3 : (k : Int) * (B.natAbs + C) ≤ G * (x k + r k) * (B.natAbs + C) := Int.mul_le_mul_of_nonneg_right hk2 (by omega)
  have e : x k * x k - r k * r k = (x k - r k) * (x k + r k) := by grind
  have hP : 0 ≤ G * (x k + r k) * (B.natAbs + C) := Int.mul_nonneg (Int.mul_nonneg hG (by omega)) (by omega)
  constructor
  · apply Classical.byContradiction
    intro h'
    have i1 : (G * (B.natAbs + C)) * (x k + r k) < (r k - x k) * (x k + r k) := Int.mul_lt_mul_of_pos_right (by omega) hS
    have i2 : 1 * ((r k - x k) * (x k + r k)) ≤ F * ((r k - x k) * (x k + r k)) := Int.mul_le_mul_of_nonneg_right (by omega) (by grind)
    grind
  · apply Classical.byContradiction
    intro h'
    have i1 : (G * (B.natAbs + C)) * (x k + r k) < (x k - r k) * (x k + r k) := Int.mul_lt_mul_of_pos_right (by omega) hS
    have i2 : 1 * ((x k - r k) * (x k + r k)) ≤ F * ((x k - r k) * (x k + r k)) := Int.mul_le_mul_of_nonneg_right (by omega) (by grind)
    grind
def cmpZ (A1 s1 N1 D1 A2 s2 N2 D2 : Int) : Int :=
  if sideZ ((A1 - A2) * D1) s1 (N1 * D1) ≠ s2 then (if s2 < sideZ ((A1 - A2) * D1) s1 (N1 * D1) then 1 else -1)
  else sideZ ((A1 - A2) * D1) s1 (N1 * D1) * sideZ ((A1 - A2) * (A1 - A2) * (D1 * D2) + N1 * D2 - N2 * D1) (2 * s1 * (A1 - A2) * D2) (N1 * D1)
structure Rt (s N D : Int) (r : Nat → Int) : Prop where
  sg : s = -1 ∨ s = 0 ∨ s = 1
  n0 : 0 ≤ N
  d1 : 0 < D
  z : s = 0 ↔ N = 0
  rho : Rho N D r
theorem Rt.neg {s N D : Int} {r : Nat → Int} (h : Rt s N D r) : Rt (-s) N D r := ⟨by have := h.sg; omega, h.n0, h.d1, by have := h.z; omega, h.rho⟩
theorem Rt.sq {s N D : Int} {r : Nat → Int} (h : Rt s N D r) (k : Nat) : s * s * (r k * r k) = r k * r k := by
  rcases h.sg with e | e | e
  · rw [e]; grind
  · have := h.z.1 e
    have hr := h.rho
    rw [this] at hr
    rw [hr.zero h.d1 k]; grind
  · rw [e]; grind
def Tri (c : Int) (f : Nat → Int) : Prop := (c = 1 ∧ Grows f) ∨ (c = 0 ∧ Flat f) ∨ (c = -1 ∧ Grows (fun k => -f k))
theorem tri_side {a b c : Int} {t : Nat → Int} (ht : Appr c t) (hc : 0 ≤ c) : Tri (sideZ a b c) (fun k => a * k + b * t k) := by
  rcases sideZ_range a b c with h | h | h
  · refine .inr (.inr ⟨h, ?_⟩)
    have h' : sideZ (-a) (-b) c = 1 := by rw [sideZ_neg, h]; rfl
    refine (side_grows ht hc h').mono ⟨0, fun k _ => ?_⟩
    show -a * (k : Int) + -b * t k ≤ -(a * k + b * t k)
    grind
  · exact .inr (.inl ⟨h, side_flat ht hc h⟩)
  · exact .inl ⟨h, side_grows ht hc h⟩
theorem Tri.congr {c : Int} {f g : Nat → Int} (h : Tri c f) (e : ∀ k, f k = g k) : Tri c g := by
  have : f = g := funext e
  rwa [← this]
theorem Tri.div {c D : Int} {f : Nat → Int} (hD : 0 < D) (h : Tri c (fun k => D * f k)) : Tri c f := by
  rcases h with ⟨h, g⟩ | ⟨h, g⟩ | ⟨h, g⟩
  · exact .inl ⟨h, g.div hD⟩
  · exact .inr (.inl ⟨h, g.div hD⟩)
  · refine .inr (.inr ⟨h, Grows.div hD (g.mono ⟨0, fun k _ => ?_⟩)⟩)
    show -(D * f k) ≤ D * -f k
    grind
theorem Tri.neg {c : Int} {f : Nat → Int} (h : Tri c f) : Tri (-c) (fun k => -f k) := by
  rcases h with ⟨h, g⟩ | ⟨h, g⟩ | ⟨h, g⟩
  · refine .inr (.inr ⟨by omega, g.mono ⟨0, fun k _ => ?_⟩⟩)
    show f k ≤ - -f k
    omega
  · obtain ⟨C, k0, g⟩ := g
    exact .inr (.inl ⟨by omega, C, k0, fun k hk => by have := g k hk; show -C ≤ -f k ∧ -f k ≤ C; omega⟩)
  · exact .inl ⟨by omega, g⟩
theorem tri_one {d s N D : Int} {r : Nat → Int} (h : Rt s N D r) : Tri (sideZ (d * D) s (N * D)) (fun k => d * k + s * r k) := by
  refine Tri.div h.d1 ((tri_side (a := d * D) (b := s) (h.rho.appr h.d1) (Int.mul_nonneg h.n0 (by have := h.d1; omega))).congr fun k => ?_)
  grind
theorem tri_two {d s1 N1 D1 N2 D2 : Int} {r1 r2 : Nat → Int} (h1 : Rt s1 N1 D1 r1) (h2 : Rho N2 D2 r2) (hN2 : 0 < N2) (hD2 : 0 < D2) (hx : Grows (fun k => d * k + s1 * r1 k)) :
    Tri (sideZ (d * d * (D1 * D2) + N1 * D2 - N2 * D1) (2 * s1 * d * D2) (N1 * D1)) (fun k => d * k + s1 * r1 k - r2 k) := by
  have hD1 := h1.d1
  have hN1 := h1.n0
  have hF : 0 < D1 * D2 := Int.mul_pos hD1 hD2
  have hz := tri_side (a := d * d * (D1 * D2) + N1 * D2 - N2 * D1) (b := 2 * s1 * d * D2) (h1.rho.appr hD1) (Int.mul_nonneg hN1 (by omega))
  have hr : ∀ k, 0 ≤ r2 k := fun k => (h2 k).1
  have hs : ∀ k : Nat, d * k + s1 * r1 k + r2 k ≤ (d.natAbs + (N1 + 1) + (N2 + 1)) * k := fun k => by
    have a1 := h1.rho.le hD1 hN1 k
    have a2 := h2.le hD2 (by omega) k
    have a3 : d * k ≤ (d.natAbs : Int) * k := Int.mul_le_mul_of_nonneg_right (by omega) (by omega)
    have a4 := (h1.rho k).1
    have a5 : s1 * r1 k ≤ r1 k := by
      rcases h1.sg with e | e | e <;> rw [e] <;> omega
    grind
  have key : ∀ k : Nat, D1 * D2 * ((d * k + s1 * r1 k) * (d * k + s1 * r1 k) - r2 k * r2 k) = k * ((d * d * (D1 * D2) + N1 * D2 - N2 * D1) * k + 2 * s1 * d * D2 * (D1 * r1 k)) - D2 * (N1 * (k * k) - D1 * (r1 k * r1 k)) + D1 * (N2 * (k * k) - D2 * (r2 k * r2 k)) := fun k => by
    have := h1.sq k
    grind
  have e1 := h1.rho.err hD1 hN1
  have e2 := h2.err hD2 (by omega)
  -- what is rounded is at most C k
  obtain ⟨C, hC0, hC⟩ : ∃ C : Int, 0 ≤ C ∧ ∀ k : Nat, 1 ≤ k → D2 * (N1 * (k * k) - D1 * (r1 k * r1 k)) ≤ C * k ∧ D1 * (N2 * (k * k) - D2 * (r2 k * r2 k)) ≤ C * k ∧ 0 ≤ D2 * (N1 * (k * k) - D1 * (r1 k * r1 k)) ∧ 0 ≤ D1 * (N2 * (k * k) - D2 * (r2 k * r2 k)) := by
    have p1 : 0 ≤ D2 * (D1 * (2 * (N1 + 1)) + D1) := Int.mul_nonneg (by omega) (by have := Int.mul_nonneg (a := D1) (b := 2 * (N1 + 1)) (by omega) (by omega); omega)
    have p2 : 0 ≤ D1 * (D2 * (2 * (N2 + 1)) + D2) := Int.mul_nonneg (by omega) (by have := Int.mul_nonneg (a := D2) (b := 2 * (N2 + 1)) (by omega) (by omega); omega)
    refine ⟨D2 * (D1 * (2 * (N1 + 1)) + D1) + D1 * (D2 * (2 * (N2 + 1)) + D2), by omega, fun k hk => ?_⟩
    obtain ⟨a1, a2⟩ := e1 k
    obtain ⟨b1, b2⟩ := e2 k
    have a3 := Int.mul_le_mul_of_nonneg_left a2 (show 0 ≤ D2 by omega)
    have b3 := Int.mul_le_mul_of_nonneg_left b2 (show 0 ≤ D1 by omega)
    have a4 : D2 * D1 * 1 ≤ D2 * D1 * k := Int.mul_le_mul_of_nonneg_left (by omega) (Int.mul_nonneg (by omega) (by omega))
    have b5 := Int.mul_nonneg p1 (show (0 : Int) ≤ k by omega)
    have b6 := Int.mul_nonneg p2 (show (0 : Int) ≤ k by omega)
    refine ⟨by grind, by grind, Int.mul_nonneg (by omega) a1, Int.mul_nonneg (by omega) b1⟩
  rcases hz with ⟨hS, hz⟩ | ⟨hS, hz⟩ | ⟨hS, hz⟩
  · refine .inl ⟨hS, core_grows (C := C) hF hx hr hs (fun k hk => ?_) hz⟩
    have := key k
    obtain ⟨c1, c2, c3, c4⟩ := hC k hk
    grind
  · obtain ⟨k0, hlow⟩ := h2.low hD2 hN2
    refine .inr (.inl ⟨hS, core_flat (C := C) (G := 2 * D2) hF hC0 hx hr (by omega) ⟨k0, hlow⟩ (fun k hk => ?_) (fun k hk => ?_) hz⟩)
    · have := key k
      obtain ⟨c1, c2, c3, c4⟩ := hC k hk
      grind
    · have := key k
      obtain ⟨c1, c2, c3, c4⟩ := hC k hk
      grind
  · refine .inr (.inr ⟨hS, (core_less (C := C) hF hx hr hs (fun k hk => ?_) hz).mono ⟨0, fun k _ => ?_⟩⟩)
    · have := key k
      obtain ⟨c1, c2, c3, c4⟩ := hC k hk
      grind
    · show r2 k - (d * k + s1 * r1 k) ≤ -(d * k + s1 * r1 k - r2 k)
      omega
theorem Tri.grows {f : Nat → Int} (h : Grows f) : Tri 1 f := .inl ⟨rfl, h⟩
theorem tri_cmp {A1 s1 N1 D1 A2 s2 N2 D2 : Int} {r1 r2 : Nat → Int} (h1 : Rt s1 N1 D1 r1) (h2 : Rt s2 N2 D2 r2) : Tri (cmpZ A1 s1 N1 D1 A2 s2 N2 D2) (fun k => A1 * k + s1 * r1 k - (A2 * k + s2 * r2 k)) := by
  obtain ⟨d, hd⟩ : ∃ d, d = A1 - A2 := ⟨_, rfl⟩
  obtain rfl : A1 = d + A2 := by omega
  have hone := tri_one (d := d) h1
  have hrg := fun hN => h2.rho.grows h2.d1 hN
  unfold cmpZ
  rw [← hd]
  have hr2 : ∀ k, 0 ≤ r2 k := fun k => (h2.rho k).1
  have hfun : (fun k : Nat => (d + A2) * k + s1 * r1 k - (A2 * k + s2 * r2 k)) = fun k : Nat => (d * k + s1 * r1 k) + -(s2 * r2 k) := by
    funext k; grind
  rw [hfun]
  have hzero : s2 = 0 → ∀ k, s2 * r2 k = 0 := fun e k => by rw [e]; omega
  have hN2 : s2 ≠ 0 → 0 < N2 := fun e => by have := h2.n0; have := h2.z; omega
  rcases hone with ⟨hu, hg⟩ | ⟨hu, hg⟩ | ⟨hu, hg⟩ <;> rw [hu]
  · -- the first side is positive
    rcases h2.sg with e | e | e
    · rw [e, if_pos (by decide), if_pos (by decide)]
      refine Tri.grows (hg.add ⟨0, 0, fun k _ => ?_⟩)
      have := hr2 k
      omega
    · rw [e, if_pos (by decide), if_pos (by decide)]
      refine Tri.grows (hg.add ⟨0, 0, fun k _ => ?_⟩)
      omega
    · rw [e, if_neg (by decide), Int.one_mul]
      refine (tri_two h1 h2.rho (hN2 (by omega)) h2.d1 hg).congr fun k => ?_
      grind
  · rcases h2.sg with e | e | e
    · rw [e, if_pos (by decide), if_pos (by decide)]
      obtain ⟨C, k0, hf⟩ := hg
      refine Tri.grows (((hrg (hN2 (by omega))).add ⟨-C, k0, fun k hk => (hf k hk).1⟩).mono ⟨0, fun k _ => ?_⟩)
      show r2 k + (d * k + s1 * r1 k) ≤ d * k + s1 * r1 k + -(-1 * r2 k)
      omega
    · rw [e, if_neg (by decide), Int.zero_mul]
      refine .inr (.inl ⟨rfl, ?_⟩)
      obtain ⟨C, k0, hf⟩ := hg
      exact ⟨C, k0, fun k hk => by have := hf k hk; dsimp only at this; show -C ≤ d * k + s1 * r1 k + -(0 * r2 k) ∧ d * k + s1 * r1 k + -(0 * r2 k) ≤ C; omega⟩
    · rw [e, if_pos (by decide), if_neg (by decide)]
      obtain ⟨C, k0, hf⟩ := hg
      refine .inr (.inr ⟨rfl, ((hrg (hN2 (by omega))).add (g := fun k => -(d * k + s1 * r1 k)) ⟨-C, k0, fun k hk => by have := hf k hk; dsimp only at this ⊢; omega⟩).mono ⟨0, fun k _ => ?_⟩⟩)
      show r2 k + -(d * k + s1 * r1 k) ≤ -(d * k + s1 * r1 k + -(1 * r2 k))
      omega
  · rcases h2.sg with e | e | e
    · rw [e, if_neg (by decide)]
      have h3 : Grows (fun k => -d * k + -s1 * r1 k) := hg.mono ⟨0, fun k _ => by show -(d * k + s1 * r1 k) ≤ -d * k + -s1 * r1 k; grind⟩
      have h4 := (tri_two h1.neg h2.rho (hN2 (by omega)) h2.d1 h3).neg
      have e1 : -d * -d * (D1 * D2) + N1 * D2 - N2 * D1 = d * d * (D1 * D2) + N1 * D2 - N2 * D1 := by grind
      have e2 : 2 * -s1 * -d * D2 = 2 * s1 * d * D2 := by grind
      rw [e1, e2] at h4
      have e3 : ∀ x : Int, -1 * x = -x := fun x => by omega
      rw [e3]
      refine h4.congr fun k => ?_
      grind
    · rw [e, if_pos (by decide), if_neg (by decide)]
      refine .inr (.inr ⟨rfl, hg.mono ⟨0, fun k _ => ?_⟩⟩)
      show -(d * k + s1 * r1 k) ≤ -(d * k + s1 * r1 k + -(0 * r2 k))
      omega
    · rw [e, if_pos (by decide), if_neg (by decide)]
      refine .inr (.inr ⟨rfl, hg.mono ⟨0, fun k _ => ?_⟩⟩)
      show -(d * k + s1 * r1 k) ≤ -(d * k + s1 * r1 k + -(1 * r2 k))
      have := hr2 k
      omega
section
variable {c c' : Int} {f g : Nat → Int}
theorem Tri.range (h : Tri c f) : c = -1 ∨ c = 0 ∨ c = 1 := by
  rcases h with ⟨h, -⟩ | ⟨h, -⟩ | ⟨h, -⟩ <;> omega
theorem Tri.le (h : Tri c f) (hc : c ≤ 0) : ∃ (C : Int) (k0 : Nat), ∀ k, k0 ≤ k → f k ≤ C := by
  rcases h with ⟨h, g⟩ | ⟨h, g⟩ | ⟨h, g⟩
  · omega
  · obtain ⟨C, k0, g⟩ := g
    exact ⟨C, k0, fun k hk => (g k hk).2⟩
  · obtain ⟨k0, g⟩ := g 0
    exact ⟨0, k0, fun k hk => by have := g k hk; dsimp only at this; omega⟩
theorem Tri.of_le (h : Tri c f) (hb : ∃ (C : Int) (k0 : Nat), ∀ k, k0 ≤ k → f k ≤ C) : c ≤ 0 := by
  rcases h with ⟨h, g⟩ | ⟨h, g⟩ | ⟨h, g⟩
  · exact (g.not_flat hb).elim
  · omega
  · omega
theorem Tri.ge (h : Tri c f) (hc : 0 ≤ c) : ∃ (C : Int) (k0 : Nat), ∀ k, k0 ≤ k → C ≤ f k := by
  obtain ⟨C, k0, g⟩ := h.neg.le (by omega)
  exact ⟨-C, k0, fun k hk => by have := g k hk; omega⟩
theorem Tri.of_ge (h : Tri c f) (hb : ∃ (C : Int) (k0 : Nat), ∀ k, k0 ≤ k → C ≤ f k) : 0 ≤ c := by
  obtain ⟨C, k0, g⟩ := hb
  have := h.neg.of_le ⟨-C, k0, fun k hk => by have := g k hk; show -f k ≤ -C; omega⟩
  omega
theorem Tri.uniq (h : Tri c f) (h' : Tri c' f) : c = c' := by
  have r1 := h.range
  have r2 := h'.range
  have a1 : c ≤ 0 → c' ≤ 0 := fun hc => h'.of_le (h.le hc)
  have a2 : c' ≤ 0 → c ≤ 0 := fun hc => h.of_le (h'.le hc)
  have a3 : 0 ≤ c → 0 ≤ c' := fun hc => h'.of_ge (h.ge hc)
  have a4 : 0 ≤ c' → 0 ≤ c := fun hc => h.of_ge (h'.ge hc)
  omega
theorem Tri.add_le (h : Tri c f) (h' : Tri c' g) {e : Int} (he : Tri e (fun k => f k + g k)) (hc : c ≤ 0) (hc' : c' ≤ 0) : e ≤ 0 ∧ (c < 0 ∨ c' < 0 → e < 0) := by
  have hle : e ≤ 0 := by
    obtain ⟨C, k0, a⟩ := h.le hc
    obtain ⟨C', k1, a'⟩ := h'.le hc'
    exact he.of_le ⟨C + C', max k0 k1, fun k hk => by have := a k (by omega); have := a' k (by omega); omega⟩
  refine ⟨hle, fun hs => ?_⟩
  apply Classical.byContradiction
  intro h0
  obtain ⟨B, k2, b⟩ := he.ge (by omega)
  rcases hs with hs | hs
  · have : 0 ≤ c := by
      obtain ⟨C', k1, a'⟩ := h'.le hc'
      exact h.of_ge ⟨B - C', max k1 k2, fun k hk => by have := b k (by omega); have := a' k (by omega); omega⟩
    omega
  · have : 0 ≤ c' := by
      obtain ⟨C, k1, a⟩ := h.le hc
      exact h'.of_ge ⟨B - C, max k1 k2, fun k hk => by have := b k (by omega); have := a k (by omega); omega⟩
    omega
end
theorem tri_linear (n : Int) : Tri n.sign (fun k => n * k) := by
  have := tri_side (a := n) (b := 0) (c := 0) (t := fun _ => 0) ⟨0, by omega, fun k => by simp⟩ (by omega)
  have e : sideZ n 0 0 = n.sign := by unfold sideZ; simp
  rw [e] at this
  exact this.congr fun k => by omega
theorem cmpZ_order {A1 s1 N1 D1 A2 s2 N2 D2 A3 s3 N3 D3 : Int} {r1 r2 r3 : Nat → Int} (h1 : Rt s1 N1 D1 r1) (h2 : Rt s2 N2 D2 r2) (h3 : Rt s3 N3 D3 r3) :
    cmpZ A1 s1 N1 D1 A2 s2 N2 D2 = -cmpZ A2 s2 N2 D2 A1 s1 N1 D1 ∧ cmpZ A1 s1 N1 D1 A1 s1 N1 D1 = 0 ∧
    (cmpZ A1 s1 N1 D1 A2 s2 N2 D2 = -1 ∨ cmpZ A1 s1 N1 D1 A2 s2 N2 D2 = 0 ∨ cmpZ A1 s1 N1 D1 A2 s2 N2 D2 = 1) ∧
    (cmpZ A1 s1 N1 D1 A2 s2 N2 D2 ≤ 0 → cmpZ A2 s2 N2 D2 A3 s3 N3 D3 ≤ 0 → cmpZ A1 s1 N1 D1 A3 s3 N3 D3 ≤ 0 ∧ (cmpZ A1 s1 N1 D1 A2 s2 N2 D2 < 0 ∨ cmpZ A2 s2 N2 D2 A3 s3 N3 D3 < 0 → cmpZ A1 s1 N1 D1 A3 s3 N3 D3 < 0)) ∧
    (0 ≤ cmpZ A1 s1 N1 D1 A2 s2 N2 D2 → 0 ≤ cmpZ A2 s2 N2 D2 A3 s3 N3 D3 → 0 ≤ cmpZ A1 s1 N1 D1 A3 s3 N3 D3 ∧ (0 < cmpZ A1 s1 N1 D1 A2 s2 N2 D2 ∨ 0 < cmpZ A2 s2 N2 D2 A3 s3 N3 D3 → 0 < cmpZ A1 s1 N1 D1 A3 s3 N3 D3)) := by
  have t12 := tri_cmp (A1 := A1) (A2 := A2) h1 h2
  have t21 := tri_cmp (A1 := A2) (A2 := A1) h2 h1
  have t11 := tri_cmp (A1 := A1) (A2 := A1) h1 h1
  have t23 := tri_cmp (A1 := A2) (A2 := A3) h2 h3
  have t13 := tri_cmp (A1 := A1) (A2 := A3) h1 h3
  have t13' : Tri (cmpZ A1 s1 N1 D1 A3 s3 N3 D3) (fun k => (A1 * k + s1 * r1 k - (A2 * k + s2 * r2 k)) + (A2 * k + s2 * r2 k - (A3 * k + s3 * r3 k))) := t13.congr fun k => by omega
  refine ⟨t12.uniq (t21.neg.congr fun k => by omega), ?_, t12.range, t12.add_le t23 t13', fun a b => ?_⟩
  · refine t11.uniq (.inr (.inl ⟨rfl, 0, 0, fun k _ => ?_⟩))
    show -0 ≤ A1 * k + s1 * r1 k - (A1 * k + s1 * r1 k) ∧ A1 * k + s1 * r1 k - (A1 * k + s1 * r1 k) ≤ 0
    omega
  · have := t12.neg.add_le t23.neg (t13'.neg.congr fun k => by omega) (by omega) (by omega)
    omega
theorem cmpZ_plus {A s N D n : Int} {r : Nat → Int} (h : Rt s N D r) : cmpZ A s N D (A + n) s N D = (-n).sign :=
  (tri_cmp (A1 := A) (A2 := A + n) h h).uniq ((tri_linear (-n)).congr fun k => by grind)
theorem cmpZ_shift (A1 s1 N1 D1 A2 s2 N2 D2 n : Int) : cmpZ (A1 + n) s1 N1 D1 (A2 + n) s2 N2 D2 = cmpZ A1 s1 N1 D1 A2 s2 N2 D2 := by
  unfold cmpZ
  have : A1 + n - (A2 + n) = A1 - A2 := by omega
  rw [this]
end RM
end Go.Proofs.YtegjcikofmphjaaGreatDoor

