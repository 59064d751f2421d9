/- Layer 1: the mathematics of long division, digit by digit. -/
import Derived.Test.YtcmpgboifcemmaaDoorNumMath2
import Derived.Test.YtcmpgboifcemmaaDoorNum18
import Derived.Test.YtcmpgboifcemmaaDoorNum16
import Derived.Lib.EndianBits
set_option linter.all false
namespace Go.Proofs.YtcmpgboifcemmaaDoor
open Go Go.RowKit

theorem digit_zero_above {R : List Nat} {s k : Nat} (h : val (R.drop s) < B32 ^ k) {j : Nat} (hj : s + k ≤ j) : R[j]?.getD 0 = 0 := by
  apply Classical.byContradiction
  intro hne
  have hl : j < R.length := by
    apply Classical.byContradiction
    intro hn
    exact hne (by simp [List.getElem?_eq_none (by omega : R.length ≤ j)])
  have h1 := val_take_drop (R.drop s) (s := j - s) (by simp; omega)
  rw [List.drop_drop, show s + (j - s) = j by omega, val_drop (ds := R) (s := j) hl] at h1
  have h2 : B32 ^ k ≤ B32 ^ (j - s) := Nat.pow_le_pow_right B32_pos (by omega)
  have h3 : B32 ^ (j - s) * 1 ≤ B32 ^ (j - s) * (R[j]?.getD 0 + B32 * val (R.drop (j + 1))) := Nat.mul_le_mul_left _ (by omega)
  omega

/-- One digit of the quotient. -/
theorem div_step {R Z Q : List Nat} {o D : Nat} {v0 : Nat} (hR : R.length = 65) (hZ : Z.length = 65) (hQ : Q.length = 65) (ho : o < 65) (hsame : ∀ j, j < o → Z[j]? = R[j]?) (hmod : val (Z.drop o) = val (R.drop o) % D)
    (hinv : val R + D * B32 ^ (o + 1) * val (Q.drop (o + 1)) = v0) : val Z + D * B32 ^ o * val ((Q.set o (val (R.drop o) / D)).drop o) = v0 := by
  have h1 := val_take_drop R (s := o) (by omega)
  have h2 := val_take_drop Z (s := o) (by omega)
  have h3 : Z.take o = R.take o := take_congr (hZ.trans hR.symm) hsame
  have h4 : val ((Q.set o (val (R.drop o) / D)).drop o) = val (R.drop o) / D + B32 * val (Q.drop (o + 1)) := by
    rw [val_drop (ds := Q.set o (val (R.drop o) / D)) (s := o) (by simp; omega)]
    simp [hQ, ho, List.drop_set]
  have h5 := Nat.mod_add_div (val (R.drop o)) D
  rw [h4, ← hinv, h1, h2, h3, hmod, Nat.pow_succ]
  generalize val (R.drop o) = x at *
  generalize x / D = q at *
  generalize x % D = r at *
  generalize val (Q.drop (o + 1)) = y at *
  generalize B32 ^ o = P at *
  have e : D * (P * B32) * y = D * P * (B32 * y) := by simp only [Nat.mul_assoc]
  rw [e, Nat.mul_add (D * P), show D * P * q = P * (D * q) by rw [Nat.mul_comm D P, Nat.mul_assoc], ← h5, Nat.mul_add P]
  omega

theorem div_bound {R : List Nat} {o D : Nat} (hd : Digits R) (hR : R.length = 65) (ho : o < 65) (h : val (R.drop (o + 1)) < D) : val (R.drop o) < B32 * D := by
  rw [val_drop (ds := R) (s := o) (by omega)]
  have h1 := hd.getD o
  have h2 : B32 * val (R.drop (o + 1)) + B32 ≤ B32 * D := by
    rw [← Nat.mul_succ]; exact Nat.mul_le_mul_left _ h
  omega

/-- Where division starts. -/
theorem div_start {X D n m1 pl b top : Nat} {R : List Nat} (hR : R.length = 65) (hpl : pl = n - m1) (hpl65 : pl ≤ 65) (hX : X < B32 ^ n) (hv : val R = X * 2 ^ b) (htop : B32 ^ m1 ≤ top) (hD : D = top * 2 ^ b) : val (R.drop pl) < D := by
  have h1 := val_take_drop R (s := pl) (by omega)
  have h2 : 2 ^ b > 0 := Nat.two_pow_pos b
  have h3 : val R < B32 ^ n * 2 ^ b := by rw [hv]; exact Nat.mul_lt_mul_of_pos_right hX h2
  have h4 : B32 ^ n ≤ B32 ^ pl * B32 ^ m1 := by rw [← Nat.pow_add]; exact Nat.pow_le_pow_right B32_pos (by omega)
  apply Nat.lt_of_mul_lt_mul_left (a := B32 ^ pl)
  calc B32 ^ pl * val (R.drop pl) ≤ val R := by omega
    _ < B32 ^ n * 2 ^ b := h3
    _ ≤ B32 ^ pl * B32 ^ m1 * 2 ^ b := Nat.mul_le_mul_right _ h4
    _ = B32 ^ pl * (B32 ^ m1 * 2 ^ b) := Nat.mul_assoc _ _ _
    _ ≤ B32 ^ pl * D := by rw [hD]; exact Nat.mul_le_mul_left _ (Nat.mul_le_mul_right _ htop)

/-- What division comes to, with both numbers moved up by b. -/
theorem div_done {x y q r b : Nat} (h : r + y * 2 ^ b * q = x * 2 ^ b) (hr : r < y * 2 ^ b) : q = x / y ∧ r = x % y * 2 ^ b := by
  have hb : 0 < 2 ^ b := Nat.two_pow_pos b
  have hy : 0 < y := Nat.pos_of_ne_zero fun e => by subst e; omega
  have e1 : x * 2 ^ b / (y * 2 ^ b) = q := by
    rw [← h, Nat.add_mul_div_left _ _ (by omega : 0 < y * 2 ^ b), Nat.div_eq_of_lt hr, Nat.zero_add]
  have e2 : x * 2 ^ b % (y * 2 ^ b) = r := by
    rw [← h, Nat.add_mul_mod_self_left, Nat.mod_eq_of_lt hr]
  rw [Nat.mul_div_mul_right _ _ hb] at e1
  rw [Nat.mul_mod_mul_right] at e2
  exact ⟨e1.symm, e2.symm⟩

/-- One digit of moving back. -/
theorem back_step {d t b B v : Nat} (hb : b ≤ 31) (hB : B = B32) : d + B * (2 ^ b * v + t) = 2 ^ b * (d / 2 ^ b + t * 2 ^ (32 - b) + B * v) + d % 2 ^ b := by
  have h := Nat.mod_add_div d (2 ^ b)
  have hp : 2 ^ b * 2 ^ (32 - b) = B := by rw [hB]; exact pow_split hb
  have e : 2 ^ b * (t * 2 ^ (32 - b)) = B * t := by rw [← hp]; simp only [Nat.mul_comm, Nat.mul_left_comm, Nat.mul_assoc]
  rw [Nat.mul_add B, Nat.mul_add (2 ^ b), Nat.mul_add (2 ^ b), e, Nat.mul_left_comm (2 ^ b) B v]
  omega

theorem back_val {R V : List Nat} {s b t d : Nat} (hb : b ≤ 31) (hV : V.length = 65) (hR : R.length = 65) (hs : s < 65) (hsame : V[s]? = R[s]?) (hd : d = V[s]?.getD 0) (h : val (R.drop (s + 1)) = 2 ^ b * val (V.drop (s + 1)) + t) :
    val (R.drop s) = 2 ^ b * val ((V.set s (d / 2 ^ b + t * 2 ^ (32 - b))).drop s) + d % 2 ^ b := by
  have h4 : val ((V.set s (d / 2 ^ b + t * 2 ^ (32 - b))).drop s) = d / 2 ^ b + t * 2 ^ (32 - b) + B32 * val (V.drop (s + 1)) := by
    rw [val_drop (ds := V.set s _) (s := s) (by simp; omega)]
    simp [hV, hs, List.drop_set]
  rw [h4, val_drop (ds := R) (s := s) (by omega), ← hsame, ← hd, h]
  exact back_step hb rfl

theorem drop_zero_of_lt {R : List Nat} {k : Nat} (h : val R < B32 ^ k) : val (R.drop k) = 0 := by
  by_cases hk : k ≤ R.length
  · have h1 := val_take_drop R hk
    apply Classical.byContradiction
    intro hne
    have h2 : B32 ^ k * 1 ≤ B32 ^ k * val (R.drop k) := Nat.mul_le_mul_left _ (by omega)
    omega
  · rw [List.drop_eq_nil_of_le (by omega)]; rfl

theorem val_ge_digit {R : List Nat} {j : Nat} (hl : j < R.length) (hne : R[j]?.getD 0 ≠ 0) : B32 ^ j ≤ val R := by
  apply Classical.byContradiction
  intro hn
  have h1 := drop_zero_of_lt (R := R) (k := j) (by omega)
  rw [val_drop hl] at h1
  omega

/-- The divisor, moved up. -/
theorem shY_lt {b m1 : Nat} {ys : List Nat} (hb : b ≤ 31) (hd : Digits ys) (hl : ys.length = m1 + 1) (hm : ys[m1]?.getD 0 * 2 ^ b < B32) : val ys * 2 ^ b < B32 ^ (m1 + 1) := by
  have h1 := val_take_drop ys (s := m1) (by omega)
  have h2 := val_lt (hd.take m1)
  rw [List.length_take, show min m1 ys.length = m1 by omega] at h2
  rw [val_drop (by omega), List.drop_eq_nil_of_le (by omega : ys.length ≤ m1 + 1), val_nil, Nat.mul_zero, Nat.add_zero] at h1
  have hp := pow_split hb
  have h3 : ys[m1]?.getD 0 < 2 ^ (32 - b) := by
    rw [← hp, Nat.mul_comm] at hm
    exact Nat.lt_of_mul_lt_mul_left hm
  have h4 : val ys < B32 ^ m1 * (ys[m1]?.getD 0 + 1) := by rw [Nat.mul_add, Nat.mul_one]; omega
  calc val ys * 2 ^ b < B32 ^ m1 * (ys[m1]?.getD 0 + 1) * 2 ^ b := Nat.mul_lt_mul_of_pos_right h4 (Nat.two_pow_pos b)
    _ ≤ B32 ^ m1 * 2 ^ (32 - b) * 2 ^ b := Nat.mul_le_mul_right _ (Nat.mul_le_mul_left _ h3)
    _ = B32 ^ (m1 + 1) := by rw [Nat.mul_assoc, Nat.mul_comm (2 ^ (32 - b)), hp, Nat.pow_succ]

theorem top_ne_zero {Y : List Nat} {m1 : Nat} (hd : Digits Y) (hlt : val Y < B32 ^ (m1 + 1)) (hge : B32 ^ m1 ≤ val Y) (hl : m1 ≤ Y.length) : Y[m1]?.getD 0 ≠ 0 := fun h0 => by
  have h1 : val (Y.take m1) = val Y := val_take_of_zero fun j hj => by
    by_cases e : j = m1
    · subst e; exact h0
    · exact digit_zero_above (s := 0) (k := m1 + 1) (by simpa using hlt) (by omega)
  have h2 := val_lt (hd.take m1)
  rw [List.length_take, show min m1 Y.length = m1 by omega] at h2
  omega

theorem back_done {b V t m : Nat} (h : m * 2 ^ b = 2 ^ b * V + t) (ht : t < 2 ^ b) : V = m := by
  have h1 := congrArg (· / 2 ^ b) h
  simp only [Nat.mul_div_cancel _ (Nat.two_pow_pos b), Nat.mul_add_div (Nat.two_pow_pos b), Nat.div_eq_of_lt ht, Nat.add_zero] at h1
  exact h1.symm

theorem back_digit {b d t : Nat} (hb : b ≤ 31) (hd : d < B32) (ht : t < 2 ^ b) : d / 2 ^ b + t * 2 ^ (32 - b) < B32 := by
  have h := pow_split hb
  have h1 : d / 2 ^ b < 2 ^ (32 - b) := by rw [Nat.div_lt_iff_lt_mul (Nat.two_pow_pos b), Nat.mul_comm, h]; exact hd
  calc d / 2 ^ b + t * 2 ^ (32 - b) < 2 ^ (32 - b) + t * 2 ^ (32 - b) := by omega
    _ = (t + 1) * 2 ^ (32 - b) := by rw [Nat.add_mul, Nat.one_mul, Nat.add_comm]
    _ ≤ 2 ^ b * 2 ^ (32 - b) := Nat.mul_le_mul_right _ ht
    _ = B32 := h

theorem back_or {b d t : Nat} (hb : b ≤ 31) (hd : d < B32) (ht : t < 2 ^ b) : bits .or .u32 ((d : Int) / 2 ^ b) ((t * 2 ^ (32 - b) : Nat) : Int) = ((d / 2 ^ b + t * 2 ^ (32 - b) : Nat) : Int) := by
  have h := pow_split hb
  have hnd := back_digit hb hd ht
  have h1 : d / 2 ^ b < 2 ^ (32 - b) := by rw [Nat.div_lt_iff_lt_mul (Nat.two_pow_pos b), Nat.mul_comm, h]; exact hd
  have e : (d : Int) / 2 ^ b = ((d / 2 ^ b : Nat) : Int) := by
    rw [show (2 : Int) ^ b = ((2 ^ b : Nat) : Int) by simp]
    exact (Int.natCast_ediv _ _).symm
  have hm : t * 2 ^ (32 - b) % 2 ^ (32 - b) = 0 := Nat.mul_mod_left _ _
  rw [e]
  generalize d / 2 ^ b = y at *
  generalize t * 2 ^ (32 - b) = x at *
  unfold B32 at hnd
  rw [bits_join_low .u32 32 (by decide) u32_keep (32 - b) _ _ (by omega) (by exact_mod_cast h1) (by omega) (by omega) (by exact_mod_cast hm) (by omega)]
  omega

theorem back_carry {b : Nat} (hb : b ≤ 31) (d : Nat) : (d : Int) * 2 ^ (32 - b) % 4294967296 = ((d % 2 ^ b * 2 ^ (32 - b) : Nat) : Int) := by
  have h := pow_split hb
  unfold B32 at h
  have e : d * 2 ^ (32 - b) % 4294967296 = d % 2 ^ b * 2 ^ (32 - b) := by rw [← h, Nat.mul_mod_mul_right]
  rw [show (2 : Int) ^ (32 - b) = ((2 ^ (32 - b) : Nat) : Int) by simp, ← Int.natCast_mul, ← e]
  omega

end Go.Proofs.YtcmpgboifcemmaaDoor
