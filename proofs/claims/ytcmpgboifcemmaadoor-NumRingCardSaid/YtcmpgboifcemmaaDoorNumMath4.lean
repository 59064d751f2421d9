/- Layer 1: mathematics of the greatest common divisor and of texts: rows of 65 digits. -/
import Derived.Test.YtcmpgboifcemmaaDoorNumMath3
set_option linter.all false
namespace Go.Proofs.YtcmpgboifcemmaaDoor

theorem row_ext : ∀ {a b : List Nat}, a.length = b.length → Digits a → Digits b → val a = val b → a = b
  | [], [], _, _, _, _ => rfl
  | [], _ :: _, h, _, _, _ => by simp at h
  | _ :: _, [], h, _, _, _ => by simp at h
  | d :: a, e :: b, h, ha, hb, hv => by
    have h1 := (Digits.cons.1 ha).1
    have h2 := (Digits.cons.1 hb).1
    rw [val_cons, val_cons] at hv
    have e1 : d = e := by
      have := congrArg (· % B32) hv
      simpa [Nat.add_mul_mod_self_left, Nat.mod_eq_of_lt h1, Nat.mod_eq_of_lt h2] using this
    subst e1
    have e2 : val a = val b := Nat.eq_of_mul_eq_mul_left B32_pos (Nat.add_left_cancel hv)
    rw [row_ext (by simpa using h) (Digits.cons.1 ha).2 (Digits.cons.1 hb).2 e2]

/-- The row of 65 digits of n. -/
def rowOf (n : Nat) : List Nat := digs n ++ List.replicate (65 - (digs n).length) 0
theorem rowOf_val (n : Nat) : val (rowOf n) = n := by rw [rowOf, val_append, val_zeros, val_digs]; simp
theorem rowOf_digits (n : Nat) : Digits (rowOf n) := (digs_digits n).append fun d hd => by rw [List.eq_of_mem_replicate hd]; exact B32_pos
theorem rowOf_length {n : Nat} (h : n < B32 ^ 65) : (rowOf n).length = 65 := by
  have := digs_len.2 h
  rw [rowOf]; simp; omega
theorem rowOf_eq {q : List Nat} (h : q.length = 65) (hd : Digits q) : q = rowOf (val q) :=
  row_ext (by rw [rowOf_length (by rw [← h]; exact val_lt hd), h]) hd (rowOf_digits _) (rowOf_val _).symm
theorem rowOf_lt {q : List Nat} (h : q.length = 65) (hd : Digits q) : val q < B32 ^ 65 := by rw [← h]; exact val_lt hd

theorem zero_of_val {ds : List Nat} (h : val ds = 0) (j : Nat) : ds[j]?.getD 0 = 0 := by
  apply Classical.byContradiction
  intro hne
  have hl : j < ds.length := by
    apply Classical.byContradiction
    intro hn
    rw [List.getElem?_eq_none (by omega)] at hne
    exact hne rfl
  have := val_ge_digit hl hne
  have := Nat.pow_pos (n := j) B32_pos
  omega

theorem cd_next {R : List Nat} {n : Nat} (hR : R.length = 65) (hn : n ≤ 65) (hv : val R < B32 ^ n) :
    (strip (R.take n)).length ≤ n ∧ (∀ j, (strip (R.take n)).length ≤ j → R[j]?.getD 0 = 0) ∧ (0 < (strip (R.take n)).length → R[(strip (R.take n)).length - 1]?.getD 0 ≠ 0) := by
  have h1 := strip_length_le (R.take n)
  have hlt : (R.take n).length = n := by simp; omega
  have h2 := strip_take (R.take n)
  have hvn : val (R.take n) = val R := val_take_of_zero fun j hj => digit_zero_above (s := 0) (k := n) (by simpa using hv) (by omega)
  have h3 : val (strip (R.take n)) = val R := by rw [val_strip, hvn]
  generalize hs : strip (R.take n) = s at *
  rw [hlt] at h1
  rw [List.take_take, Nat.min_eq_left h1] at h2
  refine ⟨h1, fun j hj => ?_, fun h0 => ?_⟩
  · have h4 := val_take_drop R (s := s.length) (by omega)
    rw [h2, h3] at h4
    have h5 : val (R.drop s.length) = 0 := by
      have := Nat.pow_pos (n := s.length) B32_pos
      rcases Nat.eq_zero_or_pos (val (R.drop s.length)) with e | e
      · exact e
      · have := Nat.mul_pos this e
        omega
    have := zero_of_val h5 (j - s.length)
    rwa [List.getElem?_drop, Nat.add_sub_cancel' hj] at this
  · have h4 : NoZero s := by rw [← hs]; exact strip_strip _
    have h5 := (noZero_last h0).1 h4
    rw [← h2] at h5
    have e : (List.take s.length R).length = s.length := by simp; omega
    rw [e, List.getElem?_take_of_lt (by omega)] at h5
    exact h5

theorem digits_getD_take {R : List Nat} {m : Nat} (hz : ∀ j, m ≤ j → R[j]?.getD 0 = 0) : val (R.take m) = val R := val_take_of_zero hz
theorem lt_of_zero {R : List Nat} {m : Nat} (hd : Digits R) (hm : m ≤ R.length) (hz : ∀ j, m ≤ j → R[j]?.getD 0 = 0) : val R < B32 ^ m := by
  rw [← val_take_of_zero hz]
  have := val_lt (hd.take m)
  rwa [List.length_take, Nat.min_eq_left hm] at this
theorem val_pos_of_digit {R : List Nat} {j : Nat} (h : R[j]?.getD 0 ≠ 0) : 0 < val R := by
  rcases Nat.eq_zero_or_pos (val R) with e | e
  · exact absurd (zero_of_val e j) h
  · exact e
theorem split2_digits {n : Nat} (h : n < 18446744073709551616) : Digits (n % B32 :: n / B32 :: List.replicate 63 0) := by
  refine Digits.cons.2 ⟨Nat.mod_lt _ B32_pos, Digits.cons.2 ⟨?_, fun d hd => by rw [List.eq_of_mem_replicate hd]; exact B32_pos⟩⟩
  rw [Nat.div_lt_iff_lt_mul B32_pos]; exact h
theorem split2_value (n : Nat) : val (n % B32 :: n / B32 :: List.replicate 63 0) = n := by
  rw [val_cons, val_cons, val_zeros, Nat.mul_zero, Nat.add_zero]; exact Nat.mod_add_div n B32
theorem gcd_le_left' {x y : Nat} (h : 0 < y) : Nat.gcd x y ≤ y := Nat.le_of_dvd h (Nat.gcd_dvd_right x y)

end Go.Proofs.YtcmpgboifcemmaaDoor
