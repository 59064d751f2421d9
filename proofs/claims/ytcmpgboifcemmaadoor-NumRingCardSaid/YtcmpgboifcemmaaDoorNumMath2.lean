/- Plain mathematics of layer 1: what the rows of sums, differences and products stand for. -/
import Derived.Test.YtcmpgboifcemmaaDoorNum7
import Derived.Test.YtcmpgboifcemmaaDoorNum5
import Derived.Test.YtcmpgboifcemmaaDoorNum6
set_option linter.all false
namespace Go.Proofs.YtcmpgboifcemmaaDoor

/-! ### The digits of a number -/
def digsN : Nat → Nat → List Nat
  | 0, _ => []
  | f + 1, n => n % B32 :: digsN f (n / B32)
/-- The digits of n, without zeros at the end. -/
def digs (n : Nat) : List Nat := strip (digsN n n)

theorem digsN_digits (f n : Nat) : Digits (digsN f n) := by
  induction f generalizing n with
  | zero => exact Digits.nil
  | succ f ih => exact Digits.cons.2 ⟨Nat.mod_lt _ B32_pos, ih _⟩
theorem digsN_val (f n : Nat) (h : n < B32 ^ f) : val (digsN f n) = n := by
  induction f generalizing n with
  | zero => simp at h; subst h; rfl
  | succ f ih =>
    rw [digsN, val_cons, ih _ (by rw [Nat.pow_succ, Nat.mul_comm] at h; exact Nat.div_lt_of_lt_mul h)]
    exact Nat.mod_add_div n B32
theorem lt_pow_self (n : Nat) : n < B32 ^ n := Nat.lt_pow_self (by decide)
theorem norm_digs (n : Nat) : Norm (digs n) := norm_strip (digsN_digits n n)
theorem val_digs (n : Nat) : val (digs n) = n := by rw [digs, val_strip, digsN_val _ _ (lt_pow_self n)]
theorem digs_val {ds : List Nat} (h : Norm ds) : digs (val ds) = ds := norm_ext (norm_digs _) h (val_digs _)
theorem strip_digs {ds : List Nat} (h : Digits ds) : strip ds = digs (val ds) := norm_ext (norm_strip h) (norm_digs _) (by rw [val_strip, val_digs])
theorem digs_zero : digs 0 = [] := rfl
theorem digs_nil_iff {n : Nat} : digs n = [] ↔ n = 0 := ⟨fun h => by have := val_digs n; rw [h] at this; exact this.symm, fun h => by subst h; rfl⟩
theorem digs_len {n k : Nat} : (digs n).length ≤ k ↔ n < B32 ^ k := by
  constructor
  · intro h
    have := val_lt (norm_digs n).1
    rw [val_digs] at this
    exact Nat.lt_of_lt_of_le this (Nat.pow_le_pow_right B32_pos h)
  · intro h
    apply Nat.le_of_not_lt
    intro hlt
    have h1 := val_ge_of_noZero (norm_digs n).2 (by intro e; rw [e] at hlt; simp at hlt)
    rw [val_digs] at h1
    have := Nat.pow_le_pow_right B32_pos (show k ≤ (digs n).length - 1 by omega)
    omega
theorem digs_digits (n : Nat) : Digits (digs n) := (norm_digs n).1

/-! ### Places in a list -/
theorem getD_of_ge {ds : List Nat} {k : Nat} (h : ds.length ≤ k) : ds[k]?.getD 0 = 0 := by rw [List.getElem?_eq_none h]; rfl
theorem val_snoc (a : List Nat) (d : Nat) : val (a ++ [d]) = val a + B32 ^ a.length * d := by rw [val_append]; simp [val]
theorem val_take_succ (ds : List Nat) (k : Nat) : val (ds.take (k + 1)) = val (ds.take k) + B32 ^ k * ds[k]?.getD 0 := by
  by_cases h : k < ds.length
  · rw [List.take_succ_eq_append_getElem h, val_snoc]
    simp [h, Nat.le_of_lt h]
  · rw [List.take_of_length_le (by omega), List.take_of_length_le (by omega), getD_of_ge (by omega)]; simp
theorem val_take_all {ds : List Nat} {k : Nat} (h : ds.length ≤ k) : val (ds.take k) = val ds := by rw [List.take_of_length_le h]
theorem take_set_succ {l : List Nat} {k d : Nat} (h : k < l.length) : (l.set k d).take (k + 1) = l.take k ++ [d] := by
  rw [List.take_succ_eq_append_getElem (by simpa using h)]
  simp [List.take_set]
  rw [List.set_eq_of_length_le (by simp; omega)]
theorem take_set_same {l : List Nat} {k d : Nat} : (l.set k d).take k = l.take k := by
  rw [List.take_set, List.set_eq_of_length_le (by simp; omega)]
theorem val_set {l : List Nat} {j : Nat} (d : Nat) (h : j < l.length) : val (l.set j d) + B32 ^ j * l[j]?.getD 0 = val l + B32 ^ j * d := by
  induction l generalizing j with
  | nil => simp at h
  | cons x l ih =>
    cases j with
    | zero => simp [val_cons]; omega
    | succ j =>
      have := ih (j := j) (by simpa using h)
      simp only [List.set_cons_succ, val_cons, List.getElem?_cons_succ, Nat.pow_succ]
      have h2 := congrArg (B32 * ·) this
      simp only [Nat.mul_add] at h2
      rw [Nat.mul_comm (B32 ^ j) B32, Nat.mul_assoc, Nat.mul_assoc]
      omega

/-! ### Sums -/
theorem add_step (x y c : Nat) : addLo x y c + B32 * addHi x y c = x + y + c := Nat.mod_add_div _ _
theorem rowTo_take (lo hi : Nat → Nat → Nat → Nat) (xs ys : List Nat) (k : Nat) (h : k < 65) : (rowTo lo hi xs ys (k + 1)).take (k + 1) = (rowTo lo hi xs ys k).take k ++ [digitAt lo hi xs ys k] :=
  take_set_succ (by rw [rowTo_length]; exact h)
theorem sum_inv (xs ys : List Nat) (k : Nat) (h : k ≤ 64) : val ((rowTo addLo addHi xs ys k).take k) + B32 ^ k * carryTo addHi xs ys k = val (xs.take k) + val (ys.take k) := by
  induction k with
  | zero => simp [val, carryTo]
  | succ k ih =>
    have ih := ih (by omega)
    rw [rowTo_take _ _ _ _ _ (by omega), val_snoc, val_take_succ, val_take_succ]
    have hl : ((rowTo addLo addHi xs ys k).take k).length = k := by rw [List.length_take, rowTo_length]; omega
    rw [hl]
    have hs := add_step (xs[k]?.getD 0) (ys[k]?.getD 0) (carryTo addHi xs ys k)
    have h2 := congrArg (B32 ^ k * ·) hs
    simp only [Nat.mul_add] at h2
    rw [← Nat.mul_assoc] at h2
    show _ + B32 ^ k * addLo (xs[k]?.getD 0) (ys[k]?.getD 0) (carryTo addHi xs ys k) + B32 ^ (k + 1) * addHi (xs[k]?.getD 0) (ys[k]?.getD 0) (carryTo addHi xs ys k) = _
    rw [Nat.pow_succ]
    omega
theorem sum_comb (xs ys : List Nat) (hl : ys.length ≤ xs.length) (h : xs.length ≤ 64) : val ((combRow addLo addHi xs ys).take (xs.length + 1)) = val xs + val ys := by
  have e : (combRow addLo addHi xs ys).take (xs.length + 1) = (rowTo addLo addHi xs ys xs.length).take xs.length ++ [carryTo addHi xs ys xs.length] := take_set_succ (by rw [rowTo_length]; omega)
  rw [e, val_snoc, List.length_take, rowTo_length, show min xs.length 65 = xs.length by omega, sum_inv xs ys _ h, val_take_all (Nat.le_refl _), val_take_all hl]
theorem sum_val (xs ys : List Nat) (hx : xs.length ≤ 64) (hy : ys.length ≤ 64) : val ((sumRow xs ys).take (max xs.length ys.length + 1)) = val xs + val ys := by
  unfold sumRow
  split
  · rename_i h
    rw [show max xs.length ys.length = ys.length by omega, sum_comb ys xs (by omega) hy, Nat.add_comm]
  · rename_i h
    rw [show max xs.length ys.length = xs.length by omega, sum_comb xs ys (by omega) hx]
theorem carry_le {xs ys : List Nat} (hx : Digits xs) (hy : Digits ys) (k : Nat) : carryTo addHi xs ys k ≤ 1 := by
  induction k with
  | zero => simp [carryTo]
  | succ k ih =>
    have h1 := hx.getD k
    have h2 := hy.getD k
    show addHi _ _ _ ≤ 1
    unfold addHi B32 at *
    omega
theorem row_digits {lo hi : Nat → Nat → Nat → Nat} (hlo : ∀ x y c, lo x y c < B32) (xs ys : List Nat) (k : Nat) : Digits (rowTo lo hi xs ys k) := by
  induction k with
  | zero => exact digits_replicate _
  | succ k ih => exact ih.set _ (hlo _ _ _)
theorem addLo_lt (x y c : Nat) : addLo x y c < B32 := Nat.mod_lt _ B32_pos
theorem subLo_lt (x y c : Nat) : subLo x y c < B32 := Nat.mod_lt _ B32_pos
theorem sum_digits {xs ys : List Nat} (hx : Digits xs) (hy : Digits ys) : Digits (sumRow xs ys) := by
  unfold sumRow
  split
  · exact (row_digits addLo_lt _ _ _).set _ (Nat.lt_of_le_of_lt (carry_le hy hx _) (by decide))
  · exact (row_digits addLo_lt _ _ _).set _ (Nat.lt_of_le_of_lt (carry_le hx hy _) (by decide))

/-! ### Differences -/
theorem sub_step {x y c : Nat} (hx : x < B32) (hy : y < B32) (hc : c ≤ 1) : subLo x y c + y + c = x + B32 * subHi x y c := by
  unfold subLo subHi B32 at *
  split <;> omega
theorem borrow_le (xs ys : List Nat) (k : Nat) : carryTo subHi xs ys k ≤ 1 := by
  cases k with
  | zero => simp [carryTo]
  | succ k => show subHi _ _ _ ≤ 1; unfold subHi; split <;> omega
theorem dif_inv {xs ys : List Nat} (hx : Digits xs) (hy : Digits ys) (k : Nat) (h : k ≤ 64) : val ((rowTo subLo subHi xs ys k).take k) + val (ys.take k) = val (xs.take k) + B32 ^ k * carryTo subHi xs ys k := by
  induction k with
  | zero => simp [val, carryTo]
  | succ k ih =>
    have ih := ih (by omega)
    rw [rowTo_take _ _ _ _ _ (by omega), val_snoc, val_take_succ, val_take_succ]
    have hl : ((rowTo subLo subHi xs ys k).take k).length = k := by rw [List.length_take, rowTo_length]; omega
    rw [hl]
    have hs := sub_step (hx.getD k) (hy.getD k) (borrow_le xs ys k)
    have h2 := congrArg (B32 ^ k * ·) hs
    simp only [Nat.mul_add] at h2
    rw [← Nat.mul_assoc] at h2
    show _ + B32 ^ k * subLo (xs[k]?.getD 0) (ys[k]?.getD 0) (carryTo subHi xs ys k) + (_ + _) = _ + _ + B32 ^ (k + 1) * subHi (xs[k]?.getD 0) (ys[k]?.getD 0) (carryTo subHi xs ys k)
    rw [Nat.pow_succ]
    omega
theorem dif_val {xs ys : List Nat} (hx : Digits xs) (hy : Digits ys) (hl : ys.length ≤ xs.length) (h : xs.length ≤ 64) (hle : val ys ≤ val xs) : val ((combRow subLo subHi xs ys).take xs.length) = val xs - val ys := by
  have e : (combRow subLo subHi xs ys).take xs.length = (rowTo subLo subHi xs ys xs.length).take xs.length := take_set_same
  have hi := dif_inv hx hy xs.length h
  rw [val_take_all hl, val_take_all (Nat.le_refl _)] at hi
  have hd : Digits ((rowTo subLo subHi xs ys xs.length).take xs.length) := (row_digits subLo_lt _ _ _).take _
  have hlt := val_lt hd
  rw [List.length_take, rowTo_length, show min xs.length 65 = xs.length by omega] at hlt
  have hb : carryTo subHi xs ys xs.length = 0 := by
    have h1 := borrow_le xs ys xs.length
    rcases Nat.lt_or_ge (carryTo subHi xs ys xs.length) 1 with h2 | h2
    · omega
    · have : carryTo subHi xs ys xs.length = 1 := by omega
      rw [this, Nat.mul_one] at hi
      omega
  rw [hb, Nat.mul_zero] at hi
  rw [e]; omega
theorem dif_digits (xs ys : List Nat) : Digits (combRow subLo subHi xs ys) := (row_digits subLo_lt _ _ _).set _ (Nat.lt_of_le_of_lt (borrow_le xs ys _) (by decide))
theorem len_le_of_val {xs ys : List Nat} (hx : Norm xs) (hy : Norm ys) (h : val ys ≤ val xs) : ys.length ≤ xs.length := by
  rw [← digs_val hx, ← digs_val hy, digs_len]
  have := val_lt hx.1
  rw [← digs_val hx, val_digs] at this
  omega

/-! ### Products -/
theorem lineTo_get {p i : Nat} {ys row : List Nat} (k j : Nat) (hj : i + k ≤ j) : (lineTo p i ys row k).2[j]? = row[j]? := by
  induction k with
  | zero => rfl
  | succ k ih =>
    show ((lineTo p i ys row k).2.set (i + k) _)[j]? = _
    rw [List.getElem?_set_ne (by omega), ih (by omega)]
theorem lineTo_val {p i : Nat} {ys row : List Nat} (k : Nat) (hk : i + k ≤ row.length) : val (lineTo p i ys row k).2 + B32 ^ (i + k) * (lineTo p i ys row k).1 = val row + B32 ^ i * (p * val (ys.take k)) := by
  induction k with
  | zero => simp [lineTo, val]
  | succ k ih =>
    have ih := ih (by omega)
    have hl : i + k < (lineTo p i ys row k).2.length := by rw [lineTo_length]; omega
    have hset := val_set (((lineTo p i ys row k).1 + (p * ys[k]?.getD 0 + (lineTo p i ys row k).2[i + k]?.getD 0)) % B32) hl
    have hdm := Nat.mod_add_div ((lineTo p i ys row k).1 + (p * ys[k]?.getD 0 + (lineTo p i ys row k).2[i + k]?.getD 0)) B32
    show val ((lineTo p i ys row k).2.set (i + k) _) + B32 ^ (i + (k + 1)) * (_ / B32) = _
    rw [val_take_succ]
    obtain ⟨t, ht⟩ : ∃ t, t = (lineTo p i ys row k).1 + (p * ys[k]?.getD 0 + (lineTo p i ys row k).2[i + k]?.getD 0) := ⟨_, rfl⟩
    rw [← ht] at hset hdm ⊢
    have e1 := congrArg (B32 ^ (i + k) * ·) hdm
    have e2 := congrArg (B32 ^ (i + k) * ·) ht
    simp only [Nat.mul_add] at e1 e2
    have e3 : B32 ^ (i + (k + 1)) * (t / B32) = B32 ^ (i + k) * (B32 * (t / B32)) := by rw [← Nat.add_assoc, Nat.pow_succ, Nat.mul_assoc]
    have e4 : B32 ^ i * (p * (val (ys.take k) + B32 ^ k * ys[k]?.getD 0)) = B32 ^ i * (p * val (ys.take k)) + B32 ^ (i + k) * (p * ys[k]?.getD 0) := by
      rw [Nat.mul_add, Nat.mul_add, Nat.pow_add, Nat.mul_left_comm p, Nat.mul_assoc]
    rw [e3, e4]
    omega

theorem line_val {p i : Nat} {ys row : List Nat} (hk : i + ys.length < row.length) (hz : row[i + ys.length]?.getD 0 = 0) : val (line p i ys row) = val row + B32 ^ i * (p * val ys) := by
  have h1 := lineTo_val (p := p) (i := i) (ys := ys) (row := row) ys.length (by omega)
  have h2 := val_set (lineTo p i ys row ys.length).1 (l := (lineTo p i ys row ys.length).2) (j := i + ys.length) (by rw [lineTo_length]; exact hk)
  rw [lineTo_get _ _ (Nat.le_refl _), hz, Nat.mul_zero, Nat.add_zero] at h2
  unfold line
  rw [h2, h1, List.take_of_length_le (Nat.le_refl _)]
theorem line_zero {p i : Nat} {ys row : List Nat} (j : Nat) (hj : i + ys.length < j) : (line p i ys row)[j]? = row[j]? := by
  unfold line
  rw [List.getElem?_set_ne (by omega), lineTo_get _ _ (by omega)]
theorem prodTo_zero (xs ys : List Nat) (k j : Nat) (hj : k + ys.length ≤ j) : (prodTo xs ys k)[j]?.getD 0 = 0 := by
  induction k with
  | zero =>
    show (List.replicate 65 0)[j]?.getD 0 = 0
    rw [List.getElem?_replicate]; split <;> rfl
  | succ k ih =>
    show (line _ k ys (prodTo xs ys k))[j]?.getD 0 = 0
    rw [line_zero j (by omega), ih (by omega)]
theorem val_zeros (n : Nat) : val (List.replicate n 0) = 0 := val_zero_of_all fun d hd => List.eq_of_mem_replicate hd
theorem prodTo_val (xs ys : List Nat) (k : Nat) (hk : k ≤ xs.length) (h : xs.length + ys.length ≤ 65) : val (prodTo xs ys k) = val (xs.take k) * val ys := by
  induction k with
  | zero => simp [prodTo, val_zeros, val]
  | succ k ih =>
    show val (line _ k ys (prodTo xs ys k)) = _
    rw [line_val (by rw [prodTo_length]; omega) (prodTo_zero _ _ _ _ (Nat.le_refl _)), ih (by omega), val_take_succ, Nat.add_mul, Nat.mul_assoc]
theorem prod_val (xs ys : List Nat) (h : xs.length + ys.length ≤ 65) : val (prodRow xs ys) = val xs * val ys := by
  rw [prodRow, prodTo_val _ _ _ (Nat.le_refl _) h, val_take_all (Nat.le_refl _)]
theorem prod_digits {xs ys : List Nat} (hx : Digits xs) (hy : Digits ys) : Digits (prodRow xs ys) := prodTo_digits hx hy _
/-- Nothing is cut off. -/
theorem val_take_of_zero {ds : List Nat} {n : Nat} (hz : ∀ j, n ≤ j → ds[j]?.getD 0 = 0) : val (ds.take n) = val ds := by
  by_cases hn : n ≤ ds.length
  · have h1 := val_take_drop ds hn
    have h2 : val (ds.drop n) = 0 := val_zero_of_all fun d hd => by
      obtain ⟨i, hi, rfl⟩ := List.getElem_of_mem hd
      have hi' : n + i < ds.length := by simp at hi; omega
      have := hz (n + i) (by omega)
      simpa [hi'] using this
    rw [h2, Nat.mul_zero] at h1
    omega
  · exact val_take_all (by omega)
theorem prod_take (xs ys : List Nat) (h : xs.length + ys.length ≤ 65) : val ((prodRow xs ys).take (xs.length + ys.length)) = val xs * val ys := by
  rw [val_take_of_zero (ds := prodRow xs ys) (fun j hj => prodTo_zero xs ys xs.length j hj), prod_val xs ys h]

/-! ### Numbers with a sign -/
/-- Is z within 64 digits? -/
def zok (z : Int) : Bool := decide (z.natAbs < B32 ^ 64)
def zneg (z : Int) : Bool := if z.natAbs < B32 ^ 64 then decide (z < 0) else false
def zdigs (z : Int) : List Nat := if z.natAbs < B32 ^ 64 then digs z.natAbs else []
theorem res_of (neg : Bool) (n : Nat) (z : Int) (hn : z.natAbs = n) (hz : n ≠ 0 → neg = decide (z < 0)) :
    resNeg neg (digs n) = zneg z ∧ resDs (digs n) = zdigs z ∧ resOk (digs n) = zok z := by
  have hl : (64 < (digs n).length) ↔ ¬ n < B32 ^ 64 := by rw [← digs_len]; omega
  unfold resNeg resDs resOk zneg zdigs zok
  rw [hn]
  by_cases h : n < B32 ^ 64
  · have h64 : ¬ 64 < (digs n).length := by rw [hl]; simpa using h
    rw [if_pos h, if_pos h, if_neg h64]
    refine ⟨?_, rfl, by simp [h]; exact digs_len.2 h⟩
    by_cases h0 : n = 0
    · subst h0
      have : z = 0 := by omega
      subst this
      rfl
    · rw [if_neg (by rw [digs_nil_iff]; omega)]
      exact hz h0
  · have h64 : 64 < (digs n).length := hl.2 h
    rw [if_neg h, if_neg h, if_pos h64, if_pos (Or.inr h64)]
    refine ⟨rfl, rfl, by simp [h]; exact h64⟩

end Go.Proofs.YtcmpgboifcemmaaDoor
