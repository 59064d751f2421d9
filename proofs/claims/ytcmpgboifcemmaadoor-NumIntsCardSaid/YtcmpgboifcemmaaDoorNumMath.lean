/- Plain mathematics of digit lists (the lowest digit first, to the base 2^32). No program is named. -/
set_option linter.all false
namespace Go.Proofs.YtcmpgboifcemmaaDoor

/-- The base. -/
def B32 : Nat := 4294967296
theorem B32_eq : B32 = 4294967296 := rfl
theorem B32_pos : 0 < B32 := by decide

/-- What a list of digits stands for. -/
def val : List Nat → Nat
  | [] => 0
  | d :: ds => d + B32 * val ds

/-- Digits without zeros at the end. -/
def strip : List Nat → List Nat
  | [] => []
  | d :: ds => if strip ds = [] ∧ d = 0 then [] else d :: strip ds

def Digits (ds : List Nat) : Prop := ∀ d ∈ ds, d < B32
/-- The list has no zero at its end. -/
def NoZero (ds : List Nat) : Prop := strip ds = ds
def Norm (ds : List Nat) : Prop := Digits ds ∧ NoZero ds

theorem val_nil : val [] = 0 := rfl
theorem val_cons (d : Nat) (ds : List Nat) : val (d :: ds) = d + B32 * val ds := rfl

theorem val_strip (ds : List Nat) : val (strip ds) = val ds := by
  induction ds with
  | nil => rfl
  | cons d ds ih =>
    unfold strip
    split
    · rename_i h
      rw [val_cons, ← ih, h.1, h.2]; simp [val]
    · rw [val_cons, val_cons, ih]

theorem strip_strip (ds : List Nat) : strip (strip ds) = strip ds := by
  induction ds with
  | nil => rfl
  | cons d ds ih =>
    by_cases h : strip ds = [] ∧ d = 0
    · simp [strip, h]
    · have e : strip (d :: ds) = d :: strip ds := by rw [strip, if_neg h]
      rw [e, strip, ih, if_neg h]

theorem strip_mem {ds : List Nat} {d : Nat} (h : d ∈ strip ds) : d ∈ ds := by
  induction ds with
  | nil => exact h
  | cons e ds ih =>
    unfold strip at h
    split at h
    · simp at h
    · rcases List.mem_cons.1 h with rfl | h
      · simp
      · exact List.mem_cons_of_mem _ (ih h)

theorem strip_length_le (ds : List Nat) : (strip ds).length ≤ ds.length := by
  induction ds with
  | nil => simp [strip]
  | cons d ds ih => unfold strip; split <;> simp <;> omega

theorem Digits.strip {ds : List Nat} (h : Digits ds) : Digits (strip ds) := fun d hd => h d (strip_mem hd)
theorem norm_strip {ds : List Nat} (h : Digits ds) : Norm (strip ds) := ⟨h.strip, strip_strip ds⟩
theorem norm_nil : Norm [] := ⟨by simp [Digits], rfl⟩

theorem Digits.cons {d : Nat} {ds : List Nat} : Digits (d :: ds) ↔ d < B32 ∧ Digits ds := by simp [Digits]
theorem Digits.nil : Digits [] := by simp [Digits]
theorem Digits.append {a b : List Nat} (ha : Digits a) (hb : Digits b) : Digits (a ++ b) := by
  intro d hd; exact (List.mem_append.1 hd).elim (ha d) (hb d)
theorem Digits.take {a : List Nat} (ha : Digits a) (n : Nat) : Digits (a.take n) := fun d hd => ha d (List.mem_of_mem_take hd)
theorem Digits.drop {a : List Nat} (ha : Digits a) (n : Nat) : Digits (a.drop n) := fun d hd => ha d (List.mem_of_mem_drop hd)
theorem Digits.getD {ds : List Nat} (h : Digits ds) (j : Nat) : ds[j]?.getD 0 < B32 := by
  by_cases hj : j < ds.length
  · simp [hj]; exact h _ (List.getElem_mem hj)
  · simp [List.getElem?_eq_none (by omega : ds.length ≤ j)]; decide

theorem val_lt {ds : List Nat} (h : Digits ds) : val ds < B32 ^ ds.length := by
  induction ds with
  | nil => simp [val]
  | cons d ds ih =>
    obtain ⟨h1, h2⟩ := Digits.cons.1 h
    have := ih h2
    rw [val_cons, List.length_cons, Nat.pow_succ]
    calc d + B32 * val ds < B32 + B32 * val ds := by omega
      _ = B32 * (val ds + 1) := by rw [Nat.mul_add, Nat.mul_one, Nat.add_comm]
      _ ≤ B32 * B32 ^ ds.length := Nat.mul_le_mul_left _ this
      _ = B32 ^ ds.length * B32 := Nat.mul_comm _ _

theorem val_append (a b : List Nat) : val (a ++ b) = val a + B32 ^ a.length * val b := by
  induction a with
  | nil => simp [val]
  | cons d a ih =>
    rw [List.cons_append, val_cons, val_cons, ih, List.length_cons, Nat.pow_succ, Nat.mul_add, Nat.add_assoc, ← Nat.mul_assoc B32, Nat.mul_comm B32 (B32 ^ a.length)]

theorem noZero_cons {d : Nat} {ds : List Nat} (h : NoZero (d :: ds)) : NoZero ds ∧ (ds = [] → d ≠ 0) := by
  unfold NoZero at *
  unfold strip at h
  split at h
  · simp at h
  · rename_i hn
    have e : strip ds = ds := by simpa using h
    refine ⟨e, ?_⟩
    rintro rfl h0
    exact hn ⟨by simp [strip], h0⟩

theorem noZero_of_cons {d : Nat} {ds : List Nat} (h : NoZero ds) (h0 : ds = [] → d ≠ 0) : NoZero (d :: ds) := by
  unfold NoZero at *
  rw [strip, h, if_neg]
  rintro ⟨h1, h2⟩; exact h0 h1 h2

theorem val_pos_of_noZero {ds : List Nat} (h : NoZero ds) (hne : ds ≠ []) : 0 < val ds := by
  induction ds with
  | nil => exact absurd rfl hne
  | cons d ds ih =>
    obtain ⟨h1, h2⟩ := noZero_cons h
    rw [val_cons]
    by_cases e : ds = []
    · have := h2 e; omega
    · have := ih h1 e
      have := Nat.mul_pos B32_pos this
      omega

theorem norm_ext : ∀ {a b : List Nat}, Norm a → Norm b → val a = val b → a = b
  | [], [], _, _, _ => rfl
  | [], e :: b, _, hb, h => by have := val_pos_of_noZero hb.2 (by simp); rw [← h] at this; simp [val] at this
  | d :: a, [], ha, _, h => by have := val_pos_of_noZero ha.2 (by simp); rw [h] at this; simp [val] at this
  | d :: a, e :: b, ha, hb, h => by
    obtain ⟨h1, h2⟩ := Digits.cons.1 ha.1
    obtain ⟨h3, h4⟩ := Digits.cons.1 hb.1
    rw [val_cons, val_cons] at h
    have hd : d = e := by
      have := congrArg (· % B32) h
      simpa [Nat.add_mul_mod_self_left, Nat.mod_eq_of_lt h1, Nat.mod_eq_of_lt h3] using this
    subst hd
    have hv : val a = val b := Nat.eq_of_mul_eq_mul_left B32_pos (Nat.add_left_cancel h)
    rw [norm_ext ⟨h2, (noZero_cons ha.2).1⟩ ⟨h4, (noZero_cons hb.2).1⟩ hv]

theorem val_zero_of_all {ds : List Nat} (h : ∀ d ∈ ds, d = 0) : val ds = 0 := by
  induction ds with
  | nil => rfl
  | cons d ds ih =>
    rw [val_cons, ih (fun e he => h e (List.mem_cons_of_mem _ he)), h d (by simp), Nat.mul_zero]

theorem strip_nil_of_all {ds : List Nat} (h : ∀ d ∈ ds, d = 0) : strip ds = [] := by
  induction ds with
  | nil => rfl
  | cons d ds ih => rw [strip, if_pos ⟨ih (fun e he => h e (List.mem_cons_of_mem _ he)), h d (by simp)⟩]

theorem strip_append_zero {a b : List Nat} (h : ∀ d ∈ b, d = 0) : strip (a ++ b) = strip a := by
  induction a with
  | nil => simp [strip, strip_nil_of_all h]
  | cons d a ih => rw [List.cons_append, strip, strip, ih]

theorem strip_snoc {a : List Nat} {d : Nat} (h : d ≠ 0) : strip (a ++ [d]) = a ++ [d] := by
  induction a with
  | nil => simp [strip, h]
  | cons e a ih => rw [List.cons_append, strip, ih, if_neg (by simp)]

/-- The number of digits, as the program finds it from the highest one on. -/
theorem strip_length_of {ds : List Nat} {k : Nat} (hk : k < ds.length) (h : ds[k]?.getD 0 ≠ 0) (hz : ∀ j, k < j → j < ds.length → ds[j]?.getD 0 = 0) : (strip ds).length = k + 1 := by
  have e : ds = (ds.take k ++ [ds[k]]) ++ ds.drop (k + 1) := by
    rw [List.append_assoc, List.singleton_append, List.getElem_cons_drop, List.take_append_drop]
  rw [e, strip_append_zero, strip_snoc]
  · simp; omega
  · simpa [hk] using h
  · intro d hd
    obtain ⟨i, hi, rfl⟩ := List.getElem_of_mem hd
    have hi' : k + 1 + i < ds.length := by simp at hi; omega
    have := hz (k + 1 + i) (by omega) hi'
    simpa [hi'] using this
theorem strip_length_zero {ds : List Nat} (hz : ∀ j, j < ds.length → ds[j]?.getD 0 = 0) : strip ds = [] := by
  refine strip_nil_of_all fun d hd => ?_
  obtain ⟨i, hi, rfl⟩ := List.getElem_of_mem hd
  simpa [hi] using hz i hi

theorem strip_take (ds : List Nat) : ds.take (strip ds).length = strip ds := by
  induction ds with
  | nil => rfl
  | cons d ds ih =>
    by_cases h : strip ds = [] ∧ d = 0
    · simp [strip, h]
    · have e : strip (d :: ds) = d :: strip ds := by rw [strip, if_neg h]
      rw [e, List.length_cons, List.take_succ_cons, ih]

theorem noZero_last {ds : List Nat} (hne : 0 < ds.length) : NoZero ds ↔ ds[ds.length - 1]?.getD 0 ≠ 0 := by
  constructor
  · intro h h0
    have h1 : (strip ds).length = ds.length := by rw [h]
    have e : ds = ds.take (ds.length - 1) ++ [ds[ds.length - 1]] := by
      rw [List.take_append_getElem (by omega)]; exact (List.take_of_length_le (by omega)).symm
    have hl : ds[ds.length - 1] = 0 := by simpa [show ds.length - 1 < ds.length by omega] using h0
    have h2 := congrArg strip e
    rw [strip_append_zero (by simp [hl])] at h2
    have := strip_length_le (ds.take (ds.length - 1))
    rw [← h2, h1] at this
    simp at this; omega
  · intro h
    have := strip_length_of (k := ds.length - 1) (by omega) h (fun j a b => by omega)
    have e := strip_take ds
    rw [this, List.take_of_length_le (by omega)] at e
    exact e.symm

theorem val_drop {ds : List Nat} {s : Nat} (h : s < ds.length) : val (ds.drop s) = ds[s]?.getD 0 + B32 * val (ds.drop (s + 1)) := by
  rw [List.drop_eq_getElem_cons h, val_cons]; simp [h]
theorem val_drop_all (ds : List Nat) : val (ds.drop ds.length) = 0 := by simp [val]
theorem val_drop_lt {ds : List Nat} (hd : Digits ds) {s k : Nat} (h : ds.length ≤ s + k) : val (ds.drop s) < B32 ^ k := by
  refine Nat.lt_of_lt_of_le (val_lt (hd.drop s)) (Nat.pow_le_pow_right B32_pos (by simp; omega))

/-- The order of two numbers, as -1, 0, 1. -/
def sgn (a b : Nat) : Int := if a < b then -1 else if b < a then 1 else 0
/-- The order of two digit lists as the program finds it: the longer one is greater. -/
def cmpL (xs ys : List Nat) : Int := if xs.length < ys.length then -1 else if ys.length < xs.length then 1 else sgn (val xs) (val ys)

theorem val_take_drop (ds : List Nat) {s : Nat} (h : s ≤ ds.length) : val ds = val (ds.take s) + B32 ^ s * val (ds.drop s) := by
  have := val_append (ds.take s) (ds.drop s)
  rwa [List.take_append_drop, List.length_take, Nat.min_eq_left h] at this

theorem val_lt_of_digit {xs ys : List Nat} {s : Nat} (hl : xs.length = ys.length) (hx : Digits xs) (hs : s < xs.length)
    (he : xs.drop (s + 1) = ys.drop (s + 1)) (hlt : xs[s]?.getD 0 < ys[s]?.getD 0) : val xs < val ys := by
  rw [val_take_drop xs (Nat.le_of_lt hs), val_take_drop ys (s := s) (by omega), val_drop hs, val_drop (ds := ys) (by omega), he]
  have h1 := val_lt (hx.take s)
  rw [List.length_take, Nat.min_eq_left (Nat.le_of_lt hs)] at h1
  have h2 : B32 ^ s * (xs[s]?.getD 0 + B32 * val (ys.drop (s + 1)) + 1) ≤ B32 ^ s * (ys[s]?.getD 0 + B32 * val (ys.drop (s + 1))) := Nat.mul_le_mul_left _ (by omega)
  rw [Nat.mul_add _ _ 1, Nat.mul_one] at h2
  omega

theorem drop_eq_cons {xs ys : List Nat} {s : Nat} (hx : s < xs.length) (hy : s < ys.length) (he : xs.drop (s + 1) = ys.drop (s + 1)) (hd : xs[s]?.getD 0 = ys[s]?.getD 0) : xs.drop s = ys.drop s := by
  rw [List.drop_eq_getElem_cons hx, List.drop_eq_getElem_cons hy, he]
  simp [hx, hy] at hd
  rw [hd]

theorem cmpL_len {xs ys : List Nat} (h : xs.length = ys.length) : cmpL xs ys = sgn (val xs) (val ys) := by
  unfold cmpL; rw [if_neg (by omega), if_neg (by omega)]
theorem sgn_lt {a b : Nat} (h : a < b) : sgn a b = -1 := by unfold sgn; rw [if_pos h]
theorem sgn_gt {a b : Nat} (h : b < a) : sgn a b = 1 := by unfold sgn; rw [if_neg (by omega), if_pos h]
theorem sgn_eq (a : Nat) : sgn a a = 0 := by unfold sgn; simp
theorem sgn_bounds (a b : Nat) : -1 ≤ sgn a b ∧ sgn a b ≤ 1 := by unfold sgn; split <;> (try split) <;> omega
theorem sgn_neg_iff {a b : Nat} : sgn a b < 0 ↔ a < b := by unfold sgn; split <;> (try split) <;> omega

theorem val_ge_of_noZero {ds : List Nat} (h : NoZero ds) (hne : ds ≠ []) : B32 ^ (ds.length - 1) ≤ val ds := by
  induction ds with
  | nil => exact absurd rfl hne
  | cons d ds ih =>
    obtain ⟨h1, h2⟩ := noZero_cons h
    rw [val_cons, List.length_cons, Nat.add_sub_cancel]
    by_cases e : ds = []
    · subst e; have := h2 rfl; simp; omega
    · have := ih h1 e
      have hl : 0 < ds.length := by cases ds <;> simp_all
      have := Nat.mul_le_mul_left B32 this
      rw [← Nat.pow_succ', show (ds.length - 1).succ = ds.length by omega] at this
      omega

theorem cmpL_norm {xs ys : List Nat} (hx : Norm xs) (hy : Norm ys) : cmpL xs ys = sgn (val xs) (val ys) := by
  unfold cmpL
  split
  · rename_i h
    have h1 := val_lt hx.1
    have h2 := val_ge_of_noZero hy.2 (by intro e; simp [e] at h)
    have h3 := Nat.pow_le_pow_right B32_pos (show xs.length ≤ ys.length - 1 by omega)
    rw [sgn_lt (by omega)]
  · split
    · rename_i h
      have h1 := val_lt hy.1
      have h2 := val_ge_of_noZero hx.2 (by intro e; simp [e] at h)
      have h3 := Nat.pow_le_pow_right B32_pos (show ys.length ≤ xs.length - 1 by omega)
      rw [sgn_gt (by omega)]
    · rfl

end Go.Proofs.YtcmpgboifcemmaaDoor
