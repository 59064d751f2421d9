/- Mathematics of layer 7: the sign of a + b √c, common ends. -/
import Derived.Test.YtmoclgpdcnjacaaMc
set_option linter.all false
set_option autoImplicit false
namespace Go.Proofs.Ytmoclgpdcnjacaa.Sx
open Go Go.RowKit

theorem sg_pos {x : Int} : 0 < x ↔ sg x = 1 := by unfold sg; split <;> (try split) <;> omega
theorem sg_neg {x : Int} : x < 0 ↔ sg x = -1 := by unfold sg; split <;> (try split) <;> omega
theorem sg_le {x : Int} : sg x ≤ 0 ↔ x ≤ 0 := by unfold sg; split <;> (try split) <;> omega
theorem sg_ge {x : Int} : 0 ≤ sg x ↔ 0 ≤ x := by unfold sg; split <;> (try split) <;> omega
theorem sq_nonneg (x : Int) : 0 ≤ x * x := by
  rcases Int.le_total 0 x with h | h
  · exact Int.mul_nonneg h h
  · have := Int.mul_nonneg (Int.neg_nonneg_of_nonpos h) (Int.neg_nonneg_of_nonpos h); rwa [Int.neg_mul_neg] at this
theorem sq_pos {x : Int} (h : x ≠ 0) : 0 < x * x := by
  rcases Int.lt_or_gt_of_ne h with h | h
  · have := Int.mul_pos (Int.neg_pos_of_neg h) (Int.neg_pos_of_neg h); rwa [Int.neg_mul_neg] at this
  · exact Int.mul_pos h h
theorem sq_lt {x y : Int} (hx : 0 ≤ x) (h : x < y) : x * x < y * y := by
  have h1 := Int.mul_le_mul_of_nonneg_left (Int.le_of_lt h) hx
  have h2 := Int.mul_lt_mul_of_pos_right h (show 0 < y by omega)
  omega
theorem sq_eq {x y : Int} (hx : 0 ≤ x) (hy : 0 ≤ y) (h : x * x = y * y) : x = y := by
  rcases Int.lt_trichotomy x y with h1 | h1 | h1
  · have := sq_lt hx h1; omega
  · exact h1
  · have := sq_lt hy h1; omega
theorem sgS_zero (a b : Int) : sgS a b 0 = sg a := by unfold sgS; simp
theorem sgS_b0 (a u : Int) (h : 0 ≤ u) : sgS a 0 u = sg a := by unfold sgS; rw [if_neg (by omega)]; simp
theorem sgS_neg (a b u : Int) : sgS (-a) (-b) u = - sgS a b u := by
  have e1 : ∀ x : Int, sg (-x) = - sg x := fun x => by unfold sg; split <;> (try split) <;> (try split) <;> (try split) <;> omega
  have e2 : (-a) * (-a) = a * a := Int.neg_mul_neg _ _
  have e3 : (-b) * (-b) = b * b := Int.neg_mul_neg _ _
  unfold sgS
  rw [e1, e1, e2, e3]
  split
  · rfl
  · by_cases h : b = 0 ∨ u = 0
    · rw [if_pos h, if_pos (by omega)]
    · rw [if_neg h, if_neg (by omega)]
      by_cases h2 : a = 0 ∨ sg a = sg b
      · rw [if_pos h2, if_pos (by omega)]
      · rw [if_neg h2, if_neg (by omega), Int.neg_mul]
/-- Where the root is an int. -/
theorem sgS_sq (a s g : Int) (hg : 0 ≤ g) : sgS a s (g * g) = sg (a + s * g) := by
  obtain ⟨h1, h2, h3, h4, h5, h6⟩ := sgS_spec a s (g * g)
  have hgg := sq_nonneg g
  rcases Int.lt_or_eq_of_le hg with h0 | h0
  · have hg2 := Int.mul_pos h0 h0
    have e : s * s * (g * g) = (s * g) * (s * g) := by grind
    rw [e] at h5 h6
    rcases Int.lt_trichotomy s 0 with hs | hs | hs
    · have hsg : s * g < 0 := Int.mul_neg_of_neg_of_pos hs h0
      rcases (by omega : 0 < a ∨ a ≤ 0) with ha | ha
      · obtain ⟨q1, q2, q3⟩ := h6 hg2 hs ha
        have e2 : (s * g) * (s * g) = (-(s * g)) * (-(s * g)) := by rw [Int.neg_mul_neg]
        rw [e2] at q1 q2 q3
        generalize s * g = y at *
        rcases Int.lt_trichotomy a (-y) with h | h | h
        · rw [q1 (sq_lt (by omega) h)]; exact (sg_neg.1 (by omega)).symm
        · rw [q2 (by rw [h]), show a + y = 0 by omega]; rfl
        · rw [q3 (sq_lt (by omega) h)]; exact (sg_pos.1 (by omega)).symm
      · rw [h3 hg2 hs ha]; exact (sg_neg.1 (by omega)).symm
    · subst hs
      rw [sgS_b0 _ _ hgg]; simp
    · have hsg : 0 < s * g := Int.mul_pos hs h0
      rcases (by omega : a < 0 ∨ 0 ≤ a) with ha | ha
      · obtain ⟨q1, q2, q3⟩ := h5 hg2 hs ha
        have e2 : a * a = (-a) * (-a) := by rw [Int.neg_mul_neg]
        rw [e2] at q1 q2 q3
        generalize s * g = y at *
        rcases Int.lt_trichotomy (-a) y with h | h | h
        · rw [q1 (sq_lt (by omega) h)]; exact (sg_pos.1 (by omega)).symm
        · rw [q2 (by rw [h]), show a + y = 0 by omega]; rfl
        · rw [q3 (sq_lt (by omega) h)]; exact (sg_neg.1 (by omega)).symm
      · rw [h4 hg2 hs ha]; exact (sg_pos.1 (by omega)).symm
  · subst h0
    simp [sgS_zero]
/-- The common ends: which there are. -/
theorem mem_ends (on : Int × Int → Bool) (z : Int × Int) : ∀ (l acc : List (Int × Int)), z ∈ endsL on l acc ↔ z ∈ acc ∨ (z ∈ l ∧ on z = true)
  | [], acc => by simp [endsL]
  | q :: r, acc => by
    simp only [endsL]
    rw [mem_ends on z r]
    split
    · rename_i h
      simp only [List.mem_append, List.mem_cons, List.not_mem_nil, or_false]
      constructor
      · rintro ((h1 | h1) | h1)
        · exact .inl h1
        · subst h1; exact .inr ⟨.inl rfl, h.1⟩
        · exact .inr ⟨.inr h1.1, h1.2⟩
      · rintro (h1 | ⟨h1 | h1, h2⟩)
        · exact .inl (.inl h1)
        · exact .inl (.inr h1)
        · exact .inr ⟨h1, h2⟩
    · rename_i h
      simp only [List.mem_cons]
      constructor
      · rintro (h1 | h1)
        · exact .inl h1
        · exact .inr ⟨.inr h1.1, h1.2⟩
      · rintro (h1 | ⟨h1 | h1, h2⟩)
        · exact .inl h1
        · subst h1
          by_cases hm : z ∈ acc
          · exact .inl hm
          · exact absurd ⟨h2, hm⟩ h
        · exact .inr ⟨h1, h2⟩
theorem nodup_ends (on : Int × Int → Bool) : ∀ (l acc : List (Int × Int)), acc.Nodup → (endsL on l acc).Nodup
  | [], acc, h => h
  | q :: r, acc, h => by
    simp only [endsL]
    apply nodup_ends on r
    split
    · rename_i hq
      rw [List.nodup_append]
      refine ⟨h, by simp, ?_⟩
      intro a ha b hb
      simp at hb
      subst hb
      intro e
      subst e
      exact hq.2 ha
    · exact h
/-- What the count of common ends says. -/
def EndSpec (S : Int × Int → Prop) (n : Int) : Prop := (n = -1 ∧ ∃ z1 z2, S z1 ∧ S z2 ∧ z1 ≠ z2) ∨ (n = 0 ∧ ∀ z, ¬ S z) ∨ (n = 1 ∧ ∃ z, S z ∧ ∀ z', S z' → z' = z)
theorem EndSpec.uniq {S T : Int × Int → Prop} {m n : Int} (h : EndSpec S m) (k : EndSpec T n) (hST : ∀ z, S z ↔ T z) : m = n := by
  rcases h with ⟨rfl, z1, z2, h1, h2, h3⟩ | ⟨rfl, h⟩ | ⟨rfl, z, h1, h2⟩ <;> rcases k with ⟨rfl, y1, y2, k1, k2, k3⟩ | ⟨rfl, k⟩ | ⟨rfl, y, k1, k2⟩
  · rfl
  · exact absurd ((hST _).1 h1) (k _)
  · exact absurd ((k2 _ ((hST _).1 h1)).trans (k2 _ ((hST _).1 h2)).symm) h3
  · exact absurd ((hST _).2 k1) (h _)
  · rfl
  · exact absurd ((hST _).2 k1) (h _)
  · exact absurd ((h2 _ ((hST _).2 k1)).trans (h2 _ ((hST _).2 k2)).symm) k3
  · exact absurd ((hST _).1 h1) (k _)
  · rfl
section
variable (k ax ay bx by' cx cy k2 px py qx qy rx ry : Int)
/-- A common end. -/
def endP (z : Int × Int) : Prop := (z = (ax, ay) ∨ z = (bx, by') ∨ z = (px, py) ∨ z = (qx, qy)) ∧ onP k ax ay bx by' cx cy z.1 z.2 ∧ onP k2 px py qx qy rx ry z.1 z.2
theorem ends_spec : EndSpec (endP k ax ay bx by' cx cy k2 px py qx qy rx ry) (endsZ k ax ay bx by' cx cy k2 px py qx qy rx ry) := by
  have hm : ∀ z, z ∈ endsL (onB k ax ay bx by' cx cy k2 px py qx qy rx ry) [(ax, ay), (bx, by'), (px, py), (qx, qy)] [] ↔ endP k ax ay bx by' cx cy k2 px py qx qy rx ry z := fun z => by
    rw [mem_ends]
    unfold endP onB
    simp only [List.mem_cons, List.not_mem_nil, or_false, false_or, decide_eq_true_eq]
  have hn := nodup_ends (onB k ax ay bx by' cx cy k2 px py qx qy rx ry) [(ax, ay), (bx, by'), (px, py), (qx, qy)] [] (by simp)
  unfold endsZ
  revert hm hn
  generalize endsL (onB k ax ay bx by' cx cy k2 px py qx qy rx ry) [(ax, ay), (bx, by'), (px, py), (qx, qy)] [] = l
  intro hm hn
  match l, hm, hn with
  | [], hm, _ => exact .inr (.inl ⟨rfl, fun z hz => by have := (hm z).2 hz; simp at this⟩)
  | [z], hm, _ => exact .inr (.inr ⟨rfl, z, (hm z).1 (by simp), fun z' hz' => by have := (hm z').2 hz'; simpa using this⟩)
  | z1 :: z2 :: r, hm, hn =>
    refine .inl ⟨by rw [if_pos (by simp)], z1, z2, (hm z1).1 (by simp), (hm z2).1 (by simp), ?_⟩
    rw [List.nodup_cons] at hn
    intro e
    exact hn.1 (by rw [e]; simp)
end
end Go.Proofs.Ytmoclgpdcnjacaa.Sx
