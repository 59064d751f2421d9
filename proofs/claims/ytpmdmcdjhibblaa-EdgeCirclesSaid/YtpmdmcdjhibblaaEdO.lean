/- Circles: mathematics. -/
import Derived.Test.YtpmdmcdjhibblaaEdJ
set_option linter.all false
namespace Go.Proofs.Ytpmdmcdjhibblaa.Sx
open Go Go.RowKit

theorem sq3 {x r : Int} (hr : 0 < r) : (-r < x ∧ x < r ∧ x * x < r * r) ∨ ((x = r ∨ x = -r) ∧ x * x = r * r) ∨ ((x < -r ∨ r < x) ∧ r * r < x * x) := by
  have pos : ∀ a b : Int, 0 ≤ a → a < b → a * a < b * b := fun a b h0 h => by
    have h1 : a * a ≤ a * b := Int.mul_le_mul_of_nonneg_left (Int.le_of_lt h) h0
    have h2 : a * b < b * b := Int.mul_lt_mul_of_pos_right h (by omega)
    omega
  have ng : ∀ a : Int, (-a) * (-a) = a * a := fun a => Int.neg_mul_neg a a
  rcases Int.le_total 0 x with h | h
  · rcases Int.lt_trichotomy x r with h1 | h1 | h1
    · exact .inl ⟨by omega, h1, pos x r h h1⟩
    · subst h1; exact .inr (.inl ⟨.inl rfl, rfl⟩)
    · exact .inr (.inr ⟨.inr h1, pos r x (by omega) h1⟩)
  · rcases Int.lt_trichotomy (-x) r with h1 | h1 | h1
    · have := pos (-x) r (by omega) h1; rw [ng] at this; exact .inl ⟨by omega, by omega, this⟩
    · exact .inr (.inl ⟨.inr (by omega), by rw [← ng x, h1]⟩)
    · have := pos r (-x) (by omega) h1; rw [ng] at this; exact .inr (.inr ⟨.inl (by omega), this⟩)
theorem sq0 (x : Int) : (x = 0 ∧ x * x = 0) ∨ (x ≠ 0 ∧ 0 < x * x) := by
  rcases Int.lt_trichotomy x 0 with h | h | h
  · exact .inr ⟨by omega, Int.mul_pos_of_neg_of_neg h h⟩
  · exact .inl ⟨h, by rw [h]; rfl⟩
  · exact .inr ⟨by omega, Int.mul_pos h h⟩
section
variable {cx cy r px py ax ay bx by' D R : Int}
theorem ray_dis (ok : okP 2 ax ay bx by' cx cy) (hD : dist2 px py cx cy = D) (hR : dist2 ax ay cx cy = R) :
    (ay ≤ py ∧ py < by' ∧ (px < max ax bx ∧ (px < min ax bx ∨ (cx < max ax bx ∧ D < R) ∨ (max ax bx ≤ cx ∧ R < D))) ∧ rayZ 2 ax ay bx by' cx cy px py = 1) ∨
    (by' ≤ py ∧ py < ay ∧ (px < max ax bx ∧ (px < min ax bx ∨ (cx < max ax bx ∧ D < R) ∨ (max ax bx ≤ cx ∧ R < D))) ∧ rayZ 2 ax ay bx by' cx cy px py = -1) ∨
    (¬ (ay ≤ py ∧ py < by' ∧ (px < max ax bx ∧ (px < min ax bx ∨ (cx < max ax bx ∧ D < R) ∨ (max ax bx ≤ cx ∧ R < D)))) ∧ ¬ (by' ≤ py ∧ py < ay ∧ (px < max ax bx ∧ (px < min ax bx ∨ (cx < max ax bx ∧ D < R) ∨ (max ax bx ≤ cx ∧ R < D)))) ∧ rayZ 2 ax ay bx by' cx cy px py = 0) := by
  have hb : beyondP 2 ax ay bx by' cx cy px py ↔ (px < max ax bx ∧ (px < min ax bx ∨ (cx < max ax bx ∧ D < R) ∨ (max ax bx ≤ cx ∧ R < D))) := by
    unfold beyondP innerP
    rw [hD, hR]
    simp only [ok, true_and, show ¬ ((2 : Int) = 1) by decide, false_and, false_or, ne_eq, not_false_eq_true]
  rw [← hb]
  unfold rayZ
  by_cases h1 : ay ≤ py ∧ py < by' ∧ beyondP 2 ax ay bx by' cx cy px py
  · rw [if_pos h1]; exact .inl ⟨h1.1, h1.2.1, h1.2.2, rfl⟩
  · rw [if_neg h1]
    by_cases h2 : by' ≤ py ∧ py < ay ∧ beyondP 2 ax ay bx by' cx cy px py
    · rw [if_pos h2]; exact .inr (.inl ⟨h2.1, h2.2.1, h2.2.2, rfl⟩)
    · rw [if_neg h2]; exact .inr (.inr ⟨h1, h2, rfl⟩)
/-- Small circles with small centres. -/
def Cir (cx cy r : Int) : Prop := 1 ≤ r ∧ r ≤ 100 ∧ -100 ≤ cx ∧ cx ≤ 100 ∧ -100 ≤ cy ∧ cy ≤ 100
theorem q0 (h : Cir cx cy r) : okP 2 (cx + r) cy cx (cy + r) cx cy := by unfold Cir at h; exact ⟨by decide, by decide, by unfold rightP; omega, by unfold rightP; omega, by unfold rightP; omega, .inr ⟨by omega, .inl ⟨rfl, by omega, by omega⟩⟩⟩
theorem q1 (h : Cir cx cy r) : okP 2 cx (cy + r) (cx - r) cy cx cy := by unfold Cir at h; exact ⟨by decide, by decide, by unfold rightP; omega, by unfold rightP; omega, by unfold rightP; omega, .inr ⟨by omega, .inl ⟨rfl, by omega, by omega⟩⟩⟩
theorem q2 (h : Cir cx cy r) : okP 2 (cx - r) cy cx (cy - r) cx cy := by unfold Cir at h; exact ⟨by decide, by decide, by unfold rightP; omega, by unfold rightP; omega, by unfold rightP; omega, .inr ⟨by omega, .inl ⟨rfl, by omega, by omega⟩⟩⟩
theorem q3 (h : Cir cx cy r) : okP 2 cx (cy - r) (cx + r) cy cx cy := by unfold Cir at h; exact ⟨by decide, by decide, by unfold rightP; omega, by unfold rightP; omega, by unfold rightP; omega, .inr ⟨by omega, .inl ⟨rfl, by omega, by omega⟩⟩⟩
theorem e0 : dist2 (cx + r) cy cx cy = r * r := by unfold dist2; grind
theorem e1 : dist2 cx (cy + r) cx cy = r * r := by unfold dist2; grind
theorem e2 : dist2 (cx - r) cy cx cy = r * r := by unfold dist2; grind
theorem e3 : dist2 cx (cy - r) cx cy = r * r := by unfold dist2; grind
set_option maxHeartbeats 4000000 in
theorem circ_sum (h : Cir cx cy r) :
    (((px - cx) * (px - cx) + (py - cy) * (py - cy) < r * r ∨ ((px - cx) * (px - cx) + (py - cy) * (py - cy) = r * r ∧ px - cx < 0 ∧ py - cy < r ∧ -r < py - cy)) ∧
      rayZ 2 (cx + r) cy cx (cy + r) cx cy px py + rayZ 2 cx (cy + r) (cx - r) cy cx cy px py + rayZ 2 (cx - r) cy cx (cy - r) cx cy px py + rayZ 2 cx (cy - r) (cx + r) cy cx cy px py = 1) ∨
    (¬ ((px - cx) * (px - cx) + (py - cy) * (py - cy) < r * r ∨ ((px - cx) * (px - cx) + (py - cy) * (py - cy) = r * r ∧ px - cx < 0 ∧ py - cy < r ∧ -r < py - cy)) ∧
      rayZ 2 (cx + r) cy cx (cy + r) cx cy px py + rayZ 2 cx (cy + r) (cx - r) cy cx cy px py + rayZ 2 (cx - r) cy cx (cy - r) cx cy px py + rayZ 2 cx (cy - r) (cx + r) cy cx cy px py = 0) := by
  have d0 := ray_dis (px := px) (py := py) (q0 h) rfl e0
  have d1 := ray_dis (px := px) (py := py) (q1 h) rfl e1
  have d2 := ray_dis (px := px) (py := py) (q2 h) rfl e2
  have d3 := ray_dis (px := px) (py := py) (q3 h) rfl e3
  have hr : 0 < r := by unfold Cir at h; omega
  clear h
  have sx := sq3 (x := px - cx) hr
  have sy := sq3 (x := py - cy) hr
  have zx := sq0 (px - cx)
  have zy := sq0 (py - cy)
  have hD : dist2 px py cx cy = (px - cx) * (px - cx) + (py - cy) * (py - cy) := rfl
  rw [hD] at d0 d1 d2 d3
  generalize rayZ 2 (cx + r) cy cx (cy + r) cx cy px py = r0 at *
  generalize rayZ 2 cx (cy + r) (cx - r) cy cx cy px py = r1 at *
  generalize rayZ 2 (cx - r) cy cx (cy - r) cx cy px py = r2 at *
  generalize rayZ 2 cx (cy - r) (cx + r) cy cx cy px py = r3 at *
  rw [show max (cx + r) cx = cx + r by omega, show min (cx + r) cx = cx by omega] at d0
  rw [show max cx (cx - r) = cx by omega, show min cx (cx - r) = cx - r by omega] at d1
  rw [show max (cx - r) cx = cx by omega, show min (cx - r) cx = cx - r by omega] at d2
  rw [show max cx (cx + r) = cx + r by omega, show min cx (cx + r) = cx by omega] at d3
  generalize hXX : (px - cx) * (px - cx) = XX at *
  generalize hYY : (py - cy) * (py - cy) = YY at *
  generalize hRR : r * r = RR at *
  clear hXX hYY hRR hD
  obtain ⟨X, hX⟩ : ∃ X, X = px - cx := ⟨_, rfl⟩
  obtain ⟨Y, hY⟩ : ∃ Y, Y = py - cy := ⟨_, rfl⟩
  have c0 : (0 ≤ Y ∧ Y < r ∧ X < r ∧ (X < 0 ∨ XX + YY < RR) ∧ r0 = 1) ∨ (¬ (0 ≤ Y ∧ Y < r ∧ X < r ∧ (X < 0 ∨ XX + YY < RR)) ∧ r0 = 0) := by clear d1 d2 d3 sx sy zx zy; omega
  have c1 : (0 ≤ Y ∧ Y < r ∧ X < 0 ∧ (X < -r ∨ RR < XX + YY) ∧ r1 = -1) ∨ (¬ (0 ≤ Y ∧ Y < r ∧ X < 0 ∧ (X < -r ∨ RR < XX + YY)) ∧ r1 = 0) := by clear d0 d2 d3 sx sy zx zy c0; omega
  have c2 : (-r ≤ Y ∧ Y < 0 ∧ X < 0 ∧ (X < -r ∨ RR < XX + YY) ∧ r2 = -1) ∨ (¬ (-r ≤ Y ∧ Y < 0 ∧ X < 0 ∧ (X < -r ∨ RR < XX + YY)) ∧ r2 = 0) := by clear d0 d1 d3 sx sy zx zy c0 c1; omega
  have c3 : (-r ≤ Y ∧ Y < 0 ∧ X < r ∧ (X < 0 ∨ XX + YY < RR) ∧ r3 = 1) ∨ (¬ (-r ≤ Y ∧ Y < 0 ∧ X < r ∧ (X < 0 ∨ XX + YY < RR)) ∧ r3 = 0) := by clear d0 d1 d2 sx sy zx zy c0 c1 c2; omega
  clear d0 d1 d2 d3
  rcases sx with sx | sx | sx <;> rcases sy with sy | sy | sy <;> rcases zx with zx | zx <;> rcases zy with zy | zy <;> omega
theorem on_q (ok : okP 2 ax ay bx by' cx cy) (hR : dist2 ax ay cx cy = R) : onP 2 ax ay bx by' cx cy px py ↔ boxP ax ay bx by' px py ∧ (px - cx) * (px - cx) + (py - cy) * (py - cy) = R := by
  unfold onP
  rw [hR]
  simp only [ok, true_and, show ¬ ((2 : Int) = 1) by decide, false_and, false_or, ne_eq, not_false_eq_true]
  rfl
theorem circ_on (h : Cir cx cy r) (hD : (px - cx) * (px - cx) + (py - cy) * (py - cy) = r * r) : onP 2 (cx + r) cy cx (cy + r) cx cy px py ∨ onP 2 cx (cy + r) (cx - r) cy cx cy px py ∨ onP 2 (cx - r) cy cx (cy - r) cx cy px py ∨ onP 2 cx (cy - r) (cx + r) cy cx cy px py := by
  rw [on_q (q0 h) e0, on_q (q1 h) e1, on_q (q2 h) e2, on_q (q3 h) e3]
  have hr : 0 < r := by unfold Cir at h; omega
  clear h
  have sx := sq3 (x := px - cx) hr
  have sy := sq3 (x := py - cy) hr
  have zx := sq0 (px - cx)
  have zy := sq0 (py - cy)
  simp only [hD, and_true]
  have hx : -r ≤ px - cx ∧ px - cx ≤ r := by omega
  have hy : -r ≤ py - cy ∧ py - cy ≤ r := by omega
  clear sx sy zx zy hD
  unfold boxP
  omega
end
end Go.Proofs.Ytpmdmcdjhibblaa.Sx
