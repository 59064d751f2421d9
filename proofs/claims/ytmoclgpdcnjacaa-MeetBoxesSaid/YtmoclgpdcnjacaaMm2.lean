/- Mathematics of layer 7: parallel lines with a common point have a common end. -/
import Derived.Test.YtmoclgpdcnjacaaMm1
set_option linter.all false
set_option autoImplicit false
namespace Go.Proofs.Ytmoclgpdcnjacaa.Sx
open Go Go.RowKit

theorem par_trans {ax ay bx by' cx cy : Int} (h1 : ax * by' = ay * bx) (h2 : bx * cy = by' * cx) (hb : bx ≠ 0 ∨ by' ≠ 0) : ax * cy = ay * cx := by
  rcases hb with hb | hb
  · have : bx * (ax * cy - ay * cx) = 0 := by grind
    rcases Int.mul_eq_zero.1 this with h | h
    · exact absurd h hb
    · omega
  · have : by' * (ax * cy - ay * cx) = 0 := by grind
    rcases Int.mul_eq_zero.1 this with h | h
    · exact absurd h hb
    · omega
theorem ybox1 {vx vy ax ay bx by' zx zy : Int} (hv : 0 < vx) (ha : ay * vx = ax * vy) (hb : by' * vx = bx * vy) (hz : zy * vx = zx * vy) (h1 : ax ≤ zx) (h2 : zx ≤ bx) : min ay by' ≤ zy ∧ zy ≤ max ay by' := by
  rcases Int.le_total 0 vy with h | h
  · have e1 := Int.mul_le_mul_of_nonneg_right h1 h
    have e2 := Int.mul_le_mul_of_nonneg_right h2 h
    rw [← ha, ← hz] at e1
    rw [← hb, ← hz] at e2
    have := Int.le_of_mul_le_mul_right e1 hv
    have := Int.le_of_mul_le_mul_right e2 hv
    omega
  · have e1 := Int.mul_le_mul_of_nonpos_right h1 h
    have e2 := Int.mul_le_mul_of_nonpos_right h2 h
    rw [← ha, ← hz] at e1
    rw [← hb, ← hz] at e2
    have := Int.le_of_mul_le_mul_right e1 hv
    have := Int.le_of_mul_le_mul_right e2 hv
    omega
theorem ybox {vx vy ax ay bx by' zx zy : Int} (hv : 0 < vx) (ha : ay * vx = ax * vy) (hb : by' * vx = bx * vy) (hz : zy * vx = zx * vy) (h1 : min ax bx ≤ zx) (h2 : zx ≤ max ax bx) : min ay by' ≤ zy ∧ zy ≤ max ay by' := by
  rcases Int.le_total ax bx with h | h
  · exact ybox1 hv ha hb hz (by omega) (by omega)
  · have := ybox1 hv hb ha hz (by omega) (by omega)
    omega
theorem cross0 {vx vy ax ay bx by' zx zy : Int} (hv : vx ≠ 0) (ha : ay * vx = ax * vy) (hb : by' * vx = bx * vy) (hz : zy * vx = zx * vy) : (bx - ax) * (zy - ay) - (by' - ay) * (zx - ax) = 0 := by
  have : vx * ((bx - ax) * (zy - ay) - (by' - ay) * (zx - ax)) = 0 := by grind
  rcases Int.mul_eq_zero.1 this with h | h
  · exact absurd h hv
  · exact h
/-- What it is to be on a line, relative to a point. -/
def segR (ax ay bx by' zx zy : Int) : Prop := min ax bx ≤ zx ∧ zx ≤ max ax bx ∧ min ay by' ≤ zy ∧ zy ≤ max ay by' ∧ (bx - ax) * (zy - ay) - (by' - ay) * (zx - ax) = 0
theorem seg_core {vx vy ax ay bx by' cx cy dx dy : Int} (hv : 0 < vx) (ha : ay * vx = ax * vy) (hb : by' * vx = bx * vy) (hc : cy * vx = cx * vy) (hd : dy * vx = dx * vy)
    (h1 : min ax bx ≤ 0) (h2 : 0 ≤ max ax bx) (h3 : min cx dx ≤ 0) (h4 : 0 ≤ max cx dx) :
    ∃ zx zy, ((zx = ax ∧ zy = ay) ∨ (zx = bx ∧ zy = by') ∨ (zx = cx ∧ zy = cy) ∨ (zx = dx ∧ zy = dy)) ∧ segR ax ay bx by' zx zy ∧ segR cx cy dx dy zx zy := by
  have key : ∀ zx zy, zy * vx = zx * vy → zx = max (min ax bx) (min cx dx) → segR ax ay bx by' zx zy ∧ segR cx cy dx dy zx zy := fun zx zy hz hm => by
    have a1 := ybox hv ha hb hz (by omega) (by omega)
    have a2 := ybox hv hc hd hz (by omega) (by omega)
    exact ⟨⟨by omega, by omega, a1.1, a1.2, cross0 (by omega) ha hb hz⟩, ⟨by omega, by omega, a2.1, a2.2, cross0 (by omega) hc hd hz⟩⟩
  have hcase : ax = max (min ax bx) (min cx dx) ∨ bx = max (min ax bx) (min cx dx) ∨ cx = max (min ax bx) (min cx dx) ∨ dx = max (min ax bx) (min cx dx) := by omega
  rcases hcase with h | h | h | h
  · exact ⟨ax, ay, .inl ⟨rfl, rfl⟩, key _ _ ha h⟩
  · exact ⟨bx, by', .inr (.inl ⟨rfl, rfl⟩), key _ _ hb h⟩
  · exact ⟨cx, cy, .inr (.inr (.inl ⟨rfl, rfl⟩)), key _ _ hc h⟩
  · exact ⟨dx, dy, .inr (.inr (.inr ⟨rfl, rfl⟩)), key _ _ hd h⟩
theorem segR_swap {ax ay bx by' zx zy : Int} (h : segR ay ax by' bx zy zx) : segR ax ay bx by' zx zy := by
  obtain ⟨h1, h2, h3, h4, h5⟩ := h
  exact ⟨h3, h4, h1, h2, by omega⟩
/-- Two lines with the common point 0, which are parallel (or points), have a common end. -/
theorem seg_ends {ax ay bx by' cx cy dx dy : Int} (h1 : segR ax ay bx by' 0 0) (h2 : segR cx cy dx dy 0 0) (hp : (bx - ax) * (dy - cy) - (by' - ay) * (dx - cx) = 0) :
    ∃ zx zy, ((zx = ax ∧ zy = ay) ∨ (zx = bx ∧ zy = by') ∨ (zx = cx ∧ zy = cy) ∨ (zx = dx ∧ zy = dy)) ∧ segR ax ay bx by' zx zy ∧ segR cx cy dx dy zx zy := by
  have k1 := h1
  have k2 := h2
  obtain ⟨a1, a2, a3, a4, a5⟩ := h1
  obtain ⟨c1, c2, c3, c4, c5⟩ := h2
  by_cases ha : ax = bx ∧ ay = by'
  · obtain ⟨rfl, rfl⟩ := ha
    have e1 : ax = 0 := by omega
    have e2 : ay = 0 := by omega
    exact ⟨0, 0, .inl ⟨e1.symm, e2.symm⟩, k1, k2⟩
  by_cases hc : cx = dx ∧ cy = dy
  · obtain ⟨rfl, rfl⟩ := hc
    have e1 : cx = 0 := by omega
    have e2 : cy = 0 := by omega
    exact ⟨0, 0, .inr (.inr (.inl ⟨e1.symm, e2.symm⟩)), k1, k2⟩
  obtain ⟨vx, hvx⟩ : ∃ vx, vx = bx - ax := ⟨_, rfl⟩
  obtain ⟨vy, hvy⟩ : ∃ vy, vy = by' - ay := ⟨_, rfl⟩
  obtain ⟨ex, hex⟩ : ∃ ex, ex = dx - cx := ⟨_, rfl⟩
  obtain ⟨ey, hey⟩ : ∃ ey, ey = dy - cy := ⟨_, rfl⟩
  have hv : vx ≠ 0 ∨ vy ≠ 0 := by omega
  have he : ex ≠ 0 ∨ ey ≠ 0 := by omega
  rw [← hvx, ← hvy] at a5 hp
  rw [← hex, ← hey] at c5 hp
  have p1 : ax * vy = ay * vx := by grind
  have p2 : bx * vy = by' * vx := by grind
  have p3 : cx * ey = cy * ex := by grind
  have p4 : dx * ey = dy * ex := by grind
  have p5 : ex * vy = ey * vx := by grind
  have p6 : cx * vy = cy * vx := par_trans p3 p5 he
  have p7 : dx * vy = dy * vx := par_trans p4 p5 he
  rcases Int.lt_trichotomy vx 0 with h | h | h
  · exact seg_core (vx := -vx) (vy := -vy) (by omega) (by rw [Int.mul_neg, Int.mul_neg]; omega) (by rw [Int.mul_neg, Int.mul_neg]; omega) (by rw [Int.mul_neg, Int.mul_neg]; omega) (by rw [Int.mul_neg, Int.mul_neg]; omega) (by omega) (by omega) (by omega) (by omega)
  · have hy : vy ≠ 0 := by omega
    have sw : ∃ zy zx, ((zy = ay ∧ zx = ax) ∨ (zy = by' ∧ zx = bx) ∨ (zy = cy ∧ zx = cx) ∨ (zy = dy ∧ zx = dx)) ∧ segR ay ax by' bx zy zx ∧ segR cy cx dy dx zy zx := by
      rcases (by omega : vy < 0 ∨ 0 < vy) with g | g
      · exact seg_core (vx := -vy) (vy := -vx) (by omega) (by rw [Int.mul_neg, Int.mul_neg]; omega) (by rw [Int.mul_neg, Int.mul_neg]; omega) (by rw [Int.mul_neg, Int.mul_neg]; omega) (by rw [Int.mul_neg, Int.mul_neg]; omega) (by omega) (by omega) (by omega) (by omega)
      · exact seg_core (vx := vy) (vy := vx) g p1 p2 p6 p7 (by omega) (by omega) (by omega) (by omega)
    obtain ⟨zy, zx, q1, q2, q3⟩ := sw
    exact ⟨zx, zy, by omega, segR_swap q2, segR_swap q3⟩
  · exact seg_core (vx := vx) (vy := vy) h p1.symm p2.symm p6.symm p7.symm (by omega) (by omega) (by omega) (by omega)
end Go.Proofs.Ytmoclgpdcnjacaa.Sx
