/- Lines through a point, and from the centre of an arc. -/
import Derived.Test.YtmoclgpdcnjacaaMm3
set_option linter.all false
set_option autoImplicit false
namespace Go.Proofs.Ytmoclgpdcnjacaa.Sx
open Go Go.RowKit

section
variable {k ax ay bx by' cx cy k2 px py qx qy rx ry : Int}
/-- Lines that are not parallel have one common point at most. -/
theorem ll_01 (hk : k = 1) (hk2 : k2 = 1) (hc : (bx - ax) * (qy - py) - (by' - ay) * (qx - px) ≠ 0) : countOk k ax ay bx by' cx cy k2 px py qx qy rx ry = 0 ∨ countOk k ax ay bx by' cx cy k2 px py qx qy rx ry = 1 := by
  unfold countOk
  split
  · exact .inl rfl
  · rw [if_pos ⟨hk, hk2⟩]
    split
    · rename_i h
      exfalso
      rcases h with ⟨h1, h2⟩ | ⟨h1, h2⟩ | h
      · subst h1 h2; apply hc; simp
      · subst h1 h2; apply hc; simp
      · exact hc h
    · unfold crossZ2
      split <;> split <;> simp
theorem line_ok (h1 : -1000000 ≤ ax ∧ ax ≤ 1000000 ∧ -1000000 ≤ ay ∧ ay ≤ 1000000) (h2 : -1000000 ≤ bx ∧ bx ≤ 1000000 ∧ -1000000 ≤ by' ∧ by' ≤ 1000000) : okP 1 ax ay bx by' 0 0 :=
  ⟨by omega, by omega, by unfold rightP; omega, by unfold rightP; omega, by unfold rightP; omega, .inl ⟨rfl, rfl, rfl⟩⟩
end
theorem mid_on {p1 p2 u1 u2 : Int} (h : okP 1 (p1 - u1) (p2 - u2) (p1 + u1) (p2 + u2) 0 0) : onP 1 (p1 - u1) (p2 - u2) (p1 + u1) (p2 + u2) 0 0 p1 p2 := by
  refine ⟨h, by unfold boxP; omega, .inl ⟨rfl, ?_⟩⟩
  unfold crossP
  have e1 : p1 + u1 - (p1 - u1) = 2 * u1 := by omega
  have e2 : p2 + u2 - (p2 - u2) = 2 * u2 := by omega
  have e3 : p2 - (p2 - u2) = u2 := by omega
  have e4 : p1 - (p1 - u1) = u1 := by omega
  rw [e1, e2, e3, e4, Int.mul_assoc, Int.mul_assoc, Int.mul_comm u2 u1]
  omega
/-- Two lines through a point, in different directions. -/
theorem thr_lines {p1 p2 u1 u2 v1 v2 : Int} (hp : -1000 ≤ p1 ∧ p1 ≤ 1000 ∧ -1000 ≤ p2 ∧ p2 ≤ 1000) (hu : -1000 ≤ u1 ∧ u1 ≤ 1000 ∧ -1000 ≤ u2 ∧ u2 ≤ 1000) (hv : -1000 ≤ v1 ∧ v1 ≤ 1000 ∧ -1000 ≤ v2 ∧ v2 ≤ 1000) (h : u1 * v2 - u2 * v1 ≠ 0) :
    countZ 1 (p1 - u1) (p2 - u2) (p1 + u1) (p2 + u2) 0 0 1 (p1 - v1) (p2 - v2) (p1 + v1) (p2 + v2) 0 0 = 1 := by
  have ha : okP 1 (p1 - u1) (p2 - u2) (p1 + u1) (p2 + u2) 0 0 := line_ok (by omega) (by omega)
  have hb : okP 1 (p1 - v1) (p2 - v2) (p1 + v1) (p2 + v2) 0 0 := line_ok (by omega) (by omega)
  have h1 := common_ne (mid_on ha) (mid_on hb)
  unfold countZ
  rw [if_pos ⟨ha, hb⟩]
  refine (ll_01 (k := 1) (k2 := 1) rfl rfl ?_).resolve_left h1
  have e1 : p1 + u1 - (p1 - u1) = 2 * u1 := by omega
  have e2 : p2 + u2 - (p2 - u2) = 2 * u2 := by omega
  have e3 : p1 + v1 - (p1 - v1) = 2 * v1 := by omega
  have e4 : p2 + v2 - (p2 - v2) = 2 * v2 := by omega
  rw [e1, e2, e3, e4]
  have m : ∀ a b : Int, 2 * a * (2 * b) = 4 * (a * b) := fun a b => by grind
  rw [m, m]
  omega
theorem sgS_le {a b c : Int} (hb : 0 ≤ b) (hc : 0 ≤ c) (ha : a ≤ 0) (h : b * b * c ≤ a * a) : sgS a b c ≤ 0 := by
  obtain ⟨h1, h2, h3, h4, h5, h6⟩ := sgS_spec a b c
  have z0 : 0 ≤ b * b * c := Int.mul_nonneg (sq_nonneg b) hc
  by_cases hb0 : b = 0 ∨ c = 0
  · have := h2 hc hb0; omega
  · have hbb : 0 < b * b := Int.mul_pos (by omega) (by omega)
    have hz : 0 < b * b * c := Int.mul_pos hbb (by omega)
    have ha0 : a ≠ 0 := fun e => by subst e; simp at h; omega
    have := h5 (by omega) (by omega) (by omega)
    omega
theorem sgS_0 {b c : Int} (hc : 0 < c) : sgS 0 b c = sg b := by
  obtain ⟨h1, h2, h3, h4, h5, h6⟩ := sgS_spec 0 b c
  unfold sg
  rcases Int.lt_trichotomy b 0 with h | h | h
  · rw [if_pos h]; exact h3 hc h (by omega)
  · rw [if_neg (by omega), if_neg (by omega)]; exact (h2 (by omega) (.inl h)).2.1 rfl
  · rw [if_neg (by omega), if_pos h]; exact h4 hc h (by omega)
/-- What the ray's far bound comes to. -/
theorem far_sq {m n r N : Int} (hm : 0 ≤ m) (hr : 0 ≤ r) (hmr : m = 0 ∨ r ≤ m) (hN : N = m * m + n * n) : m * m * (4 * N * (r * r)) ≤ (0 - 2 * N * min m r) * (0 - 2 * N * min m r) := by
  have hN0 : 0 ≤ N := by have := sq_nonneg m; have := sq_nonneg n; omega
  have hn := sq_nonneg n
  have hm2 : m * m ≤ N := by omega
  have e : (0 - 2 * N * min m r) * (0 - 2 * N * min m r) = 4 * (N * (N * (min m r * min m r))) := by grind
  have e2 : m * m * (4 * N * (r * r)) = 4 * (N * (m * m * (r * r))) := by grind
  rw [e, e2]
  have : N * (m * m * (r * r)) ≤ N * (N * (min m r * min m r)) := by
    apply Int.mul_le_mul_of_nonneg_left _ hN0
    rcases hmr with h | h
    · subst h; simp [show min 0 r = 0 by omega]
    · rw [show min m r = r by omega]
      exact Int.mul_le_mul_of_nonneg_right hm2 (sq_nonneg r)
  omega
/-- A line from the centre of an arc, far enough, or a point there. -/
theorem thr_ray {p1 p2 m n r : Int} (hp : -1000 ≤ p1 ∧ p1 ≤ 1000 ∧ -1000 ≤ p2 ∧ p2 ≤ 1000) (hr1 : 1 ≤ r) (hr2 : r ≤ 1000) (hm0 : 0 ≤ m) (hn0 : 0 ≤ n) (hm1 : m ≤ 10000) (hn1 : n ≤ 10000) (hm : m = 0 ∨ r ≤ m) (hn : n = 0 ∨ r ≤ n) :
    okP 2 (p1 + r) p2 p1 (p2 + r) p1 p2 ∧ countZ 1 p1 p2 (p1 + m) (p2 + n) 0 0 2 (p1 + r) p2 p1 (p2 + r) p1 p2 = if m = 0 ∧ n = 0 then 0 else 1 := by
  have ha : okP 1 p1 p2 (p1 + m) (p2 + n) 0 0 := line_ok (by omega) (by omega)
  have hb : okP 2 (p1 + r) p2 p1 (p2 + r) p1 p2 := ⟨by omega, by omega, by unfold rightP; omega, by unfold rightP; omega, by unfold rightP; omega, .inr (by unfold arcP; omega)⟩
  refine ⟨hb, ?_⟩
  have hrad : radiusZ 2 (p1 + r) p2 p1 (p2 + r) p1 p2 = r := by
    unfold radiusZ
    rw [if_pos ⟨by omega, hb⟩]
    omega
  unfold countZ
  rw [if_pos ⟨ha, hb⟩]
  unfold countOk
  rw [if_neg (by unfold ovP; omega), if_neg (by omega), if_pos rfl]
  by_cases h0 : m = 0 ∧ n = 0
  · rw [if_pos (by omega), if_pos h0]
    have hE := ends_spec (k := 1) (ax := p1) (ay := p2) (bx := p1 + m) (by' := p2 + n) (cx := 0) (cy := 0) (k2 := 2) (px := p1 + r) (py := p2) (qx := p1) (qy := p2 + r) (rx := p1) (ry := p2)
    refine hE.uniq (T := fun _ => False) (.inr (.inl ⟨rfl, fun z h => h⟩)) fun z => ⟨fun h => ?_, fun h => h.elim⟩
    obtain ⟨-, h1, h2⟩ := h
    have b1 := h1.2.1
    unfold boxP at b1
    rcases h2.2.2 with h | h
    · omega
    · have hd := h.2
      unfold dist2 at hd
      have e1 : z.1 - p1 = 0 := by omega
      have e2 : z.2 - p2 = 0 := by omega
      have e3 : p1 + r - p1 = r := by omega
      have e4 : p2 - p2 = 0 := by omega
      rw [e1, e2, e3, e4] at hd
      have := sq_pos (show r ≠ 0 by omega)
      omega
  · rw [if_neg (by omega), if_neg h0]
    unfold lcZ
    rw [hrad]
    have e1 : p2 + n - p2 = n := by omega
    have e2 : p1 + m - p1 = m := by omega
    have e3 : p2 - p2 = 0 := by omega
    have e4 : p1 - p1 = 0 := by omega
    rw [e1, e2, e3, e4]
    have e5 : 2 * (m * 0 - n * 0) = 0 := by simp
    rw [e5]
    have x0 : max (min p1 (p1 + m)) (min (p1 + r) p1) = p1 := by omega
    have y0 : max (min p2 (p2 + n)) (min p2 (p2 + r)) = p2 := by omega
    have x1 : min (max p1 (p1 + m)) (max (p1 + r) p1) = p1 + min m r := by omega
    have y1 : min (max p2 (p2 + n)) (max p2 (p2 + r)) = p2 + min n r := by omega
    rw [x0, y0, x1, y1]
    unfold cutZ
    have hN : 0 < m * m + n * n := by
      have := sq_nonneg m; have := sq_nonneg n
      by_cases h : m = 0
      · have := sq_pos (show n ≠ 0 by omega); omega
      · have := sq_pos h; omega
    have eN : (0 - n) * (0 - n) + m * m = m * m + n * n := by grind
    rw [eN]
    have eU : 4 * (m * m + n * n) * (r * r) - 0 * 0 = 4 * (m * m + n * n) * (r * r) := by simp
    rw [eU]
    have hU : 0 < 4 * (m * m + n * n) * (r * r) := Int.mul_pos (by omega) (sq_pos (by omega))
    have fm := far_sq (n := n) hm0 (by omega) hm rfl
    have fn := far_sq (m := n) (n := m) (N := m * m + n * n) hn0 (show 0 ≤ r by omega) hn (by omega)
    generalize hU' : 4 * (m * m + n * n) * (r * r) = U at *
    generalize m * m + n * n = N at *
    rw [if_neg (by omega)]
    have w1 : ¬ withinP p1 p2 (0 - n) m (0 - m) (0 - n) 0 (2 * N) U p1 p2 (p1 + min m r) (p2 + min n r) := by
      rintro ⟨h1, -, h2, -⟩
      unfold ordZ at h1 h2
      have q : ∀ d b x : Int, 0 * d - b * (x - x) = 0 := fun d b x => by simp
      rw [q, sgS_0 hU] at h1 h2
      have := sg_ge.1 h1
      have := sg_ge.1 h2
      omega
    have w2 : withinP p1 p2 (0 - n) m (0 - (0 - m)) (0 - (0 - n)) 0 (2 * N) U p1 p2 (p1 + min m r) (p2 + min n r) := by
      have q : ∀ d b x : Int, 0 * d - b * (x - x) = 0 := fun d b x => by simp
      have q2 : ∀ d b x y : Int, 0 * d - b * (x + y - x) = 0 - b * y := fun d b x y => by rw [show x + y - x = y by omega]; simp
      have z1 : (0 : Int) - (0 - m) = m := by omega
      have z2 : (0 : Int) - (0 - n) = n := by omega
      refine ⟨?_, ?_, ?_, ?_⟩
      · unfold ordZ; rw [q, sgS_0 hU, z1]; exact sg_ge.2 hm0
      · unfold ordZ; rw [q2, z1]
        refine sgS_le hm0 (by omega) ?_ fm
        have := Int.mul_nonneg (show 0 ≤ 2 * N by omega) (show 0 ≤ min m r by omega)
        omega
      · unfold ordZ; rw [q, sgS_0 hU, z2]; exact sg_ge.2 hn0
      · unfold ordZ; rw [q2, z2]
        refine sgS_le hn0 (by omega) ?_ fn
        have := Int.mul_nonneg (show 0 ≤ 2 * N by omega) (show 0 ≤ min n r by omega)
        omega
    rw [if_neg w1, if_pos ⟨hU, w2⟩]
    rfl
end Go.Proofs.Ytmoclgpdcnjacaa.Sx
