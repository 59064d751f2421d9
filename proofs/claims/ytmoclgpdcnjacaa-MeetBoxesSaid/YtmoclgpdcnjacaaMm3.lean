/- Mathematics of layer 7: edges with a common whole point meet. -/
import Derived.Test.YtmoclgpdcnjacaaMm2
import Derived.Test.YtmoclgpdcnjacaaMf
set_option linter.all false
set_option autoImplicit false
namespace Go.Proofs.Ytmoclgpdcnjacaa.Sx
open Go Go.RowKit

section
variable {k ax ay bx by' cx cy k2 px py qx qy rx ry p1 p2 : Int}
theorem line_on (hk : k = 1) (h : okP k ax ay bx by' cx cy) (z1 z2 : Int) : onP k ax ay bx by' cx cy z1 z2 ↔ segR (ax - p1) (ay - p2) (bx - p1) (by' - p2) (z1 - p1) (z2 - p2) := by
  unfold onP boxP segR crossP
  rw [show bx - p1 - (ax - p1) = bx - ax by omega, show z2 - p2 - (ay - p2) = z2 - ay by omega, show by' - p2 - (ay - p2) = by' - ay by omega, show z1 - p1 - (ax - p1) = z1 - ax by omega]
  constructor
  · rintro ⟨-, ⟨h1, h2, h3, h4⟩, h5⟩
    rcases h5 with ⟨-, h5⟩ | ⟨h5, -⟩
    · exact ⟨by omega, by omega, by omega, by omega, h5⟩
    · exact absurd hk h5
  · rintro ⟨h1, h2, h3, h4, h5⟩
    exact ⟨h, ⟨by omega, by omega, by omega, by omega⟩, .inl ⟨hk, h5⟩⟩
theorem arc_form (h : arcP k ax ay bx by' cx cy) : ∃ X Y, X ≠ cx ∧ Y ≠ cy ∧ (X - cx = Y - cy ∨ X - cx = -(Y - cy)) ∧ ((ax = X ∧ ay = cy ∧ bx = cx ∧ by' = Y) ∨ (ax = cx ∧ ay = Y ∧ bx = X ∧ by' = cy)) := by
  unfold arcP at h
  by_cases h0 : ax = cx
  · exact ⟨bx, ay, by omega, by omega, by omega, by omega⟩
  · exact ⟨ax, by', by omega, by omega, by omega, by omega⟩
theorem on_ends (h : okP k ax ay bx by' cx cy) : onP k ax ay bx by' cx cy ax ay ∧ onP k ax ay bx by' cx cy bx by' := by
  by_cases hk : k = 1
  · rw [line_on (p1 := 0) (p2 := 0) hk h, line_on (p1 := 0) (p2 := 0) hk h]
    unfold segR
    refine ⟨⟨by omega, by omega, by omega, by omega, ?_⟩, ⟨by omega, by omega, by omega, by omega, ?_⟩⟩ <;> grind
  · have ha := ok_arc h hk
    unfold onP boxP
    refine ⟨⟨h, by omega, .inr ⟨hk, rfl⟩⟩, ⟨h, by omega, .inr ⟨hk, ?_⟩⟩⟩
    unfold dist2
    rcases ha with ⟨-, ⟨-, e1, e2⟩ | ⟨-, e1, e2⟩⟩ <;> (rw [e1, e2]; grind)
theorem rad_sq (h : okP k ax ay bx by' cx cy) (hk : k ≠ 1) : radiusZ k ax ay bx by' cx cy * radiusZ k ax ay bx by' cx cy = dist2 ax ay cx cy := by
  have ha := ok_arc h hk
  unfold radiusZ
  rw [if_pos ⟨hk, h⟩, show cx - ax = 0 - (ax - cx) by omega, show cy - ay = 0 - (ay - cy) by omega]
  exact rsum _ _ (by unfold arcP at ha; omega)
theorem over_of (h1 : onP k ax ay bx by' cx cy p1 p2) (h2 : onP k2 px py qx qy rx ry p1 p2) : ovP ax ay bx by' px py qx qy ∧ max (min ax bx) (min px qx) ≤ p1 ∧ p1 ≤ min (max ax bx) (max px qx) ∧ max (min ay by') (min py qy) ≤ p2 ∧ p2 ≤ min (max ay by') (max py qy) := by
  have a1 := h1.2.1
  have a2 := h2.2.1
  unfold boxP at a1 a2
  unfold ovP
  omega
/-- There is a common end. -/
theorem ends_ne (h : ∃ z, endP k ax ay bx by' cx cy k2 px py qx qy rx ry z) : endsZ k ax ay bx by' cx cy k2 px py qx qy rx ry ≠ 0 := by
  obtain ⟨z, hz⟩ := h
  rcases ends_spec k ax ay bx by' cx cy k2 px py qx qy rx ry with ⟨h, -⟩ | ⟨-, h⟩ | ⟨h, -⟩
  · omega
  · exact absurd hz (h z)
  · omega
theorem lines_end (hk : k = 1) (hk2 : k2 = 1) (h1 : onP k ax ay bx by' cx cy p1 p2) (h2 : onP k2 px py qx qy rx ry p1 p2) (hp : (bx - ax) * (qy - py) - (by' - ay) * (qx - px) = 0) : ∃ z, endP k ax ay bx by' cx cy k2 px py qx qy rx ry z := by
  have s1 := (line_on (p1 := p1) (p2 := p2) hk h1.1 p1 p2).1 h1
  have s2 := (line_on (p1 := p1) (p2 := p2) hk2 h2.1 p1 p2).1 h2
  rw [Int.sub_self, Int.sub_self] at s1 s2
  obtain ⟨zx, zy, hz, q1, q2⟩ := seg_ends s1 s2 (by
    rw [show bx - p1 - (ax - p1) = bx - ax by omega, show qy - p2 - (py - p2) = qy - py by omega, show by' - p2 - (ay - p2) = by' - ay by omega, show qx - p1 - (px - p1) = qx - px by omega]; exact hp)
  refine ⟨(zx + p1, zy + p2), ?_, ?_, ?_⟩
  · simp only [Prod.mk.injEq]; omega
  · rw [line_on (p1 := p1) (p2 := p2) hk h1.1]
    show segR _ _ _ _ (zx + p1 - p1) (zy + p2 - p2)
    rw [Int.add_sub_cancel, Int.add_sub_cancel]; exact q1
  · rw [line_on (p1 := p1) (p2 := p2) hk2 h2.1]
    show segR _ _ _ _ (zx + p1 - p1) (zy + p2 - p2)
    rw [Int.add_sub_cancel, Int.add_sub_cancel]; exact q2
/-- A line that is a point. -/
theorem point_end (hk : k = 1) (hp : ax = bx ∧ ay = by') (h1 : onP k ax ay bx by' cx cy p1 p2) (h2 : onP k2 px py qx qy rx ry p1 p2) : ∃ z, endP k ax ay bx by' cx cy k2 px py qx qy rx ry z := by
  have hb := h1.2.1
  unfold boxP at hb
  have e1 : p1 = ax := by omega
  have e2 : p2 = ay := by omega
  subst e1 e2
  exact ⟨(p1, p2), .inl rfl, h1, h2⟩
theorem point_end2 (hk : k2 = 1) (hp : px = qx ∧ py = qy) (h1 : onP k ax ay bx by' cx cy p1 p2) (h2 : onP k2 px py qx qy rx ry p1 p2) : ∃ z, endP k ax ay bx by' cx cy k2 px py qx qy rx ry z := by
  have hb := h2.2.1
  unfold boxP at hb
  have e1 : p1 = px := by omega
  have e2 : p2 = py := by omega
  subst e1 e2
  exact ⟨(p1, p2), .inr (.inr (.inl rfl)), h1, h2⟩
theorem sq_cases {x y : Int} (h : x * x = y * y) : x = y ∨ x = -y := by
  have : (x - y) * (x + y) = 0 := by grind
  rcases Int.mul_eq_zero.1 this with h | h <;> omega
set_option maxHeartbeats 4000000 in
theorem arcs_end (hk : k ≠ 1) (hk2 : k2 ≠ 1) (hc : cx = rx ∧ cy = ry) (h1 : onP k ax ay bx by' cx cy p1 p2) (h2 : onP k2 px py qx qy rx ry p1 p2) : ∃ z, endP k ax ay bx by' cx cy k2 px py qx qy rx ry z := by
  obtain ⟨rfl, rfl⟩ := hc
  obtain ⟨X, Y, x1, x2, x3, x4⟩ := arc_form (ok_arc h1.1 hk)
  obtain ⟨X', Y', y1, y2, y3, y4⟩ := arc_form (ok_arc h2.1 hk2)
  have b1 := h1.2.1
  have b2 := h2.2.1
  unfold boxP at b1 b2
  have d1 : dist2 p1 p2 cx cy = (X - cx) * (X - cx) := by
    rcases h1.2.2 with ⟨h, -⟩ | ⟨-, h⟩
    · exact absurd h hk
    · rw [h]; unfold dist2
      rcases x4 with ⟨rfl, rfl, -⟩ | ⟨rfl, rfl, -⟩
      · simp
      · rcases x3 with e | e <;> (rw [e]; simp [Int.neg_mul_neg])
  have d2 : dist2 p1 p2 cx cy = (X' - cx) * (X' - cx) := by
    rcases h2.2.2 with ⟨h, -⟩ | ⟨-, h⟩
    · exact absurd h hk2
    · rw [h]; unfold dist2
      rcases y4 with ⟨rfl, rfl, -⟩ | ⟨rfl, rfl, -⟩
      · simp
      · rcases y3 with e | e <;> (rw [e]; simp [Int.neg_mul_neg])
  obtain ⟨oa, ob⟩ := on_ends h1.1
  obtain ⟨pa, pb⟩ := on_ends h2.1
  have fin : ∀ z1 z2, ((z1 = ax ∧ z2 = ay) ∨ (z1 = bx ∧ z2 = by')) → ((z1 = px ∧ z2 = py) ∨ (z1 = qx ∧ z2 = qy)) → ∃ z, endP k ax ay bx by' cx cy k2 px py qx qy cx cy z := by
    intro z1 z2 f1 f2
    refine ⟨(z1, z2), ?_, ?_, ?_⟩
    · simp only [Prod.mk.injEq]; omega
    · rcases f1 with ⟨rfl, rfl⟩ | ⟨rfl, rfl⟩
      · exact oa
      · exact ob
    · rcases f2 with ⟨rfl, rfl⟩ | ⟨rfl, rfl⟩
      · exact pa
      · exact pb
  by_cases hX : X = X'
  · exact fin X cy (by omega) (by omega)
  by_cases hY : Y = Y'
  · exact fin cx Y (by omega) (by omega)
  exfalso
  have e := sq_cases (d1.symm.trans d2)
  have e1 : p1 = cx := by omega
  have e2 : p2 = cy := by omega
  rw [e1, e2] at d1
  have : dist2 cx cy cx cy = 0 := by unfold dist2; simp
  rw [this] at d1
  have := sq_pos (x := X - cx) (by omega)
  omega
theorem within0 {ax ay dx dy t b x0 y0 x1 y1 : Int} : withinP ax ay dx dy 0 0 t b 0 x0 y0 x1 y1 ↔ 0 ≤ t * dx - b * (x0 - ax) ∧ t * dx - b * (x1 - ax) ≤ 0 ∧ 0 ≤ t * dy - b * (y0 - ay) ∧ t * dy - b * (y1 - ay) ≤ 0 := by
  unfold withinP ordZ
  rw [sgS_zero, sgS_zero, sgS_zero, sgS_zero, sg_ge, sg_ge, sg_le, sg_le]
/-- Two lines that cross in a whole point of the box. -/
theorem cross_pt {ax ay dx dy px py ex ey x0 y0 x1 y1 p1 p2 : Int} (h1 : dx * (p2 - ay) - dy * (p1 - ax) = 0) (h2 : ex * (p2 - py) - ey * (p1 - px) = 0) (hx0 : x0 ≤ p1) (hx1 : p1 ≤ x1) (hy0 : y0 ≤ p2) (hy1 : p2 ≤ y1) :
    crossZ2 ax ay dx dy px py ex ey x0 y0 x1 y1 = 1 := by
  unfold crossZ2
  obtain ⟨T, hT⟩ : ∃ T, T = (px - ax) * ey - (py - ay) * ex := ⟨_, rfl⟩
  obtain ⟨D, hD⟩ : ∃ D, D = dx * ey - dy * ex := ⟨_, rfl⟩
  have e1 : T * dx = D * (p1 - ax) := by grind
  have e2 : T * dy = D * (p2 - ay) := by grind
  rw [← hT, ← hD]
  have m : ∀ {s u v : Int}, 0 ≤ s → u ≤ v → s * u ≤ s * v := fun h1 h2 => Int.mul_le_mul_of_nonneg_left h2 h1
  split
  · rename_i h
    rw [if_pos]
    rw [within0]
    have g1 := m (s := 0 - D) (u := x0 - ax) (v := p1 - ax) (by omega) (by omega)
    have g2 := m (s := 0 - D) (u := p1 - ax) (v := x1 - ax) (by omega) (by omega)
    have g3 := m (s := 0 - D) (u := y0 - ay) (v := p2 - ay) (by omega) (by omega)
    have g4 := m (s := 0 - D) (u := p2 - ay) (v := y1 - ay) (by omega) (by omega)
    have f1 : (0 - T) * dx = (0 - D) * (p1 - ax) := by grind
    have f2 : (0 - T) * dy = (0 - D) * (p2 - ay) := by grind
    rw [f1, f2]
    omega
  · rename_i h
    rw [if_pos]
    rw [within0]
    have g1 := m (s := D) (u := x0 - ax) (v := p1 - ax) (by omega) (by omega)
    have g2 := m (s := D) (u := p1 - ax) (v := x1 - ax) (by omega) (by omega)
    have g3 := m (s := D) (u := y0 - ay) (v := p2 - ay) (by omega) (by omega)
    have g4 := m (s := D) (u := p2 - ay) (v := y1 - ay) (by omega) (by omega)
    rw [e1, e2]
    omega
/-- A circle and an axis with a common whole point in the box. -/
theorem cut_pt {cx cy nx ny lev r x0 y0 x1 y1 p1 p2 : Int} (h1 : dist2 p1 p2 cx cy = r * r) (h2 : 2 * (nx * (p1 - cx) + ny * (p2 - cy)) = lev) (hx0 : x0 ≤ p1) (hx1 : p1 ≤ x1) (hy0 : y0 ≤ p2) (hy1 : p2 ≤ y1) :
    1 ≤ cutZ cx cy nx ny lev r x0 y0 x1 y1 := by
  obtain ⟨zx, hzx⟩ : ∃ zx, zx = p1 - cx := ⟨_, rfl⟩
  obtain ⟨zy, hzy⟩ : ∃ zy, zy = p2 - cy := ⟨_, rfl⟩
  obtain ⟨g, hg⟩ : ∃ g, g = 2 * (nx * zy - ny * zx) := ⟨_, rfl⟩
  obtain ⟨n2, hn2⟩ : ∃ n2, n2 = nx * nx + ny * ny := ⟨_, rfl⟩
  unfold dist2 at h1
  rw [← hzx, ← hzy] at h1 h2
  have hU : 4 * n2 * (r * r) - lev * lev = g * g := by grind
  have hgg := sq_nonneg g
  have hb : 0 ≤ 2 * n2 := by have := sq_nonneg nx; have := sq_nonneg ny; omega
  have ex : lev * nx + (0 - ny) * g = 2 * n2 * zx := by grind
  have ey : lev * ny + nx * g = 2 * n2 * zy := by grind
  have m : ∀ {s u v : Int}, 0 ≤ s → u ≤ v → s * u ≤ s * v := fun h1 h2 => Int.mul_le_mul_of_nonneg_left h2 h1
  have g1 := m (s := 2 * n2) (u := x0 - cx) (v := zx) hb (by omega)
  have g2 := m (s := 2 * n2) (u := zx) (v := x1 - cx) hb (by omega)
  have g3 := m (s := 2 * n2) (u := y0 - cy) (v := zy) hb (by omega)
  have g4 := m (s := 2 * n2) (u := zy) (v := y1 - cy) hb (by omega)
  unfold cutZ
  rw [← hn2, hU, if_neg (by omega)]
  rcases Int.le_total 0 g with h | h
  · rw [if_pos]
    · split <;> omega
    · unfold withinP ordZ
      rw [sgS_sq _ _ _ h, sgS_sq _ _ _ h, sgS_sq _ _ _ h, sgS_sq _ _ _ h, sg_ge, sg_ge, sg_le, sg_le]
      omega
  · rcases Int.lt_or_eq_of_le h with h0 | h0
    · have hgp : 0 < g * g := sq_pos (by omega)
      have e : g * g = (-g) * (-g) := (Int.neg_mul_neg _ _).symm
      have hw : withinP cx cy nx ny (0 - (0 - ny)) (0 - nx) lev (2 * n2) (g * g) x0 y0 x1 y1 := by
        unfold withinP ordZ
        rw [e, sgS_sq _ _ _ (by omega), sgS_sq _ _ _ (by omega), sgS_sq _ _ _ (by omega), sgS_sq _ _ _ (by omega), sg_ge, sg_ge, sg_le, sg_le]
        have f1 : (0 - (0 - ny)) * -g = (0 - ny) * g := by grind
        have f2 : (0 - nx) * -g = nx * g := by grind
        rw [f1, f2]
        omega
      rw [if_pos (show 0 < g * g ∧ _ from ⟨hgp, hw⟩)]
      split <;> omega
    · subst h0
      rw [if_pos]
      · split <;> omega
      · unfold withinP ordZ
        simp only [Int.mul_zero, sgS_zero, sg_ge, sg_le]
        simp only [Int.mul_zero, Int.add_zero] at ex ey
        omega
/-- Edges with a common whole point meet. -/
theorem common_ne (h1 : onP k ax ay bx by' cx cy p1 p2) (h2 : onP k2 px py qx qy rx ry p1 p2) : countOk k ax ay bx by' cx cy k2 px py qx qy rx ry ≠ 0 := by
  obtain ⟨ho, o1, o2, o3, o4⟩ := over_of h1 h2
  unfold countOk
  rw [if_neg (fun h => h ho)]
  have line : ∀ {k ax ay bx by' cx cy : Int}, k = 1 → onP k ax ay bx by' cx cy p1 p2 → (bx - ax) * (p2 - ay) - (by' - ay) * (p1 - ax) = 0 := fun hk h => by
    rcases h.2.2 with ⟨-, h⟩ | ⟨h, -⟩
    · exact h
    · exact absurd hk h
  have circ : ∀ {k ax ay bx by' cx cy : Int}, k ≠ 1 → onP k ax ay bx by' cx cy p1 p2 → dist2 p1 p2 cx cy = radiusZ k ax ay bx by' cx cy * radiusZ k ax ay bx by' cx cy := fun hk h => by
    rw [rad_sq h.1 hk]
    rcases h.2.2 with ⟨h, -⟩ | ⟨-, h⟩
    · exact absurd h hk
    · exact h
  by_cases hk : k = 1
  · by_cases hk2 : k2 = 1
    · rw [if_pos ⟨hk, hk2⟩]
      split
      · rename_i hp
        apply ends_ne
        rcases hp with hp | hp | hp
        · exact point_end hk hp h1 h2
        · exact point_end2 hk2 hp h1 h2
        · exact lines_end hk hk2 h1 h2 hp
      · rw [cross_pt (line hk h1) (line hk2 h2) o1 o2 o3 o4]; omega
    · rw [if_neg (fun h => hk2 h.2), if_pos hk]
      split
      · rename_i hp
        exact ends_ne (point_end hk hp h1 h2)
      · have hl := line hk h1
        have := cut_pt (nx := 0 - (by' - ay)) (ny := bx - ax) (lev := 2 * ((bx - ax) * (ay - ry) - (by' - ay) * (ax - rx))) (circ hk2 h2) (by grind) o1 o2 o3 o4
        unfold lcZ
        omega
  · rw [if_neg (fun h => hk h.1), if_neg hk]
    by_cases hk2 : k2 = 1
    · rw [if_pos hk2]
      split
      · rename_i hp
        exact ends_ne (point_end2 hk2 hp h1 h2)
      · have hl := line hk2 h2
        have := cut_pt (nx := 0 - (qy - py)) (ny := qx - px) (lev := 2 * ((qx - px) * (py - cy) - (qy - py) * (px - cx))) (circ hk h1) (by grind) o1 o2 o3 o4
        unfold lcZ
        omega
    · rw [if_neg hk2]
      split
      · rename_i hc
        exact ends_ne (arcs_end hk hk2 hc h1 h2)
      · have c1 := circ hk h1
        have c2 := circ hk2 h2
        have := cut_pt (nx := rx - cx) (ny := ry - cy) (lev := (rx - cx) * (rx - cx) + (ry - cy) * (ry - cy) + radiusZ k ax ay bx by' cx cy * radiusZ k ax ay bx by' cx cy - radiusZ k2 px py qx qy rx ry * radiusZ k2 px py qx qy rx ry) c1 (by unfold dist2 at c1 c2; grind) o1 o2 o3 o4
        unfold ccZ
        omega
end
end Go.Proofs.Ytmoclgpdcnjacaa.Sx
