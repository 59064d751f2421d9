/- Count, by the program: what it comes to, and the table. -/
import Derived.Test.YtmoclgpdcnjacaaMb
import Derived.Test.YtmoclgpdcnjacaaMe
set_option linter.all false
set_option autoImplicit false
namespace Go.Proofs.Ytmoclgpdcnjacaa.Sx
open Go Go.RowKit

/-- How many points two edges have in common, as the program counts them. -/
def ovP (ax ay bx by' px py qx qy : Int) : Prop := max (min ax bx) (min px qx) ≤ min (max ax bx) (max px qx) ∧ max (min ay by') (min py qy) ≤ min (max ay by') (max py qy)
instance (ax ay bx by' px py qx qy : Int) : Decidable (ovP ax ay bx by' px py qx qy) := by unfold ovP; infer_instance
/-- A circle and an axis, in a box. -/
def cutZ (cx cy nx ny lev r x0 y0 x1 y1 : Int) : Int :=
  if 4 * (nx * nx + ny * ny) * (r * r) - lev * lev < 0 then 0
  else (if withinP cx cy nx ny (0 - ny) nx lev (2 * (nx * nx + ny * ny)) (4 * (nx * nx + ny * ny) * (r * r) - lev * lev) x0 y0 x1 y1 then 1 else 0) +
    (if 0 < 4 * (nx * nx + ny * ny) * (r * r) - lev * lev ∧ withinP cx cy nx ny (0 - (0 - ny)) (0 - nx) lev (2 * (nx * nx + ny * ny)) (4 * (nx * nx + ny * ny) * (r * r) - lev * lev) x0 y0 x1 y1 then 1 else 0)
/-- Two lines, in a box: a place, its way, another place and way. -/
def crossZ2 (ax ay dx dy px py ex ey x0 y0 x1 y1 : Int) : Int :=
  if dx * ey - dy * ex < 0 then (if withinP ax ay dx dy 0 0 (0 - ((px - ax) * ey - (py - ay) * ex)) (0 - (dx * ey - dy * ex)) 0 x0 y0 x1 y1 then 1 else 0)
  else (if withinP ax ay dx dy 0 0 ((px - ax) * ey - (py - ay) * ex) (dx * ey - dy * ex) 0 x0 y0 x1 y1 then 1 else 0)
/-- A line and a circle. -/
def lcZ (ax ay bx by' cx cy r x0 y0 x1 y1 : Int) : Int := cutZ cx cy (0 - (by' - ay)) (bx - ax) (2 * ((bx - ax) * (ay - cy) - (by' - ay) * (ax - cx))) r x0 y0 x1 y1
/-- Two circles. -/
def ccZ (cx cy r dx dy q x0 y0 x1 y1 : Int) : Int := cutZ cx cy (dx - cx) (dy - cy) ((dx - cx) * (dx - cx) + (dy - cy) * (dy - cy) + r * r - q * q) r x0 y0 x1 y1
def countOk (k ax ay bx by' cx cy k2 px py qx qy rx ry : Int) : Int :=
  if ¬ ovP ax ay bx by' px py qx qy then 0
  else if k = 1 ∧ k2 = 1 then
    (if (ax = bx ∧ ay = by') ∨ (px = qx ∧ py = qy) ∨ (bx - ax) * (qy - py) - (by' - ay) * (qx - px) = 0 then endsZ k ax ay bx by' cx cy k2 px py qx qy rx ry
    else crossZ2 ax ay (bx - ax) (by' - ay) px py (qx - px) (qy - py) (max (min ax bx) (min px qx)) (max (min ay by') (min py qy)) (min (max ax bx) (max px qx)) (min (max ay by') (max py qy)))
  else if k = 1 then
    (if ax = bx ∧ ay = by' then endsZ k ax ay bx by' cx cy k2 px py qx qy rx ry
    else lcZ ax ay bx by' rx ry (radiusZ k2 px py qx qy rx ry) (max (min ax bx) (min px qx)) (max (min ay by') (min py qy)) (min (max ax bx) (max px qx)) (min (max ay by') (max py qy)))
  else if k2 = 1 then
    (if px = qx ∧ py = qy then endsZ k ax ay bx by' cx cy k2 px py qx qy rx ry
    else lcZ px py qx qy cx cy (radiusZ k ax ay bx by' cx cy) (max (min ax bx) (min px qx)) (max (min ay by') (min py qy)) (min (max ax bx) (max px qx)) (min (max ay by') (max py qy)))
  else if cx = rx ∧ cy = ry then endsZ k ax ay bx by' cx cy k2 px py qx qy rx ry
  else ccZ cx cy (radiusZ k ax ay bx by' cx cy) rx ry (radiusZ k2 px py qx qy rx ry) (max (min ax bx) (min px qx)) (max (min ay by') (min py qy)) (min (max ax bx) (max px qx)) (min (max ay by') (max py qy))
def countZ (k ax ay bx by' cx cy k2 px py qx qy rx ry : Int) : Int := if okP k ax ay bx by' cx cy ∧ okP k2 px py qx qy rx ry then countOk k ax ay bx by' cx cy k2 px py qx qy rx ry else 0
def ctEnd : CT := fun g args s => bif Nat.beq g 29 then match args with
  | [.agg [.int .i64 k, .int .i64 ax, .int .i64 ay, .int .i64 bx, .int .i64 by', .int .i64 cx, .int .i64 cy], .agg [.int .i64 k2, .int .i64 px, .int .i64 py, .int .i64 qx, .int .i64 qy, .int .i64 rx, .int .i64 ry]] =>
    some ((tlM [k, ax, ay, bx, by', cx, cy, k2, px, py, qx, qy, rx, ry]).force fun a => .leaf (.c (.int .i64 (.app 11 a)), s))
  | _ => none
  else none
def ctCount : CT := ctOr ctW (ctOr ctEm (ctOr ctEnd ctP))
theorem im4 (k ax ay bx by' cx cy : Int) : IM.fi 4 [k, ax, ay, bx, by', cx, cy] = checkZ k ax ay bx by' cx cy := rfl
theorem im5 (k ax ay bx by' cx cy : Int) : IM.fi 5 [k, ax, ay, bx, by', cx, cy] = radiusZ k ax ay bx by' cx cy := rfl
theorem im11 (k ax ay bx by' cx cy k2 px py qx qy rx ry : Int) : IM.fi 11 [k, ax, ay, bx, by', cx, cy, k2, px, py, qx, qy, rx, ry] = endsZ k ax ay bx by' cx cy k2 px py qx qy rx ry := rfl
theorem im3 (ax ay dx dy sx sy t b u x0 y0 x1 y1 : Int) : IM.fb 3 [ax, ay, dx, dy, sx, sy, t, b, u, x0, y0, x1, y1] = decide (withinP ax ay dx dy sx sy t b u x0 y0 x1 y1) := rfl
theorem ctEnd_ok (ρ : Env) : CTOk Try.prog IM ρ ctEnd := by
  intro g args s t h w0 X n0 β0 β w R ht hw ha
  unfold ctEnd at h
  cases hg : Nat.beq g 29 with
  | false => rw [hg] at h; cases h
  | true =>
    have := Nat.eq_of_beq_eq_true hg
    subst this
    rw [hg] at h
    simp only [cond_true] at h
    split at h
    · simp only [T.force_eq, Option.some.injEq] at h
      subst h
      refine ct_leaf1 ?_ rfl ht hw
      exact countEnds_c _ _ _ _ _ _ _ _ _ _ _ _ _ _ w
    · cases h
theorem ctCount_ok (ρ : Env) : CTOk Try.prog IM ρ ctCount := ctOr_ok (ctW_ok rfl rfl ρ) (ctOr_ok (ctEm_ok rfl rfl ρ) (ctOr_ok (ctEnd_ok ρ) (ctP_ok rfl im_998)))
end Go.Proofs.Ytmoclgpdcnjacaa.Sx
