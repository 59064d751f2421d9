import Derived.Test.YtgnogdncoljldaaGreatQSMa
import Derived.Test.YtgnogdncoljldaaGreatQMM
set_option linter.all false
set_option autoImplicit false
namespace Go.Proofs.YtgnogdncoljldaaGreat.Sx
open Go Go.RowKit
def ovP (ax ay bx by' px py qx qy : Int) : Prop := max (min ax bx) (min px qx) ≤ min (max ax bx) (max px qx) ∧ max (min ay by') (min py qy) ≤ min (max ay by') (max py qy)
instance (ax ay bx by' px py qx qy : Int) : Decidable (ovP ax ay bx by' px py qx qy) := by unfold ovP; infer_instance
def cutZ (cx cy nx ny lev r x0 y0 x1 y1 : Int) : Int :=
 if 4 * (nx * nx + ny * ny) * (r * r) - lev * lev < 0 then 0
 else (if withinP cx cy nx ny (0 - ny) nx lev (2 * (nx * nx + ny * ny)) (4 * (nx * nx + ny * ny) * (r * r) - lev * lev) x0 y0 x1 y1 then 1 else 0) +
  (if 0 < 4 * (nx * nx + ny * ny) * (r * r) - lev * lev ∧ withinP cx cy nx ny (0 - (0 - ny)) (0 - nx) lev (2 * (nx * nx + ny * ny)) (4 * (nx * nx + ny * ny) * (r * r) - lev * lev) x0 y0 x1 y1 then 1 else 0)
def crossZ2 (ax ay dx dy px py ex ey x0 y0 x1 y1 : Int) : Int :=
 if dx * ey - dy * ex < 0 then (if withinP ax ay dx dy 0 0 (0 - ((px - ax) * ey - (py - ay) * ex)) (0 - (dx * ey - dy * ex)) 0 x0 y0 x1 y1 then 1 else 0)
 else (if withinP ax ay dx dy 0 0 ((px - ax) * ey - (py - ay) * ex) (dx * ey - dy * ex) 0 x0 y0 x1 y1 then 1 else 0)
def lcZ (ax ay bx by' cx cy r x0 y0 x1 y1 : Int) : Int := cutZ cx cy (0 - (by' - ay)) (bx - ax) (2 * ((bx - ax) * (ay - cy) - (by' - ay) * (ax - cx))) r x0 y0 x1 y1
def ccZ (cx cy r dx dy q x0 y0 x1 y1 : Int) : Int := cutZ cx cy (dx - cx) (dy - cy) ((dx - cx) * (dx - cx) + (dy - cy) * (dy - cy) + r * r - q * q) r x0 y0 x1 y1
def countOk (k ax ay bx by' cx cy k2 px py qx qy rx ry : Int) : Int :=
 if ¬ ovP ax ay bx by' px py qx qy then 0
 else if k = 1 ∧ k2 = 1 then
  (if (ax = bx ∧ ay = by') ∨ (px = qx ∧ py = qy) ∨ (bx - ax) * (qy - py) - (by' - ay) * (qx - px) = 0 then endsZ k ax ay bx by' cx cy k2 px py qx qy rx ry
  else crossZ2 ax ay (bx - ax) (by' - ay) px py (qx - px) (qy - py) (max (min ax bx) (min px qx)) (max (min ay by') (min py qy)) (min (max ax bx) (max px qx)) (min (max ay by') (max py qy)))
 else if k = 1 then
  (if ax = bx ∧ ay = by' then endsZ k ax ay bx by' cx cy k2 px py qx qy rx ry
  else lcZ ax ay bx by' rx ry (radiusZ k2 px py qx qy rx ry) (max (min ax bx) (min px qx)) (max (min ay by') (min py qy)) (min (max ax bx) (max px qx)) (min (max ay by') (max py qy)))
 else if k2 = 1 then
  (if px = qx ∧ py = qy then endsZ k ax ay bx by' cx cy k2 px py qx qy rx ry
  else lcZ px py qx qy cx cy (radiusZ k ax ay bx by' cx cy) (max (min ax bx) (min px qx)) (max (min ay by') (min py qy)) (min (max ax bx) (max px qx)) (min (max ay by') (max py qy)))
 else if cx = rx ∧ cy = ry then endsZ k ax ay bx by' cx cy k2 px py qx qy rx ry
 else ccZ cx cy (radiusZ k ax ay bx by' cx cy) rx ry (radiusZ k2 px py qx qy rx ry) (max (min ax bx) (min px qx)) (max (min ay by') (min py qy)) (min (max ax bx) (max px qx)) (min (max ay by') (max py qy))
def countZ (k ax ay bx by' cx cy k2 px py qx qy rx ry : Int) : Int := if okP k ax ay bx by' cx cy ∧ okP k2 px py qx qy rx ry then countOk k ax ay bx by' cx cy k2 px py qx qy rx ry else 0
end Go.Proofs.YtgnogdncoljldaaGreat.Sx

