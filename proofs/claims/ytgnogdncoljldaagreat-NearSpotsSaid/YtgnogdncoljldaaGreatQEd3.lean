import Derived.Test.YtgnogdncoljldaaGreatQEd2
set_option linter.all false
namespace Go.Proofs.YtgnogdncoljldaaGreat.Sx
open Go Go.RowKit
def okP (k ax ay bx by' cx cy : Int) : Prop := 1 ≤ k ∧ k ≤ 3 ∧ rightP ax ay ∧ rightP bx by' ∧ rightP cx cy ∧ (lineP k ax ay bx by' cx cy ∨ arcP k ax ay bx by' cx cy)
instance (k ax ay bx by' cx cy : Int) : Decidable (okP k ax ay bx by' cx cy) := by unfold okP; infer_instance
def boxP (ax ay bx by' px py : Int) : Prop := min ax bx ≤ px ∧ px ≤ max ax bx ∧ min ay by' ≤ py ∧ py ≤ max ay by'
instance (ax ay bx by' px py : Int) : Decidable (boxP ax ay bx by' px py) := by unfold boxP; infer_instance
def crossP (ax ay bx by' px py : Int) : Int := (bx - ax) * (py - ay) - (by' - ay) * (px - ax)
def dist2 (x y u v : Int) : Int := (x - u) * (x - u) + (y - v) * (y - v)
def onP (k ax ay bx by' cx cy px py : Int) : Prop := okP k ax ay bx by' cx cy ∧ boxP ax ay bx by' px py ∧ ((k = 1 ∧ crossP ax ay bx by' px py = 0) ∨ (k ≠ 1 ∧ dist2 px py cx cy = dist2 ax ay cx cy))
instance (k ax ay bx by' cx cy px py : Int) : Decidable (onP k ax ay bx by' cx cy px py) := by unfold onP; infer_instance
end Go.Proofs.YtgnogdncoljldaaGreat.Sx

