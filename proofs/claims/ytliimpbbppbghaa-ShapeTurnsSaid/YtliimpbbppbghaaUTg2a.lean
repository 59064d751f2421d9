import Derived.Test.YtliimpbbppbghaaUTf
set_option linter.all false
set_option autoImplicit false
set_option maxRecDepth 1000000
set_option maxHeartbeats 0
namespace Go.Proofs.Ytliimpbbppbghaa.Sx
open Go Go.RowKit
def FK2a : List (B × Bool) := [(.eq (.app 0 (tl [.lit 0, .lit 7])) (.lit 2), true), (.eq (.app 0 (tl [.lit 5, .lit 3])) (.lit 0), true)]
theorem made_K2a : leavesS shpOk (execF Try.prog ctG 20 9 [.c (.abs 0 .nil)] ⟨[], 0, ⟨FK2a, [0, 20, 21, 24, 25], 0⟩⟩) = true := by kernel_rfl
def FK2b : List (B × Bool) := [(.eq (.app 0 (tl [.lit 0, .lit 7])) (.lit 2), true), (.eq (.app 0 (tl [.lit 5, .lit 3])) (.lit 1), true)]
theorem made_K2b : leavesS shpOk (execF Try.prog ctG 20 9 [.c (.abs 0 .nil)] ⟨[], 0, ⟨FK2b, [0, 20, 21, 24, 25], 0⟩⟩) = true := by kernel_rfl
end Go.Proofs.Ytliimpbbppbghaa.Sx

