import Derived.Test.YtliimpbbppbghaaUTf
set_option linter.all false
set_option autoImplicit false
set_option maxRecDepth 1000000
set_option maxHeartbeats 0
namespace Go.Proofs.Ytliimpbbppbghaa.Sx
open Go Go.RowKit
def FK5 : List (B × Bool) := [(.eq (.app 0 (tl [.lit 0, .lit 7])) (.lit 5), true)]
theorem made_K5 : leavesS shpOk (execF Try.prog ctG 20 9 [.c (.abs 0 .nil)] ⟨[], 0, ⟨FK5, [0, 20, 21, 24, 25], 0⟩⟩) = true := by kernel_rfl
end Go.Proofs.Ytliimpbbppbghaa.Sx

