import Derived.Test.YtliimpbbppbghaaUTf
set_option linter.all false
set_option autoImplicit false
set_option maxRecDepth 1000000
set_option maxHeartbeats 0
namespace Go.Proofs.Ytliimpbbppbghaa.Sx
open Go Go.RowKit
def FK0 : List (B × Bool) := [(.eq (.app 0 (tl [.lit 0, .lit 7])) (.lit 0), true)]
theorem made_K0 : leavesS shpOk (execF Try.prog ctG 20 9 [.c (.abs 0 .nil)] ⟨[], 0, ⟨FK0, [0, 20, 21, 24, 25], 0⟩⟩) = true := by kernel_rfl
def FK1 : List (B × Bool) := [(.eq (.app 0 (tl [.lit 0, .lit 7])) (.lit 1), true)]
theorem made_K1 : leavesS shpOk (execF Try.prog ctG 20 9 [.c (.abs 0 .nil)] ⟨[], 0, ⟨FK1, [0, 20, 21, 24, 25], 0⟩⟩) = true := by kernel_rfl
def FK4 : List (B × Bool) := [(.eq (.app 0 (tl [.lit 0, .lit 7])) (.lit 4), true)]
theorem made_K4 : leavesS shpOk (execF Try.prog ctG 20 9 [.c (.abs 0 .nil)] ⟨[], 0, ⟨FK4, [0, 20, 21, 24, 25], 0⟩⟩) = true := by kernel_rfl
def FK6 : List (B × Bool) := [(.eq (.app 0 (tl [.lit 0, .lit 7])) (.lit 6), true)]
theorem made_K6 : leavesS shpOk (execF Try.prog ctG 20 9 [.c (.abs 0 .nil)] ⟨[], 0, ⟨FK6, [0, 20, 21, 24, 25], 0⟩⟩) = true := by kernel_rfl
end Go.Proofs.Ytliimpbbppbghaa.Sx

