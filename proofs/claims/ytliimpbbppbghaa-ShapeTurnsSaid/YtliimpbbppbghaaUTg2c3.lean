import Derived.Test.YtliimpbbppbghaaUTf
set_option linter.all false
set_option autoImplicit false
set_option maxRecDepth 1000000
set_option maxHeartbeats 0
namespace Go.Proofs.Ytliimpbbppbghaa.Sx
open Go Go.RowKit
def FK23l : List (B × Bool) := [(.eq (.app 0 (tl [.lit 0, .lit 7])) (.lit 2), true), (.eq (.app 0 (tl [.lit 5, .lit 3])) (.lit 2), true), (.eq (.app 0 (tl [.lit 8, .lit 3])) (.lit 0), true), (.eq (.app 0 (tl [.lit 10, .lit 4])) (.lit 3), true), (.eq (.app 0 (tl [.lit 15, .lit 3])) (.lit 0), false)]
theorem made_K23l : leavesS shpOk (execF Try.prog ctG 20 9 [.c (.abs 0 .nil)] ⟨[], 0, ⟨FK23l, [0, 20, 21, 24, 25], 0⟩⟩) = true := by kernel_rfl
def FK230 : List (B × Bool) := [(.eq (.app 0 (tl [.lit 0, .lit 7])) (.lit 2), true), (.eq (.app 0 (tl [.lit 5, .lit 3])) (.lit 2), true), (.eq (.app 0 (tl [.lit 8, .lit 3])) (.lit 0), true), (.eq (.app 0 (tl [.lit 10, .lit 4])) (.lit 3), true), (.eq (.app 0 (tl [.lit 15, .lit 3])) (.lit 0), true), (.eq (.app 0 (tl [.lit 17, .lit 4])) (.lit 0), true)]
theorem made_K230 : leavesS shpOk (execF Try.prog ctG 20 9 [.c (.abs 0 .nil)] ⟨[], 0, ⟨FK230, [0, 20, 21, 24, 25], 0⟩⟩) = true := by kernel_rfl
def FK231 : List (B × Bool) := [(.eq (.app 0 (tl [.lit 0, .lit 7])) (.lit 2), true), (.eq (.app 0 (tl [.lit 5, .lit 3])) (.lit 2), true), (.eq (.app 0 (tl [.lit 8, .lit 3])) (.lit 0), true), (.eq (.app 0 (tl [.lit 10, .lit 4])) (.lit 3), true), (.eq (.app 0 (tl [.lit 15, .lit 3])) (.lit 0), true), (.eq (.app 0 (tl [.lit 17, .lit 4])) (.lit 1), true)]
theorem made_K231 : leavesS shpOk (execF Try.prog ctG 20 9 [.c (.abs 0 .nil)] ⟨[], 0, ⟨FK231, [0, 20, 21, 24, 25], 0⟩⟩) = true := by kernel_rfl
def FK232 : List (B × Bool) := [(.eq (.app 0 (tl [.lit 0, .lit 7])) (.lit 2), true), (.eq (.app 0 (tl [.lit 5, .lit 3])) (.lit 2), true), (.eq (.app 0 (tl [.lit 8, .lit 3])) (.lit 0), true), (.eq (.app 0 (tl [.lit 10, .lit 4])) (.lit 3), true), (.eq (.app 0 (tl [.lit 15, .lit 3])) (.lit 0), true), (.eq (.app 0 (tl [.lit 17, .lit 4])) (.lit 2), true)]
theorem made_K232 : leavesS shpOk (execF Try.prog ctG 20 9 [.c (.abs 0 .nil)] ⟨[], 0, ⟨FK232, [0, 20, 21, 24, 25], 0⟩⟩) = true := by kernel_rfl
def FK233 : List (B × Bool) := [(.eq (.app 0 (tl [.lit 0, .lit 7])) (.lit 2), true), (.eq (.app 0 (tl [.lit 5, .lit 3])) (.lit 2), true), (.eq (.app 0 (tl [.lit 8, .lit 3])) (.lit 0), true), (.eq (.app 0 (tl [.lit 10, .lit 4])) (.lit 3), true), (.eq (.app 0 (tl [.lit 15, .lit 3])) (.lit 0), true), (.eq (.app 0 (tl [.lit 17, .lit 4])) (.lit 3), true)]
theorem made_K233 : leavesS shpOk (execF Try.prog ctG 20 9 [.c (.abs 0 .nil)] ⟨[], 0, ⟨FK233, [0, 20, 21, 24, 25], 0⟩⟩) = true := by kernel_rfl
end Go.Proofs.Ytliimpbbppbghaa.Sx

