import Derived.Test.YtliimpbbppbghaaUTf
set_option linter.all false
set_option autoImplicit false
set_option maxRecDepth 1000000
set_option maxHeartbeats 0
namespace Go.Proofs.Ytliimpbbppbghaa.Sx
open Go Go.RowKit
def FK31l : List (B × Bool) := [(.eq (.app 0 (tl [.lit 0, .lit 7])) (.lit 3), true), (.eq (.app 0 (tl [.lit 5, .lit 3])) (.lit 2), true), (.eq (.app 0 (tl [.lit 8, .lit 3])) (.lit 0), true), (.eq (.app 0 (tl [.lit 10, .lit 4])) (.lit 1), true), (.eq (.app 0 (tl [.lit 15, .lit 3])) (.lit 0), false)]
theorem made_K31l : leavesS shpOk (execF Try.prog ctG 20 9 [.c (.abs 0 .nil)] ⟨[], 0, ⟨FK31l, [0, 20, 21, 24, 25], 0⟩⟩) = true := by kernel_rfl
def FK310 : List (B × Bool) := [(.eq (.app 0 (tl [.lit 0, .lit 7])) (.lit 3), true), (.eq (.app 0 (tl [.lit 5, .lit 3])) (.lit 2), true), (.eq (.app 0 (tl [.lit 8, .lit 3])) (.lit 0), true), (.eq (.app 0 (tl [.lit 10, .lit 4])) (.lit 1), true), (.eq (.app 0 (tl [.lit 15, .lit 3])) (.lit 0), true), (.eq (.app 0 (tl [.lit 17, .lit 4])) (.lit 0), true)]
theorem made_K310 : leavesS shpOk (execF Try.prog ctG 20 9 [.c (.abs 0 .nil)] ⟨[], 0, ⟨FK310, [0, 20, 21, 24, 25], 0⟩⟩) = true := by kernel_rfl
def FK311 : List (B × Bool) := [(.eq (.app 0 (tl [.lit 0, .lit 7])) (.lit 3), true), (.eq (.app 0 (tl [.lit 5, .lit 3])) (.lit 2), true), (.eq (.app 0 (tl [.lit 8, .lit 3])) (.lit 0), true), (.eq (.app 0 (tl [.lit 10, .lit 4])) (.lit 1), true), (.eq (.app 0 (tl [.lit 15, .lit 3])) (.lit 0), true), (.eq (.app 0 (tl [.lit 17, .lit 4])) (.lit 1), true)]
theorem made_K311 : leavesS shpOk (execF Try.prog ctG 20 9 [.c (.abs 0 .nil)] ⟨[], 0, ⟨FK311, [0, 20, 21, 24, 25], 0⟩⟩) = true := by kernel_rfl
def FK312 : List (B × Bool) := [(.eq (.app 0 (tl [.lit 0, .lit 7])) (.lit 3), true), (.eq (.app 0 (tl [.lit 5, .lit 3])) (.lit 2), true), (.eq (.app 0 (tl [.lit 8, .lit 3])) (.lit 0), true), (.eq (.app 0 (tl [.lit 10, .lit 4])) (.lit 1), true), (.eq (.app 0 (tl [.lit 15, .lit 3])) (.lit 0), true), (.eq (.app 0 (tl [.lit 17, .lit 4])) (.lit 2), true)]
theorem made_K312 : leavesS shpOk (execF Try.prog ctG 20 9 [.c (.abs 0 .nil)] ⟨[], 0, ⟨FK312, [0, 20, 21, 24, 25], 0⟩⟩) = true := by kernel_rfl
def FK313 : List (B × Bool) := [(.eq (.app 0 (tl [.lit 0, .lit 7])) (.lit 3), true), (.eq (.app 0 (tl [.lit 5, .lit 3])) (.lit 2), true), (.eq (.app 0 (tl [.lit 8, .lit 3])) (.lit 0), true), (.eq (.app 0 (tl [.lit 10, .lit 4])) (.lit 1), true), (.eq (.app 0 (tl [.lit 15, .lit 3])) (.lit 0), true), (.eq (.app 0 (tl [.lit 17, .lit 4])) (.lit 3), true)]
theorem made_K313 : leavesS shpOk (execF Try.prog ctG 20 9 [.c (.abs 0 .nil)] ⟨[], 0, ⟨FK313, [0, 20, 21, 24, 25], 0⟩⟩) = true := by kernel_rfl
end Go.Proofs.Ytliimpbbppbghaa.Sx

