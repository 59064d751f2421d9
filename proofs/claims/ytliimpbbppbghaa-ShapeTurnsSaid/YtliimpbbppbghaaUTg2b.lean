import Derived.Test.YtliimpbbppbghaaUTf
set_option linter.all false
set_option autoImplicit false
set_option maxRecDepth 1000000
set_option maxHeartbeats 0
namespace Go.Proofs.Ytliimpbbppbghaa.Sx
open Go Go.RowKit
def FK2ll : List (B × Bool) := [(.eq (.app 0 (tl [.lit 0, .lit 7])) (.lit 2), true), (.eq (.app 0 (tl [.lit 5, .lit 3])) (.lit 2), true), (.eq (.app 0 (tl [.lit 8, .lit 3])) (.lit 0), false), (.eq (.app 0 (tl [.lit 11, .lit 3])) (.lit 0), false)]
theorem made_K2ll : leavesS shpOk (execF Try.prog ctG 20 9 [.c (.abs 0 .nil)] ⟨[], 0, ⟨FK2ll, [0, 20, 21, 24, 25], 0⟩⟩) = true := by kernel_rfl
def FK2l0 : List (B × Bool) := [(.eq (.app 0 (tl [.lit 0, .lit 7])) (.lit 2), true), (.eq (.app 0 (tl [.lit 5, .lit 3])) (.lit 2), true), (.eq (.app 0 (tl [.lit 8, .lit 3])) (.lit 0), false), (.eq (.app 0 (tl [.lit 11, .lit 3])) (.lit 0), true), (.eq (.app 0 (tl [.lit 13, .lit 4])) (.lit 0), true)]
theorem made_K2l0 : leavesS shpOk (execF Try.prog ctG 20 9 [.c (.abs 0 .nil)] ⟨[], 0, ⟨FK2l0, [0, 20, 21, 24, 25], 0⟩⟩) = true := by kernel_rfl
def FK2l1 : List (B × Bool) := [(.eq (.app 0 (tl [.lit 0, .lit 7])) (.lit 2), true), (.eq (.app 0 (tl [.lit 5, .lit 3])) (.lit 2), true), (.eq (.app 0 (tl [.lit 8, .lit 3])) (.lit 0), false), (.eq (.app 0 (tl [.lit 11, .lit 3])) (.lit 0), true), (.eq (.app 0 (tl [.lit 13, .lit 4])) (.lit 1), true)]
theorem made_K2l1 : leavesS shpOk (execF Try.prog ctG 20 9 [.c (.abs 0 .nil)] ⟨[], 0, ⟨FK2l1, [0, 20, 21, 24, 25], 0⟩⟩) = true := by kernel_rfl
def FK2l2 : List (B × Bool) := [(.eq (.app 0 (tl [.lit 0, .lit 7])) (.lit 2), true), (.eq (.app 0 (tl [.lit 5, .lit 3])) (.lit 2), true), (.eq (.app 0 (tl [.lit 8, .lit 3])) (.lit 0), false), (.eq (.app 0 (tl [.lit 11, .lit 3])) (.lit 0), true), (.eq (.app 0 (tl [.lit 13, .lit 4])) (.lit 2), true)]
theorem made_K2l2 : leavesS shpOk (execF Try.prog ctG 20 9 [.c (.abs 0 .nil)] ⟨[], 0, ⟨FK2l2, [0, 20, 21, 24, 25], 0⟩⟩) = true := by kernel_rfl
def FK2l3 : List (B × Bool) := [(.eq (.app 0 (tl [.lit 0, .lit 7])) (.lit 2), true), (.eq (.app 0 (tl [.lit 5, .lit 3])) (.lit 2), true), (.eq (.app 0 (tl [.lit 8, .lit 3])) (.lit 0), false), (.eq (.app 0 (tl [.lit 11, .lit 3])) (.lit 0), true), (.eq (.app 0 (tl [.lit 13, .lit 4])) (.lit 3), true)]
theorem made_K2l3 : leavesS shpOk (execF Try.prog ctG 20 9 [.c (.abs 0 .nil)] ⟨[], 0, ⟨FK2l3, [0, 20, 21, 24, 25], 0⟩⟩) = true := by kernel_rfl
end Go.Proofs.Ytliimpbbppbghaa.Sx

