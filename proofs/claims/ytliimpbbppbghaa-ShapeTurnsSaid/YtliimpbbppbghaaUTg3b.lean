import Derived.Test.YtliimpbbppbghaaUTf
set_option linter.all false
set_option autoImplicit false
set_option maxRecDepth 1000000
set_option maxHeartbeats 0
namespace Go.Proofs.Ytliimpbbppbghaa.Sx
open Go Go.RowKit
def FK3ll : List (B × Bool) := [(.eq (.app 0 (tl [.lit 0, .lit 7])) (.lit 3), true), (.eq (.app 0 (tl [.lit 5, .lit 3])) (.lit 2), true), (.eq (.app 0 (tl [.lit 8, .lit 3])) (.lit 0), false), (.eq (.app 0 (tl [.lit 11, .lit 3])) (.lit 0), false)]
theorem made_K3ll : leavesS shpOk (execF Try.prog ctG 20 9 [.c (.abs 0 .nil)] ⟨[], 0, ⟨FK3ll, [0, 20, 21, 24, 25], 0⟩⟩) = true := by kernel_rfl
def FK3l0 : List (B × Bool) := [(.eq (.app 0 (tl [.lit 0, .lit 7])) (.lit 3), true), (.eq (.app 0 (tl [.lit 5, .lit 3])) (.lit 2), true), (.eq (.app 0 (tl [.lit 8, .lit 3])) (.lit 0), false), (.eq (.app 0 (tl [.lit 11, .lit 3])) (.lit 0), true), (.eq (.app 0 (tl [.lit 13, .lit 4])) (.lit 0), true)]
theorem made_K3l0 : leavesS shpOk (execF Try.prog ctG 20 9 [.c (.abs 0 .nil)] ⟨[], 0, ⟨FK3l0, [0, 20, 21, 24, 25], 0⟩⟩) = true := by kernel_rfl
def FK3l1 : List (B × Bool) := [(.eq (.app 0 (tl [.lit 0, .lit 7])) (.lit 3), true), (.eq (.app 0 (tl [.lit 5, .lit 3])) (.lit 2), true), (.eq (.app 0 (tl [.lit 8, .lit 3])) (.lit 0), false), (.eq (.app 0 (tl [.lit 11, .lit 3])) (.lit 0), true), (.eq (.app 0 (tl [.lit 13, .lit 4])) (.lit 1), true)]
theorem made_K3l1 : leavesS shpOk (execF Try.prog ctG 20 9 [.c (.abs 0 .nil)] ⟨[], 0, ⟨FK3l1, [0, 20, 21, 24, 25], 0⟩⟩) = true := by kernel_rfl
def FK3l2 : List (B × Bool) := [(.eq (.app 0 (tl [.lit 0, .lit 7])) (.lit 3), true), (.eq (.app 0 (tl [.lit 5, .lit 3])) (.lit 2), true), (.eq (.app 0 (tl [.lit 8, .lit 3])) (.lit 0), false), (.eq (.app 0 (tl [.lit 11, .lit 3])) (.lit 0), true), (.eq (.app 0 (tl [.lit 13, .lit 4])) (.lit 2), true)]
theorem made_K3l2 : leavesS shpOk (execF Try.prog ctG 20 9 [.c (.abs 0 .nil)] ⟨[], 0, ⟨FK3l2, [0, 20, 21, 24, 25], 0⟩⟩) = true := by kernel_rfl
def FK3l3 : List (B × Bool) := [(.eq (.app 0 (tl [.lit 0, .lit 7])) (.lit 3), true), (.eq (.app 0 (tl [.lit 5, .lit 3])) (.lit 2), true), (.eq (.app 0 (tl [.lit 8, .lit 3])) (.lit 0), false), (.eq (.app 0 (tl [.lit 11, .lit 3])) (.lit 0), true), (.eq (.app 0 (tl [.lit 13, .lit 4])) (.lit 3), true)]
theorem made_K3l3 : leavesS shpOk (execF Try.prog ctG 20 9 [.c (.abs 0 .nil)] ⟨[], 0, ⟨FK3l3, [0, 20, 21, 24, 25], 0⟩⟩) = true := by kernel_rfl
end Go.Proofs.Ytliimpbbppbghaa.Sx

