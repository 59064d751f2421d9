import Derived.Test.YtliimpbbppbghaaUTf
set_option linter.all false
set_option autoImplicit false
set_option maxRecDepth 1000000
set_option maxHeartbeats 0
namespace Go.Proofs.Ytliimpbbppbghaa.Sx
open Go Go.RowKit
def FK21l : List (B × Bool) := [(.eq (.app 0 (tl [.lit 0, .lit 7])) (.lit 2), true), (.eq (.app 0 (tl [.lit 5, .lit 3])) (.lit 2), true), (.eq (.app 0 (tl [.lit 8, .lit 3])) (.lit 0), true), (.eq (.app 0 (tl [.lit 10, .lit 4])) (.lit 1), true), (.eq (.app 0 (tl [.lit 15, .lit 3])) (.lit 0), false)]
theorem made_K21l : leavesS shpOk (execF Try.prog ctG 20 9 [.c (.abs 0 .nil)] ⟨[], 0, ⟨FK21l, [0, 20, 21, 24, 25], 0⟩⟩) = true := by kernel_rfl
def FK210 : List (B × Bool) := [(.eq (.app 0 (tl [.lit 0, .lit 7])) (.lit 2), true), (.eq (.app 0 (tl [.lit 5, .lit 3])) (.lit 2), true), (.eq (.app 0 (tl [.lit 8, .lit 3])) (.lit 0), true), (.eq (.app 0 (tl [.lit 10, .lit 4])) (.lit 1), true), (.eq (.app 0 (tl [.lit 15, .lit 3])) (.lit 0), true), (.eq (.app 0 (tl [.lit 17, .lit 4])) (.lit 0), true)]
theorem made_K210 : leavesS shpOk (execF Try.prog ctG 20 9 [.c (.abs 0 .nil)] ⟨[], 0, ⟨FK210, [0, 20, 21, 24, 25], 0⟩⟩) = true := by kernel_rfl
def FK211 : List (B × Bool) := [(.eq (.app 0 (tl [.lit 0, .lit 7])) (.lit 2), true), (.eq (.app 0 (tl [.lit 5, .lit 3])) (.lit 2), true), (.eq (.app 0 (tl [.lit 8, .lit 3])) (.lit 0), true), (.eq (.app 0 (tl [.lit 10, .lit 4])) (.lit 1), true), (.eq (.app 0 (tl [.lit 15, .lit 3])) (.lit 0), true), (.eq (.app 0 (tl [.lit 17, .lit 4])) (.lit 1), true)]
theorem made_K211 : leavesS shpOk (execF Try.prog ctG 20 9 [.c (.abs 0 .nil)] ⟨[], 0, ⟨FK211, [0, 20, 21, 24, 25], 0⟩⟩) = true := by kernel_rfl
def FK212 : List (B × Bool) := [(.eq (.app 0 (tl [.lit 0, .lit 7])) (.lit 2), true), (.eq (.app 0 (tl [.lit 5, .lit 3])) (.lit 2), true), (.eq (.app 0 (tl [.lit 8, .lit 3])) (.lit 0), true), (.eq (.app 0 (tl [.lit 10, .lit 4])) (.lit 1), true), (.eq (.app 0 (tl [.lit 15, .lit 3])) (.lit 0), true), (.eq (.app 0 (tl [.lit 17, .lit 4])) (.lit 2), true)]
theorem made_K212 : leavesS shpOk (execF Try.prog ctG 20 9 [.c (.abs 0 .nil)] ⟨[], 0, ⟨FK212, [0, 20, 21, 24, 25], 0⟩⟩) = true := by kernel_rfl
def FK213 : List (B × Bool) := [(.eq (.app 0 (tl [.lit 0, .lit 7])) (.lit 2), true), (.eq (.app 0 (tl [.lit 5, .lit 3])) (.lit 2), true), (.eq (.app 0 (tl [.lit 8, .lit 3])) (.lit 0), true), (.eq (.app 0 (tl [.lit 10, .lit 4])) (.lit 1), true), (.eq (.app 0 (tl [.lit 15, .lit 3])) (.lit 0), true), (.eq (.app 0 (tl [.lit 17, .lit 4])) (.lit 3), true)]
theorem made_K213 : leavesS shpOk (execF Try.prog ctG 20 9 [.c (.abs 0 .nil)] ⟨[], 0, ⟨FK213, [0, 20, 21, 24, 25], 0⟩⟩) = true := by kernel_rfl
end Go.Proofs.Ytliimpbbppbghaa.Sx

