import Derived.Test.YtliimpbbppbghaaUTf
set_option linter.all false
set_option autoImplicit false
set_option maxRecDepth 1000000
set_option maxHeartbeats 0
namespace Go.Proofs.Ytliimpbbppbghaa.Sx
open Go Go.RowKit
def FK32l : List (B × Bool) := [(.eq (.app 0 (tl [.lit 0, .lit 7])) (.lit 3), true), (.eq (.app 0 (tl [.lit 5, .lit 3])) (.lit 2), true), (.eq (.app 0 (tl [.lit 8, .lit 3])) (.lit 0), true), (.eq (.app 0 (tl [.lit 10, .lit 4])) (.lit 2), true), (.eq (.app 0 (tl [.lit 15, .lit 3])) (.lit 0), false)]
theorem made_K32l : leavesS shpOk (execF Try.prog ctG 20 9 [.c (.abs 0 .nil)] ⟨[], 0, ⟨FK32l, [0, 20, 21, 24, 25], 0⟩⟩) = true := by kernel_rfl
def FK320 : List (B × Bool) := [(.eq (.app 0 (tl [.lit 0, .lit 7])) (.lit 3), true), (.eq (.app 0 (tl [.lit 5, .lit 3])) (.lit 2), true), (.eq (.app 0 (tl [.lit 8, .lit 3])) (.lit 0), true), (.eq (.app 0 (tl [.lit 10, .lit 4])) (.lit 2), true), (.eq (.app 0 (tl [.lit 15, .lit 3])) (.lit 0), true), (.eq (.app 0 (tl [.lit 17, .lit 4])) (.lit 0), true)]
theorem made_K320 : leavesS shpOk (execF Try.prog ctG 20 9 [.c (.abs 0 .nil)] ⟨[], 0, ⟨FK320, [0, 20, 21, 24, 25], 0⟩⟩) = true := by kernel_rfl
def FK321 : List (B × Bool) := [(.eq (.app 0 (tl [.lit 0, .lit 7])) (.lit 3), true), (.eq (.app 0 (tl [.lit 5, .lit 3])) (.lit 2), true), (.eq (.app 0 (tl [.lit 8, .lit 3])) (.lit 0), true), (.eq (.app 0 (tl [.lit 10, .lit 4])) (.lit 2), true), (.eq (.app 0 (tl [.lit 15, .lit 3])) (.lit 0), true), (.eq (.app 0 (tl [.lit 17, .lit 4])) (.lit 1), true)]
theorem made_K321 : leavesS shpOk (execF Try.prog ctG 20 9 [.c (.abs 0 .nil)] ⟨[], 0, ⟨FK321, [0, 20, 21, 24, 25], 0⟩⟩) = true := by kernel_rfl
def FK322 : List (B × Bool) := [(.eq (.app 0 (tl [.lit 0, .lit 7])) (.lit 3), true), (.eq (.app 0 (tl [.lit 5, .lit 3])) (.lit 2), true), (.eq (.app 0 (tl [.lit 8, .lit 3])) (.lit 0), true), (.eq (.app 0 (tl [.lit 10, .lit 4])) (.lit 2), true), (.eq (.app 0 (tl [.lit 15, .lit 3])) (.lit 0), true), (.eq (.app 0 (tl [.lit 17, .lit 4])) (.lit 2), true)]
theorem made_K322 : leavesS shpOk (execF Try.prog ctG 20 9 [.c (.abs 0 .nil)] ⟨[], 0, ⟨FK322, [0, 20, 21, 24, 25], 0⟩⟩) = true := by kernel_rfl
def FK323 : List (B × Bool) := [(.eq (.app 0 (tl [.lit 0, .lit 7])) (.lit 3), true), (.eq (.app 0 (tl [.lit 5, .lit 3])) (.lit 2), true), (.eq (.app 0 (tl [.lit 8, .lit 3])) (.lit 0), true), (.eq (.app 0 (tl [.lit 10, .lit 4])) (.lit 2), true), (.eq (.app 0 (tl [.lit 15, .lit 3])) (.lit 0), true), (.eq (.app 0 (tl [.lit 17, .lit 4])) (.lit 3), true)]
theorem made_K323 : leavesS shpOk (execF Try.prog ctG 20 9 [.c (.abs 0 .nil)] ⟨[], 0, ⟨FK323, [0, 20, 21, 24, 25], 0⟩⟩) = true := by kernel_rfl
end Go.Proofs.Ytliimpbbppbghaa.Sx

