import Derived.Test.YthkkipkhofkpmaaProg
import Derived.Test.YthkkipkhofkpmaaQSxB
set_option linter.all false
namespace Go.Proofs.Ythkkipkhofkpmaa.Sx
open Go Go.RowKit
def iv (k : Nat) : C := .int .i64 (.var k)
theorem nocount : NoCount Try.prog := by unfold NoCount; kernel_rfl
theorem mixed : Try.prog.follows .mixedOrders = true := by kernel_rfl
def I0 : Interp := ⟨fun _ _ => 0, fun _ _ => false, fun _ _ => .nilFunc, [], noOpq, fun _ => rfl, fun _ _ => ⟨(fun _ h => nomatch h), (fun _ h => nomatch h)⟩⟩
end Go.Proofs.Ythkkipkhofkpmaa.Sx

