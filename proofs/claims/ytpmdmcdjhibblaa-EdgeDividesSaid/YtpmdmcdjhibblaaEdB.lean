/- The points that numbers make. -/
import Derived.Test.YtpmdmcdjhibblaaEdA
set_option linter.all false
namespace Go.Proofs.Ytpmdmcdjhibblaa.Sx
open Go Go.RowKit

def atF : List (B × Bool) := [(.lt (.lit (-1)) (.app 5 (tl [.var 0, .var 1, .var 2, .var 3, .var 4, .var 5, .var 6])), true), (.lt (.app 5 (tl [.var 0, .var 1, .var 2, .var 3, .var 4, .var 5, .var 6])) (.lit 4001), true)] ++ [1, 2, 3, 4, 5, 6].flatMap fun i => [(.lt (.lit (-1001)) (.var i), true), (.lt (.var i) (.lit 1001), true)]
def ptOk (k : Known) (lo hi : Int) : V → Bool
  | .agg [.int .i64 x, .int .i64 y] => inB k x lo hi && inB k y lo hi
  | _ => false
set_option maxRecDepth 1000000 in
theorem at_chk : leavesOk (ptOk ⟨atF, [0, 2], 0⟩ (-200000) 200000) (vals (execF Try.prog ctM 20 24 [.agg [iv 0, iv 1, iv 2, iv 3, iv 4, iv 5, iv 6], .c (.abs 1 .nil)] ⟨[], 0, ⟨atF, [0, 2], 0⟩⟩)) = true := by kernel_rfl
end Go.Proofs.Ytpmdmcdjhibblaa.Sx
