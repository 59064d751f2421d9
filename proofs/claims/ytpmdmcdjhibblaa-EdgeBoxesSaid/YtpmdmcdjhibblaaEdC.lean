/- The examples of the chapter hold. -/
import Derived.Test.YtpmdmcdjhibblaaEdA
set_option linter.all false
namespace Go.Proofs.Ytpmdmcdjhibblaa.Sx
open Go Go.RowKit
def isYes : V → Bool
  | .c (.bool (.lit true)) => true
  | _ => false
theorem isYes_eq {v : V} (h : isYes v = true) : v = .c (.bool (.lit true)) := by
  unfold isYes at h
  split at h
  · rfl
  · cases h
set_option maxRecDepth 1000000 in
theorem san_chk : leavesOk isYes (vals (execF Try.prog CT.none 20 11 [] sNone)) = true := by kernel_rfl
theorem san_c (w : World) : Calls Try.prog 11 #[] w (fun e w' => e = .returned (.bool true) ∧ Below w.heap.size w w') :=
  calls_lit (I := I0) (ρ := envOf [] []) (args := []) (r := .bool true) mixed nocount (CT.none_ok _ _ _) (fun _ h => nomatch h) rfl rfl (Tree.vc_mono (fun v hv => by rw [isYes_eq hv]; exact ⟨rfl, rfl⟩) (leavesOk_vc san_chk))
end Go.Proofs.Ytpmdmcdjhibblaa.Sx
