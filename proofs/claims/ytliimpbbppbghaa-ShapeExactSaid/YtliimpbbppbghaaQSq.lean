import Derived.Test.YtliimpbbppbghaaQSp
import Derived.Test.YtliimpbbppbghaaQXc
set_option linter.all false
set_option autoImplicit false
namespace Go.Proofs.Ytliimpbbppbghaa.Sx
open Go Go.RowKit
def isYes : V → Bool
  | .c (.bool (.lit true)) => true
  | _ => false
theorem isYes_eq {v : V} (h : isYes v = true) : v = .c (.bool (.lit true)) := by
  unfold isYes at h
  split at h
  · rfl
  · cases h
theorem calls_yes {P : Program} {I : Interp} {ρ : Env} (hm : P.follows .mixedOrders = true) (hN : NoCount P) {ct : CT} (hct : CTOk P I ρ ct) {n : Nat} {g : FuncId} {args : List V} {k : Known} {w : World}
    (hh : Hyp I w fun _ => False) (hk : k.Ok I ρ) (hwf : (args.all (V.wf 0)) = true) (hc : leavesOk isYes (vals (execF P ct n g args ⟨[], 0, k⟩)) = true) :
    Calls P g (args.map (V.den I ρ id)).toArray w (fun e w' => e = .returned (.bool true) ∧ Below w.heap.size w w') :=
  calls_litD (r := .bool true) hm hN hct hh hk hwf rfl (Tree.vc_mono (fun v hv => by rw [isYes_eq hv]; exact ⟨rfl, rfl⟩) (leavesOk_vc hc))
section
variable {ρ : Env} {ax ay bx by' K c h : Int} {r px py : T}
end
theorem exV (w s t : Int) : (envOf [w, s, t] []).i 1 = s := rfl
end Go.Proofs.Ytliimpbbppbghaa.Sx

