import Derived.Test.YtliimpbbppbghaaQSo
set_option linter.all false
set_option autoImplicit false
namespace Go.Proofs.Ytliimpbbppbghaa.Sx
open Go Go.RowKit
set_option maxRecDepth 1000000 in
theorem sanity_tree : vals (execF Try.prog ctH 20 8 [] sNone) = .leaf (.c (.bool (.lit true))) := by kernel_rfl
theorem sanity_c (w : World) : Calls Try.prog 8 #[] w (fun e w' => e = .returned (.bool true) ∧ Below w.heap.size w w') :=
  @calls_lit Try.prog IH (envOf [] []) mixed nocount ctH (ctH_ok _) 20 8 [] _ w (.bool true) (fun _ h => nomatch h) rfl sanity_tree ⟨rfl, rfl⟩
def sanE : Ent := ⟨8, [], .c (.bool (.lit true))⟩
end Go.Proofs.Ytliimpbbppbghaa.Sx

