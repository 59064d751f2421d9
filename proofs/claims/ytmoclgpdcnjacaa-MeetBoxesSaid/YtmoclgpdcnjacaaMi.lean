/- Tables of the laws of layer 7, with the examples' answer. -/
import Derived.Test.YtmoclgpdcnjacaaMh
set_option linter.all false
set_option autoImplicit false
namespace Go.Proofs.Ytmoclgpdcnjacaa.Sx
open Go Go.RowKit
def sanE : Ent := ⟨8, [], .c (.bool (.lit true))⟩
def entS : List Ent := [sanE]
def ctS : CT := ctOr (ctL entS) ctM
def entOk (W : World) (l0 l1 : Ls) (ρ : Env) (e : Ent) : Prop := e.v.wf 0 = true ∧ e.args.all (V.wf 0) = true ∧ ∀ w, Hyp (IL W l0 l1) w (fun _ => False) → Calls Try.prog e.g (e.args.map (V.den (IL W l0 l1) ρ id)).toArray w (fun x w' => x = .returned (e.v.den (IL W l0 l1) ρ id) ∧ Below w.heap.size w w')
section
variable {W : World} {l0 l1 : Ls} (h0 : l0.Ok W) (h1 : l1.Ok W) (ρ : Env)
theorem sanE_ok : entOk W l0 l1 ρ sanE := ⟨rfl, rfl, fun w _ => san_c w⟩
include h0 h1
theorem ctS_ok : CTOk Try.prog (IL W l0 l1) ρ ctS := by
  refine ctOr_ok (ctL_ok fun e he => ?_) (ctM_ok h0 h1 ρ)
  simp only [entS, List.mem_cons, List.not_mem_nil, or_false] at he
  subst he
  exact sanE_ok ρ
end
end Go.Proofs.Ytmoclgpdcnjacaa.Sx
