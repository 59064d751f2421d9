import Derived.Test.YtgnogdncoljldaaGreatQSxM
import Derived.Test.YtgnogdncoljldaaGreatQBC
set_option linter.all false
set_option autoImplicit false
namespace Go.Proofs.YtgnogdncoljldaaGreat.Sx
open Go Go.RowKit
def sg (x : Int) : Int := if x < 0 then -1 else if 0 < x then 1 else 0
def sgS (a b c : Int) : Int := if c < 0 then 0 else if b = 0 ∨ c = 0 then sg a else if a = 0 ∨ sg a = sg b then sg b else sg a * sg (a * a - b * b * c)
theorem sgS_spec (a b c : Int) : (c < 0 → sgS a b c = 0) ∧ (0 ≤ c → (b = 0 ∨ c = 0) → (a < 0 → sgS a b c = -1) ∧ (a = 0 → sgS a b c = 0) ∧ (0 < a → sgS a b c = 1)) ∧
  (0 < c → b < 0 → a ≤ 0 → sgS a b c = -1) ∧ (0 < c → 0 < b → 0 ≤ a → sgS a b c = 1) ∧
  (0 < c → 0 < b → a < 0 → (a * a < b * b * c → sgS a b c = 1) ∧ (a * a = b * b * c → sgS a b c = 0) ∧ (b * b * c < a * a → sgS a b c = -1)) ∧
  (0 < c → b < 0 → 0 < a → (a * a < b * b * c → sgS a b c = -1) ∧ (a * a = b * b * c → sgS a b c = 0) ∧ (b * b * c < a * a → sgS a b c = 1)) := by
 unfold sgS sg
 generalize b * b * c = y
 generalize a * a = x
 refine ⟨?_, ?_, ?_, ?_, ?_, ?_⟩ <;> intros <;> (try refine ⟨?_, ?_, ?_⟩) <;> intros <;> (repeat' split) <;> omega
end Go.Proofs.YtgnogdncoljldaaGreat.Sx

