/- Texts that belong together. -/
import Derived.Test.YtegjcikofmphjaaGreatDoorQRefA
import Derived.Test.YtegjcikofmphjaaGreatDoorQNum27
set_option linter.all false
/- Division of numbers that are not right, or by what is not positive: in num and in the reference. (Written by gen_divno.py.) -/
namespace Go.Proofs.YtegjcikofmphjaaGreatDoor
open Go Go.RowKit Go.Shelf
theorem znum_zero (B : Nat) (w : World) : ZNum B w (.agg #[.bool false, .slice none 0 0]) 0 := ⟨⟨.slice none 0 0, rfl, u32s_nil _ _⟩, Nat.pow_pos B32_pos⟩
end Go.Proofs.YtegjcikofmphjaaGreatDoor

