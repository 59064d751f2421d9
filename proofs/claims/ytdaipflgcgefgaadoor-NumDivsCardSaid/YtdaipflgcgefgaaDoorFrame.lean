/- What the six laws' rows share: the tables that they list, and a world that holds them. -/
import Derived.Test.YtdaipflgcgefgaaDoorSan
import Derived.Test.YtdaipflgcgefgaaDoorCards
import Derived.Test.YtdaipflgcgefgaaDoorTie
import Derived.WalkKit
import Derived.ProofKit
import Derived.OpenShut
import Derived.Deep.DeepHandedRow
import Derived.Lib.LaidTab
import Derived.Stop.LaidErr
import Derived.ChangeSame
import Derived.ChangeShapes
import Derived.RowKit
set_option linter.all false
namespace Go.Proofs.YtdaipflgcgefgaaDoor
open Go Go.RowKit Go.Shelf

theorem own : ownKnob Tryd.prog.godebug = none := by kernel_rfl
theorem gTab : Tryd.prog.globalNamed "internal/strconv.uint64pow10" = some 1 := by kernel_rfl
theorem gTabType : (Tryd.prog.globals[1]?).map (·.type) = some 112 := by kernel_rfl
theorem cellsTab : Tryd.prog.cellsOf 112 = 20 := by kernel_rfl
theorem cellsU64 : Tryd.prog.cellsOf 65 = 1 := by kernel_rfl
/-- What the rows' list gives: the table of powers of ten. -/
theorem table {W : World} (h : laidMet Tryd.prog Rows.numIntsRow.laid W) : Lib.TabIs Tryd.prog W "internal/strconv.uint64pow10" .u64 Lib.pow10Tab :=
  Lib.tabIs_of_head (rest := []) (zs := Lib.pow10Tab) gTab gTabType Tryd.underlying112 Tryd.underlying65 cellsU64 cellsTab h.tail.tail
theorem rows_tab {W : World} (h : laidMetH Tryd.prog Rows.numIntsRow.laid W) : Tab W := tab_of (table h)

/-- The cells of a table of integers. -/
def cellsOfTab : DataW Unit → Array Value
  | .agg ps => (ps.map fun | .lit (.int k z) => Value.int k z | _ => undef).toArray
  | _ => #[]
def setTab (cs : Array Value) : Obj → Obj
  | .cells _ t frozen => .cells cs t frozen
  | o => o
/-- A world for the witness: the settled one, the three tables holding what their initialisers lay. -/
noncomputable def laidWorld (os : Os) : World :=
  { World.holding Tryd.prog os ⟨#[], #[], []⟩ with heap := (((World.holding Tryd.prog os ⟨#[], #[], []⟩).heap.modify 3 (setTab (cellsOfTab Rows.laid_math_bits_deBruijn32tab))).modify 4 (setTab (cellsOfTab Rows.laid_math_bits_deBruijn64tab))).modify 1 (setTab (cellsOfTab Rows.laid_internal_strconv_uint64pow10)) }

end Go.Proofs.YtdaipflgcgefgaaDoor
