
/- Texts that belong together. -/
import Derived.Test.YtdaipflgcgefgaaGreatDoorTextMath
import Derived.Test.YtdaipflgcgefgaaGreatDoorCards
import Derived.Test.YtdaipflgcgefgaaGreatDoorTie
import Derived.WalkKit
import Derived.ProofKit
import Derived.OpenShut
import Derived.Deep.DeepHandedRow
import Derived.Lib.LaidTab
import Derived.Stop.LaidErr
import Derived.ChangeSame
import Derived.ChangeShapes
import Derived.RowKit
import Derived.Test.YtdaipflgcgefgaaGreatDoorRefs
import Derived.Carry
import Derived.ChangeSlices
set_option linter.all false
/- Stage 2: what the seven laws' rows share: the tables that they list, and a world that holds them. -/
namespace Go.Proofs.YtdaipflgcgefgaaGreatDoor
open Go Go.RowKit Go.Shelf

theorem own : ownKnob Tryz.prog.godebug = none := by kernel_rfl
theorem gTab : Tryz.prog.globalNamed "internal/strconv.uint64pow10" = some 1 := by kernel_rfl
theorem gTabType : (Tryz.prog.globals[1]?).map (·.type) = some 145 := by kernel_rfl
theorem cellsTab : Tryz.prog.cellsOf 145 = 20 := by kernel_rfl
theorem cellsU64 : Tryz.prog.cellsOf 85 = 1 := by kernel_rfl
/-- What the rows' list gives: the table of powers of ten. -/
theorem table {W : World} (h : laidMet Tryz.prog Rows.rootWholeRow.laid W) : Lib.TabIs Tryz.prog W "internal/strconv.uint64pow10" .u64 Lib.pow10Tab :=
  Lib.tabIs_of_head (rest := []) (zs := Lib.pow10Tab) gTab gTabType Tryz.underlying145 Tryz.underlying85 cellsU64 cellsTab h.tail.tail
theorem rows_tab {W : World} (h : laidMetH Tryz.prog Rows.rootWholeRow.laid W) : Tab W := tab_of (table h)

/-- The cells of a table of integers. -/
def cellsOfTab : DataW Unit → Array Value
  | .agg ps => (ps.map fun | .lit (.int k z) => Value.int k z | _ => undef).toArray
  | _ => #[]
def setTab (cs : Array Value) : Obj → Obj
  | .cells _ t frozen => .cells cs t frozen
  | o => o
/-- A world for the witness: the settled one, the three tables holding what their initialisers lay. -/
noncomputable def laidWorld (os : Os) : World :=
  { World.holding Tryz.prog os ⟨#[], #[], []⟩ with heap := (((World.holding Tryz.prog os ⟨#[], #[], []⟩).heap.modify 3 (setTab (cellsOfTab Rows.laid_math_bits_deBruijn32tab))).modify 4 (setTab (cellsOfTab Rows.laid_math_bits_deBruijn64tab))).modify 1 (setTab (cellsOfTab Rows.laid_internal_strconv_uint64pow10)) }

end Go.Proofs.YtdaipflgcgefgaaGreatDoor
/- Stage 2: what the cards of the laws share: arguments that a law only reads; slices of ints that come in. -/
namespace Go.Proofs.YtdaipflgcgefgaaGreatDoor
open Go Go.ChangeShapes Go.WideShapes Go.ChangeAt Go.RowKit

theorem laidOut : laidOutB Tryz.prog = true := by kernel_rfl
/-- Each of these types can be read. -/
noncomputable def readTypes (P : Program) (ts : List TypeId) : Bool := ts.all fun t => P.readableRec t && decide (t < P.types.size)
theorem trodAll_ext {P : Program} (hl : laidOutB P = true) {H : Type} {enc : TypeId × Value → H} {W W' : World} (hx : Ext W W') : ∀ {ts : List TypeId} {vs : List Value} {ds : List (DataW H)} {ps : List MemPlace}, readTypes P ts = true → DataW.TrodAll enc P W 0 (fun _ => true) true ts vs ds ps →
    DataW.TrodAll enc P W' 0 (fun b => decide (b < W.heap.size)) true ts vs ds ps
  | [], [], [], _, _, h => h
  | [], [], _ :: _, _, _, h => h.elim
  | [], _ :: _, [], _, _, h => h.elim
  | [], _ :: _, _ :: _, _, _, h => h.elim
  | _ :: _, [], [], _, _, h => h.elim
  | _ :: _, [], _ :: _, _, _, h => h.elim
  | _ :: _, _ :: _, [], _, _, h => h.elim
  | t :: ts, v :: vs, d :: ds, ps, hr, h => by
    have hlt := DataW.TrodAll.lt h
    obtain ⟨p, q, h1, h2, rfl⟩ := h
    simp only [readTypes, List.all_cons, Bool.and_eq_true, decide_eq_true_eq] at hr
    exact ⟨p, q, Below.trod hl hr.1.1 hr.1.2 h1 hx (fun x hx => hlt x (List.mem_append_left _ hx)), trodAll_ext hl hx hr.2 h2, rfl⟩
section
variable {H : Type} {enc : TypeId × Value → H} {W W' : World}

set_option maxRecDepth 100000 in
/-- A law that returns true and changes nothing does what its row says. -/
theorem law_post {f : Func} {s : ChangeSpec} {args : Array Value} {ds gs : List (DataW H)} {before : List MemPlace} {bt : TypeId} (hW : DataW.Whole enc Tryz.prog f.params.toList s.vars false W args.toList ds gs before) (hx : Ext W W')
    (hr : f.resultTypes = #[bt]) (hbt : Tryz.prog.underlying bt = some .bool) (hp : readTypes Tryz.prog f.params.toList = true) (hv : s.vars = []) (hfn : s.fn H (ds ++ gs) = { results := [.lit (.bool true)], args := ds }) :
    s.post enc Tryz.prog f false true false false W args (.bool true) W' := by
  have hW' := hW
  obtain ⟨p, q, hA, hV, rfl, -, -⟩ := hW
  refine ⟨ds, gs, _, [], p, [], hW', ?_, ?_, ?_, Below.frame hx _, fun h => by cases h⟩
  · rw [hfn, hr]; exact trodAll_mk1 (shut_bool hbt _)
  · rw [hfn]; exact trodAll_ext laidOut hx hp hA
  · rw [hfn, hv]; rfl
end

end Go.Proofs.YtdaipflgcgefgaaGreatDoor
