/- What the rows of wire's laws share: the variables that they list, a world that holds them, arguments that a law only reads. -/
import Derived.Test.YtckhbejgkgpilaaDoorSan2
import Derived.Test.YtckhbejgkgpilaaDoorCards
import Derived.Test.YtckhbejgkgpilaaDoorTie
import Derived.WalkKit
import Derived.ProofKit
import Derived.OpenShut
import Derived.Deep.DeepHandedRow
import Derived.Lib.LaidTab
import Derived.Stop.LaidErr
import Derived.ChangeSame
import Derived.ChangeShapes
import Derived.RowKit
import Derived.Carry
import Derived.ChangeSlices
set_option linter.all false
namespace Go.Proofs.YtckhbejgkgpilaaDoor
open Go Go.ChangeShapes Go.WideShapes Go.ChangeAt Go.RowKit Go.Shelf

theorem own : ownKnob Tryd.prog.godebug = none := by kernel_rfl
theorem gTab : Tryd.prog.globalNamed "internal/strconv.uint64pow10" = some 0 := by kernel_rfl
theorem gTabType : (Tryd.prog.globals[0]?).map (·.type) = some 96 := by kernel_rfl
theorem cellsTab : Tryd.prog.cellsOf 96 = 20 := by kernel_rfl
theorem cellsU64 : Tryd.prog.cellsOf 80 = 1 := by kernel_rfl
theorem gRng : Tryd.prog.globalNamed "strconv.ErrRange" = some 3 := by kernel_rfl
theorem gRngType : (Tryd.prog.globals[3]?).map (·.type) = some 69 := by kernel_rfl
theorem gSyn : Tryd.prog.globalNamed "strconv.ErrSyntax" = some 2 := by kernel_rfl
theorem gSynType : (Tryd.prog.globals[2]?).map (·.type) = some 69 := by kernel_rfl
theorem gLast : Tryd.prog.globalNamed "math/bits.deBruijn64tab" = some 5 := by kernel_rfl
theorem starErr : "*" ++ "errors.errorString" = "*errors.errorString" := by decide
theorem rowErr (u : TypeId) (h : Tryd.prog.typeName? 3 u = some "*errors.errorString") : u = 113 :=
  typeName_ptr_named (nm := "errors.errorString") (by rw [starErr]; kernel_rfl) (by kernel_rfl) (by decide) u (by rw [starErr]; exact h)
theorem cellsErr : Tryd.prog.cellsOf 115 = 1 := by kernel_rfl
theorem cellsStr : Tryd.prog.cellsOf 9 = 1 := by kernel_rfl
theorem lt_of_var {W : World} {n : String} {g : Nat} {cs : Array Value} (hg : Tryd.prog.globalNamed n = some g) (h : W.var? Tryd.prog n = some cs) : g < W.heap.size := by
  unfold World.var? at h
  rw [hg] at h
  apply Classical.byContradiction
  intro hn
  have e : W.heap[g]? = none := Array.getElem?_eq_none (by omega)
  simp [e] at h
/-- What the rows' list and a world's shape give. -/
theorem rows_vars {W : World} (h : laidMetH Tryd.prog Rows.wireNothingRow.laid W) (hsh : W.ShapedOpen Tryd.prog) : Vars W := by
  have h0 : laidMet Tryd.prog Rows.wireNothingRow.laid W := h
  obtain ⟨a1, s1, h1, -⟩ := laid_sentinel (tp := 113) h0.tail.tail.tail gRng gRngType Tryd.underlying69 rowErr Tryd.underlying113 Tryd.underlying115 rfl rfl Tryd.underlying9 cellsErr cellsStr
  obtain ⟨a2, s2, h2, -⟩ := laid_sentinel (tp := 113) h0.tail.tail.tail.tail gSyn gSynType Tryd.underlying69 rowErr Tryd.underlying113 Tryd.underlying115 rfl rfl Tryd.underlying9 cellsErr cellsStr
  refine ⟨Lib.tabIs_of_head (zs := Lib.pow10Tab) gTab gTabType Tryd.underlying96 Tryd.underlying80 cellsU64 cellsTab h0.tail.tail, ⟨_, _, by simpa using World.var?_cell gSyn h2 0⟩, ⟨_, _, by simpa using World.var?_cell gRng h1 0⟩, ?_, ?_⟩
  · exact Tryd.laysM145.s1_3 W hsh
  · obtain ⟨ps, ⟨g0, t0, cs0, f0, p0, q0, hg0, ht0, hv0, -⟩, -⟩ := h0.tail
    exact lt_of_var gLast hv0

/-- The cells of a table of integers. -/
def cellsOfTab : DataW Unit → Array Value
  | .agg ps => (ps.map fun | .lit (.int k z) => Value.int k z | _ => undef).toArray
  | _ => #[]
def setTab (cs : Array Value) : Obj → Obj
  | .cells _ t frozen => .cells cs t frozen
  | o => o
abbrev textRange : ByteArray := ⟨#[118, 97, 108, 117, 101, 32, 111, 117, 116, 32, 111, 102, 32, 114, 97, 110, 103, 101]⟩
abbrev textSyntax : ByteArray := ⟨#[105, 110, 118, 97, 108, 105, 100, 32, 115, 121, 110, 116, 97, 120]⟩
noncomputable def lowB : Nat := (World.holding Tryd.prog default ⟨#[], #[], []⟩).heap.size
/-- A world for the witness: the settled one, the listed variables holding what their initialisers lay. -/
noncomputable def laidWorld (os : Os) : World :=
  let w0 := World.holding Tryd.prog os ⟨#[.cells #[.string textRange] 115, .cells #[.string textSyntax] 115], #[], []⟩
  { w0 with heap := ((((w0.heap.modify 4 (setTab (cellsOfTab Rows.laid_math_bits_deBruijn32tab))).modify 5 (setTab (cellsOfTab Rows.laid_math_bits_deBruijn64tab))).modify 0 (setTab (cellsOfTab Rows.laid_internal_strconv_uint64pow10))).modify 3 (setTab #[.iface 113 (.pointer (some ⟨lowB, 0, none⟩))])).modify 2 (setTab #[.iface 113 (.pointer (some ⟨lowB + 1, 0, none⟩))]) }

theorem laidOut : laidOutB Tryd.prog = true := by kernel_rfl
/-- Each of these types can be read. -/
noncomputable def readTypes (P : Program) (ts : List TypeId) : Bool := ts.all fun t => P.readableRec t && decide (t < P.types.size)
theorem trodAll_ext {P : Program} (hl : laidOutB P = true) {H : Type} {enc : TypeId × Value → H} {W W' : World} (hx : Ext W W') : ∀ {ts : List TypeId} {vs : List Value} {ds : List (DataW H)} {ps : List MemPlace}, readTypes P ts = true → DataW.TrodAll enc P W 0 (fun _ => true) true ts vs ds ps →
    DataW.TrodAll enc P W' 0 (fun b => decide (b < W.heap.size)) true ts vs ds ps
  | [], [], [], _, _, h => h
  | [], [], _ :: _, _, _, h => h.elim
  | [], _ :: _, [], _, _, h => h.elim
  | [], _ :: _, _ :: _, _, _, h => h.elim
  | _ :: _, [], [], _, _, h => h.elim
  | _ :: _, [], _ :: _, _, _, h => h.elim
  | _ :: _, _ :: _, [], _, _, h => h.elim
  | t :: ts, v :: vs, d :: ds, ps, hr, h => by
    have hlt := DataW.TrodAll.lt h
    obtain ⟨p, q, h1, h2, rfl⟩ := h
    simp only [readTypes, List.all_cons, Bool.and_eq_true, decide_eq_true_eq] at hr
    exact ⟨p, q, Below.trod hl hr.1.1 hr.1.2 h1 hx (fun x hx => hlt x (List.mem_append_left _ hx)), trodAll_ext hl hx hr.2 h2, rfl⟩
section
variable {H : Type} {enc : TypeId × Value → H} {W W' : World}

set_option maxRecDepth 100000 in
/-- A law that returns true and changes nothing does what its row says. -/
theorem law_post {f : Func} {s : ChangeSpec} {args : Array Value} {ds gs : List (DataW H)} {before : List MemPlace} {bt : TypeId} (hW : DataW.Whole enc Tryd.prog f.params.toList s.vars false W args.toList ds gs before) (hx : Ext W W')
    (hr : f.resultTypes = #[bt]) (hbt : Tryd.prog.underlying bt = some .bool) (hp : readTypes Tryd.prog f.params.toList = true) (hv : s.vars = []) (hfn : s.fn H (ds ++ gs) = { results := [.lit (.bool true)], args := ds }) :
    s.post enc Tryd.prog f false true false false W args (.bool true) W' := by
  have hW' := hW
  obtain ⟨p, q, hA, hV, rfl, -, -⟩ := hW
  refine ⟨ds, gs, _, [], p, [], hW', ?_, ?_, ?_, Below.frame hx _, fun h => by cases h⟩
  · rw [hfn, hr]; exact trodAll_mk1 (shut_bool hbt _)
  · rw [hfn]; exact trodAll_ext laidOut hx hp hA
  · rw [hfn, hv]; rfl
theorem wf_bounds {n : Int} (h : (Lit.int .i64 n).wf = true) : I64 n := by
  have e1 : IntKind.i64.min = -9223372036854775808 := rfl
  have e2 : IntKind.i64.max = 9223372036854775807 := rfl
  simp [Lit.wf, e1, e2] at h
  exact ⟨h.1, h.2⟩
theorem wf_u8 {n : Int} (h : (Lit.int .u8 n).wf = true) : 0 ≤ n ∧ n < 256 := by
  have e1 : IntKind.u8.min = 0 := rfl
  have e2 : IntKind.u8.max = 255 := rfl
  simp [Lit.wf, e1, e2] at h
  omega
theorem wf_u16 {n : Int} (h : (Lit.int .u16 n).wf = true) : 0 ≤ n ∧ n < 65536 := by
  have e1 : IntKind.u16.min = 0 := rfl
  have e2 : IntKind.u16.max = 65535 := rfl
  simp [Lit.wf, e1, e2] at h
  omega
end

end Go.Proofs.YtckhbejgkgpilaaDoor
