/- Texts that belong together. -/
import Derived.Test.YtegjcikofmphjaaGreatDoorQNumEarly
import Derived.Test.YtegjcikofmphjaaGreatDoorCards
import Derived.Test.YtegjcikofmphjaaGreatDoorTie
import Derived.WalkKit
import Derived.ProofKit
import Derived.OpenShut
import Derived.Deep.DeepHandedRow
import Derived.Lib.LaidTab
import Derived.Stop.LaidErr
import Derived.ChangeSame
import Derived.ChangeShapes
import Derived.RowKit
import Derived.Test.YtegjcikofmphjaaGreatDoorQRefs
import Derived.Carry
import Derived.ChangeSlices
import Derived.ChangeArms
set_option linter.all false
/- Texts that belong together. -/
/- Stage 2: what the seven laws' rows share: the tables that they list, and a world that holds them. -/
namespace Go.Proofs.YtegjcikofmphjaaGreatDoor
open Go Go.RowKit Go.Shelf
theorem own : ownKnob Tryz.prog.godebug = none := by kernel_rfl
theorem gTab : Tryz.prog.globalNamed "internal/strconv.uint64pow10" = some 1 := by kernel_rfl
theorem gTabType : (Tryz.prog.globals[1]?).map (·.type) = some 145 := by kernel_rfl
theorem cellsTab : Tryz.prog.cellsOf 145 = 20 := by kernel_rfl
theorem cellsU64 : Tryz.prog.cellsOf 85 = 1 := by kernel_rfl
theorem table {W : World} (h : laidMet Tryz.prog Rows.rootWholeRow.laid W) : Lib.TabIs Tryz.prog W "internal/strconv.uint64pow10" .u64 Lib.pow10Tab :=
  Lib.tabIs_of_head (rest := []) (zs := Lib.pow10Tab) gTab gTabType Tryz.underlying145 Tryz.underlying85 cellsU64 cellsTab h.tail.tail
theorem rows_tab {W : World} (h : laidMetH Tryz.prog Rows.rootWholeRow.laid W) : Tab W := tab_of (table h)
def cellsOfTab : DataW Unit → Array Value
  | .agg ps => (ps.map fun | .lit (.int k z) => Value.int k z | _ => undef).toArray
  | _ => #[]
def setTab (cs : Array Value) : Obj → Obj
  | .cells _ t frozen => .cells cs t frozen
  | o => o
noncomputable def laidWorld (os : Os) : World :=
  { World.holding Tryz.prog os ⟨#[], #[], []⟩ with heap := (((World.holding Tryz.prog os ⟨#[], #[], []⟩).heap.modify 3 (setTab (cellsOfTab Rows.laid_math_bits_deBruijn32tab))).modify 4 (setTab (cellsOfTab Rows.laid_math_bits_deBruijn64tab))).modify 1 (setTab (cellsOfTab Rows.laid_internal_strconv_uint64pow10)) }
end Go.Proofs.YtegjcikofmphjaaGreatDoor
/- Stage 2: what the cards of the laws share: arguments that a law only reads; slices of ints that come in. -/
namespace Go.Proofs.YtegjcikofmphjaaGreatDoor
open Go Go.ChangeShapes Go.WideShapes Go.ChangeAt Go.RowKit
theorem laidOut : laidOutB Tryz.prog = true := by kernel_rfl
noncomputable def readTypes (P : Program) (ts : List TypeId) : Bool := ts.all fun t => P.readableRec t && decide (t < P.types.size)
theorem trodAll_ext {P : Program} (hl : laidOutB P = true) {H : Type} {enc : TypeId × Value → H} {W W' : World} (hx : Ext W W') : ∀ {ts : List TypeId} {vs : List Value} {ds : List (DataW H)} {ps : List MemPlace}, readTypes P ts = true → DataW.TrodAll enc P W 0 (fun _ => true) true ts vs ds ps →
    DataW.TrodAll enc P W' 0 (fun b => decide (b < W.heap.size)) true ts vs ds ps
  | [], [], [], _, _, h => h
  | [], [], _ :: _, _, _, h => h.elim
  | [], _ :: _, [], _, _, h => h.elim
  | [], _ :: _, _ :: _, _, _, h => h.elim
  | _ :: _, [], [], _, _, h => h.elim
  | _ :: _, [], _ :: _, _, _, h => h.elim
  | _ :: _, _ :: _, [], _, _, h => h.elim
  | t :: ts, v :: vs, d :: ds, ps, hr, h => by
    have hlt := DataW.TrodAll.lt h
    obtain ⟨p, q, h1, h2, rfl⟩ := h
    simp only [readTypes, List.all_cons, Bool.and_eq_true, decide_eq_true_eq] at hr
    exact ⟨p, q, Below.trod hl hr.1.1 hr.1.2 h1 hx (fun x hx => hlt x (List.mem_append_left _ hx)), trodAll_ext hl hx hr.2 h2, rfl⟩
section
variable {H : Type} {enc : TypeId × Value → H} {W W' : World}
set_option maxRecDepth 100000 in
theorem law_post {f : Func} {s : ChangeSpec} {args : Array Value} {ds gs : List (DataW H)} {before : List MemPlace} {bt : TypeId} (hW : DataW.Whole enc Tryz.prog f.params.toList s.vars false W args.toList ds gs before) (hx : Ext W W')
    (hr : f.resultTypes = #[bt]) (hbt : Tryz.prog.underlying bt = some .bool) (hp : readTypes Tryz.prog f.params.toList = true) (hv : s.vars = []) (hfn : s.fn H (ds ++ gs) = { results := [.lit (.bool true)], args := ds }) :
    s.post enc Tryz.prog f false true false false W args (.bool true) W' := by
  have hW' := hW
  obtain ⟨p, q, hA, hV, rfl, -, -⟩ := hW
  refine ⟨ds, gs, _, [], p, [], hW', ?_, ?_, ?_, Below.frame hx _, fun h => by cases h⟩
  · rw [hfn, hr]; exact trodAll_mk1 (shut_bool hbt _)
  · rw [hfn]; exact trodAll_ext laidOut hx hp hA
  · rw [hfn, hv]; rfl
end
end Go.Proofs.YtegjcikofmphjaaGreatDoor
/- An array of three arrays of four ints that comes in. -/
namespace Go.Proofs.YtegjcikofmphjaaGreatDoor
open Go Go.ChangeShapes Go.WideShapes Go.ChangeAt Go.RowKit
section
variable {H : Type} {enc : TypeId × Value → H} {W : World}
theorem okWide_arrY {r : Reach} {b0 : Nat} {t e : TypeId} {n : Nat} {v : Value} (ht : Tryz.prog.underlying t = some (.array n e)) (h : Value.okWide Tryz.prog W r b0 t v) : ∃ cs, v = .agg cs ∧ cs.size = Tryz.prog.cellsOf t := by
  simp only [Value.okWide, ht] at h
  obtain ⟨cs, h1, h2, _⟩ := h
  exact ⟨cs, h1, h2⟩
def in64 (n : Int) : Prop := -9223372036854775808 ≤ n ∧ n ≤ 9223372036854775807
theorem wf_in64 {n : Int} (h : (Lit.int .i64 n).wf = true) : in64 n := by
  have e1 : IntKind.i64.min = -9223372036854775808 := rfl
  have e2 : IntKind.i64.max = 9223372036854775807 := rfl
  simp [Lit.wf, e1, e2] at h
  exact ⟨by omega, by omega⟩
theorem cells_34 : Tryz.prog.cellsOf 51 = 12 := by kernel_rfl
theorem cells_4 : Tryz.prog.cellsOf 27 = 4 := by kernel_rfl
theorem cells_intY : Tryz.prog.cellsOf 3 = 1 := by kernel_rfl
set_option maxRecDepth 100000 in
theorem open_4 {fuel : Nat} {c0 c1 c2 c3 : Value} {x : DataW H × List MemPlace} (h : DataW.trod enc Tryz.prog W 0 (fun _ => true) true fuel 27 [c0, c1, c2, c3] = some x) : ∃ a b c d, c0 = .int .i64 a ∧ c1 = .int .i64 b ∧ c2 = .int .i64 c ∧ c3 = .int .i64 d ∧ in64 a ∧ in64 c := by
  obtain ⟨xs, m, _, he, hl, hlen, hg⟩ := DataW.trod_array Tryz.underlying27 h
  match xs, hlen with
  | [y0, y1, y2, y3], _ =>
    have h0 := hg 0 (by decide)
    have h1 := hg 1 (by decide)
    have h2 := hg 2 (by decide)
    have h3 := hg 3 (by decide)
    simp [cells_intY] at h0 h1 h2 h3
    obtain ⟨a, e0, -, w0⟩ := DataW.trod_int Tryz.underlying3 h0
    obtain ⟨b, e1, -, -⟩ := DataW.trod_int Tryz.underlying3 h1
    obtain ⟨c, e2, -, w2⟩ := DataW.trod_int Tryz.underlying3 h2
    obtain ⟨d, e3, -, -⟩ := DataW.trod_int Tryz.underlying3 h3
    exact ⟨a, b, c, d, (List.cons.inj e0).1, (List.cons.inj e1).1, (List.cons.inj e2).1, (List.cons.inj e3).1, wf_in64 w0, wf_in64 w2⟩
set_option maxRecDepth 100000 in
theorem open_34 {r : Reach} {b0 : Nat} {v : Value} {d : DataW H} {ps : List MemPlace} (hval : Value.okWide Tryz.prog W r b0 51 v) (h : DataW.Trod enc Tryz.prog W 0 (fun _ => true) true 51 v d ps) :
    ∃ a0 b0 c0 d0 a1 b1 c1 d1 a2 b2 c2 d2, v = .agg #[.int .i64 a0, .int .i64 b0, .int .i64 c0, .int .i64 d0, .int .i64 a1, .int .i64 b1, .int .i64 c1, .int .i64 d1, .int .i64 a2, .int .i64 b2, .int .i64 c2, .int .i64 d2] ∧ in64 a0 ∧ in64 c0 ∧ in64 a1 ∧ in64 c1 ∧ in64 a2 ∧ in64 c2 := by
  obtain ⟨⟨cs⟩, rfl, hsz⟩ := okWide_arrY Tryz.underlying51 hval
  rw [cells_34] at hsz
  obtain ⟨fuel, hf⟩ := h
  match cs, hsz with
  | [c0, c1, c2, c3, c4, c5, c6, c7, c8, c9, c10, c11], _ =>
    have hf : DataW.trod enc Tryz.prog W 0 (fun _ => true) true fuel 51 [c0, c1, c2, c3, c4, c5, c6, c7, c8, c9, c10, c11] = some (d, ps) := by simpa [Value.cells] using hf
    obtain ⟨xs, m, _, he, hl, hlen, hg⟩ := DataW.trod_array Tryz.underlying51 hf
    match xs, hlen with
    | [y0, y1, y2], _ =>
      have h0 := hg 0 (by decide)
      have h1 := hg 1 (by decide)
      have h2 := hg 2 (by decide)
      simp [cells_4] at h0 h1 h2
      obtain ⟨a0, b0, k0, d0, rfl, rfl, rfl, rfl, wa0, wc0⟩ := open_4 h0
      obtain ⟨a1, b1, k1, d1, rfl, rfl, rfl, rfl, wa1, wc1⟩ := open_4 h1
      obtain ⟨a2, b2, k2, d2, rfl, rfl, rfl, rfl, wa2, wc2⟩ := open_4 h2
      exact ⟨a0, b0, k0, d0, a1, b1, k1, d1, a2, b2, k2, d2, rfl, wa0, wc0, wa1, wc1, wa2, wc2⟩
end
end Go.Proofs.YtegjcikofmphjaaGreatDoor

