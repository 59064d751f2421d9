import Derived.RangeFuncNested
import Derived.RangeFuncBound
import Derived.RangeFuncCalls
import Derived.RangeFuncLeaves
import Derived.Shelf.Abstract
import Derived.Shelf.RegionOpen
import Derived.WalkKit
import Derived.OwnWalkIn
import Derived.TacticsInMore
import Derived.LoopNIn
import Derived.LoopIn
import Derived.Lib.SliceRun
import Derived.Lib.Hide
import Derived.Test.YtliimpbbppbghaaProg
set_option linter.all false
namespace Go.Proofs.Ytliimpbbppbghaa
open Go Go.RowKit Go.Shelf
attribute [local go_sem] Oper.semAt_some
structure E7 where
  k : Int
  ax : Int
  ay : Int
  bx : Int
  by' : Int
  cx : Int
  cy : Int
  deriving Inhabited, DecidableEq
def E7.enc (e : E7) : List Value := [.int .i64 e.k, .int .i64 e.ax, .int .i64 e.ay, .int .i64 e.bx, .int .i64 e.by', .int .i64 e.cx, .int .i64 e.cy]
def E7.val (e : E7) : Value := .agg #[.int .i64 e.k, .int .i64 e.ax, .int .i64 e.ay, .int .i64 e.bx, .int .i64 e.by', .int .i64 e.cx, .int .i64 e.cy]
def prU (es : List E7) (k : Nat) : List (E7 × E7) := (List.range (k - 1)).map fun j => (es[j]!, es[j + 1]!)
theorem prU_succ (es : List E7) {k : Nat} (h : 0 < k) : prU es (k + 1) = prU es k ++ [(es[k - 1]!, es[k]!)] := by
  obtain ⟨m, rfl⟩ : ∃ m, k = m + 1 := ⟨k - 1, by omega⟩
  simp [prU, List.range_succ]
theorem prU_length (es : List E7) (k : Nat) : (prU es k).length = k - 1 := by simp [prU]
theorem prU_prefix (es : List E7) {k m : Nat} (h : k ≤ m) : prU es k <+: prU es m := by
  obtain ⟨d, hd⟩ : ∃ d, m - 1 = (k - 1) + d := ⟨m - 1 - (k - 1), by omega⟩
  unfold prU
  rw [hd, List.range_add, List.map_append]
  exact List.prefix_append _ _
def prAll (es : List E7) (closed : Bool) : List (E7 × E7) := prU es es.length ++ if closed = true ∧ 0 < es.length then [(es[es.length - 1]!, es[0]!)] else []
def cellsAt (w : World) (b o : Nat) (e : E7) : Prop := w.cell? ⟨b, o, none⟩ = some (.int .i64 e.k) ∧ w.cell? ⟨b, o + 1, none⟩ = some (.int .i64 e.ax) ∧ w.cell? ⟨b, o + 2, none⟩ = some (.int .i64 e.ay) ∧ w.cell? ⟨b, o + 3, none⟩ = some (.int .i64 e.bx) ∧
  w.cell? ⟨b, o + 4, none⟩ = some (.int .i64 e.by') ∧ w.cell? ⟨b, o + 5, none⟩ = some (.int .i64 e.cx) ∧ w.cell? ⟨b, o + 6, none⟩ = some (.int .i64 e.cy)
def Edges (w : World) (b off : Nat) (es : List E7) : Prop := ∀ j, j < es.length → cellsAt w b (off + j * 7) es[j]!
theorem cellsAt.below {n₀ b o : Nat} {e : E7} {w w' : World} (h : cellsAt w b o e) (hb : Below n₀ w w') (hn : b < n₀) : cellsAt w' b o e := by
  obtain ⟨h0, h1, h2, h3, h4, h5, h6⟩ := h
  exact ⟨(hb.cell (p := ⟨b, _, none⟩) hn).trans h0, (hb.cell (p := ⟨b, _, none⟩) hn).trans h1, (hb.cell (p := ⟨b, _, none⟩) hn).trans h2, (hb.cell (p := ⟨b, _, none⟩) hn).trans h3, (hb.cell (p := ⟨b, _, none⟩) hn).trans h4, (hb.cell (p := ⟨b, _, none⟩) hn).trans h5, (hb.cell (p := ⟨b, _, none⟩) hn).trans h6⟩
theorem Edges.below {n₀ b off : Nat} {es : List E7} {w w' : World} (h : Edges w b off es) (hb : Below n₀ w w') (hn : b < n₀) : Edges w' b off es := fun j hj => (h j hj).below hb hn
theorem prAll_prefix (es : List E7) (closed : Bool) {k : Nat} (h : k ≤ es.length) : prU es k <+: prAll es closed := (prU_prefix es h).trans (List.prefix_append _ _)
def SlE (n₀ : Nat) (w : World) (v : Value) (es : List E7) : Prop := ∃ p cap, v = .slice p es.length cap ∧ es.length ≤ 1000000000000 ∧
  (0 < es.length → ∃ b off, p = some ⟨b, off, none⟩ ∧ b < n₀ ∧ Edges w b off es)
theorem SlE.below {n₀ : Nat} {w w' : World} {v : Value} {es : List E7} (h : SlE n₀ w v es) (hb : Below n₀ w w') : SlE n₀ w' v es := by
  obtain ⟨p, cap, e, hl, hc⟩ := h
  refine ⟨p, cap, e, hl, fun h0 => ?_⟩
  obtain ⟨b, off, e1, h1, h2⟩ := hc h0
  exact ⟨b, off, e1, h1, h2.below hb h1⟩
end Go.Proofs.Ytliimpbbppbghaa

