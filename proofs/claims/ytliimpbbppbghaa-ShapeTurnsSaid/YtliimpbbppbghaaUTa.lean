import Derived.Test.YtliimpbbppbghaaUEd7
import Derived.Test.YtliimpbbppbghaaUSyz
set_option linter.all false
namespace Go.Proofs.Ytliimpbbppbghaa
open Go Go.RowKit Go.Shelf Sx
structure KeepG (g : Nat) (w w' : World) : Prop where
  os : w'.os = w.os
  tape : w'.tape = w.tape
  output : w'.output = w.output
  size : w.heap.size ≤ w'.heap.size
  block : ∀ k, k < w.heap.size → k ≠ g → w'.heap[k]? = w.heap[k]?
theorem KeepG.refl (g : Nat) (w : World) : KeepG g w w := ⟨rfl, rfl, rfl, Nat.le_refl _, fun _ _ _ => rfl⟩
theorem KeepG.trans {g : Nat} {a b c : World} (h : KeepG g a b) (k : KeepG g b c) : KeepG g a c :=
  ⟨k.os.trans h.os, k.tape.trans h.tape, k.output.trans h.output, Nat.le_trans h.size k.size, fun i hi hg => (k.block i (Nat.lt_of_lt_of_le hi h.size) hg).trans (h.block i hi hg)⟩
theorem KeepG.alloc (g : Nat) (w : World) (o : Obj) : KeepG g w (w.alloc o) := ⟨rfl, rfl, rfl, by simp, fun _ hk _ => heap_alloc_old w o hk⟩
theorem KeepG.below {g n : Nat} {w w' : World} (h : KeepG g w w') (hn : n ≤ g) (hw : n ≤ w.heap.size) : Below n w w' := ⟨h.os, h.tape, h.output, h.size, fun k hk => h.block k (by omega) (by omega)⟩
theorem KeepG.cell {g : Nat} {w w' : World} (h : KeepG g w w') {p : Addr} (hp : p.block < w.heap.size) (hg : p.block ≠ g) : w'.cell? p = w.cell? p := World.cell?_of_block (w := w) (h.block p.block hp hg)
def DrawS (n g : Nat) (w : World) : Prop := ∃ (p : Option Addr) (zs : List Int) (k cap : Nat), zs.length ≤ maxLen ∧ n ≤ g ∧
  (0 < zs.length → ∃ b off, p = some ⟨b, off, none⟩ ∧ b < n ∧ ∀ j, j < zs.length → w.cell? ⟨b, off + j, none⟩ = some (.int .i64 (zs[j]?.getD 0))) ∧
  w.heap[g]? = some (.cells #[.slice p zs.length cap, .int .i64 (drawA zs k)] TD (0, 0))
theorem DrawS.lt {n g : Nat} {w : World} (h : DrawS n g w) : g < w.heap.size := by
  obtain ⟨p, zs, k, cap, h1, h2, h3, h4⟩ := h
  exact (Array.getElem?_eq_some_iff.1 h4).1
theorem DrawS.below {n g : Nat} {w w' : World} (h : DrawS n g w) (hb : Below w.heap.size w w') : DrawS n g w' := by
  have hlt := h.lt
  obtain ⟨p, zs, k, cap, h1, h2, h3, h4⟩ := h
  refine ⟨p, zs, k, cap, h1, h2, fun h0 => ?_, (hb.block g hlt).trans h4⟩
  obtain ⟨b, off, e1, e2, e3⟩ := h3 h0
  exact ⟨b, off, e1, e2, fun j hj => (hb.cell (p := ⟨b, off + j, none⟩) (by show b < w.heap.size; omega)).trans (e3 j hj)⟩
end Go.Proofs.Ytliimpbbppbghaa

