/- Texts that belong together. -/
import Derived.Test.YtegjcikofmphjaaGreatDoorQRootEH
set_option linter.all false
/- Layer 2: roots and ints are stored into arrays. -/
namespace Go.Proofs.YtegjcikofmphjaaGreatDoor
open Go Go.RowKit Go.Shelf
def noU32 (cs : Array Value) : Bool := cs.toList.all fun | .int .u32 _ => false | _ => true
theorem noU32_at {cs : Array Value} (h : noU32 cs = true) {j : Nat} {d : Int} : cs[j]? ≠ some (.int .u32 d) := fun e => by
  have hm : Value.int .u32 d ∈ cs.toList := by
    rw [← Array.getElem?_toList] at e
    exact List.mem_of_getElem? e
  have := List.all_eq_true.1 h _ hm
  exact absurd this (by simp)
theorem U32s.setAny {B : Nat} {w : World} {v : Value} {ds : List Nat} {g : Nat} {t : TypeId} {old : Array Value} (h : U32s B w v ds) (hr : RowAt w g t old) (hn : noU32 old = true) (cs : Array Value) : U32s B (w.setRow g cs) v ds := by
  obtain ⟨q, cap, rfl, hl, hc⟩ := h
  refine ⟨q, cap, rfl, hl, fun h0 => ?_⟩
  obtain ⟨b, off, rfl, hb, hcs⟩ := hc h0
  have hne : b ≠ g := fun e => by
    subst e
    have h1 := hcs 0 h0
    rw [hr.cell] at h1
    exact noU32_at hn h1
  exact ⟨b, off, rfl, hb, fun j hj => (World.cell?_of_block (setRow_other w g b cs hne)).trans (hcs j hj)⟩
theorem ZNum.setAny {B : Nat} {w : World} {v : Value} {z : Int} {g : Nat} {t : TypeId} {old : Array Value} (h : ZNum B w v z) (hr : RowAt w g t old) (hn : noU32 old = true) (cs : Array Value) : ZNum B (w.setRow g cs) v z := by
  obtain ⟨⟨s, rfl, hu⟩, hl⟩ := h
  exact ⟨⟨s, rfl, hu.setAny hr hn cs⟩, hl⟩
section
variable {ops : Array Oper} {rest : List Oper} {o : Oper} {b : Act} {w : World} {Q : Exit → Act → World → Prop}
end
end Go.Proofs.YtegjcikofmphjaaGreatDoor

