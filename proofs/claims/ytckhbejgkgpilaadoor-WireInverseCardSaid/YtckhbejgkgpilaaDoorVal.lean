/- Values of wire's laws: what they hold, and their serializations. (Written by gen_val.py.) -/
import Derived.Test.YtckhbejgkgpilaaDoorWrites
import Derived.Test.YtckhbejgkgpilaaDoorCanonical
import Derived.Deep.RegionHeld3
set_option linter.all false
namespace Go.Proofs.YtckhbejgkgpilaaDoor
open Go Go.RowKit Go.Shelf

/-- A Value as it comes in. -/
structure ValIn (w : World) (c : Nat) (n : Int) (s : Bs) (p : Option Addr) (lz cap : Nat) (u : Value) (zs : List Int) (ts : List Bs) : Prop where
  hc : c < 256
  hn : I64 n
  hs : s.length ≤ 9223372036854775807
  hz : SlOf encI (fun b => b < w.heap.size) w (.slice p lz cap) zs
  hlen : lz = zs.length
  hcap : lz ≤ cap
  hzo : AllOk I64 zs
  ht : SlOf encT (fun b => b < w.heap.size) w u ts
  hto : ∀ x ∈ ts, x.length ≤ 9223372036854775807
def valV (c : Nat) (n : Int) (s : Bs) (p : Option Addr) (lz cap : Nat) (u : Value) : Value := .agg #[.int .u8 c, .int .i64 n, .string ⟨s.toArray⟩, .slice p lz cap, u]
/-- The serialization of a value's part of kind j. -/
def serK (j : Nat) (n : Int) (s : Bs) (zs : List Int) (ts : List Bs) : Bs :=
  match j with
  | 0 => serInt n
  | 1 => serText (s.take 100)
  | 2 => serL serInt (zs.take 20)
  | _ => serL serText (cutL ts)
theorem serK_short {j : Nat} {n : Int} {s : Bs} {zs : List Int} {ts : List Bs} (hn : I64 n) (hz : AllOk I64 zs) (_ : j < 4) {p q : Bs} (h : serK j n s zs ts = p ++ q) (hq : q ≠ []) : NoneK j p := by
  have key : ∀ {α : Type} {ser : α → Bs} {ok : α → Prop} {a : α}, UD ser ok → ok a → ser a = p ++ q → Dec ser ok p none := fun {α ser ok a} hu ha h => Dec.no fun b t hb e => by
    have h2 : ser a ++ [] = ser b ++ (t ++ q) := by rw [List.append_nil, h, e, List.append_assoc]
    exact hq (List.append_eq_nil_iff.1 (hu a b _ _ ha hb h2).2.symm).2
  match j, h with
  | 0, h => exact key ud_int hn h
  | 1, h => exact key ud_text (by unfold TextOk; rw [List.length_take]; omega) h
  | 2, h => exact key (ud_list ud_int opens_int) (hz.take 20) h
  | _ + 3, h => exact key (ud_list ud_text opens_text) (ok_of_short cutL_ok) h
theorem serK_len {j : Nat} {n : Int} {s : Bs} {zs : List Int} {ts : List Bs} (hn : I64 n) (hz : AllOk I64 zs) : (serK j n s zs ts).length ≤ 2422 ∧ 0 < (serK j n s zs ts).length := by
  have h1 := serInt_le hn
  have h2 := serText_le (s := s.take 100) (by rw [List.length_take]; omega)
  have h3 := serInts_le (k := 20) (hz.take 20) (by rw [List.length_take]; omega)
  have h4 := serTexts_le (cutL_ok (l := ts)) (cutL_length ts)
  unfold serK
  split
  · exact ⟨by omega, by simp [serInt, serNum]⟩
  · exact ⟨by omega, by simp [serText, serNum]; omega⟩
  · exact ⟨by omega, by simp [serL]⟩
  · exact ⟨by omega, by simp [serL]⟩
/-- A box with a value. -/
def VCells (W : World) (g : Nat) (c : Nat) (n : Int) (s : Bs) (p : Option Addr) (lz cap : Nat) (u : Value) : Prop :=
  W.cell? ⟨g, 0, none⟩ = some (.int .u8 c) ∧ W.cell? ⟨g, 1, none⟩ = some (.int .i64 n) ∧ W.cell? ⟨g, 2, none⟩ = some (.string ⟨s.toArray⟩) ∧ W.cell? ⟨g, 3, none⟩ = some (.slice p lz cap) ∧ W.cell? ⟨g, 4, none⟩ = some u
theorem VCells.ext {W W' : World} {g c : Nat} {n : Int} {s : Bs} {p : Option Addr} {lz cap : Nat} {u : Value} (h : VCells W g c n s p lz cap u) (hg : g < W.heap.size) (hx : Ext W W') : VCells W' g c n s p lz cap u := by
  obtain ⟨h0, h1, h2, h3, h4⟩ := h
  exact ⟨(Below.cell hx (p := ⟨g, 0, none⟩) hg).trans h0, (Below.cell hx (p := ⟨g, 1, none⟩) hg).trans h1, (Below.cell hx (p := ⟨g, 2, none⟩) hg).trans h2, (Below.cell hx (p := ⟨g, 3, none⟩) hg).trans h3, (Below.cell hx (p := ⟨g, 4, none⟩) hg).trans h4⟩
theorem vcells_new (W : World) (t : TypeId) (c : Nat) (n : Int) (s : Bs) (p : Option Addr) (lz cap : Nat) (u : Value) : VCells (W.alloc (.cells #[.int .u8 c, .int .i64 n, .string ⟨s.toArray⟩, .slice p lz cap, u] t)) W.heap.size c n s p lz cap u := by
  refine ⟨?_, ?_, ?_, ?_, ?_⟩ <;> (rw [Lib.cell_of_heap (heap_alloc_new W _)]; rfl)

end Go.Proofs.YtckhbejgkgpilaaDoor
