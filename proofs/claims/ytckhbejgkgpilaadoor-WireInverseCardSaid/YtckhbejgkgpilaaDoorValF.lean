/- What the drawn operations on a value hold. (Written by gen_tr.py.) -/
import Derived.Test.YtckhbejgkgpilaaDoorReg
set_option linter.all false
namespace Go.Proofs.YtckhbejgkgpilaaDoor
open Go Go.RowKit Go.Shelf

def part (j : Nat) (n : Int) (s1 : Bs) (zs1 : List Int) (ts1 : List Bs) : Bs :=
  match j with
  | 0 => serInt n
  | 1 => serText s1
  | 2 => serL serInt zs1
  | _ => serL serText ts1
def parts (n : Int) (s1 : Bs) (zs1 : List Int) (ts1 : List Bs) : Array Value := #[.string ⟨(serInt n).toArray⟩, .string ⟨(serText s1).toArray⟩, .string ⟨(serL serInt zs1).toArray⟩, .string ⟨(serL serText ts1).toArray⟩]
theorem parts_at {j : Nat} (hj : j < 4) (n : Int) (s1 : Bs) (zs1 : List Int) (ts1 : List Bs) : (parts n s1 zs1 ts1)[j]? = some (.string ⟨(part j n s1 zs1 ts1).toArray⟩) := by
  match j, hj with
  | 0, _ => rfl
  | 1, _ => rfl
  | 2, _ => rfl
  | 3, _ => rfl
theorem part_serK {j : Nat} {n : Int} {s : Bs} {zs : List Int} {ts : List Bs} : part j n (s.take 100) (zs.take 20) (cutL ts) = serK j n s zs ts := by
  unfold part serK; rfl
def valF (g c : Nat) (n : Int) (s : Bs) (p : Option Addr) (lz cap : Nat) (u : Value) (s1 : Bs) (lz1 : Nat) (zs1 : List Int) (ts1 : List Bs) (j : Nat) : Nat → Value → World → Prop
  | 0, v, _ => v = .pointer (some ⟨g, 1, none⟩)
  | 1, v, _ => v = .int .i64 n
  | 2, v, _ => v = .string ⟨(serInt n).toArray⟩
  | 3, v, _ => v = .pointer (some ⟨g, 2, none⟩)
  | 4, v, _ => v = .string ⟨s.toArray⟩
  | 5, v, _ => v = .pointer (some ⟨g, 2, none⟩)
  | 6, v, _ => v = .string ⟨s.toArray⟩
  | 7, v, _ => v = .int .i64 s.length
  | 8, v, _ => v = .int .i64 ((min s.length 100 : Nat) : Int)
  | 9, v, _ => v = .string ⟨s1.toArray⟩
  | 10, v, _ => v = .string ⟨(serText s1).toArray⟩
  | 11, v, _ => v = .pointer (some ⟨g, 3, none⟩)
  | 12, v, _ => v = .slice p lz cap
  | 13, v, _ => v = .pointer (some ⟨g, 3, none⟩)
  | 14, v, _ => v = .slice p lz cap
  | 15, v, _ => v = .int .i64 lz
  | 16, v, _ => v = .int .i64 lz1
  | 17, v, _ => v = .slice p lz1 cap
  | 18, v, _ => v = .string ⟨(serL serInt zs1).toArray⟩
  | 19, v, _ => v = .pointer (some ⟨g, 4, none⟩)
  | 20, v, _ => v = u
  | 21, v, W => SlOf encT (fun _ => True) W v ts1
  | 22, v, _ => v = .string ⟨(serL serText ts1).toArray⟩
  | 23, v, W => ∃ G, v = .slice (some ⟨G, 0, none⟩) 4 4 ∧ W.heap[G]? = some (.cells (parts n s1 zs1 ts1) 9 (0, 0))
  | 24, v, _ => v = .pointer (some ⟨g, 0, none⟩)
  | 25, v, _ => v = .int .u8 c
  | 26, v, _ => v = .int .u8 j
  | 27, v, W => ∃ G, v = .pointer (some ⟨G, j, none⟩) ∧ W.heap[G]? = some (.cells (parts n s1 zs1 ts1) 9 (0, 0))
  | 28, v, _ => v = .string ⟨(part j n s1 zs1 ts1).toArray⟩
  | 29, v, _ => v = .string ⟨(part j n s1 zs1 ts1).toArray⟩
  | _, _, _ => True
theorem valF_mono {g c : Nat} {n : Int} {s : Bs} {p : Option Addr} {lz cap : Nat} {u : Value} {s1 : Bs} {lz1 : Nat} {zs1 : List Int} {ts1 : List Bs} {j : Nat} {W W' : World} (hx : Ext W W') : ∀ {k : Nat} {v : Value}, valF g c n s p lz cap u s1 lz1 zs1 ts1 j k v W → valF g c n s p lz cap u s1 lz1 zs1 ts1 j k v W'
  | 0, _, h => h
  | 1, _, h => h
  | 2, _, h => h
  | 3, _, h => h
  | 4, _, h => h
  | 5, _, h => h
  | 6, _, h => h
  | 7, _, h => h
  | 8, _, h => h
  | 9, _, h => h
  | 10, _, h => h
  | 11, _, h => h
  | 12, _, h => h
  | 13, _, h => h
  | 14, _, h => h
  | 15, _, h => h
  | 16, _, h => h
  | 17, _, h => h
  | 18, _, h => h
  | 19, _, h => h
  | 20, _, h => h
  | 21, _, h => SlOf.ext h hx
  | 22, _, h => h
  | 23, _, ⟨G, h1, h2⟩ => ⟨G, h1, (Below.block hx G (Array.getElem?_eq_some_iff.1 h2).1).trans h2⟩
  | 24, _, h => h
  | 25, _, h => h
  | 26, _, h => h
  | 27, _, ⟨G, h1, h2⟩ => ⟨G, h1, (Below.block hx G (Array.getElem?_eq_some_iff.1 h2).1).trans h2⟩
  | 28, _, h => h
  | 29, _, h => h
  | _ + 30, _, _ => trivial

end Go.Proofs.YtckhbejgkgpilaaDoor
