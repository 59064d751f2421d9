import Derived.Test.YtgnogdncoljldaaGreatQSMa
import Derived.Deep.QuietTactic
import Derived.OwnWalk
set_option linter.all false
namespace Go.Proofs.YtgnogdncoljldaaGreat
open Go Go.RowKit
def ptCells (zs : List (Int × Int)) : List Value := zs.flatMap fun z => [.int .i64 z.1, .int .i64 z.2]
theorem ptCells_get : ∀ (zs : List (Int × Int)) (j : Nat) (z : Int × Int), zs[j]? = some z → (ptCells zs)[j * 2]? = some (.int .i64 z.1) ∧ (ptCells zs)[j * 2 + 1]? = some (.int .i64 z.2)
 | [], j, z, h => by simp at h
 | u :: r, 0, z, h => by simp at h; subst h; exact ⟨rfl, rfl⟩
 | u :: r, j + 1, z, h => by
   have ih := ptCells_get r j z (by simpa using h)
   have e : ptCells (u :: r) = [.int .i64 u.1, .int .i64 u.2] ++ ptCells r := rfl
   rw [e, List.getElem?_append_right (by simp; omega), List.getElem?_append_right (by simp; omega)]
   simp only [List.length_cons, List.length_nil]
   rw [show (j + 1) * 2 - (0 + 1 + 1) = j * 2 by omega, show (j + 1) * 2 + 1 - (0 + 1 + 1) = j * 2 + 1 by omega]
   exact ih
set_option maxRecDepth 100000 in
set_option maxHeartbeats 2000000 in
theorem index_calls (g : Nat) (cap : Nat) (n : Nat) (zs : List (Int × Int)) (hn : n = zs.length) (hm : n ≤ 1000) (x y : Int) (w : World) (hg : g < w.heap.size)
  (hc : ∀ j z, zs[j]? = some z → w.cell? ⟨g, j * 2, none⟩ = some (.int .i64 z.1) ∧ w.cell? ⟨g, j * 2 + 1, none⟩ = some (.int .i64 z.2)) :
  Calls Tryz.prog 188 #[.slice (some ⟨g, 0, none⟩) n cap, .agg #[.int .i64 x, .int .i64 y]] w fun e w' => (∃ r : Int, e = .returned (.int .i64 r) ∧ (0 ≤ r ↔ (x, y) ∈ zs)) ∧ Below w.heap.size w w' := by
 have Hc := Lib.hid hc
 have Hn := Lib.hid hn
 clear hc hn
 go_enter Tryz.func188, Tryz.ntmps188
 go_wp2
 go_loopw [8] (fun i wr => ∃ k : Nat, k ≤ n ∧ i = .int .i64 k ∧ (x, y) ∉ zs.take k ∧ RowAt wr w.heap.size 24 #[.int .i64 x, .int .i64 y] ∧ Below w.heap.size w wr) (fun i _ => n - (intOf i).toNat)
 case atStart => exact ⟨0, Nat.zero_le _, rfl, by simp, RowAt.new w _ _, (Below.refl _ w).alloc (Nat.le_refl _) _⟩
 case round =>
  obtain ⟨k, hk, rfl, hno, hrow, hB⟩ := hrel
  have HB := Lib.hid hB
  have Hno := Lib.hid hno
  have Hrow := Lib.hid hrow
  clear hB hno hrow
  by_cases hkn : k < n
  ·obtain ⟨z, hz⟩ : ∃ z, zs[k]? = some z := ⟨_, List.getElem?_eq_getElem (by have := Hn.out; omega)⟩
   obtain ⟨c1, c2⟩ := Hc.out k z hz
   obtain ⟨zx, zy⟩ := z
   have d1 := (HB.out.cell (p := ⟨g, k * 2, none⟩) hg).trans c1
   have d2 := (HB.out.cell (p := ⟨g, k * 2 + 1, none⟩) hg).trans c2
   have Hz := Lib.hid hz
   have r1 : wr.cell? ⟨w.heap.size, 0, none⟩ = some (.int .i64 x) := Hrow.out.cell 0
   have r2 : wr.cell? ⟨w.heap.size, 1, none⟩ = some (.int .i64 y) := Hrow.out.cell 1
   have hk64 : (k : Int) < n := by omega
   clear c1 c2 hz
   by_cases hx : x = zx
   ·by_cases hy : y = zy
    ·subst hx hy
     go_wp2
     go_region
     go_wp2
     go_ret
     exact ⟨⟨k, rfl, by simp; exact List.mem_of_getElem? Hz.out⟩, HB.out.drew⟩
    ·subst hx
     go_wp2
     go_region
     go_wp2
     refine ⟨⟨k + 1, by omega, by simp, ?_, Hrow.out.drew, HB.out.drew⟩, ?_⟩
     ·rw [List.take_add_one, Hz.out]
      simp only [Option.toList_some, List.mem_append, List.mem_singleton, Prod.mk.injEq, not_or]
      exact ⟨Hno.out, fun h => hy h.2⟩
     ·show n - ((k : Int) + 1).toNat < n - (k : Int).toNat
      omega
   ·go_wp2
    go_region
    go_wp2
    refine ⟨⟨k + 1, by omega, by simp, ?_, Hrow.out.drew, HB.out.drew⟩, ?_⟩
    ·rw [List.take_add_one, Hz.out]
     simp only [Option.toList_some, List.mem_append, List.mem_singleton, Prod.mk.injEq, not_or]
     exact ⟨Hno.out, fun h => hx h.1⟩
    ·show n - ((k : Int) + 1).toNat < n - (k : Int).toNat
     omega
  ·have hkn2 : k = n := by omega
   have hlt : ¬ ((k : Int) < n) := by omega
   have Hkn := Lib.hid hkn2
   clear hkn2
   go_wp2
   go_ret
   refine ⟨⟨-1, rfl, by simp; have := Hno.out; rw [Hkn.out, Hn.out, List.take_length] at this; exact this⟩, HB.out⟩
set_option maxRecDepth 100000 in
set_option maxHeartbeats 2000000 in
theorem index_nil (x y : Int) (w : World) :
  Calls Tryz.prog 188 #[.slice none 0 0, .agg #[.int .i64 x, .int .i64 y]] w fun e w' => e = .returned (.int .i64 (-1)) ∧ Below w.heap.size w w' := by
 go_enter Tryz.func188, Tryz.ntmps188
 go_wp2
 go_loopw [8] (fun i wr => i = .int .i64 0 ∧ Below w.heap.size w wr) (fun i _ => 0)
 case atStart => exact ⟨rfl, (Below.refl _ w).alloc (Nat.le_refl _) _⟩
 case round =>
  obtain ⟨rfl, hB⟩ := hrel
  go_wp2
  go_ret
  exact ⟨rfl, hB⟩
def OwnPts (w : World) (base : Nat) (v : Value) (zs : List (Int × Int)) : Prop := w.ownsRow base 24 2 v zs.length (ptCells zs)
theorem OwnPts.index {w : World} {base : Nat} {v : Value} {zs : List (Int × Int)} (h : OwnPts w base v zs) (hm : zs.length ≤ 1000) (x y : Int) :
  Calls Tryz.prog 188 #[v, .agg #[.int .i64 x, .int .i64 y]] w fun e w' => (∃ r : Int, e = .returned (.int .i64 r) ∧ (0 ≤ r ↔ (x, y) ∈ zs)) ∧ Below w.heap.size w w' := by
 rcases h.2 with ⟨rfl, h0⟩ | ⟨g, cap, cur, rfl, hb, hg, h1, h2, h3, h4⟩
 ·have : zs = [] := List.length_eq_zero_iff.1 h0
  subst this
  exact (index_nil x y w).mono fun e w' ⟨he, hb⟩ => ⟨⟨_, he, by simp⟩, hb⟩
 ·have hlt := (Array.getElem?_eq_some_iff.1 hg).1
  have hcs := World.ownsRow.cells h (g := g) rfl
  have e : ∀ j, (⟨g, 0, none⟩ : Addr).add j = ⟨g, j, none⟩ := fun j => by unfold Addr.add; simp; intro h; exact h.symm
  refine index_calls g cap _ zs rfl hm x y w hlt (fun j z hz => ?_)
  obtain ⟨p1, p2⟩ := ptCells_get zs j z hz
  have q1 := hcs _ _ p1
  have q2 := hcs _ _ p2
  rw [e] at q1 q2
  exact ⟨q1, q2⟩
theorem OwnPts.alloc {w : World} {base : Nat} {v : Value} {zs : List (Int × Int)} (h : OwnPts w base v zs) (o : Obj) : OwnPts (w.alloc o) base v zs := World.ownsRow.alloc h o
theorem OwnPts.below {w w' : World} {base B : Nat} {v : Value} {zs : List (Int × Int)} (h : OwnPts w base v zs) (hb : Below w.heap.size w w') : OwnPts w' base v zs := by
 refine ⟨h.1, ?_⟩
 rcases h.2 with hn | ⟨g, cap, cur, rfl, hb', hg, rest⟩
 ·exact .inl hn
 ·exact .inr ⟨g, cap, cur, rfl, hb', (hb.block g (Array.getElem?_eq_some_iff.1 hg).1).trans hg, rest⟩
end Go.Proofs.YtgnogdncoljldaaGreat

