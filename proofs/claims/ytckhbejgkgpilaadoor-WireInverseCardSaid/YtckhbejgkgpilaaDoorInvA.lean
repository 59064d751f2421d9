/- WireInverse: what an append of a value to the own slice keeps. -/
import Derived.Test.YtckhbejgkgpilaaDoorInv0
set_option linter.all false
namespace Go.Proofs.YtckhbejgkgpilaaDoor
open Go Go.RowKit Go.Shelf

theorem cells_new (W : World) (cs : List Value) (t : TypeId) : ∀ (j : Nat) (u : Value), cs[j]? = some u → (W.alloc (.cells cs.toArray t)).cell? (Addr.add ⟨W.heap.size, 0, none⟩ j) = some u := fun j u hj => by
  rw [Addr.add_mid, Nat.zero_add, Lib.cell_of_heap (heap_alloc_new W _)]
  simpa using hj
theorem cells_new' (W : World) (g : Nat) (hg : g = W.heap.size) (cs : List Value) (t : TypeId) : ∀ (j : Nat) (u : Value), cs[j]? = some u → (W.alloc (.cells cs.toArray t)).cell? (Addr.add ⟨g, 0, none⟩ j) = some u := by
  subst hg; exact cells_new W cs t
theorem cells_one (d : VD) : ∀ u ∈ d.cells, u.oneCell' = true := by
  intro u hu
  unfold VD.cells at hu
  simp only [List.mem_cons, List.not_mem_nil, or_false] at hu
  rcases hu with rfl | rfl | rfl | rfl | rfl <;> rfl
theorem vcells_set {W : World} {g c : Nat} {n : Int} {s : Bs} {p : Option Addr} {lz cap : Nat} {u : Value} (h : VCells W g c n s p lz cap u) (u' : Value) : VCells (W.setCell ⟨g, 4, none⟩ u') g c n s p lz cap u' := by
  obtain ⟨h0, h1, h2, h3, h4⟩ := h
  refine ⟨?_, ?_, ?_, ?_, ?_⟩
  · rw [World.cell?_setCell_other _ _ _ _ (by simp)]; exact h0
  · rw [World.cell?_setCell_other _ _ _ _ (by simp)]; exact h1
  · rw [World.cell?_setCell_other _ _ _ _ (by simp)]; exact h2
  · rw [World.cell?_setCell_other _ _ _ _ (by simp)]; exact h3
  · exact World.cell?_setCell_same _ _ _ h4
theorem VCells.keep {W W' : World} {g c : Nat} {n : Int} {s : Bs} {p : Option Addr} {lz cap : Nat} {u : Value} {rb : Option Nat} (h : VCells W g c n s p lz cap u) (hg : g < W.heap.size) (hk : Keep rb W W') (hne : rb ≠ some g) : VCells W' g c n s p lz cap u := by
  obtain ⟨h0, h1, h2, h3, h4⟩ := h
  have hb := hk.block g hg hne
  exact ⟨(World.cell?_of_block (a := ⟨g, 0, none⟩) hb).trans h0, (World.cell?_of_block (a := ⟨g, 1, none⟩) hb).trans h1, (World.cell?_of_block (a := ⟨g, 2, none⟩) hb).trans h2, (World.cell?_of_block (a := ⟨g, 3, none⟩) hb).trans h3, (World.cell?_of_block (a := ⟨g, 4, none⟩) hb).trans h4⟩
theorem inv_append {w0 wr w2 w4 : World} {B k : Nat} {v v' u u' : Value} {es : List VD} {o1 o2 : Obj} {d : VD} (h0 : Ext w0 wr) (hB0 : w0.heap.size ≤ B) (hBw : B ≤ wr.heap.size)
    (hown : wr.ownsRow B 45 5 v k (es.flatMap VD.cells)) (hcut : ∀ d ∈ es, VD.Cut (fun b => v.ownBlock ≠ some b) wr d)
    (hx2 : Ext (wr.alloc o1) w2) (hz : SlOf encI (fun b => b < w0.heap.size) w0 (.slice d.p d.lz d.cap) d.zs) (ht : SlOf encT (fun b => (wr.alloc o1).heap.size ≤ b) w2 (.slice d.q d.lt d.cap2) d.ts)
    (h1 : d.c < 256) (h2 : I64 d.n) (h3 : d.s.length ≤ 100) (h4 : AllOk I64 d.zs) (h5 : d.zs.length ≤ 20) (h6 : AllOk (fun x => x.length ≤ 100) d.ts) (h7 : d.ts.length ≤ 20)
    (hVC : VCells w2 wr.heap.size d.c d.n d.s d.p d.lz d.cap u) (hu : u' = .slice d.q d.lt d.cap2)
    (hown' : w4.ownsRow B 45 5 v' (k + 1) (es.flatMap VD.cells ++ d.cells)) (hg : ((w2.setCell ⟨wr.heap.size, 4, none⟩ u').alloc o2).grownBy w4 v.ownBlock)
    (hblk : v'.ownBlock = v.ownBlock ∨ v'.ownBlock = some ((w2.setCell ⟨wr.heap.size, 4, none⟩ u').alloc o2).heap.size) :
    Ext w0 w4 ∧ B ≤ w4.heap.size ∧ w4.ownsRow B 45 5 v' (k + 1) ((es ++ [d]).flatMap VD.cells) ∧ (∀ e ∈ es ++ [d], VD.Cut (fun b => v'.ownBlock ≠ some b) w4 e) ∧
      VCells w4 wr.heap.size d.c d.n d.s d.p d.lz d.cap (.slice d.q d.lt d.cap2) ∧ wr.heap.size < w4.heap.size := by
  subst hu
  have hs1 : (wr.alloc o1).heap.size = wr.heap.size + 1 := by simp
  have hs2 : (wr.alloc o1).heap.size ≤ w2.heap.size := Below.size hx2
  obtain ⟨W3, hW3⟩ : ∃ W3, W3 = w2.setCell ⟨wr.heap.size, 4, none⟩ (.slice d.q d.lt d.cap2) := ⟨_, rfl⟩
  have k3 : Keep (some wr.heap.size) w2 W3 := by rw [hW3]; exact Keep.set _ _ _
  have hv3 : VCells W3 wr.heap.size d.c d.n d.s d.p d.lz d.cap (.slice d.q d.lt d.cap2) := by rw [hW3]; exact vcells_set hVC _
  rw [← hW3] at hg hblk
  clear hW3 hVC
  have hs3 : w2.heap.size ≤ W3.heap.size := k3.size
  have x3 : Ext wr W3 := Keep.new ((Ext.alloc wr o1).trans hx2) (fun b e => by cases e; exact Nat.le_refl _) k3
  have hs4 : (W3.alloc o2).heap.size = W3.heap.size + 1 := by simp
  have k4 := grown_keep hg
  have hlow : ∀ x, v.ownBlock = some x → B ≤ x ∧ x < wr.heap.size := World.ownsRow.lt hown
  have hlow' : ∀ x, v'.ownBlock = some x → B ≤ x ∧ x < w4.heap.size := World.ownsRow.lt hown'
  have kr : Keep v.ownBlock wr w4 := (x3.trans (Ext.alloc W3 o2)).keep.trans k4
  have x4 : Ext w0 w4 := Keep.new h0 (fun b e => Nat.le_trans hB0 (hlow b e).1) kr
  have hs5 : (W3.alloc o2).heap.size ≤ w4.heap.size := k4.size
  have hne : ∀ b, b < w2.heap.size → v.ownBlock ≠ some b → v'.ownBlock ≠ some b := fun b hb hn e => by
    rcases hblk with h | h
    · exact hn (h ▸ e)
    · rw [h] at e; injection e with e; omega
  refine ⟨x4, by omega, by rw [List.flatMap_append]; simpa using hown', fun e he => ?_, ?_, by omega⟩
  · rcases List.mem_append.1 he with he | he
    · exact ((hcut e he).kind (T := fun b => v'.ownBlock ≠ some b ∧ v.ownBlock ≠ some b) (fun b hS hb => ⟨hne b (by omega) hS, hS⟩)).keep kr (fun b hS => hS.2) |>.kind (fun b hS _ => hS.1)
    · obtain rfl : e = d := by simpa using he
      refine ⟨h1, h2, h3, (hz.ext x4).kind (fun b hb _ e => ?_), h4, h5, ?_, h6, h7⟩
      · have := (hlow' b e).1; omega
      · refine ((ht.kind (T := fun b => v'.ownBlock ≠ some b ∧ v.ownBlock ≠ some b ∧ b ≠ wr.heap.size) (fun b hb hlt => ?_)).keep k3 (fun b hS e => hS.2.2 (by injection e with e; exact e.symm))).ext (Ext.alloc W3 o2) |>.keep k4 (fun b hS => hS.2.1) |>.kind (fun b hS _ => hS.1)
        have hvb : v.ownBlock ≠ some b := fun e => by have := (hlow b e).2; omega
        exact ⟨hne b hlt hvb, hvb, by omega⟩
  · exact (hv3.ext (by omega) (Ext.alloc W3 o2)).keep (by omega) k4 (fun e => by have := (hlow _ e).2; omega)

end Go.Proofs.YtckhbejgkgpilaaDoor
