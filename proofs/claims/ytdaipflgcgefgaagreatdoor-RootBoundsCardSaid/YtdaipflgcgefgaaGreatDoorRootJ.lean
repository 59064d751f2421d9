
/- Layer 2: roots and ints are stored into arrays. -/
import Derived.Test.YtdaipflgcgefgaaGreatDoorRootEH
set_option linter.all false
namespace Go.Proofs.YtdaipflgcgefgaaGreatDoor
open Go Go.RowKit Go.Shelf

def noU32 (cs : Array Value) : Bool := cs.toList.all fun | .int .u32 _ => false | _ => true
theorem noU32_at {cs : Array Value} (h : noU32 cs = true) {j : Nat} {d : Int} : cs[j]? ≠ some (.int .u32 d) := fun e => by
  have hm : Value.int .u32 d ∈ cs.toList := by
    rw [← Array.getElem?_toList] at e
    exact List.mem_of_getElem? e
  have := List.all_eq_true.1 h _ hm
  exact absurd this (by simp)
theorem U32s.setAny {B : Nat} {w : World} {v : Value} {ds : List Nat} {g : Nat} {t : TypeId} {old : Array Value} (h : U32s B w v ds) (hr : RowAt w g t old) (hn : noU32 old = true) (cs : Array Value) : U32s B (w.setRow g cs) v ds := by
  obtain ⟨q, cap, rfl, hl, hc⟩ := h
  refine ⟨q, cap, rfl, hl, fun h0 => ?_⟩
  obtain ⟨b, off, rfl, hb, hcs⟩ := hc h0
  have hne : b ≠ g := fun e => by
    subst e
    have h1 := hcs 0 h0
    rw [hr.cell] at h1
    exact noU32_at hn h1
  exact ⟨b, off, rfl, hb, fun j hj => (World.cell?_of_block (setRow_other w g b cs hne)).trans (hcs j hj)⟩
theorem ZNum.setAny {B : Nat} {w : World} {v : Value} {z : Int} {g : Nat} {t : TypeId} {old : Array Value} (h : ZNum B w v z) (hr : RowAt w g t old) (hn : noU32 old = true) (cs : Array Value) : ZNum B (w.setRow g cs) v z := by
  obtain ⟨⟨s, rfl, hu⟩, hl⟩ := h
  exact ⟨⟨s, rfl, hu.setAny hr hn cs⟩, hl⟩
section
variable {ops : Array Oper} {rest : List Oper} {o : Oper} {b : Act} {w : World} {Q : Exit → Act → World → Prop}
set_option maxRecDepth 20000 in
set_option maxHeartbeats 1000000 in
theorem store_rt0 (hgd : o.guard = none) (x y : Operand) (ho : o.op = .store 32 x y) (g : Nat) (hx : b.eval x = .pointer (some ⟨g, 0, none⟩)) (a s : Int) (nn : Bool) (p : Option Addr) (n c : Nat) (nd : Bool) (q : Option Addr) (m e : Nat) (hy : b.eval y = .agg #[.int .i64 a, .int .i64 s, .bool nn, .slice p n c, .bool nd, .slice q m e])
    (x0 x1 x2 x3 x4 x5 x6 x7 x8 x9 x10 x11 : Value) (t : TypeId) (hg : RowAt w g t #[x0, x1, x2, x3, x4, x5, x6, x7, x8, x9, x10, x11])
    (h : wpList Tryz.prog ops Q rest (b.put o.dst undef) (w.setRow g #[.int .i64 a, .int .i64 s, .bool nn, .slice p n c, .bool nd, .slice q m e, x6, x7, x8, x9, x10, x11])) : wpList Tryz.prog ops Q (o :: rest) b w := by
  refine wpList_plain hgd fun K hK => ?_
  have c0 : (w).cell? ⟨g, 0, none⟩ = some x0 := hg.cell 0
  have f0 := hg.frozen 0
  have r0 : RowAt ((w).setCell ⟨g, 0, none⟩ (.int .i64 a)) g t #[(.int .i64 a), x1, x2, x3, x4, x5, x6, x7, x8, x9, x10, x11] := hg.set 0 (.int .i64 a)
  have e0 : (w).setCell ⟨g, 0, none⟩ (.int .i64 a) = w.setRow g #[(.int .i64 a), x1, x2, x3, x4, x5, x6, x7, x8, x9, x10, x11] := setCell_eq_setRow w g 0 _ t (0, 0) _ hg
  have c1 : ((w).setCell ⟨g, 0, none⟩ (.int .i64 a)).cell? ⟨g, 1, none⟩ = some x1 := r0.cell 1
  have f1 := r0.frozen 1
  have r1 : RowAt (((w).setCell ⟨g, 0, none⟩ (.int .i64 a)).setCell ⟨g, 1, none⟩ (.int .i64 s)) g t #[(.int .i64 a), (.int .i64 s), x2, x3, x4, x5, x6, x7, x8, x9, x10, x11] := r0.set 1 (.int .i64 s)
  have e1 : ((w).setCell ⟨g, 0, none⟩ (.int .i64 a)).setCell ⟨g, 1, none⟩ (.int .i64 s) = w.setRow g #[(.int .i64 a), (.int .i64 s), x2, x3, x4, x5, x6, x7, x8, x9, x10, x11] := by rw [e0, setCell_eq_setRow _ g 1 _ t (0, 0) _ (hg.setRow _), setRow_setRow]; rfl
  have c2 : (((w).setCell ⟨g, 0, none⟩ (.int .i64 a)).setCell ⟨g, 1, none⟩ (.int .i64 s)).cell? ⟨g, 2, none⟩ = some x2 := r1.cell 2
  have f2 := r1.frozen 2
  have r2 : RowAt ((((w).setCell ⟨g, 0, none⟩ (.int .i64 a)).setCell ⟨g, 1, none⟩ (.int .i64 s)).setCell ⟨g, 2, none⟩ (.bool nn)) g t #[(.int .i64 a), (.int .i64 s), (.bool nn), x3, x4, x5, x6, x7, x8, x9, x10, x11] := r1.set 2 (.bool nn)
  have e2 : (((w).setCell ⟨g, 0, none⟩ (.int .i64 a)).setCell ⟨g, 1, none⟩ (.int .i64 s)).setCell ⟨g, 2, none⟩ (.bool nn) = w.setRow g #[(.int .i64 a), (.int .i64 s), (.bool nn), x3, x4, x5, x6, x7, x8, x9, x10, x11] := by rw [e1, setCell_eq_setRow _ g 2 _ t (0, 0) _ (hg.setRow _), setRow_setRow]; rfl
  have c3 : ((((w).setCell ⟨g, 0, none⟩ (.int .i64 a)).setCell ⟨g, 1, none⟩ (.int .i64 s)).setCell ⟨g, 2, none⟩ (.bool nn)).cell? ⟨g, 3, none⟩ = some x3 := r2.cell 3
  have f3 := r2.frozen 3
  have r3 : RowAt (((((w).setCell ⟨g, 0, none⟩ (.int .i64 a)).setCell ⟨g, 1, none⟩ (.int .i64 s)).setCell ⟨g, 2, none⟩ (.bool nn)).setCell ⟨g, 3, none⟩ (.slice p n c)) g t #[(.int .i64 a), (.int .i64 s), (.bool nn), (.slice p n c), x4, x5, x6, x7, x8, x9, x10, x11] := r2.set 3 (.slice p n c)
  have e3 : ((((w).setCell ⟨g, 0, none⟩ (.int .i64 a)).setCell ⟨g, 1, none⟩ (.int .i64 s)).setCell ⟨g, 2, none⟩ (.bool nn)).setCell ⟨g, 3, none⟩ (.slice p n c) = w.setRow g #[(.int .i64 a), (.int .i64 s), (.bool nn), (.slice p n c), x4, x5, x6, x7, x8, x9, x10, x11] := by rw [e2, setCell_eq_setRow _ g 3 _ t (0, 0) _ (hg.setRow _), setRow_setRow]; rfl
  have c4 : (((((w).setCell ⟨g, 0, none⟩ (.int .i64 a)).setCell ⟨g, 1, none⟩ (.int .i64 s)).setCell ⟨g, 2, none⟩ (.bool nn)).setCell ⟨g, 3, none⟩ (.slice p n c)).cell? ⟨g, 4, none⟩ = some x4 := r3.cell 4
  have f4 := r3.frozen 4
  have r4 : RowAt ((((((w).setCell ⟨g, 0, none⟩ (.int .i64 a)).setCell ⟨g, 1, none⟩ (.int .i64 s)).setCell ⟨g, 2, none⟩ (.bool nn)).setCell ⟨g, 3, none⟩ (.slice p n c)).setCell ⟨g, 4, none⟩ (.bool nd)) g t #[(.int .i64 a), (.int .i64 s), (.bool nn), (.slice p n c), (.bool nd), x5, x6, x7, x8, x9, x10, x11] := r3.set 4 (.bool nd)
  have e4 : (((((w).setCell ⟨g, 0, none⟩ (.int .i64 a)).setCell ⟨g, 1, none⟩ (.int .i64 s)).setCell ⟨g, 2, none⟩ (.bool nn)).setCell ⟨g, 3, none⟩ (.slice p n c)).setCell ⟨g, 4, none⟩ (.bool nd) = w.setRow g #[(.int .i64 a), (.int .i64 s), (.bool nn), (.slice p n c), (.bool nd), x5, x6, x7, x8, x9, x10, x11] := by rw [e3, setCell_eq_setRow _ g 4 _ t (0, 0) _ (hg.setRow _), setRow_setRow]; rfl
  have c5 : ((((((w).setCell ⟨g, 0, none⟩ (.int .i64 a)).setCell ⟨g, 1, none⟩ (.int .i64 s)).setCell ⟨g, 2, none⟩ (.bool nn)).setCell ⟨g, 3, none⟩ (.slice p n c)).setCell ⟨g, 4, none⟩ (.bool nd)).cell? ⟨g, 5, none⟩ = some x5 := r4.cell 5
  have f5 := r4.frozen 5
  have r5 : RowAt (((((((w).setCell ⟨g, 0, none⟩ (.int .i64 a)).setCell ⟨g, 1, none⟩ (.int .i64 s)).setCell ⟨g, 2, none⟩ (.bool nn)).setCell ⟨g, 3, none⟩ (.slice p n c)).setCell ⟨g, 4, none⟩ (.bool nd)).setCell ⟨g, 5, none⟩ (.slice q m e)) g t #[(.int .i64 a), (.int .i64 s), (.bool nn), (.slice p n c), (.bool nd), (.slice q m e), x6, x7, x8, x9, x10, x11] := r4.set 5 (.slice q m e)
  have e5 : ((((((w).setCell ⟨g, 0, none⟩ (.int .i64 a)).setCell ⟨g, 1, none⟩ (.int .i64 s)).setCell ⟨g, 2, none⟩ (.bool nn)).setCell ⟨g, 3, none⟩ (.slice p n c)).setCell ⟨g, 4, none⟩ (.bool nd)).setCell ⟨g, 5, none⟩ (.slice q m e) = w.setRow g #[(.int .i64 a), (.int .i64 s), (.bool nn), (.slice p n c), (.bool nd), (.slice q m e), x6, x7, x8, x9, x10, x11] := by rw [e4, setCell_eq_setRow _ g 5 _ t (0, 0) _ (hg.setRow _), setRow_setRow]; rfl
  have hrun : (execOp b.eval o).run Tryz.prog w = .ok .skip (w.setRow g #[.int .i64 a, .int .i64 s, .bool nn, .slice p n c, .bool nd, .slice q m e, x6, x7, x8, x9, x10, x11]) := by
    rw [← e5]
    unfold execOp
    simp only [ho, hx, hy]
    simp [go_sem, c0, f0, c1, f1, c2, f2, c3, f3, c4, f4, c5, f5]
  exact wp_of_skip hrun (hK _ _ h)
set_option maxRecDepth 20000 in
set_option maxHeartbeats 1000000 in
theorem store_rt6 (hgd : o.guard = none) (x y : Operand) (ho : o.op = .store 32 x y) (g : Nat) (hx : b.eval x = .pointer (some ⟨g, 6, none⟩)) (a s : Int) (nn : Bool) (p : Option Addr) (n c : Nat) (nd : Bool) (q : Option Addr) (m e : Nat) (hy : b.eval y = .agg #[.int .i64 a, .int .i64 s, .bool nn, .slice p n c, .bool nd, .slice q m e])
    (x0 x1 x2 x3 x4 x5 x6 x7 x8 x9 x10 x11 : Value) (t : TypeId) (hg : RowAt w g t #[x0, x1, x2, x3, x4, x5, x6, x7, x8, x9, x10, x11])
    (h : wpList Tryz.prog ops Q rest (b.put o.dst undef) (w.setRow g #[x0, x1, x2, x3, x4, x5, .int .i64 a, .int .i64 s, .bool nn, .slice p n c, .bool nd, .slice q m e])) : wpList Tryz.prog ops Q (o :: rest) b w := by
  refine wpList_plain hgd fun K hK => ?_
  have c0 : (w).cell? ⟨g, 6, none⟩ = some x6 := hg.cell 6
  have f0 := hg.frozen 6
  have r0 : RowAt ((w).setCell ⟨g, 6, none⟩ (.int .i64 a)) g t #[x0, x1, x2, x3, x4, x5, (.int .i64 a), x7, x8, x9, x10, x11] := hg.set 6 (.int .i64 a)
  have e0 : (w).setCell ⟨g, 6, none⟩ (.int .i64 a) = w.setRow g #[x0, x1, x2, x3, x4, x5, (.int .i64 a), x7, x8, x9, x10, x11] := setCell_eq_setRow w g 6 _ t (0, 0) _ hg
  have c1 : ((w).setCell ⟨g, 6, none⟩ (.int .i64 a)).cell? ⟨g, 7, none⟩ = some x7 := r0.cell 7
  have f1 := r0.frozen 7
  have r1 : RowAt (((w).setCell ⟨g, 6, none⟩ (.int .i64 a)).setCell ⟨g, 7, none⟩ (.int .i64 s)) g t #[x0, x1, x2, x3, x4, x5, (.int .i64 a), (.int .i64 s), x8, x9, x10, x11] := r0.set 7 (.int .i64 s)
  have e1 : ((w).setCell ⟨g, 6, none⟩ (.int .i64 a)).setCell ⟨g, 7, none⟩ (.int .i64 s) = w.setRow g #[x0, x1, x2, x3, x4, x5, (.int .i64 a), (.int .i64 s), x8, x9, x10, x11] := by rw [e0, setCell_eq_setRow _ g 7 _ t (0, 0) _ (hg.setRow _), setRow_setRow]; rfl
  have c2 : (((w).setCell ⟨g, 6, none⟩ (.int .i64 a)).setCell ⟨g, 7, none⟩ (.int .i64 s)).cell? ⟨g, 8, none⟩ = some x8 := r1.cell 8
  have f2 := r1.frozen 8
  have r2 : RowAt ((((w).setCell ⟨g, 6, none⟩ (.int .i64 a)).setCell ⟨g, 7, none⟩ (.int .i64 s)).setCell ⟨g, 8, none⟩ (.bool nn)) g t #[x0, x1, x2, x3, x4, x5, (.int .i64 a), (.int .i64 s), (.bool nn), x9, x10, x11] := r1.set 8 (.bool nn)
  have e2 : (((w).setCell ⟨g, 6, none⟩ (.int .i64 a)).setCell ⟨g, 7, none⟩ (.int .i64 s)).setCell ⟨g, 8, none⟩ (.bool nn) = w.setRow g #[x0, x1, x2, x3, x4, x5, (.int .i64 a), (.int .i64 s), (.bool nn), x9, x10, x11] := by rw [e1, setCell_eq_setRow _ g 8 _ t (0, 0) _ (hg.setRow _), setRow_setRow]; rfl
  have c3 : ((((w).setCell ⟨g, 6, none⟩ (.int .i64 a)).setCell ⟨g, 7, none⟩ (.int .i64 s)).setCell ⟨g, 8, none⟩ (.bool nn)).cell? ⟨g, 9, none⟩ = some x9 := r2.cell 9
  have f3 := r2.frozen 9
  have r3 : RowAt (((((w).setCell ⟨g, 6, none⟩ (.int .i64 a)).setCell ⟨g, 7, none⟩ (.int .i64 s)).setCell ⟨g, 8, none⟩ (.bool nn)).setCell ⟨g, 9, none⟩ (.slice p n c)) g t #[x0, x1, x2, x3, x4, x5, (.int .i64 a), (.int .i64 s), (.bool nn), (.slice p n c), x10, x11] := r2.set 9 (.slice p n c)
  have e3 : ((((w).setCell ⟨g, 6, none⟩ (.int .i64 a)).setCell ⟨g, 7, none⟩ (.int .i64 s)).setCell ⟨g, 8, none⟩ (.bool nn)).setCell ⟨g, 9, none⟩ (.slice p n c) = w.setRow g #[x0, x1, x2, x3, x4, x5, (.int .i64 a), (.int .i64 s), (.bool nn), (.slice p n c), x10, x11] := by rw [e2, setCell_eq_setRow _ g 9 _ t (0, 0) _ (hg.setRow _), setRow_setRow]; rfl
  have c4 : (((((w).setCell ⟨g, 6, none⟩ (.int .i64 a)).setCell ⟨g, 7, none⟩ (.int .i64 s)).setCell ⟨g, 8, none⟩ (.bool nn)).setCell ⟨g, 9, none⟩ (.slice p n c)).cell? ⟨g, 10, none⟩ = some x10 := r3.cell 10
  have f4 := r3.frozen 10
  have r4 : RowAt ((((((w).setCell ⟨g, 6, none⟩ (.int .i64 a)).setCell ⟨g, 7, none⟩ (.int .i64 s)).setCell ⟨g, 8, none⟩ (.bool nn)).setCell ⟨g, 9, none⟩ (.slice p n c)).setCell ⟨g, 10, none⟩ (.bool nd)) g t #[x0, x1, x2, x3, x4, x5, (.int .i64 a), (.int .i64 s), (.bool nn), (.slice p n c), (.bool nd), x11] := r3.set 10 (.bool nd)
  have e4 : (((((w).setCell ⟨g, 6, none⟩ (.int .i64 a)).setCell ⟨g, 7, none⟩ (.int .i64 s)).setCell ⟨g, 8, none⟩ (.bool nn)).setCell ⟨g, 9, none⟩ (.slice p n c)).setCell ⟨g, 10, none⟩ (.bool nd) = w.setRow g #[x0, x1, x2, x3, x4, x5, (.int .i64 a), (.int .i64 s), (.bool nn), (.slice p n c), (.bool nd), x11] := by rw [e3, setCell_eq_setRow _ g 10 _ t (0, 0) _ (hg.setRow _), setRow_setRow]; rfl
  have c5 : ((((((w).setCell ⟨g, 6, none⟩ (.int .i64 a)).setCell ⟨g, 7, none⟩ (.int .i64 s)).setCell ⟨g, 8, none⟩ (.bool nn)).setCell ⟨g, 9, none⟩ (.slice p n c)).setCell ⟨g, 10, none⟩ (.bool nd)).cell? ⟨g, 11, none⟩ = some x11 := r4.cell 11
  have f5 := r4.frozen 11
  have r5 : RowAt (((((((w).setCell ⟨g, 6, none⟩ (.int .i64 a)).setCell ⟨g, 7, none⟩ (.int .i64 s)).setCell ⟨g, 8, none⟩ (.bool nn)).setCell ⟨g, 9, none⟩ (.slice p n c)).setCell ⟨g, 10, none⟩ (.bool nd)).setCell ⟨g, 11, none⟩ (.slice q m e)) g t #[x0, x1, x2, x3, x4, x5, (.int .i64 a), (.int .i64 s), (.bool nn), (.slice p n c), (.bool nd), (.slice q m e)] := r4.set 11 (.slice q m e)
  have e5 : ((((((w).setCell ⟨g, 6, none⟩ (.int .i64 a)).setCell ⟨g, 7, none⟩ (.int .i64 s)).setCell ⟨g, 8, none⟩ (.bool nn)).setCell ⟨g, 9, none⟩ (.slice p n c)).setCell ⟨g, 10, none⟩ (.bool nd)).setCell ⟨g, 11, none⟩ (.slice q m e) = w.setRow g #[x0, x1, x2, x3, x4, x5, (.int .i64 a), (.int .i64 s), (.bool nn), (.slice p n c), (.bool nd), (.slice q m e)] := by rw [e4, setCell_eq_setRow _ g 11 _ t (0, 0) _ (hg.setRow _), setRow_setRow]; rfl
  have hrun : (execOp b.eval o).run Tryz.prog w = .ok .skip (w.setRow g #[x0, x1, x2, x3, x4, x5, .int .i64 a, .int .i64 s, .bool nn, .slice p n c, .bool nd, .slice q m e]) := by
    rw [← e5]
    unfold execOp
    simp only [ho, hx, hy]
    simp [go_sem, c0, f0, c1, f1, c2, f2, c3, f3, c4, f4, c5, f5]
  exact wp_of_skip hrun (hK _ _ h)
theorem store_i0 (hgd : o.guard = none) (x y : Operand) (ho : o.op = .store 3 x y) (g : Nat) (hx : b.eval x = .pointer (some ⟨g, 0, none⟩)) (v : Int) (hy : b.eval y = .int .i64 v) (x0 x1 : Value) (t : TypeId) (hg : RowAt w g t #[x0, x1])
    (h : wpList Tryz.prog ops Q rest (b.put o.dst undef) (w.setRow g #[.int .i64 v, x1])) : wpList Tryz.prog ops Q (o :: rest) b w := by
  refine wpList_plain hgd fun K hK => ?_
  have c0 : w.cell? ⟨g, 0, none⟩ = some x0 := hg.cell 0
  have f0 := hg.frozen 0
  have e0 : w.setCell ⟨g, 0, none⟩ (.int .i64 v) = w.setRow g #[.int .i64 v, x1] := setCell_eq_setRow w g 0 _ t (0, 0) _ hg
  have hrun : (execOp b.eval o).run Tryz.prog w = .ok .skip (w.setRow g #[.int .i64 v, x1]) := by
    rw [← e0]
    unfold execOp
    simp only [ho, hx, hy]
    simp [go_sem, c0, f0]
  exact wp_of_skip hrun (hK _ _ h)
theorem store_i1 (hgd : o.guard = none) (x y : Operand) (ho : o.op = .store 3 x y) (g : Nat) (hx : b.eval x = .pointer (some ⟨g, 1, none⟩)) (v : Int) (hy : b.eval y = .int .i64 v) (x0 x1 : Value) (t : TypeId) (hg : RowAt w g t #[x0, x1])
    (h : wpList Tryz.prog ops Q rest (b.put o.dst undef) (w.setRow g #[x0, .int .i64 v])) : wpList Tryz.prog ops Q (o :: rest) b w := by
  refine wpList_plain hgd fun K hK => ?_
  have c0 : w.cell? ⟨g, 1, none⟩ = some x1 := hg.cell 1
  have f0 := hg.frozen 1
  have e0 : w.setCell ⟨g, 1, none⟩ (.int .i64 v) = w.setRow g #[x0, .int .i64 v] := setCell_eq_setRow w g 1 _ t (0, 0) _ hg
  have hrun : (execOp b.eval o).run Tryz.prog w = .ok .skip (w.setRow g #[x0, .int .i64 v]) := by
    rw [← e0]
    unfold execOp
    simp only [ho, hx, hy]
    simp [go_sem, c0, f0]
  exact wp_of_skip hrun (hK _ _ h)
end

end Go.Proofs.YtdaipflgcgefgaaGreatDoor
