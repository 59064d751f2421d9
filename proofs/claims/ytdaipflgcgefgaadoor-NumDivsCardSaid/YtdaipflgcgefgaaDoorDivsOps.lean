/- Operations of NumDivs. -/
import Derived.Test.YtdaipflgcgefgaaDoorDivsA
import Derived.Test.YtdaipflgcgefgaaDoorSan
import Derived.Test.YtdaipflgcgefgaaDoorRefs
set_option linter.all false
namespace Go.Proofs.YtdaipflgcgefgaaDoor
open Go Go.RowKit Go.Shelf

section
variable {o : Oper} {a : Act} {w : World}
theorem run_nfield1 (x : Operand) (ho : o.op = .fieldAddr 26 x 1) (g : Nat) (hx : a.eval x = .pointer (some ⟨g, 0, none⟩)) : (execOp a.eval o).run Tryd.prog w = .ok (.value (.pointer (some ⟨g, 1, none⟩))) w := by
  unfold execOp
  simp only [ho, hx]
  simp [go_sem]
theorem run_ld_slice (x : Operand) (ho : o.op = .load 24 x) (ad : Addr) (hx : a.eval x = .pointer (some ad)) (p : Option Addr) (n c : Nat) (hc : w.cell? ad = some (.slice p n c)) : (execOp a.eval o).run Tryd.prog w = .ok (.value (.slice p n c)) w := by
  unfold execOp
  simp only [ho, hx, Instr.loadAt, Instr.sureAddr, Sem.run_bind, Sem.run_pure, Result.andThen_ok]
  simp [hc, go_sem]
theorem run_ld_ints (x : Operand) (ho : o.op = .load 22 x) (ad : Addr) (hx : a.eval x = .pointer (some ad)) (p : Option Addr) (n c : Nat) (hc : w.cell? ad = some (.slice p n c)) : (execOp a.eval o).run Tryd.prog w = .ok (.value (.slice p n c)) w := by
  unfold execOp
  simp only [ho, hx, Instr.loadAt, Instr.sureAddr, Sem.run_bind, Sem.run_pure, Result.andThen_ok]
  simp [hc, go_sem]
theorem run_min12 (x : Operand) (ts : Array TypeId) (ho : o.op = .call { callee := .builtin .min, args := #[x, .const (.int .i64 12)], argTypes := ts }) (hts : ts = #[3, 3]) (hty : o.type = 3) (n : Nat) (hx : a.eval x = .int .i64 (n : Int)) : (execOp a.eval o).run Tryd.prog w = .ok (.value (.int .i64 ((min n 12 : Nat) : Int))) w := by
  subst hts
  have hm : min (n : Int) 12 = ((min n 12 : Nat) : Int) := by omega
  obtain ⟨dst, op, type, pos, after, guard⟩ := o
  obtain rfl : op = _ := ho
  obtain rfl : type = _ := hty
  have e : Array.map a.eval #[x, .const (.int .i64 12)] = #[.int .i64 (n : Int), .int .i64 12] := by simp only [List.map_toArray, List.map_cons, List.map_nil, hx]; rfl
  rw [BigFrame.execOp_builtin, e]
  simp [go_sem, hm]
theorem run_cut_sl (x y : Operand) (ho : o.op = .slice 24 x none (some y) none) (p : Option Addr) (n c k : Nat) (hx : a.eval x = .slice p n c) (hy : a.eval y = .int .i64 (k : Int)) (hk : k ≤ c) : (execOp a.eval o).run Tryd.prog w = .ok (.value (.slice p k c)) w := by
  have h1 : (k : Int) ≤ (c : Int) := by omega
  unfold execOp
  simp only [ho, hx, hy, Option.map_some, Option.map_none]
  simp [go_sem, h1]
theorem run_store_sl (x y : Operand) (ho : o.op = .store 24 x y) (ad : Addr) (hx : a.eval x = .pointer (some ad)) (p : Option Addr) (n c : Nat) (hy : a.eval y = .slice p n c) (old : Value) (hc : w.cell? ad = some old) (hf : w.frozen? ad = false) : (execOp a.eval o).run Tryd.prog w = .ok .skip (w.setCell ad (.slice p n c)) := by
  unfold execOp
  simp only [ho, hx, hy]
  simp [go_sem, hc, hf]
theorem run_idx2 (x : Operand) (k : Nat) (hk : k < 2) (ho : o.op = .indexAddr 23 x (.const (.int .i64 (k : Int)))) (g : Nat) (hx : a.eval x = .pointer (some ⟨g, 0, none⟩)) : (execOp a.eval o).run Tryd.prog w = .ok (.value (.pointer (some ⟨g, k, none⟩))) w := by
  have ek : a.eval (.const (.int .i64 (k : Int))) = .int .i64 (k : Int) := rfl
  have h1 : (k : Int) < 2 := by omega
  unfold execOp
  simp only [ho, hx, ek]
  simp [go_sem, h1]
theorem run_build_pair (x y : Operand) (ho : o.op = .build 29 #[(0, x), (1, y)]) (n1 n2 : Bool) (p1 p2 : Option Addr) (l1 c1 l2 c2 : Nat) (hx : a.eval x = .agg #[.bool n1, .slice p1 l1 c1]) (hy : a.eval y = .agg #[.bool n2, .slice p2 l2 c2]) :
    (execOp a.eval o).run Tryd.prog w = .ok (.value (.agg #[.bool n1, .slice p1 l1 c1, .bool n2, .slice p2 l2 c2])) w := by
  unfold execOp
  simp only [ho, List.map_toArray, List.map_cons, List.map_nil, hx, hy]
  simp [go_sem]
theorem info_pair : (Tryd.prog.info? 29).map (fun i => (i.zero, i.size)) = some (some (.agg #[.bool false, .slice none 0 0, .bool false, .slice none 0 0]), 4) := by kernel_rfl
theorem run_build_three (x y z : Operand) (ho : o.op = .buildSlice 30 3 #[(0, x), (1, y), (2, z)]) (a0 a1 a2 a3 b0 b1 b2 b3 c0 c1 c2 c3 : Value) (hx : a.eval x = .agg #[a0, a1, a2, a3]) (hy : a.eval y = .agg #[b0, b1, b2, b3]) (hz : a.eval z = .agg #[c0, c1, c2, c3]) :
    (execOp a.eval o).run Tryd.prog w = .ok (.value (.slice (some ⟨w.heap.size, 0, none⟩) 3 3)) (w.alloc (.cells #[a0, a1, a2, a3, b0, b1, b2, b3, c0, c1, c2, c3] 29)) := by
  obtain ⟨i, hi, hzr, hs⟩ : ∃ i, Tryd.prog.info? 29 = some i ∧ i.zero = some (.agg #[.bool false, .slice none 0 0, .bool false, .slice none 0 0]) ∧ i.size = 4 := by
    obtain ⟨i, hi, e⟩ := Option.map_eq_some_iff.1 info_pair
    simp only [Prod.mk.injEq] at e
    exact ⟨i, hi, e.1, e.2⟩
  have hr := run_buildSlice (P := Tryd.prog) w 30 29 3 #[(0, Value.agg #[a0, a1, a2, a3]), (1, Value.agg #[b0, b1, b2, b3]), (2, Value.agg #[c0, c1, c2, c3])] #[a0, a1, a2, a3, b0, b1, b2, b3, c0, c1, c2, c3] i _ Tryd.underlying30 hi hzr (by rw [hs]; decide) (by rw [hs]; decide) (by rw [hs]; simp [Instr.fill, Value.cells, Array.range_succ, show Array.range 0 = #[] from rfl])
  unfold execOp
  simp only [ho, List.map_toArray, List.map_cons, List.map_nil, hx, hy, hz, Sem.run_bind]
  rw [hr]
  rfl
theorem run_len_pairs (x : Operand) (ts : Array TypeId) (ho : o.op = .call { callee := .builtin .len, args := #[x], argTypes := ts }) (hts : ts = #[30]) (p : Option Addr) (n c : Nat) (hx : a.eval x = .slice p n c) : (execOp a.eval o).run Tryd.prog w = .ok (.value (.int .i64 n)) w := by
  subst hts
  obtain ⟨dst, op, type, pos, after, guard⟩ := o
  obtain rfl : op = _ := ho
  have e : Array.map a.eval #[x] = #[.slice p n c] := by simp only [List.map_toArray, List.map_cons, List.map_nil, hx]
  rw [BigFrame.execOp_builtin, e]
  simp [go_sem]
theorem ent_made (args : Array Value) (w : World) : (callFunc 10 args).run Tryd.prog w = .ok (.enter 10 args) w := enters_of Tryd.func10 (by kernel_rfl) rfl args w
theorem ent_same (args : Array Value) (w : World) : (callFunc 15 args).run Tryd.prog w = .ok (.enter 15 args) w := enters_of Tryd.func15 (by kernel_rfl) rfl args w
theorem ent_text (args : Array Value) (w : World) : (callFunc 16 args).run Tryd.prog w = .ok (.enter 16 args) w := enters_of Tryd.func16 (by kernel_rfl) rfl args w
theorem ent_rtext (args : Array Value) (w : World) : (callFunc 17 args).run Tryd.prog w = .ok (.enter 17 args) w := enters_of Tryd.func17 (by kernel_rfl) rfl args w
end

/-- The world while two slices are cut in place: g and k the blocks of the numbers. -/
structure Cst (D : Nat → Prop) (w : World) (r3 : Array Value) (na : Bool) (p : Option Addr) (n c : Nat) (nb : Bool) (q : Option Addr) (m c2 : Nat) (W : World) : Prop where
  ext : Ext w W
  row : RowAt W w.heap.size 23 r3
  r4 : (¬ D 15 ∧ RowAt W (w.heap.size + 1) 26 (numCells na p n c)) ∨ (D 15 ∧ RowAt W (w.heap.size + 1) 26 (numCells na p (min n 12) c))
  r5 : (¬ D 17 ∧ RowAt W (w.heap.size + 1 + 1) 26 (numCells nb q m c2)) ∨ (D 17 ∧ RowAt W (w.heap.size + 1 + 1) 26 (numCells nb q (min m 12) c2))
section
variable {D : Nat → Prop} {w : World} {r3 : Array Value} {na nb : Bool} {p q : Option Addr} {n c m c2 : Nat} {W : World}
theorem Cst.step {i : Nat} (h : Cst D w r3 na p n c nb q m c2 W) (h1 : i ≠ 15 ∧ i ≠ 17) : Cst (fun j => j = i ∨ D j) w r3 na p n c nb q m c2 W := by
  refine ⟨h.ext, h.row, ?_, ?_⟩
  · rcases h.r4 with ⟨a, b⟩ | ⟨a, b⟩
    · exact .inl ⟨fun e => a (e.resolve_left (fun e => h1.1 e.symm)), b⟩
    · exact .inr ⟨.inr a, b⟩
  · rcases h.r5 with ⟨a, b⟩ | ⟨a, b⟩
    · exact .inl ⟨fun e => a (e.resolve_left (fun e => h1.2 e.symm)), b⟩
    · exact .inr ⟨.inr a, b⟩
theorem Cst.a0 (h : Cst D w r3 na p n c nb q m c2 W) (hn : ¬ D 15) : RowAt W (w.heap.size + 1) 26 (numCells na p n c) := h.r4.elim (fun h => h.2) (fun h => absurd h.1 hn)
theorem Cst.b0 (h : Cst D w r3 na p n c nb q m c2 W) (hn : ¬ D 17) : RowAt W (w.heap.size + 1 + 1) 26 (numCells nb q m c2) := h.r5.elim (fun h => h.2) (fun h => absurd h.1 hn)
theorem Cst.a1 (h : Cst D w r3 na p n c nb q m c2 W) (hn : D 15) : RowAt W (w.heap.size + 1) 26 (numCells na p (min n 12) c) := h.r4.elim (fun h => absurd hn h.1) (fun h => h.2)
theorem Cst.b1 (h : Cst D w r3 na p n c nb q m c2 W) (hn : D 17) : RowAt W (w.heap.size + 1 + 1) 26 (numCells nb q (min m 12) c2) := h.r5.elim (fun h => absurd hn h.1) (fun h => h.2)
theorem Cst.storeA (h : Cst D w r3 na p n c nb q m c2 W) (hn : ¬ D 15) : Cst (fun j => j = 15 ∨ D j) w r3 na p n c nb q m c2 (W.setCell ⟨w.heap.size + 1, 1, none⟩ (.slice p (min n 12) c)) := by
  refine ⟨Below.setCell h.ext (p := ⟨w.heap.size + 1, 1, none⟩) (Nat.le_succ _) _, h.row.setOther _ _ (by show w.heap.size ≠ w.heap.size + 1; omega), .inr ⟨.inl rfl, (h.a0 hn).set 1 _⟩, ?_⟩
  rcases h.r5 with ⟨a, b⟩ | ⟨a, b⟩
  · exact .inl ⟨fun e => a (e.resolve_left (by decide)), b.setOther _ _ (by show w.heap.size + 1 + 1 ≠ w.heap.size + 1; omega)⟩
  · exact .inr ⟨.inr a, b.setOther _ _ (by show w.heap.size + 1 + 1 ≠ w.heap.size + 1; omega)⟩
theorem Cst.storeB (h : Cst D w r3 na p n c nb q m c2 W) (hn : ¬ D 17) : Cst (fun j => j = 17 ∨ D j) w r3 na p n c nb q m c2 (W.setCell ⟨w.heap.size + 1 + 1, 1, none⟩ (.slice q (min m 12) c2)) := by
  refine ⟨Below.setCell h.ext (p := ⟨w.heap.size + 1 + 1, 1, none⟩) (by show w.heap.size ≤ w.heap.size + 1 + 1; omega) _, h.row.setOther _ _ (by show w.heap.size ≠ w.heap.size + 1 + 1; omega), ?_, .inr ⟨.inl rfl, (h.b0 hn).set 1 _⟩⟩
  rcases h.r4 with ⟨a, b⟩ | ⟨a, b⟩
  · exact .inl ⟨fun e => a (e.resolve_left (by decide)), b.setOther _ _ (by show w.heap.size + 1 ≠ w.heap.size + 1 + 1; omega)⟩
  · exact .inr ⟨.inr a, b.setOther _ _ (by show w.heap.size + 1 ≠ w.heap.size + 1 + 1; omega)⟩
end
/-- What the operations hold that cut two slices. -/
def cutF (g : Nat) (p : Option Addr) (n c : Nat) (q : Option Addr) (m c2 : Nat) : Nat → Value → Prop
  | 0, v => v = .pointer (some ⟨g + 1, 1, none⟩)
  | 1, v => v = .slice p n c
  | 2, v => v = .pointer (some ⟨g + 1, 1, none⟩)
  | 3, v => v = .slice p n c
  | 4, v => v = .int .i64 (n : Int)
  | 5, v => v = .int .i64 ((min n 12 : Nat) : Int)
  | 6, v => v = .slice p (min n 12) c
  | 7, v => v = .pointer (some ⟨g + 1 + 1, 1, none⟩)
  | 8, v => v = .slice q m c2
  | 9, v => v = .pointer (some ⟨g + 1 + 1, 1, none⟩)
  | 10, v => v = .slice q m c2
  | 11, v => v = .int .i64 (m : Int)
  | 12, v => v = .int .i64 ((min m 12 : Nat) : Int)
  | 13, v => v = .slice q (min m 12) c2
  | 14, v => v = .pointer (some ⟨g + 1, 1, none⟩)
  | 16, v => v = .pointer (some ⟨g + 1 + 1, 1, none⟩)
  | _, _ => True

end Go.Proofs.YtdaipflgcgefgaaDoor
