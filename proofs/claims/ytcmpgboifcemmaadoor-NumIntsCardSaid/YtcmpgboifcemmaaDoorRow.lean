/- Arrays of 65 digits: their blocks, and the laws that load and store them whole. -/
import Derived.Test.YtcmpgboifcemmaaDoorNum1
import Derived.Deep.WholeRow
import Derived.Deep.MidRow
import Derived.Laws.CopyOwn
import Derived.Laws.ResultCell
set_option linter.all false
namespace Go.Proofs.YtcmpgboifcemmaaDoor
open Go Go.RowKit Go.Shelf

/-- The cells of digits. -/
def arr (xs : List Nat) : Array Value := (xs.map fun (d : Nat) => Value.int .u32 (d : Int)).toArray

theorem arr_size (xs : List Nat) : (arr xs).size = xs.length := by simp [arr]
theorem arr_get (xs : List Nat) (j : Nat) (h : j < xs.length) : (arr xs)[j]? = some (.int .u32 ((xs[j]?.getD 0 : Nat) : Int)) := by simp [arr, h]
theorem arr_set (xs : List Nat) (j d : Nat) : (arr xs).setIfInBounds j (.int .u32 (d : Int)) = arr (xs.set j d) := by
  simp [arr, List.map_set]
theorem arr_one (xs : List Nat) : (arr xs).all (·.oneCell') = true := by
  simp [arr, Value.oneCell']

/-- Block g is the row of cells cs of type t. -/
def RowAt (W : World) (g : Nat) (t : TypeId) (cs : Array Value) : Prop := W.heap[g]? = some (.cells cs t (0, 0))

theorem RowAt.lt {W : World} {g : Nat} {t : TypeId} {cs : Array Value} (h : RowAt W g t cs) : g < W.heap.size := (Array.getElem?_eq_some_iff.1 h).1
theorem RowAt.cell {W : World} {g : Nat} {t : TypeId} {cs : Array Value} (h : RowAt W g t cs) (j : Nat) : W.cell? ⟨g, j, none⟩ = cs[j]? := cell_of_row W g j cs t (0, 0) h
theorem RowAt.frozen {W : World} {g : Nat} {t : TypeId} {cs : Array Value} (h : RowAt W g t cs) (j : Nat) : W.frozen? ⟨g, j, none⟩ = false := frozen_of_row W g j cs t h
theorem RowAt.new (W : World) (t : TypeId) (cs : Array Value) : RowAt (W.alloc (.cells cs t)) W.heap.size t cs := World.alloc_heap_new W _
theorem RowAt.new' {W : World} {g : Nat} (t : TypeId) (cs : Array Value) (hg : g = W.heap.size) : RowAt (W.alloc (.cells cs t)) g t cs := by subst hg; exact RowAt.new W t cs
theorem RowAt.alloc {W : World} {g : Nat} {t : TypeId} {cs : Array Value} (h : RowAt W g t cs) (o : Obj) : RowAt (W.alloc o) g t cs := (heap_alloc_old W o g h.lt).trans h
theorem RowAt.below {B : Nat} {W W' : World} {g : Nat} {t : TypeId} {cs : Array Value} (h : RowAt W g t cs) (hb : Below B W W') (hg : g < B) : RowAt W' g t cs := (hb.block g hg).trans h
theorem RowAt.set {W : World} {g : Nat} {t : TypeId} {cs : Array Value} (h : RowAt W g t cs) (i : Nat) (v : Value) : RowAt (W.setCell ⟨g, i, none⟩ v) g t (cs.setIfInBounds i v) := heap_setCell_same W g i cs t v h
theorem RowAt.setOther {W : World} {g : Nat} {t : TypeId} {cs : Array Value} (h : RowAt W g t cs) (a : Addr) (v : Value) (hne : g ≠ a.block) : RowAt (W.setCell a v) g t cs := (heap_setCell_other W a g v hne).trans h
theorem RowAt.setRow {W : World} {g : Nat} {t : TypeId} {cs : Array Value} (h : RowAt W g t cs) (cs' : Array Value) : RowAt (W.setRow g cs') g t cs' := setRow_heap W g cs cs' t _ h
theorem RowAt.setRowOther {W : World} {g k : Nat} {t : TypeId} {cs : Array Value} (h : RowAt W g t cs) (cs' : Array Value) (hne : g ≠ k) : RowAt (W.setRow k cs') g t cs := (setRow_other W k g cs' hne).trans h
theorem RowAt.drew {W : World} {g : Nat} {t : TypeId} {cs : Array Value} (h : RowAt W g t cs) : RowAt W.drew g t cs := h
theorem RowAt.boxed {W : World} {g : Nat} {t : TypeId} {v : Value} (h : RowAt W g t #[v]) : Boxed W g t v := h
theorem RowAt.ofBoxed {W : World} {g : Nat} {t : TypeId} {v : Value} (h : Boxed W g t v) : RowAt W g t #[v] := h
theorem RowAt.own {β : Type} (g : Nat) (t : TypeId) (f : β → Array Value) : Own (fun s W => RowAt W g t (f s)) := fun s X Y row hs hg hrow => by
  have hne : some g ≠ row := fun e => by obtain ⟨o, ho, hc⟩ := hrow g e.symm; rw [show X.heap[g]? = _ from hs] at ho; cases ho; cases hc
  exact (hg.block g (RowAt.lt hs) (fun e => hne e)).trans hs
theorem below_setRow2 {B g : Nat} {w0 w : World} (hb : Below B w0 w) (hBg : B ≤ g) (cs : Array Value) : Below B w0 (w.setRow g cs) :=
  hb.trans ⟨rfl, rfl, rfl, by simp [World.setRow], fun k hk => setRow_other w g k cs (by omega)⟩

theorem row_info : (Tryd.prog.info? 52).map (·.size) = some 65 := by kernel_rfl
theorem zero_row : Tryd.zeroCells52 = arr (List.replicate 65 0) := by kernel_rfl

/-- A whole row of digits is stored. -/
theorem store_row {ops : Array Oper} {rest : List Oper} {o : Oper} {a : Act} {w : World} {Q : Exit → Act → World → Prop} (hgd : o.guard = none) (x y : Operand) (ho : o.op = .store 52 x y)
    (g : Nat) (hx : a.eval x = .pointer (some ⟨g, 0, none⟩)) (xs : List Nat) (hxs : xs.length = 65) (hy : a.eval y = .agg (arr xs)) (t : TypeId) (old : Array Value) (hg : RowAt w g t old) (hold : old.size = 65)
    (h : wpList Tryd.prog ops Q rest (a.put o.dst undef) (w.setRow g (arr xs))) : wpList Tryd.prog ops Q (o :: rest) a w :=
  wpList_plain hgd fun _ hK => wp_store_row 52 x y ho g (arr xs) hx hy t old hg (by rw [row_info, arr_size, hxs]) (by rw [arr_size, hold, hxs]) (arr_one xs) (hK _ _ h)

/-- A whole row of digits is loaded. -/
theorem load_row {ops : Array Oper} {rest : List Oper} {o : Oper} {a : Act} {w : World} {Q : Exit → Act → World → Prop} (hgd : o.guard = none) (x : Operand) (ho : o.op = .load 52 x)
    (g : Nat) (hx : a.eval x = .pointer (some ⟨g, 0, none⟩)) (xs : List Nat) (hxs : xs.length = 65) (t : TypeId) (hg : RowAt w g t (arr xs))
    (h : wpList Tryd.prog ops Q rest (a.put o.dst (.agg (arr xs))) w) : wpList Tryd.prog ops Q (o :: rest) a w :=
  wpList_load_row hgd 52 x ho g hx t (arr xs) (0, 0) _ hg Tryd.underlying52 rfl (by rw [row_info, arr_size, hxs]) h

/-- A row of digits is handed back out of its block. -/
theorem ret_row {fn : Func} {R : Ending → World → Prop} {tmps : Array Value} {w : World} {p : Tmp} (hres : fn.results = #[.cell p 52]) (g : Nat) (hp : tmps.getD p undef = .pointer (some ⟨g, 0, none⟩)) (xs : List Nat) (hxs : xs.length = 65)
    (t : TypeId) (hg : RowAt w g t (arr xs)) (hR : R (.returned (.agg (arr xs))) w) : bodyPost Tryd.prog fn R .ret { tmps, defers := [] } w :=
  bodyPost_ret (results_cell_row hres _ _ _ _ _ _ _ hp hg Tryd.underlying52 rfl (by rw [row_info, arr_size, hxs])) rfl hR

theorem info_u32 : (Tryd.prog.info? 48).map (fun i => (i.zero, i.size, i.bytes)) = some (some (.int .u32 0), 1, 4) := by kernel_rfl
theorem size_u32 : (Tryd.prog.info? 48).map (·.size) = some 1 := by kernel_rfl

theorem madeCells_u32 (n : Nat) : madeCells #[Value.int .u32 0] n = arr (List.replicate n 0) := by
  apply Array.ext
  · simp [madeCells, arr]
  · intro i h1 h2
    simp [madeCells, arr, Nat.mod_one]

/-- A slice of n zeros is made. -/
theorem make_row {ops : Array Oper} {rest : List Oper} {o : Oper} {a : Act} {w : World} {Q : Exit → Act → World → Prop} (hgd : o.guard = none) (l c : Operand) (ho : o.op = .makeSlice 24 l c)
    (n : Nat) (hl : a.eval l = .int .i64 n) (hc : a.eval c = .int .i64 n) (hn : n ≤ 70368744177664)
    (h : wpList Tryd.prog ops Q rest (a.put o.dst (.slice (some ⟨w.heap.size, 0, none⟩) n n)) (w.alloc (.cells (arr (List.replicate n 0)) 48))) : wpList Tryd.prog ops Q (o :: rest) a w := by
  refine wpList_plain hgd fun K hK => ?_
  obtain ⟨i, hi, hz, hs, hb⟩ := info_parts info_u32
  have hr := run_make (P := Tryd.prog) w 24 48 i (.int .u32 0) Tryd.underlying24 hi hz .i64 .i64 n n (by omega) (Int.le_refl _) (by rw [hb]; omega) (by omega)
  rw [hs] at hr
  simp only [Int.toNat_natCast, Nat.mul_one] at hr
  rw [show (Value.int .u32 0).cells = #[Value.int .u32 0] from rfl, madeCells_u32] at hr
  unfold Oper.wp
  simp [execOp, ho, hl, hc, hr, Result.andThen]
  exact hK _ _ h

/-- Digits are copied into a row that was made for them. -/
theorem copy_row {ops : Array Oper} {rest : List Oper} {o : Oper} {a : Act} {w : World} {Q : Exit → Act → World → Prop} (hgd : o.guard = none) (d s : Operand)
    (ho : o.op = .call { callee := .builtin .copy, args := #[d, s], argTypes := #[24, 24] })
    (g n : Nat) (old xs : List Nat) (ad : Addr) (sLen sCap : Nat) (hd : a.eval d = .slice (some ⟨g, 0, none⟩) n n) (hs : a.eval s = .slice (some ad) sLen sCap)
    (hg : RowAt w g 48 (arr old)) (hold : old.length = n) (hxs : xs.length = n) (hle : n ≤ sLen) (hsrc : ∀ j, j < n → w.cell? (ad.add j) = some (.int .u32 ((xs[j]?.getD 0 : Nat) : Int)))
    (h : wpList Tryd.prog ops Q rest (a.put o.dst (goInt n)) (w.setRow g (arr xs))) : wpList Tryd.prog ops Q (o :: rest) a w := by
  refine wpList_copy_own hgd d s 24 24 ho 48 Tryd.underlying24 size_u32 g 0 n n ad sLen sCap hd hs (arr old) 48 hg (arr xs).toList (by rw [show Nat.min sLen n = n from Nat.min_eq_right hle]; simp [arr_size, hxs]) ?_ (by simp [arr_size, hxs, hold]) ?_ ?_
  · intro j v hv
    have hj : j < xs.length := by
      have := (List.getElem?_eq_some_iff.1 hv).1; simpa [arr_size] using this
    rw [hsrc j (by omega)]
    have := arr_get xs j hj
    rw [← Array.getElem?_toList, hv] at this
    exact this.symm
  · intro v hv
    have := Array.all_eq_true_iff_forall_mem.1 (arr_one xs) v (by simpa using hv)
    exact this
  · have e : ((arr old).toList.take 0 ++ ((arr xs).toList ++ (arr old).toList.drop (0 + (arr xs).toList.length))).toArray = arr xs := by
      rw [List.take_zero, List.nil_append, List.drop_eq_nil_of_le (by simp [arr_size, hxs, hold]), List.append_nil, Array.toArray_toList]
    rw [e]
    simpa [arr_size, hxs] using h

/-! Numbers in their blocks: two cells, the sign and the slice. -/
def numCells (neg : Bool) (p : Option Addr) (n c : Nat) : Array Value := #[.bool neg, .slice p n c]
theorem num_info : (Tryd.prog.info? 26).map (·.size) = some 2 := by kernel_rfl
theorem numCells_one (neg : Bool) (p : Option Addr) (n c : Nat) : (numCells neg p n c).all (·.oneCell') = true := by simp [numCells, Value.oneCell']

theorem store_num {ops : Array Oper} {rest : List Oper} {o : Oper} {a : Act} {w : World} {Q : Exit → Act → World → Prop} (hgd : o.guard = none) (x y : Operand) (ho : o.op = .store 26 x y)
    (g : Nat) (hx : a.eval x = .pointer (some ⟨g, 0, none⟩)) (neg : Bool) (p : Option Addr) (n c : Nat) (hy : a.eval y = .agg #[.bool neg, .slice p n c]) (t : TypeId) (old : Array Value) (hg : RowAt w g t old) (hold : old.size = 2)
    (h : wpList Tryd.prog ops Q rest (a.put o.dst undef) (w.setRow g (numCells neg p n c))) : wpList Tryd.prog ops Q (o :: rest) a w :=
  wpList_plain hgd fun _ hK => wp_store_row 26 x y ho g (numCells neg p n c) hx hy t old hg num_info hold (numCells_one ..) (hK _ _ h)
theorem load_num {ops : Array Oper} {rest : List Oper} {o : Oper} {a : Act} {w : World} {Q : Exit → Act → World → Prop} (hgd : o.guard = none) (x : Operand) (ho : o.op = .load 26 x)
    (g : Nat) (hx : a.eval x = .pointer (some ⟨g, 0, none⟩)) (neg : Bool) (p : Option Addr) (n c : Nat) (t : TypeId) (hg : RowAt w g t (numCells neg p n c))
    (h : wpList Tryd.prog ops Q rest (a.put o.dst (.agg #[.bool neg, .slice p n c])) w) : wpList Tryd.prog ops Q (o :: rest) a w :=
  wpList_load_row hgd 26 x ho g hx t (numCells neg p n c) (0, 0) _ hg Tryd.underlying26 rfl num_info h
/-- A number and a bool are handed back. -/
theorem ret_num {fn : Func} {R : Ending → World → Prop} {tmps : Array Value} {w : World} {r u : Tmp} (hres : fn.results = #[.cell r 26, .tmp u]) (g : Nat) (hp : tmps.getD r undef = .pointer (some ⟨g, 0, none⟩)) (ok : Bool) (hu : tmps.getD u undef = .bool ok)
    (neg : Bool) (p : Option Addr) (n c : Nat) (t : TypeId) (hg : RowAt w g t (numCells neg p n c)) (hR : R (.returned (.tuple #[.agg #[.bool neg, .slice p n c], .bool ok])) w) : bodyPost Tryd.prog fn R .ret { tmps, defers := [] } w := by
  refine bodyPost_ret (v := .tuple #[.agg #[.bool neg, .slice p n c], .bool ok]) ?_ rfl hR
  have h1 := results_cell_tmp hres tmps Tryd.prog w
  rw [hp, hu] at h1
  have h2 := run_loadVar_row (P := Tryd.prog) w g t 26 (numCells neg p n c) (0, 0) _ hg Tryd.underlying26 rfl num_info
  rw [h1]
  simp only [asAddr, Sem.run_pure, Result.andThen]
  rw [h2]; rfl
/-- A number alone is handed back. -/
theorem ret_num1 {fn : Func} {R : Ending → World → Prop} {tmps : Array Value} {w : World} {r : Tmp} (hres : fn.results = #[.cell r 26]) (g : Nat) (hp : tmps.getD r undef = .pointer (some ⟨g, 0, none⟩))
    (neg : Bool) (p : Option Addr) (n c : Nat) (t : TypeId) (hg : RowAt w g t (numCells neg p n c)) (hR : R (.returned (.agg #[.bool neg, .slice p n c])) w) : bodyPost Tryd.prog fn R .ret { tmps, defers := [] } w :=
  bodyPost_ret (results_cell_row hres _ _ _ _ _ _ _ hp hg Tryd.underlying26 rfl num_info) rfl hR

theorem cell_set2 (W : World) (g i j : Nat) (u v : Value) (a : Addr) (x : Option Value) (h : W.cell? a = x) (hne : a.block ≠ g) : ((W.setCell ⟨g, i, none⟩ u).setCell ⟨g, j, none⟩ v).cell? a = x :=
  (World.cell?_of_block ((heap_setCell_other _ ⟨g, j, none⟩ a.block v hne).trans (heap_setCell_other _ ⟨g, i, none⟩ a.block u hne))).trans h
theorem numCells_set {W : World} {g : Nat} {t : TypeId} {cs : Array Value} (h : RowAt W g t cs) (hs : cs.size = 2) (neg : Bool) (p : Option Addr) (n c : Nat) :
    RowAt ((W.setCell ⟨g, 0, none⟩ (.bool neg)).setCell ⟨g, 1, none⟩ (.slice p n c)) g t (numCells neg p n c) := by
  have h2 := (h.set 0 (.bool neg)).set 1 (.slice p n c)
  have e : (cs.setIfInBounds 0 (Value.bool neg)).setIfInBounds 1 (.slice p n c) = numCells neg p n c := by
    obtain ⟨l⟩ := cs
    match l, hs with
    | [x, y], _ => rfl
  rwa [e] at h2

theorem RowAt.num0 {W : World} {g : Nat} {t : TypeId} {neg : Bool} {p : Option Addr} {n c : Nat} (h : RowAt W g t (numCells neg p n c)) : W.cell? ⟨g, 0, none⟩ = some (.bool neg) := h.cell 0
theorem RowAt.num1 {W : World} {g : Nat} {t : TypeId} {neg : Bool} {p : Option Addr} {n c : Nat} (h : RowAt W g t (numCells neg p n c)) : W.cell? ⟨g, 1, none⟩ = some (.slice p n c) := h.cell 1

end Go.Proofs.YtcmpgboifcemmaaDoor
