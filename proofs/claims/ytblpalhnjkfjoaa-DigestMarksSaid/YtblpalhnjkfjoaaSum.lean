/- digest.sumOf: the digest of parts, one after the other, as an array of eight bytes. -/
import Derived.Test.YtblpalhnjkfjoaaReg
import Derived.Laws.CopyOwn
import Derived.Deep.RegionLaw
set_option linter.all false
namespace Go.Proofs.Ytblpalhnjkfjoaa
open Go Go.RowKit

def encT (s : Bs) : Value := .string ⟨s.toArray⟩
/-- The slice value v holds xs. -/
def SlT (w : World) (v : Value) (xs : List Bs) : Prop :=
  ∃ p cap, v = .slice p xs.length cap ∧ xs.length ≤ 9223372036854775807 ∧ (0 < xs.length → ∃ b off, p = some ⟨b, off, none⟩ ∧ b < w.heap.size ∧ ∀ j x, xs[j]? = some x → w.cell? ⟨b, off + j, none⟩ = some (encT x))
def u8V (c : UInt8) : Value := .int .u8 (c.toNat : Int)
/-- A digest, as an array. -/
def sumV (s : Bs) : Value := .agg ((dig s).map u8V).toArray
theorem hX_snoc (l : Bs) (c : UInt8) : hX (l ++ [c]) = stX (hX l) c := by unfold hX; rw [List.foldl_append]; rfl
theorem hY_snoc (l : Bs) (c : UInt8) : hY (l ++ [c]) = stY (hY l) c := by unfold hY; rw [List.foldl_append]; rfl
theorem take_snoc {α : Type} {l : List α} {k : Nat} {x : α} (h : l[k]? = some x) : l.take (k + 1) = l.take k ++ [x] := by rw [List.take_add_one, h]; rfl
theorem flat_snoc (xs : List Bs) (k : Nat) (x : Bs) (h : xs[k]? = some x) : (xs.take (k + 1)).flatten = (xs.take k).flatten ++ x := by rw [take_snoc h]; simp

/-- The bytes of a string, in a new block. -/
theorem bytes_cell (w : World) (s : Bs) (cp : Nat) (lo hi : Nat) (j : Nat) (c : UInt8) (hj : s[j]? = some c) :
    (w.alloc (.cells (bytesRow ⟨s.toArray⟩ cp) 5 (lo, hi))).cell? ⟨w.heap.size, j, none⟩ = some (.int .u8 (c.toNat : Int)) := by
  rw [World.cell?_alloc_mark]
  have hlt : j < s.length := (List.getElem?_eq_some_iff.1 hj).1
  rw [bytesRow_at ⟨s.toArray⟩ cp j (by simpa using hlt)]
  have : s[j] = c := (List.getElem?_eq_some_iff.1 hj).2
  simp [this]

theorem step_X {P s : Bs} {q X d : Nat} {c : UInt8} (h : s[q]? = some c) (hX2 : hX (P ++ s.take q ++ [c]) = stX X c) (hd : d = c.toNat) :
    Value.int .u64 ((48271 * (X : Int) + (d : Int) + 1) % 2147483647) = .int .u64 (hX (P ++ s.take (q + 1)) : Nat) := by
  rw [take_snoc h, ← List.append_assoc, hX2, hd]
  unfold stX
  simp
theorem step_Y {P s : Bs} {q Y d : Nat} {c : UInt8} (h : s[q]? = some c) (hY2 : hY (P ++ s.take q ++ [c]) = stY Y c) (hd : d = c.toNat) :
    Value.int .u64 ((40692 * (Y : Int) + (d : Int) + 1) % 2147483629) = .int .u64 (hY (P ++ s.take (q + 1)) : Nat) := by
  rw [take_snoc h, ← List.append_assoc, hY2, hd]
  unfold stY
  simp

abbrev zero8 : Array Value := #[.int .u8 0, .int .u8 0, .int .u8 0, .int .u8 0, .int .u8 0, .int .u8 0, .int .u8 0, .int .u8 0]
theorem heap_alloc_new (w : World) (o : Obj) : (w.alloc o).heap[w.heap.size]? = some o := by
  show (w.heap.push o)[w.heap.size]? = _
  simp

/-- Nothing that was there has changed, but for one block. -/
structure Keep (rb : Option Nat) (w w' : World) : Prop where
  os : w'.os = w.os
  tape : w'.tape = w.tape
  output : w'.output = w.output
  size : w.heap.size ≤ w'.heap.size
  block : ∀ k, k < w.heap.size → rb ≠ some k → w'.heap[k]? = w.heap[k]?
theorem Ext.keep {rb : Option Nat} {w w' : World} (h : Ext w w') : Keep rb w w' := ⟨h.os, h.tape, h.output, Below.size h, fun k hk _ => Below.block h k hk⟩
theorem Keep.refl (rb : Option Nat) (w : World) : Keep rb w w := (Ext.refl w).keep
theorem Keep.trans {rb : Option Nat} {a b c : World} (h : Keep rb a b) (k : Keep rb b c) : Keep rb a c :=
  ⟨k.os.trans h.os, k.tape.trans h.tape, k.output.trans h.output, Nat.le_trans h.size k.size, fun i hi hn => (k.block i (Nat.lt_of_lt_of_le hi h.size) hn).trans (h.block i hi hn)⟩
/-- A block that is new is none of what was there. -/
theorem Keep.new {rb : Option Nat} {w0 w w' : World} (h0 : Ext w0 w) (hb : ∀ b, rb = some b → w0.heap.size ≤ b) (h : Keep rb w w') : Ext w0 w' :=
  ⟨h.os.trans h0.os, h.tape.trans h0.tape, h.output.trans h0.output, Nat.le_trans (Below.size h0) h.size, fun k hk => (h.block k (Nat.lt_of_lt_of_le hk (Below.size h0)) (fun e => by have := hb k e; omega)).trans (Below.block h0 k hk)⟩
theorem Keep.row {g : Nat} (w : World) (C : Array Value) : Keep (some g) w (w.setRow g C) :=
  ⟨rfl, rfl, rfl, by simp, fun k _ hk => setRow_other _ _ _ _ (fun e => hk (by rw [e]))⟩
/-- What block g holds before and behind operation 4. -/
def Lay (g : Nat) (D : Nat → Prop) (o0 o1 : Obj) (w : World) : Prop := (¬ D 4 ∧ w.heap[g]? = some o0) ∨ (D 4 ∧ w.heap[g]? = some o1)
theorem lt_of_heap {w : World} {g : Nat} {o : Obj} (h : w.heap[g]? = some o) : g < w.heap.size := (Array.getElem?_eq_some_iff.1 h).1
theorem Lay.other {g : Nat} {D : Nat → Prop} {o0 o1 : Obj} {w w' : World} (h : Lay g D o0 o1 w) {i : Nat} (hi : i ≠ 4) (hx : Ext w w') : Lay g (fun j => j = i ∨ D j) o0 o1 w' := by
  rcases h with ⟨h1, h2⟩ | ⟨h1, h2⟩
  · exact .inl ⟨fun e => e.elim (fun e => hi e.symm) h1, (Below.block hx g (lt_of_heap h2)).trans h2⟩
  · exact .inr ⟨.inr h1, (Below.block hx g (lt_of_heap h2)).trans h2⟩
theorem Lay.same {g : Nat} {D : Nat → Prop} {o0 o1 : Obj} {w : World} (h : Lay g D o0 o1 w) {i : Nat} (hi : i ≠ 4) : Lay g (fun j => j = i ∨ D j) o0 o1 w := h.other hi (Ext.refl w)
theorem Lay.before {g : Nat} {D : Nat → Prop} {o0 o1 : Obj} {w : World} (h : Lay g D o0 o1 w) (hn : ¬ D 4) : w.heap[g]? = some o0 := h.elim (fun h => h.2) (fun h => absurd h.1 hn)
theorem Lay.behind {g : Nat} {D : Nat → Prop} {o0 o1 : Obj} {w : World} (h : Lay g D o0 o1 w) (hn : D 4) : w.heap[g]? = some o1 := h.elim (fun h => absurd hn h.1) (fun h => h.2)
/-- What the operations of a copy of four bytes hold. -/
def cpF (g off dl n : Nat) : Nat → Value → Prop
  | 0, v => v = .slice (some ⟨g, off, none⟩) 4 (8 - off)
  | 1, v => v = .int .u64 (n : Int)
  | 2, v => v = .int .u32 (n : Int)
  | 3, v => v = .string ⟨(b4 n).toArray⟩
  | _, _ => True
def rowLo (X : Nat) : Array Value := (zero8.toList.take 0 ++ Lib.byteCells (b4 X) ++ zero8.toList.drop (0 + (b4 X).length)).toArray
def rowAll (X Y : Nat) : Array Value := ((rowLo X).toList.take 4 ++ Lib.byteCells (b4 Y) ++ (rowLo X).toList.drop (4 + (b4 Y).length)).toArray

theorem rowLo_size (X : Nat) : (rowLo X).size = 8 := rfl
theorem row_abs (a0 a1 a2 a3 a4 a5 a6 a7 : UInt8) :
    ((((zero8.toList.take 0 ++ Lib.byteCells [a0, a1, a2, a3] ++ zero8.toList.drop (0 + [a0, a1, a2, a3].length)).toArray).toList.take 4 ++ Lib.byteCells [a4, a5, a6, a7] ++ (((zero8.toList.take 0 ++ Lib.byteCells [a0, a1, a2, a3] ++ zero8.toList.drop (0 + [a0, a1, a2, a3].length)).toArray).toList.drop (4 + [a4, a5, a6, a7].length))).toArray : Array Value)
      = #[.int .u8 (a0.toNat : Int), .int .u8 (a1.toNat : Int), .int .u8 (a2.toNat : Int), .int .u8 (a3.toNat : Int), .int .u8 (a4.toNat : Int), .int .u8 (a5.toNat : Int), .int .u8 (a6.toNat : Int), .int .u8 (a7.toNat : Int)] := rfl
theorem sum_abs (a0 a1 a2 a3 a4 a5 a6 a7 : UInt8) : Value.agg ((([a0, a1, a2, a3] ++ [a4, a5, a6, a7]).map u8V).toArray)
      = .agg #[.int .u8 (a0.toNat : Int), .int .u8 (a1.toNat : Int), .int .u8 (a2.toNat : Int), .int .u8 (a3.toNat : Int), .int .u8 (a4.toNat : Int), .int .u8 (a5.toNat : Int), .int .u8 (a6.toNat : Int), .int .u8 (a7.toNat : Int)] := rfl
theorem b4_four (n : Nat) : ∃ a0 a1 a2 a3 : UInt8, b4 n = [a0, a1, a2, a3] := ⟨_, _, _, _, rfl⟩
/-- The eight bytes of a digest, each by a name. -/
theorem rowAll_cells {s : Bs} {X Y : Nat} (hx : X = hX s) (hy : Y = hY s) : ∃ c0 c1 c2 c3 c4 c5 c6 c7 : Int, rowAll X Y = #[.int .u8 c0, .int .u8 c1, .int .u8 c2, .int .u8 c3, .int .u8 c4, .int .u8 c5, .int .u8 c6, .int .u8 c7] ∧
    sumV s = .agg #[.int .u8 c0, .int .u8 c1, .int .u8 c2, .int .u8 c3, .int .u8 c4, .int .u8 c5, .int .u8 c6, .int .u8 c7] := by
  unfold rowAll rowLo sumV dig
  rw [← hx, ← hy]
  obtain ⟨a0, a1, a2, a3, ha⟩ := b4_four X
  obtain ⟨a4, a5, a6, a7, hb⟩ := b4_four Y
  rw [ha, hb]
  exact ⟨_, _, _, _, _, _, _, _, row_abs a0 a1 a2 a3 a4 a5 a6 a7, sum_abs a0 a1 a2 a3 a4 a5 a6 a7⟩
theorem cell8 {w : World} {g : Nat} {t : TypeId} {C : Array Value} (h : w.heap[g]? = some (.cells C t)) (j : Nat) : w.cell? ⟨g, j, none⟩ = C[j]? := Lib.cell_of_heap h j

theorem heap_set {w : World} {g : Nat} {C : Array Value} {t : TypeId} (h : w.heap[g]? = some (.cells C t)) (j : Nat) (v : Value) : (w.setCell ⟨g, j, none⟩ v).heap[g]? = some (.cells (C.setIfInBounds j v) t) := by
  rw [setCell_eq_setRow w g j C t (0, 0) v h]
  exact setRow_heap _ g _ _ _ _ h
section
variable (c0 c1 c2 c3 c4 c5 c6 c7 : Int)
abbrev row8 : Array Value := #[.int .u8 c0, .int .u8 c1, .int .u8 c2, .int .u8 c3, .int .u8 c4, .int .u8 c5, .int .u8 c6, .int .u8 c7]
theorem set8 {w : World} {B : Nat} {t : TypeId} (h : w.heap[B]? = some (.cells zero8 t)) :
    ((((((((w.setCell ⟨B, 0, none⟩ (.int .u8 c0)).setCell ⟨B, 1, none⟩ (.int .u8 c1)).setCell ⟨B, 2, none⟩ (.int .u8 c2)).setCell ⟨B, 3, none⟩ (.int .u8 c3)).setCell ⟨B, 4, none⟩ (.int .u8 c4)).setCell ⟨B, 5, none⟩ (.int .u8 c5)).setCell ⟨B, 6, none⟩ (.int .u8 c6)).setCell ⟨B, 7, none⟩ (.int .u8 c7)).heap[B]? = some (.cells (row8 c0 c1 c2 c3 c4 c5 c6 c7) t) := by
  have e : ((((((((zero8.setIfInBounds 0 (.int .u8 c0)).setIfInBounds 1 (.int .u8 c1)).setIfInBounds 2 (.int .u8 c2)).setIfInBounds 3 (.int .u8 c3)).setIfInBounds 4 (.int .u8 c4)).setIfInBounds 5 (.int .u8 c5)).setIfInBounds 6 (.int .u8 c6)).setIfInBounds 7 (.int .u8 c7)) = row8 c0 c1 c2 c3 c4 c5 c6 c7 := by simp [zero8, row8]
  rw [← e]
  exact heap_set (heap_set (heap_set (heap_set (heap_set (heap_set (heap_set (heap_set h 0 _) 1 _) 2 _) 3 _) 4 _) 5 _) 6 _) 7 _
theorem set8_ext {w0 w : World} {B : Nat} (hB : w0.heap.size ≤ B) (h : Ext w0 w) :
    Ext w0 ((((((((w.setCell ⟨B, 0, none⟩ (.int .u8 c0)).setCell ⟨B, 1, none⟩ (.int .u8 c1)).setCell ⟨B, 2, none⟩ (.int .u8 c2)).setCell ⟨B, 3, none⟩ (.int .u8 c3)).setCell ⟨B, 4, none⟩ (.int .u8 c4)).setCell ⟨B, 5, none⟩ (.int .u8 c5)).setCell ⟨B, 6, none⟩ (.int .u8 c6)).setCell ⟨B, 7, none⟩ (.int .u8 c7)) :=
  (((((((Below.setCell h hB _).setCell (p := ⟨B, 1, none⟩) hB _).setCell (p := ⟨B, 2, none⟩) hB _).setCell (p := ⟨B, 3, none⟩) hB _).setCell (p := ⟨B, 4, none⟩) hB _).setCell (p := ⟨B, 5, none⟩) hB _).setCell (p := ⟨B, 6, none⟩) hB _).setCell (p := ⟨B, 7, none⟩) hB _
theorem results_sum {fn : Func} {p : Tmp} (h : fn.results = #[.cell p 36]) (tmps : Array Value) (w : World) (g : Nat) (hp : tmps.getD p undef = .pointer (some ⟨g, 0, none⟩)) (hg : w.heap[g]? = some (.cells (row8 c0 c1 c2 c3 c4 c5 c6 c7) 36)) :
    (results fn tmps).run Try.prog w = .ok (.agg (row8 c0 c1 c2 c3 c4 c5 c6 c7)) w := by
  have e0 := cell8 hg 0
  have e1 := cell8 hg 1
  have e2 := cell8 hg 2
  have e3 := cell8 hg 3
  have e4 := cell8 hg 4
  have e5 := cell8 hg 5
  have e6 := cell8 hg 6
  have e7 := cell8 hg 7
  simp at e0 e1 e2 e3 e4 e5 e6 e7
  have hp' := hp
  simp only [Array.getD_eq_getD_getElem?] at hp'
  simp [results, h, hp', asAddr, go_sem, e0, e1, e2, e3, e4, e5, e6, e7]
theorem ret_sum {fn : Func} {R : Ending → World → Prop} {tmps : Array Value} {w : World} {p : Tmp} (hres : fn.results = #[.cell p 36]) (g : Nat) (hp : tmps.getD p undef = .pointer (some ⟨g, 0, none⟩))
    (hg : w.heap[g]? = some (.cells (row8 c0 c1 c2 c3 c4 c5 c6 c7) 36)) (hR : R (.returned (.agg (row8 c0 c1 c2 c3 c4 c5 c6 c7))) w) : bodyPost Try.prog fn R Exit.ret { tmps := tmps, defers := [] } w :=
  bodyPost_ret (results_sum c0 c1 c2 c3 c4 c5 c6 c7 hres tmps w g hp hg) rfl hR
end

set_option maxRecDepth 100000 in
set_option maxHeartbeats 2000000 in
theorem sumOf_calls (v : Value) (xs : List Bs) (w : World) (hu : SlT w v xs) (hs : ∀ x ∈ xs, x.length ≤ 9223372036854775807) :
    Calls Try.prog 19 #[v] w fun e w' => e = .returned (sumV xs.flatten) ∧ Ext w w' := by
  obtain ⟨p, cap, rfl, hl, hc⟩ := hu
  have Hc := Lib.hid hc
  have Hs := Lib.hid hs
  obtain ⟨n, hn⟩ : ∃ n, n = xs.length := ⟨_, rfl⟩
  rw [← hn] at hl ⊢
  have Hn := Lib.hid hn
  clear hc hs hn
  go_enter Try.func19, Try.ntmps19
  go_wp2_with fail
  obtain ⟨W, hW⟩ : ∃ W, W = w.alloc (.cells zero8 36) := ⟨_, rfl⟩
  have HX : Hid (Ext w W) := by rw [hW]; exact Ext.alloc _ _
  obtain ⟨B, hB⟩ : ∃ B, B = w.heap.size := ⟨_, rfl⟩
  have HO : Hid (W.heap[B]? = some (.cells zero8 36)) := by rw [hW, hB]; exact heap_alloc_new _ _
  have HBs := Lib.hid hB
  rw [show (w.alloc (.cells #[Value.int .u8 0, Value.int .u8 0, Value.int .u8 0, Value.int .u8 0, Value.int .u8 0, Value.int .u8 0, Value.int .u8 0, Value.int .u8 0] 36)) = W from hW.symm]
  rw [← hB]
  clear hW hB
  go_loopw [3, 4, 12] (fun x y i wr => ∃ k : Nat, k ≤ n ∧ i = .int .i64 (k : Int) ∧ x = .int .u64 (hX (xs.take k).flatten : Nat) ∧ y = .int .u64 (hY (xs.take k).flatten : Nat) ∧ Ext W wr) (fun _ _ i _ => n - (intOf i).toNat)
  case atStart => exact ⟨0, Nat.zero_le _, rfl, rfl, rfl, Ext.refl _⟩
  case round =>
    obtain ⟨k, hk, rfl, rfl, rfl, hx⟩ := hrel
    have Hx := Lib.hid hx
    clear hx
    by_cases hlt : k < n
    · obtain ⟨s, hs⟩ : ∃ s, xs[k]? = some s := ⟨_, List.getElem?_eq_getElem (by rw [← Hn.out]; exact hlt)⟩
      obtain ⟨b, off, rfl, hbl, hcs⟩ := Hc.out (by rw [← Hn.out]; omega)
      have hcell := (Below.cell (HX.out.trans Hx.out) (p := ⟨b, off + k, none⟩) hbl).trans (hcs k s hs)
      unfold encT at hcell
      have hsl := Hs.out s (List.mem_of_getElem? hs)
      have Hs1 := Lib.hid hs
      obtain ⟨P, hP⟩ : ∃ P, P = (xs.take k).flatten := ⟨_, rfl⟩
      rw [← hP]
      have HP := Lib.hid hP
      clear hcs hs hP
      go_wp2_with fail
      rw [run_bytes_of_string wr _ _ _ _ Try.underlying9 Try.underlying29 Try.underlying5]
      rw [bytes_size]
      simp only [Result.andThen]
      rw [Oper.upon_value]
      obtain ⟨cp, hcp⟩ : ∃ cp, cp = grownCap wr s.length 0 5 := ⟨_, rfl⟩
      rw [← hcp]
      clear hcp
      obtain ⟨G, hG⟩ : ∃ G, G = wr.heap.size := ⟨_, rfl⟩
      obtain ⟨Z, hZ⟩ : ∃ Z, Z = wr.drew.alloc (.cells (bytesRow ⟨s.toArray⟩ cp) 5 ((bytesRow ⟨s.toArray⟩ cp).size, (bytesRow ⟨s.toArray⟩ cp).size + 1)) := ⟨_, rfl⟩
      have HZ : Hid (Ext wr Z) := by rw [hZ]; exact (Ext.drew wr).trans (Ext.alloc _ _)
      have HC : Hid (∀ (j : Nat) (c : UInt8), s[j]? = some c → Z.cell? ⟨G, j, none⟩ = some (.int .u8 (c.toNat : Int))) := by
        intro j c hj
        rw [hZ, hG]
        exact bytes_cell wr.drew s cp _ _ j c hj
      rw [← hZ, ← hG]
      clear hZ hG
      obtain ⟨m, hm⟩ : ∃ m, m = s.length := ⟨_, rfl⟩
      rw [← hm] at hsl ⊢
      have Hm := Lib.hid hm
      clear hm hcell
      go_wp2_with fail
      go_loop [3, 4, 19] (fun x y j => ∃ q : Nat, q ≤ m ∧ j = .int .i64 (q : Int) ∧ x = .int .u64 (hX (P ++ s.take q) : Nat) ∧ y = .int .u64 (hY (P ++ s.take q) : Nat)) (fun _ _ j => m - (intOf j).toNat)
      case atStart => exact ⟨0, Nat.zero_le _, rfl, by simp, by simp⟩
      case round =>
        obtain ⟨q, hq, rfl, rfl, rfl⟩ := hrel
        by_cases hqm : q < m
        · obtain ⟨c, hcc⟩ : ∃ c, s[q]? = some c := ⟨_, List.getElem?_eq_getElem (by rw [← Hm.out]; exact hqm)⟩
          have hzc := HC.out q c hcc
          have Hcc := Lib.hid hcc
          have hX1 := hX_lt (P ++ s.take q)
          have hY1 := hY_lt (P ++ s.take q)
          have hc1 := c.toNat_lt
          have HX2 := Lib.hid (hX_snoc (P ++ s.take q) c)
          have HY2 := Lib.hid (hY_snoc (P ++ s.take q) c)
          obtain ⟨X, hXe⟩ : ∃ X, X = hX (P ++ s.take q) := ⟨_, rfl⟩
          obtain ⟨Y, hYe⟩ : ∃ Y, Y = hY (P ++ s.take q) := ⟨_, rfl⟩
          rw [← hXe] at hX1 HX2 ⊢
          rw [← hYe] at hY1 HY2 ⊢
          obtain ⟨d, hd⟩ : ∃ d, d = c.toNat := ⟨_, rfl⟩
          rw [← hd] at hzc hc1
          have Hd := Lib.hid hd
          clear hcc hXe hYe hd
          go_wp2_with fail
          go_round
          case rel => exact ⟨q + 1, by omega, by go_num, step_X Hcc.out HX2.out Hd.out, step_Y Hcc.out HY2.out Hd.out⟩
          case measure => simp [intOf]; omega
        · have hqm' : q = m := by omega
          subst hqm'
          have ht : s.take q = s := List.take_of_length_le (by rw [← Hm.out]; exact Nat.le_refl _)
          rw [ht]
          clear ht
          have hf := flat_snoc xs k s Hs1.out
          rw [← HP.out] at hf
          rw [← hf]
          have HE : Hid (Ext W Z) := Hx.out.trans HZ.out
          clear hf
          go_wp2_with fail
          go_roundw
          case rel => exact ⟨k + 1, by omega, by go_num, rfl, rfl, HE.out⟩
          case measure => simp [intOf]; omega
    · have hkn : k = n := by omega
      subst hkn
      have ht : xs.take k = xs := List.take_of_length_le (by rw [← Hn.out]; exact Nat.le_refl _)
      rw [ht]
      clear ht
      have hX1 := hX_lt xs.flatten
      have hY1 := hY_lt xs.flatten
      obtain ⟨X, hXe⟩ : ∃ X, X = hX xs.flatten := ⟨_, rfl⟩
      obtain ⟨Y, hYe⟩ : ∃ Y, Y = hY xs.flatten := ⟨_, rfl⟩
      rw [← hXe] at hX1 ⊢
      rw [← hYe] at hY1 ⊢
      have HXe := Lib.hid hXe
      have HYe := Lib.hid hYe
      clear hXe hYe
      go_wp2_with fail
      obtain ⟨g, hg⟩ : ∃ g, g = wr.heap.size := ⟨_, rfl⟩
      obtain ⟨Wa, hWa⟩ : ∃ Wa, Wa = wr.alloc (.cells zero8 36) := ⟨_, rfl⟩
      have HGa : Hid (Wa.heap[g]? = some (.cells zero8 36)) := by rw [hWa, hg]; exact heap_alloc_new _ _
      have HG1 : Hid (Wa.drew.heap[g]? = some (.cells zero8 36)) := HGa.out
      have HWa : Hid (Ext W Wa) := by rw [hWa]; exact Hx.out.trans (Ext.alloc _ _)
      have HgB : Hid (W.heap.size ≤ g) := by rw [hg]; exact Below.size Hx.out
      rw [show (wr.alloc (.cells #[Value.int .u8 0, Value.int .u8 0, Value.int .u8 0, Value.int .u8 0, Value.int .u8 0, Value.int .u8 0, Value.int .u8 0, Value.int .u8 0] 36)) = Wa from hWa.symm]
      rw [← hg]
      have HX1 := Lib.hid hX1
      have HY1 := Lib.hid hY1
      clear hWa hg hX1 hY1
      refine wp_region_inv (fun D ac w' => ∃ vs : Nat → Value, ac = { tmps := #[.slice p k cap, undef, .pointer (some ⟨B, 0, none⟩), .int .u64 (X : Int), .int .u64 (Y : Int), undef, u6, undef, u8, .pointer (some ⟨g, 0, none⟩), .slice p k cap, .int .i64 (k : Int), .int .i64 (k : Int), .bool false, u14, u15, u16, u17, u18, u19, u20, u21, u22, u23, u24, u25, u26, u27, u28, u29, u30, u31, u32, u33, u34, u35, u36, u37, u38, vs 0, vs 1, vs 2, vs 3, vs 4, undef, undef, undef, undef, undef, undef], defers := [] } ∧ Keep (some g) Wa w' ∧ Lay g D (.cells zero8 36) (.cells (rowLo X) 36) w' ∧ ∀ k, D k → cpF g 0 4 X k (vs k)) (by kernel_rfl) (by kernel_rfl) ?start1 ?step1 ?fin1
      case start1 => exact ⟨fun _ => undef, rfl, (Ext.drew _).keep, .inl ⟨fun h => h, HG1.out⟩, fun _ h => h.elim⟩
      case step1 =>
        rintro i o D ac wz hio hnd he ⟨vs, rfl, k0, hL, hF⟩
        rcases i with _ | _ | _ | _ | _ | i
        rotate_left 5
        · exact absurd hio (by simp)
        all_goals (obtain rfl := Option.some.inj (hio.symm.trans (by rfl)))
        · exact wp_of_run (run_slice_lo (.tmp 9) rfl g rfl) ⟨upd vs 0 _, rfl, k0, hL.same (by decide), inv_same (F := fun k v _ => cpF g 0 4 X k v) (w := wz) hF rfl⟩
        · exact wp_of_run (run_move (.tmp 3) rfl _ rfl) ⟨upd vs 1 _, rfl, k0, hL.same (by decide), inv_same (F := fun k v _ => cpF g 0 4 X k v) (w := wz) hF rfl⟩
        · exact wp_of_run (run_u32 (.tmp 40) rfl X (by have := HX1.out; omega) (by exact (hF 1 (he ⟨1, .data⟩ (by simp) rfl)))) ⟨upd vs 2 _, rfl, k0, hL.same (by decide), inv_same (F := fun k v _ => cpF g 0 4 X k v) (w := wz) hF rfl⟩
        · refine wp_of_callE (run_enter1 24 (.tmp 41) _ rfl _ (by exact (hF 2 (he ⟨2, .data⟩ (by simp) rfl))) ent_four) (four_calls X (by have := HX1.out; omega) wz) ?_
          rintro e w' ⟨rfl, hx⟩
          exact ⟨_, rfl, upd vs 3 _, rfl, k0.trans hx.keep, hL.other (by decide) hx, inv_same (F := fun k v _ => cpF g 0 4 X k v) (w := wz) hF rfl⟩
        · refine wp_of_run (run_copy (.tmp 39) (.tmp 42) rfl g 0 4 _ (b4 X) (by rw [b4_length]; decide) _ (by exact (hF 0 (he ⟨0, .data⟩ (by simp) rfl))) (by exact (hF 3 (he ⟨3, .data⟩ (by simp) rfl))) (hL.before hnd) (by rw [b4_length]; simp)) ⟨upd vs 4 _, rfl, k0.trans (Keep.row _ _), .inr ⟨.inl rfl, ?_⟩, inv_same (F := fun k v _ => cpF g 0 4 X k v) (w := wz) hF trivial⟩
          exact (setRow_heap _ g _ _ _ _ (hL.before hnd))
      case fin1 =>
        rintro D ac Wa' hD ⟨vs, rfl, k0, hL, hF⟩
        have K1 := Lib.hid k0
        have HL1 := Lib.hid (hL.behind (hD 4 (by decide)))
        clear hD hL hF k0
        obtain ⟨ws, hws⟩ : ∃ ws, ws = vs := ⟨_, rfl⟩
        rw [← hws]
        clear hws vs
        obtain ⟨Wb, hWb⟩ : ∃ Wb, Wb = Wa' := ⟨_, rfl⟩
        rw [← hWb] at K1 HL1 ⊢
        clear hWb
        have HG2 : Hid (Wb.drew.heap[g]? = some (.cells (rowLo X) 36)) := HL1.out
        go_wp2_with fail
        refine wp_region_inv (fun D ac w' => ∃ vs : Nat → Value, ac = { tmps := #[.slice p k cap, undef, .pointer (some ⟨B, 0, none⟩), .int .u64 (X : Int), .int .u64 (Y : Int), undef, u6, undef, u8, .pointer (some ⟨g, 0, none⟩), .slice p k cap, .int .i64 (k : Int), .int .i64 (k : Int), .bool false, u14, u15, u16, u17, u18, u19, u20, u21, u22, u23, u24, u25, u26, u27, u28, u29, u30, u31, u32, u33, u34, u35, u36, u37, u38, ws 0, ws 1, ws 2, ws 3, ws 4, vs 0, vs 1, vs 2, vs 3, vs 4, undef], defers := [] } ∧ Keep (some g) Wb w' ∧ Lay g D (.cells (rowLo X) 36) (.cells (rowAll X Y) 36) w' ∧ ∀ k, D k → cpF g 4 4 Y k (vs k)) (by kernel_rfl) (by kernel_rfl) ?start2 ?step2 ?fin2
        case start2 => exact ⟨fun _ => undef, rfl, (Ext.drew _).keep, .inl ⟨fun h => h, HG2.out⟩, fun _ h => h.elim⟩
        case step2 =>
          rintro i o D ac wz hio hnd he ⟨vs, rfl, k0, hL, hF⟩
          rcases i with _ | _ | _ | _ | _ | i
          rotate_left 5
          · exact absurd hio (by simp)
          all_goals (obtain rfl := Option.some.inj (hio.symm.trans (by rfl)))
          · exact wp_of_run (run_slice_hi (.tmp 9) rfl g rfl) ⟨upd vs 0 _, rfl, k0, hL.same (by decide), inv_same (F := fun k v _ => cpF g 4 4 Y k v) (w := wz) hF rfl⟩
          · exact wp_of_run (run_move (.tmp 4) rfl _ rfl) ⟨upd vs 1 _, rfl, k0, hL.same (by decide), inv_same (F := fun k v _ => cpF g 4 4 Y k v) (w := wz) hF rfl⟩
          · exact wp_of_run (run_u32 (.tmp 45) rfl Y (by have := HY1.out; omega) (by exact (hF 1 (he ⟨1, .data⟩ (by simp) rfl)))) ⟨upd vs 2 _, rfl, k0, hL.same (by decide), inv_same (F := fun k v _ => cpF g 4 4 Y k v) (w := wz) hF rfl⟩
          · refine wp_of_callE (run_enter1 24 (.tmp 46) _ rfl _ (by exact (hF 2 (he ⟨2, .data⟩ (by simp) rfl))) ent_four) (four_calls Y (by have := HY1.out; omega) wz) ?_
            rintro e w' ⟨rfl, hx⟩
            exact ⟨_, rfl, upd vs 3 _, rfl, k0.trans hx.keep, hL.other (by decide) hx, inv_same (F := fun k v _ => cpF g 4 4 Y k v) (w := wz) hF rfl⟩
          · refine wp_of_run (run_copy (.tmp 44) (.tmp 47) rfl g 4 4 _ (b4 Y) (by rw [b4_length]; decide) _ (by exact (hF 0 (he ⟨0, .data⟩ (by simp) rfl))) (by exact (hF 3 (he ⟨3, .data⟩ (by simp) rfl))) (hL.before hnd) (by rw [b4_length, rowLo_size]; decide)) ⟨upd vs 4 _, rfl, k0.trans (Keep.row _ _), .inr ⟨.inl rfl, ?_⟩, inv_same (F := fun k v _ => cpF g 4 4 Y k v) (w := wz) hF trivial⟩
            exact (setRow_heap _ g _ _ _ _ (hL.before hnd))
        case fin2 =>
          rintro D ac Wb' hD ⟨vs, rfl, k0, hL, hF⟩
          have K2 := Lib.hid k0
          have HL2 := Lib.hid (hL.behind (hD 4 (by decide)))
          clear hD hL hF k0
          have HE2 : Hid (Ext W Wb') := (K1.out.trans K2.out).new HWa.out (fun b h => by cases h; exact HgB.out)
          have HB2 : Wb'.heap[B]? = some (.cells zero8 36) := (Below.block HE2.out B (lt_of_heap HO.out)).trans HO.out
          have HEw : Hid (Ext w Wb') := HX.out.trans HE2.out
          have HgB2 : Hid (B < g) := Nat.lt_of_lt_of_le (lt_of_heap HO.out) HgB.out
          obtain ⟨c0, c1, c2, c3, c4, c5, c6, c7, hrow, hsum⟩ := rowAll_cells HXe.out HYe.out
          have hg2 := HL2.out
          rw [hrow] at hg2
          have Hsum := Lib.hid hsum
          have e0 := cell8 hg2 0
          have e1 := cell8 hg2 1
          have e2 := cell8 hg2 2
          have e3 := cell8 hg2 3
          have e4 := cell8 hg2 4
          have e5 := cell8 hg2 5
          have e6 := cell8 hg2 6
          have e7 := cell8 hg2 7
          have HB3 := Lib.hid HB2
          simp at e0 e1 e2 e3 e4 e5 e6 e7
          have b0 := cell8 HB2 0
          have b1 := cell8 HB2 1
          have b2 := cell8 HB2 2
          have b3 := cell8 HB2 3
          have b4 := cell8 HB2 4
          have b5 := cell8 HB2 5
          have b6 := cell8 HB2 6
          have b7 := cell8 HB2 7
          simp [zero8] at b0 b1 b2 b3 b4 b5 b6 b7
          have f0 := Lib.frozen_of_heap HB2 0
          have f1 := Lib.frozen_of_heap HB2 1
          have f2 := Lib.frozen_of_heap HB2 2
          have f3 := Lib.frozen_of_heap HB2 3
          have f4 := Lib.frozen_of_heap HB2 4
          have f5 := Lib.frozen_of_heap HB2 5
          have f6 := Lib.frozen_of_heap HB2 6
          have f7 := Lib.frozen_of_heap HB2 7
          clear HL2 hg2 hrow hsum HB2
          go_wp2_with fail
          have HBw : Hid (w.heap.size ≤ B) := by rw [HBs.out]; exact Nat.le_refl _
          rw [Hsum.out]
          refine ret_sum c0 c1 c2 c3 c4 c5 c6 c7 rfl B rfl (set8 c0 c1 c2 c3 c4 c5 c6 c7 HB3.out) ⟨rfl, ?_⟩
          exact set8_ext c0 c1 c2 c3 c4 c5 c6 c7 HBw.out HEw.out

end Go.Proofs.Ytblpalhnjkfjoaa
