/- The reader of wire: what it holds, and its small functions. -/
import Derived.Test.YtckhbejgkgpilaaDoorBuild
import Derived.Lib.IndexMore
import Derived.Lib.Strings
import Derived.Lib.LaidTab
set_option linter.all false
namespace Go.Proofs.YtckhbejgkgpilaaDoor
open Go Go.RowKit Go.Shelf

/-! ### What a text is cut into -/
theorem index_mark (m : UInt8) : ∀ s : Bs, (m ∉ s ∧ Lib.index s [m] = -1) ∨ ∃ a r, s = a ++ m :: r ∧ m ∉ a ∧ Lib.index s [m] = a.length
  | [] => .inl ⟨by simp, by simp [Lib.index]⟩
  | c :: s => by
    by_cases h : m = c
    · subst h
      exact .inr ⟨[], s, rfl, by simp, by simp [Lib.index, List.isPrefixOf]⟩
    · rcases index_mark m s with ⟨h1, h2⟩ | ⟨a, r, rfl, h1, h2⟩
      · refine .inl ⟨by simp [h, h1], ?_⟩
        simp [Lib.index, List.isPrefixOf, h, h2]
      · refine .inr ⟨c :: a, r, rfl, by simp [h, h1], ?_⟩
        have : ((a.length : Int) == -1) = false := by simp
        simp [Lib.index, List.isPrefixOf, h, h2]
theorem cut_mark (m : UInt8) (s : Bs) : (m ∉ s ∧ Lib.cut s [m] = (s, [], false)) ∨ ∃ a r, s = a ++ m :: r ∧ m ∉ a ∧ Lib.cut s [m] = (a, r, true) := by
  rcases index_mark m s with ⟨h1, h2⟩ | ⟨a, r, h0, h1, h2⟩
  · exact .inl ⟨h1, by simp [Lib.cut, h2]⟩
  · refine .inr ⟨a, r, h0, h1, ?_⟩
    subst h0
    simp only [Lib.cut, h2]
    rw [if_pos (by omega)]
    simp [List.drop_append]

/-! ### Worlds -/
/-- Nothing that was there has changed. -/
def Ext (w w' : World) : Prop := Below w.heap.size w w'
theorem Ext.refl (w : World) : Ext w w := Below.refl _ w
theorem Ext.trans {a b c : World} (h : Ext a b) (k : Ext b c) : Ext a c := Below.trans h (Below.mono k (Below.size h))
theorem Ext.alloc (w : World) (o : Obj) : Ext w (w.alloc o) := (Below.refl _ w).alloc (Nat.le_refl _) o
theorem Ext.drew (w : World) : Ext w w.drew := (Below.refl _ w).drew
theorem Ext.drewN (w : World) (k : Nat) : Ext w (w.drewN k) := ⟨rfl, rfl, rfl, Nat.le_refl _, fun _ _ => rfl⟩
/-- Nothing that was there has changed, but for one block. -/
structure Keep (rb : Option Nat) (w w' : World) : Prop where
  os : w'.os = w.os
  tape : w'.tape = w.tape
  output : w'.output = w.output
  size : w.heap.size ≤ w'.heap.size
  block : ∀ k, k < w.heap.size → rb ≠ some k → w'.heap[k]? = w.heap[k]?
theorem Ext.keep {rb : Option Nat} {w w' : World} (h : Ext w w') : Keep rb w w' := ⟨h.os, h.tape, h.output, Below.size h, fun k hk _ => Below.block h k hk⟩
theorem Keep.refl (rb : Option Nat) (w : World) : Keep rb w w := (Ext.refl w).keep
theorem Keep.trans {rb : Option Nat} {a b c : World} (h : Keep rb a b) (k : Keep rb b c) : Keep rb a c :=
  ⟨k.os.trans h.os, k.tape.trans h.tape, k.output.trans h.output, Nat.le_trans h.size k.size, fun i hi hn => (k.block i (Nat.lt_of_lt_of_le hi h.size) hn).trans (h.block i hi hn)⟩
theorem Keep.ext {w w' : World} (h : Keep none w w') : Ext w w' := ⟨h.os, h.tape, h.output, h.size, fun k hk => h.block k hk (by simp)⟩
/-- A block that is new is none of what was there. -/
theorem Keep.new {rb : Option Nat} {w0 w w' : World} (h0 : Ext w0 w) (hb : ∀ b, rb = some b → w0.heap.size ≤ b) (h : Keep rb w w') : Ext w0 w' :=
  ⟨h.os.trans h0.os, h.tape.trans h0.tape, h.output.trans h0.output, Nat.le_trans (Below.size h0) h.size, fun k hk => (h.block k (Nat.lt_of_lt_of_le hk (Below.size h0)) (fun e => by have := hb k e; omega)).trans (Below.block h0 k hk)⟩
theorem Keep.set {b : Nat} (w : World) (j : Nat) (v : Value) : Keep (some b) w (w.setCell ⟨b, j, none⟩ v) :=
  ⟨rfl, rfl, rfl, by simp [World.setCell], fun k _ hk => Below.heap_setCell _ _ _ _ (fun e => hk (by rw [e]))⟩

/-- The variables of the library that the program reads. -/
structure Vars (w : World) : Prop where
  tab : Lib.TabIs Tryd.prog w "internal/strconv.uint64pow10" .u64 Lib.pow10Tab
  syn : ∃ tp p, w.cell? ⟨2, 0, none⟩ = some (.iface tp p)
  rng : ∃ tp p, w.cell? ⟨3, 0, none⟩ = some (.iface tp p)
  len : ∃ m, w.cell? ⟨1, 0, none⟩ = some (.int .i64 m)
  low : 6 ≤ w.heap.size
theorem tab_global : Tryd.prog.globalNamed "internal/strconv.uint64pow10" = some 0 := by kernel_rfl
theorem lt_of_tab {w : World} (h : Lib.TabIs Tryd.prog w "internal/strconv.uint64pow10" .u64 Lib.pow10Tab) : 0 < w.heap.size := by
  unfold Lib.TabIs World.var? at h
  rw [tab_global] at h
  apply Classical.byContradiction
  intro hn
  have e : w.heap[0]? = none := Array.getElem?_eq_none (by omega)
  simp [e] at h
theorem lt_of_cell {w : World} {g : Nat} {v : Value} (h : w.cell? ⟨g, 0, none⟩ = some v) : g < w.heap.size := by
  apply Classical.byContradiction
  intro hn
  have e : w.heap[g]? = none := Array.getElem?_eq_none (by omega)
  simp [World.cell?, e] at h
/-- The globals lie below every reader. -/
theorem Vars.keep {rb : Option Nat} {w w' : World} (h : Vars w) (hk : Keep rb w w') (hb : ∀ b, rb = some b → 6 ≤ b) : Vars w' := by
  have cell : ∀ {g : Nat} {v : Value}, g < 6 → w.cell? ⟨g, 0, none⟩ = some v → w'.cell? ⟨g, 0, none⟩ = some v := fun {g v} hg hc =>
    (World.cell?_of_block (w := w) (a := ⟨g, 0, none⟩) (hk.block g (lt_of_cell hc) (fun e => by have := hb g e; omega))).trans hc
  obtain ⟨t1, p1, h1⟩ := h.syn
  obtain ⟨t2, p2, h2⟩ := h.rng
  obtain ⟨m, h3⟩ := h.len
  refine ⟨?_, ⟨t1, p1, cell (by decide) h1⟩, ⟨t2, p2, cell (by decide) h2⟩, ⟨m, cell (by decide) h3⟩, Nat.le_trans h.low hk.size⟩
  have hl := lt_of_tab h.tab
  have ht := h.tab
  unfold Lib.TabIs World.var? at ht ⊢
  rw [tab_global] at ht ⊢
  simp only [Option.bind_eq_bind, Option.bind_some] at ht ⊢
  rw [hk.block 0 hl (fun e => by have := hb _ e; revert this; decide)]
  exact ht
theorem Vars.ext {w w' : World} (h : Vars w) (hx : Ext w w') : Vars w' := h.keep (rb := none) hx.keep (fun b e => by cases e)

/-! ### The reader -/
abbrev TR : TypeId := 53
def ptrV : Option Nat → Value
  | some b => .pointer (some ⟨b, 0, none⟩)
  | none => .pointer none
/-- Block b is a reader with this rest. -/
def RdAt (b : Nat) (rest : Bs) (bad : Bool) (w : World) : Prop := w.heap[b]? = some (.cells #[.string ⟨rest.toArray⟩, .bool bad] TR (0, 0))
theorem RdAt.c0 {b : Nat} {rest : Bs} {bad : Bool} {w : World} (h : RdAt b rest bad w) : w.cell? ⟨b, 0, none⟩ = some (.string ⟨rest.toArray⟩) := by rw [Lib.cell_of_heap h]; rfl
theorem RdAt.c1 {b : Nat} {rest : Bs} {bad : Bool} {w : World} (h : RdAt b rest bad w) : w.cell? ⟨b, 1, none⟩ = some (.bool bad) := by rw [Lib.cell_of_heap h]; rfl
theorem RdAt.f {b : Nat} {rest : Bs} {bad : Bool} {w : World} (h : RdAt b rest bad w) (j : Nat) : w.frozen? ⟨b, j, none⟩ = false := Lib.frozen_of_heap h j
theorem RdAt.lt {b : Nat} {rest : Bs} {bad : Bool} {w : World} (h : RdAt b rest bad w) : b < w.heap.size := (Array.getElem?_eq_some_iff.1 h).1
theorem RdAt.ext {b : Nat} {rest : Bs} {bad : Bool} {w w' : World} (h : RdAt b rest bad w) (hx : Ext w w') : RdAt b rest bad w' := (Below.block hx b h.lt).trans h
theorem RdAt.set1 {b : Nat} {rest : Bs} {bad : Bool} {w : World} (h : RdAt b rest bad w) (x : Bool) : RdAt b rest x (w.setCell ⟨b, 1, none⟩ (.bool x)) := by
  unfold RdAt at *
  simp [World.setCell, Array.getElem?_modify, h]
theorem RdAt.set0 {b : Nat} {rest : Bs} {bad : Bool} {w : World} (h : RdAt b rest bad w) (r : Bs) : RdAt b r bad (w.setCell ⟨b, 0, none⟩ (.string ⟨r.toArray⟩)) := by
  unfold RdAt at *
  simp [World.setCell, Array.getElem?_modify, h]
/-- A reader, nil or not, by what it can still read: none, if it is bad. -/
def RdP (rb : Option Nat) (st : Option Bs) (w : World) : Prop :=
  match rb with
  | some b => RdAt b (st.getD []) st.isNone w ∧ 6 ≤ b
  | none => st = none
theorem RdP.ext {rb : Option Nat} {st : Option Bs} {w w' : World} (h : RdP rb st w) (hx : Ext w w') : RdP rb st w' := by
  cases rb with
  | none => exact h
  | some b => exact ⟨h.1.ext hx, h.2⟩
theorem RdP.low {rb : Option Nat} {st : Option Bs} {w : World} (h : RdP rb st w) : ∀ b, rb = some b → 6 ≤ b := by
  rintro b rfl
  exact h.2

set_option maxRecDepth 100000 in
set_option maxHeartbeats 1000000 in
theorem new_calls (s : Bs) (w : World) (h8 : 6 ≤ w.heap.size) : Calls Tryd.prog 20 #[.string ⟨s.toArray⟩] w fun e w' => e = .returned (ptrV (some w.heap.size)) ∧ RdP (some w.heap.size) (some s) w' ∧ Ext w w' := by
  go_enter Tryd.func20, Tryd.ntmps20
  go_wp2
  go_ret
  exact ⟨rfl, ⟨heap_alloc_new w _, h8⟩, Ext.alloc _ _⟩

set_option maxRecDepth 100000 in
set_option maxHeartbeats 1000000 in
theorem bad_calls (rb : Option Nat) (st : Option Bs) (w : World) (h : RdP rb st w) : Calls Tryd.prog 34 #[ptrV rb] w fun e w' => e = .returned (.bool st.isNone) ∧ w' = w := by
  cases rb with
  | none =>
    have h : st = none := h
    subst h
    unfold ptrV
    go_enter Tryd.func34, Tryd.ntmps34
    go_wp2
    go_ret
    exact ⟨rfl, rfl⟩
  | some b =>
    have c0 := h.1.c1
    generalize st.isNone = bad at c0 ⊢
    unfold ptrV
    clear h
    go_enter Tryd.func34, Tryd.ntmps34
    go_wp2
    go_ret
    exact ⟨rfl, rfl⟩

set_option maxRecDepth 100000 in
set_option maxHeartbeats 1000000 in
theorem remainder_calls (rb : Option Nat) (st : Option Bs) (w : World) (h : RdP rb st w) : Calls Tryd.prog 49 #[ptrV rb] w fun e w' => e = .returned (.string ⟨(st.getD []).toArray⟩) ∧ w' = w := by
  cases rb with
  | none =>
    have h : st = none := h
    subst h
    unfold ptrV
    go_enter Tryd.func49, Tryd.ntmps49
    go_wp2
    go_ret
    exact ⟨rfl, rfl⟩
  | some b =>
    have c0 := h.1.c0
    generalize st.getD [] = rest at c0 ⊢
    unfold ptrV
    clear h
    go_enter Tryd.func49, Tryd.ntmps49
    go_wp2
    go_ret
    exact ⟨rfl, rfl⟩

set_option maxRecDepth 100000 in
set_option maxHeartbeats 1000000 in
theorem left_calls (rb : Option Nat) (st : Option Bs) (w : World) (h : RdP rb st w) : Calls Tryd.prog 32 #[ptrV rb] w fun e w' => e = .returned (.int .i64 ((st.getD []).length : Int)) ∧ w' = w := by
  have hR := remainder_calls rb st w h
  generalize st.getD [] = rest at hR ⊢
  go_enter Tryd.func32, Tryd.ntmps32
  go_wp2_with fail
  refine hR.mono ?_
  rintro e w' ⟨rfl, rfl⟩
  go_wp2
  go_ret
  exact ⟨by simp [ByteArray.size], rfl⟩

set_option maxRecDepth 100000 in
set_option maxHeartbeats 1000000 in
theorem spoil_calls (rb : Option Nat) (st : Option Bs) (w : World) (h : RdP rb st w) : Calls Tryd.prog 45 #[ptrV rb] w fun e w' => (∃ v, e = .returned v) ∧ RdP rb none w' ∧ Keep rb w w' := by
  cases rb with
  | none =>
    unfold ptrV
    go_enter Tryd.func45, Tryd.ntmps45
    go_wp2
    go_end0
    exact ⟨⟨_, rfl⟩, rfl, Keep.refl _ _⟩
  | some b =>
    have c0 := h.1.c0
    have c1 := h.1.c1
    have f0 := h.1.f 0
    have f1 := h.1.f 1
    have H := Lib.hid h
    unfold ptrV
    clear h
    go_enter Tryd.func45, Tryd.ntmps45
    go_wp2
    go_end0
    exact ⟨⟨_, rfl⟩, ⟨(H.out.1.set0 []).set1 true, H.out.2⟩, (Keep.set w 0 _).trans (Keep.set _ 1 _)⟩

set_option maxRecDepth 100000 in
set_option maxHeartbeats 1000000 in
/-- A mark is passed over, if it begins there. -/
theorem skip_calls (rb : Option Nat) (st : Option Bs) (m : UInt8) (w : World) (h : RdP rb st w) : Calls Tryd.prog 55 #[ptrV rb, .string ⟨[m].toArray⟩] w fun e w' =>
    (∃ r, st.getD [] = m :: r ∧ e = .returned (.bool true) ∧ RdP rb (some r) w' ∧ Keep rb w w') ∨ ((∀ r, st.getD [] ≠ m :: r) ∧ e = .returned (.bool false) ∧ w' = w) := by
  have hR := remainder_calls rb st w h
  obtain ⟨rest, hrest⟩ : ∃ rest, rest = st.getD [] := ⟨_, rfl⟩
  rw [← hrest] at hR ⊢
  have hP := Tryd.strings_CutPrefix ⟨rest.toArray⟩ ⟨[m].toArray⟩ w
  dsimp only at hP
  have HR := Lib.hid hrest
  have HP := Lib.hid hP
  have H := Lib.hid h
  clear hrest hP h
  go_enter Tryd.func55, Tryd.ntmps55
  go_wp2_with fail
  refine hR.mono ?_
  rintro e w1 ⟨rfl, rfl⟩
  go_wp2_with fail
  refine HP.out.mono ?_
  rintro e w2 ⟨rfl, rfl⟩
  cases rest with
  | nil =>
    have hb : Lib.hasPrefix [] [m] = false := by simp [Lib.hasPrefix, List.isPrefixOf]
    go_wp2
    go_ret
    exact .inr ⟨by simp, rfl, rfl⟩
  | cons c r =>
    by_cases hc : m = c
    · subst hc
      have hb : Lib.hasPrefix (m :: r) [m] = true := by simp [Lib.hasPrefix, List.isPrefixOf]
      have ht : Lib.trimPrefix (m :: r) [m] = r := by simp [Lib.trimPrefix, hb]
      cases st with
      | none => exact absurd HR.out (by simp)
      | some rr =>
        cases rb with
        | none => exact absurd H.out (by simp [RdP])
        | some b =>
          have c0 := H.out.1.c0
          have f0 := H.out.1.f 0
          unfold ptrV
          go_wp2
          go_ret
          exact .inl ⟨r, rfl, rfl, ⟨H.out.1.set0 r, H.out.2⟩, Keep.set _ 0 _⟩
    · have hb : Lib.hasPrefix (c :: r) [m] = false := by simp [Lib.hasPrefix, List.isPrefixOf, hc]
      go_wp2
      go_ret
      exact .inr ⟨fun r' e => hc (by simp at e; exact e.1.symm), rfl, rfl⟩

end Go.Proofs.YtckhbejgkgpilaaDoor
