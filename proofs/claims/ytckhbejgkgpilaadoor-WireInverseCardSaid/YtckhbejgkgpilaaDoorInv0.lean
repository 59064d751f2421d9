/- What the walk of WireInverse says of its values. -/
import Derived.Test.YtckhbejgkgpilaaDoorValF
import Derived.Maps.AppendAt
import Derived.Deep.MidRow
set_option linter.all false
namespace Go.Proofs.YtckhbejgkgpilaaDoor
open Go Go.RowKit Go.Shelf

/-- A value: its five fields, and what its two slices hold. -/
structure VD where
  c : Nat
  n : Int
  s : Bs
  p : Option Addr
  lz : Nat
  cap : Nat
  q : Option Addr
  lt : Nat
  cap2 : Nat
  zs : List Int
  ts : List Bs
def VD.cells (d : VD) : List Value := [.int .u8 d.c, .int .i64 d.n, .string ⟨d.s.toArray⟩, .slice d.p d.lz d.cap, .slice d.q d.lt d.cap2]
def VD.In (w : World) (d : VD) : Prop := ValIn w d.c d.n d.s d.p d.lz d.cap (.slice d.q d.lt d.cap2) d.zs d.ts
/-- A value that has been cut; its slices lie in blocks of the kind S. -/
structure VD.Cut (S : Nat → Prop) (w : World) (d : VD) : Prop where
  hc : d.c < 256
  hn : I64 d.n
  hs : d.s.length ≤ 100
  hz : SlOf encI S w (.slice d.p d.lz d.cap) d.zs
  hzo : AllOk I64 d.zs
  hzl : d.zs.length ≤ 20
  ht : SlOf encT S w (.slice d.q d.lt d.cap2) d.ts
  hto : AllOk (fun x => x.length ≤ 100) d.ts
  htl : d.ts.length ≤ 20
def VD.ser (d : VD) : Bs := part (d.c % 4) d.n d.s d.zs d.ts
section
variable {S T : Nat → Prop} {w w' : World} {d : VD}
theorem VD.Cut.keep {rb : Option Nat} (h : VD.Cut S w d) (hk : Keep rb w w') (hb : ∀ b, S b → rb ≠ some b) : VD.Cut S w' d :=
  { h with hz := h.hz.keep hk hb, ht := h.ht.keep hk hb }
theorem VD.Cut.ext (h : VD.Cut S w d) (hx : Ext w w') : VD.Cut S w' d := h.keep (rb := none) hx.keep (fun _ _ e => by cases e)
theorem VD.Cut.kind (h : VD.Cut S w d) (hst : ∀ b, S b → b < w.heap.size → T b) : VD.Cut T w d :=
  { h with hz := h.hz.kind hst, ht := h.ht.kind hst }
theorem VD.Cut.ser_le (h : VD.Cut S w d) : d.ser.length ≤ 2422 := by
  have h1 := serInt_le h.hn
  have h2 := serText_le h.hs
  have h3 := serInts_le (k := 20) h.hzo h.hzl
  have h4 := serTexts_le h.hto h.htl
  unfold VD.ser part
  split <;> omega
end
theorem flat_ser_le {S : Nat → Prop} {w : World} : ∀ {ds : List VD}, (∀ d ∈ ds, VD.Cut S w d) → (ds.flatMap VD.ser).length ≤ ds.length * 2422
  | [], _ => by simp
  | d :: ds, h => by
    have h1 := (h d (by simp)).ser_le
    have h2 := flat_ser_le (ds := ds) (fun x hx => h x (by simp [hx]))
    simp only [List.flatMap_cons, List.length_append, List.length_cons]
    omega
theorem cells_length (d : VD) : d.cells.length = 5 := rfl
theorem flat_cells_length : ∀ ds : List VD, (ds.flatMap VD.cells).length = ds.length * 5
  | [] => rfl
  | d :: ds => by simp [flat_cells_length ds, cells_length]; omega
theorem flat_cells_at : ∀ (ds : List VD) (k : Nat) (d : VD) (j : Nat) (u : Value), ds[k]? = some d → d.cells[j]? = some u → (ds.flatMap VD.cells)[k * 5 + j]? = some u
  | [], k, _, _, _, h, _ => by simp at h
  | e :: ds, 0, d, j, u, h, hj => by
    simp at h; subst h
    have hlt : j < e.cells.length := (List.getElem?_eq_some_iff.1 hj).1
    simp only [List.flatMap_cons, Nat.zero_mul, Nat.zero_add]
    rw [List.getElem?_append_left hlt, hj]
  | e :: ds, k + 1, d, j, u, h, hj => by
    have := flat_cells_at ds k d j u (by simpa using h) hj
    simp only [List.flatMap_cons]
    rw [List.getElem?_append_right (by rw [cells_length]; omega), cells_length, ← this]
    congr 1
    omega
/-- The cells of a slice of values, in a block of the kind S. -/
def VRow (S : Nat → Prop) (w : World) (v : Value) (ds : List VD) : Prop :=
  ∃ p cap, v = .slice p ds.length cap ∧ ds.length ≤ cap ∧ ds.length ≤ maxLen ∧ (0 < ds.length → ∃ b off, p = some ⟨b, off, none⟩ ∧ S b ∧ b < w.heap.size ∧ ∀ k d, ds[k]? = some d → w.rangeAt b (off + k * 5) d.cells)
theorem VRow.keep {S : Nat → Prop} {w w' : World} {v : Value} {ds : List VD} {rb : Option Nat} (h : VRow S w v ds) (hk : Keep rb w w') (hb : ∀ b, S b → rb ≠ some b) : VRow S w' v ds := by
  obtain ⟨p, cap, rfl, hl, hm, hc⟩ := h
  refine ⟨p, cap, rfl, hl, hm, fun h0 => ?_⟩
  obtain ⟨b, off, rfl, hS, hlt, hc⟩ := hc h0
  exact ⟨b, off, rfl, hS, Nat.lt_of_lt_of_le hlt hk.size, fun k d hd j u hj => (World.cell?_of_block (w := w) (a := ⟨b, off + k * 5 + j, none⟩) (hk.block b hlt (hb b hS))).trans (hc k d hd j u hj)⟩
theorem grown_keep {w w' : World} {row : Option Nat} (h : w.grownBy w' row) : Keep row w w' := ⟨h.os, h.tape, h.output, h.size, fun k hk hne => h.block k hk (fun e => hne e.symm)⟩
theorem own_keep {w w' : World} {base : Nat} {e : TypeId} {size : Nat} {v : Value} {n : Nat} {xs : List Value} {rb : Option Nat} (h : w.ownsRow base e size v n xs) (hk : Keep rb w w') (hb : ∀ b, rb = some b → v.ownBlock ≠ some b) : w'.ownsRow base e size v n xs := by
  refine World.ownsRow.kept (row := rb) h ⟨hk.os, hk.tape, hk.output, hk.size, fun k hk1 hk2 => hk.block k hk1 (fun e => hk2 e.symm)⟩ ?_
  rcases hv : v.ownBlock with _ | k
  · exact .inl rfl
  · exact .inr (fun e => hb k e.symm (hv ▸ rfl))
theorem own_vrow {w : World} {base : Nat} {v : Value} {ds : List VD} (h : w.ownsRow base 45 5 v ds.length (ds.flatMap VD.cells)) (hm : ds.length ≤ maxLen) : VRow (fun b => b < w.heap.size) w v ds := by
  obtain ⟨hl, ⟨rfl, h0⟩ | ⟨g, cap, cur, rfl, hb, hc, hn, hcm, hcs, hx⟩⟩ := id h
  · exact ⟨none, 0, by rw [h0], by omega, hm, fun h1 => by omega⟩
  · refine ⟨some ⟨g, 0, none⟩, cap, rfl, hn, hm, fun _ => ⟨g, 0, rfl, (Array.getElem?_eq_some_iff.1 hc).1, (Array.getElem?_eq_some_iff.1 hc).1, fun k d hd j u hj => ?_⟩⟩
    have hk : k < ds.length := (List.getElem?_eq_some_iff.1 hd).1
    have hj5 : j < 5 := (List.getElem?_eq_some_iff.1 hj).1
    rw [Nat.zero_add, World.ownsRow.cellAt h (k * 5 + j) (by omega)]
    exact flat_cells_at ds k d j u hd hj

/-- What the drawn operations on a value hold. -/
def invF (g : Nat) (d : VD) (S : Bs) : Nat → Value → World → Prop
  | 0, v, _ => v = .string ⟨S.toArray⟩
  | 1, v, _ => v = .pointer (some ⟨g, 1, none⟩)
  | 2, v, _ => v = .int .i64 d.n
  | 3, v, _ => v = .string ⟨(serInt d.n).toArray⟩
  | 4, v, _ => v = .pointer (some ⟨g, 2, none⟩)
  | 5, v, _ => v = .string ⟨d.s.toArray⟩
  | 6, v, _ => v = .string ⟨(serText d.s).toArray⟩
  | 7, v, _ => v = .pointer (some ⟨g, 3, none⟩)
  | 8, v, _ => v = .slice d.p d.lz d.cap
  | 9, v, _ => v = .string ⟨(serL serInt d.zs).toArray⟩
  | 10, v, _ => v = .pointer (some ⟨g, 4, none⟩)
  | 11, v, _ => v = .slice d.q d.lt d.cap2
  | 12, v, _ => v = .string ⟨(serL serText d.ts).toArray⟩
  | 13, v, W => ∃ G, v = .slice (some ⟨G, 0, none⟩) 4 4 ∧ W.heap[G]? = some (.cells (parts d.n d.s d.zs d.ts) 9 (0, 0))
  | 14, v, _ => v = .pointer (some ⟨g, 0, none⟩)
  | 15, v, _ => v = .int .u8 d.c
  | 16, v, _ => v = .int .u8 ((d.c % 4 : Nat) : Int)
  | 17, v, W => ∃ G, v = .pointer (some ⟨G, d.c % 4, none⟩) ∧ W.heap[G]? = some (.cells (parts d.n d.s d.zs d.ts) 9 (0, 0))
  | 18, v, _ => v = .string ⟨d.ser.toArray⟩
  | 19, v, _ => v = .string ⟨(S ++ d.ser).toArray⟩
  | 20, v, _ => v = .string ⟨(S ++ d.ser).toArray⟩
  | _, _, _ => True
theorem invF_mono {g : Nat} {d : VD} {S : Bs} {W W' : World} (hx : Ext W W') : ∀ {k : Nat} {v : Value}, invF g d S k v W → invF g d S k v W'
  | 0, _, h => h
  | 1, _, h => h
  | 2, _, h => h
  | 3, _, h => h
  | 4, _, h => h
  | 5, _, h => h
  | 6, _, h => h
  | 7, _, h => h
  | 8, _, h => h
  | 9, _, h => h
  | 10, _, h => h
  | 11, _, h => h
  | 12, _, h => h
  | 13, _, ⟨G, h1, h2⟩ => ⟨G, h1, (Below.block hx G (Array.getElem?_eq_some_iff.1 h2).1).trans h2⟩
  | 14, _, h => h
  | 15, _, h => h
  | 16, _, h => h
  | 17, _, ⟨G, h1, h2⟩ => ⟨G, h1, (Below.block hx G (Array.getElem?_eq_some_iff.1 h2).1).trans h2⟩
  | 18, _, h => h
  | 19, _, h => h
  | 20, _, h => h
  | _ + 21, _, _ => trivial
/-- What the string's slot holds until the first operation has come up. -/
def Held (S : Bs) (D : Nat → Prop) (vs : Nat → Value) : Prop := D 0 ∨ (¬ D 19 ∧ vs 20 = .string ⟨S.toArray⟩)
theorem Held.other {S : Bs} {D : Nat → Prop} {vs : Nat → Value} (h : Held S D vs) {i : Nat} (h19 : i ≠ 19) (h20 : i ≠ 20) (v : Value) : Held S (fun j => j = i ∨ D j) (upd vs i v) := by
  rcases h with h | ⟨h1, h2⟩
  · exact .inl (.inr h)
  · refine .inr ⟨fun e => e.elim (fun e => h19 e.symm) h1, ?_⟩
    unfold upd
    rw [if_neg (fun e => h20 e.symm)]; exact h2
theorem Held.last {S : Bs} {D : Nat → Prop} {vs : Nat → Value} (h : D 0) (i : Nat) (v : Value) : Held S (fun j => j = i ∨ D j) (upd vs i v) := .inl (.inr h)

end Go.Proofs.YtckhbejgkgpilaaDoor
