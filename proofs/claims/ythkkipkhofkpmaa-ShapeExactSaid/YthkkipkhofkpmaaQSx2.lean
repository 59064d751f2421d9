import Derived.Test.YthkkipkhofkpmaaQSx1
import Derived.Laws.CopyRow
import Derived.Laws.Build
import Derived.Laws.StructEq
import Derived.ChangeKeysEq
set_option linter.all false
namespace Go.Proofs.Ythkkipkhofkpmaa.Sx
open Go Go.RowKit
structure Blk where
  ty : TypeId
  cells : List C
def opqTy : Nat := 4294967295
def Blk.isOpq (b : Blk) : Bool := Nat.beq b.ty opqTy
def openTy : Nat := 8589934592
def opn (t : TypeId) : Bool := Nat.ble openTy t
def rty (t : TypeId) : TypeId := (t - openTy) / 4096
def szO (t : TypeId) : Nat := (t - openTy) % 4096
def oty (e : TypeId) (n : Nat) : TypeId := openTy + (e * 4096 + n)
def isNil : List C → Bool
  | [] => true
  | _ => false
def Blk.dead (b : Blk) : Bool := opn b.ty && isNil b.cells
def Blk.live (b : Blk) : Bool := !b.isOpq && !b.dead
def Blk.row (b : Blk) : List C := match opn b.ty with
  | true => b.cells.drop 1
  | false => b.cells
def Blk.back (b : Blk) (l : List C) : List C := match opn b.ty, b.cells with
  | true, c :: _ => c :: l
  | _, _ => l
def C.num (I : Interp) (ρ : Env) : C → Int
  | .int _ t => t.den I ρ
  | _ => 0
def numsOf (I : Interp) (ρ : Env) (cs : List C) : List Int := cs.map (C.num I ρ)
structure S where
  blks : List (Nat × Blk)
  nb : Nat
  known : Known
def findIn : List (Nat × Blk) → Nat → Option Blk
  | [], _ => none
  | p :: r, id => bif Nat.beq p.1 id then some p.2 else findIn r id
def S.find (s : S) (id : Nat) : Option Blk := match findIn s.blks id with
  | some b => bif b.live then some b else none
  | none => none
theorem findIn_mem : ∀ {l : List (Nat × Blk)} {id : Nat} {b : Blk}, findIn l id = some b → (id, b) ∈ l
  | p :: r, id, b, h => by
    unfold findIn at h
    cases hb : Nat.beq p.1 id with
    | true =>
      rw [hb] at h
      simp only [cond_true, Option.some.injEq] at h
      have := Nat.eq_of_beq_eq_true hb
      subst h this
      exact .head _
    | false => rw [hb] at h; exact .tail _ (findIn_mem h)
theorem find_mem {s : S} {id : Nat} {b : Blk} (h : s.find id = some b) : (id, b) ∈ s.blks ∧ b.live = true := by
  unfold S.find at h
  split at h
  · rename_i b' hb
    cases ho : b'.live with
    | false => rw [ho] at h; cases h
    | true => rw [ho] at h; injection h with h; subst h; exact ⟨findIn_mem hb, ho⟩
  · cases h
theorem Blk.live_opq {b : Blk} (h : b.live = true) : b.isOpq = false := by unfold Blk.live at h; simp only [Bool.and_eq_true, Bool.not_eq_true'] at h; exact h.1
theorem Blk.live_dead {b : Blk} (h : b.live = true) : b.dead = false := by unfold Blk.live at h; simp only [Bool.and_eq_true, Bool.not_eq_true'] at h; exact h.2
theorem Blk.live_of {b : Blk} (h : b.isOpq = false) (k : b.dead = false) : b.live = true := by unfold Blk.live; rw [h, k]; rfl
theorem opn_opq {t : TypeId} (h : opn t = true) : Nat.beq t opqTy = false := by
  cases hb : Nat.beq t opqTy with
  | false => rfl
  | true => have := Nat.eq_of_beq_eq_true hb; subst this; cases h
def setAt (cs : List C) (off : Nat) (vs : List C) : List C := cs.take off ++ vs ++ cs.drop (off + vs.length)
def putIn : List (Nat × Blk) → Nat → List C → List (Nat × Blk)
  | [], _, _ => []
  | p :: r, id, cs => bif Nat.beq p.1 id then (p.1, ⟨p.2.ty, cs⟩) :: putIn r id cs else p :: putIn r id cs
theorem mem_putIn : ∀ {l : List (Nat × Blk)} {id : Nat} {cs : List C} {q : Nat × Blk}, q ∈ putIn l id cs → (q.1 = id ∧ q.2.cells = cs ∧ ∃ b, (id, b) ∈ l ∧ b.ty = q.2.ty) ∨ (q.1 ≠ id ∧ q ∈ l)
  | p :: r, id, cs, q, h => by
    unfold putIn at h
    cases hb : Nat.beq p.1 id with
    | true =>
      rw [hb] at h
      simp only [cond_true, List.mem_cons] at h
      have e := Nat.eq_of_beq_eq_true hb
      rcases h with h | h
      · subst h; exact .inl ⟨e, rfl, p.2, by subst e; exact .head _, rfl⟩
      · rcases mem_putIn h with ⟨h1, h2, b, h3, h4⟩ | ⟨h1, h2⟩
        · exact .inl ⟨h1, h2, b, .tail _ h3, h4⟩
        · exact .inr ⟨h1, .tail _ h2⟩
    | false =>
      rw [hb] at h
      simp only [cond_false, List.mem_cons] at h
      rcases h with h | h
      · subst h; exact .inr ⟨fun e => by rw [e] at hb; simp at hb, .head _⟩
      · rcases mem_putIn h with ⟨h1, h2, b, h3, h4⟩ | ⟨h1, h2⟩
        · exact .inl ⟨h1, h2, b, .tail _ h3, h4⟩
        · exact .inr ⟨h1, .tail _ h2⟩
def S.put (s : S) (id : Nat) (cs : List C) : S := ⟨putIn s.blks id cs, s.nb, s.known⟩
def S.alloc (s : S) (ty : TypeId) (cs : List C) : S := ⟨(s.nb, ⟨ty, cs⟩) :: s.blks, s.nb + 1, s.known⟩
def S.assume (s : S) (b : B) (v : Bool) : S := ⟨s.blks, s.nb, s.known.add b v⟩
section
variable {α : Type}
def putInK : List (Nat × Blk) → Nat → List C → (List (Nat × Blk) → α) → α
  | [], _, _, k => k []
  | p :: r, id, cs, k => bif Nat.beq p.1 id then putInK r id cs fun r => k ((p.1, ⟨p.2.ty, cs⟩) :: r) else putInK r id cs fun r => k (p :: r)
theorem putInK_eq (l : List (Nat × Blk)) (id : Nat) (cs : List C) : ∀ k : List (Nat × Blk) → α, putInK l id cs k = k (putIn l id cs) := by
  induction l with
  | nil => intro k; rfl
  | cons p r ih => intro k; simp only [putInK, putIn, ih]; cases Nat.beq p.1 id <;> rfl
def S.putK (s : S) (id : Nat) (cs : List C) (k : S → α) : α := match s with
  | ⟨b, n, kn⟩ => csF cs fun cs => putInK b id cs fun b => k ⟨b, n, kn⟩
theorem S.putK_eq (s : S) (id : Nat) (cs : List C) (k : S → α) : s.putK id cs k = k (s.put id cs) := by obtain ⟨b, n, kn⟩ := s; simp [S.putK, S.put, csF_eq, putInK_eq]
def S.allocK (s : S) (ty : TypeId) (cs : List C) (k : S → α) : α := match s with
  | ⟨b, n, kn⟩ => natF n fun n => csF cs fun cs => natF ty fun ty => k ⟨(n, ⟨ty, cs⟩) :: b, n + 1, kn⟩
theorem S.allocK_eq (s : S) (ty : TypeId) (cs : List C) (k : S → α) : s.allocK ty cs k = k (s.alloc ty cs) := by obtain ⟨b, n, kn⟩ := s; simp [S.allocK, S.alloc, csF_eq, natF_eq]
def factsF : List (B × Bool) → (List (B × Bool) → α) → α
  | [], k => k []
  | (b, v) :: r, k => b.force fun b => boolF v fun v => factsF r fun r => k ((b, v) :: r)
theorem factsF_eq (l : List (B × Bool)) : ∀ k : List (B × Bool) → α, factsF l k = k l := by
  induction l with
  | nil => intro k; rfl
  | cons p r ih => intro k; obtain ⟨b, v⟩ := p; simp [factsF, B.force_eq, boolF_eq, ih]
def S.assumeK (s : S) (b : B) (v : Bool) (k : S → α) : α := match s with
  | ⟨l, n, ⟨f, d, m⟩⟩ => factsF (addFact f b v) fun f => k ⟨l, n, ⟨f, d, m⟩⟩
theorem S.assumeK_eq (s : S) (b : B) (v : Bool) (k : S → α) : s.assumeK b v k = k (s.assume b v) := by obtain ⟨l, n, f, d, m⟩ := s; simp [S.assumeK, S.assume, Known.add, factsF_eq]
end
structure Keeps (X : Nat → Prop) (w0 w : World) : Prop where
  os : w.os = w0.os
  tape : w.tape = w0.tape
  output : w.output = w0.output
  size : w0.heap.size ≤ w.heap.size
  block : ∀ g, g < w0.heap.size → ¬ X g → w.heap[g]? = w0.heap[g]?
theorem Keeps.refl (X : Nat → Prop) (w : World) : Keeps X w w := ⟨rfl, rfl, rfl, Nat.le_refl _, fun _ _ _ => rfl⟩
theorem Keeps.trans {X : Nat → Prop} {a b c : World} (h : Keeps X a b) (k : Keeps X b c) : Keeps X a c :=
  ⟨k.os.trans h.os, k.tape.trans h.tape, k.output.trans h.output, Nat.le_trans h.size k.size, fun g hg hx => (k.block g (Nat.lt_of_lt_of_le hg h.size) hx).trans (h.block g hg hx)⟩
theorem Keeps.below {w w' : World} (h : Keeps (fun _ => False) w w') : Below w.heap.size w w' := ⟨h.os, h.tape, h.output, h.size, fun k hk => h.block k hk id⟩
def Hyp (I : Interp) (w0 : World) (X : Nat → Prop) : Prop := ∀ p ∈ I.fixed, w0.heap[p.1]? = some p.2 ∧ ¬ X p.1
def NoDig (l : List Value) : Prop := ∀ v ∈ l, ∀ d, v ≠ .int .u32 d
def OpenRow (I : Interp) (ρ : Env) (β : Nat → Nat) (w : World) (id : Nat) (ty : TypeId) : List C → Prop
  | .yld cid :: cs => ∃ a : Array Value, w.heap[β id]? = some (.cells a (rty ty) (0, 0)) ∧ a.size = β cid * szO ty ∧ a.toList.take cs.length = cs.map (C.den I ρ β) ∧ cs.length ≤ a.size ∧ NoDig (a.toList.drop cs.length) ∧ 0 < szO ty
  | [] => True
  | _ => False
def RowP (I : Interp) (ρ : Env) (β : Nat → Nat) (w : World) (id : Nat) (b : Blk) : Prop := match opn b.ty with
  | true => OpenRow I ρ β w id b.ty b.cells
  | false => w.heap[β id]? = some (.cells (cellsOf I ρ β b.cells) b.ty (0, 0))
section
variable {I : Interp} {ρ : Env} {β β' : Nat → Nat} {w w' : World} {id n : Nat} {b : Blk}
theorem RowP.closed (h : opn b.ty = false) : RowP I ρ β w id b ↔ w.heap[β id]? = some (.cells (cellsOf I ρ β b.cells) b.ty (0, 0)) := by unfold RowP; rw [h]
theorem OpenRow.ex {ty : TypeId} {cs : List C} (h : OpenRow I ρ β w id ty cs) : cs = [] ∨ ∃ cid r, cs = .yld cid :: r := by
  unfold OpenRow at h
  split at h
  · exact .inr ⟨_, _, rfl⟩
  · exact .inl rfl
  · exact h.elim
theorem RowP.heap (hw : w'.heap[β id]? = w.heap[β id]?) (h : RowP I ρ β w id b) : RowP I ρ β w' id b := by
  unfold RowP at *
  cases ho : opn b.ty with
  | false => rw [ho] at h; simp only at h ⊢; rw [hw]; exact h
  | true =>
    rw [ho] at h
    simp only at h ⊢
    rcases h.ex with e | ⟨cid, r, e⟩
    · rw [e]; trivial
    · rw [e] at h ⊢; obtain ⟨a, h1, h2⟩ := h; exact ⟨a, hw.trans h1, h2⟩
theorem RowP.agree (hid : β' id = β id) (hc : ∀ c ∈ b.cells, c.wf n = true) (hβ : ∀ k, k < n → β' k = β k) (h : RowP I ρ β w id b) : RowP I ρ β' w id b := by
  unfold RowP at *
  cases ho : opn b.ty with
  | false => rw [ho] at h; simp only at h ⊢; rw [hid, cellsOf_agree hc hβ]; exact h
  | true =>
    rw [ho] at h
    simp only at h ⊢
    rcases h.ex with e | ⟨cid, r, e⟩
    · rw [e]; trivial
    · rw [e] at h hc ⊢
      obtain ⟨a, h1, h2, h3, h4⟩ := h
      have hy : cid < n := by simpa [C.wf] using hc (.yld cid) (.head _)
      exact ⟨a, by rw [hid]; exact h1, by rw [hβ _ hy]; exact h2, h3.trans (List.map_congr_left fun c hm => (C.den_agree (hc c (.tail _ hm)) hβ).symm), h4⟩
theorem RowP.lt (h : RowP I ρ β w id b) (hd : b.dead = false) : β id < w.heap.size := by
  unfold RowP at h
  cases ho : opn b.ty with
  | false => rw [ho] at h; exact (Array.getElem?_eq_some_iff.1 h).1
  | true =>
    rw [ho] at h
    simp only at h
    rcases h.ex with e | ⟨cid, r, e⟩
    · unfold Blk.dead at hd; rw [ho, e] at hd; cases hd
    · rw [e] at h; obtain ⟨a, h1, -⟩ := h; exact (Array.getElem?_eq_some_iff.1 h1).1
theorem RowP.at_ (h : RowP I ρ β w id b) (hd : b.dead = false) : ∃ a t, w.heap[β id]? = some (.cells a t (0, 0)) ∧ a.toList.take b.row.length = b.row.map (C.den I ρ β) ∧ b.row.length ≤ a.size ∧ NoDig (a.toList.drop b.row.length) := by
  unfold RowP at h
  unfold Blk.row
  cases ho : opn b.ty with
  | false =>
    rw [ho] at h
    refine ⟨_, _, h, ?_, ?_, ?_⟩
    · simp only [cellsOf]; rw [List.take_of_length_le (by simp)]
    · simp [cellsOf]
    · intro v hv; simp only [cellsOf] at hv; rw [List.drop_of_length_le (by simp)] at hv; cases hv
  | true =>
    rw [ho] at h
    simp only at h
    rcases h.ex with e | ⟨cid, r, e⟩
    · unfold Blk.dead at hd; rw [ho, e] at hd; cases hd
    · rw [e] at h
      obtain ⟨a, h1, h2, h3, h4, h5, -⟩ := h
      refine ⟨a, _, h1, ?_⟩
      rw [e]
      exact ⟨h3, h4, h5⟩
theorem RowP.cell (h : RowP I ρ β w id b) (hd : b.dead = false) {k : Nat} {c : C} (hc : b.row[k]? = some c) : w.cell? ⟨β id, k, none⟩ = some (c.den I ρ β) := by
  obtain ⟨a, t, h1, h2, h3, -⟩ := h.at_ hd
  rw [cell_of_row w (β id) k a t (0, 0) h1]
  have hk := (List.getElem?_eq_some_iff.1 hc).1
  have : (a.toList.take b.row.length)[k]? = a.toList[k]? := List.getElem?_take_of_lt hk
  rw [h2, List.getElem?_map, hc] at this
  simpa using this.symm
theorem RowP.dig (h : RowP I ρ β w id b) (hd : b.dead = false) {k : Nat} {d : Int} (hc : w.cell? ⟨β id, k, none⟩ = some (.int .u32 d)) : ∃ c ∈ b.row, c.den I ρ β = .int .u32 d := by
  obtain ⟨a, t, h1, h2, h3, h4⟩ := h.at_ hd
  rw [cell_of_row w (β id) k a t (0, 0) h1] at hc
  by_cases hk : k < b.row.length
  · have : (a.toList.take b.row.length)[k]? = a.toList[k]? := List.getElem?_take_of_lt hk
    rw [h2, List.getElem?_map, List.getElem?_eq_getElem hk] at this
    refine ⟨b.row[k], List.getElem_mem hk, ?_⟩
    rw [Array.getElem?_toList, hc] at this
    simpa using this
  · exfalso
    refine h4 (.int .u32 d) ?_ d rfl
    have : (a.toList.drop b.row.length)[k - b.row.length]? = some (.int .u32 d) := by
      rw [List.getElem?_drop, show b.row.length + (k - b.row.length) = k by omega, Array.getElem?_toList]
      exact hc
    exact List.mem_of_getElem? this
theorem Blk.row_sub {b : Blk} : ∀ c ∈ b.row, c ∈ b.cells := by
  intro c hc
  unfold Blk.row at hc
  split at hc
  · exact List.mem_of_mem_drop hc
  · exact hc
theorem RowP.fix (L : List (Nat × Obj)) : RowP (I.fix L) ρ β w id b ↔ RowP I ρ β w id b := by
  unfold RowP
  split
  · unfold OpenRow
    split
    · have : C.den (I.fix L) ρ β = C.den I ρ β := funext (C.den_fix L)
      rw [this]
    · exact Iff.rfl
    · exact Iff.rfl
  · rw [cellsOf_fix]
end
structure WR (I : Interp) (ρ : Env) (w0 : World) (X : Nat → Prop) (n0 : Nat) (β0 β : Nat → Nat) (s : S) (w : World) : Prop where
  row : ∀ p ∈ s.blks, p.2.live = true → RowP I ρ β w p.1 p.2
  inj : ∀ p ∈ s.blks, p.2.live = true → ∀ q ∈ s.blks, q.2.live = true → β p.1 = β q.1 → p.1 = q.1
  idlt : ∀ p ∈ s.blks, p.1 < s.nb
  cwf : ∀ p ∈ s.blks, ∀ c ∈ p.2.cells, c.wf s.nb = true
  own : ∀ p ∈ s.blks, p.2.live = true → X (β p.1) ∨ w0.heap.size ≤ β p.1
  held : ∀ p ∈ s.blks, p.2.isOpq = true → I.opq.held w (I.opq.dec (β p.1)) (numsOf I ρ p.2.cells) ∧ ∀ q ∈ s.blks, q.2.live = true → I.opq.blk (I.opq.dec (β p.1)) ≠ some (β q.1)
  uniq : ∀ p ∈ s.blks, ∀ q ∈ s.blks, p.1 = q.1 → p.2 = q.2
  known : s.known.Ok I ρ
  n0le : n0 ≤ s.nb
  agr : ∀ id, id < n0 → β id = β0 id
  keeps : Keeps X w0 w
  hyp : Hyp I w0 X
section
variable {I : Interp} {ρ : Env} {w0 w w' : World} {X : Nat → Prop} {n0 : Nat} {β0 β : Nat → Nat} {s : S}
theorem WR.lt (h : WR I ρ w0 X n0 β0 β s w) {p : Nat × Blk} (hp : p ∈ s.blks) (ho : p.2.live = true) : β p.1 < w.heap.size := (h.row p hp ho).lt (Blk.live_dead ho)
theorem WR.alike (h : WR I ρ w0 X n0 β0 β s w) (hh : w'.heap = w.heap) (ho : w'.os = w.os) (ht : w'.tape = w.tape) (hp : w'.output = w.output) : WR I ρ w0 X n0 β0 β s w' :=
  ⟨fun p hp ho => (h.row p hp ho).heap (by rw [hh]), h.inj, h.idlt, h.cwf, h.own, fun p hp ho => ⟨I.opq.keep w w' _ _ (h.held p hp ho).1 (fun g _ => by rw [hh]), (h.held p hp ho).2⟩, h.uniq, h.known, h.n0le, h.agr,
    ⟨ho.trans h.keeps.os, ht.trans h.keeps.tape, hp.trans h.keeps.output, by rw [hh]; exact h.keeps.size, fun g hg hx => by rw [hh]; exact h.keeps.block g hg hx⟩, h.hyp⟩
theorem WR.drew (h : WR I ρ w0 X n0 β0 β s w) : WR I ρ w0 X n0 β0 β s { w with drawn := w.drawn + 1 } := h.alike rfl rfl rfl rfl
theorem WR.assume (h : WR I ρ w0 X n0 β0 β s w) {b : B} {v : Bool} (hb : b.den I ρ = v) : WR I ρ w0 X n0 β0 β (s.assume b v) w :=
  ⟨h.row, h.inj, h.idlt, h.cwf, h.own, h.held, h.uniq, ⟨addFact_ok h.known.facts hb, h.known.draws, h.known.n64⟩, h.n0le, h.agr, h.keeps, h.hyp⟩
theorem Known.ok_fix (L : List (Nat × Obj)) {k : Known} : k.Ok (I.fix L) ρ ↔ k.Ok I ρ :=
  ⟨fun h => ⟨fun p hp => (B.den_fix L p.1).symm.trans (h.facts p hp), h.draws, h.n64⟩, fun h => ⟨fun p hp => (B.den_fix L p.1).trans (h.facts p hp), h.draws, h.n64⟩⟩
theorem numsOf_fix (L : List (Nat × Obj)) (cs : List C) : numsOf (I.fix L) ρ cs = numsOf I ρ cs := by
  unfold numsOf
  refine List.map_congr_left fun c _ => ?_
  cases c <;> simp only [C.num, T.den_fix]
theorem WR.fix {L : List (Nat × Obj)} (h : WR I ρ w0 X n0 β0 β s w) (hL : Hyp (I.fix L) w0 X) : WR (I.fix L) ρ w0 X n0 β0 β s w :=
  ⟨fun p hp ho => (RowP.fix L).2 (h.row p hp ho), h.inj, h.idlt, h.cwf, h.own, fun p hp ho => by rw [numsOf_fix]; exact h.held p hp ho, h.uniq, (Known.ok_fix L).2 h.known, h.n0le, h.agr, h.keeps, hL⟩
theorem WR.unfix {L : List (Nat × Obj)} (h : WR (I.fix L) ρ w0 X n0 β0 β s w) (hL : Hyp I w0 X) : WR I ρ w0 X n0 β0 β s w :=
  ⟨fun p hp ho => (RowP.fix L).1 (h.row p hp ho), h.inj, h.idlt, h.cwf, h.own, fun p hp ho => by have := h.held p hp ho; rw [numsOf_fix] at this; exact this, h.uniq, (Known.ok_fix L).1 h.known, h.n0le, h.agr, h.keeps, hL⟩
theorem WR.same (h : WR I ρ w0 X n0 β0 β s w) {id : Nat} {b b' : Blk} (hb : (id, b) ∈ s.blks) (hb' : (id, b') ∈ s.blks) : b' = b := h.uniq _ hb' _ hb rfl
theorem WR.putR (h : WR I ρ w0 X n0 β0 β s w) {id : Nat} {b : Blk} (hb : (id, b) ∈ s.blks) (hl : b.live = true) {cs : List C} (hwf : ∀ c ∈ cs, c.wf s.nb = true) {w' : World}
    (hr : RowP I ρ β w' id ⟨b.ty, cs⟩) (hk : Keeps (fun g => g = β id) w w') : WR I ρ w0 X n0 β0 β (s.put id cs) w' := by
  have lv : ∀ {q : Nat × Blk}, q ∈ (s.put id cs).blks → q.2.live = true → ∃ b, (q.1, b) ∈ s.blks ∧ b.live = true := fun {q} hq hqo => by
    rcases mem_putIn hq with ⟨h1, h2, b', h3, h4⟩ | ⟨h1, h2⟩
    · exact ⟨b, h1 ▸ hb, hl⟩
    · exact ⟨q.2, h2, hqo⟩
  have oth : ∀ q ∈ s.blks, q.1 ≠ id → q.2.live = true → w'.heap[β q.1]? = w.heap[β q.1]? := fun q hq hne hqo => hk.block _ (h.lt hq hqo) (fun e => hne (h.inj q hq hqo _ hb hl e))
  refine ⟨?_, ?_, ?_, ?_, ?_, ?_, ?_, h.known, h.n0le, h.agr, ?_, h.hyp⟩
  · intro q hq hqo
    rcases mem_putIn hq with ⟨h1, h2, b', h3, h4⟩ | ⟨h1, h2⟩
    · have := h.same hb h3
      subst this
      have e : q.2 = ⟨b'.ty, cs⟩ := by obtain ⟨a, ty, c⟩ := q; simp only at h2 h4; rw [h2, h4]
      rw [h1, e]
      exact hr
    · exact (h.row q h2 hqo).heap (oth q h2 h1 hqo)
  · intro p hp hpo q hq hqo
    obtain ⟨b1, hb1, o1⟩ := lv hp hpo
    obtain ⟨b2, hb2, o2⟩ := lv hq hqo
    exact h.inj (p.1, b1) hb1 o1 (q.1, b2) hb2 o2
  · intro q hq
    rcases mem_putIn hq with ⟨h1, h2, b', h3, h4⟩ | ⟨h1, h2⟩
    · have := h.idlt _ h3; show q.1 < s.nb; rw [h1]; exact this
    · exact h.idlt _ h2
  · intro q hq c hc
    rcases mem_putIn hq with ⟨h1, h2, b', h3, h4⟩ | ⟨h1, h2⟩
    · rw [h2] at hc; exact hwf c hc
    · exact h.cwf _ h2 c hc
  · intro q hq hqo
    obtain ⟨b1, hb1, o1⟩ := lv hq hqo
    exact h.own (q.1, b1) hb1 o1
  · intro q hq hqo
    rcases mem_putIn hq with ⟨h1, h2, b', h3, h4⟩ | ⟨h1, h2⟩
    · have := h.same hb h3
      subst this
      have := Blk.live_opq hl
      unfold Blk.isOpq at hqo this
      rw [← h4, this] at hqo
      cases hqo
    · obtain ⟨a1, a2⟩ := h.held q h2 hqo
      refine ⟨I.opq.keep w _ _ _ a1 (fun g hg => hk.block g (I.opq.lt w _ _ a1 g hg) (fun e => a2 _ hb hl (by rw [hg, e]))), fun r hr hro => ?_⟩
      obtain ⟨b1, hb1, o1⟩ := lv hr hro
      exact a2 (r.1, b1) hb1 o1
  · intro q hq r hr e
    rcases mem_putIn hq with ⟨h1, h2, b', h3, h4⟩ | ⟨h1, h2⟩ <;> rcases mem_putIn hr with ⟨k1, k2, b2, k3, k4⟩ | ⟨k1, k2⟩
    · have e1 := h.same hb h3
      have e2 := h.same hb k3
      obtain ⟨a, ty, c⟩ := q
      obtain ⟨a2, ty2, c2⟩ := r
      simp only at h2 h4 k2 k4
      rw [h2, k2, ← h4, ← k4, e1, e2]
    · exact absurd (e ▸ h1) k1
    · exact absurd (e ▸ k1) h1
    · exact h.uniq q h2 r k2 e
  · refine ⟨hk.os.trans h.keeps.os, hk.tape.trans h.keeps.tape, hk.output.trans h.keeps.output, Nat.le_trans h.keeps.size hk.size, fun g hg hx => ?_⟩
    rw [hk.block g (Nat.lt_of_lt_of_le hg h.keeps.size) (fun e => ?_)]
    · exact h.keeps.block g hg hx
    · subst e
      rcases h.own _ hb hl with h1 | h1
      · exact hx h1
      · simp only at h1; omega
theorem Keeps.setRow (w : World) (g : Nat) (cs : Array Value) : Keeps (fun k => k = g) w (w.setRow g cs) := ⟨rfl, rfl, rfl, by simp, fun k _ hk => setRow_other w g k cs hk⟩
theorem WR.put (h : WR I ρ w0 X n0 β0 β s w) {id : Nat} {b : Blk} (hb : (id, b) ∈ s.blks) (hl : b.live = true) (hc : opn b.ty = false) {cs : List C} (hwf : ∀ c ∈ cs, c.wf s.nb = true) :
    WR I ρ w0 X n0 β0 β (s.put id cs) (w.setRow (β id) (cellsOf I ρ β cs)) :=
  h.putR hb hl hwf ((RowP.closed (b := ⟨b.ty, cs⟩) hc).2 (setRow_heap w (β id) _ _ b.ty (0, 0) ((RowP.closed hc).1 (h.row _ hb hl)))) (Keeps.setRow _ _ _)
theorem WR.kill (h : WR I ρ w0 X n0 β0 β s w) {id : Nat} {b : Blk} (hb : (id, b) ∈ s.blks) (hl : b.live = true) (ho : opn b.ty = true) : WR I ρ w0 X n0 β0 β (s.put id []) w :=
  h.putR hb hl (by intro c hc; cases hc) (by unfold RowP; simp only [ho]; trivial) (Keeps.refl _ _)
def up (β : Nat → Nat) (n g : Nat) : Nat → Nat := fun id => if id = n then g else β id
theorem up_lt {β : Nat → Nat} {n g : Nat} : ∀ id, id < n → up β n g id = β id := fun id h => by unfold up; rw [if_neg (by omega)]
theorem up_self {β : Nat → Nat} {n g : Nat} : up β n g n = g := by simp [up]
theorem WR.newR (h : WR I ρ w0 X n0 β0 β s w) {β' : Nat → Nat} {ty : TypeId} {cs : List C} {n : Nat} (hn : s.nb < n) (hag : ∀ id, id < s.nb → β' id = β id) (hno : (Blk.isOpq ⟨ty, cs⟩) = false) (hwf : ∀ c ∈ cs, c.wf n = true) {w' : World}
    (hk : Keeps X w0 w') (hr : RowP I ρ β' w' s.nb ⟨ty, cs⟩) (hrow : ∀ p ∈ s.blks, p.2.live = true → w'.heap[β p.1]? = w.heap[β p.1]? ∧ β p.1 ≠ β' s.nb)
    (hown : X (β' s.nb) ∨ w0.heap.size ≤ β' s.nb) (hopq : ∀ p ∈ s.blks, p.2.isOpq = true → ∀ g, I.opq.blk (I.opq.dec (β p.1)) = some g → w'.heap[g]? = w.heap[g]? ∧ g ≠ β' s.nb) :
    WR I ρ w0 X n0 β0 β' ⟨(s.nb, ⟨ty, cs⟩) :: s.blks, n, s.known⟩ w' := by
  have hne : ∀ p ∈ s.blks, β' p.1 = β p.1 := fun p hp => hag _ (h.idlt p hp)
  refine ⟨?_, ?_, ?_, ?_, ?_, ?_, ?_, h.known, Nat.le_trans h.n0le (Nat.le_of_lt hn), fun id hid => ?_, hk, h.hyp⟩
  · intro p hp ho
    rcases List.mem_cons.1 hp with hp | hp
    · subst hp; exact hr
    · exact ((h.row p hp ho).heap (hrow p hp ho).1).agree (hne p hp) (h.cwf p hp) hag
  · intro p hp hpo q hq hqo
    rcases List.mem_cons.1 hp with hp | hp <;> rcases List.mem_cons.1 hq with hq | hq
    · subst hp hq; exact fun _ => rfl
    · subst hp; rw [hne q hq]; intro e; exact absurd e.symm (hrow q hq hqo).2
    · subst hq; rw [hne p hp]; intro e; exact absurd e (hrow p hp hpo).2
    · rw [hne p hp, hne q hq]; exact h.inj p hp hpo q hq hqo
  · intro p hp
    rcases List.mem_cons.1 hp with hp | hp
    · subst hp; exact hn
    · have := h.idlt p hp; show p.1 < n; omega
  · intro p hp c hc
    rcases List.mem_cons.1 hp with hp | hp
    · subst hp; exact hwf c hc
    · exact C.wf_mono (Nat.le_of_lt hn) (h.cwf p hp c hc)
  · intro p hp ho
    rcases List.mem_cons.1 hp with hp | hp
    · subst hp; exact hown
    · rw [hne p hp]; exact h.own p hp ho
  · intro p hp ho
    rcases List.mem_cons.1 hp with hp | hp
    · subst hp; rw [hno] at ho; cases ho
    · rw [hne p hp]
      obtain ⟨a1, a2⟩ := h.held p hp ho
      refine ⟨I.opq.keep w _ _ _ a1 (fun g hg => (hopq p hp ho g hg).1), fun q hq hqo => ?_⟩
      rcases List.mem_cons.1 hq with hq | hq
      · subst hq; intro e; exact (hopq p hp ho _ e).2 rfl
      · rw [hne q hq]; exact a2 q hq hqo
  · intro p hp q hq e
    rcases List.mem_cons.1 hp with hp | hp <;> rcases List.mem_cons.1 hq with hq | hq
    · subst hp hq; rfl
    · subst hp; have := h.idlt q hq; simp only at e; omega
    · subst hq; have := h.idlt p hp; simp only at e; omega
    · exact h.uniq p hp q hq e
  · rw [hag id (Nat.lt_of_lt_of_le hid h.n0le)]; exact h.agr id hid
theorem mem_put {id : Nat} {cs : List C} {q : Nat × Blk} (h : q ∈ (s.put id cs).blks) : (q.1 = id ∧ q.2.cells = cs ∧ ∃ b, (id, b) ∈ s.blks ∧ b.ty = q.2.ty) ∨ (q.1 ≠ id ∧ q ∈ s.blks) := mem_putIn h
theorem WR.move (h : WR I ρ w0 X n0 β0 β s w) {id : Nat} {b : Blk} (hb : (id, b) ∈ s.blks) (hl : b.live = true) (ho : opn b.ty = true) {β' : Nat → Nat} {ty : TypeId} {cs : List C} {n : Nat} (hn : s.nb < n) (hag : ∀ id, id < s.nb → β' id = β id)
    (hno : (Blk.isOpq ⟨ty, cs⟩) = false) (hwf : ∀ c ∈ cs, c.wf n = true) {w' : World} (hk : Keeps (fun g => g = β id) w w') (he : β' s.nb = β id) (hr : RowP I ρ β' w' s.nb ⟨ty, cs⟩) :
    WR I ρ w0 X n0 β0 β' ⟨(s.nb, ⟨ty, cs⟩) :: (s.put id []).blks, n, s.known⟩ w' := by
  have h1 := h.kill hb hl ho
  have hX : X (β id) ∨ w0.heap.size ≤ β id := h.own _ hb hl
  have lv : ∀ p ∈ (s.put id []).blks, p.2.live = true → p.1 ≠ id ∧ p ∈ s.blks := fun p hp hpo => by
    rcases mem_put hp with ⟨e1, e2, b', e3, e4⟩ | hh
    · exfalso
      have := h.same hb e3
      subst this
      have hd := Blk.live_dead hpo
      unfold Blk.dead at hd
      rw [← e4, ho, e2] at hd
      cases hd
    · exact hh
  refine h1.newR (s := s.put id []) hn hag hno hwf ?_ hr (fun p hp hpo => ?_) (he ▸ hX) (fun p hp hpo g hg => ?_)
  · refine ⟨hk.os.trans h.keeps.os, hk.tape.trans h.keeps.tape, hk.output.trans h.keeps.output, Nat.le_trans h.keeps.size hk.size, fun g hg hx => ?_⟩
    rw [hk.block g (Nat.lt_of_lt_of_le hg h.keeps.size) (fun e => ?_)]
    · exact h.keeps.block g hg hx
    · subst e
      rcases hX with h1 | h1
      · exact hx h1
      · omega
  · obtain ⟨k1, k2⟩ := lv p hp hpo
    have hne : β p.1 ≠ β id := fun e => k1 (h.inj p k2 hpo _ hb hl e)
    exact ⟨hk.block _ (h.lt k2 hpo) hne, by show β p.1 ≠ β' s.nb; rw [he]; exact hne⟩
  · rcases mem_put hp with ⟨e1, e2, b', e3, e4⟩ | ⟨k1, k2⟩
    · have := h.same hb e3
      subst this
      have := Blk.live_opq hl
      unfold Blk.isOpq at hpo this
      rw [← e4, this] at hpo
      cases hpo
    · obtain ⟨a1, a2⟩ := h.held p k2 hpo
      have hne : g ≠ β id := fun e => a2 _ hb hl (by rw [hg, e])
      exact ⟨hk.block _ (I.opq.lt w _ _ a1 g hg) hne, by show g ≠ β' s.nb; rw [he]; exact hne⟩
theorem WR.alloc (h : WR I ρ w0 X n0 β0 β s w) (ty : TypeId) (hty : Nat.beq ty opqTy = false) (hop : opn ty = false) {cs : List C} (hwf : ∀ c ∈ cs, c.wf s.nb = true) :
    WR I ρ w0 X n0 β0 (up β s.nb w.heap.size) (s.alloc ty cs) (w.alloc (.cells (cellsOf I ρ β cs) ty)) := by
  refine h.newR (Nat.lt_succ_self _) up_lt hty (fun c hc => C.wf_mono (Nat.le_succ _) (hwf c hc)) (h.keeps.trans ⟨rfl, rfl, rfl, by simp, fun g hg _ => Below.heap_alloc _ _ _ hg⟩)
    ((RowP.closed (b := ⟨ty, cs⟩) hop).2 ?_) (fun p hp ho => ⟨Below.heap_alloc _ _ _ (h.lt hp ho), ?_⟩) ?_ (fun p hp ho g hg => ?_)
  · rw [up_self, cellsOf_agree hwf up_lt]
    exact heap_alloc_new w _
  · rw [up_self]; have := h.lt hp ho; omega
  · rw [up_self]; exact .inr h.keeps.size
  · have := I.opq.lt w _ _ (h.held p hp ho).1 g hg
    rw [up_self]
    exact ⟨Below.heap_alloc _ _ _ this, by omega⟩
theorem WR.fewer (h : WR I ρ w0 X n0 β0 β s w) {l : List (Nat × Blk)} (hl : ∀ p ∈ l, p ∈ s.blks) {n : Nat} (hn : s.nb ≤ n) {k : Known} (hk : k.Ok I ρ) : WR I ρ w0 X n0 β0 β ⟨l, n, k⟩ w :=
  ⟨fun p hp => h.row p (hl p hp), fun p hp ho q hq => h.inj p (hl p hp) ho q (hl q hq), fun p hp => Nat.lt_of_lt_of_le (h.idlt p (hl p hp)) hn,
    fun p hp c hc => C.wf_mono hn (h.cwf p (hl p hp) c hc), fun p hp => h.own p (hl p hp), fun p hp ho => ⟨(h.held p (hl p hp) ho).1, fun q hq => (h.held p (hl p hp) ho).2 q (hl q hq)⟩, fun p hp q hq => h.uniq p (hl p hp) q (hl q hq), hk, Nat.le_trans h.n0le hn, h.agr, h.keeps, h.hyp⟩
end
end Go.Proofs.Ythkkipkhofkpmaa.Sx

