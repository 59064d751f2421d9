/- A verified symbolic walk: memory. -/
import Derived.Test.YtmoclgpdcnjacaaSx1
import Derived.Laws.CopyRow
import Derived.Laws.Build
import Derived.Laws.StructEq
import Derived.ChangeKeysEq
set_option linter.all false
namespace Go.Proofs.Ytmoclgpdcnjacaa.Sx
open Go Go.RowKit

structure Blk where
  ty : TypeId
  cells : List C
/-- An entry that is no block of ours, but a value that is handed on unseen, and its numbers. -/
def opqTy : Nat := 4294967295
def Blk.isOpq (b : Blk) : Bool := Nat.beq b.ty opqTy
def C.num (I : Interp) (ρ : Env) : C → Int
  | .int _ t => t.den I ρ
  | _ => 0
def numsOf (I : Interp) (ρ : Env) (cs : List C) : List Int := cs.map (C.num I ρ)
structure S where
  blks : List (Nat × Blk)
  nb : Nat
  known : Known
def findIn : List (Nat × Blk) → Nat → Option Blk
  | [], _ => none
  | p :: r, id => bif Nat.beq p.1 id then some p.2 else findIn r id
def S.find (s : S) (id : Nat) : Option Blk := match findIn s.blks id with
  | some b => bif b.isOpq then none else some b
  | none => none
theorem findIn_mem : ∀ {l : List (Nat × Blk)} {id : Nat} {b : Blk}, findIn l id = some b → (id, b) ∈ l
  | p :: r, id, b, h => by
    unfold findIn at h
    cases hb : Nat.beq p.1 id with
    | true =>
      rw [hb] at h
      simp only [cond_true, Option.some.injEq] at h
      have := Nat.eq_of_beq_eq_true hb
      subst h this
      exact .head _
    | false => rw [hb] at h; exact .tail _ (findIn_mem h)
theorem find_mem {s : S} {id : Nat} {b : Blk} (h : s.find id = some b) : (id, b) ∈ s.blks ∧ b.isOpq = false := by
  unfold S.find at h
  split at h
  · rename_i b' hb
    cases ho : b'.isOpq with
    | true => rw [ho] at h; cases h
    | false => rw [ho] at h; injection h with h; subst h; exact ⟨findIn_mem hb, ho⟩
  · cases h
/-- Cells from an offset on. -/
def setAt (cs : List C) (off : Nat) (vs : List C) : List C := cs.take off ++ vs ++ cs.drop (off + vs.length)
def putIn : List (Nat × Blk) → Nat → List C → List (Nat × Blk)
  | [], _, _ => []
  | p :: r, id, cs => bif Nat.beq p.1 id then (p.1, ⟨p.2.ty, cs⟩) :: putIn r id cs else p :: putIn r id cs
theorem mem_putIn : ∀ {l : List (Nat × Blk)} {id : Nat} {cs : List C} {q : Nat × Blk}, q ∈ putIn l id cs → (q.1 = id ∧ q.2.cells = cs ∧ ∃ b, (id, b) ∈ l ∧ b.ty = q.2.ty) ∨ (q.1 ≠ id ∧ q ∈ l)
  | p :: r, id, cs, q, h => by
    unfold putIn at h
    cases hb : Nat.beq p.1 id with
    | true =>
      rw [hb] at h
      simp only [cond_true, List.mem_cons] at h
      have e := Nat.eq_of_beq_eq_true hb
      rcases h with h | h
      · subst h; exact .inl ⟨e, rfl, p.2, by subst e; exact .head _, rfl⟩
      · rcases mem_putIn h with ⟨h1, h2, b, h3, h4⟩ | ⟨h1, h2⟩
        · exact .inl ⟨h1, h2, b, .tail _ h3, h4⟩
        · exact .inr ⟨h1, .tail _ h2⟩
    | false =>
      rw [hb] at h
      simp only [cond_false, List.mem_cons] at h
      rcases h with h | h
      · subst h; exact .inr ⟨fun e => by rw [e] at hb; simp at hb, .head _⟩
      · rcases mem_putIn h with ⟨h1, h2, b, h3, h4⟩ | ⟨h1, h2⟩
        · exact .inl ⟨h1, h2, b, .tail _ h3, h4⟩
        · exact .inr ⟨h1, .tail _ h2⟩
def S.put (s : S) (id : Nat) (cs : List C) : S := ⟨putIn s.blks id cs, s.nb, s.known⟩
def S.alloc (s : S) (ty : TypeId) (cs : List C) : S := ⟨(s.nb, ⟨ty, cs⟩) :: s.blks, s.nb + 1, s.known⟩
def S.assume (s : S) (b : B) (v : Bool) : S := ⟨s.blks, s.nb, s.known.add b v⟩

section
variable {α : Type}
def putInK : List (Nat × Blk) → Nat → List C → (List (Nat × Blk) → α) → α
  | [], _, _, k => k []
  | p :: r, id, cs, k => bif Nat.beq p.1 id then putInK r id cs fun r => k ((p.1, ⟨p.2.ty, cs⟩) :: r) else putInK r id cs fun r => k (p :: r)
theorem putInK_eq (l : List (Nat × Blk)) (id : Nat) (cs : List C) : ∀ k : List (Nat × Blk) → α, putInK l id cs k = k (putIn l id cs) := by
  induction l with
  | nil => intro k; rfl
  | cons p r ih => intro k; simp only [putInK, putIn, ih]; cases Nat.beq p.1 id <;> rfl
def S.putK (s : S) (id : Nat) (cs : List C) (k : S → α) : α := match s with
  | ⟨b, n, kn⟩ => csF cs fun cs => putInK b id cs fun b => k ⟨b, n, kn⟩
theorem S.putK_eq (s : S) (id : Nat) (cs : List C) (k : S → α) : s.putK id cs k = k (s.put id cs) := by obtain ⟨b, n, kn⟩ := s; simp [S.putK, S.put, csF_eq, putInK_eq]
def S.allocK (s : S) (ty : TypeId) (cs : List C) (k : S → α) : α := match s with
  | ⟨b, n, kn⟩ => natF n fun n => csF cs fun cs => natF ty fun ty => k ⟨(n, ⟨ty, cs⟩) :: b, n + 1, kn⟩
theorem S.allocK_eq (s : S) (ty : TypeId) (cs : List C) (k : S → α) : s.allocK ty cs k = k (s.alloc ty cs) := by obtain ⟨b, n, kn⟩ := s; simp [S.allocK, S.alloc, csF_eq, natF_eq]
def factsF : List (B × Bool) → (List (B × Bool) → α) → α
  | [], k => k []
  | (b, v) :: r, k => b.force fun b => boolF v fun v => factsF r fun r => k ((b, v) :: r)
theorem factsF_eq (l : List (B × Bool)) : ∀ k : List (B × Bool) → α, factsF l k = k l := by
  induction l with
  | nil => intro k; rfl
  | cons p r ih => intro k; obtain ⟨b, v⟩ := p; simp [factsF, B.force_eq, boolF_eq, ih]
def S.assumeK (s : S) (b : B) (v : Bool) (k : S → α) : α := match s with
  | ⟨l, n, ⟨f, d, m⟩⟩ => factsF (addFact f b v) fun f => k ⟨l, n, ⟨f, d, m⟩⟩
theorem S.assumeK_eq (s : S) (b : B) (v : Bool) (k : S → α) : s.assumeK b v k = k (s.assume b v) := by obtain ⟨l, n, f, d, m⟩ := s; simp [S.assumeK, S.assume, Known.add, factsF_eq]
end
/-- But for the blocks of X all that was there is as it was. -/
structure Keeps (X : Nat → Prop) (w0 w : World) : Prop where
  os : w.os = w0.os
  tape : w.tape = w0.tape
  output : w.output = w0.output
  size : w0.heap.size ≤ w.heap.size
  block : ∀ g, g < w0.heap.size → ¬ X g → w.heap[g]? = w0.heap[g]?
theorem Keeps.refl (X : Nat → Prop) (w : World) : Keeps X w w := ⟨rfl, rfl, rfl, Nat.le_refl _, fun _ _ _ => rfl⟩
theorem Keeps.trans {X : Nat → Prop} {a b c : World} (h : Keeps X a b) (k : Keeps X b c) : Keeps X a c :=
  ⟨k.os.trans h.os, k.tape.trans h.tape, k.output.trans h.output, Nat.le_trans h.size k.size, fun g hg hx => (k.block g (Nat.lt_of_lt_of_le hg h.size) hx).trans (h.block g hg hx)⟩
theorem Keeps.below {w w' : World} (h : Keeps (fun _ => False) w w') : Below w.heap.size w w' := ⟨h.os, h.tape, h.output, h.size, fun k hk => h.block k hk id⟩

/-- Blocks that no one changes. -/
def Hyp (I : Interp) (w0 : World) (X : Nat → Prop) : Prop := ∀ p ∈ I.fixed, w0.heap[p.1]? = some p.2 ∧ ¬ X p.1
/-- What holds of a world in a state of ours, since w0. -/
structure WR (I : Interp) (ρ : Env) (w0 : World) (X : Nat → Prop) (n0 : Nat) (β0 β : Nat → Nat) (s : S) (w : World) : Prop where
  row : ∀ p ∈ s.blks, p.2.isOpq = false → w.heap[β p.1]? = some (.cells (cellsOf I ρ β p.2.cells) p.2.ty (0, 0))
  inj : ∀ p ∈ s.blks, p.2.isOpq = false → ∀ q ∈ s.blks, q.2.isOpq = false → β p.1 = β q.1 → p.1 = q.1
  idlt : ∀ p ∈ s.blks, p.1 < s.nb
  cwf : ∀ p ∈ s.blks, ∀ c ∈ p.2.cells, c.wf s.nb = true
  own : ∀ p ∈ s.blks, p.2.isOpq = false → X (β p.1) ∨ w0.heap.size ≤ β p.1
  held : ∀ p ∈ s.blks, p.2.isOpq = true → I.opq.held w (I.opq.dec (β p.1)) (numsOf I ρ p.2.cells) ∧ ∀ q ∈ s.blks, q.2.isOpq = false → I.opq.blk (I.opq.dec (β p.1)) ≠ some (β q.1)
  uniq : ∀ p ∈ s.blks, ∀ q ∈ s.blks, p.1 = q.1 → p.2.isOpq = q.2.isOpq
  known : s.known.Ok I ρ
  n0le : n0 ≤ s.nb
  agr : ∀ id, id < n0 → β id = β0 id
  keeps : Keeps X w0 w
  hyp : Hyp I w0 X

section
variable {I : Interp} {ρ : Env} {w0 w w' : World} {X : Nat → Prop} {n0 : Nat} {β0 β : Nat → Nat} {s : S}
theorem WR.drew (h : WR I ρ w0 X n0 β0 β s w) : WR I ρ w0 X n0 β0 β s { w with drawn := w.drawn + 1 } :=
  ⟨h.row, h.inj, h.idlt, h.cwf, h.own, fun p hp ho => ⟨I.opq.keep w _ _ _ (h.held p hp ho).1 (fun _ _ => rfl), (h.held p hp ho).2⟩, h.uniq, h.known, h.n0le, h.agr, ⟨h.keeps.os, h.keeps.tape, h.keeps.output, h.keeps.size, h.keeps.block⟩, h.hyp⟩
theorem WR.assume (h : WR I ρ w0 X n0 β0 β s w) {b : B} {v : Bool} (hb : b.den I ρ = v) : WR I ρ w0 X n0 β0 β (s.assume b v) w :=
  ⟨h.row, h.inj, h.idlt, h.cwf, h.own, h.held, h.uniq, ⟨addFact_ok h.known.facts hb, h.known.draws, h.known.n64⟩, h.n0le, h.agr, h.keeps, h.hyp⟩
theorem WR.lt (h : WR I ρ w0 X n0 β0 β s w) {p : Nat × Blk} (hp : p ∈ s.blks) (ho : p.2.isOpq = false) : β p.1 < w.heap.size := (Array.getElem?_eq_some_iff.1 (h.row p hp ho)).1
theorem Known.ok_fix (L : List (Nat × Obj)) {k : Known} : k.Ok (I.fix L) ρ ↔ k.Ok I ρ :=
  ⟨fun h => ⟨fun p hp => (B.den_fix L p.1).symm.trans (h.facts p hp), h.draws, h.n64⟩, fun h => ⟨fun p hp => (B.den_fix L p.1).trans (h.facts p hp), h.draws, h.n64⟩⟩
theorem numsOf_fix (L : List (Nat × Obj)) (cs : List C) : numsOf (I.fix L) ρ cs = numsOf I ρ cs := by
  unfold numsOf
  refine List.map_congr_left fun c _ => ?_
  cases c <;> simp only [C.num, T.den_fix]
theorem WR.fix {L : List (Nat × Obj)} (h : WR I ρ w0 X n0 β0 β s w) (hL : Hyp (I.fix L) w0 X) : WR (I.fix L) ρ w0 X n0 β0 β s w :=
  ⟨fun p hp ho => by rw [cellsOf_fix]; exact h.row p hp ho, h.inj, h.idlt, h.cwf, h.own, fun p hp ho => by rw [numsOf_fix]; exact h.held p hp ho, h.uniq, (Known.ok_fix L).2 h.known, h.n0le, h.agr, h.keeps, hL⟩
theorem WR.unfix {L : List (Nat × Obj)} (h : WR (I.fix L) ρ w0 X n0 β0 β s w) (hL : Hyp I w0 X) : WR I ρ w0 X n0 β0 β s w :=
  ⟨fun p hp ho => by have := h.row p hp ho; rw [cellsOf_fix] at this; exact this, h.inj, h.idlt, h.cwf, h.own, fun p hp ho => by have := h.held p hp ho; rw [numsOf_fix] at this; exact this, h.uniq, (Known.ok_fix L).1 h.known, h.n0le, h.agr, h.keeps, hL⟩
/-- A store. -/
theorem WR.put (h : WR I ρ w0 X n0 β0 β s w) {id : Nat} {b : Blk} (hb : (id, b) ∈ s.blks) (hbo : b.isOpq = false) {cs : List C} (hwf : ∀ c ∈ cs, c.wf s.nb = true) :
    WR I ρ w0 X n0 β0 β (s.put id cs) (w.setRow (β id) (cellsOf I ρ β cs)) := by
  have hr := h.row _ hb hbo
  have io : ∀ {b1 b2 : Blk}, b1.ty = b2.ty → b2.isOpq = false → b1.isOpq = false := fun e h => by unfold Blk.isOpq at *; rw [e]; exact h
  have hu : ∀ b', (id, b') ∈ s.blks → b'.isOpq = false := fun b' hb' => (h.uniq _ hb' _ hb rfl).trans hbo
  refine ⟨?_, ?_, ?_, ?_, ?_, ?_, ?_, h.known, h.n0le, h.agr, ?_, h.hyp⟩
  · intro q hq hqo
    rcases mem_putIn hq with ⟨h1, h2, b', h3, h4⟩ | ⟨h1, h2⟩
    · rw [h1, h2, setRow_heap w (β id) _ _ b'.ty (0, 0) (h.row _ h3 (io h4 hqo)), h4]
    · rw [setRow_other w (β id) (β q.1) _ (fun e => h1 (h.inj q h2 hqo _ hb hbo e))]
      exact h.row q h2 hqo
  · intro p hp hpo q hq hqo
    have f : ∀ {r : Nat × Blk}, r ∈ (s.put id cs).blks → r.2.isOpq = false → ∃ b, (r.1, b) ∈ s.blks ∧ b.isOpq = false := fun {r} hr hro => by
      rcases mem_putIn hr with ⟨h1, h2, b', h3, h4⟩ | ⟨h1, h2⟩
      · exact ⟨b', h1 ▸ h3, io h4 hro⟩
      · exact ⟨r.2, h2, hro⟩
    obtain ⟨b1, hb1, o1⟩ := f hp hpo
    obtain ⟨b2, hb2, o2⟩ := f hq hqo
    exact h.inj (p.1, b1) hb1 o1 (q.1, b2) hb2 o2
  · intro q hq
    rcases mem_putIn hq with ⟨h1, h2, b', h3, h4⟩ | ⟨h1, h2⟩
    · have := h.idlt _ h3; show q.1 < s.nb; rw [h1]; exact this
    · exact h.idlt _ h2
  · intro q hq c hc
    rcases mem_putIn hq with ⟨h1, h2, b', h3, h4⟩ | ⟨h1, h2⟩
    · rw [h2] at hc; exact hwf c hc
    · exact h.cwf _ h2 c hc
  · intro q hq hqo
    rcases mem_putIn hq with ⟨h1, h2, b', h3, h4⟩ | ⟨h1, h2⟩
    · rw [h1]; exact h.own _ h3 (io h4 hqo)
    · exact h.own _ h2 hqo
  · intro q hq hqo
    rcases mem_putIn hq with ⟨h1, h2, b', h3, h4⟩ | ⟨h1, h2⟩
    · have := io h4.symm (hu b' h3); rw [this] at hqo; cases hqo
    · obtain ⟨a1, a2⟩ := h.held q h2 hqo
      refine ⟨I.opq.keep w _ _ _ a1 (fun g hg => setRow_other w (β id) g _ (fun e => a2 _ hb hbo (by rw [hg, e]))), fun r hr hro => ?_⟩
      rcases mem_putIn hr with ⟨k1, k2, b', k3, k4⟩ | ⟨k1, k2⟩
      · rw [k1]; exact a2 _ k3 (io k4 hro)
      · exact a2 _ k2 hro
  · intro q hq r hr e
    have f : ∀ {r : Nat × Blk}, r ∈ (s.put id cs).blks → ∃ b, (r.1, b) ∈ s.blks ∧ b.isOpq = r.2.isOpq := fun {r} hr => by
      rcases mem_putIn hr with ⟨h1, h2, b', h3, h4⟩ | ⟨h1, h2⟩
      · exact ⟨b', h1 ▸ h3, by unfold Blk.isOpq; rw [h4]⟩
      · exact ⟨r.2, h2, rfl⟩
    obtain ⟨b1, hb1, o1⟩ := f hq
    obtain ⟨b2, hb2, o2⟩ := f hr
    rw [← o1, ← o2]
    exact h.uniq _ hb1 _ hb2 e
  · refine ⟨h.keeps.os, h.keeps.tape, h.keeps.output, by simpa using h.keeps.size, fun g hg hx => ?_⟩
    rw [setRow_other w (β id) g _ (fun e => ?_)]
    · exact h.keeps.block g hg hx
    · rcases h.own _ hb hbo with h1 | h1
      · exact hx (e ▸ h1)
      · simp only at h1; omega
def up (β : Nat → Nat) (n g : Nat) : Nat → Nat := fun id => if id = n then g else β id
theorem up_lt {β : Nat → Nat} {n g : Nat} : ∀ id, id < n → up β n g id = β id := fun id h => by unfold up; rw [if_neg (by omega)]
theorem up_self {β : Nat → Nat} {n g : Nat} : up β n g n = g := by simp [up]
/-- A new block. -/
theorem WR.alloc (h : WR I ρ w0 X n0 β0 β s w) (ty : TypeId) (hty : Nat.beq ty opqTy = false) {cs : List C} (hwf : ∀ c ∈ cs, c.wf s.nb = true) :
    WR I ρ w0 X n0 β0 (up β s.nb w.heap.size) (s.alloc ty cs) (w.alloc (.cells (cellsOf I ρ β cs) ty)) := by
  have hne : ∀ p ∈ s.blks, up β s.nb w.heap.size p.1 = β p.1 := fun p hp => up_lt _ (h.idlt p hp)
  refine ⟨?_, ?_, ?_, ?_, ?_, ?_, ?_, h.known, Nat.le_succ_of_le h.n0le, fun id hid => ?_, ?_, h.hyp⟩
  · intro p hp ho
    simp only [S.alloc, List.mem_cons] at hp
    rcases hp with hp | hp
    · subst hp
      simp only [up_self]
      rw [cellsOf_agree hwf up_lt]
      exact heap_alloc_new w _
    · rw [hne p hp, cellsOf_agree (h.cwf p hp) up_lt, Below.heap_alloc _ _ _ (h.lt hp ho)]
      exact h.row p hp ho
  · intro p hp hpo q hq hqo
    simp only [S.alloc, List.mem_cons] at hp hq
    rcases hp with hp | hp <;> rcases hq with hq | hq
    · subst hp hq; exact fun _ => rfl
    · subst hp; rw [hne q hq, up_self]; have := h.lt hq hqo; intro e; omega
    · subst hq; rw [hne p hp, up_self]; have := h.lt hp hpo; intro e; omega
    · rw [hne p hp, hne q hq]; exact h.inj p hp hpo q hq hqo
  · intro p hp
    simp only [S.alloc, List.mem_cons] at hp ⊢
    rcases hp with hp | hp
    · subst hp; simp
    · have := h.idlt p hp; omega
  · intro p hp c hc
    simp only [S.alloc, List.mem_cons] at hp ⊢
    rcases hp with hp | hp
    · subst hp; exact C.wf_mono (Nat.le_succ _) (hwf c hc)
    · exact C.wf_mono (Nat.le_succ _) (h.cwf p hp c hc)
  · intro p hp ho
    simp only [S.alloc, List.mem_cons] at hp
    rcases hp with hp | hp
    · subst hp; right; simp only [up_self]; exact h.keeps.size
    · rw [hne p hp]; exact h.own p hp ho
  · intro p hp ho
    simp only [S.alloc, List.mem_cons] at hp
    rcases hp with hp | hp
    · subst hp; rw [show (Blk.isOpq ⟨ty, cs⟩) = false from hty] at ho; cases ho
    · rw [hne p hp]
      obtain ⟨a1, a2⟩ := h.held p hp ho
      refine ⟨I.opq.keep w _ _ _ a1 (fun g hg => Below.heap_alloc _ _ _ (I.opq.lt w _ _ a1 g hg)), fun q hq hqo => ?_⟩
      simp only [S.alloc, List.mem_cons] at hq
      rcases hq with hq | hq
      · subst hq
        rw [up_self]
        intro e
        have := I.opq.lt w _ _ a1 _ e
        omega
      · rw [hne q hq]; exact a2 q hq hqo
  · intro p hp q hq e
    simp only [S.alloc, List.mem_cons] at hp hq
    rcases hp with hp | hp <;> rcases hq with hq | hq
    · subst hp hq; rfl
    · subst hp; have := h.idlt q hq; simp only at e; omega
    · subst hq; have := h.idlt p hp; simp only at e; omega
    · exact h.uniq p hp q hq e
  · rw [up_lt id (Nat.lt_of_lt_of_le hid h.n0le)]; exact h.agr id hid
  · exact h.keeps.trans ⟨rfl, rfl, rfl, by simp, fun g hg _ => Below.heap_alloc _ _ _ hg⟩
/-- Fewer blocks are known. -/
theorem WR.fewer (h : WR I ρ w0 X n0 β0 β s w) {l : List (Nat × Blk)} (hl : ∀ p ∈ l, p ∈ s.blks) {n : Nat} (hn : s.nb ≤ n) {k : Known} (hk : k.Ok I ρ) : WR I ρ w0 X n0 β0 β ⟨l, n, k⟩ w :=
  ⟨fun p hp => h.row p (hl p hp), fun p hp ho q hq => h.inj p (hl p hp) ho q (hl q hq), fun p hp => Nat.lt_of_lt_of_le (h.idlt p (hl p hp)) hn,
    fun p hp c hc => C.wf_mono hn (h.cwf p (hl p hp) c hc), fun p hp => h.own p (hl p hp), fun p hp ho => ⟨(h.held p (hl p hp) ho).1, fun q hq => (h.held p (hl p hp) ho).2 q (hl q hq)⟩, fun p hp q hq => h.uniq p (hl p hp) q (hl q hq), hk, Nat.le_trans h.n0le hn, h.agr, h.keeps, h.hyp⟩
/-- A value that is handed on unseen comes. -/
theorem WR.addOpq (h : WR I ρ w0 X n0 β0 β s w) {code : Nat} {cs : List C} (hwf : ∀ c ∈ cs, c.wf s.nb = true) (hh : I.opq.held w (I.opq.dec code) (numsOf I ρ cs)) (hb : ∀ q ∈ s.blks, q.2.isOpq = false → I.opq.blk (I.opq.dec code) ≠ some (β q.1)) :
    WR I ρ w0 X n0 β0 (up β s.nb code) (s.alloc opqTy cs) w := by
  have hne : ∀ p ∈ s.blks, up β s.nb code p.1 = β p.1 := fun p hp => up_lt _ (h.idlt p hp)
  have hop : (Blk.isOpq ⟨opqTy, cs⟩) = true := Nat.beq_refl _
  refine ⟨?_, ?_, ?_, ?_, ?_, ?_, ?_, h.known, Nat.le_succ_of_le h.n0le, fun id hid => ?_, h.keeps, h.hyp⟩
  · intro p hp ho
    simp only [S.alloc, List.mem_cons] at hp
    rcases hp with hp | hp
    · subst hp; rw [hop] at ho; cases ho
    · rw [hne p hp, cellsOf_agree (h.cwf p hp) up_lt]; exact h.row p hp ho
  · intro p hp hpo q hq hqo
    simp only [S.alloc, List.mem_cons] at hp hq
    rcases hp with hp | hp
    · subst hp; rw [hop] at hpo; cases hpo
    · rcases hq with hq | hq
      · subst hq; rw [hop] at hqo; cases hqo
      · rw [hne p hp, hne q hq]; exact h.inj p hp hpo q hq hqo
  · intro p hp
    simp only [S.alloc, List.mem_cons] at hp ⊢
    rcases hp with hp | hp
    · subst hp; simp
    · have := h.idlt p hp; omega
  · intro p hp c hc
    simp only [S.alloc, List.mem_cons] at hp ⊢
    rcases hp with hp | hp
    · subst hp; exact C.wf_mono (Nat.le_succ _) (hwf c hc)
    · exact C.wf_mono (Nat.le_succ _) (h.cwf p hp c hc)
  · intro p hp ho
    simp only [S.alloc, List.mem_cons] at hp
    rcases hp with hp | hp
    · subst hp; rw [hop] at ho; cases ho
    · rw [hne p hp]; exact h.own p hp ho
  · intro p hp ho
    have key : ∀ q ∈ (s.alloc opqTy cs).blks, q.2.isOpq = false → q ∈ s.blks := fun q hq hqo => by
      simp only [S.alloc, List.mem_cons] at hq
      rcases hq with hq | hq
      · subst hq; rw [hop] at hqo; cases hqo
      · exact hq
    simp only [S.alloc, List.mem_cons] at hp
    rcases hp with hp | hp
    · subst hp
      simp only [up_self]
      exact ⟨hh, fun q hq hqo => by rw [hne q (key q hq hqo)]; exact hb q (key q hq hqo) hqo⟩
    · rw [hne p hp]
      exact ⟨(h.held p hp ho).1, fun q hq hqo => by rw [hne q (key q hq hqo)]; exact (h.held p hp ho).2 q (key q hq hqo) hqo⟩
  · intro p hp q hq e
    simp only [S.alloc, List.mem_cons] at hp hq
    rcases hp with hp | hp <;> rcases hq with hq | hq
    · subst hp hq; rfl
    · subst hp; have := h.idlt q hq; simp only at e; omega
    · subst hq; have := h.idlt p hp; simp only at e; omega
    · exact h.uniq p hp q hq e
  · rw [up_lt id (Nat.lt_of_lt_of_le hid h.n0le)]; exact h.agr id hid
end
end Go.Proofs.Ytmoclgpdcnjacaa.Sx
