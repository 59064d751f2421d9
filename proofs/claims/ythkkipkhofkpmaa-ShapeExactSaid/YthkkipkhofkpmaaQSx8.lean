import Derived.Test.YthkkipkhofkpmaaQSx7
set_option linter.all false
set_option autoImplicit false
namespace Go.Proofs.Ythkkipkhofkpmaa.Sx
open Go Go.RowKit
open Classical
theorem mem_putIn' {l : List (Nat × Blk)} {id : Nat} {cs : List C} {p : Nat × Blk} (hp : p ∈ l) : ∃ b, (p.1, b) ∈ putIn l id cs ∧ b.ty = p.2.ty := by
  induction l with
  | nil => cases hp
  | cons q r ih =>
    unfold putIn
    rcases List.mem_cons.1 hp with e | hp
    · subst e
      cases hb : Nat.beq p.1 id with
      | true => exact ⟨_, .head _, rfl⟩
      | false => exact ⟨_, .head _, rfl⟩
    · obtain ⟨b, h1, h2⟩ := ih hp
      cases hb : Nat.beq q.1 id with
      | true => exact ⟨b, .tail _ h1, h2⟩
      | false => exact ⟨b, .tail _ h1, h2⟩
theorem mem_putAll' : ∀ {wr : List (Nat × List C)} {l : List (Nat × Blk)} {p : Nat × Blk}, p ∈ l → ∃ b, (p.1, b) ∈ putAll wr l ∧ b.ty = p.2.ty
  | [], l, p, hp => ⟨p.2, hp, rfl⟩
  | q :: r, l, p, hp => by
    obtain ⟨b, h1, h2⟩ := mem_putAll' (wr := r) hp
    obtain ⟨b', h3, h4⟩ := mem_putIn' (id := q.1) (cs := q.2) h1
    exact ⟨b', h3, h4.trans h2⟩
structure Runs (I : Interp) (ρ : Env) (P : Program) (call : CallT) (ops : Array Oper) (pm : List Nat) (f : F) (G : Nat → RG) (R : Nat → RS) : Prop where
  g0 : G 0 = ⟨f.fr, f.s, []⟩
  st : ∀ k o, ops[k]? = some o → SF I ρ P call ops (dstsOf pm 0 ops.toList) (pm.getD k 0) k o (G k) (G (k + 1)) (R k)
  pm_eq : pm = masks ops.toList []
  dis : distinctD (dstsOf pm 0 ops.toList) = true
  len : ∀ p ∈ dstsOf pm 0 ops.toList, p.2.1 < f.fr.sz
  id0 : ∀ p ∈ f.s.blks, p.1 < f.s.nb
  deep : deepOk f.fr.sz = true
section
variable {I : Interp} {ρ : Env} {P : Program} {call : CallT} {ops : Array Oper} {pm : List Nat} {f : F} {G : Nat → RG} {R : Nat → RS} (hr : Runs I ρ P call ops pm f G R)
include hr
theorem Runs.op {i : Nat} (h : i < ops.size) : ∃ o, ops[i]? = some o := ⟨_, Array.getElem?_eq_getElem h⟩
theorem Runs.gs {i : Nat} {o : Oper} (ho : ops[i]? = some o) : G (i + 1) = ⟨setF (G i).fr o.dst (R i).v, ⟨(R i).nw ++ putAll (R i).wr (G i).s.blks, (R i).nb', (G (i + 1)).s.known⟩, (i, R i) :: (G i).rs⟩ := (hr.st i o ho).eq
theorem Runs.rs : ∀ {i : Nat}, i ≤ ops.size → ∀ x, x ∈ (G i).rs ↔ ∃ j, j < i ∧ x = (j, R j)
  | 0, _, x => by rw [hr.g0]; simp
  | i + 1, h, x => by
    obtain ⟨o, ho⟩ := hr.op (i := i) (by omega)
    rw [hr.gs ho]
    simp only [List.mem_cons, Runs.rs (by omega : i ≤ ops.size) x]
    constructor
    · rintro (rfl | ⟨j, h1, rfl⟩)
      · exact ⟨i, by omega, rfl⟩
      · exact ⟨j, by omega, rfl⟩
    · rintro ⟨j, h1, rfl⟩
      by_cases e : j = i
      · subst e; exact .inl rfl
      · exact .inr ⟨j, by omega, rfl⟩
theorem Runs.nb {i : Nat} (h : i < ops.size) : (R i).nb = (G i).s.nb ∧ (R i).nb' = (G (i + 1)).s.nb ∧ (R i).nb ≤ (R i).nb' := by
  obtain ⟨o, ho⟩ := hr.op h
  refine ⟨(hr.st i o ho).nb, by rw [hr.gs ho], (hr.st i o ho).le⟩
theorem Runs.mono {i : Nat} : ∀ {j : Nat}, i ≤ j → j ≤ ops.size → (G i).s.nb ≤ (G j).s.nb
  | 0, h, _ => by obtain rfl : i = 0 := by omega
                  exact Nat.le_refl _
  | j + 1, h, hj => by
    by_cases e : i = j + 1
    · subst e; exact Nat.le_refl _
    · have := Runs.mono (i := i) (j := j) (by omega) (by omega)
      obtain ⟨a, b, c⟩ := hr.nb (i := j) (by omega)
      omega
theorem Runs.known (h0 : f.s.known.Ok I ρ) : ∀ {i : Nat}, i ≤ ops.size → (G i).s.known.Ok I ρ
  | 0, _ => by rw [hr.g0]; exact h0
  | i + 1, h => by
    obtain ⟨o, ho⟩ := hr.op (i := i) (by omega)
    exact (hr.st i o ho).kn
theorem Runs.dmem {k : Nat} {o : Oper} {d : Nat} (ho : ops[k]? = some o) (hd : o.dst = some d) : (k, d, pm.getD k 0) ∈ dstsOf pm 0 ops.toList := by
  have := dstsOf_mem pm ops.toList 0 k o d (by simpa using ho) hd
  simpa using this
theorem Runs.uniq {j k : Nat} {o o' : Oper} {d : Nat} (ho : ops[j]? = some o) (ho' : ops[k]? = some o') (hd : o.dst = some d) (hd' : o'.dst = some d) : j = k := by
  have := distinct_spec pm ops.toList 0 hr.dis _ (hr.dmem ho hd) _ (hr.dmem ho' hd') rfl
  exact (Prod.mk.inj this).1
theorem Runs.dlt {k : Nat} {o : Oper} {d : Nat} (ho : ops[k]? = some o) (hd : o.dst = some d) : d < f.fr.sz := hr.len _ (hr.dmem ho hd)
theorem Runs.frame : ∀ {i : Nat}, i ≤ ops.size → (G i).fr.sz = f.fr.sz ∧ ∀ t, (∃ j, j < i ∧ ∃ o, ops[j]? = some o ∧ o.dst = some t ∧ getF (G i).fr t = (R j).v) ∨
    ((∀ j, j < i → ∀ o, ops[j]? = some o → o.dst ≠ some t) ∧ getF (G i).fr t = getF f.fr t)
  | 0, _ => by rw [hr.g0]; exact ⟨rfl, fun t => .inr ⟨fun j h => by omega, rfl⟩⟩
  | i + 1, h => by
    obtain ⟨o, ho⟩ := hr.op (i := i) (by omega)
    obtain ⟨h1, h2⟩ := Runs.frame (i := i) (by omega)
    rw [hr.gs ho]
    refine ⟨by rw [setF_sz, h1], fun t => ?_⟩
    have keep : getF (setF (G i).fr o.dst (R i).v) t = getF (G i).fr t → o.dst ≠ some t → (∃ j, j < i + 1 ∧ ∃ o', ops[j]? = some o' ∧ o'.dst = some t ∧ getF (setF (G i).fr o.dst (R i).v) t = (R j).v) ∨
        ((∀ j, j < i + 1 → ∀ o', ops[j]? = some o' → o'.dst ≠ some t) ∧ getF (setF (G i).fr o.dst (R i).v) t = getF f.fr t) := fun hk hne => by
      rcases h2 t with ⟨j, a, o', b, c, d⟩ | ⟨a, b⟩
      · exact .inl ⟨j, by omega, o', b, c, by rw [hk, d]⟩
      · refine .inr ⟨fun j hj o' ho' => ?_, by rw [hk, b]⟩
        by_cases e : j = i
        · subst e; rw [ho] at ho'; injection ho' with ho'; subst ho'; exact hne
        · exact a j (by omega) o' ho'
    cases hd : o.dst with
    | none => rw [hd] at keep; exact keep rfl (by simp)
    | some d =>
      by_cases e : t = d
      · subst e
        refine .inl ⟨i, by omega, o, ho, hd, ?_⟩
        rw [getF_setF (by rw [h1]; exact hr.deep), if_pos ⟨rfl, by rw [h1]; exact hr.dlt ho hd⟩]
      · rw [hd] at keep
        exact keep (by rw [getF_setF (by rw [h1]; exact hr.deep), if_neg (by simp [e])]) (by simp; exact fun h => e h.symm)
theorem Runs.blks : ∀ {i : Nat}, i ≤ ops.size → (∀ p ∈ (G i).s.blks, p.1 < (G i).s.nb) ∧ ∀ p ∈ (G i).s.blks, ∃ b0, ((p.1, b0) ∈ f.s.blks ∨ ∃ c, c < i ∧ (p.1, b0) ∈ (R c).nw) ∧ b0.ty = p.2.ty ∧ p.2.cells = cont (fun j => (R j).wr) (fun _ => True) i p.1 b0.cells
  | 0, _ => by rw [hr.g0]; exact ⟨hr.id0, fun p hp => ⟨p.2, .inl hp, rfl, rfl⟩⟩
  | i + 1, h => by
    obtain ⟨o, ho⟩ := hr.op (i := i) (by omega)
    obtain ⟨n1, n2, n3⟩ := hr.nb (i := i) (by omega)
    have sf := hr.st i o ho
    obtain ⟨i1, i2⟩ := Runs.blks (i := i) (by omega)
    have hg := hr.gs ho
    constructor
    · intro p hp
      rw [← n2]
      rw [hg] at hp
      rcases List.mem_append.1 hp with hp | hp
      · exact (sf.nw p hp).2
      · obtain ⟨b, hb, -, -⟩ := mem_putAll hp
        have := i1 _ hb
        omega
    · intro p hp
      rw [hg] at hp
      rcases List.mem_append.1 hp with hp | hp
      · refine ⟨p.2, .inr ⟨i, by omega, hp⟩, rfl, ?_⟩
        rw [cont_none]
        intro j hj _
        cases hw : wrOf (R j).wr p.1 with
        | none => rfl
        | some cs =>
          obtain ⟨oj, hoj⟩ := hr.op (i := j) (by omega)
          have sj := hr.st j oj hoj
          obtain ⟨⟨b, hb⟩, -⟩ := sj.see _ (sj.wr _ (wrOf_mem hw))
          have h1 := (Runs.blks (i := j) (by omega)).1 _ hb
          have h2 := hr.mono (i := j) (j := i) (by omega) (by omega)
          have h3 := (sf.nw p hp).1
          simp only at h1
          omega
      · obtain ⟨b, hb, h1, h2⟩ := mem_putAll hp
        obtain ⟨b0, h3, h4, h5⟩ := i2 _ hb
        refine ⟨b0, h3.imp id fun ⟨c, hc, hm⟩ => ⟨c, by omega, hm⟩, h4.trans h1, ?_⟩
        rw [h2]
        simp only [cont, if_true]
        rw [← h5]
theorem Runs.stay : ∀ {i : Nat}, i ≤ ops.size → ∀ p, (p ∈ f.s.blks ∨ ∃ c, c < i ∧ p ∈ (R c).nw) → ∃ b, (p.1, b) ∈ (G i).s.blks ∧ b.ty = p.2.ty
  | 0, _, p, hp => by
    rw [hr.g0]
    rcases hp with hp | ⟨c, hc, -⟩
    · exact ⟨p.2, hp, rfl⟩
    · omega
  | i + 1, h, p, hp => by
    obtain ⟨o, ho⟩ := hr.op (i := i) (by omega)
    rw [hr.gs ho]
    have old : (p ∈ f.s.blks ∨ ∃ c, c < i ∧ p ∈ (R c).nw) → ∃ b, (p.1, b) ∈ (R i).nw ++ putAll (R i).wr (G i).s.blks ∧ b.ty = p.2.ty := fun hp => by
      obtain ⟨b, h1, h2⟩ := Runs.stay (i := i) (by omega) p hp
      obtain ⟨b', h3, h4⟩ := mem_putAll' (wr := (R i).wr) h1
      exact ⟨b', List.mem_append_right _ h3, h4.trans h2⟩
    rcases hp with hp | ⟨c, hc, hp⟩
    · exact old (.inl hp)
    · by_cases e : c = i
      · subst e; exact ⟨p.2, List.mem_append_left _ hp, rfl⟩
      · exact old (.inr ⟨c, by omega, hp⟩)
theorem Runs.wlt {j : Nat} (hj : j < ops.size) {q : Nat × List C} (hq : q ∈ (R j).wr) : q.1 < (R j).nb := by
  obtain ⟨oj, hoj⟩ := hr.op hj
  have sj := hr.st j oj hoj
  obtain ⟨⟨b, hb⟩, -⟩ := sj.see _ (sj.wr _ hq)
  have h1 := (hr.blks (i := j) (by omega)).1 _ hb
  have := (hr.nb hj).1
  simp only at h1
  omega
end
def Base (f : F) (R : Nat → RS) (D : Nat → Prop) (p : Nat × Blk) : Prop := p ∈ f.s.blks ∨ ∃ j, D j ∧ p ∈ (R j).nw
noncomputable def now (R : Nat → RS) (n : Nat) (D : Nat → Prop) (p : Nat × Blk) : Blk := ⟨p.2.ty, cont (fun j => (R j).wr) D n p.1 p.2.cells⟩
theorem now_opq {R : Nat → RS} {n : Nat} {D : Nat → Prop} {p : Nat × Blk} (h : (now R n D p).live = true) : p.2.isOpq = false := (Blk.live_opq h : (now R n D p).isOpq = false)
structure RInv (I : Interp) (ρ : Env) (ops : Array Oper) (pm : List Nat) (f : F) (R : Nat → RS) (w0 : World) (X : Nat → Prop) (βs : Nat → Nat) (D : Nat → Prop) (β : Nat → Nat) (fr : Fr) (w : World) : Prop where
  agr : ∀ id, id < f.s.nb → β id = βs id
  len : fr.sz = f.fr.sz
  val : ∀ t, (∃ j, D j ∧ ∃ o, ops[j]? = some o ∧ o.dst = some t ∧ getF fr t = (R j).v) ∨ ((∀ j, D j → ∀ o, ops[j]? = some o → o.dst ≠ some t) ∧ getF fr t = getF f.fr t)
  wfs : ∀ j, D j → (∀ id ∈ (R j).v.ids, id < (R j).nb') ∧ (∀ p ∈ (R j).nw, ∀ id ∈ idsOf p.2.cells, id < (R j).nb') ∧ ∀ q ∈ (R j).wr, ∀ id ∈ idsOf q.2, id < (R j).nb'
  row : ∀ p, Base f R D p → (now R ops.size D p).live = true → RowP I ρ β w p.1 (now R ops.size D p)
  inj : ∀ p, Base f R D p → (now R ops.size D p).live = true → ∀ q, Base f R D q → (now R ops.size D q).live = true → β p.1 = β q.1 → p.1 = q.1
  held : ∀ p, Base f R D p → p.2.isOpq = true → I.opq.held w (I.opq.dec (β p.1)) (numsOf I ρ (cont (fun j => (R j).wr) D ops.size p.1 p.2.cells)) ∧ ∀ q, Base f R D q → (now R ops.size D q).live = true → I.opq.blk (I.opq.dec (β p.1)) ≠ some (β q.1)
  uniq : ∀ p, Base f R D p → ∀ q, Base f R D q → p.1 = q.1 → p.2 = q.2
  own : ∀ p, Base f R D p → (now R ops.size D p).live = true → X (β p.1) ∨ w0.heap.size ≤ β p.1
  keeps : Keeps X w0 w
  closed : ∀ j, D j → ∀ k, bit (pm.getD j 0) k = true → D k
  bound : ∀ j, D j → j < ops.size
  hyp : Hyp I w0 X
section
variable {P : Program} {I : Interp} {ρ : Env} {call : CallT} {ops : Array Oper} {pm : List Nat} {f : F} {G : Nat → RG} {R : Nat → RS} (hr : Runs I ρ P call ops pm f G R)
variable {w0 w : World} {X : Nat → Prop} {βs β : Nat → Nat} {D : Nat → Prop} {fr : Fr} (hi : RInv I ρ ops pm f R w0 X βs D β fr w)
variable (hf0 : ∀ p ∈ f.s.blks, ∀ id ∈ idsOf p.2.cells, id < f.s.nb) (hfr : f.wf) (hkn : f.s.known.Ok I ρ)
include hr
theorem nb_le {i j : Nat} (hij : i < j) (hj : j < ops.size) : (R i).nb' ≤ (R j).nb := by
  have h1 := (hr.nb (i := i) (by omega)).2.1
  have h2 := (hr.nb hj).1
  have := hr.mono (i := i + 1) (j := j) (by omega) (by omega)
  omega
theorem nb_zero {i : Nat} (hi : i < ops.size) : f.s.nb ≤ (R i).nb := by
  have h2 := (hr.nb hi).1
  have := hr.mono (i := 0) (j := i) (by omega) (by omega)
  rw [hr.g0] at this
  simp only at this
  omega
include hi
theorem avoidD {i : Nat} (hin : i < ops.size) (hnd : ¬ D i) {j : Nat} (hj : D j) {id : Nat} (hid : id ∈ (R j).v.ids ∨ (∃ p ∈ (R j).nw, id ∈ idsOf p.2.cells) ∨ ∃ q ∈ (R j).wr, id ∈ idsOf q.2) : ¬ ((R i).nb ≤ id ∧ id < (R i).nb') := by
  have hjn := hi.bound j hj
  have hlt : id < (R j).nb' := by
    obtain ⟨a, b, c⟩ := hi.wfs j hj
    rcases hid with h | ⟨p, hp, h⟩ | ⟨q, hq, h⟩
    · exact a _ h
    · exact b p hp _ h
    · exact c q hq _ h
  by_cases hji : j < i
  · have := nb_le hr hji hin; omega
  · have hij : i < j := by
      by_cases e : i = j
      · subst e; exact absurd hj hnd
      · omega
    obtain ⟨oj, hoj⟩ := hr.op hjn
    have hb : bit (pm.getD j 0) i = false := by
      cases h : bit (pm.getD j 0) i with
      | false => rfl
      | true => exact absurd (hi.closed j hj i h) hnd
    exact (hr.st j oj hoj).avoid (i, R i) ((hr.rs (by omega) _).2 ⟨i, hij, rfl⟩) hb id hid
theorem newId {i : Nat} (hin : i < ops.size) (hnd : ¬ D i) {j : Nat} (hj : D j) {p : Nat × Blk} (hp : p ∈ (R j).nw) : ¬ ((R i).nb ≤ p.1 ∧ p.1 < (R i).nb') := by
  have hjn := hi.bound j hj
  obtain ⟨oj, hoj⟩ := hr.op hjn
  have h1 := (hr.st j oj hoj).nw p hp
  by_cases hji : j < i
  · have := nb_le hr hji hin; omega
  · have hij : i < j := by
      by_cases e : i = j
      · subst e; exact absurd hj hnd
      · omega
    have := nb_le hr hij hjn
    omega
theorem baseId {i : Nat} (hin : i < ops.size) (hnd : ¬ D i) {p : Nat × Blk} (hp : Base f R D p) : ¬ ((R i).nb ≤ p.1 ∧ p.1 < (R i).nb') := by
  rcases hp with hp | ⟨j, hj, hp⟩
  · have := hr.id0 p hp; have := nb_zero hr hin; omega
  · exact newId hr hi hin hnd hj hp
include hf0 in
theorem contAvoid {i : Nat} (hin : i < ops.size) (hnd : ¬ D i) {p : Nat × Blk} (hp : Base f R D p) : ∀ id ∈ idsOf (cont (fun j => (R j).wr) D ops.size p.1 p.2.cells), ¬ ((R i).nb ≤ id ∧ id < (R i).nb') := by
  intro id hid
  rcases cont_ids _ id hid with h | ⟨j, h1, h2, cs, h3, h4⟩
  · rcases hp with hp | ⟨j, hj, hp⟩
    · have := hf0 p hp id h; have := nb_zero hr hin; omega
    · exact avoidD hr hi hin hnd hj (.inr (.inl ⟨p, hp, h⟩))
  · exact avoidD hr hi hin hnd h2 (.inr (.inr ⟨_, wrOf_mem h3, h4⟩))
include hfr in
theorem frAvoid {i : Nat} (hin : i < ops.size) (hnd : ¬ D i) : ∀ t, ∀ id ∈ (getF fr t).ids, ¬ ((R i).nb ≤ id ∧ id < (R i).nb') := by
  intro t id hid
  rcases hi.val t with ⟨j, hj, o, -, -, e⟩ | ⟨-, e⟩
  · rw [e] at hid; exact avoidD hr hi hin hnd hj (.inl hid)
  · rw [e] at hid
    have := V.ids_wf.1 (hfr.ok t) id hid; have := nb_zero hr hin; omega
theorem preD {i : Nat} {o : Oper} (ho : ops[i]? = some o) (hp : ∀ e ∈ o.after, Region.binds .any e = true → D e.on) {k : Nat} (h : bit (pm.getD i 0) k = true) : D k := by
  have := masks_bit ops.toList [] i o k (by simpa using ho)
  simp only [List.length_nil, Nat.zero_add, ← hr.pm_eq] at this
  obtain ⟨e, h1, h2, h3⟩ := this h
  rcases h3 with h3 | h3
  · subst h3; exact hp e h1 h2
  · exact hi.closed _ (hp e h1 h2) _ h3
include hfr in
theorem readD {i : Nat} {o : Oper} (ho : ops[i]? = some o) (hnd : ¬ D i) (hp : ∀ e ∈ o.after, Region.binds .any e = true → D e.on) {x : Operand} {v : V}
    (hx : evR (dstsOf pm 0 ops.toList) i (pm.getD i 0) (G i).fr x = some v) : evF fr x = some v ∧ v.wf (G i).s.nb = true := by
  have hin : i < ops.size := (Array.getElem?_eq_some_iff.1 ho).1
  cases x with
  | tmp t =>
    have hx : (bif okRead (dstsOf pm 0 ops.toList) i (pm.getD i 0) t then some (getF (G i).fr t) else none) = some v := hx
    cases hok : okRead (dstsOf pm 0 ops.toList) i (pm.getD i 0) t with
    | false => rw [hok] at hx; cases hx
    | true =>
      rw [hok] at hx
      simp only [cond_true, Option.some.injEq] at hx
      subst hx
      simp only [okRead, List.all_eq_true, Bool.or_eq_true, Bool.not_eq_true'] at hok
      have hrd : ∀ j oj, ops[j]? = some oj → oj.dst = some t → (j < i → D j) ∧ (i < j → ¬ D j) := fun j oj hoj hd => by
        have := (hok _ (hr.dmem hoj hd)).resolve_left (by simp)
        refine ⟨fun hji => ?_, fun hij hD => ?_⟩
        · have hb : Nat.blt j i = true := by simpa using hji
          rw [hb] at this
          exact preD hr hi ho hp this
        · have hb : Nat.blt j i = false := by
            cases h : Nat.blt j i with
            | false => rfl
            | true => rw [Nat.blt_eq] at h; omega
          rw [hb] at this
          simp only [cond_false, Bool.or_eq_true, Nat.beq_eq] at this
          rcases this with h | h
          · omega
          · exact hnd (hi.closed j hD i h)
      obtain ⟨-, hG⟩ := hr.frame (i := i) (by omega)
      rcases hG t with ⟨j, hj, oj, hoj, hd, e⟩ | ⟨hno, e⟩
      · have hDj := (hrd j oj hoj hd).1 hj
        refine ⟨?_, ?_⟩
        · rcases hi.val t with ⟨k, hk, ok, hok2, hd2, e2⟩ | ⟨hno2, -⟩
          · have := hr.uniq hoj hok2 hd hd2
            subst this
            simp only [evF, e, e2]
          · exact absurd hd (hno2 j hDj oj hoj)
        · rw [e]
          refine V.ids_wf.2 fun id hid => ?_
          have h1 := (hi.wfs j hDj).1 id hid
          have h2 := nb_le hr hj hin
          have h3 := (hr.nb hin).1
          omega
      · refine ⟨?_, ?_⟩
        · rcases hi.val t with ⟨k, hk, ok, hok2, hd2, e2⟩ | ⟨-, e2⟩
          · exfalso
            by_cases hki : k < i
            · exact hno k hki ok hok2 hd2
            · have : k ≠ i := fun h => hnd (h ▸ hk)
              exact (hrd k ok hok2 hd2).2 (by omega) hk
          · simp only [evF, e, e2]
        · rw [e]
          have h1 := nb_zero hr hin
          have h2 := (hr.nb hin).1
          exact V.wf_mono (by omega) (hfr.ok t)
  | const c =>
    have hx : vOf c = some v := hx
    exact ⟨hx, vOf_wf hx⟩
  | global g => cases hx
  | func g =>
    have hx : some (V.c (.fn (.func g) [])) = some v := hx
    injection hx with hx
    subst hx
    exact ⟨rfl, rfl⟩
end
end Go.Proofs.Ythkkipkhofkpmaa.Sx

