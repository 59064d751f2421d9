import Derived.Test.YthkkipkhofkpmaaQSx6
set_option linter.all false
set_option autoImplicit false
namespace Go.Proofs.Ythkkipkhofkpmaa.Sx
open Go Go.RowKit
open Classical
def wrOf : List (Nat × List C) → Nat → Option (List C)
  | [], _ => none
  | p :: r, id => if p.1 = id then some p.2 else wrOf r id
theorem wrOf_mem : ∀ {wr : List (Nat × List C)} {id : Nat} {cs : List C}, wrOf wr id = some cs → (id, cs) ∈ wr
  | p :: r, id, cs, h => by
    unfold wrOf at h
    split at h
    · rename_i e; injection h with h; subst h e; exact .head _
    · exact .tail _ (wrOf_mem h)
theorem mem_putAll : ∀ {wr : List (Nat × List C)} {l : List (Nat × Blk)} {q : Nat × Blk}, q ∈ putAll wr l → ∃ b, (q.1, b) ∈ l ∧ b.ty = q.2.ty ∧ q.2.cells = (wrOf wr q.1).getD b.cells
  | [], l, q, h => ⟨q.2, h, rfl, rfl⟩
  | p :: r, l, q, h => by
    unfold putAll at h
    rcases mem_putIn h with ⟨h1, h2, b, h3, h4⟩ | ⟨h1, h2⟩
    · obtain ⟨b', h5, h6, h7⟩ := mem_putAll h3
      refine ⟨b', h1 ▸ h5, h6.trans h4, ?_⟩
      simp [wrOf, h1, h2]
    · obtain ⟨b', h5, h6, h7⟩ := mem_putAll h2
      refine ⟨b', h5, h6, ?_⟩
      simp [wrOf, Ne.symm h1, h7]
theorem diffs_spec {new : List (Nat × Blk)} : ∀ {T : List (Nat × Blk)} {wr : List (Nat × List C)}, diffs new T = some wr →
    (∀ q ∈ wr, q.1 ∈ T.map (·.1)) ∧ (∀ q ∈ wr, ∃ b, findIn new q.1 = some b ∧ q.2 = b.cells) ∧ ∀ p ∈ T, ∃ b, findIn new p.1 = some b ∧ b.ty = p.2.ty ∧ ((wrOf wr p.1 = none ∧ p.2.cells = b.cells) ∨ wrOf wr p.1 = some b.cells)
  | [], wr, h => by injection h with h; subst h; exact ⟨(fun _ h => nomatch h), (fun _ h => nomatch h), (fun _ h => nomatch h)⟩
  | p :: r, wr, h => by
    unfold diffs at h
    split at h
    · rename_i b l hb hl
      obtain ⟨i1, i2, i3⟩ := diffs_spec hl
      have hw : ∀ {id : Nat} {cs : List C}, wrOf l id = some cs → ∃ b, findIn new id = some b ∧ cs = b.cells := fun h => i2 _ (wrOf_mem h)
      cases ht : Nat.beq b.ty p.2.ty with
      | false => rw [ht] at h; cases h
      | true =>
        rw [ht] at h
        simp only [cond_true, Option.some.injEq] at h
        have hty := Nat.eq_of_beq_eq_true ht
        cases hc : cellsSame p.2.cells b.cells with
        | true =>
          rw [hc] at h
          simp only [cond_true] at h
          subst h
          refine ⟨fun q hq => by have := i1 q hq; simp at this ⊢; exact .inr this, i2, fun q hq => ?_⟩
          rcases List.mem_cons.1 hq with e | hq
          · subst e
            refine ⟨b, hb, hty, ?_⟩
            cases hwo : wrOf l q.1 with
            | none => exact .inl ⟨rfl, cellsSame_eq hc⟩
            | some cs => obtain ⟨b', e1, e2⟩ := hw hwo; rw [hb] at e1; injection e1 with e1; subst e1; exact .inr (by rw [e2])
          · exact i3 q hq
        | false =>
          rw [hc] at h
          simp only [cond_false] at h
          subst h
          refine ⟨fun q hq => ?_, fun q hq => ?_, fun q hq => ?_⟩
          · rcases List.mem_cons.1 hq with e | hq
            · subst e; simp
            · have := i1 q hq; simp at this ⊢; exact .inr this
          · rcases List.mem_cons.1 hq with e | hq
            · subst e; exact ⟨b, hb, rfl⟩
            · exact i2 q hq
          · rcases List.mem_cons.1 hq with e | hq
            · subst e; exact ⟨b, hb, hty, .inr (by simp [wrOf])⟩
            · obtain ⟨b', e1, e2, e3⟩ := i3 q hq
              refine ⟨b', e1, e2, ?_⟩
              by_cases hid : p.1 = q.1
              · right; simp only [wrOf, hid, if_true]; rw [hid] at hb; rw [hb] at e1; injection e1 with e1; rw [e1]
              · simpa [wrOf, hid] using e3
    · cases h
section
variable (W : Nat → List (Nat × List C))
noncomputable def cont (D : Nat → Prop) : Nat → Nat → List C → List C
  | 0, _, c => c
  | m + 1, id, c => if D m then (wrOf (W m) id).getD (cont D m id c) else cont D m id c
theorem cont_to {D : Nat → Prop} {i id : Nat} {c : List C} : ∀ {n : Nat}, i ≤ n → (∀ j, j < n → wrOf (W j) id ≠ none → (D j ↔ j < i)) → cont W D n id c = cont W (fun _ => True) i id c
  | 0, hi, _ => by obtain rfl : i = 0 := by omega
                   rfl
  | n + 1, hi, h => by
    by_cases hin : i = n + 1
    · subst hin
      have ih := cont_to (D := D) (i := n) (id := id) (c := c) (n := n) (Nat.le_refl _) (fun j hj hw => by have := h j (by omega) hw; constructor <;> intro <;> first | exact hj | exact this.2 (by omega))
      simp only [cont, if_true]
      cases hw : wrOf (W n) id with
      | none => simp [ih]
      | some cs => rw [if_pos ((h n (by omega) (by rw [hw]; simp)).2 (by omega))]; rfl
    · have ih := cont_to (D := D) (i := i) (id := id) (c := c) (n := n) (by omega) (fun j hj hw => h j (by omega) hw)
      rw [← ih]
      simp only [cont]
      cases hw : wrOf (W n) id with
      | none => simp
      | some cs => rw [if_neg (fun hd => by have := (h n (by omega) (by rw [hw]; simp)).1 hd; omega)]
theorem cont_add {D : Nat → Prop} {i id : Nat} {c cs : List C} (hw : wrOf (W i) id = some cs) : ∀ {n : Nat}, i < n → (∀ j, D j → i < j → wrOf (W j) id = none) → cont W (fun j => j = i ∨ D j) n id c = cs
  | 0, hi, _ => by omega
  | n + 1, hi, h => by
    simp only [cont]
    by_cases hin : i = n
    · subst hin; simp [hw]
    · have ih := cont_add (D := D) (c := c) hw (n := n) (by omega) h
      by_cases hd : D n
      · rw [if_pos (.inr hd), h n hd (by omega), ih]; rfl
      · rw [if_neg (by simp [hd, Ne.symm hin]), ih]
theorem cont_skip {D : Nat → Prop} {i id : Nat} {c : List C} (hw : wrOf (W i) id = none) : ∀ {n : Nat}, cont W (fun j => j = i ∨ D j) n id c = cont W D n id c
  | 0 => rfl
  | n + 1 => by
    simp only [cont, cont_skip (D := D) (c := c) hw (n := n)]
    by_cases hin : n = i
    · subst hin; rw [hw]; simp
    · simp [hin]
theorem cont_none {D : Nat → Prop} {id : Nat} {c : List C} : ∀ {n : Nat}, (∀ j, j < n → D j → wrOf (W j) id = none) → cont W D n id c = c
  | 0, _ => rfl
  | n + 1, h => by
    simp only [cont, cont_none (D := D) (c := c) (n := n) (fun j hj hd => h j (by omega) hd)]
    by_cases hd : D n
    · rw [if_pos hd, h n (by omega) hd]; rfl
    · rw [if_neg hd]
theorem cont_ids {D : Nat → Prop} {id : Nat} {c : List C} : ∀ {n : Nat}, ∀ x ∈ idsOf (cont W D n id c), x ∈ idsOf c ∨ ∃ j, j < n ∧ D j ∧ ∃ cs, wrOf (W j) id = some cs ∧ x ∈ idsOf cs
  | 0, x, hx => .inl hx
  | n + 1, x, hx => by
    simp only [cont] at hx
    have ih := cont_ids (D := D) (id := id) (c := c) (n := n) x
    have lift : (x ∈ idsOf c ∨ ∃ j, j < n ∧ D j ∧ ∃ cs, wrOf (W j) id = some cs ∧ x ∈ idsOf cs) → x ∈ idsOf c ∨ ∃ j, j < n + 1 ∧ D j ∧ ∃ cs, wrOf (W j) id = some cs ∧ x ∈ idsOf cs := fun h => h.imp (fun h => h) (fun ⟨j, h1, h2⟩ => ⟨j, by omega, h2⟩)
    split at hx
    · rename_i hd
      cases hw : wrOf (W n) id with
      | none => rw [hw] at hx; exact lift (ih hx)
      | some cs => rw [hw] at hx; exact .inr ⟨n, by omega, hd, cs, hw, hx⟩
    · exact lift (ih hx)
theorem cont_all {D : Nat → Prop} {id : Nat} {c : List C} {Q : C → Prop} (h : ∀ x ∈ c, Q x) : ∀ {n : Nat}, (∀ j, j < n → D j → ∀ cs, wrOf (W j) id = some cs → ∀ x ∈ cs, Q x) → ∀ x ∈ cont W D n id c, Q x
  | 0, _ => h
  | n + 1, hw => fun x hx => by
    have ih := cont_all (D := D) (id := id) h (n := n) fun j hj => hw j (by omega)
    simp only [cont] at hx
    split at hx
    · rename_i hd
      cases e : wrOf (W n) id with
      | none => rw [e] at hx; exact ih x hx
      | some cs => rw [e] at hx; exact hw n (by omega) hd cs e x hx
    · exact ih x hx
end
def Tree.sel {α : Type} (I : Interp) (ρ : Env) : Tree α → Option α
  | .leaf a => some a
  | .node b x y => if b.den I ρ = true then x.sel I ρ else y.sel I ρ
  | .bad => none
theorem Tree.vc_sel {α : Type} {I : Interp} {ρ : Env} {t : Tree α} {a : α} {Φ : α → Prop} (h : t.sel I ρ = some a) (ha : Φ a) : t.vc I ρ Φ := by
  induction t with
  | leaf x => injection h with h; subst h; exact ha
  | node b x y ihx ihy =>
    simp only [Tree.sel] at h
    refine ⟨fun hb => ?_, fun hb => ?_⟩
    · rw [if_pos hb] at h; exact ihx h
    · rw [if_neg (by simp [hb])] at h; exact ihy h
  | bad => cases h
theorem Known.add_ok {I : Interp} {ρ : Env} {k : Known} (hk : k.Ok I ρ) {b : B} {v : Bool} (hb : b.den I ρ = v) : (k.add b v).Ok I ρ := ⟨addFact_ok hk.facts hb, hk.draws, hk.n64⟩
theorem bindK_vc {α γ : Type} {I : Interp} {ρ : Env} {Φ : γ → Prop} {k : α → Known → Tree γ} : ∀ {t : Tree α} {kn : Known}, (bindK t kn k).vc I ρ Φ → kn.Ok I ρ → ∃ a kn', t.sel I ρ = some a ∧ kn'.Ok I ρ ∧ (k a kn').vc I ρ Φ
  | .leaf a, kn, h, hk => ⟨a, kn, rfl, hk, h⟩
  | .node b x y, kn, h, hk => by
    simp only [bindK, knowK_eq] at h
    cases hb : b.den I ρ with
    | true =>
      obtain ⟨a, kn', h1, h2⟩ := bindK_vc (h.1 hb) (Known.add_ok hk hb)
      exact ⟨a, kn', by simp [Tree.sel, hb, h1], h2⟩
    | false =>
      obtain ⟨a, kn', h1, h2⟩ := bindK_vc (h.2 hb) (Known.add_ok hk hb)
      exact ⟨a, kn', by simp [Tree.sel, hb, h1], h2⟩
  | .bad, kn, h, hk => h.elim
theorem partK_vc {γ : Type} {I : Interp} {ρ : Env} {Φ : γ → Prop} {q : B} {k : Bool → Known → Tree γ} : ∀ {n : Nat} {kn : Known}, (partK q k n kn).vc I ρ Φ → kn.Ok I ρ → ∃ kn', kn'.Ok I ρ ∧ (k (q.den I ρ) kn').vc I ρ Φ
  | 0, kn, h, hk => h.elim
  | n + 1, kn, h, hk => by
    unfold partK at h
    have hu := B.den_under hk q
    split at h
    · rename_i e; rw [e] at hu; exact ⟨kn, hk, by rw [← hu]; exact h⟩
    · rename_i e; rw [e] at hu; exact ⟨kn, hk, by rw [← hu]; exact h⟩
    · simp only [B.force_eq, knowK_eq] at h
      cases hb : (q.under kn).head.den I ρ with
      | true => exact partK_vc (h.1 hb) (Known.add_ok hk hb)
      | false => exact partK_vc (h.2 hb) (Known.add_ok hk hb)
def WantR (I : Interp) (ρ : Env) (ops : Array Oper) (ev : Operand → Option V) (g : Option (Nat × Bool)) (b : Bool) : Prop := match g with
  | none => b = true
  | some (j, want) => ∃ d, (ops[j]?).bind (·.dst) = some d ∧ ((∃ q, ev (.tmp d) = some (.c (.bool q)) ∧ b = (q.den I ρ == want)) ∨ ∃ vs, ev (.tmp d) = some (.tup vs) ∧ b = false)
theorem wantT_vc {γ : Type} {I : Interp} {ρ : Env} {Φ : γ → Prop} {ops : Array Oper} {ev : Operand → Option V} {kn : Known} {g : Option (Nat × Bool)} {k : Bool → Known → Tree γ} (h : (wantT ops ev kn g k).vc I ρ Φ) (hk : kn.Ok I ρ) :
    ∃ b kn', WantR I ρ ops ev g b ∧ kn'.Ok I ρ ∧ (k b kn').vc I ρ Φ := by
  unfold wantT at h
  split at h
  · exact ⟨true, kn, rfl, hk, h⟩
  · rename_i j want
    split at h
    · exact h.elim
    · rename_i d hd
      split at h
      · rename_i q hq
        obtain ⟨kn', h1, h2⟩ := partK_vc h hk
        exact ⟨_, kn', ⟨d, hd, .inl ⟨q, hq, rfl⟩⟩, h1, h2⟩
      · rename_i vs hq
        exact ⟨false, kn, ⟨d, hd, .inr ⟨vs, hq, rfl⟩⟩, hk, h⟩
      · exact h.elim
structure SF (I : Interp) (ρ : Env) (P : Program) (call : CallT) (ops : Array Oper) (ds : List (Nat × Nat × Nat)) (m i : Nat) (o : Oper) (g g' : RG) (r : RS) : Prop where
  eq : g' = ⟨setF g.fr o.dst r.v, ⟨r.nw ++ putAll r.wr g.s.blks, r.nb', g'.s.known⟩, (i, r) :: g.rs⟩
  kn : g'.s.known.Ok I ρ
  nb : r.nb = g.s.nb
  le : r.nb ≤ r.nb'
  nw : ∀ p ∈ r.nw, r.nb ≤ p.1 ∧ p.1 < r.nb'
  see : ∀ id ∈ r.see, (∃ b, (id, b) ∈ g.s.blks) ∧ ∀ x ∈ g.rs, bit m x.1 = false → (∀ q ∈ x.2.wr, q.1 ≠ id) ∧ ¬ (x.2.nb ≤ id ∧ id < x.2.nb')
  wr : ∀ q ∈ r.wr, q.1 ∈ r.see
  apart : ∀ x ∈ g.rs, bit m x.1 = false → ∀ q ∈ r.wr, q.1 ∉ x.2.see
  avoid : ∀ x ∈ g.rs, bit m x.1 = false → ∀ id, (id ∈ r.v.ids ∨ (∃ p ∈ r.nw, id ∈ idsOf p.2.cells) ∨ ∃ q ∈ r.wr, id ∈ idsOf q.2) → ¬ (x.2.nb ≤ id ∧ id < x.2.nb')
  c1 : (∃ p ∈ r.nw, p.2.isOpq = true) → ∀ p ∈ g.s.blks, p.2.isOpq = false → p.1 ∈ r.see
  c2 : ∀ p ∈ r.nw, p.2.isOpq = false → (∀ c ∈ p.2.cells, c.noDigit = true) ∨ ∀ x ∈ g.rs, bit m x.1 = false → ∀ q ∈ x.2.nw, q.2.isOpq = false
  c3 : (∃ p ∈ g.s.blks, p.2.isOpq = true) → ∀ q ∈ r.wr, ∀ c ∈ q.2, c.noDigit = true
  how : (WantR I ρ ops (evR ds i m g.fr) o.guard false ∧ r = ⟨.undef, g.s.nb, g.s.nb, [], [], []⟩) ∨
    (WantR I ρ ops (evR ds i m g.fr) o.guard true ∧ ∃ s' T kn, kn.Ok I ρ ∧ (∀ p ∈ T, p ∈ g.s.blks) ∧ (runT P call (evR ds i m g.fr) o.op ⟨T, g.s.nb, kn⟩).sel I ρ = some (r.v, s') ∧ diffs s'.blks T = some r.wr ∧
      r.nw = s'.blks.filter (fun p => Nat.ble g.s.nb p.1) ∧ r.nb' = s'.nb ∧ r.see = T.map (·.1) ∧ r.v.wf s'.nb = true ∧ ∀ q ∈ r.wr, ∀ p ∈ T, p.1 = q.1 → p.2.dead = false)
theorem seenBlks_sub {ev : Operand → Option V} {vis : List (Nat × Blk)} {op : Op} : ∀ p ∈ seenBlks ev vis op, p ∈ vis := by
  intro p hp
  unfold seenBlks at hp
  split at hp
  · split at hp
    · exact (List.mem_filter.1 hp).1
    · cases hp
  · split at hp
    · exact (List.mem_filter.1 hp).1
    · cases hp
  · exact hp
  · exact (List.mem_filter.1 hp).1
  · split at hp
    · exact (List.mem_filter.1 hp).1
    · cases hp
  · cases hp
theorem inRange_iff {x : Nat × RS} {id : Nat} : inRange x id = true ↔ x.2.nb ≤ id ∧ id < x.2.nb' := by simp [inRange]
theorem regStep_fact {γ : Type} {I : Interp} {ρ : Env} {P : Program} {call : CallT} {ops : Array Oper} {ds : List (Nat × Nat × Nat)} {m i : Nat} {o : Oper} {g : RG} {k : RG → Tree γ} {Φ : γ → Prop} (h : (regStep P call ops ds m i o g k).vc I ρ Φ) (hk : g.s.known.Ok I ρ) :
    ∃ g' r, SF I ρ P call ops ds m i o g g' r ∧ (k g').vc I ρ Φ := by
  obtain ⟨fr, ⟨bl, n, kn⟩, rs⟩ := g
  unfold regStep at h
  simp only at h
  obtain ⟨b, kn1, hw, hk1, h⟩ := wantT_vc h hk
  cases b with
  | false =>
    simp only [setFK_eq] at h
    refine ⟨_, ⟨.undef, n, n, [], [], []⟩, ⟨rfl, hk1, rfl, Nat.le_refl _, (fun _ h => nomatch h), (fun _ h => nomatch h), (fun _ h => nomatch h), (fun _ _ _ _ h => nomatch h), ?_, (fun h => by obtain ⟨_, h, _⟩ := h; cases h), (fun _ h => nomatch h), (fun _ _ h => nomatch h), .inl ⟨hw, rfl⟩⟩, h⟩
    intro x _ _ id hid
    rcases hid with hid | ⟨p, hp, -⟩ | ⟨q, hq, -⟩
    · simp [V.undef, V.ids] at hid
    · cases hp
    · cases hq
  | true =>
    simp only [filtK_eq] at h
    revert h
    generalize hT : (seenBlks (evR ds i m fr) bl o.op).filter (fun p => !hidden (rs.filter fun x => !bit m x.1) p.1) = T
    intro h
    obtain ⟨⟨v, s'⟩, kn2, hr, hk2, h⟩ := bindK_vc h hk1
    dsimp only at h
    split at h
    · exact h.elim
    · rename_i wr hd
      simp only [natF_eq] at h
      revert h
      generalize hnw : s'.blks.filter (fun p => Nat.ble n p.1) = nw
      intro h
      cases hb : (v.wf s'.nb && (Nat.ble n s'.nb && ((nw.all fun p => Nat.blt p.1 s'.nb && avoids (rs.filter fun x => !bit m x.1) (idsOf p.2.cells)) && (avoids (rs.filter fun x => !bit m x.1) v.ids && ((wr.all fun q => avoids (rs.filter fun x => !bit m x.1) (idsOf q.2)) && (((rs.filter fun x => !bit m x.1).all fun x => wr.all fun q => !x.2.see.any fun id => Nat.beq id q.1) && ((nw.all (fun p => !p.2.isOpq) || bl.all (fun p => p.2.isOpq || T.any (fun q => Nat.beq q.1 p.1))) && ((nw.all (fun p => p.2.isOpq || p.2.cells.all C.noDigit) || (rs.filter fun x => !bit m x.1).all (fun x => x.2.nw.all fun p => !p.2.isOpq)) && ((wr.all (fun q => q.2.all C.noDigit) || bl.all (fun p => !p.2.isOpq)) && wr.all fun q => T.all fun p => !Nat.beq p.1 q.1 || !p.2.dead))))))))) with
      | false => rw [hb] at h; exact h.elim
      | true =>
        rw [hb] at h
        simp only [cond_true, V.force_eq, setFK_eq, finK_eq] at h
        simp only [Bool.and_eq_true, Bool.or_eq_true, Nat.ble_eq, List.all_eq_true, List.any_eq_true, Nat.blt_eq, avoids, Bool.not_eq_true', List.mem_filter, List.any_eq_false, and_imp, Nat.beq_eq] at hb
        obtain ⟨h1, h2, h3, h4, h5, h6, h7, h8, h9, h10⟩ := hb
        obtain ⟨d1, d2, d3⟩ := diffs_spec hd
        have hTs : ∀ p ∈ T, p ∈ bl ∧ hidden (rs.filter fun x => !bit m x.1) p.1 = false := fun p hp => by
          rw [← hT] at hp
          have := List.mem_filter.1 hp
          exact ⟨seenBlks_sub p this.1, by simpa using this.2⟩
        refine ⟨_, ⟨v, n, s'.nb, nw, wr, T.map (·.1)⟩, ⟨rfl, hk2, rfl, h2, fun p hp => ⟨?_, (h3 p hp).1⟩, ?_, d1, ?_, ?_, ?_, ?_, ?_, .inr ⟨hw, s', T, kn1, hk1, fun p hp => (hTs p hp).1, hr, hd, hnw.symm, rfl, rfl, h1, fun q hq p hp e => (h10 q hq p hp).resolve_left (by intro h; rw [e] at h; simp at h)⟩⟩, h⟩
        · rw [← hnw] at hp
          simpa using (List.mem_filter.1 hp).2
        · intro id hid
          obtain ⟨p, hp, rfl⟩ := List.mem_map.1 hid
          obtain ⟨a1, a2⟩ := hTs p hp
          refine ⟨⟨p.2, a1⟩, fun x hx hbx => ?_⟩
          simp only [hidden, List.any_eq_false, List.mem_filter, Bool.not_eq_true', and_imp, Bool.or_eq_true, not_or, Bool.not_eq_true, List.any_eq_true, not_exists, Nat.beq_eq] at a2
          obtain ⟨b1, b2⟩ := a2 x hx hbx
          exact ⟨fun q hq e => b1 q ⟨hq, e⟩, fun hrg => by rw [inRange_iff.2 hrg] at b2; cases b2⟩
        · intro x hx hbx q hq hs
          exact h6 x hx hbx q hq q.1 hs rfl
        · intro x hx hbx id hid hrg
          have hrg := inRange_iff.2 hrg
          rcases hid with hid | ⟨p, hp, hid⟩ | ⟨q, hq, hid⟩
          · rw [h4 id hid x hx hbx] at hrg; cases hrg
          · rw [(h3 p hp).2 id hid x hx hbx] at hrg; cases hrg
          · rw [h5 q hq id hid x hx hbx] at hrg; cases hrg
        · rintro ⟨p, hp, ho⟩ q hq hqo
          rcases h7 with h7 | h7
          · rw [h7 p hp] at ho; cases ho
          · rcases h7 q hq with h | ⟨r, hr1, hr2⟩
            · rw [h] at hqo; cases hqo
            · exact List.mem_map.2 ⟨r, hr1, hr2⟩
        · intro p hp ho
          rcases h8 with h8 | h8
          · rcases h8 p hp with h | h
            · rw [h] at ho; cases ho
            · exact .inl h
          · exact .inr fun x hx hbx q hq => h8 x hx hbx q hq
        · rintro ⟨p, hp, ho⟩ q hq
          rcases h9 with h9 | h9
          · exact h9 q hq
          · rw [h9 p hp] at ho; cases ho
theorem regLoop_seq {I : Interp} {ρ : Env} {P : Program} {call : CallT} {ops : Array Oper} {pm : List Nat} {ds : List (Nat × Nat × Nat)} {Φ : F → Prop} : ∀ {l : List Oper} {i : Nat} {g : RG}, (regLoop P call ops pm ds i l g).vc I ρ Φ → g.s.known.Ok I ρ →
    ∃ G : Nat → RG, G i = g ∧ Φ ⟨(G (i + l.length)).fr, (G (i + l.length)).s⟩ ∧ ∀ k o, l[k]? = some o → ∃ r, SF I ρ P call ops ds (pm.getD (i + k) 0) (i + k) o (G (i + k)) (G (i + k + 1)) r
  | [], i, g, h, hk => ⟨fun _ => g, rfl, h, fun k o hk => by simp at hk⟩
  | o :: r, i, g, h, hk => by
    unfold regLoop at h
    obtain ⟨g1, r1, hs, h⟩ := regStep_fact h hk
    rw [natF_eq] at h
    obtain ⟨G, h1, h2, h3⟩ := regLoop_seq h hs.kn
    refine ⟨fun j => if j ≤ i then g else G j, by simp, ?_, fun k o' hk => ?_⟩
    · simp only [List.length_cons]
      rw [if_neg (by omega)]
      rw [show i + (r.length + 1) = i + 1 + r.length by omega]
      exact h2
    · cases k with
      | zero =>
        simp only [List.getElem?_cons_zero, Option.some.injEq] at hk
        subst hk
        simp only [Nat.add_zero, Nat.le_refl, if_true]
        rw [if_neg (by omega), h1]
        exact ⟨r1, hs⟩
      | succ k =>
        simp only [List.getElem?_cons_succ] at hk
        have := h3 k o' hk
        simp only
        rw [if_neg (by omega), if_neg (by omega)]
        rw [show i + (k + 1) = i + 1 + k by omega]
        exact this
theorem opTr_sel {I : Interp} {ρ : Env} {P : Program} {ev : Operand → Option V} {o : Op} {v : V} {s' : S} : ∀ {n : Nat} {s : S}, (opTr P ev o n s).sel I ρ = some (v, s') → s.known.Ok I ρ → ∃ s1 : S, s1.known.Ok I ρ ∧ s1.blks = s.blks ∧ s1.nb = s.nb ∧ opS P ev s1 o = .ok v s'
  | 0, s, h, hk => by cases h
  | n + 1, s, h, hk => by
    unfold opTr at h
    split at h
    · rename_i v1 s1 ho
      injection h with h
      obtain ⟨h1, h2⟩ := Prod.mk.inj h
      subst h1 h2
      exact ⟨s, hk, rfl, rfl, ho⟩
    · rename_i q ho
      simp only [B.force_eq, S.assumeK_eq, Tree.sel] at h
      cases hq : q.den I ρ with
      | true =>
        rw [if_pos hq] at h
        obtain ⟨s1, h1, h2, h3, h4⟩ := opTr_sel h (Known.add_ok hk hq)
        exact ⟨s1, h1, h2, h3, h4⟩
      | false =>
        rw [if_neg (by simp [hq])] at h
        obtain ⟨s1, h1, h2, h3, h4⟩ := opTr_sel h (Known.add_ok hk hq)
        exact ⟨s1, h1, h2, h3, h4⟩
    · cases h
theorem maskOf_bit (pm : List Nat) {k : Nat} : ∀ (es : List Edge) (m : Nat), bit (es.foldl (fun m e => bif Region.binds .any e then m ||| (2 ^ e.on ||| pm.getD e.on 0) else m) m) k = true → bit m k = true ∨ ∃ e ∈ es, Region.binds .any e = true ∧ (k = e.on ∨ bit (pm.getD e.on 0) k = true)
  | [], m, h => .inl h
  | e :: es, m, h => by
    simp only [List.foldl_cons] at h
    rcases maskOf_bit pm es _ h with h | ⟨e', h1, h2⟩
    · cases hb : Region.binds .any e with
      | false => rw [hb] at h; exact .inl h
      | true =>
        rw [hb] at h
        simp only [cond_true, bit, Nat.testBit_or, Bool.or_eq_true, Nat.testBit_two_pow, decide_eq_true_eq] at h
        rcases h with h | h | h
        · exact .inl h
        · exact .inr ⟨e, .head _, hb, .inl h.symm⟩
        · exact .inr ⟨e, .head _, hb, .inr h⟩
    · exact .inr ⟨e', .tail _ h1, h2⟩
theorem masks_pre : ∀ (l : List Oper) (pm : List Nat), ∃ q, masks l pm = pm ++ q
  | [], pm => ⟨[], by simp [masks]⟩
  | o :: r, pm => by
    obtain ⟨q, hq⟩ := masks_pre r (pm ++ [maskOf pm o.after.toList])
    exact ⟨[maskOf pm o.after.toList] ++ q, by rw [masks, hq]; simp⟩
theorem masks_bit (l : List Oper) : ∀ (pm : List Nat) (k : Nat) (o : Oper) (j : Nat), l[k]? = some o → bit ((masks l pm).getD (pm.length + k) 0) j = true →
    ∃ e ∈ o.after, Region.binds .any e = true ∧ (j = e.on ∨ bit ((masks l pm).getD e.on 0) j = true) := by
  induction l with
  | nil => intro pm k o j hk; simp at hk
  | cons o r ih =>
    intro pm k o' j hk hb
    cases k with
    | zero =>
      simp only [List.getElem?_cons_zero, Option.some.injEq] at hk
      subst hk
      obtain ⟨q, hq⟩ := masks_pre r (pm ++ [maskOf pm o.after.toList])
      have hm : masks (o :: r) pm = pm ++ ([maskOf pm o.after.toList] ++ q) := by rw [masks, hq]; simp
      rw [hm] at hb ⊢
      have : (pm ++ ([maskOf pm o.after.toList] ++ q)).getD (pm.length + 0) 0 = maskOf pm o.after.toList := by simp [List.getD_eq_getElem?_getD]
      rw [this] at hb
      rcases maskOf_bit pm _ 0 hb with h | ⟨e, h1, h2, h3⟩
      · simp [bit] at h
      · refine ⟨e, by simpa using h1, h2, h3.imp id fun h => ?_⟩
        by_cases he : e.on < pm.length
        · rw [List.getD_eq_getElem?_getD, List.getElem?_append_left he, ← List.getD_eq_getElem?_getD]; exact h
        · rw [List.getD_eq_getElem?_getD, List.getElem?_eq_none (by omega)] at h; simp [bit] at h
    | succ k =>
      simp only [List.getElem?_cons_succ] at hk
      rw [masks] at hb ⊢
      refine ih (pm ++ [maskOf pm o.after.toList]) k o' j hk ?_
      rw [show (pm ++ [maskOf pm o.after.toList]).length + k = pm.length + (k + 1) by simp; omega]
      exact hb
theorem dstsOf_mem (pm : List Nat) (l : List Oper) : ∀ (i k : Nat) (o : Oper) (d : Nat), l[k]? = some o → o.dst = some d → (i + k, d, pm.getD (i + k) 0) ∈ dstsOf pm i l := by
  induction l with
  | nil => intro i k o d hk; simp at hk
  | cons o r ih =>
    intro i k o' d hk hd
    cases k with
    | zero =>
      simp only [List.getElem?_cons_zero, Option.some.injEq] at hk
      subst hk
      unfold dstsOf
      rw [hd]
      exact .head _
    | succ k =>
      simp only [List.getElem?_cons_succ] at hk
      have := ih (i + 1) k o' d hk hd
      rw [show i + 1 + k = i + (k + 1) by omega] at this
      unfold dstsOf
      split
      · exact .tail _ this
      · exact this
theorem distinct_spec (pm : List Nat) : ∀ (l : List Oper) (i : Nat), distinctD (dstsOf pm i l) = true → ∀ p ∈ dstsOf pm i l, ∀ q ∈ dstsOf pm i l, p.2.1 = q.2.1 → p = q := by
  have gen : ∀ (l : List (Nat × Nat × Nat)), distinctD l = true → ∀ p ∈ l, ∀ q ∈ l, p.2.1 = q.2.1 → p = q := by
    intro l
    induction l with
    | nil => intro _ p hp; cases hp
    | cons x r ih =>
      intro h p hp q hq e
      simp only [distinctD, Bool.and_eq_true, List.all_eq_true, Bool.not_eq_true'] at h
      rcases List.mem_cons.1 hp with e1 | hp' <;> rcases List.mem_cons.1 hq with e2 | hq'
      · rw [e1, e2]
      · subst e1; have := h.1 q hq'; rw [e] at this; simp at this
      · subst e2; have := h.1 p hp'; rw [e] at this; simp at this
      · exact ih h.2 p hp' q hq' e
  intro l i h
  exact gen _ h
end Go.Proofs.Ythkkipkhofkpmaa.Sx

