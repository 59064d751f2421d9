import Derived.Test.YthkkipkhofkpmaaQSx8
set_option linter.all false
set_option autoImplicit false
namespace Go.Proofs.Ythkkipkhofkpmaa.Sx
open Go Go.RowKit
open Classical
section
variable {P : Program} {I : Interp} {ρ : Env} {call : CallT} {ops : Array Oper} {pm : List Nat} {f : F} {G : Nat → RG} {R : Nat → RS} (hr : Runs I ρ P call ops pm f G R)
variable {w0 w : World} {X : Nat → Prop} {βs β : Nat → Nat} {D : Nat → Prop} {fr : Fr} {df : List Deferred} (hi : RInv I ρ ops pm f R w0 X βs D β fr w)
variable (hf0 : ∀ p ∈ f.s.blks, ∀ id ∈ idsOf p.2.cells, id < f.s.nb) (hfr : f.wf) (hkn : f.s.known.Ok I ρ)
def mix (β β' : Nat → Nat) (a b : Nat) : Nat → Nat := fun id => if a ≤ id ∧ id < b then β' id else β id
theorem mix_out {β β' : Nat → Nat} {a b id : Nat} (h : ¬ (a ≤ id ∧ id < b)) : mix β β' a b id = β id := by unfold mix; rw [if_neg h]
theorem mix_lt {β β' : Nat → Nat} {a b id : Nat} (hag : ∀ id, id < a → β' id = β id) (h : id < b) : mix β β' a b id = β' id := by
  unfold mix
  split
  · rfl
  · rw [hag id (by omega)]
include hr hi hf0 hfr
theorem advance {i : Nat} {o : Oper} (ho : ops[i]? = some o) (hnd : ¬ D i) (hp : ∀ e ∈ o.after, Region.binds .any e = true → D e.on) {β' : Nat → Nat} {w1 : World}
    (a1 : ∀ id, id < (R i).nb → β' id = β id)
    (a2 : (∀ id ∈ (R i).v.ids, id < (R i).nb') ∧ (∀ p ∈ (R i).nw, ∀ id ∈ idsOf p.2.cells, id < (R i).nb') ∧ ∀ q ∈ (R i).wr, ∀ id ∈ idsOf q.2, id < (R i).nb')
    (a3 : ∀ p ∈ (R i).nw, p.2.live = true → RowP I ρ β' w1 p.1 p.2)
    (a3o : ∀ p ∈ (R i).nw, p.2.isOpq = true → I.opq.held w1 (I.opq.dec (β' p.1)) (numsOf I ρ p.2.cells))
    (a4o : ∀ p, Base f R D p → p.2.isOpq = true → I.opq.held w1 (I.opq.dec (β p.1)) (numsOf I ρ (cont (fun j => (R j).wr) (fun j => j = i ∨ D j) ops.size p.1 p.2.cells)))
    (aL : ∀ p, Base f R D p → (now R ops.size (fun j => j = i ∨ D j) p).live = true → (now R ops.size D p).live = true)
    (a4 : ∀ p, Base f R D p → (now R ops.size (fun j => j = i ∨ D j) p).live = true → RowP I ρ (mix β β' (R i).nb (R i).nb') w1 p.1 (now R ops.size (fun j => j = i ∨ D j) p))
    (a5 : ∀ p ∈ (R i).nw, p.2.live = true → (w.heap.size ≤ β' p.1 ∨ ∃ q, Base f R D q ∧ (now R ops.size D q).live = true ∧ (now R ops.size (fun j => j = i ∨ D j) q).live = false ∧ β' p.1 = β q.1) ∧ ∀ q ∈ (R i).nw, q.2.live = true → β' p.1 = β' q.1 → p.1 = q.1)
    (a5o : ∀ p ∈ (R i).nw, p.2.isOpq = true → (∀ q ∈ (R i).nw, q.2.live = true → I.opq.blk (I.opq.dec (β' p.1)) ≠ some (β' q.1)) ∧ ∀ q, Base f R D q → (now R ops.size (fun j => j = i ∨ D j) q).live = true → I.opq.blk (I.opq.dec (β' p.1)) ≠ some (β q.1))
    (a5u : ∀ p ∈ (R i).nw, ∀ q ∈ (R i).nw, p.1 = q.1 → p.2 = q.2)
    (a6 : Keeps X w0 w1) :
    ∃ β2 fr2, (actOf df I ρ β fr).put o.dst ((R i).v.den I ρ β') = actOf df I ρ β2 fr2 ∧ RInv I ρ ops pm f R w0 X βs (fun j => j = i ∨ D j) β2 fr2 w1 := by
  have hin : i < ops.size := (Array.getElem?_eq_some_iff.1 ho).1
  have hnb0 := nb_zero hr hin
  refine ⟨mix β β' (R i).nb (R i).nb', setF fr o.dst (R i).v, ?_, ?_⟩
  · rw [show actOf df I ρ β fr = actOf df I ρ (mix β β' (R i).nb (R i).nb') fr from ?_]
    · rw [← V.den_ids (β' := mix β β' (R i).nb (R i).nb') (β := β') (fun id hid => mix_lt a1 (a2.1 id hid)), put_ok fr (by rw [hi.len]; exact hr.deep)]
    · unfold actOf
      congr 2
      exact List.map_congr_left fun t _ => (V.den_ids fun id hid => mix_out (frAvoid hr hi hfr hin hnd t id hid)).symm
  · have hbase : ∀ p, Base f R D p → mix β β' (R i).nb (R i).nb' p.1 = β p.1 := fun p hp => mix_out (baseId hr hi hin hnd hp)
    have hnew : ∀ p ∈ (R i).nw, mix β β' (R i).nb (R i).nb' p.1 = β' p.1 := fun p hp => mix_lt a1 ((hr.st i o ho).nw p hp).2
    have hlt : ∀ p, Base f R D p → (now R ops.size D p).live = true → β p.1 < w.heap.size := fun p hp ho => (hi.row p hp ho).lt (Blk.live_dead ho)
    have hsplit : ∀ p, Base f R (fun j => j = i ∨ D j) p → Base f R D p ∨ p ∈ (R i).nw := by
      rintro p (hp | ⟨j, rfl | hj, hp⟩)
      · exact .inl (.inl hp)
      · exact .inr hp
      · exact .inl (.inr ⟨j, hj, hp⟩)
    have hcn : ∀ p ∈ (R i).nw, cont (fun j => (R j).wr) (fun j => j = i ∨ D j) ops.size p.1 p.2.cells = p.2.cells := by
      intro p hp'
      have hnw := (hr.st i o ho).nw p hp'
      rw [cont_none]
      · intro j hj hD
        cases hw : wrOf (R j).wr p.1 with
        | none => rfl
        | some cs =>
          exfalso
          have hm := wrOf_mem hw
          have hl := hr.wlt hj hm
          simp only at hl
          rcases hD with rfl | hD
          · omega
          · by_cases hji : j < i
            · have := nb_le hr hji hin; have := (hr.nb hj).2.2; omega
            · have hij : i < j := by
                have : j ≠ i := fun h => hnd (h ▸ hD)
                omega
              have hb : bit (pm.getD j 0) i = false := by
                cases h : bit (pm.getD j 0) i with
                | false => rfl
                | true => exact absurd (hi.closed j hD i h) hnd
              obtain ⟨oj, hoj⟩ := hr.op hj
              have sj := hr.st j oj hoj
              exact ((sj.see _ (sj.wr _ hm)).2 (i, R i) ((hr.rs (by omega) _).2 ⟨i, hij, rfl⟩) hb).2 hnw
    have hnow : ∀ p ∈ (R i).nw, now R ops.size (fun j => j = i ∨ D j) p = p.2 := fun p hp => by unfold now; rw [hcn p hp]
    have hkd : ∀ p, Base f R D p → (now R ops.size (fun j => j = i ∨ D j) p).live = true → ∀ q, Base f R D q → (now R ops.size D q).live = true → (now R ops.size (fun j => j = i ∨ D j) q).live = false → β p.1 ≠ β q.1 := fun p hp hpl q hq hql hqd e => by
      have e1 := hi.inj p hp (aL p hp hpl) q hq hql e
      have e2 := hi.uniq p hp q hq e1
      have e3 : p = q := by obtain ⟨a, b⟩ := p; obtain ⟨c, d⟩ := q; simp only at e1 e2; rw [e1, e2]
      rw [e3, hqd] at hpl
      cases hpl
    refine ⟨?_, by rw [setF_sz, hi.len], ?_, ?_, ?_, ?_, ?_, ?_, ?_, a6, ?_, ?_, hi.hyp⟩
    · intro id hid; rw [mix_out (by omega)]; exact hi.agr id hid
    · intro t
      have keep : getF (setF fr o.dst (R i).v) t = getF fr t → o.dst ≠ some t → (∃ j, (j = i ∨ D j) ∧ ∃ o', ops[j]? = some o' ∧ o'.dst = some t ∧ getF (setF fr o.dst (R i).v) t = (R j).v) ∨ ((∀ j, (j = i ∨ D j) → ∀ o', ops[j]? = some o' → o'.dst ≠ some t) ∧ getF (setF fr o.dst (R i).v) t = getF f.fr t) := fun hk hne => by
        rcases hi.val t with ⟨j, hj, oj, h1, h2, h3⟩ | ⟨h1, h2⟩
        · exact Or.inl ⟨j, Or.inr hj, oj, h1, h2, by rw [hk, h3]⟩
        · refine Or.inr ⟨fun j hj oj hoj => ?_, by rw [hk, h2]⟩
          rcases hj with rfl | hj
          · rw [ho] at hoj; injection hoj with hoj; subst hoj; exact hne
          · exact h1 j hj oj hoj
      cases hd : o.dst with
      | none => rw [hd] at keep; exact keep rfl (by simp)
      | some d =>
        by_cases e : t = d
        · subst e
          refine .inl ⟨i, .inl rfl, o, ho, hd, ?_⟩
          rw [getF_setF (by rw [hi.len]; exact hr.deep), if_pos ⟨rfl, by rw [hi.len]; exact hr.dlt ho hd⟩]
        · rw [hd] at keep
          exact keep (by rw [getF_setF (by rw [hi.len]; exact hr.deep), if_neg (by simp [e])]) (by simp; exact fun h => e h.symm)
    · rintro j (rfl | hj)
      · exact a2
      · exact hi.wfs j hj
    · intro p hpb hpo
      rcases hsplit p hpb with hp' | hp'
      · exact a4 p hp' hpo
      · rw [hnow p hp'] at hpo ⊢
        exact (a3 p hp' hpo).ids (hnew p hp') (fun id hid => mix_lt a1 (a2.2.1 p hp' id hid))
    · intro p hpb hpo q hqb hqo e
      rcases hsplit p hpb with hp' | hp' <;> rcases hsplit q hqb with hq' | hq'
      · rw [hbase p hp', hbase q hq'] at e; exact hi.inj p hp' (aL p hp' hpo) q hq' (aL q hq' hqo) e
      · rw [hbase p hp', hnew q hq'] at e
        rw [hnow q hq'] at hqo
        rcases (a5 q hq' hqo).1 with h | ⟨q0, h1, h2, h3, h4⟩
        · have := hlt p hp' (aL p hp' hpo); omega
        · exact absurd (e.trans h4) (hkd p hp' hpo q0 h1 h2 h3)
      · rw [hnew p hp', hbase q hq'] at e
        rw [hnow p hp'] at hpo
        rcases (a5 p hp' hpo).1 with h | ⟨q0, h1, h2, h3, h4⟩
        · have := hlt q hq' (aL q hq' hqo); omega
        · exact absurd (e.symm.trans h4) (hkd q hq' hqo q0 h1 h2 h3)
      · rw [hnew p hp', hnew q hq'] at e
        rw [hnow p hp'] at hpo
        rw [hnow q hq'] at hqo
        exact (a5 p hp' hpo).2 q hq' hqo e
    · intro p hpb hpo
      rcases hsplit p hpb with hp' | hp'
      · rw [hbase p hp']
        refine ⟨a4o p hp' hpo, fun q hqb hqo => ?_⟩
        rcases hsplit q hqb with hq' | hq'
        · rw [hbase q hq']; exact (hi.held p hp' hpo).2 q hq' (aL q hq' hqo)
        · rw [hnew q hq']
          rw [hnow q hq'] at hqo
          intro e
          rcases (a5 q hq' hqo).1 with h | ⟨q0, h1, h2, h3, h4⟩
          · have := I.opq.lt w _ _ (hi.held p hp' hpo).1 _ e
            omega
          · rw [h4] at e
            exact (hi.held p hp' hpo).2 q0 h1 h2 e
      · rw [hnew p hp', hcn p hp']
        refine ⟨a3o p hp' hpo, fun q hqb hqo => ?_⟩
        rcases hsplit q hqb with hq' | hq'
        · rw [hbase q hq']; exact (a5o p hp' hpo).2 q hq' hqo
        · rw [hnow q hq'] at hqo
          rw [hnew q hq']; exact (a5o p hp' hpo).1 q hq' hqo
    · intro p hpb q hqb e
      rcases hsplit p hpb with hp' | hp' <;> rcases hsplit q hqb with hq' | hq'
      · exact hi.uniq p hp' q hq' e
      · have h1 := (hr.st i o ho).nw q hq'; rw [← e] at h1; exact absurd h1 (baseId hr hi hin hnd hp')
      · have h1 := (hr.st i o ho).nw p hp'; rw [e] at h1; exact absurd h1 (baseId hr hi hin hnd hq')
      · exact a5u p hp' q hq' e
    · intro p hpb hpo
      rcases hsplit p hpb with hp' | hp'
      · rw [hbase p hp']; exact hi.own p hp' (aL p hp' hpo)
      · rw [hnew p hp']
        rw [hnow p hp'] at hpo
        rcases (a5 p hp' hpo).1 with h | ⟨q0, h1, h2, h3, h4⟩
        · have := hi.keeps.size; omega
        · rw [h4]; exact hi.own q0 h1 h2
    · rintro j (rfl | hj) k hk
      · exact .inr (preD hr hi ho hp hk)
      · exact .inr (hi.closed j hj k hk)
    · rintro j (rfl | hj)
      · exact hin
      · exact hi.bound j hj
theorem seeD {i : Nat} {o : Oper} (ho : ops[i]? = some o) (hnd : ¬ D i) (hp : ∀ e ∈ o.after, Region.binds .any e = true → D e.on) {T : List (Nat × Blk)} (hT : ∀ p ∈ T, p ∈ (G i).s.blks) (hs : (R i).see = T.map (·.1)) {kn : Known} (hkn : kn.Ok I ρ) :
    WR I ρ w (fun g => ∃ p ∈ T, p.2.live = true ∧ g = β p.1) (G i).s.nb β β ⟨T, (G i).s.nb, kn⟩ w ∧ ∀ p ∈ T, ∃ b0, Base f R D (p.1, b0) ∧ p.2 = now R ops.size D (p.1, b0) := by
  have hin : i < ops.size := (Array.getElem?_eq_some_iff.1 ho).1
  have sf := hr.st i o ho
  have hsee : ∀ p ∈ T, p.1 ∈ (R i).see := fun p hp => by rw [hs]; exact List.mem_map.2 ⟨p, hp, rfl⟩
  have hbit : ∀ {id j : Nat}, id ∈ (R i).see → j < i → wrOf (R j).wr id ≠ none → D j := fun {id j} hid hj hw => by
    cases h : bit (pm.getD i 0) j with
    | true => exact preD hr hi ho hp h
    | false =>
      exfalso
      obtain ⟨cs, hcs⟩ := Option.ne_none_iff_exists'.1 hw
      exact ((sf.see id hid).2 (j, R j) ((hr.rs (by omega) _).2 ⟨j, hj, rfl⟩) h).1 _ (wrOf_mem hcs) rfl
  have hwho : ∀ {id j : Nat}, id ∈ (R i).see → j < ops.size → wrOf (R j).wr id ≠ none → (D j ↔ j < i) := fun {id j} hid hjn hw => by
    constructor
    · intro hD
      by_cases hji : j < i
      · exact hji
      · exfalso
        have hij : i < j := by
          have : j ≠ i := fun h => hnd (h ▸ hD)
          omega
        have hb : bit (pm.getD j 0) i = false := by
          cases h : bit (pm.getD j 0) i with
          | false => rfl
          | true => exact absurd (hi.closed j hD i h) hnd
        obtain ⟨oj, hoj⟩ := hr.op hjn
        obtain ⟨cs, hcs⟩ := Option.ne_none_iff_exists'.1 hw
        exact (hr.st j oj hoj).apart (i, R i) ((hr.rs (by omega) _).2 ⟨i, hij, rfl⟩) hb _ (wrOf_mem hcs) hid
    · intro hji; exact hbit hid hji hw
  have hbase : ∀ p ∈ T, ∃ b0, Base f R D (p.1, b0) ∧ b0.ty = p.2.ty ∧ p.2.cells = cont (fun j => (R j).wr) D ops.size p.1 b0.cells := fun p hpT => by
    obtain ⟨b0, h1, h2, h3⟩ := (hr.blks (i := i) (by omega)).2 p (hT p hpT)
    refine ⟨b0, ?_, h2, ?_⟩
    · rcases h1 with h1 | ⟨c, hc, h1⟩
      · exact .inl h1
      · refine .inr ⟨c, ?_, h1⟩
        cases h : bit (pm.getD i 0) c with
        | true => exact preD hr hi ho hp h
        | false =>
          exfalso
          obtain ⟨oc, hoc⟩ := hr.op (i := c) (by omega)
          exact ((sf.see _ (hsee p hpT)).2 (c, R c) ((hr.rs (by omega) _).2 ⟨c, hc, rfl⟩) h).2 ((hr.st c oc hoc).nw (p.1, b0) h1)
    · rw [h3]
      exact (cont_to _ (by omega) (fun j hj hw => hwho (hsee p hpT) hj hw)).symm
  have hnb := (hr.nb hin).1
  have hio : ∀ {b1 b2 : Blk}, b1.ty = b2.ty → b1.isOpq = b2.isOpq := fun e => by unfold Blk.isOpq; rw [e]
  have hbn : ∀ p ∈ T, ∃ b0, Base f R D (p.1, b0) ∧ p.2 = now R ops.size D (p.1, b0) := fun p hpT => by
    obtain ⟨b0, h1, h2, h3⟩ := hbase p hpT
    refine ⟨b0, h1, ?_⟩
    obtain ⟨a, ty, cs⟩ := p
    simp only at h2 h3
    unfold now
    rw [h3, h2]
  refine ⟨⟨?_, ?_, ?_, ?_, ?_, ?_, ?_, ?_, Nat.le_refl _, fun _ _ => rfl, Keeps.refl _ _, ?_⟩, hbn⟩
  · intro p hpT hpo
    obtain ⟨b0, h1, h2⟩ := hbn p hpT
    rw [h2] at hpo ⊢
    exact hi.row _ h1 hpo
  · intro p hpT hpo q hqT hqo e
    obtain ⟨b1, h1, k1⟩ := hbn p hpT
    obtain ⟨b2, h2, k2⟩ := hbn q hqT
    rw [k1] at hpo
    rw [k2] at hqo
    exact hi.inj (p.1, b1) h1 hpo (q.1, b2) h2 hqo e
  · intro p hpT
    exact (hr.blks (i := i) (by omega)).1 p (hT p hpT)
  · intro p hpT
    refine idsOf_wf.2 fun id hid => ?_
    obtain ⟨b0, h1, h2, h3⟩ := hbase p hpT
    show id < (G i).s.nb
    rw [← hnb]
    rw [h3] at hid
    rcases cont_ids _ id hid with h | ⟨j, hj, hD, cs, hw, hm⟩
    · rcases h1 with h1 | ⟨c, hc, h1⟩
      · have := hf0 _ h1 id h; have := nb_zero hr hin; omega
      · have h4 := (hi.wfs c hc).2.1 _ h1 id h
        have hne : c ≠ i := fun e => hnd (e ▸ hc)
        by_cases hci : c < i
        · have := nb_le hr hci hin; omega
        · exfalso
          have hij : i < c := by omega
          have hcn := hi.bound c hc
          obtain ⟨oc, hoc⟩ := hr.op hcn
          have h5 := (hr.st c oc hoc).nw (p.1, b0) h1
          have h6 := (hr.blks (i := i) (by omega)).1 p (hT p hpT)
          have h7 := nb_le hr hij hcn
          have h8 := (hr.nb hin).2.2
          simp only at h5
          omega
    · have hji := (hwho (hsee p hpT) hj (by rw [hw]; simp)).1 hD
      have h4 := (hi.wfs j hD).2.2 _ (wrOf_mem hw) id hm
      have := nb_le hr hji hin
      omega
  · intro p hpT hpo; exact .inl ⟨p, hpT, hpo, rfl⟩
  · intro p hpT hpo
    obtain ⟨b0, h1, h2, h3⟩ := hbase p hpT
    obtain ⟨a1, a2⟩ := hi.held _ h1 ((hio h2).trans hpo)
    refine ⟨by rw [h3]; exact a1, fun q hqT hqo => ?_⟩
    obtain ⟨b2, k1, k2⟩ := hbn q hqT
    rw [k2] at hqo
    exact a2 (q.1, b2) k1 hqo
  · intro p hpT q hqT e
    obtain ⟨b1, h1, k1⟩ := hbn p hpT
    obtain ⟨b2, h2, k2⟩ := hbn q hqT
    have := hi.uniq (p.1, b1) h1 (q.1, b2) h2 e
    simp only at this
    rw [k1, k2, this, e]
  · exact hkn
  · intro p hp
    obtain ⟨h1, h2⟩ := hi.hyp p hp
    have hlt := (Array.getElem?_eq_some_iff.1 h1).1
    refine ⟨(hi.keeps.block _ hlt h2).trans h1, ?_⟩
    rintro ⟨q, hq, hqo, e⟩
    obtain ⟨b0, hb, k⟩ := hbn q hq
    rw [k] at hqo
    rcases hi.own (q.1, b0) hb hqo with h | h
    · exact h2 (e ▸ h)
    · simp only at h; omega
theorem ranD {i : Nat} {o : Oper} (ho : ops[i]? = some o) (hnd : ¬ D i) (hp : ∀ e ∈ o.after, Region.binds .any e = true → D e.on) {T : List (Nat × Blk)} {s' : S} (hT : ∀ p ∈ T, p ∈ (G i).s.blks) (hs : (R i).see = T.map (·.1))
    (hb : ∀ p ∈ T, ∃ b0, Base f R D (p.1, b0) ∧ p.2 = now R ops.size D (p.1, b0)) (hdw : ∀ q ∈ (R i).wr, ∀ p ∈ T, p.1 = q.1 → p.2.dead = false) {kn : Known} (hW : WR I ρ w (fun g => ∃ p ∈ T, p.2.live = true ∧ g = β p.1) (G i).s.nb β β ⟨T, (G i).s.nb, kn⟩ w)
    (hd : diffs s'.blks T = some (R i).wr) (hnw : (R i).nw = s'.blks.filter (fun p => Nat.ble (G i).s.nb p.1)) (hnb' : (R i).nb' = s'.nb) (hvw : (R i).v.wf s'.nb = true) {β' : Nat → Nat} {w1 : World}
    (h1 : WR I ρ w (fun g => ∃ p ∈ T, p.2.live = true ∧ g = β p.1) (G i).s.nb β β' s' w1) :
    ∃ β2 fr2, (actOf df I ρ β fr).put o.dst ((R i).v.den I ρ β') = actOf df I ρ β2 fr2 ∧ RInv I ρ ops pm f R w0 X βs (fun j => j = i ∨ D j) β2 fr2 w1 := by
  have hin : i < ops.size := (Array.getElem?_eq_some_iff.1 ho).1
  have hnb := (hr.nb hin).1
  obtain ⟨d1, d2, d3⟩ := diffs_spec hd
  have hTlt : ∀ p ∈ T, p.1 < (R i).nb := fun p hpT => by rw [hnb]; exact hW.idlt p hpT
  have a1 : ∀ id, id < (R i).nb → β' id = β id := fun id hid => h1.agr id (by omega)
  have hcw : ∀ {id : Nat} {b : Blk}, (id, b) ∈ s'.blks → ∀ x ∈ idsOf b.cells, x < (R i).nb' := fun {id b} hm x hx => by rw [hnb']; exact idsOf_wf.1 (h1.cwf _ hm) x hx
  have hnws : ∀ p ∈ (R i).nw, p ∈ s'.blks ∧ (R i).nb ≤ p.1 := fun p hpn => by
    rw [hnw] at hpn
    have := List.mem_filter.1 hpn
    exact ⟨this.1, by rw [hnb]; simpa using this.2⟩
  have hio : ∀ {b1 b2 : Blk}, b1.ty = b2.ty → b1.isOpq = b2.isOpq := fun e => by unfold Blk.isOpq; rw [e]
  have hX : ∀ g, (∃ p ∈ T, p.2.live = true ∧ g = β p.1) → X g ∨ w0.heap.size ≤ g := by
    rintro g ⟨p, hpT, hpo, rfl⟩
    obtain ⟨b0, hb0, ho0⟩ := hb p hpT
    rw [ho0] at hpo
    exact hi.own (p.1, b0) hb0 hpo
  have hTo : ∀ {p : Nat × Blk}, Base f R D p → p.1 ∈ T.map (·.1) → ∃ q ∈ T, q.1 = p.1 ∧ q.2 = now R ops.size D p := fun {p} hp hm => by
    obtain ⟨q, hq, e⟩ := List.mem_map.1 hm
    obtain ⟨b0, hb0, ho0⟩ := hb q hq
    refine ⟨q, hq, e, ?_⟩
    have e2 := hi.uniq (q.1, b0) hb0 p hp e
    simp only at e2
    rw [ho0]
    unfold now
    simp only
    rw [e2, e]
  have happ : ∀ {id : Nat}, id ∈ T.map (·.1) → ∀ j, D j → i < j → wrOf (R j).wr id = none := fun {id} hin' j hj hij => by
    cases hw : wrOf (R j).wr id with
    | none => rfl
    | some cs =>
      exfalso
      have hjn := hi.bound j hj
      obtain ⟨oj, hoj⟩ := hr.op hjn
      have hbf : bit (pm.getD j 0) i = false := by
        cases h : bit (pm.getD j 0) i with
        | false => rfl
        | true => exact absurd (hi.closed j hj i h) hnd
      exact (hr.st j oj hoj).apart (i, R i) ((hr.rs (by omega) _).2 ⟨i, hij, rfl⟩) hbf _ (wrOf_mem hw) (by rw [hs]; exact hin')
  have hwn0 : ∀ {id : Nat}, id ∉ T.map (·.1) → wrOf (R i).wr id = none := fun {id} hin' => by
    cases hw : wrOf (R i).wr id with
    | none => rfl
    | some cs => exact absurd (d1 _ (wrOf_mem hw)) hin'
  have hout : ∀ {p : Nat × Blk}, p.1 ∉ T.map (·.1) → now R ops.size (fun j => j = i ∨ D j) p = now R ops.size D p := fun {p} hno => by
    unfold now; rw [cont_skip _ (hwn0 hno)]
  have hpost : ∀ {p : Nat × Blk}, Base f R D p → p.1 ∈ T.map (·.1) → ∃ q ∈ T, q.1 = p.1 ∧ q.2 = now R ops.size D p ∧ (p.1, now R ops.size (fun j => j = i ∨ D j) p) ∈ s'.blks ∧ (q.2.dead = false ∨ now R ops.size (fun j => j = i ∨ D j) p = now R ops.size D p) := fun {p} hp hm => by
    obtain ⟨q, hq, e, qn⟩ := hTo hp hm
    obtain ⟨b, h2, h3, h4⟩ := d3 q hq
    have hty : b.ty = p.2.ty := by rw [h3, qn]; rfl
    rw [e] at h2 h4
    rcases h4 with ⟨h5, h6⟩ | h5
    · have e1 : now R ops.size (fun j => j = i ∨ D j) p = now R ops.size D p := by unfold now; rw [cont_skip _ h5]
      refine ⟨q, hq, e, qn, ?_, .inr e1⟩
      rw [e1, ← qn]
      have : q.2 = b := by obtain ⟨a, ty, cs⟩ := q; obtain ⟨ty2, cs2⟩ := b; simp only at h3 h6; rw [h3, h6]
      rw [this]
      exact findIn_mem h2
    · refine ⟨q, hq, e, qn, ?_, .inl (hdw _ (wrOf_mem h5) q hq e)⟩
      have : now R ops.size (fun j => j = i ∨ D j) p = b := by
        unfold now
        rw [cont_add _ h5 hin (happ hm), ← hty]
      rw [this]
      exact findIn_mem h2
  have aL : ∀ p, Base f R D p → (now R ops.size (fun j => j = i ∨ D j) p).live = true → (now R ops.size D p).live = true := fun p hp hl => by
    by_cases hm : p.1 ∈ T.map (·.1)
    · obtain ⟨q, hq, e, qn, -, h | h⟩ := hpost hp hm
      · rw [← qn]
        refine Blk.live_of ?_ h
        rw [qn]
        exact (Blk.live_opq hl : (now R ops.size (fun j => j = i ∨ D j) p).isOpq = false)
      · rw [← h]; exact hl
    · rw [← hout hm]; exact hl
  refine advance hr hi hf0 hfr ho hnd hp a1 ⟨?_, ?_, ?_⟩ ?_ ?_ ?_ aL ?_ ?_ ?_ ?_ ?_
  · rw [hnb']; exact V.ids_wf.1 hvw
  · intro p hpn; exact hcw (hnws p hpn).1
  · intro q hq
    obtain ⟨b, h2, h3⟩ := d2 q hq
    rw [h3]
    exact hcw (findIn_mem h2)
  · intro p hpn hpo; exact h1.row p (hnws p hpn).1 hpo
  · intro p hpn hpo; exact (h1.held p (hnws p hpn).1 hpo).1
  · intro p hpb hpo
    obtain ⟨k1, k2⟩ := hi.held p hpb hpo
    have keep : I.opq.held w1 (I.opq.dec (β p.1)) (numsOf I ρ (cont (fun j => (R j).wr) D ops.size p.1 p.2.cells)) :=
      I.opq.keep w w1 _ _ k1 (fun g hg => h1.keeps.block g (I.opq.lt w _ _ k1 g hg) (fun ⟨q, hq, hqo, eg⟩ => by
        obtain ⟨b0, hb0, ho0⟩ := hb q hq
        rw [ho0] at hqo
        exact k2 (q.1, b0) hb0 hqo (by rw [hg, eg])))
    by_cases hin' : p.1 ∈ T.map (·.1)
    · obtain ⟨q, hq, e, qn⟩ := hTo hpb hin'
      obtain ⟨b, h2, h3, h4⟩ := d3 q hq
      rw [e] at h4
      rcases h4 with ⟨h5, h6⟩ | h5
      · rw [cont_skip _ h5]; exact keep
      · rw [cont_add _ h5 hin (happ hin')]
        have qo : q.2.isOpq = true := by rw [qn]; exact hpo
        have := (h1.held _ (findIn_mem h2) ((hio h3).trans qo)).1
        simp only [a1 q.1 (hTlt q hq)] at this
        rw [e] at this
        exact this
    · rw [cont_skip _ (hwn0 hin')]; exact keep
  · intro p hpb hpo
    have hpl := aL p hpb hpo
    have hlt : β p.1 < w.heap.size := (hi.row p hpb hpl).lt (Blk.live_dead hpl)
    by_cases hin' : p.1 ∈ T.map (·.1)
    · obtain ⟨q, hq, e, qn, hm, -⟩ := hpost hpb hin'
      have hpid : p.1 < (R i).nb := by rw [← e]; exact hTlt q hq
      refine (h1.row _ hm hpo).ids ?_ (fun id hid => mix_lt a1 (hcw hm id hid))
      rw [mix_lt a1 (Nat.lt_of_lt_of_le hpid (hr.nb hin).2.2)]
    · have e1 := hout hin'
      rw [e1]
      have hh : w1.heap[β p.1]? = w.heap[β p.1]? := h1.keeps.block _ hlt (fun ⟨q, hq, hqo, e⟩ => by
        obtain ⟨b0, hb0, ho0⟩ := hb q hq
        rw [ho0] at hqo
        have := hi.inj p hpb hpl _ hb0 hqo e
        exact hin' (List.mem_map.2 ⟨q, hq, this.symm⟩))
      exact ((hi.row p hpb hpl).heap hh).ids (mix_out (baseId hr hi hin hnd hpb)) (fun id hid => mix_out (contAvoid hr hi hf0 hin hnd hpb id hid))
  · intro p hpn hpo
    obtain ⟨hm, hge⟩ := hnws p hpn
    refine ⟨?_, fun q hqn hqo e => h1.inj p hm hpo q (hnws q hqn).1 hqo e⟩
    rcases h1.own p hm hpo with ⟨q, hq, hqo, e⟩ | h
    · right
      obtain ⟨b0, hb0, ho0⟩ := hb q hq
      have hql := hTlt q hq
      have hmem : q.1 ∈ T.map (·.1) := List.mem_map.2 ⟨q, hq, rfl⟩
      obtain ⟨q', hq', e', qn', hm', -⟩ := hpost hb0 hmem
      refine ⟨(q.1, b0), hb0, by rw [← ho0]; exact hqo, ?_, e⟩
      cases hx : (now R ops.size (fun j => j = i ∨ D j) (q.1, b0)).live with
      | false => rfl
      | true =>
        exfalso
        have := h1.inj p hm hpo _ hm' hx (by rw [e]; exact (a1 q.1 hql).symm)
        simp only at this
        omega
    · exact .inl h
  · intro p hpn hpo
    obtain ⟨hm, hge⟩ := hnws p hpn
    refine ⟨fun q hqn hqo => (h1.held p hm hpo).2 q (hnws q hqn).1 hqo, fun q hqb hqo => ?_⟩
    have sf := hr.st i o ho
    have hqf := now_opq hqo
    have hql := aL q hqb hqo
    have seen : (q ∈ f.s.blks ∨ ∃ c, c < i ∧ q ∈ (R c).nw) → I.opq.blk (I.opq.dec (β' p.1)) ≠ some (β q.1) := fun hq' => by
      obtain ⟨b1, g1, g2⟩ := hr.stay (i := i) (by omega) q hq'
      have hsee := sf.c1 ⟨p, hpn, hpo⟩ _ g1 ((hio g2).trans hqf)
      rw [hs] at hsee
      obtain ⟨q', hq1, e, qn, hm', -⟩ := hpost hqb hsee
      have := (h1.held p hm hpo).2 _ hm' hqo
      simp only at this
      rw [a1 q.1 (by rw [← e]; exact hTlt q' hq1)] at this
      exact this
    rcases hqb with hqf' | ⟨j, hj, hqj⟩
    · exact seen (.inl hqf')
    · by_cases hji : j < i
      · exact seen (.inr ⟨j, hji, hqj⟩)
      · have hij : i < j := by
          have : j ≠ i := fun h => hnd (h ▸ hj)
          omega
        have hjn := hi.bound j hj
        obtain ⟨oj, hoj⟩ := hr.op hjn
        have hbf : bit (pm.getD j 0) i = false := by
          cases h : bit (pm.getD j 0) i with
          | false => rfl
          | true => exact absurd (hi.closed j hj i h) hnd
        rcases (hr.st j oj hoj).c2 q hqj hqf with hdry | hx
        · have hqn := ((hr.st j oj hoj).nw q hqj).1
          have hqb : Base f R D q := .inr ⟨j, hj, hqj⟩
          have hrow := hi.row q hqb hql
          have hle : (R i).nb' ≤ (R j).nb := nb_le hr hij hjn
          have hle2 := (hr.nb hin).2.2
          have hblk := h1.keeps.block (β q.1) (hrow.lt (Blk.live_dead hql)) (fun ⟨t, ht, hto, e⟩ => by
            obtain ⟨b0, hb0, ho0⟩ := hb t ht
            rw [ho0] at hto
            have := hi.inj q hqb hql _ hb0 hto e
            have := hTlt t ht
            simp only at *
            omega)
          intro e
          obtain ⟨off, d, hc⟩ := I.opq.u32 w1 _ _ (h1.held p hm hpo).1 _ e
          obtain ⟨c, hcm, hcd⟩ := (hrow.heap hblk).dig (Blk.live_dead hql) hc
          refine noDigit_den (cont_all _ (Q := fun c => c.noDigit = true) hdry (fun k hk hDk cs hcs => ?_) c (Blk.row_sub c hcm)) d hcd
          have hkm := wrOf_mem hcs
          have hkl := hr.wlt hk hkm
          simp only at hkl
          have hjk : j < k := by
            by_cases h : j < k
            · exact h
            · exfalso
              rcases Nat.lt_or_eq_of_le (Nat.le_of_not_lt h) with h | h
              · have := nb_le hr h hjn; have := (hr.nb hk).2.2; omega
              · subst h; omega
          obtain ⟨ok, hok⟩ := hr.op hk
          obtain ⟨b, g1, g2⟩ := hr.stay (i := k) (by omega) p (.inr ⟨i, by omega, hpn⟩)
          exact (hr.st k ok hok).c3 ⟨_, g1, (hio g2).trans hpo⟩ _ hkm
        · have := hx (i, R i) ((hr.rs (by omega) _).2 ⟨i, hij, rfl⟩) hbf p hpn
          rw [this] at hpo
          cases hpo
  · intro p hpn q hqn e
    exact h1.uniq p (hnws p hpn).1 q (hnws q hqn).1 e
  · refine ⟨h1.keeps.os.trans hi.keeps.os, h1.keeps.tape.trans hi.keeps.tape, h1.keeps.output.trans hi.keeps.output, Nat.le_trans hi.keeps.size h1.keeps.size, fun g hg hx => ?_⟩
    rw [h1.keeps.block g (Nat.lt_of_lt_of_le hg hi.keeps.size) (fun h => ?_)]
    · exact hi.keeps.block g hg hx
    · rcases hX g h with h | h
      · exact hx h
      · omega
theorem drawStep {ro : Option Nat} {Q : Exit → Act → World → Prop} (hN : NoCount P) {Z : Anc} (hc : CallOk P I ρ Z call) (hA : Agr Z f.s.nb βs) {i : Nat} {o : Oper} (ho : ops[i]? = some o) (hnd : ¬ D i) (hp : ∀ e ∈ o.after, Region.binds .any e = true → D e.on) :
    StepG (P := P) (ro := ro) (ops := ops) (Q := Q) o (actOf df I ρ β fr) w (fun a' w' => ∃ β2 fr2, a' = actOf df I ρ β2 fr2 ∧ RInv I ρ ops pm f R w0 X βs (fun j => j = i ∨ D j) β2 fr2 w') := by
  have hin : i < ops.size := (Array.getElem?_eq_some_iff.1 ho).1
  have sf := hr.st i o ho
  have hrd : ∀ {x : Operand} {v : V}, evR (dstsOf pm 0 ops.toList) i (pm.getD i 0) (G i).fr x = some v → evF fr x = some v ∧ v.wf (G i).s.nb = true := fun h => readD hr hi hfr ho hnd hp h
  have hwant : ∀ {b : Bool}, WantR I ρ ops (evR (dstsOf pm 0 ops.toList) i (pm.getD i 0) (G i).fr) o.guard b → Region.wanted o (yielded ops (actOf df I ρ β fr).tmps) = b := by
    intro b hb
    unfold WantR at hb
    split at hb
    · rename_i hg; rw [hb]; simp [Region.wanted, hg]
    · rename_i j want hg
      obtain ⟨d, hd, ⟨q, hq, rfl⟩ | ⟨vs, hq, rfl⟩⟩ := hb
      · have hv := (hrd hq).1
        simp only [evF, Option.some.injEq] at hv
        exact wanted_bool (df := df) (I := I) (ρ := ρ) (β := β) (ops := ops) (o := o) (fr := fr) (v := .c (.bool q)) hg (by rw [hd]; simp [hv]) rfl
      · have hv := (hrd hq).1
        simp only [evF, Option.some.injEq] at hv
        exact wanted_not (df := df) (I := I) (ρ := ρ) (β := β) (ops := ops) (o := o) (fr := fr) hg (vs := vs) (by rw [hd]; simp [hv])
  rcases sf.how with ⟨hno, hR⟩ | ⟨hyes, s', T, kn, hkn, hT, hrun, hd, hnw, hnb', hs, hvw, hdw⟩
  · refine step_no (hwant hno) ?_
    have hnwe : (R i).nw = [] := by rw [hR]
    have hwre : (R i).wr = [] := by rw [hR]
    have := advance (df := df) hr hi hf0 hfr ho hnd hp (β' := β) (w1 := w) (fun _ _ => rfl) ⟨by rw [hR]; simp [V.undef, V.ids], by rw [hnwe]; simp, by rw [hwre]; simp⟩ (by rw [hnwe]; simp) (by rw [hnwe]; simp)
      (fun p hpb hpo => by rw [cont_skip _ (by rw [hwre]; rfl)]; exact (hi.held p hpb hpo).1)
      (fun p hpb hpl => by
        have e1 : now R ops.size (fun j => j = i ∨ D j) p = now R ops.size D p := by unfold now; rw [cont_skip _ (by rw [hwre]; rfl)]
        rw [← e1]; exact hpl)
      (fun p hpb hpo => by
        have e1 : now R ops.size (fun j => j = i ∨ D j) p = now R ops.size D p := by unfold now; rw [cont_skip _ (by rw [hwre]; rfl)]
        rw [e1] at hpo ⊢
        exact (hi.row p hpb hpo).ids (mix_out (baseId hr hi hin hnd hpb)) (fun id hid => mix_out (contAvoid hr hi hf0 hin hnd hpb id hid))) (by rw [hnwe]; simp) (by rw [hnwe]; simp) (by rw [hnwe]; simp) hi.keeps
    rw [show (R i).v = .undef by rw [hR]] at this
    exact this
  · refine step_yes (hwant hyes) ?_
    obtain ⟨hW, hb⟩ := seeD hr hi hf0 hfr ho hnd hp hT hs hkn
    have hev : ∀ x v, evR (dstsOf pm 0 ops.toList) i (pm.getD i 0) (G i).fr x = some v → (actOf df I ρ β fr).eval x = v.den I ρ β := fun x v h => evF_ok (hrd h).1
    have fin : ∀ {β' : Nat → Nat} {w1 : World}, WR I ρ w (fun g => ∃ p ∈ T, p.2.live = true ∧ g = β p.1) (G i).s.nb β β' s' w1 → ∃ β2 fr2, (actOf df I ρ β fr).put o.dst ((R i).v.den I ρ β') = actOf df I ρ β2 fr2 ∧ RInv I ρ ops pm f R w0 X βs (fun j => j = i ∨ D j) β2 fr2 w1 :=
      fun h1 => ranD hr hi hf0 hfr ho hnd hp hT hs hb hdw hW hd hnw hnb' hvw h1
    unfold runT at hrun
    split at hrun
    · rename_i g vs hg
      rw [vsF_eq] at hrun
      obtain ⟨hvs, hx⟩ := callee_ok (s := (G i).s) (w := w) (ro := ro) (n := 0) (a := actOf df I ρ β fr) (Q := Q) hN hev (fun x v h => (hrd h).2) hg
      refine hx ?_
      have hnb : f.s.nb ≤ (G i).s.nb := by
        have := hr.mono (i := 0) (j := i) (Nat.zero_le _) (Nat.le_of_lt hin)
        rw [hr.g0] at this
        exact this
      refine hc g vs ⟨T, (G i).s.nb, kn⟩ w _ (G i).s.nb β β w _ ⟨Nat.le_trans hA.1 hnb, fun id hid => (hi.agr id (Nat.lt_of_lt_of_le hid hA.1)).trans (hA.2 id hid)⟩ (Tree.vc_sel hrun ?_) hW hvs
      intro β' w1 hwr _ _ _
      exact fin hwr
    · obtain ⟨s1, hk1, hb1, hn1, ho1⟩ := opTr_sel hrun hkn
      have hW1 : WR I ρ w (fun g => ∃ p ∈ T, p.2.live = true ∧ g = β p.1) (G i).s.nb β β s1 w := by
        obtain ⟨b1, n1, k1⟩ := s1
        simp only at hb1 hn1
        subst hb1 hn1
        exact ⟨hW.row, hW.inj, hW.idlt, hW.cwf, hW.own, hW.held, hW.uniq, hk1, hW.n0le, hW.agr, hW.keeps, hW.hyp⟩
      have hop := opS_ok (P := P) hW1 o hev
      rw [ho1] at hop
      obtain ⟨β', w1, hran, hwr, -, -⟩ := hop
      rcases hran with hran | ⟨hran, hv⟩
      · exact value_wp hran (fin hwr)
      · exact skip_wp hran (by rw [← hv]; exact fin hwr)
end
section
variable {P : Program} {I : Interp} {ρ : Env} {call : CallT} {ops : Array Oper} {w0 : World} {X : Nat → Prop} {n0 : Nat} {df : List Deferred} {β0 : Nat → Nat}
theorem drawT_ok {ro : Option Nat} (hm : P.follows .mixedOrders = true) (hN : NoCount P) {Z : Anc} (hc : CallOk P I ρ Z call) (hA : Agr Z n0 β0) {Q : Exit → Act → World → Prop} {id : Nat} {f : F} {β : Nat → Nat} {w : World}
    (ht : (drawT P call ops f).vc I ρ (fun f' => ∀ β' w', WR I ρ w0 X n0 β0 β' f'.s w' → f'.wf → Q .normal (actOf df I ρ β' f'.fr) w')) (h : WR I ρ w0 X n0 β0 β f.s w) (hw : f.wf) :
    (Code.region id ops true).wpIn (RF ro) 0 P Q (actOf df I ρ β f.fr) w := by
  unfold drawT at ht
  simp only [masksK_eq, dsF_eq] at ht
  cases hb : (regionOkG ops && (distinctD (dstsOf (masks ops.toList []) 0 ops.toList) && (dstsOf (masks ops.toList []) 0 ops.toList).all fun p => Nat.blt p.2.1 f.fr.sz)) with
  | false => rw [hb] at ht; exact ht.elim
  | true =>
    rw [hb] at ht
    simp only [Bool.and_eq_true, List.all_eq_true, cond_true] at hb ht
    obtain ⟨hok, hdis, h3⟩ := hb
    have hlen : ∀ p ∈ dstsOf (masks ops.toList []) 0 ops.toList, p.2.1 < f.fr.sz := fun p hp => by simpa using h3 p hp
    · obtain ⟨G, g0, gn, gs⟩ := regLoop_seq ht h.known
      simp only [Nat.zero_add] at g0 gn gs
      revert gn
      generalize hgn0 : G ops.toList.length = g
      intro ht
      have hst : ∀ k o, ops[k]? = some o → SF I ρ P call ops (dstsOf (masks ops.toList []) 0 ops.toList) ((masks ops.toList []).getD k 0) k o (G k) (G (k + 1)) (match (G (k + 1)).rs with | x :: _ => x.2 | [] => ⟨.undef, 0, 0, [], [], []⟩) := fun k o hk => by
        obtain ⟨r, hr⟩ := gs k o (by simpa using hk)
        have : (match (G (k + 1)).rs with | x :: _ => x.2 | [] => (⟨.undef, 0, 0, [], [], []⟩ : RS)) = r := by rw [hr.eq]
        rw [this]; exact hr
      have hr : Runs I ρ P call ops (masks ops.toList []) f G (fun k => match (G (k + 1)).rs with | x :: _ => x.2 | [] => ⟨.undef, 0, 0, [], [], []⟩) := ⟨g0, hst, rfl, hdis, hlen, h.idlt, hw.deep⟩
      revert hr
      generalize hR : (fun k => match (G (k + 1)).rs with | x :: _ => x.2 | [] => (⟨.undef, 0, 0, [], [], []⟩ : RS)) = R
      intro hr
      have hf0 : ∀ p ∈ f.s.blks, ∀ id ∈ idsOf p.2.cells, id < f.s.nb := fun p hp => idsOf_wf.1 (h.cwf p hp)
      have e0 : ∀ p, Base f R (fun _ => False) p → p ∈ f.s.blks := by
        rintro p (hp | ⟨j, hj, -⟩)
        · exact hp
        · exact hj.elim
      refine wp_region_invG (P := P) (Q := Q) (fun D a w' => ∃ β2 fr2, a = actOf df I ρ β2 fr2 ∧ RInv I ρ ops (masks ops.toList []) f R w0 X β D β2 fr2 w') hm hok ?_ ?_ ?_
      · have en : ∀ p, now R ops.size (fun _ => False) p = p.2 := fun p => by unfold now; rw [cont_none _ (fun _ _ h => h.elim)]
        refine ⟨β, f.fr, rfl, ⟨fun _ _ => rfl, rfl, fun t => .inr ⟨fun _ h => h.elim, rfl⟩, fun _ h => h.elim, fun p hp hpo => ?_, fun p hp hpo q hq hqo => ?_, fun p hp hpo => ?_, fun p hp q hq => h.uniq p (e0 p hp) q (e0 q hq), fun p hp hpo => ?_, h.drew.keeps, fun _ h => h.elim, fun _ h => h.elim, h.hyp⟩⟩
        · rw [en] at hpo ⊢
          exact h.drew.row p (e0 p hp) hpo
        · rw [en] at hpo hqo
          exact h.inj p (e0 p hp) hpo q (e0 q hq) hqo
        · rw [cont_none _ (fun _ _ h => h.elim)]
          obtain ⟨k1, k2⟩ := h.drew.held p (e0 p hp) hpo
          exact ⟨k1, fun q hq hqo => k2 q (e0 q hq) (by rw [en] at hqo; exact hqo)⟩
        · rw [en] at hpo
          exact h.own p (e0 p hp) hpo
      · rintro i o D a w' ho hnd he ⟨β2, fr2, rfl, hi⟩
        exact drawStep hr hi hf0 hw hN hc (h.anc hA) ho hnd he
      · rintro D a w' hall ⟨β2, fr2, rfl, hi⟩
        have hD : ∀ j, j < ops.size → D j := hall
        obtain ⟨hbl, hbk⟩ := hr.blks (i := ops.size) (Nat.le_refl _)
        have hgn : G ops.size = g := by rw [← hgn0]; simp
        have hbase : ∀ p ∈ g.s.blks, ∃ b0, Base f R D (p.1, b0) ∧ b0.ty = p.2.ty ∧ p.2.cells = cont (fun j => (R j).wr) D ops.size p.1 b0.cells := fun p hp => by
          rw [← hgn] at hp
          obtain ⟨b0, h1, h2, h3⟩ := hbk p hp
          refine ⟨b0, h1.imp (fun h => h) fun ⟨c, hc, hm⟩ => ⟨c, hD c hc, hm⟩, h2, ?_⟩
          rw [h3]
          exact (cont_to _ (Nat.le_refl _) (fun j hj _ => ⟨fun _ => hj, fun _ => hD j hj⟩)).symm
        have hfg := hr.frame (i := ops.size) (Nat.le_refl _)
        rw [hgn] at hfg hbl
        have hnb : f.s.nb ≤ g.s.nb := by
          have := hr.mono (i := 0) (j := ops.size) (Nat.zero_le _) (Nat.le_refl _)
          rw [hgn, hr.g0] at this
          exact this
        have hnbj : ∀ j, D j → (R j).nb' ≤ g.s.nb := fun j hj => by
          have hjn := hi.bound j hj
          have h1 := (hr.nb hjn).2.1
          have h2 := hr.mono (i := j + 1) (j := ops.size) (by omega) (Nat.le_refl _)
          rw [hgn] at h2
          omega
        have hfe : actOf df I ρ β2 fr2 = actOf df I ρ β2 g.fr := by
          refine actOf_ext (by rw [hi.len, hfg.1]) fun t => ?_
          rcases hi.val t with ⟨j, hj, o, ho, hd, e⟩ | ⟨hno, e⟩ <;> rcases hfg.2 t with ⟨k, hk, o', ho', hd', e'⟩ | ⟨hno', e'⟩
          · have := hr.uniq ho ho' hd hd'; subst this; rw [e, e']
          · exact absurd hd (hno' j (hi.bound j hj) o ho)
          · exact absurd hd' (hno k (hD k hk) o' ho')
          · rw [e, e']
        rw [hfe]
        have hio : ∀ {b1 b2 : Blk}, b1.ty = b2.ty → b1.isOpq = b2.isOpq := fun e => by unfold Blk.isOpq; rw [e]
        have hbn : ∀ p ∈ g.s.blks, ∃ b0, Base f R D (p.1, b0) ∧ p.2 = now R ops.size D (p.1, b0) := fun p hp => by
          obtain ⟨b0, h1, h2, h3⟩ := hbase p hp
          refine ⟨b0, h1, ?_⟩
          obtain ⟨a, ty, cs⟩ := p
          simp only at h2 h3
          unfold now
          rw [h3, h2]
        refine ht β2 w' ⟨?_, ?_, hbl, ?_, ?_, ?_, ?_, ?_, Nat.le_trans h.n0le hnb, ?_, hi.keeps, h.hyp⟩ ?_
        · intro p hp hpo
          obtain ⟨b0, h1, h2⟩ := hbn p hp
          rw [h2] at hpo ⊢
          exact hi.row _ h1 hpo
        · intro p hp hpo q hq hqo e
          obtain ⟨b1, h1, k1⟩ := hbn p hp
          obtain ⟨b2, h2, k2⟩ := hbn q hq
          rw [k1] at hpo
          rw [k2] at hqo
          exact hi.inj (p.1, b1) h1 hpo (q.1, b2) h2 hqo e
        · intro p hp
          refine idsOf_wf.2 fun id hid => ?_
          obtain ⟨b0, h1, h2, h3⟩ := hbase p hp
          show id < g.s.nb
          rw [h3] at hid
          rcases cont_ids _ id hid with hx | ⟨j, hj, hDj, cs, hw1, hm1⟩
          · rcases h1 with h1 | ⟨c, hc, h1⟩
            · have := hf0 _ h1 id hx; omega
            · have := (hi.wfs c hc).2.1 _ h1 id hx; have := hnbj c hc; omega
          · have := (hi.wfs j hDj).2.2 _ (wrOf_mem hw1) id hm1; have := hnbj j hDj; omega
        · intro p hp hpo
          obtain ⟨b0, h1, k1⟩ := hbn p hp
          rw [k1] at hpo
          exact hi.own (p.1, b0) h1 hpo
        · intro p hp hpo
          obtain ⟨b0, h1, k1, k3⟩ := hbase p hp
          obtain ⟨a1, a2⟩ := hi.held (p.1, b0) h1 ((hio k1).trans hpo)
          refine ⟨by rw [k3]; exact a1, fun q hq hqo => ?_⟩
          obtain ⟨b2, h2, k2⟩ := hbn q hq
          rw [k2] at hqo
          exact a2 (q.1, b2) h2 hqo
        · intro p hp q hq e
          obtain ⟨b1, h1, k1⟩ := hbn p hp
          obtain ⟨b2, h2, k2⟩ := hbn q hq
          have := hi.uniq (p.1, b1) h1 (q.1, b2) h2 e
          simp only at this
          rw [k1, k2, this, e]
        · have := hr.known h.known (i := ops.size) (Nat.le_refl _)
          rw [hgn] at this
          exact this
        · intro id hid
          rw [hi.agr id (Nat.lt_of_lt_of_le hid h.n0le)]
          exact h.agr id hid
        · refine ⟨by show deepOk g.fr.sz = true; rw [hfg.1]; exact hw.deep, fun t => ?_⟩
          show (getF g.fr t).wf g.s.nb = true
          rcases hfg.2 t with ⟨j, hj, o, -, -, e⟩ | ⟨-, e⟩
          · rw [e]
            exact V.ids_wf.2 fun id hid => by have := (hi.wfs j (hD j hj)).1 id hid; have := hnbj j (hD j hj); omega
          · rw [e]
            exact V.wf_mono hnb (hw.ok t)
end
end Go.Proofs.Ythkkipkhofkpmaa.Sx

