/- A verified symbolic walk: code and functions. -/
import Derived.Test.YtpmdmcdjhibblaaSx9
set_option linter.all false
set_option autoImplicit false
namespace Go.Proofs.Ytpmdmcdjhibblaa.Sx
open Go Go.RowKit

inductive Ex where
  | normal
  | ret
  | exit (id : Nat)
structure Out where
  e : Ex
  f : F
def Ex.den : Ex → Exit
  | .normal => .normal
  | .ret => .ret
  | .exit id => .exit id
def loopT (g : F → Tree Out) : Nat → F → Tree Out
  | 0, _ => .bad
  | n + 1, f => (g f).bind fun o => match o.e with
    | .normal => loopT g n o.f
    | _ => .leaf o
def loopFuel : Nat := 1000
def execC (P : Program) (call : CallT) : Code → F → Tree Out
  | .skip, f => .leaf ⟨.normal, f⟩
  | .region _ ops false, f => (seqOps P call ops ops.toList f).bind fun f' => .leaf ⟨.normal, f'⟩
  | .region _ ops true, f => (drawT P call ops f).bind fun f' => .leaf ⟨.normal, f'⟩
  | .seq a b, f => (execC P call a f).bind fun o => match o.e with
    | .normal => execC P call b o.f
    | _ => .leaf o
  | .cond c a b, f => match evF f.fr c with
    | some (.c (.bool q)) => withB q f.s fun v s => match v with
      | true => execC P call a ⟨f.fr, s⟩
      | false => execC P call b ⟨f.fr, s⟩
    | _ => .bad
  | .block id body, f => (execC P call body f).bind fun o => match o.e with
    | .exit k => bif Nat.beq k id then .leaf ⟨.normal, o.f⟩ else .leaf o
    | _ => .leaf o
  | .loop body, f => loopT (fun f => execC P call body f) loopFuel f
  | .scope body, f => execC P call body f
  | .label _, f => .leaf ⟨.normal, f⟩
  | .exit id, f => .leaf ⟨.exit id, f⟩
  | .ret, f => .leaf ⟨.ret, f⟩
  | _, _ => .bad
def resultS (P : Program) (f : F) : ResultVar → Option V
  | .tmp t => some (getF f.fr t)
  | .cell a t => match getF f.fr a with
    | .c (.ptr id off) => match f.s.find id with
      | some b => partS P t b.cells off
      | none => none
    | _ => none
def partV : V → Option (Bool × List C)
  | .c x => some (false, [x])
  | .agg cs => some (true, cs)
  | .tup _ => none
def partsV : List (Option V) → Option (List (Bool × List C))
  | [] => some []
  | some v :: r => match partV v, partsV r with
    | some p, some ps => some (p :: ps)
    | _, _ => none
  | none :: _ => none
def resultsS (P : Program) (f : F) (rs : List ResultVar) : Option V := match rs with
  | [r] => resultS P f r
  | rs => (partsV (rs.map (resultS P f))).map .tup
def dropNew (n : Nat) : List (Nat × Blk) → List (Nat × Blk)
  | [] => []
  | p :: r => bif Nat.blt p.1 n then p :: r else dropNew n r
/-- Behind a call, blocks that nothing refers to are forgotten. -/
def tidy (n : Nat) (v : V) (s : S) : S :=
  let l := dropNew n s.blks
  bif v.wf n && l.all fun p => allWf n p.2.cells then ⟨l, s.nb, s.known⟩ else s
def tidyK {α : Type} (n : Nat) (v : V) (s : S) (k : S → α) : α := match s with
  | ⟨b, m, kn⟩ => match dropNew n b with
    | [] => bif v.wf n then k ⟨[], m, kn⟩ else k s
    | p :: r => bif v.wf n && (p :: r).all fun p => allWf n p.2.cells then k ⟨p :: r, m, kn⟩ else k s
theorem tidyK_eq {α : Type} (n : Nat) (v : V) (s : S) (k : S → α) : tidyK n v s k = k (tidy n v s) := by
  obtain ⟨b, m, kn⟩ := s
  simp only [tidyK, tidy]
  cases h : dropNew n b with
  | nil => cases hv : v.wf n <;> simp [hv]
  | cons p r =>
    simp only
    cases hv : (v.wf n && (p :: r).all fun p => allWf n p.2.cells) <;> simp
/-- The frame in which a function begins. -/
def fillFr (fr : Fr) (i : Nat) : List V → Fr
  | [] => fr
  | v :: r => fillFr (setF fr (some i) v) (i + 1) r
def fillK {α : Type} (fr : Fr) (i : Nat) : List V → (Fr → α) → α
  | [], k => k fr
  | v :: r, k => v.force fun v => setFK fr (some i) v fun fr => fillK fr (i + 1) r k
theorem fillK_eq {α : Type} (l : List V) : ∀ (fr : Fr) (i : Nat) (k : Fr → α), fillK fr i l k = k (fillFr fr i l) := by
  induction l with
  | nil => intro fr i k; rfl
  | cons v r ih => intro fr i k; simp [fillK, fillFr, V.force_eq, setFK_eq, ih]
def startSz (n : Nat) (args : List V) : Nat := n + (args.length - n)
abbrev CT := FuncId → List V → S → Option (Tree (V × S))
def execF (P : Program) (ct : CT) : Nat → CallT
  | 0, _, _, _ => .bad
  | n + 1, g, args, s => match ct g args s with
    | some t => t
    | none => match P.funcs[g]? with
      | none => .bad
      | some fn => match fn.body with
        | none => .bad
        | some c => natF (startSz fn.ntmps args) fun sz => bif deepOk sz then fillK ⟨sz, .nil⟩ 0 args fun fr => (execC P (execF P ct n) c ⟨fr, s⟩).bind fun o => match o.e with
          | .exit _ => .bad
          | _ => match resultsS P o.f fn.results.toList with
            | none => .bad
            | some v => v.force fun v => bif v.wf o.f.s.nb then tidyK s.nb v o.f.s fun s => .leaf (v, s) else .bad
            else .bad

/-- A table of contracts is right. -/
def CTOk (P : Program) (I : Interp) (ρ : Env) (ct : CT) : Prop :=
  ∀ (g : FuncId) (args : List V) (s : S) (t : Tree (V × S)), ct g args s = some t → ∀ (w0 : World) (X : Nat → Prop) (n0 : Nat) (β0 β : Nat → Nat) (w : World) (R : Ending → World → Prop),
    t.vc I ρ (fun r => ∀ β' w', WR I ρ w0 X n0 β0 β' r.2 w' → r.1.wf r.2.nb = true → s.nb ≤ r.2.nb → (∀ id, id < s.nb → β' id = β id) → R (.returned (r.1.den I ρ β')) w') →
    WR I ρ w0 X n0 β0 β s w → (∀ v ∈ args, v.wf s.nb = true) → Calls P g (args.map (V.den I ρ β)).toArray w R
def CT.none : CT := fun _ _ _ => Option.none
theorem CT.none_ok (P : Program) (I : Interp) (ρ : Env) : CTOk P I ρ CT.none := fun _ _ _ _ h => by cases h

section
variable {P : Program} {I : Interp} {ρ : Env} {call : CallT} {w0 : World} {X : Nat → Prop} {n0 : Nat} {β0 : Nat → Nat}
/-- What a leaf of ours is good for. -/
def Post (I : Interp) (ρ : Env) (w0 : World) (X : Nat → Prop) (n0 : Nat) (β0 : Nat → Nat) (Q : Exit → Act → World → Prop) (o : Out) : Prop :=
  ∀ β' w', WR I ρ w0 X n0 β0 β' o.f.s w' → o.f.wf → Q o.e.den (actOf I ρ β' o.f.fr) w'
theorem loopT_ok {c : Code} {g : F → Tree Out} {Q : Exit → Act → World → Prop}
    (hg : ∀ (Q : Exit → Act → World → Prop) (f : F) (β : Nat → Nat) (w : World), (g f).vc I ρ (Post I ρ w0 X n0 β0 Q) → WR I ρ w0 X n0 β0 β f.s w → f.wf → c.wp P Q (actOf I ρ β f.fr) w) :
    ∀ (n : Nat) (f : F) (β : Nat → Nat) (w : World), (loopT g n f).vc I ρ (Post I ρ w0 X n0 β0 Q) → WR I ρ w0 X n0 β0 β f.s w → f.wf → Code.rounds P c Q n (actOf I ρ β f.fr) w
  | 0, f, β, w, ht, _, _ => ht.elim
  | n + 1, f, β, w, ht, h, hw => by
    unfold loopT at ht
    rw [Tree.vc_bind] at ht
    rw [rounds_succ]
    refine hg _ f β w (Tree.vc_mono ?_ ht) h hw
    rintro ⟨e, f'⟩ hp β' w' h' hw'
    cases e with
    | normal => exact loopT_ok hg n f' β' w' hp h' hw'
    | ret => exact hp β' w' h' hw'
    | exit id => exact hp β' w' h' hw'
theorem execC_ok (hm : P.follows .mixedOrders = true) (hN : NoCount P) (hc : CallOk P I ρ call) :
    ∀ (c : Code) (Q : Exit → Act → World → Prop) (f : F) (β : Nat → Nat) (w : World), (execC P call c f).vc I ρ (Post I ρ w0 X n0 β0 Q) → WR I ρ w0 X n0 β0 β f.s w → f.wf → c.wp P Q (actOf I ρ β f.fr) w := by
  intro c
  induction c with
  | skip => intro Q f β w ht h hw; exact wp_skip (ht β w h hw)
  | region id ops draw =>
    intro Q f β w ht h hw
    cases draw with
    | false =>
      simp only [execC, Tree.vc_bind] at ht
      exact wp_region_list (seqOps_ok hN hc ops.toList f β w (Tree.vc_mono (fun f' hp => hp) ht) h hw)
    | true =>
      simp only [execC, Tree.vc_bind] at ht
      exact drawT_ok hm hN hc (Tree.vc_mono (fun f' hp => hp) ht) h hw
  | seq a b iha ihb =>
    intro Q f β w ht h hw
    simp only [execC, Tree.vc_bind] at ht
    refine wp_seq (iha _ f β w (Tree.vc_mono ?_ ht) h hw)
    rintro ⟨e, f'⟩ hp β' w' h' hw'
    cases e with
    | normal => exact ihb Q f' β' w' hp h' hw'
    | ret => exact hp β' w' h' hw'
    | exit id => exact hp β' w' h' hw'
  | cond c a b iha ihb =>
    intro Q f β w ht h hw
    unfold execC at ht
    split at ht
    · rename_i q hq
      obtain ⟨s', h', hnb, hbl, ht⟩ := withB_ok h ht
      refine wp_cond (t := q.den I ρ) (evF_ok hq) ?_
      have hw' : (⟨f.fr, s'⟩ : F).wf := ⟨hw.deep, fun t => by show (getF f.fr t).wf s'.nb = true; rw [hnb]; exact hw.ok t⟩
      cases hb : q.den I ρ with
      | true => rw [hb] at ht; exact iha Q ⟨f.fr, s'⟩ β w ht h' hw'
      | false => rw [hb] at ht; exact ihb Q ⟨f.fr, s'⟩ β w ht h' hw'
    · exact ht.elim
  | block id body ih =>
    intro Q f β w ht h hw
    simp only [execC, Tree.vc_bind] at ht
    refine wp_block (ih _ f β w (Tree.vc_mono ?_ ht) h hw)
    rintro ⟨e, f'⟩ hp β' w' h' hw'
    cases e with
    | normal => exact hp β' w' h' hw'
    | ret => exact hp β' w' h' hw'
    | exit k =>
      simp only [Ex.den, Exit.inBlock]
      cases hk : Nat.beq k id with
      | true =>
        have := Nat.eq_of_beq_eq_true hk
        simp only [hk, cond_true] at hp
        rw [if_pos this]
        exact hp β' w' h' hw'
      | false =>
        simp only [hk, cond_false] at hp
        rw [if_neg (fun e => by subst e; simp at hk)]
        exact hp β' w' h' hw'
  | loop body ih =>
    intro Q f β w ht h hw
    simp only [execC] at ht
    exact wp_loop_rounds loopFuel (loopT_ok (fun Q f β w => ih Q f β w) loopFuel f β w ht h hw)
  | scope body ih =>
    intro Q f β w ht h hw
    refine wp_scope_straight (ih _ f β w (Tree.vc_mono ?_ ht) h hw)
    rintro ⟨e, f'⟩ hp β' w' h' hw'
    cases e <;> exact hp β' w' h' hw'
  | label l => intro Q f β w ht h hw; exact wp_label (ht β w h hw)
  | exit id => intro Q f β w ht h hw; exact wp_exit (ht β w h hw)
  | ret => intro Q f β w ht h hw; exact wp_ret (ht β w h hw)
  | rangeFunc _ _ _ _ _ => intro Q f β w ht; exact ht.elim
  | goto _ => intro Q f β w ht; exact ht.elim
  | refuse _ => intro Q f β w ht; exact ht.elim

theorem dropNew_sub (n : Nat) : ∀ {l : List (Nat × Blk)} {p : Nat × Blk}, p ∈ dropNew n l → p ∈ l
  | [], p, h => h
  | q :: r, p, h => by
    unfold dropNew at h
    cases hb : Nat.blt q.1 n with
    | true => rw [hb] at h; exact h
    | false => rw [hb] at h; exact .tail _ (dropNew_sub n h)
theorem tidy_ok {n : Nat} {v : V} {s : S} {β : Nat → Nat} {w : World} (h : WR I ρ w0 X n0 β0 β s w) : WR I ρ w0 X n0 β0 β (tidy n v s) w ∧ (tidy n v s).nb = s.nb := by
  unfold tidy
  simp only
  cases hb : (v.wf n && (dropNew n s.blks).all fun p => allWf n p.2.cells) with
  | true => exact ⟨h.fewer (fun p hp => dropNew_sub n hp) (Nat.le_refl _) h.known, rfl⟩
  | false => exact ⟨h, rfl⟩
theorem fillFr_spec : ∀ (l : List V) (fr : Fr) (i : Nat), deepOk fr.sz = true → i + l.length ≤ fr.sz → (fillFr fr i l).sz = fr.sz ∧ ∀ t, getF (fillFr fr i l) t = if i ≤ t ∧ t < i + l.length then l.getD (t - i) .undef else getF fr t
  | [], fr, i, _, _ => ⟨rfl, fun t => by rw [if_neg (by simp only [List.length_nil]; omega)]; rfl⟩
  | v :: r, fr, i, hd, hl => by
    simp only [List.length_cons] at hl
    obtain ⟨h1, h2⟩ := fillFr_spec r (setF fr (some i) v) (i + 1) (by rw [setF_sz]; exact hd) (by rw [setF_sz]; omega)
    refine ⟨by rw [fillFr, h1, setF_sz], fun t => ?_⟩
    rw [fillFr, h2, getF_setF hd]
    simp only [List.length_cons]
    by_cases e : t = i
    · subst e
      rw [if_neg (by omega), if_pos ⟨rfl, by omega⟩, if_pos ⟨by omega, by omega⟩]
      simp
    · by_cases h : i + 1 ≤ t ∧ t < i + 1 + r.length
      · rw [if_pos h, if_pos ⟨by omega, by omega⟩]
        rw [show t - i = (t - (i + 1)) + 1 by omega]
        simp
      · rw [if_neg h, if_neg (by simp [e]), if_neg (by omega)]
def resM (tmps : Array Value) (r : ResultVar) : Sem Value := match r with
  | .tmp t => pure (tmps.getD t undef)
  | .cell a t => do loadVar t (← asAddr (tmps.getD a undef))
theorem results_eq (fn : Func) (tmps : Array Value) : results fn tmps = (do
    let vs ← fn.results.mapM (resM tmps)
    pure (if h : vs.size = 1 then vs[0] else .tuple vs)) := by
  unfold results
  congr 1
theorem resultS_run {f : F} {β : Nat → Nat} {w : World} {r : ResultVar} {v : V} (h : WR I ρ w0 X n0 β0 β f.s w) (hv : resultS P f r = some v) :
    (resM (actOf I ρ β f.fr).tmps r).run P w = .ok (v.den I ρ β) w := by
  cases r with
  | tmp t =>
    injection hv with hv
    subst hv
    simp only [resM, Sem.run_pure]
    rw [getF_den f.fr t]
  | cell a t =>
    simp only [resultS] at hv
    split at hv
    · rename_i id off he
      split at hv
      · rename_i b hb
        have : (actOf I ρ β f.fr).tmps.getD a undef = (getF f.fr a).den I ρ β := getF_den f.fr a
        simp only [resM, this, he, V.den, C.den, asAddr, Sem.run_bind, Sem.run_pure, Result.andThen_ok]
        exact load_run h (findIn_mem hb) hv
      · cases hv
    · cases hv
theorem partV_den {v : V} {p : Bool × List C} {β : Nat → Nat} (h : partV v = some p) : partOf I ρ β p = v.den I ρ β := by
  cases v with
  | c x => injection h with h; subst h; rfl
  | agg cs => injection h with h; subst h; rfl
  | tup _ => cases h
theorem resultsM {f : F} {β : Nat → Nat} {w : World} (h : WR I ρ w0 X n0 β0 β f.s w) : ∀ {rs : List ResultVar} {ps : List (Bool × List C)}, partsV (rs.map (resultS P f)) = some ps →
    (rs.mapM (resM (actOf I ρ β f.fr).tmps)).run P w = .ok (ps.map (partOf I ρ β)) w
  | [], ps, hp => by injection hp with hp; subst hp; rfl
  | r :: rs, ps, hp => by
    simp only [List.map_cons] at hp
    cases hr : resultS P f r with
    | none => rw [hr] at hp; cases hp
    | some v =>
      rw [hr] at hp
      unfold partsV at hp
      split at hp
      · rename_i p ps' h1 h2
        injection hp with hp
        subst hp
        have ih := resultsM h h2
        simp only [List.mapM_cons, Sem.run_bind, resultS_run h hr, Result.andThen_ok, ih, Sem.run_pure, List.map_cons, partV_den h1]
      · cases hp
theorem results_ok {fn : Func} {f : F} {β : Nat → Nat} {w : World} {v : V} (h : WR I ρ w0 X n0 β0 β f.s w) (hv : resultsS P f fn.results.toList = some v) : (results fn (actOf I ρ β f.fr).tmps).run P w = .ok (v.den I ρ β) w := by
  have key : ∀ {ps : List (Bool × List C)}, partsV (fn.results.toList.map (resultS P f)) = some ps → (fn.results.mapM (resM (actOf I ρ β f.fr).tmps)).run P w = .ok (ps.map (partOf I ρ β)).toArray w := fun hp => by
    rw [Array.mapM_eq_mapM_toList]
    simp only [Sem.run_map, resultsM h hp, Result.andThen_ok]
  unfold resultsS at hv
  split at hv
  · rename_i r hr
    have h1 := resultS_run h hv
    have : fn.results = #[r] := by apply Array.ext'; simpa using hr
    rw [results_eq, this, Array.mapM_eq_mapM_toList]
    simp only [List.mapM_cons, List.mapM_nil, Sem.run_bind, Sem.run_map, h1, Result.andThen_ok, Sem.run_pure]
    rfl
  · rename_i rs hne
    obtain ⟨ps, hp, rfl⟩ := Option.map_eq_some_iff.1 hv
    rw [results_eq]
    simp only [Sem.run_bind, key hp, Result.andThen_ok, Sem.run_pure]
    have hl : ps.length = fn.results.toList.length := by
      have : ∀ {l : List (Option V)} {ps : List (Bool × List C)}, partsV l = some ps → ps.length = l.length := by
        intro l
        induction l with
        | nil => intro ps h; injection h with h; subst h; rfl
        | cons x r ih =>
          intro ps h
          cases x with
          | none => cases h
          | some v =>
            unfold partsV at h
            split at h
            · rename_i p ps' h1 h2; injection h with h; subst h; simp [ih h2]
            · cases h
      simpa using this hp
    have hne1 : (ps.map (partOf I ρ β)).toArray.size ≠ 1 := by
      simp only [List.size_toArray, List.length_map, hl]
      intro e
      cases hrs : fn.results.toList with
      | nil => rw [hrs] at e; simp at e
      | cons a r =>
        rw [hrs] at e
        cases r with
        | nil => exact hne a hrs
        | cons b r => simp at e
    rw [dif_neg hne1]
    rfl
/-- Functions do what we say. -/
theorem execF_ok (hm : P.follows .mixedOrders = true) (hN : NoCount P) {ct : CT} (hct : CTOk P I ρ ct) : ∀ n, CallOk P I ρ (execF P ct n)
  | 0 => fun g args s w0 X n0 β0 β w R ht => ht.elim
  | n + 1 => fun g args s w0 X n0 β0 β w R ht h ha => by
    unfold execF at ht
    split at ht
    · rename_i t hs; exact hct g args s t hs w0 X n0 β0 β w R ht h ha
    · split at ht
      · exact ht.elim
      · rename_i fn hf
        split at ht
        · exact ht.elim
        · rename_i c hcb
          rw [natF_eq] at ht
          cases hdp : deepOk (startSz fn.ntmps args) with
          | false => rw [hdp] at ht; exact ht.elim
          | true =>
          rw [hdp] at ht
          simp only [cond_true] at ht
          rw [fillK_eq, Tree.vc_bind] at ht
          refine calls_of_wp hf hcb ?_
          obtain ⟨hsz, hget⟩ := fillFr_spec args ⟨startSz fn.ntmps args, .nil⟩ 0 hdp (by simp [startSz]; omega)
          have hnil : ∀ t, getF ⟨startSz fn.ntmps args, .nil⟩ t = .undef := fun t => by unfold getF; cases Nat.blt t (startSz fn.ntmps args) <;> rfl
          have e : (⟨(args.map (V.den I ρ β)).toArray ++ Array.replicate (fn.ntmps - (args.map (V.den I ρ β)).toArray.size) undef, []⟩ : Act) = actOf I ρ β (fillFr ⟨startSz fn.ntmps args, .nil⟩ 0 args) := by
            unfold actOf
            congr 1
            apply Array.ext'
            apply List.ext_getElem
            · simp only [hsz]; simp [startSz]; omega
            · intro j h1 h2
              have hj : j < startSz fn.ntmps args := by simpa [hsz] using h2
              simp only [List.toList_toArray, List.getElem_map, List.getElem_range, hget, hnil]
              by_cases hja : j < args.length
              · rw [if_pos ⟨by omega, by omega⟩]
                simp [List.getElem_append, hja]
              · rw [if_neg (by omega)]
                simp [List.getElem_append, hja, V.den_undef]
          rw [e]
          refine execC_ok (w0 := w0) (X := X) (n0 := s.nb) (β0 := β) hm hN (execF_ok hm hN hct n) c _ ⟨fillFr ⟨startSz fn.ntmps args, .nil⟩ 0 args, s⟩ β w (Tree.vc_mono ?_ ht) h.here ?_
          · rintro ⟨ex, f⟩ hp β' w' h' hw'
            have fin : (match resultsS P f fn.results.toList with
              | none => Tree.bad
              | some v => v.force fun v => bif v.wf f.s.nb then tidyK s.nb v f.s fun s => Tree.leaf (v, s) else Tree.bad).vc I ρ (fun r => ∀ β' w', WR I ρ w0 X n0 β0 β' r.2 w' → r.1.wf r.2.nb = true → s.nb ≤ r.2.nb → (∀ id, id < s.nb → β' id = β id) → R (.returned (r.1.den I ρ β')) w') →
                (actOf I ρ β' f.fr).defers = [] ∧ ∃ v, (results fn (actOf I ρ β' f.fr).tmps).run P w' = .ok v w' ∧ R (.returned v) w' := fun hp => by
              split at hp
              · exact hp.elim
              · rename_i v hv
                simp only [V.force_eq, tidyK_eq] at hp
                cases hwf : v.wf f.s.nb with
                | false => rw [hwf] at hp; exact hp.elim
                | true =>
                  rw [hwf] at hp
                  obtain ⟨ht1, ht2⟩ := tidy_ok (n := s.nb) (v := v) (h.rebase h')
                  exact ⟨rfl, _, results_ok h' hv, hp β' w' ht1 (by show v.wf (tidy s.nb v f.s).nb = true; rw [ht2]; exact hwf) (by show s.nb ≤ (tidy s.nb v f.s).nb; rw [ht2]; exact h'.n0le) h'.agr⟩
            cases ex with
            | normal => exact fin hp
            | ret => exact fin hp
            | exit k => exact hp.elim
          · refine ⟨by show deepOk (fillFr _ _ _).sz = true; rw [hsz]; exact hdp, fun t => ?_⟩
            show (getF (fillFr ⟨startSz fn.ntmps args, .nil⟩ 0 args) t).wf s.nb = true
            rw [hget]
            split
            · rename_i ht2
              have hl : t < args.length := by omega
              simp only [Nat.sub_zero, List.getD_eq_getElem?_getD, List.getElem?_eq_getElem hl, Option.getD_some]
              exact ha _ (List.getElem_mem hl)
            · rw [hnil]; rfl
end
/-- A call, from a world where nothing need be known but what the arguments point to. -/
theorem calls_run {P : Program} {I : Interp} {ρ : Env} (hm : P.follows .mixedOrders = true) (hN : NoCount P) {ct : CT} (hct : CTOk P I ρ ct) (n : Nat) (g : FuncId) (args : List V) {w : World} {R : Ending → World → Prop}
    (hw : ∀ v ∈ args, v.wf 0 = true) (hh : Hyp I w fun _ => False)
    (ht : (execF P ct n g args ⟨[], 0, ⟨[], [], 0⟩⟩).vc I ρ (fun r => ∀ β' w', Below w.heap.size w w' → R (.returned (r.1.den I ρ β')) w')) : Calls P g (args.map (V.den I ρ id)).toArray w R := by
  refine execF_ok hm hN hct n g args ⟨[], 0, ⟨[], [], 0⟩⟩ w (fun _ => False) 0 id id w R (Tree.vc_mono ?_ ht) ⟨(fun _ h => nomatch h), (fun _ h => nomatch h), (fun _ h => nomatch h), (fun _ h => nomatch h), (fun _ h => nomatch h), ⟨(fun _ h => nomatch h), (fun _ h => nomatch h), (fun _ h => absurd h (Nat.not_lt_zero _))⟩, Nat.le_refl _, fun _ _ => rfl, Keeps.refl _ _, hh⟩ hw
  intro r hr β' w' h' _ _ _
  exact hr β' w' h'.keeps.below
end Go.Proofs.Ytpmdmcdjhibblaa.Sx
