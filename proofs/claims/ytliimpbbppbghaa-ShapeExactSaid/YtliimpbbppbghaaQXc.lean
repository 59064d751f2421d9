import Derived.Test.YtliimpbbppbghaaQXb
import Derived.RangeFuncLeaves
import Derived.Laws.Wrap64
set_option linter.all false
set_option autoImplicit false
namespace Go.Proofs.Ytliimpbbppbghaa.Sx
open Go Go.RowKit
inductive Ex where
  | normal
  | ret
  | exit (id : Nat)
structure Out where
  e : Ex
  f : F
def Ex.den : Ex → Exit
  | .normal => .normal
  | .ret => .ret
  | .exit id => .exit id
def loopT (g : F → Tree Out) : Nat → F → Tree Out
  | 0, _ => .bad
  | n + 1, f => (g f).bind fun o => match o.e with
    | .normal => loopT g n o.f
    | _ => .leaf o
def loopFuel : Nat := 1000
def noRF : Code → Bool
  | .rangeFunc _ _ _ _ => false
  | .seq a b => noRF a && noRF b
  | .cond _ a b => noRF a && noRF b
  | .block _ c => noRF c
  | .loop c => noRF c
  | .scope c => noRF c
  | _ => true
abbrev CY := List V → S → Option (Tree (V × S))
def CY.none : CY := fun _ _ => Option.none
def fillPs (fr : Fr) : List Tmp → List V → Fr
  | p :: ps, v :: vs => fillPs (setF fr (some p) v) ps vs
  | _, _ => fr
def fillPsK {α : Type} (fr : Fr) : List Tmp → List V → (Fr → α) → α
  | p :: ps, v :: vs, k => v.force fun v => setFK fr (some p) v fun fr => fillPsK fr ps vs k
  | [], _, k => k fr
  | _, [], k => k fr
theorem fillPsK_eq {α : Type} : ∀ (ps : List Tmp) (vs : List V) (fr : Fr) (k : Fr → α), fillPsK fr ps vs k = k (fillPs fr ps vs)
  | [], vs, fr, k => by cases vs <;> rfl
  | p :: ps, [], fr, k => rfl
  | p :: ps, v :: vs, fr, k => by simp [fillPsK, fillPs, V.force_eq, setFK_eq, fillPsK_eq ps vs]
def cyOf (id : Nat) (round : List V → S → Tree (V × S)) (cy : CY) : CY := fun args s => match args with
  | .c (.yld k) :: vs => bif Nat.beq k id then some (round vs s) else cy args s
  | _ => Option.none
def roundEnd (o : Out) : Tree (V × S) := match o.e with
  | .normal => .leaf (.c (.bool (.lit true)), o.f.s)
  | _ => .bad
def execC (P : Program) (callY : CY → CallT) (cy : CY) : Code → Bool → F → Tree Out
  | .skip, _, f => .leaf ⟨.normal, f⟩
  | .region _ ops false, _, f => (seqOps P (callY cy) ops ops.toList f).bind fun f' => .leaf ⟨.normal, f'⟩
  | .region _ ops true, _, f => (drawT P (callY cy) ops f).bind fun f' => .leaf ⟨.normal, f'⟩
  | .seq a b, m, f => (execC P callY cy a m f).bind fun o => match o.e with
    | .normal => execC P callY cy b (m && noRF a) o.f
    | _ => .leaf o
  | .cond c a b, m, f => match evF f.fr c with
    | some (.c (.bool q)) => withB q f.s fun v s => match v with
      | true => execC P callY cy a m ⟨f.fr, s⟩
      | false => execC P callY cy b m ⟨f.fr, s⟩
    | _ => .bad
  | .block id body, m, f => (execC P callY cy body m f).bind fun o => match o.e with
    | .exit k => bif Nat.beq k id then .leaf ⟨.normal, o.f⟩ else .leaf o
    | _ => .leaf o
  | .loop body, _, f => loopT (fun f => execC P callY cy body false f) loopFuel f
  | .scope body, m, f => execC P callY cy body m f
  | .label _, _, f => .leaf ⟨.normal, f⟩
  | .exit id, _, f => .leaf ⟨.exit id, f⟩
  | .ret, _, f => .leaf ⟨.ret, f⟩
  | .rangeFunc g ps assign body, m, f => match m, evF f.fr g with
    | true, some (.c (.fn (.func gf) caps)) => match P.funcs[gf]? with
      | some fn => bif fn.body.isSome then
          natF f.s.nb fun id => (callY (cyOf id (fun vs s => bif Nat.beq vs.length ps.size then
              fillPsK f.fr ps.toList vs fun fr => (execC P callY cy assign false ⟨fr, s⟩).bind fun o => match o.e with
                | .normal => (execC P callY cy body false o.f).bind roundEnd
                | _ => .bad
            else .bad) cy) gf (.c (.yld id) :: caps.map ptrV) ⟨f.s.blks, id + 1, f.s.known⟩).bind fun r => .leaf ⟨.normal, ⟨f.fr, r.2⟩⟩
        else .bad
      | none => .bad
    | _, _ => .bad
  | _, _, _ => .bad
def resultS (P : Program) (f : F) : ResultVar → Option V
  | .tmp t => some (getF f.fr t)
  | .cell a t => match getF f.fr a with
    | .c (.ptr id off) => match f.s.find id with
      | some b => partS P t b.row off
      | none => none
    | _ => none
def partV : V → Option (Bool × List C)
  | .c x => some (false, [x])
  | .agg cs => some (true, cs)
  | .tup _ => none
  | .any _ => none
def partsV : List (Option V) → Option (List (Bool × List C))
  | [] => some []
  | some v :: r => match partV v, partsV r with
    | some p, some ps => some (p :: ps)
    | _, _ => none
  | none :: _ => none
def resultsS (P : Program) (f : F) (rs : List ResultVar) : Option V := match rs with
  | [r] => resultS P f r
  | rs => (partsV (rs.map (resultS P f))).map .tup
def dropNew (n : Nat) : List (Nat × Blk) → List (Nat × Blk)
  | [] => []
  | p :: r => bif Nat.blt p.1 n then p :: r else dropNew n r
def tidy (n : Nat) (v : V) (s : S) : S :=
  let l := dropNew n s.blks
  bif v.wf n && l.all fun p => allWf n p.2.cells then ⟨l, s.nb, s.known⟩ else s
def tidyK {α : Type} (n : Nat) (v : V) (s : S) (k : S → α) : α := match s with
  | ⟨b, m, kn⟩ => match dropNew n b with
    | [] => bif v.wf n then k ⟨[], m, kn⟩ else k s
    | p :: r => bif v.wf n && (p :: r).all fun p => allWf n p.2.cells then k ⟨p :: r, m, kn⟩ else k s
theorem tidyK_eq {α : Type} (n : Nat) (v : V) (s : S) (k : S → α) : tidyK n v s k = k (tidy n v s) := by
  obtain ⟨b, m, kn⟩ := s
  simp only [tidyK, tidy]
  cases h : dropNew n b with
  | nil => cases hv : v.wf n <;> simp [hv]
  | cons p r =>
    simp only
    cases hv : (v.wf n && (p :: r).all fun p => allWf n p.2.cells) <;> simp
def fillFr (fr : Fr) (i : Nat) : List V → Fr
  | [] => fr
  | v :: r => fillFr (setF fr (some i) v) (i + 1) r
def fillK {α : Type} (fr : Fr) (i : Nat) : List V → (Fr → α) → α
  | [], k => k fr
  | v :: r, k => v.force fun v => setFK fr (some i) v fun fr => fillK fr (i + 1) r k
theorem fillK_eq {α : Type} (l : List V) : ∀ (fr : Fr) (i : Nat) (k : Fr → α), fillK fr i l k = k (fillFr fr i l) := by
  induction l with
  | nil => intro fr i k; rfl
  | cons v r ih => intro fr i k; simp [fillK, fillFr, V.force_eq, setFK_eq, ih]
def startSz (n : Nat) (args : List V) : Nat := n + (args.length - n)
abbrev CT := FuncId → List V → S → Option (Tree (V × S))
def execY (P : Program) (ct : CT) : Nat → CY → CallT
  | 0, _, _, _, _ => .bad
  | n + 1, cy, g, args, s => bif Nat.beq g yldNo then (match cy args s with
      | some t => t
      | none => .bad) else match ct g args s with
    | some t => t
    | none => match P.funcs[g]? with
      | none => .bad
      | some fn => match fn.body with
        | none => .bad
        | some c => natF (startSz fn.ntmps args) fun sz => bif deepOk sz then fillK ⟨sz, .nil⟩ 0 args fun fr => (execC P (execY P ct n) cy c true ⟨fr, s⟩).bind fun o => match o.e with
          | .exit _ => .bad
          | _ => match resultsS P o.f fn.results.toList with
            | none => .bad
            | some v => v.force fun v => bif v.wf o.f.s.nb then tidyK s.nb v o.f.s fun s => .leaf (v, s) else .bad
            else .bad
def execF (P : Program) (ct : CT) (n : Nat) : CallT := execY P ct n CY.none
def CTOk (P : Program) (I : Interp) (ρ : Env) (ct : CT) : Prop :=
  ∀ (g : FuncId) (args : List V) (s : S) (t : Tree (V × S)), ct g args s = some t → ∀ (w0 : World) (X : Nat → Prop) (n0 : Nat) (β0 β : Nat → Nat) (w : World) (R : Ending → World → Prop),
    t.vc I ρ (fun r => ∀ β' w', WR I ρ w0 X n0 β0 β' r.2 w' → r.1.wf r.2.nb = true → s.nb ≤ r.2.nb → (∀ id, id < s.nb → β' id = β id) → R (.returned (r.1.den I ρ β')) w') →
    WR I ρ w0 X n0 β0 β s w → (∀ v ∈ args, v.wf s.nb = true) → Calls P g (args.map (V.den I ρ β)).toArray w R
def CT.none : CT := fun _ _ _ => Option.none
theorem CT.none_ok (P : Program) (I : Interp) (ρ : Env) : CTOk P I ρ CT.none := fun _ _ _ _ h => by cases h
theorem wpIn_scope_straight {F : Fence} {n : Nat} {P : Program} {Q : Exit → Act → World → Prop} {a : Act} {w : World} {c : Code} (h : c.wpIn F n P (Exit.noGoto Q) a w) : (Code.scope c).wpIn F n P Q a w := by
  intro b k cs hro hb hr
  have h0 : (lone (b.atR a (.code (.scope c) :: k)) cs w).fenced P F := fenced_calm hb hr rfl
  have hs : step P (lone (b.atR a (.code (.scope c) :: k)) cs w) = .next (lone (b.atR a (.code c :: .inScope c :: k)) cs w) := step_lone_go (by simp [stepG, stepG.exec, Frame.atR])
  have hi : ∀ a w, step P (lone (b.atR a (.inScope c :: k)) cs w) = .next (lone (b.atR a k) cs w) := fun a w => step_lone_go (by simp [stepG, stepG.exec, Frame.atR])
  obtain ⟨e, a₁, w₁, hq, harr⟩ := h b (.inScope c :: k) cs hro hb hr
  cases e with
  | normal => exact ⟨.normal, a₁, w₁, hq, .head h0 hs (StepsIn.trans harr (.one (fenced_calm hb hr rfl) (hi _ _)))⟩
  | exit id =>
    have hx : exitTo id (.inScope c :: k) = exitTo id k := by simp [exitTo]
    exact ⟨.exit id, a₁, w₁, hq, fun k' hk => .head h0 hs (harr.1 k' (by rw [hx]; exact hk)), fun hr' hk => let ⟨k₁, h1, h2⟩ := harr.2 hr' (by rw [hx]; exact hk); ⟨k₁, h1, .head h0 hs h2⟩⟩
  | goto l => exact hq.elim
  | ret => exact ⟨_, a₁, w₁, hq, .of_steps (.one h0 hs) harr⟩
  | panic ch => exact ⟨_, a₁, w₁, hq, .of_steps (.one h0 hs) harr⟩
  | outgrown => exact ⟨_, a₁, w₁, hq, .of_steps (.one h0 hs) harr⟩
theorem wpIn_any {ro : Option Nat} {n : Nat} {P : Program} {Q : Exit → Act → World → Prop} {a : Act} {w : World} {c : Code} (h : c.wpIn (RF ro) 0 P Q a w) : c.wpIn (RF ro) n P Q a w :=
  fun b k cs hro hb _ => h b k cs hro hb (fun _ h => nomatch h)
section
variable {P : Program} {I : Interp} {ρ : Env} {w0 w : World} {X : Nat → Prop} {n0 : Nat} {β0 β : Nat → Nat} {s : S}
theorem Tree.vc_fix {α : Type} {L : List (Nat × Obj)} {t : Tree α} {Φ : α → Prop} : t.vc (I.fix L) ρ Φ ↔ t.vc I ρ Φ := by
  induction t with
  | leaf a => rfl
  | node b x y ihx ihy => simp only [Tree.vc, ihx, ihy, B.den_fix]
  | bad => rfl
theorem actOf_fix {df : List Deferred} {L : List (Nat × Obj)} (fr : Fr) : actOf df (I.fix L) ρ β fr = actOf df I ρ β fr := by
  unfold actOf
  congr 2
  exact List.map_congr_left fun t _ => V.den_fix L _
theorem map_fix {L : List (Nat × Obj)} (args : List V) : args.map (V.den (I.fix L) ρ β) = args.map (V.den I ρ β) := List.map_congr_left fun v _ => V.den_fix L v
def CYOk (P : Program) (I : Interp) (ρ : Env) (Z : Anc) (cy : CY) : Prop :=
  ∀ (args : List V) (s : S) (t : Tree (V × S)), cy args s = some t → ∀ (w0 : World) (X : Nat → Prop) (n0 : Nat) (β0 β : Nat → Nat) (w : World) (R : Ending → World → Prop), Agr Z n0 β0 →
    t.vc I ρ (fun r => ∀ β' w', WR I ρ w0 X n0 β0 β' r.2 w' → r.1.wf r.2.nb = true → s.nb ≤ r.2.nb → (∀ id, id < s.nb → β' id = β id) → R (.returned (r.1.den I ρ β')) w') →
    WR I ρ w0 X n0 β0 β s w → (∀ v ∈ args, v.wf s.nb = true) → YCalls P (args.map (V.den I ρ β)).toArray w R
theorem CTOk.fix {ct : CT} (hct : CTOk P I ρ ct) {L : List (Nat × Obj)} (hL : ∀ p ∈ I.fixed, p ∈ L) : CTOk P (I.fix L) ρ ct := by
  intro g args s t h w0 X n0 β0 β w R ht hw ha
  rw [Tree.vc_fix] at ht
  rw [map_fix]
  refine hct g args s t h w0 X n0 β0 β w R (Tree.vc_mono ?_ ht) (hw.unfix fun p hp => hw.hyp p (hL p hp)) ha
  rintro ⟨v, s'⟩ hr β' w' hw' h1 h2 h3
  have := hr β' w' (hw'.fix hw.hyp) h1 h2 h3
  rwa [V.den_fix] at this
theorem CYOk.fix {Z : Anc} {cy : CY} {L1 L : List (Nat × Obj)} (hcy : CYOk P (I.fix L1) ρ Z cy) (hL : ∀ p ∈ L1, p ∈ L) : CYOk P (I.fix L) ρ Z cy := by
  intro args s t h w0 X n0 β0 β w R hA ht hw ha
  have hw : WR ((I.fix L1).fix L) ρ w0 X n0 β0 β s w := hw
  have hv : ∀ β v, V.den (I.fix L) ρ β v = V.den (I.fix L1) ρ β v := fun β v => (V.den_fix L v).trans (V.den_fix L1 v).symm
  have e : args.map (V.den (I.fix L) ρ β) = args.map (V.den (I.fix L1) ρ β) := List.map_congr_left fun v _ => hv β v
  rw [Tree.vc_fix, ← Tree.vc_fix (L := L1)] at ht
  rw [e]
  refine hcy args s t h w0 X n0 β0 β w R hA (Tree.vc_mono ?_ ht) (hw.unfix fun p hp => hw.hyp p (hL p hp)) ha
  rintro ⟨v, s'⟩ hr β' w' hw' h1 h2 h3
  have := hr β' w' (hw'.fix (L := L) hw.hyp) h1 h2 h3
  rwa [hv] at this
theorem CYOk.anc {Z Z' : Anc} {cy : CY} (hcy : CYOk P I ρ Z cy) (hZ : Agr Z Z'.n Z'.β) : CYOk P I ρ Z' cy := fun args s t h w0 X n0 β0 β w R hA =>
  hcy args s t h w0 X n0 β0 β w R ⟨Nat.le_trans hZ.1 hA.1, fun id hid => (hA.2 id (Nat.lt_of_lt_of_le hid hZ.1)).trans (hZ.2 id hid)⟩
theorem CY.none_ok {Z : Anc} : CYOk P I ρ Z CY.none := fun _ _ _ h => nomatch h
theorem WR.below (h : WR I ρ w0 X n0 β0 β s w) {w' : World} (hb : Below w.heap.size w w') : WR I ρ w0 X n0 β0 β s w' :=
  ⟨fun p hp ho => (h.row p hp ho).heap (hb.block _ (h.lt hp ho)), h.inj, h.idlt, h.cwf, h.own, fun p hp ho => ⟨I.opq.keep w w' _ _ (h.held p hp ho).1 (fun g hg => hb.block g (I.opq.lt w _ _ (h.held p hp ho).1 g hg)), (h.held p hp ho).2⟩, h.uniq, h.known, h.n0le, h.agr,
    h.keeps.trans ⟨hb.os, hb.tape, hb.output, hb.size, fun g hg _ => hb.block g hg⟩, h.hyp⟩
theorem WR.rew {w1 : World} {X1 : Nat → Prop} (h : WR I ρ w1 X1 n0 β0 β s w) (hk : Keeps X w0 w1) (hX : ∀ g, X1 g → X g ∨ w0.heap.size ≤ g) (hy : Hyp I w0 X) : WR I ρ w0 X n0 β0 β s w :=
  ⟨h.row, h.inj, h.idlt, h.cwf, fun p hp ho => (h.own p hp ho).elim (hX _) (fun hg => .inr (Nat.le_trans hk.size hg)), h.held, h.uniq, h.known, h.n0le, h.agr,
    ⟨h.keeps.os.trans hk.os, h.keeps.tape.trans hk.tape, h.keeps.output.trans hk.output, Nat.le_trans hk.size h.keeps.size, fun g hg hx =>
      (h.keeps.block g (Nat.lt_of_lt_of_le hg hk.size) (fun h1 => (hX g h1).elim hx (fun h2 => by omega))).trans (hk.block g hg hx)⟩, hy⟩
def notCells : Obj → Prop
  | .cells .. => False
  | _ => True
theorem WR.putObj (h : WR I ρ w0 X n0 β0 β s w) {l : Nat} {o o' : Obj} (hl : w.heap[l]? = some o) (ho : notCells o) {X1 : Nat → Prop} (hX : ∀ p ∈ s.blks, p.2.live = true → X1 (β p.1)) (hy : Hyp I (w.putObj l o') X1) :
    WR I ρ (w.putObj l o') X1 n0 β0 β s (w.putObj l o') := by
  have hne : ∀ p ∈ s.blks, p.2.live = true → β p.1 ≠ l := fun p hp hpo e => by
    obtain ⟨a, t, this, -⟩ := (h.row p hp hpo).at_ (Blk.live_dead hpo)
    rw [e, hl] at this
    injection this with this
    subst this
    exact ho
  refine ⟨fun p hp hpo => (h.row p hp hpo).heap (World.putObj_heap_other (hne p hp hpo)), h.inj, h.idlt, h.cwf, fun p hp hpo => .inl (hX p hp hpo), fun p hp hpo => ?_, h.uniq, h.known, h.n0le, h.agr, Keeps.refl _ _, hy⟩
  obtain ⟨h1, h2⟩ := h.held p hp hpo
  refine ⟨I.opq.keep w _ _ _ h1 (fun g hg => World.putObj_heap_other (fun e => ?_)), h2⟩
  subst e
  obtain ⟨off, d, hc⟩ := I.opq.u32 w _ _ h1 _ hg
  unfold World.cell? at hc
  cases o <;> simp_all [notCells]
theorem WR.start (h : WR I ρ w0 X n0 β0 β s w) {X1 : Nat → Prop} (hX : ∀ p ∈ s.blks, p.2.live = true → X1 (β p.1)) (hy : Hyp I w X1) : WR I ρ w X1 n0 β0 β s w :=
  ⟨h.row, h.inj, h.idlt, h.cwf, fun p hp hpo => .inl (hX p hp hpo), h.held, h.uniq, h.known, h.n0le, h.agr, Keeps.refl _ _, hy⟩
theorem WR.name (h : WR I ρ w0 X n0 β0 β s w) {g : Nat} : WR I ρ w0 X (s.nb + 1) (up β s.nb g) (up β s.nb g) ⟨s.blks, s.nb + 1, s.known⟩ w := by
  have hne : ∀ p ∈ s.blks, up β s.nb g p.1 = β p.1 := fun p hp => up_lt _ (h.idlt p hp)
  refine ⟨fun p hp ho => ?_, fun p hp ho q hq hqo e => ?_, fun p hp => Nat.lt_succ_of_lt (h.idlt p hp), fun p hp c hc => C.wf_mono (Nat.le_succ _) (h.cwf p hp c hc), fun p hp ho => by rw [hne p hp]; exact h.own p hp ho, fun p hp ho => ?_, h.uniq, h.known, Nat.le_refl _, fun _ _ => rfl, h.keeps, h.hyp⟩
  · exact (h.row p hp ho).agree (hne p hp) (h.cwf p hp) up_lt
  · rw [hne p hp, hne q hq] at e; exact h.inj p hp ho q hq hqo e
  · rw [hne p hp]
    exact ⟨(h.held p hp ho).1, fun q hq hqo => by rw [hne q hq]; exact (h.held p hp ho).2 q hq hqo⟩
structure Bs where
  L : List (Nat × Obj)
  w0 : World
  X : Nat → Prop
  df : List Deferred
def markOf (D : Nat) : Deferred := { target := .collected D, args := #[] }
structure Ext (I : Interp) (b b' : Bs) : Prop where
  keeps : Keeps b.X b.w0 b'.w0
  X : ∀ g, b'.X g → b.X g ∨ b.w0.heap.size ≤ g
  hyp : Hyp (I.fix b.L) b.w0 b.X
  sub : ∀ p ∈ b.L, p ∈ b'.L
  df : b'.df = b.df ∨ ∃ D, b'.df = [markOf D] ∧ (D, Obj.deferred (some [])) ∈ b'.L ∧ b.w0.heap.size ≤ D
theorem Ext.refl {b : Bs} (h : Hyp (I.fix b.L) b.w0 b.X) : Ext I b b := ⟨Keeps.refl _ _, fun _ h => .inl h, h, fun _ h => h, .inl rfl⟩
theorem Ext.trans {b b' b'' : Bs} (h : Ext I b b') (k : Ext I b' b'') : Ext I b b'' := by
  have hX : ∀ g, b'.X g ∨ b'.w0.heap.size ≤ g → b.X g ∨ b.w0.heap.size ≤ g := fun g hg => hg.elim (h.X g) (fun hg => .inr (Nat.le_trans h.keeps.size hg))
  refine ⟨⟨k.keeps.os.trans h.keeps.os, k.keeps.tape.trans h.keeps.tape, k.keeps.output.trans h.keeps.output, Nat.le_trans h.keeps.size k.keeps.size, fun g hg hx => ?_⟩, fun g hg => hX g (k.X g hg), h.hyp, fun p hp => k.sub p (h.sub p hp), ?_⟩
  · refine (k.keeps.block g (Nat.lt_of_lt_of_le hg h.keeps.size) (fun h1 => ?_)).trans (h.keeps.block g hg hx)
    rcases h.X g h1 with h2 | h2
    · exact hx h2
    · omega
  · rcases k.df with e | ⟨D, e, h1, h2⟩
    · rcases h.df with e' | ⟨D, e', h1, h2⟩
      · exact .inl (e.trans e')
      · exact .inr ⟨D, e.trans e', k.sub _ h1, h2⟩
    · exact .inr ⟨D, e, h1, Nat.le_trans h.keeps.size h2⟩
theorem Ext.back {b b' : Bs} (h : Ext I b b') (hw : WR (I.fix b'.L) ρ b'.w0 b'.X n0 β0 β s w) : WR (I.fix b.L) ρ b.w0 b.X n0 β0 β s w := by
  have hw : WR ((I.fix b.L).fix b'.L) ρ b'.w0 b'.X n0 β0 β s w := hw
  exact (hw.unfix fun p hp => hw.hyp p (h.sub p hp)).rew h.keeps h.X h.hyp
def Post (I : Interp) (ρ : Env) (n0 : Nat) (β0 : Nat → Nat) (b : Bs) (c : Code) (Q : Exit → Act → World → Prop) (o : Out) : Prop :=
  ∀ b' β' w', Ext I b b' → (noRF c = true → b'.df = b.df) → WR (I.fix b'.L) ρ b'.w0 b'.X n0 β0 β' o.f.s w' → o.f.wf → Q o.e.den (actOf b'.df I ρ β' o.f.fr) w'
def CodeOk (P : Program) (I : Interp) (ρ : Env) (cy : CY) (Z : Anc) (c : Code) (g : Bool → F → Tree Out) : Prop :=
  ∀ (m : Bool) (ro : Option Nat) (Q : Exit → Act → World → Prop) (f : F) (b : Bs) (n0 : Nat) (β0 β : Nat → Nat) (w : World), Agr Z n0 β0 → (∀ p ∈ I.fixed, p ∈ b.L) → CYOk P (I.fix b.L) ρ Z cy → (m = true → b.df = [] ∧ ro = none) →
    (g m f).vc I ρ (Post I ρ n0 β0 b c Q) → WR (I.fix b.L) ρ b.w0 b.X n0 β0 β f.s w → f.wf → c.wpIn (RF ro) 0 P Q (actOf b.df I ρ β f.fr) w
theorem loopT_ok {cy : CY} {Z : Anc} {c : Code} {g : Bool → F → Tree Out} (hg : CodeOk P I ρ cy Z c g) :
    ∀ (n : Nat) (ro : Option Nat) (Q : Exit → Act → World → Prop) (f : F) (b : Bs) (n0 : Nat) (β0 β : Nat → Nat) (w : World), Agr Z n0 β0 → (∀ p ∈ I.fixed, p ∈ b.L) → CYOk P (I.fix b.L) ρ Z cy →
      (loopT (g false) n f).vc I ρ (Post I ρ n0 β0 b (.loop c) Q) → WR (I.fix b.L) ρ b.w0 b.X n0 β0 β f.s w → f.wf → Code.roundsIn (RF ro) 0 P c Q n (actOf b.df I ρ β f.fr) w
  | 0, ro, Q, f, b, n0, β0, β, w, hA, hs, hy, ht, _, _ => ht.elim
  | n + 1, ro, Q, f, b, n0, β0, β, w, hA, hs, hy, ht, h, hw => by
    unfold loopT at ht
    rw [Tree.vc_bind] at ht
    rw [roundsIn_succ]
    refine hg false ro _ f b n0 β0 β w hA hs hy (fun h => nomatch h) (Tree.vc_mono ?_ ht) h hw
    rintro ⟨e, f'⟩ hp b' β' w' hE hd h' hw'
    cases e with
    | normal =>
      refine loopT_ok hg n ro Q f' b' n0 β0 β' w' hA (fun p hp => hE.sub p (hs p hp)) (hy.fix hE.sub) (Tree.vc_mono ?_ hp) h' hw'
      exact fun o hp b'' β'' w'' hE' hd' h'' hw'' => hp b'' β'' w'' (hE.trans hE') (fun hn => (hd' hn).trans (hd hn)) h'' hw''
    | ret => exact hp b' β' w' hE hd h' hw'
    | exit id => exact hp b' β' w' hE hd h' hw'
theorem fillPs_spec : ∀ (ps : List Tmp) (vs : List V) (fr : Fr), deepOk fr.sz = true → (fillPs fr ps vs).sz = fr.sz ∧
    (actOf [] I ρ β (fillPs fr ps vs)).tmps = (ps.zip (vs.map (V.den I ρ β))).foldl (fun t (p, v) => t.setIfInBounds p v) (actOf [] I ρ β fr).tmps
  | [], vs, fr, hd => by cases vs <;> exact ⟨rfl, rfl⟩
  | p :: ps, [], fr, hd => ⟨rfl, rfl⟩
  | p :: ps, v :: vs, fr, hd => by
    obtain ⟨h1, h2⟩ := fillPs_spec ps vs (setF fr (some p) v) (by rw [setF_sz]; exact hd)
    refine ⟨by rw [fillPs, h1, setF_sz], ?_⟩
    rw [fillPs, h2, ← put_ok fr hd]
    rfl
theorem fillPs_wf {n : Nat} : ∀ (ps : List Tmp) (vs : List V) (fr : Fr), (∀ t, (getF fr t).wf n = true) → (∀ v ∈ vs, v.wf n = true) → ∀ t, (getF (fillPs fr ps vs) t).wf n = true
  | [], vs, fr, h, _ => by cases vs <;> exact h
  | p :: ps, [], fr, h, _ => h
  | p :: ps, v :: vs, fr, h, hv => fillPs_wf ps vs _ (setF_wf h (hv v (.head _))) (fun u hu => hv u (.tail _ hu))
theorem WR.low {n1 : Nat} {β1 : Nat → Nat} (h : WR I ρ w0 X n1 β1 β s w) (hn : n0 ≤ n1) (hβ : ∀ id, id < n0 → β1 id = β0 id) : WR I ρ w0 X n0 β0 β s w :=
  ⟨h.row, h.inj, h.idlt, h.cwf, h.own, h.held, h.uniq, h.known, Nat.le_trans hn h.n0le, fun id hid => (h.agr id (Nat.lt_of_lt_of_le hid hn)).trans (hβ id hid), h.keeps, h.hyp⟩
theorem WR.refix {L L' : List (Nat × Obj)} (h : WR (I.fix L) ρ w0 X n0 β0 β s w) (hy : Hyp (I.fix L') w0 X) : WR (I.fix L') ρ w0 X n0 β0 β s w := WR.fix (I := I.fix L) (L := L') h hy
theorem rangeF_ok (hN : NoCount P) {callY : CY → CallT} {cy : CY} {Z : Anc}
    (hc : ∀ (L : List (Nat × Obj)) (cy : CY) (Z : Anc), (∀ p ∈ I.fixed, p ∈ L) → CYOk P (I.fix L) ρ Z cy → CallOk P (I.fix L) ρ Z (callY cy))
    {g : Operand} {ps : Array Tmp} {assign body : Code} (ih1 : CodeOk P I ρ cy Z assign (execC P callY cy assign)) (ih2 : CodeOk P I ρ cy Z body (execC P callY cy body))
    {Q : Exit → Act → World → Prop} {f : F} {b : Bs} (hA : Agr Z n0 β0) (hs : ∀ p ∈ I.fixed, p ∈ b.L) (hy : CYOk P (I.fix b.L) ρ Z cy) (hd0 : b.df = []) (h : WR (I.fix b.L) ρ b.w0 b.X n0 β0 β f.s w) (hw : f.wf)
    {gf : FuncId} {caps : List (Nat × Nat)} {fn : Func} (hg : evF f.fr g = some (.c (.fn (.func gf) caps))) (hfn : P.funcs[gf]? = some fn) (hb : fn.body.isSome = true)
    (ht : (callY (cyOf f.s.nb (fun vs s => bif Nat.beq vs.length ps.size then
              fillPsK f.fr ps.toList vs fun fr => (execC P callY cy assign false ⟨fr, s⟩).bind fun o => match o.e with
                | .normal => (execC P callY cy body false o.f).bind roundEnd
                | _ => .bad
            else .bad) cy) gf (.c (.yld f.s.nb) :: caps.map ptrV) ⟨f.s.blks, f.s.nb + 1, f.s.known⟩).vc I ρ (fun r => (Tree.leaf (⟨.normal, ⟨f.fr, r.2⟩⟩ : Out)).vc I ρ (Post I ρ n0 β0 b (.rangeFunc g ps assign body) Q))) :
    (Code.rangeFunc g ps assign body).wpIn (RF none) 0 P Q (actOf b.df I ρ β f.fr) w := by
  rw [hd0]
  refine wpIn_rangeFunc (fun fn' _ => ?_)
  obtain ⟨rec, hrec⟩ : ∃ rec : Loop, rec = { state := .ready, pending := none, fn := fn', tmps := (actOf [] I ρ β f.fr).tmps, params := ps, assign, body, defers := w.heap.size } := ⟨_, rfl⟩
  obtain ⟨W1, hW1⟩ : ∃ W1, (w.alloc (.deferred (some []))).alloc (.loop rec) = W1 := ⟨_, rfl⟩
  obtain ⟨β', hβ'⟩ : ∃ β', β' = up β f.s.nb (w.heap.size + 1) := ⟨_, rfl⟩
  have hcw : ∀ p ∈ caps, p.1 < f.s.nb := by
    have := evF_wf hw.ok hg
    simp only [V.wf, C.wf, List.all_eq_true] at this
    exact fun p hp => by simpa using this p hp
  have hsz1 : W1.heap.size = w.heap.size + 2 := by rw [← hW1]; simp
  have hL1 : W1.heap[w.heap.size + 1]? = some (.loop rec) := by
    rw [← hW1]; have := World.alloc_heap_new (w.alloc (.deferred (some []))) (.loop rec); rwa [World.size_alloc] at this
  have hD1 : W1.heap[w.heap.size]? = some (.deferred (some [])) := by
    rw [← hW1]; exact (Below.heap_alloc _ _ _ (by simp)).trans (World.alloc_heap_new w _)
  have hB1 : Below w.heap.size w W1 := by
    rw [← hW1]
    exact ⟨rfl, rfl, rfl, by simp; omega, fun k hk => (Below.heap_alloc _ _ _ (by simp; omega)).trans (Below.heap_alloc _ _ _ hk)⟩
  have hbs : b.w0.heap.size ≤ w.heap.size := h.keeps.size
  have hbl : ∀ p ∈ b.L, p.1 < b.w0.heap.size ∧ ¬ b.X p.1 ∧ w.heap[p.1]? = some p.2 := fun p hp => by
    obtain ⟨h1, h2⟩ := h.hyp p hp
    have h3 := (Array.getElem?_eq_some_iff.1 h1).1
    exact ⟨h3, h2, (h.keeps.block _ h3 h2).trans h1⟩
  have e1 : ∀ id, id < f.s.nb → β' id = β id := fun id hid => by rw [hβ']; exact up_lt id hid
  have e2 : β' f.s.nb = w.heap.size + 1 := by rw [hβ']; exact up_self
  obtain ⟨L', hL'⟩ : ∃ L' : List (Nat × Obj), L' = (w.heap.size + 1, .loop rec) :: (w.heap.size, .deferred (some [])) :: b.L := ⟨_, rfl⟩
  obtain ⟨X', hX'⟩ : ∃ X' : Nat → Prop, X' = fun g => (b.X g ∨ b.w0.heap.size ≤ g) ∧ g < w.heap.size := ⟨_, rfl⟩
  have hsub : ∀ p ∈ b.L, p ∈ L' := fun p hp => by rw [hL']; exact .tail _ (.tail _ hp)
  have hyb : Hyp (I.fix b.L) W1 X' := fun p hp => by
    obtain ⟨h1, h2, h3⟩ := hbl p hp
    refine ⟨(hB1.block _ (by omega)).trans h3, fun hx => ?_⟩
    rw [hX'] at hx
    exact hx.1.elim h2 (fun hx => by omega)
  have hyL : Hyp (I.fix L') W1 X' := fun p hp => by
    have hp : p ∈ L' := hp
    rw [hL'] at hp
    rcases List.mem_cons.1 hp with e | hp
    · subst e; exact ⟨hL1, fun hx => by rw [hX'] at hx; have := hx.2; omega⟩
    · rcases List.mem_cons.1 hp with e | hp
      · subst e; exact ⟨hD1, fun hx => by rw [hX'] at hx; have := hx.2; omega⟩
      · exact hyb p hp
  have hR1 : WR (I.fix L') ρ W1 X' (f.s.nb + 1) β' β' ⟨f.s.blks, f.s.nb + 1, f.s.known⟩ W1 := by
    have h2 := (h.below hB1).start (X1 := X') (fun p hp ho => by
      rw [hX']; exact ⟨h.own p hp ho, h.lt hp ho⟩) hyb
    have h3 := h2.name (g := w.heap.size + 1)
    rw [← hβ'] at h3
    exact h3.refix hyL
  have hcy : CYOk P (I.fix L') ρ ⟨f.s.nb + 1, β'⟩ (cyOf f.s.nb (fun vs s => bif Nat.beq vs.length ps.size then
              fillPsK f.fr ps.toList vs fun fr => (execC P callY cy assign false ⟨fr, s⟩).bind fun o => match o.e with
                | .normal => (execC P callY cy body false o.f).bind roundEnd
                | _ => .bad
            else .bad) cy) := by
    intro args s t hct w0x Xx nx β0x βx wx R hAx htx hwx hargs
    have hZ : Agr Z (f.s.nb + 1) β' := ⟨Nat.le_succ_of_le (Nat.le_trans hA.1 h.n0le), fun id hid => (e1 id (Nat.lt_of_lt_of_le hid (Nat.le_trans hA.1 h.n0le))).trans ((h.anc hA).2 id hid)⟩
    have hyL' : CYOk P (I.fix L') ρ Z cy := hy.fix hsub
    unfold cyOf at hct
    split at hct
    · rename_i k vs
      cases hk : Nat.beq k f.s.nb with
      | false =>
        rw [hk] at hct
        exact (hyL'.anc (Z' := ⟨f.s.nb + 1, β'⟩) hZ) _ s t hct w0x Xx nx β0x βx wx R hAx htx hwx hargs
      | true =>
        rw [hk] at hct
        have hk := Nat.eq_of_beq_eq_true hk
        subst hk
        simp only [cond_true, Option.some.injEq] at hct
        subst hct
        cases hlen : Nat.beq vs.length ps.size with
        | false => rw [hlen] at htx; exact htx.elim
        | true =>
          rw [hlen] at htx
          have hlen := Nat.eq_of_beq_eq_true hlen
          simp only [cond_true, fillPsK_eq, Tree.vc_bind] at htx
          have b1 : ∀ id, id < f.s.nb → βx id = β id := fun id hid => (hwx.agr id (Nat.lt_of_lt_of_le (Nat.lt_succ_of_lt hid) hAx.1)).trans ((hAx.2 id (Nat.lt_succ_of_lt hid)).trans (e1 id hid))
          have b2 : βx f.s.nb = w.heap.size + 1 := (hwx.agr _ (Nat.lt_of_lt_of_le (Nat.lt_succ_self _) hAx.1)).trans ((hAx.2 _ (Nat.lt_succ_self _)).trans e2)
          have hlm : ((w.heap.size + 1, Obj.loop rec) : Nat × Obj) ∈ L' := by rw [hL']; exact .head _
          obtain ⟨q1, q2⟩ := hwx.hyp _ hlm
          have q3 : w.heap.size + 1 < w0x.heap.size := (Array.getElem?_eq_some_iff.1 q1).1
          have hlx : wx.heap[w.heap.size + 1]? = some (.loop rec) := (hwx.keeps.block _ q3 q2).trans q1
          have hnb : f.s.nb ≤ s.nb := Nat.le_of_succ_le (Nat.le_trans hAx.1 hwx.n0le)
          have hvw : ∀ v ∈ vs, v.wf s.nb = true := fun v hv => hargs v (.tail _ hv)
          have hfw : ∀ t, (getF f.fr t).wf s.nb = true := fun t => V.wf_mono hnb (hw.ok t)
          have hpar : rec.params = ps := by rw [hrec]
          have htm : rec.tmps = (actOf [] I ρ βx f.fr).tmps := by rw [hrec]; exact congrArg Act.tmps (actOf_agree hw.ok b1).symm
          have hAs : Agr Z s.nb βx := hwx.anc ⟨Nat.le_trans hZ.1 hAx.1, fun id hid => (hAx.2 id (Nat.lt_of_lt_of_le hid hZ.1)).trans (hZ.2 id hid)⟩
          refine ⟨w.heap.size + 1, vs.map (V.den (I.fix L') ρ βx), rec, ?_, hlx, by rw [hpar]; simpa using hlen, fun n => ?_⟩
          · simp only [List.map_cons]
            congr 2
            show Value.func (.yield (βx f.s.nb)) #[] #[] = _
            rw [b2]
          refine roundIn_of_wpIn (F := Fence.wide) trivial ?_
          show (rec.assign).wpIn (RF (some (w.heap.size + 1))) n P _ _ wx
          refine wpIn_any ?_
          obtain ⟨p1, p2⟩ := fillPs_spec (I := I) (ρ := ρ) (β := βx) ps.toList vs f.fr hw.deep
          have eact : (⟨(rec.params.zip (vs.map (V.den (I.fix L') ρ βx)).toArray).foldl (fun t (p, v) => t.setIfInBounds p v) rec.tmps, []⟩ : Act) = actOf [] I ρ βx (fillPs f.fr ps.toList vs) := by
            have e3 : (rec.params.zip (vs.map (V.den (I.fix L') ρ βx)).toArray).foldl (fun t (p, v) => t.setIfInBounds p v) rec.tmps = (actOf [] I ρ βx (fillPs f.fr ps.toList vs)).tmps := by
              rw [p2, htm, hpar, map_fix, ← Array.foldl_toList, Array.toList_zip]
            rw [e3]
            rfl
          rw [eact]
          have hrA : rec.assign = assign := by rw [hrec]
          have hrB : rec.body = body := by rw [hrec]
          rw [hrA]
          refine ih1 false (some (w.heap.size + 1)) _ ⟨fillPs f.fr ps.toList vs, s⟩ ⟨L', w0x, Xx, []⟩ s.nb βx βx wx hAs (fun p hp => hsub p (hs p hp)) hyL' (fun h => nomatch h) (Tree.vc_mono ?_ (Tree.vc_fix.1 htx)) hwx.here ⟨by show deepOk (fillPs f.fr ps.toList vs).sz = true; rw [p1]; exact hw.deep, fillPs_wf _ _ _ hfw hvw⟩
          rintro ⟨ex, f1⟩ hp bb1 β1 w1 hE1 - hV1 hwf1
          cases ex with
          | ret => exact hp.elim
          | exit k => exact hp.elim
          | normal =>
            have hk1 := hE1.back hV1
            have hl1 : w1.heap[w.heap.size + 1]? = some (.loop rec) := (hk1.keeps.block _ q3 q2).trans q1
            have hblx : ∀ p ∈ b.L, p.1 < w0x.heap.size ∧ ¬ Xx p.1 ∧ w1.heap[p.1]? = some p.2 ∧ p.1 ≠ w.heap.size + 1 := fun p hp => by
              obtain ⟨r1, r2⟩ := hwx.hyp p (hsub p hp)
              have r3 := (Array.getElem?_eq_some_iff.1 r1).1
              have := (hbl p hp).1
              exact ⟨r3, r2, (hk1.keeps.block _ r3 r2).trans r1, by omega⟩
            obtain ⟨XB, hXB⟩ : ∃ XB : Nat → Prop, XB = fun g => Xx g ∨ w0x.heap.size ≤ g := ⟨_, rfl⟩
            obtain ⟨busy, hbusy⟩ : ∃ o : Obj, o = .loop { rec with state := .busy } := ⟨_, rfl⟩
            have hlt1 : w.heap.size + 1 < w1.heap.size := (Array.getElem?_eq_some_iff.1 hl1).1
            have hyB : ∀ o, Hyp (I.fix b.L) (w1.putObj (w.heap.size + 1) o) XB := fun o p hp => by
              obtain ⟨r1, r2, r3, r4⟩ := hblx p hp
              refine ⟨(World.putObj_heap_other r4).trans r3, fun hx => ?_⟩
              rw [hXB] at hx
              exact hx.elim r2 (fun hx => by omega)
            have hub : WR (I.fix b.L) ρ w0x Xx s.nb βx β1 f1.s w1 := hk1.refix (fun p hp => hwx.hyp p (hsub p hp))
            have hVB : WR (I.fix b.L) ρ (w1.putObj (w.heap.size + 1) busy) XB s.nb βx β1 f1.s (w1.putObj (w.heap.size + 1) busy) := hub.putObj hl1 trivial (fun p hp ho => by rw [hXB]; exact hub.own p hp ho) (hyB _)
            refine ⟨w1.putObj (w.heap.size + 1) busy, by rw [hbusy]; exact run_beginRound hl1 (by rw [hrec]), ?_⟩
            show (rec.body).wpIn (RF (some (w.heap.size + 1))) n P _ _ _
            rw [hrB]
            refine wpIn_any ?_
            have hp : ((execC P callY cy body false f1).bind roundEnd).vc I ρ _ := Tree.vc_fix.1 hp
            rw [Tree.vc_bind] at hp
            refine ih2 false (some (w.heap.size + 1)) _ f1 ⟨b.L, w1.putObj (w.heap.size + 1) busy, XB, bb1.df⟩ s.nb βx β1 _ hAs hs hy (fun h => nomatch h) (Tree.vc_mono ?_ hp) hVB hwf1
            rintro ⟨ex, f2⟩ hp2 bb2 β2 w2 hE2 - hV2 hwf2
            cases ex with
            | ret => exact hp2.elim
            | exit k => exact hp2.elim
            | normal =>
              have hk2 := hE2.back hV2
              have hnl : ¬ XB (w.heap.size + 1) := fun hx => by rw [hXB] at hx; exact hx.elim q2 (fun hx => by omega)
              have hl2 : w2.heap[w.heap.size + 1]? = some (.loop { rec with state := .busy }) := by
                have := hk2.keeps.block (w.heap.size + 1) (by rw [World.putObj_size]; exact hlt1) hnl
                rw [World.putObj_heap_same hlt1, hbusy] at this
                exact this
              refine ⟨_, _, run_endRound none hl2, ?_⟩
              have hro : (Obj.loop { ({ rec with state := .busy } : Loop) with state := if (none : Option Code).isNone then .ready else .done, pending := none }) = .loop rec := by rw [hrec]; rfl
              rw [hro]
              have hlt2 : w.heap.size + 1 < w2.heap.size := (Array.getElem?_eq_some_iff.1 hl2).1
              have hk3 : Keeps Xx w0x (w2.putObj (w.heap.size + 1) (.loop rec)) := by
                refine ⟨hk2.keeps.os.trans hub.keeps.os, hk2.keeps.tape.trans hub.keeps.tape, hk2.keeps.output.trans hub.keeps.output, ?_, fun g hg hx => ?_⟩
                · have := hk2.keeps.size; have := hub.keeps.size; simp only [World.putObj_size] at *; omega
                · by_cases e : g = w.heap.size + 1
                  · subst e; rw [World.putObj_heap_same hlt2]; exact q1.symm
                  · rw [World.putObj_heap_other e]
                    have hg1 : g < w1.heap.size := Nat.lt_of_lt_of_le hg hub.keeps.size
                    have hx1 : ¬ XB g := fun hx' => by rw [hXB] at hx'; exact hx'.elim hx (fun hx' => by omega)
                    have := hk2.keeps.block g (by rw [World.putObj_size]; exact hg1) hx1
                    rw [World.putObj_heap_other e] at this
                    exact this.trans (hub.keeps.block g hg hx)
              have hy3 : Hyp (I.fix b.L) (w2.putObj (w.heap.size + 1) (.loop rec)) XB := fun p hp => by
                obtain ⟨r1, r2⟩ := hk2.hyp p hp
                have r3 := (Array.getElem?_eq_some_iff.1 r1).1
                exact ⟨(World.putObj_heap_other (hblx p hp).2.2.2).trans ((hk2.keeps.block _ r3 r2).trans r1), r2⟩
              have hV3 : WR (I.fix b.L) ρ (w2.putObj (w.heap.size + 1) (.loop rec)) XB s.nb βx β2 f2.s (w2.putObj (w.heap.size + 1) (.loop rec)) := hk2.putObj hl2 trivial (fun p hp ho => by
                rcases hk2.own p hp ho with h1 | h1
                · exact h1
                · rw [hXB]; exact .inr (Nat.le_trans hub.keeps.size (by simpa using h1))) hy3
              have hV4 := (hV3.rew (w0 := w0x) (X := Xx) hk3 (fun g hg => by rw [hXB] at hg; exact hg) (fun p hp => hwx.hyp p (hsub p hp))).refix hwx.hyp
              have := hp2 β2 _ (hV4.low hwx.n0le (fun id hid => hwx.agr id hid)) rfl hV4.n0le hV4.agr
              exact this
    · cases hct
  have hgy : gf ≠ yldNo := fun e => funcsBad hN hfn e
  refine ⟨w.heap.size + 1, [markOf w.heap.size], W1, ⟨.fn (.func gf) (caps.map fun p => Value.pointer (some ⟨β p.1, p.2, none⟩)).toArray, #[] ++ #[.func (.yield (w.heap.size + 1)) #[] #[]]⟩, W1, gf,
    (#[] ++ #[.func (.yield (w.heap.size + 1)) #[] #[]]) ++ (caps.map fun p => Value.pointer (some ⟨β p.1, p.2, none⟩)).toArray, W1, ?_, ?_, fun _ _ => trivial, ?_, (fun h => nomatch h), ?_⟩
  · rw [← hW1, hrec]; exact run_enterLoop_outer _ _ _ _ _
  · have he : (actOf [] I ρ β f.fr).eval g = Value.func (.func gf) #[] (caps.map fun p => Value.pointer (some ⟨β p.1, p.2, none⟩)).toArray := evF_ok hg
    have hcn : ∀ v : Value, (actOf [] I ρ β f.fr).eval (.const v) = v := fun _ => rfl
    simp only [resolve, he, Deferred.ofValue, Sem.run_bind, Sem.run_pure, Result.andThen_ok, List.map_toArray, List.map_cons, List.map_nil, hcn]
  · simp only [invoke]
    exact callFunc_run hN hfn hb _ _
  · show CallsIn Fence.wide _ P gf _ W1 _
    refine callsIn_wide.2 ?_
    have key := hc L' _ ⟨f.s.nb + 1, β'⟩ (fun p hp => hsub p (hs p hp)) hcy gf (.c (.yld f.s.nb) :: caps.map ptrV) ⟨f.s.blks, f.s.nb + 1, f.s.known⟩ W1 X' (f.s.nb + 1) β' β' W1
      (rangePost (RF none) 0 P (w.heap.size + 1) Q { tmps := (actOf [] I ρ β f.fr).tmps, defers := [markOf w.heap.size] ++ (actOf [] I ρ β f.fr).defers }) ⟨Nat.le_refl _, fun _ _ => rfl⟩ (Tree.vc_mono ?_ (Tree.vc_fix.2 ht)) hR1 ?_
    · unfold CallsX at key
      rw [if_neg hgy] at key
      have ea : ((V.c (.yld f.s.nb) :: caps.map ptrV).map (V.den (I.fix L') ρ β')).toArray = (#[] ++ #[.func (.yield (w.heap.size + 1)) #[] #[]]) ++ (caps.map fun p => Value.pointer (some ⟨β p.1, p.2, none⟩)).toArray := by
        apply Array.ext'
        simp only [List.map_cons, List.map_map, V.den, C.den, e2, Array.toList_append, List.toList_toArray, Array.toList_empty, List.nil_append, List.singleton_append]
        congr 1
        refine List.map_congr_left fun p hp => ?_
        simp only [Function.comp, ptrV, V.den, C.den, e1 _ (hcw p hp)]
      rw [ea] at key
      exact key
    · rintro ⟨v, s2⟩ hp β2 w2 hV2 - hle hag
      have hnX : ¬ X' (w.heap.size + 1) := fun hx => by rw [hX'] at hx; have := hx.2; omega
      have hnD : ¬ X' w.heap.size := fun hx => by rw [hX'] at hx; have := hx.2; omega
      have hl2 : w2.heap[w.heap.size + 1]? = some (.loop rec) := (hV2.keeps.block _ (by omega) hnX).trans hL1
      have hD2 : w2.heap[w.heap.size]? = some (.deferred (some [])) := (hV2.keeps.block _ (by omega) hnD).trans hD1
      obtain ⟨o', ho'⟩ : ∃ o' : Obj, o' = .loop { rec with state := .exhausted } := ⟨_, rfl⟩
      refine ⟨none, w2.putObj (w.heap.size + 1) o', by have := run_endLoop (P := P) hl2 (by rw [hrec]; simp); rw [ho']; rw [hrec] at this ⊢; exact this, ?_⟩
      show Q .normal _ _
      have ea : ({ tmps := (actOf [] I ρ β f.fr).tmps, defers := [markOf w.heap.size] ++ (actOf [] I ρ β f.fr).defers } : Act) = actOf [markOf w.heap.size] I ρ β2 f.fr := by
        rw [actOf_agree (df := [markOf w.heap.size]) (I := I) (ρ := ρ) hw.ok (fun id hid => (hag id (Nat.lt_succ_of_lt hid)).trans (e1 id hid))]
        rfl
      rw [ea]
      obtain ⟨X2, hX2⟩ : ∃ X2 : Nat → Prop, X2 = fun g => (b.X g ∨ b.w0.heap.size ≤ g) ∧ g ≠ w.heap.size := ⟨_, rfl⟩
      have hub : WR (I.fix b.L) ρ W1 X' (f.s.nb + 1) β' β2 s2 w2 := hV2.refix hyb
      have hbl2 : ∀ p ∈ b.L, (w2.putObj (w.heap.size + 1) o').heap[p.1]? = some p.2 ∧ ¬ X2 p.1 := fun p hp => by
        obtain ⟨h1, h2, h3⟩ := hbl p hp
        obtain ⟨r1, r2⟩ := hyb p hp
        refine ⟨(World.putObj_heap_other (by omega)).trans ((hV2.keeps.block _ (by omega) r2).trans r1), fun hx => ?_⟩
        rw [hX2] at hx
        exact hx.1.elim h2 (fun hx => by omega)
      have hy2 : Hyp (I.fix ((w.heap.size, .deferred (some [])) :: b.L)) (w2.putObj (w.heap.size + 1) o') X2 := fun p hp => by
        rcases List.mem_cons.1 hp with e | hp
        · subst e; exact ⟨(World.putObj_heap_other (by simp)).trans hD2, fun hx => by rw [hX2] at hx; exact hx.2 rfl⟩
        · exact hbl2 p hp
      have hV3 := ((hub.putObj (o' := o') (X1 := X2) hl2 trivial (fun p hp ho => by
        rw [hX2]
        refine ⟨?_, fun e => ?_⟩
        · rcases hub.own p hp ho with h1 | h1
          · rw [hX'] at h1; exact h1.1
          · exact .inr (by omega)
        · obtain ⟨_, _, this, -⟩ := (hub.row p hp ho).at_ (Blk.live_dead ho)
          rw [e, hD2] at this
          injection this with this
          cases this) (fun p hp => hbl2 p hp)).refix hy2)
      refine hp ⟨(w.heap.size, .deferred (some [])) :: b.L, w2.putObj (w.heap.size + 1) o', X2, [markOf w.heap.size]⟩ β2 _ ⟨⟨hub.keeps.os.trans (hB1.os.trans h.keeps.os), hub.keeps.tape.trans (hB1.tape.trans h.keeps.tape), hub.keeps.output.trans (hB1.output.trans h.keeps.output), ?_, fun g hg hx => ?_⟩, fun g hg => by rw [hX2] at hg; exact hg.1, h.hyp, fun p hp => .tail _ hp, .inr ⟨w.heap.size, rfl, .head _, hbs⟩⟩
        (fun h => nomatch h) (hV3.low (Nat.le_succ_of_le h.n0le) (fun id hid => (e1 id (Nat.lt_of_lt_of_le hid h.n0le)).trans (h.agr id hid))) ⟨hw.deep, fun t => V.wf_mono (Nat.le_of_succ_le hle) (hw.ok t)⟩
      · have := hub.keeps.size; simp only [World.putObj_size]; omega
      · rw [World.putObj_heap_other (by omega)]
        refine (hub.keeps.block g (by omega) (fun hx' => ?_)).trans ((hB1.block g (by omega)).trans (h.keeps.block g hg hx))
        rw [hX'] at hx'
        exact hx'.1.elim hx (fun hx' => by omega)
    · intro v hv
      rcases List.mem_cons.1 hv with e | hv
      · subst e; simp [V.wf, C.wf]
      · obtain ⟨p, hp, rfl⟩ := List.mem_map.1 hv
        simp only [ptrV, V.wf, C.wf, Nat.blt_eq]
        have := hcw p hp
        omega
theorem execC_ok (hm : P.follows .mixedOrders = true) (hN : NoCount P) {callY : CY → CallT} {cy : CY} {Z : Anc}
    (hc : ∀ (L : List (Nat × Obj)) (cy : CY) (Z : Anc), (∀ p ∈ I.fixed, p ∈ L) → CYOk P (I.fix L) ρ Z cy → CallOk P (I.fix L) ρ Z (callY cy)) :
    ∀ c : Code, CodeOk P I ρ cy Z c (execC P callY cy c) := by
  intro c
  induction c with
  | skip => intro m ro Q f b n0 β0 β w hA hs hy hdf ht h hw; exact wpIn_skip (ht b β w (.refl h.hyp) (fun _ => rfl) h hw)
  | region id ops draw =>
    intro m ro Q f b n0 β0 β w hA hs hy hdf ht h hw
    rw [← actOf_fix (L := b.L)]
    cases draw with
    | false =>
      simp only [execC, Tree.vc_bind] at ht
      refine wpIn_region_list (seqOps_ok hN (hc b.L cy Z hs hy) hA ops.toList f β w (Tree.vc_mono (fun f' hp β' w' h' hw' => ?_) (Tree.vc_fix.2 ht)) h hw)
      rw [actOf_fix]
      exact hp b β' w' (.refl h.hyp) (fun _ => rfl) h' hw'
    | true =>
      simp only [execC, Tree.vc_bind] at ht
      refine drawT_ok hm hN (hc b.L cy Z hs hy) hA (Tree.vc_mono (fun f' hp β' w' h' hw' => ?_) (Tree.vc_fix.2 ht)) h hw
      rw [actOf_fix]
      exact hp b β' w' (.refl h.hyp) (fun _ => rfl) h' hw'
  | seq c1 c2 ih1 ih2 =>
    intro m ro Q f b n0 β0 β w hA hs hy hdf ht h hw
    simp only [execC, Tree.vc_bind] at ht
    refine wpIn_seq (ih1 m ro _ f b n0 β0 β w hA hs hy hdf (Tree.vc_mono ?_ ht) h hw)
    rintro ⟨e, f'⟩ hp b' β' w' hE hd h' hw'
    cases e with
    | normal =>
      refine ih2 (m && noRF c1) ro Q f' b' n0 β0 β' w' hA (fun p hp => hE.sub p (hs p hp)) (hy.fix hE.sub) (fun hq => ?_) (Tree.vc_mono ?_ hp) h' hw'
      · rw [Bool.and_eq_true] at hq
        exact ⟨(hd hq.2).trans (hdf hq.1).1, (hdf hq.1).2⟩
      · refine fun o hp b'' β'' w'' hE' hd' h'' hw'' => hp b'' β'' w'' (hE.trans hE') (fun hn => ?_) h'' hw''
        simp only [noRF, Bool.and_eq_true] at hn
        exact (hd' hn.2).trans (hd hn.1)
    | ret => exact hp b' β' w' hE (fun hn => by simp only [noRF, Bool.and_eq_true] at hn; exact hd hn.1) h' hw'
    | exit id => exact hp b' β' w' hE (fun hn => by simp only [noRF, Bool.and_eq_true] at hn; exact hd hn.1) h' hw'
  | cond q c1 c2 ih1 ih2 =>
    intro m ro Q f b n0 β0 β w hA hs hy hdf ht h hw
    unfold execC at ht
    split at ht
    · rename_i q' hq
      obtain ⟨s', h', hnb, hbl, ht⟩ := withB_ok h ((Tree.vc_fix (L := b.L)).2 ht)
      rw [Tree.vc_fix, B.den_fix] at ht
      refine wpIn_cond (t := q'.den I ρ) (evF_ok hq) ?_
      have hw' : (⟨f.fr, s'⟩ : F).wf := ⟨hw.deep, fun t => by show (getF f.fr t).wf s'.nb = true; rw [hnb]; exact hw.ok t⟩
      cases hb : q'.den I ρ with
      | true =>
        rw [hb] at ht
        exact ih1 m ro Q ⟨f.fr, s'⟩ b n0 β0 β w hA hs hy hdf (Tree.vc_mono (fun o hp b'' β'' w'' hE' hd' h'' hw'' => hp b'' β'' w'' hE' (fun hn => by simp only [noRF, Bool.and_eq_true] at hn; exact hd' hn.1) h'' hw'') ht) h' hw'
      | false =>
        rw [hb] at ht
        exact ih2 m ro Q ⟨f.fr, s'⟩ b n0 β0 β w hA hs hy hdf (Tree.vc_mono (fun o hp b'' β'' w'' hE' hd' h'' hw'' => hp b'' β'' w'' hE' (fun hn => by simp only [noRF, Bool.and_eq_true] at hn; exact hd' hn.2) h'' hw'') ht) h' hw'
    · exact ht.elim
  | block id body ih =>
    intro m ro Q f b n0 β0 β w hA hs hy hdf ht h hw
    simp only [execC, Tree.vc_bind] at ht
    refine wpIn_block (ih m ro _ f b n0 β0 β w hA hs hy hdf (Tree.vc_mono ?_ ht) h hw)
    rintro ⟨e, f'⟩ hp b' β' w' hE hd h' hw'
    cases e with
    | normal => exact hp b' β' w' hE hd h' hw'
    | ret => exact hp b' β' w' hE hd h' hw'
    | exit k =>
      simp only [Ex.den, Exit.inBlock]
      cases hk : Nat.beq k id with
      | true =>
        have := Nat.eq_of_beq_eq_true hk
        simp only [hk, cond_true] at hp
        rw [if_pos this]
        exact hp b' β' w' hE hd h' hw'
      | false =>
        simp only [hk, cond_false] at hp
        rw [if_neg (fun e => by subst e; simp at hk)]
        exact hp b' β' w' hE hd h' hw'
  | loop body ih =>
    intro m ro Q f b n0 β0 β w hA hs hy hdf ht h hw
    simp only [execC] at ht
    exact wpIn_loop_rounds loopFuel (loopT_ok ih loopFuel ro Q f b n0 β0 β w hA hs hy ht h hw)
  | scope body ih =>
    intro m ro Q f b n0 β0 β w hA hs hy hdf ht h hw
    refine wpIn_scope_straight (ih m ro _ f b n0 β0 β w hA hs hy hdf (Tree.vc_mono ?_ ht) h hw)
    rintro ⟨e, f'⟩ hp b' β' w' hE hd h' hw'
    cases e <;> exact hp b' β' w' hE hd h' hw'
  | label l => intro m ro Q f b n0 β0 β w hA hs hy hdf ht h hw; exact wpIn_label (ht b β w (.refl h.hyp) (fun _ => rfl) h hw)
  | exit id => intro m ro Q f b n0 β0 β w hA hs hy hdf ht h hw; exact wpIn_exit (ht b β w (.refl h.hyp) (fun _ => rfl) h hw)
  | ret => intro m ro Q f b n0 β0 β w hA hs hy hdf ht h hw; exact wpIn_ret (ht b β w (.refl h.hyp) (fun _ => rfl) h hw)
  | rangeFunc g ps assign body ih1 ih2 =>
    intro m ro Q f b n0 β0 β w hA hs hy hdf ht h hw
    unfold execC at ht
    split at ht
    · rename_i gf caps hg
      obtain ⟨hd0, hro⟩ := hdf rfl
      subst hro
      split at ht
      · rename_i fn hfn
        cases hb : fn.body.isSome with
        | false => rw [hb] at ht; exact ht.elim
        | true =>
          rw [hb] at ht
          simp only [cond_true, natF_eq, Tree.vc_bind] at ht
          exact rangeF_ok hN hc ih1 ih2 hA hs hy hd0 h hw hg hfn hb ht
      · exact ht.elim
    · exact ht.elim
  | goto _ => intro m ro Q f b n0 β0 β w hA hs hy hdf ht; exact ht.elim
  | refuse _ => intro m ro Q f b n0 β0 β w hA hs hy hdf ht; exact ht.elim
theorem dropNew_sub (n : Nat) : ∀ {l : List (Nat × Blk)} {p : Nat × Blk}, p ∈ dropNew n l → p ∈ l
  | [], p, h => h
  | q :: r, p, h => by
    unfold dropNew at h
    cases hb : Nat.blt q.1 n with
    | true => rw [hb] at h; exact h
    | false => rw [hb] at h; exact .tail _ (dropNew_sub n h)
theorem tidy_ok {n : Nat} {v : V} {s : S} {β : Nat → Nat} {w : World} (h : WR I ρ w0 X n0 β0 β s w) : WR I ρ w0 X n0 β0 β (tidy n v s) w ∧ (tidy n v s).nb = s.nb := by
  unfold tidy
  simp only
  cases hb : (v.wf n && (dropNew n s.blks).all fun p => allWf n p.2.cells) with
  | true => exact ⟨h.fewer (fun p hp => dropNew_sub n hp) (Nat.le_refl _) h.known, rfl⟩
  | false => exact ⟨h, rfl⟩
theorem fillFr_spec : ∀ (l : List V) (fr : Fr) (i : Nat), deepOk fr.sz = true → i + l.length ≤ fr.sz → (fillFr fr i l).sz = fr.sz ∧ ∀ t, getF (fillFr fr i l) t = if i ≤ t ∧ t < i + l.length then l.getD (t - i) .undef else getF fr t
  | [], fr, i, _, _ => ⟨rfl, fun t => by rw [if_neg (by simp only [List.length_nil]; omega)]; rfl⟩
  | v :: r, fr, i, hd, hl => by
    simp only [List.length_cons] at hl
    obtain ⟨h1, h2⟩ := fillFr_spec r (setF fr (some i) v) (i + 1) (by rw [setF_sz]; exact hd) (by rw [setF_sz]; omega)
    refine ⟨by rw [fillFr, h1, setF_sz], fun t => ?_⟩
    rw [fillFr, h2, getF_setF hd]
    simp only [List.length_cons]
    by_cases e : t = i
    · subst e
      rw [if_neg (by omega), if_pos ⟨rfl, by omega⟩, if_pos ⟨by omega, by omega⟩]
      simp
    · by_cases h : i + 1 ≤ t ∧ t < i + 1 + r.length
      · rw [if_pos h, if_pos ⟨by omega, by omega⟩]
        rw [show t - i = (t - (i + 1)) + 1 by omega]
        simp
      · rw [if_neg h, if_neg (by simp [e]), if_neg (by omega)]
def resM (tmps : Array Value) (r : ResultVar) : Sem Value := match r with
  | .tmp t => pure (tmps.getD t undef)
  | .cell a t => do loadVar t (← asAddr (tmps.getD a undef))
theorem results_eq (fn : Func) (tmps : Array Value) : results fn tmps = (do
    let vs ← fn.results.mapM (resM tmps)
    pure (if h : vs.size = 1 then vs[0] else .tuple vs)) := by
  unfold results
  congr 1
theorem resultS_run {f : F} {β : Nat → Nat} {w : World} {r : ResultVar} {v : V} (h : WR I ρ w0 X n0 β0 β f.s w) (hv : resultS P f r = some v) :
    (resM (actOf [] I ρ β f.fr).tmps r).run P w = .ok (v.den I ρ β) w := by
  cases r with
  | tmp t =>
    injection hv with hv
    subst hv
    simp only [resM, Sem.run_pure]
    rw [getF_den f.fr t]
  | cell a t =>
    simp only [resultS] at hv
    split at hv
    · rename_i id off he
      split at hv
      · rename_i b hb
        have : (actOf [] I ρ β f.fr).tmps.getD a undef = (getF f.fr a).den I ρ β := getF_den f.fr a
        simp only [resM, this, he, V.den, C.den, asAddr, Sem.run_bind, Sem.run_pure, Result.andThen_ok]
        exact load_run h (find_mem hb).1 (find_mem hb).2 hv
      · cases hv
    · cases hv
theorem partV_den {v : V} {p : Bool × List C} {β : Nat → Nat} (h : partV v = some p) : partOf I ρ β p = v.den I ρ β := by
  cases v with
  | c x => injection h with h; subst h; rfl
  | agg cs => injection h with h; subst h; rfl
  | tup _ => cases h
  | any _ => cases h
theorem resultsM {f : F} {β : Nat → Nat} {w : World} (h : WR I ρ w0 X n0 β0 β f.s w) : ∀ {rs : List ResultVar} {ps : List (Bool × List C)}, partsV (rs.map (resultS P f)) = some ps →
    (rs.mapM (resM (actOf [] I ρ β f.fr).tmps)).run P w = .ok (ps.map (partOf I ρ β)) w
  | [], ps, hp => by injection hp with hp; subst hp; rfl
  | r :: rs, ps, hp => by
    simp only [List.map_cons] at hp
    cases hr : resultS P f r with
    | none => rw [hr] at hp; cases hp
    | some v =>
      rw [hr] at hp
      unfold partsV at hp
      split at hp
      · rename_i p ps' h1 h2
        injection hp with hp
        subst hp
        have ih := resultsM h h2
        simp only [List.mapM_cons, Sem.run_bind, resultS_run h hr, Result.andThen_ok, ih, Sem.run_pure, List.map_cons, partV_den h1]
      · cases hp
theorem results_ok {fn : Func} {f : F} {β : Nat → Nat} {w : World} {v : V} (h : WR I ρ w0 X n0 β0 β f.s w) (hv : resultsS P f fn.results.toList = some v) : (results fn (actOf [] I ρ β f.fr).tmps).run P w = .ok (v.den I ρ β) w := by
  have key : ∀ {ps : List (Bool × List C)}, partsV (fn.results.toList.map (resultS P f)) = some ps → (fn.results.mapM (resM (actOf [] I ρ β f.fr).tmps)).run P w = .ok (ps.map (partOf I ρ β)).toArray w := fun hp => by
    rw [Array.mapM_eq_mapM_toList]
    simp only [Sem.run_map, resultsM h hp, Result.andThen_ok]
  unfold resultsS at hv
  split at hv
  · rename_i r hr
    have h1 := resultS_run h hv
    have : fn.results = #[r] := by apply Array.ext'; simpa using hr
    rw [results_eq, this, Array.mapM_eq_mapM_toList]
    simp only [List.mapM_cons, List.mapM_nil, Sem.run_bind, Sem.run_map, h1, Result.andThen_ok, Sem.run_pure]
    rfl
  · rename_i rs hne
    obtain ⟨ps, hp, rfl⟩ := Option.map_eq_some_iff.1 hv
    rw [results_eq]
    simp only [Sem.run_bind, key hp, Result.andThen_ok, Sem.run_pure]
    have hl : ps.length = fn.results.toList.length := by
      have : ∀ {l : List (Option V)} {ps : List (Bool × List C)}, partsV l = some ps → ps.length = l.length := by
        intro l
        induction l with
        | nil => intro ps h; injection h with h; subst h; rfl
        | cons x r ih =>
          intro ps h
          cases x with
          | none => cases h
          | some v =>
            unfold partsV at h
            split at h
            · rename_i p ps' h1 h2; injection h with h; subst h; simp [ih h2]
            · cases h
      simpa using this hp
    have hne1 : (ps.map (partOf I ρ β)).toArray.size ≠ 1 := by
      simp only [List.size_toArray, List.length_map, hl]
      intro e
      cases hrs : fn.results.toList with
      | nil => rw [hrs] at e; simp at e
      | cons a r =>
        rw [hrs] at e
        cases r with
        | nil => exact hne a hrs
        | cons b r => simp at e
    rw [dif_neg hne1]
    rfl
theorem execY_ok (hm : P.follows .mixedOrders = true) (hN : NoCount P) {ct : CT} (hct : CTOk P I ρ ct) : ∀ (n : Nat) (L : List (Nat × Obj)) (cy : CY) (Z : Anc), (∀ p ∈ I.fixed, p ∈ L) → CYOk P (I.fix L) ρ Z cy → CallOk P (I.fix L) ρ Z (execY P ct n cy)
  | 0 => fun L cy Z hL hcy g args s w0 X n0 β0 β w R hA ht => ht.elim
  | n + 1 => fun L cy Z hL hcy g args s w0 X n0 β0 β w R hA ht h ha => by
    unfold execY at ht
    unfold CallsX
    by_cases hgy : g = yldNo
    · subst hgy
      simp only [Nat.beq_refl, cond_true] at ht
      rw [if_pos rfl]
      split at ht
      · rename_i t hs; exact hcy args s t hs w0 X n0 β0 β w R hA ht h ha
      · exact ht.elim
    rw [show Nat.beq g yldNo = false by cases hb : Nat.beq g yldNo; rfl; exact absurd (Nat.eq_of_beq_eq_true hb) hgy] at ht
    rw [if_neg hgy]
    simp only [cond_false] at ht
    split at ht
    · rename_i t hs; exact (hct.fix hL) g args s t hs w0 X n0 β0 β w R ht h ha
    · split at ht
      · exact ht.elim
      · rename_i fn hf
        split at ht
        · exact ht.elim
        · rename_i c hcb
          rw [natF_eq] at ht
          cases hdp : deepOk (startSz fn.ntmps args) with
          | false => rw [hdp] at ht; exact ht.elim
          | true =>
          rw [hdp] at ht
          simp only [cond_true] at ht
          rw [fillK_eq, Tree.vc_bind] at ht
          refine callsIn_wide.1 (callsIn_of_wp_marks (F := Fence.wide) (n := 0) hf hcb trivial ?_ rfl)
          obtain ⟨hsz, hget⟩ := fillFr_spec args ⟨startSz fn.ntmps args, .nil⟩ 0 hdp (by simp [startSz]; omega)
          have hnil : ∀ t, getF ⟨startSz fn.ntmps args, .nil⟩ t = .undef := fun t => by unfold getF; cases Nat.blt t (startSz fn.ntmps args) <;> rfl
          have e : (⟨(args.map (V.den (I.fix L) ρ β)).toArray ++ Array.replicate (fn.ntmps - (args.map (V.den (I.fix L) ρ β)).toArray.size) undef, []⟩ : Act) = actOf [] I ρ β (fillFr ⟨startSz fn.ntmps args, .nil⟩ 0 args) := by
            unfold actOf
            congr 1
            apply Array.ext'
            apply List.ext_getElem
            · simp only [hsz]; simp [startSz]; omega
            · intro j h1 h2
              have hj : j < startSz fn.ntmps args := by simpa [hsz] using h2
              simp only [List.toList_toArray, List.getElem_map, List.getElem_range, hget, hnil]
              by_cases hja : j < args.length
              · rw [if_pos ⟨by omega, by omega⟩]
                simp [List.getElem_append, hja, V.den_fix]
              · rw [if_neg (by omega)]
                simp [List.getElem_append, hja, V.den_undef]
          rw [e]
          show c.wpIn (RF none) 0 P _ _ w
          refine execC_ok hm hN (fun L' cy' Z' hL' hcy' => execY_ok hm hN hct n L' cy' Z' hL' hcy') c true none _ ⟨fillFr ⟨startSz fn.ntmps args, .nil⟩ 0 args, s⟩ ⟨L, w0, X, []⟩ s.nb β β w (h.anc hA) hL hcy (fun _ => ⟨rfl, rfl⟩) (Tree.vc_mono ?_ (Tree.vc_fix.1 ht)) h.here ?_
          · rintro ⟨ex, f⟩ hp b' β' w' hE - h' hw'
            have fin : (match resultsS P f fn.results.toList with
              | none => Tree.bad
              | some v => v.force fun v => bif v.wf f.s.nb then tidyK s.nb v f.s fun s => Tree.leaf (v, s) else Tree.bad).vc (I.fix L) ρ (fun r => ∀ β' w', WR (I.fix L) ρ w0 X n0 β0 β' r.2 w' → r.1.wf r.2.nb = true → s.nb ≤ r.2.nb → (∀ id, id < s.nb → β' id = β id) → R (.returned (r.1.den (I.fix L) ρ β')) w') →
                LeavesInM Fence.wide 0 P fn (actOf b'.df I ρ β' f.fr).tmps R b'.df .returning w' := fun hp => by
              split at hp
              · exact hp.elim
              · rename_i v hv
                simp only [V.force_eq, tidyK_eq] at hp
                cases hwf : v.wf f.s.nb with
                | false => rw [hwf] at hp; exact hp.elim
                | true =>
                  rw [hwf] at hp
                  have fin2 : ∀ w2, WR (I.fix L) ρ w0 X s.nb β β' f.s w2 → ∃ v, (results fn (actOf b'.df I ρ β' f.fr).tmps).run P w2 = .ok v w2 ∧ R (.returned v) w2 := fun w2 h2 => by
                    obtain ⟨ht1, ht2⟩ := tidy_ok (n := s.nb) (v := v) (h.rebase h2)
                    refine ⟨_, ?_, hp β' w2 ht1 (by show v.wf (tidy s.nb v f.s).nb = true; rw [ht2]; exact hwf) (by show s.nb ≤ (tidy s.nb v f.s).nb; rw [ht2]; exact h2.n0le) h2.agr⟩
                    have := results_ok (fn := fn) h2 hv
                    rw [actOf_fix] at this
                    exact this
                  have hback := hE.back h'
                  rcases hE.df with e | ⟨D, e, hD, hDs⟩
                  · rw [e]
                    exact fin2 w' hback
                  · rw [e]
                    obtain ⟨r1, r2⟩ := h'.hyp _ hD
                    have r3 := (Array.getElem?_eq_some_iff.1 r1).1
                    have hDw : w'.heap[D]? = some (.deferred (some [])) := (h'.keeps.block _ r3 r2).trans r1
                    refine ⟨by simp, .inl ⟨D, w'.putObj D (.deferred none), rfl, run_takeDeferred hDw, ?_⟩⟩
                    have hk : Keeps X w0 (w'.putObj D (.deferred none)) := ⟨hback.keeps.os, hback.keeps.tape, hback.keeps.output, by simpa using hback.keeps.size, fun g hg hx => (World.putObj_heap_other (by have : w0.heap.size ≤ D := hDs; omega)).trans (hback.keeps.block g hg hx)⟩
                    have hy2 : Hyp (I.fix L) (w'.putObj D (.deferred none)) (fun g => X g ∨ w0.heap.size ≤ g) := fun p hp => by
                      obtain ⟨t1, t2⟩ := h.hyp p hp
                      have t3 := (Array.getElem?_eq_some_iff.1 t1).1
                      exact ⟨(hk.block _ t3 t2).trans t1, fun hx => hx.elim t2 (fun hx => by omega)⟩
                    have := (hback.putObj (o' := .deferred none) hDw trivial (X1 := fun g => X g ∨ w0.heap.size ≤ g) (fun p hp ho => hback.own p hp ho) hy2).rew hk (fun g hg => hg) h.hyp
                    have := fin2 _ this
                    rw [e] at this
                    exact this
            cases ex with
            | normal => exact fin hp
            | ret => exact fin hp
            | exit k => exact hp.elim
          · refine ⟨by show deepOk (fillFr _ _ _).sz = true; rw [hsz]; exact hdp, fun t => ?_⟩
            show (getF (fillFr ⟨startSz fn.ntmps args, .nil⟩ 0 args) t).wf s.nb = true
            rw [hget]
            split
            · rename_i ht2
              have hl : t < args.length := by omega
              simp only [Nat.sub_zero, List.getD_eq_getElem?_getD, List.getElem?_eq_getElem hl, Option.getD_some]
              exact ha _ (List.getElem_mem hl)
            · rw [hnil]; rfl
theorem execF_ok (hm : P.follows .mixedOrders = true) (hN : NoCount P) {ct : CT} (hct : CTOk P I ρ ct) (n : Nat) (g : FuncId) (args : List V) (s : S) (w0 : World) (X : Nat → Prop) (n0 : Nat) (β0 β : Nat → Nat) (w : World) (R : Ending → World → Prop)
    (ht : (execF P ct n g args s).vc I ρ (fun r => ∀ β' w', WR I ρ w0 X n0 β0 β' r.2 w' → r.1.wf r.2.nb = true → s.nb ≤ r.2.nb → (∀ id, id < s.nb → β' id = β id) → R (.returned (r.1.den I ρ β')) w'))
    (h : WR I ρ w0 X n0 β0 β s w) (ha : ∀ v ∈ args, v.wf s.nb = true) : Calls P g (args.map (V.den I ρ β)).toArray w R := by
  have key := execY_ok hm hN hct n I.fixed CY.none ⟨0, id⟩ (fun _ h => h) CY.none_ok g args s w0 X n0 β0 β w R ⟨Nat.zero_le _, fun _ h => absurd h (Nat.not_lt_zero _)⟩ ht h ha
  unfold CallsX at key
  split at key
  · rename_i hg
    cases n with
    | zero => exact ht.elim
    | succ n =>
      subst hg
      exact ht.elim
  · exact key
end
theorem calls_run {P : Program} {I : Interp} {ρ : Env} (hm : P.follows .mixedOrders = true) (hN : NoCount P) {ct : CT} (hct : CTOk P I ρ ct) (n : Nat) (g : FuncId) (args : List V) {w : World} {R : Ending → World → Prop}
    (hw : ∀ v ∈ args, v.wf 0 = true) (hh : Hyp I w fun _ => False)
    (ht : (execF P ct n g args ⟨[], 0, ⟨[], [], 0⟩⟩).vc I ρ (fun r => ∀ β' w', Below w.heap.size w w' → R (.returned (r.1.den I ρ β')) w')) : Calls P g (args.map (V.den I ρ id)).toArray w R := by
  refine execF_ok hm hN hct n g args ⟨[], 0, ⟨[], [], 0⟩⟩ w (fun _ => False) 0 id id w R (Tree.vc_mono ?_ ht) ⟨(fun _ h => nomatch h), (fun _ h => nomatch h), (fun _ h => nomatch h), (fun _ h => nomatch h), (fun _ h => nomatch h), (fun _ h => nomatch h), (fun _ h => nomatch h), ⟨(fun _ h => nomatch h), (fun _ h => nomatch h), (fun _ h => absurd h (Nat.not_lt_zero _))⟩, Nat.le_refl _, fun _ _ => rfl, Keeps.refl _ _, hh⟩ hw
  intro r hr β' w' h' _ _ _
  exact hr β' w' h'.keeps.below
end Go.Proofs.Ytliimpbbppbghaa.Sx
set_option autoImplicit false
namespace Go.Proofs.Ytliimpbbppbghaa.Sx
open Go Go.RowKit
section
variable {I : Interp} {ρ : Env}
theorem B.den_lit (b : Bool) : (B.lit b).den I ρ = b := rfl
theorem B.den_var (k : Nat) : (B.var k).den I ρ = ρ.b k := rfl
theorem B.den_not (a : B) : (B.not a).den I ρ = !a.den I ρ := rfl
theorem B.den_and (a b : B) : (B.and a b).den I ρ = (a.den I ρ && b.den I ρ) := rfl
theorem B.den_iff (a b : B) : (B.iff a b).den I ρ = (a.den I ρ == b.den I ρ) := rfl
theorem B.den_app (f : Nat) (a : T) : (B.app f a).den I ρ = I.fb f (a.dens I ρ) := rfl
end
def vals (t : Tree (V × S)) : Tree V := t.bind fun r => .leaf r.1
def envOf (is : List Int) (bs : List Bool) : Env := ⟨fun k => is.getD k 0, fun k => bs.getD k false, fun _ => undef⟩
theorem vals_vc {I : Interp} {ρ : Env} {t : Tree (V × S)} {Φ : V → Prop} : (vals t).vc I ρ Φ ↔ t.vc I ρ fun r => Φ r.1 := by
  unfold vals; rw [Tree.vc_bind]; rfl
def sNone : S := ⟨[], 0, ⟨[], [], 0⟩⟩
theorem V.den_none {I : Interp} {ρ : Env} {v : V} (h : v.wf 0 = true) (β β' : Nat → Nat) : v.den I ρ β = v.den I ρ β' := V.den_agree h fun _ h => absurd h (Nat.not_lt_zero _)
theorem calls_lit {P : Program} {I : Interp} {ρ : Env} (hm : P.follows .mixedOrders = true) (hN : NoCount P) {ct : CT} (hct : CTOk P I ρ ct) {n : Nat} {g : FuncId} {args : List V} {L : Tree V} {w : World} {r : Value}
    (hh : Hyp I w fun _ => False) (hwf : (args.all (V.wf 0)) = true) (hL : vals (execF P ct n g args sNone) = L) (hv : L.vc I ρ (fun v => v.wf 0 = true ∧ v.den I ρ id = r)) :
    Calls P g (args.map (V.den I ρ id)).toArray w (fun e w' => e = .returned r ∧ Below w.heap.size w w') := by
  refine calls_run hm hN hct n g args (by simpa using hwf) hh ?_
  rw [← hL, vals_vc] at hv
  refine Tree.vc_mono ?_ hv
  rintro ⟨v, s⟩ ⟨h1, h2⟩ β' w' hb
  exact ⟨by rw [← h2]; exact congrArg _ (V.den_none h1 _ _), hb⟩
def sFacts (l : List (B × Bool)) : S := ⟨[], 0, ⟨l, [], 0⟩⟩
theorem calls_litK {P : Program} {I : Interp} {ρ : Env} (hm : P.follows .mixedOrders = true) (hN : NoCount P) {ct : CT} (hct : CTOk P I ρ ct) {n : Nat} {g : FuncId} {args : List V} {l : List (B × Bool)} {L : Tree V} {w : World} {r : Value}
    (hh : Hyp I w fun _ => False) (hl : ∀ p ∈ l, p.1.den I ρ = p.2) (hwf : (args.all (V.wf 0)) = true) (hL : vals (execF P ct n g args (sFacts l)) = L) (hv : L.vc I ρ (fun v => v.wf 0 = true ∧ v.den I ρ id = r)) :
    Calls P g (args.map (V.den I ρ id)).toArray w (fun e w' => e = .returned r ∧ Below w.heap.size w w') := by
  rw [← hL, vals_vc] at hv
  refine execF_ok hm hN hct n g args (sFacts l) w (fun _ => False) 0 id id w _ (Tree.vc_mono ?_ hv) ⟨(fun _ h => nomatch h), (fun _ h => nomatch h), (fun _ h => nomatch h), (fun _ h => nomatch h), (fun _ h => nomatch h), (fun _ h => nomatch h), (fun _ h => nomatch h), ⟨hl, (fun _ h => nomatch h), (fun _ h => absurd h (Nat.not_lt_zero _))⟩, Nat.le_refl _, fun _ _ => rfl, Keeps.refl _ _, hh⟩ (fun v hv => List.all_eq_true.1 hwf v hv)
  rintro ⟨v, s⟩ ⟨h1, h2⟩ β' w' hb _ _ _
  exact ⟨by rw [← h2]; exact congrArg _ (V.den_none h1 _ _), hb.keeps.below⟩
section
variable {P : Program} {I : Interp} {ρ : Env} {w0 w : World} {X : Nat → Prop} {n0 : Nat} {β0 β : Nat → Nat} {s : S}
theorem ct_leaf {g : FuncId} {args : List V} {v : V} {R : Ending → World → Prop}
    (hc : ∀ w, Calls P g (args.map (V.den I ρ β)).toArray w (fun e w' => e = .returned (v.den I ρ β) ∧ Below w.heap.size w w')) (hv : v.wf s.nb = true)
    (ht : ∀ β' w', WR I ρ w0 X n0 β0 β' s w' → v.wf s.nb = true → s.nb ≤ s.nb → (∀ id, id < s.nb → β' id = β id) → R (.returned (v.den I ρ β')) w') (h : WR I ρ w0 X n0 β0 β s w) :
    Calls P g (args.map (V.den I ρ β)).toArray w R :=
  (hc w).mono fun e w' ⟨he, hb⟩ => by subst he; exact ht β w' (h.below hb) hv (Nat.le_refl _) (fun _ _ => rfl)
end
theorem ev_add (x y : Int) : IOp.add.ev x y = x + y := rfl
theorem ev_sub (x y : Int) : IOp.sub.ev x y = x - y := rfl
theorem ev_mul (x y : Int) : IOp.mul.ev x y = x * y := rfl
theorem ev_quo (x y : Int) : IOp.quo.ev x y = x.tdiv y := rfl
theorem ev_rem (x y : Int) : IOp.rem.ev x y = x.tmod y := rfl
theorem ev_max (x y : Int) : IOp.max.ev x y = max x y := by simp only [IOp.ev]; split <;> omega
theorem ev_min (x y : Int) : IOp.min.ev x y = min x y := by simp only [IOp.ev]; split <;> omega
section
variable {I : Interp} {ρ : Env} {β : Nat → Nat} {Q : Prop} [Decidable Q]
theorem bool_t (h : Q) : V.den I ρ β (.c (.bool (.lit true))) = .bool (decide Q) := by simp [V.den, C.den, B.den, h]
theorem bool_f (h : ¬ Q) : V.den I ρ β (.c (.bool (.lit false))) = .bool (decide Q) := by simp [V.den, C.den, B.den, h]
theorem bool_e {a b : T} (h : a.den I ρ = b.den I ρ ↔ Q) : V.den I ρ β (.c (.bool (.eq a b))) = .bool (decide Q) := by simp only [V.den, C.den, B.den]; rw [decide_eq_decide.2 h]
theorem bool_l {a b : T} (h : a.den I ρ < b.den I ρ ↔ Q) : V.den I ρ β (.c (.bool (.lt a b))) = .bool (decide Q) := by simp only [V.den, C.den, B.den]; rw [decide_eq_decide.2 h]
theorem bool_n {a : B} (h : a.den I ρ = true ↔ ¬ Q) : V.den I ρ β (.c (.bool (.not a))) = .bool (decide Q) := by
  simp only [V.den, C.den, B.den]
  cases ha : a.den I ρ <;> simp_all
end
theorem w64 (n : Int) : IntKind.i64.wrap n = wrap64 n := by
  simp [IntKind.wrap, IntKind.bits, IntKind.signed, wrap64] <;> omega
end Go.Proofs.Ytliimpbbppbghaa.Sx
set_option autoImplicit false
namespace Go.Proofs.Ytliimpbbppbghaa.Sx
open Go Go.RowKit
def ctOr (a b : CT) : CT := fun g args s => match a g args s with
  | some t => some t
  | none => b g args s
theorem ctOr_ok {P : Program} {I : Interp} {ρ : Env} {a b : CT} (ha : CTOk P I ρ a) (hb : CTOk P I ρ b) : CTOk P I ρ (ctOr a b) := by
  intro g args s t h
  unfold ctOr at h
  split at h
  · rename_i t' h'
    injection h with h
    subst h
    exact ha g args s _ h'
  · exact hb g args s t h
def V.same : V → V → Bool
  | .c a, .c b => a.same b
  | .agg a, .agg b => cellsSame a b
  | _, _ => false
def vsSame : List V → List V → Bool
  | [], [] => true
  | a :: r, b :: q => a.same b && vsSame r q
  | _, _ => false
theorem V.same_eq {a b : V} (h : a.same b = true) : a = b := by
  cases a <;> cases b <;> simp only [V.same, Bool.false_eq_true] at h
  · rw [C.same_eq h]
  · rw [cellsSame_eq h]
theorem vsSame_eq : ∀ {a b : List V}, vsSame a b = true → a = b
  | [], [], _ => rfl
  | a :: r, b :: q, h => by
    simp only [vsSame, Bool.and_eq_true] at h
    rw [V.same_eq h.1, vsSame_eq h.2]
  | [], _ :: _, h => by cases h
  | _ :: _, [], h => by cases h
structure Ent where
  g : FuncId
  args : List V
  v : V
def entFor (g : FuncId) (args : List V) : List Ent → Option V
  | [] => none
  | e :: r => bif Nat.beq g e.g && vsSame args e.args then some e.v else entFor g args r
theorem entFor_mem {g : FuncId} {args : List V} {v : V} : ∀ {l : List Ent}, entFor g args l = some v → ∃ e ∈ l, e.g = g ∧ e.args = args ∧ e.v = v
  | [], h => by cases h
  | e :: r, h => by
    unfold entFor at h
    cases hb : (Nat.beq g e.g && vsSame args e.args) with
    | true =>
      rw [hb] at h
      injection h with h
      simp only [Bool.and_eq_true] at hb
      exact ⟨e, .head _, (Nat.eq_of_beq_eq_true hb.1).symm, (vsSame_eq hb.2).symm, h⟩
    | false =>
      rw [hb] at h
      obtain ⟨e', h1, h2⟩ := entFor_mem h
      exact ⟨e', .tail _ h1, h2⟩
def ctL (l : List Ent) : CT := fun g args s => match entFor g args l with
  | some v => some (.leaf (v, s))
  | none => none
theorem ctL_ok {P : Program} {I : Interp} {ρ : Env} {l : List Ent} (hl : ∀ e ∈ l, e.v.wf 0 = true ∧ e.args.all (V.wf 0) = true ∧ ∀ w, Hyp I w (fun _ => False) → Calls P e.g (e.args.map (V.den I ρ id)).toArray w (fun x w' => x = .returned (e.v.den I ρ id) ∧ Below w.heap.size w w')) : CTOk P I ρ (ctL l) := by
  intro g args s t h w0 X n0 β0 β w R ht hw ha
  unfold ctL at h
  split at h
  · rename_i v hv
    injection h with h
    subst h
    obtain ⟨e, he, rfl, rfl, rfl⟩ := entFor_mem hv
    obtain ⟨h1, h2, h3⟩ := hl e he
    have hy : Hyp I w (fun _ => False) := fun p hp => by
      obtain ⟨a1, a2⟩ := hw.hyp p hp
      exact ⟨(hw.keeps.block _ (Array.getElem?_eq_some_iff.1 a1).1 a2).trans a1, id⟩
    have ea : e.args.map (V.den I ρ β) = e.args.map (V.den I ρ id) := List.map_congr_left fun v hv => V.den_none (List.all_eq_true.1 h2 v hv) _ _
    rw [ea]
    refine (h3 w hy).mono fun x w' ⟨hx, hb⟩ => ?_
    subst hx
    rw [V.den_none h1 id β]
    exact ht β w' (hw.below hb) (V.wf_mono (Nat.zero_le _) h1) (Nat.le_refl _) (fun _ _ => rfl)
  · cases h
section
variable {P : Program} {I : Interp} {ρ : Env} {w0 w : World} {X : Nat → Prop} {n0 : Nat} {β0 β : Nat → Nat} {s : S}
theorem ct_leaf1 {g : FuncId} {args : List V} {v : V} {R : Ending → World → Prop}
    (hc : Calls P g (args.map (V.den I ρ β)).toArray w (fun e w' => e = .returned (v.den I ρ β) ∧ Below w.heap.size w w')) (hv : v.wf s.nb = true)
    (ht : ∀ β' w', WR I ρ w0 X n0 β0 β' s w' → v.wf s.nb = true → s.nb ≤ s.nb → (∀ id, id < s.nb → β' id = β id) → R (.returned (v.den I ρ β')) w') (h : WR I ρ w0 X n0 β0 β s w) :
    Calls P g (args.map (V.den I ρ β)).toArray w R :=
  hc.mono fun e w' ⟨he, hb⟩ => by subst he; exact ht β w' (h.below hb) hv (Nat.le_refl _) (fun _ _ => rfl)
end
def fixedOf (W : World) : List (Nat × Obj) := (List.range W.heap.size).filterMap fun k => (W.heap[k]?).map fun o => (k, o)
theorem mem_fixed {W : World} {k : Nat} {o : Obj} : (k, o) ∈ fixedOf W ↔ W.heap[k]? = some o := by
  unfold fixedOf
  simp only [List.mem_filterMap, List.mem_range, Option.map_eq_some_iff, Prod.mk.injEq]
  constructor
  · rintro ⟨j, -, o', h, rfl, rfl⟩; exact h
  · intro h; exact ⟨k, (Array.getElem?_eq_some_iff.1 h).1, o, h, rfl, rfl⟩
theorem hyp_fixed {I : Interp} {W : World} (hI : I.fixed = fixedOf W) : Hyp I W (fun _ => False) := fun p hp => by
  rw [hI] at hp
  exact ⟨mem_fixed.1 hp, id⟩
def leavesOk (p : V → Bool) : Tree V → Bool
  | .leaf v => p v
  | .node _ x y => leavesOk p x && leavesOk p y
  | .bad => false
theorem leavesOk_vc {I : Interp} {ρ : Env} {p : V → Bool} : ∀ {t : Tree V}, leavesOk p t = true → t.vc I ρ (fun v => p v = true)
  | .leaf v, h => h
  | .node _ x y, h => by
    simp only [leavesOk, Bool.and_eq_true] at h
    exact ⟨fun _ => leavesOk_vc h.1, fun _ => leavesOk_vc h.2⟩
  | .bad, h => by cases h
theorem Tree.vc_ex {α : Type} {I : Interp} {ρ : Env} {Φ : α → Prop} : ∀ {t : Tree α}, t.vc I ρ Φ → ∃ a, t.sel I ρ = some a ∧ Φ a
  | .leaf a, h => ⟨a, rfl, h⟩
  | .node b x y, h => by
    cases hb : b.den I ρ with
    | true =>
      obtain ⟨a, h1, h2⟩ := Tree.vc_ex (h.1 hb)
      exact ⟨a, by simp [Tree.sel, hb, h1], h2⟩
    | false =>
      obtain ⟨a, h1, h2⟩ := Tree.vc_ex (h.2 hb)
      exact ⟨a, by simp [Tree.sel, hb, h1], h2⟩
  | .bad, h => h.elim
theorem calls_ex {P : Program} {I : Interp} {ρ : Env} (hm : P.follows .mixedOrders = true) (hN : NoCount P) {ct : CT} (hct : CTOk P I ρ ct) {n : Nat} {g : FuncId} {args : List V} {k : Known} {L : Tree V} {G : Value → Prop}
    (hk : k.Ok I ρ) (hwf : (args.all (V.wf 0)) = true) (hL : vals (execF P ct n g args ⟨[], 0, k⟩) = L) (hv : L.vc I ρ (fun v => v.wf 0 = true ∧ G (v.den I ρ id))) :
    ∃ r, G r ∧ ∀ w, Hyp I w (fun _ => False) → Calls P g (args.map (V.den I ρ id)).toArray w (fun e w' => e = .returned r ∧ Below w.heap.size w w') := by
  rw [← hL, vals_vc] at hv
  obtain ⟨⟨v, s⟩, h1, h2, h3⟩ := Tree.vc_ex hv
  refine ⟨_, h3, fun w hh => ?_⟩
  refine execF_ok hm hN hct n g args ⟨[], 0, k⟩ w (fun _ => False) 0 id id w _ (Tree.vc_sel h1 ?_) ⟨(fun _ h => nomatch h), (fun _ h => nomatch h), (fun _ h => nomatch h), (fun _ h => nomatch h), (fun _ h => nomatch h), (fun _ h => nomatch h), (fun _ h => nomatch h), hk, Nat.le_refl _, fun _ _ => rfl, Keeps.refl _ _, hh⟩ (fun v hv => List.all_eq_true.1 hwf v hv)
  intro β' w' hb _ _ _
  exact ⟨congrArg _ (V.den_none h2 _ _), hb.keeps.below⟩
theorem calls_litD {P : Program} {I : Interp} {ρ : Env} (hm : P.follows .mixedOrders = true) (hN : NoCount P) {ct : CT} (hct : CTOk P I ρ ct) {n : Nat} {g : FuncId} {args : List V} {k : Known} {L : Tree V} {w : World} {r : Value}
    (hh : Hyp I w fun _ => False) (hk : k.Ok I ρ) (hwf : (args.all (V.wf 0)) = true) (hL : vals (execF P ct n g args ⟨[], 0, k⟩) = L) (hv : L.vc I ρ (fun v => v.wf 0 = true ∧ v.den I ρ id = r)) :
    Calls P g (args.map (V.den I ρ id)).toArray w (fun e w' => e = .returned r ∧ Below w.heap.size w w') := by
  obtain ⟨r', e, h⟩ := calls_ex (G := fun x => x = r) hm hN hct hk hwf hL hv
  subst e
  exact h w hh
def inB (k : Known) (t : T) (lo hi : Int) : Bool := t.ivK k fun i => leO (some lo) i.lo && leO i.hi (some hi)
theorem inB_ok {I : Interp} {ρ : Env} {k : Known} (hk : k.Ok I ρ) {t : T} {lo hi : Int} (h : inB k t lo hi = true) : lo ≤ t.den I ρ ∧ t.den I ρ ≤ hi := by
  unfold inB at h
  rw [T.ivK_eq] at h
  simp only [Bool.and_eq_true] at h
  obtain ⟨a, b, e1, e2, h1⟩ := leO_ok h.1
  obtain ⟨c, d, e3, e4, h2⟩ := leO_ok h.2
  have := T.iv_ok hk t
  injection e1 with e1
  injection e4 with e4
  have := this.1 b e2
  have := (T.iv_ok hk t).2 c e3
  omega
end Go.Proofs.Ytliimpbbppbghaa.Sx

