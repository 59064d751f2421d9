import Derived.Test.YthkkipkhofkpmaaQSx4
import Derived.Scope
import Derived.Laws.ResultCell
import Derived.RangeFuncNested
import Derived.LoopNIn
import Derived.TacticsIn
import Derived.OrdersIn
set_option linter.all false
set_option autoImplicit false
namespace Go.Proofs.Ythkkipkhofkpmaa.Sx
open Go Go.RowKit
inductive Tree (α : Type) where
  | leaf (a : α)
  | node (b : B) (t f : Tree α)
  | bad
def Tree.bind {α γ : Type} (t : Tree α) (g : α → Tree γ) : Tree γ := match t with
  | .leaf a => g a
  | .node b x y => .node b (x.bind g) (y.bind g)
  | .bad => .bad
def Tree.vc {α : Type} (I : Interp) (ρ : Env) (t : Tree α) (Φ : α → Prop) : Prop := match t with
  | .leaf a => Φ a
  | .node b x y => (b.den I ρ = true → x.vc I ρ Φ) ∧ (b.den I ρ = false → y.vc I ρ Φ)
  | .bad => False
theorem Tree.vc_bind {α γ : Type} {I : Interp} {ρ : Env} {t : Tree α} {g : α → Tree γ} {Φ : γ → Prop} : (t.bind g).vc I ρ Φ ↔ t.vc I ρ fun a => (g a).vc I ρ Φ := by
  induction t with
  | leaf a => rfl
  | node b x y ihx ihy => simp only [Tree.bind, Tree.vc, ihx, ihy]
  | bad => rfl
theorem Tree.vc_mono {α : Type} {I : Interp} {ρ : Env} {t : Tree α} {Φ Ψ : α → Prop} (h : ∀ a, Φ a → Ψ a) (ht : t.vc I ρ Φ) : t.vc I ρ Ψ := by
  induction t with
  | leaf a => exact h a ht
  | node b x y ihx ihy => exact ⟨fun hb => ihx (ht.1 hb), fun hb => ihy (ht.2 hb)⟩
  | bad => exact ht
def withBn {α : Type} (q : B) (k : Bool → S → Tree α) : Nat → S → Tree α
  | 0, _ => .bad
  | n + 1, s => match q.under s.known with
    | .lit true => k true s
    | .lit false => k false s
    | q' => q'.head.force fun a => .node a (s.assumeK a true (withBn q k n)) (s.assumeK a false (withBn q k n))
def withB {α : Type} (q : B) (s : S) (k : Bool → S → Tree α) : Tree α := withBn q k 16 s
inductive Tr where
  | nil
  | node (l : Tr) (v : V) (r : Tr)
def Tr.get : Tr → Nat → V
  | .nil, _ => .undef
  | .node l v r, t => match t with
    | 0 => v
    | n + 1 => bif Nat.beq (n % 2) 0 then l.get (n / 2) else r.get (n / 2)
def Tr.set : Nat → Tr → Nat → V → Tr
  | 0, tr, _, _ => tr
  | d + 1, .nil, t, v => match t with
    | 0 => .node .nil v .nil
    | n + 1 => bif Nat.beq (n % 2) 0 then .node (Tr.set d .nil (n / 2) v) .undef .nil else .node .nil .undef (Tr.set d .nil (n / 2) v)
  | d + 1, .node l x r, t, v => match t with
    | 0 => .node l v r
    | n + 1 => bif Nat.beq (n % 2) 0 then .node (Tr.set d l (n / 2) v) x r else .node l x (Tr.set d r (n / 2) v)
def Tr.setK {α : Type} : Nat → Tr → Nat → V → (Tr → α) → α
  | 0, tr, _, _, k => k tr
  | d + 1, .nil, t, v, k => match t with
    | 0 => k (.node .nil v .nil)
    | n + 1 => bif Nat.beq (n % 2) 0 then Tr.setK d .nil (n / 2) v fun q => k (.node q .undef .nil) else Tr.setK d .nil (n / 2) v fun q => k (.node .nil .undef q)
  | d + 1, .node l x r, t, v, k => match t with
    | 0 => k (.node l v r)
    | n + 1 => bif Nat.beq (n % 2) 0 then Tr.setK d l (n / 2) v fun q => k (.node q x r) else Tr.setK d r (n / 2) v fun q => k (.node l x q)
theorem Tr.setK_eq {α : Type} : ∀ (d : Nat) (tr : Tr) (t : Nat) (v : V) (k : Tr → α), Tr.setK d tr t v k = k (Tr.set d tr t v) := by
  intro d
  induction d with
  | zero => intro tr t v k; rfl
  | succ d ih =>
    intro tr t v k
    cases tr with
    | nil =>
      cases t with
      | zero => rfl
      | succ n => simp only [Tr.setK, Tr.set, ih]; cases Nat.beq (n % 2) 0 <;> rfl
    | node l x r =>
      cases t with
      | zero => rfl
      | succ n => simp only [Tr.setK, Tr.set, ih]; cases Nat.beq (n % 2) 0 <;> rfl
theorem Tr.get_nil (t : Nat) : Tr.nil.get t = .undef := rfl
theorem Tr.get_set : ∀ (d : Nat) (tr : Tr) (t : Nat) (v : V), t + 1 < 2 ^ d → ∀ u, (Tr.set d tr t v).get u = if u = t then v else tr.get u := by
  intro d
  induction d with
  | zero => intro tr t v h; simp at h
  | succ d ih =>
    intro tr t v h u
    have half : ∀ n, t = n + 1 → n / 2 + 1 < 2 ^ d := fun n e => by rw [Nat.pow_succ] at h; omega
    have hne : ∀ {a b : Nat}, a % 2 = b % 2 → (a / 2 = b / 2 ↔ a = b) := fun {a b} h => by omega
    cases t with
    | zero =>
      cases tr <;> cases u <;> simp [Tr.set, Tr.get, Tr.get_nil]
    | succ n =>
      have hl := half n rfl
      have par : Nat.beq (n % 2) 0 = decide (n % 2 = 0) := by
        cases hb : Nat.beq (n % 2) 0 with
        | true => rw [Nat.beq_eq] at hb; simp [hb]
        | false => symm; rw [decide_eq_false_iff_not]; intro e; rw [e] at hb; cases hb
      cases tr with
      | nil =>
        cases u with
        | zero => simp only [Tr.set, par]; by_cases e : n % 2 = 0 <;> simp [e, Tr.get, Tr.get_nil]
        | succ m =>
          have parm : Nat.beq (m % 2) 0 = decide (m % 2 = 0) := by
            cases hb : Nat.beq (m % 2) 0 with
            | true => rw [Nat.beq_eq] at hb; simp [hb]
            | false => symm; rw [decide_eq_false_iff_not]; intro e; rw [e] at hb; cases hb
          simp only [Tr.set, par]
          by_cases e : n % 2 = 0 <;> by_cases e2 : m % 2 = 0 <;> simp only [e, e2, decide_true, decide_false, cond_true, cond_false, Tr.get, parm, ih _ _ _ hl, Tr.get_nil, Nat.add_right_cancel_iff]
          · simp [hne (e2.trans e.symm)]
          · have hmn : ¬ m = n := fun h => by subst h; exact e2 e
            simp [hmn]
          · have hmn : ¬ m = n := fun h => by subst h; exact e e2
            simp [hmn]
          · have : m % 2 = n % 2 := by omega
            simp [hne this]
      | node l x r =>
        cases u with
        | zero => simp only [Tr.set, par]; by_cases e : n % 2 = 0 <;> simp [e, Tr.get]
        | succ m =>
          have parm : Nat.beq (m % 2) 0 = decide (m % 2 = 0) := by
            cases hb : Nat.beq (m % 2) 0 with
            | true => rw [Nat.beq_eq] at hb; simp [hb]
            | false => symm; rw [decide_eq_false_iff_not]; intro e; rw [e] at hb; cases hb
          simp only [Tr.set, par]
          by_cases e : n % 2 = 0 <;> by_cases e2 : m % 2 = 0 <;> simp only [e, e2, decide_true, decide_false, cond_true, cond_false, Tr.get, parm, ih _ _ _ hl, Nat.add_right_cancel_iff]
          · simp [hne (e2.trans e.symm)]
          · have hmn : ¬ m = n := fun h => by subst h; exact e2 e
            simp [hmn]
          · have hmn : ¬ m = n := fun h => by subst h; exact e e2
            simp [hmn]
          · have : m % 2 = n % 2 := by omega
            simp [hne this]
structure Fr where
  sz : Nat
  tr : Tr
structure F where
  fr : Fr
  s : S
def getF (fr : Fr) (t : Nat) : V := bif Nat.blt t fr.sz then fr.tr.get t else .undef
def deepOk (n : Nat) : Bool := Nat.ble n 1000000
structure F.wf (f : F) : Prop where
  deep : deepOk f.fr.sz = true
  ok : ∀ t, (getF f.fr t).wf f.s.nb = true
def setF (fr : Fr) (d : Option Nat) (v : V) : Fr := match d with
  | none => fr
  | some t => bif Nat.blt t fr.sz && deepOk fr.sz then ⟨fr.sz, Tr.set 24 fr.tr t v⟩ else fr
def setFK {α : Type} (fr : Fr) (d : Option Nat) (v : V) (k : Fr → α) : α := match d with
  | none => k fr
  | some t => match fr with
    | ⟨n, tr⟩ => bif Nat.blt t n && deepOk n then Tr.setK 24 tr t v fun tr => k ⟨n, tr⟩ else k ⟨n, tr⟩
theorem setFK_eq {α : Type} (fr : Fr) (d : Option Nat) (v : V) (k : Fr → α) : setFK fr d v k = k (setF fr d v) := by
  cases d with
  | none => rfl
  | some t =>
    obtain ⟨n, tr⟩ := fr
    simp only [setFK, setF, Tr.setK_eq]
    cases (Nat.blt t n && deepOk n) <;> rfl
def evF (fr : Fr) : Operand → Option V
  | .tmp t => some (getF fr t)
  | .const v => vOf v
  | .func f => some (.c (.fn (.func f) []))
  | .global _ => none
def actOf (df : List Deferred) (I : Interp) (ρ : Env) (β : Nat → Nat) (fr : Fr) : Act := ⟨((List.range fr.sz).map fun t => (getF fr t).den I ρ β).toArray, df⟩
def putF {α : Type} (f : F) (d : Option Nat) (v : V) (s : S) (k : F → Tree α) : Tree α := bif v.wf s.nb then v.force fun v => setFK f.fr d v fun fr => k ⟨fr, s⟩ else .bad
abbrev CallT := FuncId → List V → S → Tree (V × S)
def ptrV (p : Nat × Nat) : V := .c (.ptr p.1 p.2)
def allSome : List (Option V) → Option (List V)
  | [] => some []
  | some v :: r => (allSome r).map (v :: ·)
  | none :: _ => none
def yldNo : Nat := 4294967293
def methodS (P : Program) (t : TypeId) (name : String) : Option FuncId := match P.info? t with
  | none => none
  | some i => match i.methods.find? (·.name == name) with
    | none => none
    | some m => match m.path.toList, m.func, P.underlying t with
      | [], some (_, false), some (.pointer _) => none
      | [], some (f, false), some _ => match P.funcs[f]? with
        | some fn => if fn.body.isSome then some f else none
        | none => none
      | _, _, _ => none
def calleeS (P : Program) (ev : Operand → Option V) : Op → Option (FuncId × List V)
  | .call { callee := .value f, args, .. } => match ev f, allSome (args.toList.map ev) with
    | some (.c (.fn (.func g) caps)), some vs => match P.funcs[g]? with
      | some fn => if fn.body.isSome then some (g, vs ++ caps.map ptrV) else none
      | none => none
    | some (.c (.yld id)), some vs => some (yldNo, .c (.yld id) :: vs)
    | _, _ => none
  | .call { callee := .invoke x name, args, .. } => match ev x, allSome (args.toList.map ev) with
    | some (.c (.ifc t ag ps)), some vs => match methodS P t name with
      | some g => some (g, payS ag ps :: vs)
      | none => none
    | _, _ => none
  | _ => none
def opT {α : Type} (P : Program) (o : Oper) (f : F) (k : F → Tree α) : Nat → S → Tree α
  | 0, _ => .bad
  | n + 1, s => match opS P (evF f.fr) s o.op with
    | .ok v s' => putF f o.dst v s' k
    | .split q => q.force fun q => .node q (s.assumeK q true (opT P o f k n)) (s.assumeK q false (opT P o f k n))
    | .bad => .bad
def stepT {α : Type} (P : Program) (call : CallT) (o : Oper) (f : F) (k : F → Tree α) : Tree α :=
  match calleeS P (evF f.fr) o.op with
  | some (g, vs) => vsF vs fun vs => (call g vs f.s).bind fun r => putF f o.dst r.1 r.2 k
  | none => opT P o f k 64 f.s
def seqOps (P : Program) (call : CallT) (ops : Array Oper) : List Oper → F → Tree F
  | [], f => .leaf f
  | o :: r, f => match o.guard with
    | none => stepT P call o f (seqOps P call ops r)
    | some (j, want) => match ((ops[j]?).bind (·.dst)).map (getF f.fr) with
      | some (.c (.bool q)) => withB q f.s fun b s => bif b == want then stepT P call o ⟨f.fr, s⟩ (seqOps P call ops r) else setFK f.fr o.dst .undef fun fr => seqOps P call ops r ⟨fr, s⟩
      | some (.tup _) => setFK f.fr o.dst .undef fun fr => seqOps P call ops r ⟨fr, f.s⟩
      | _ => .bad
section
variable {P : Program} {I : Interp} {ρ : Env} {w0 w : World} {X : Nat → Prop} {n0 : Nat} {β0 β : Nat → Nat} {s : S} {df : List Deferred}
theorem getF_out {fr : Fr} {t : Nat} (h : fr.sz ≤ t) : getF fr t = .undef := by
  unfold getF
  have : Nat.blt t fr.sz = false := by cases hb : Nat.blt t fr.sz; rfl; rw [Nat.blt_eq] at hb; omega
  rw [this]; rfl
theorem getF_den (fr : Fr) (t : Nat) : (actOf df I ρ β fr).tmps.getD t undef = (getF fr t).den I ρ β := by
  unfold actOf
  by_cases h : t < fr.sz
  · simp [Array.getD_eq_getD_getElem?, h]
  · rw [getF_out (by omega)]
    simp [Array.getD_eq_getD_getElem?, h, V.den_undef]
theorem getF_setF {fr : Fr} {d : Nat} {v : V} {t : Nat} (hd : deepOk fr.sz = true) : getF (setF fr (some d) v) t = if t = d ∧ d < fr.sz then v else getF fr t := by
  simp only [setF]
  cases hb : Nat.blt d fr.sz with
  | false =>
    simp only [Bool.false_and, cond_false]
    rw [if_neg (by rintro ⟨-, h⟩; rw [show Nat.blt d fr.sz = true from Nat.blt_eq.symm ▸ h] at hb; cases hb)]
  | true =>
    have hlt : d < fr.sz := by simpa using hb
    simp only [hd, Bool.and_self, cond_true, getF]
    have h2 : d + 1 < 2 ^ 24 := by
      simp only [deepOk, Nat.ble_eq] at hd
      have : (2 : Nat) ^ 24 = 16777216 := by decide
      omega
    rw [Tr.get_set 24 _ _ _ h2]
    by_cases e : t = d
    · subst e; simp [hb, hlt]
    · simp [e]
theorem setF_sz (fr : Fr) (d : Option Nat) (v : V) : (setF fr d v).sz = fr.sz := by
  cases d with
  | none => rfl
  | some t => simp only [setF]; cases (Nat.blt t fr.sz && deepOk fr.sz) <;> rfl
theorem evF_ok {fr : Fr} {x : Operand} {v : V} (h : evF fr x = some v) : (actOf df I ρ β fr).eval x = v.den I ρ β := by
  cases x with
  | tmp t => injection h with h; subst h; exact getF_den fr t
  | const c => exact (vOf_den h).symm
  | global g => cases h
  | func g => injection h with h; subst h; rfl
theorem put_ok (fr : Fr) (hd : deepOk fr.sz = true) (d : Option Nat) (v : V) : (actOf df I ρ β fr).put d (v.den I ρ β) = actOf df I ρ β (setF fr d v) := by
  cases d with
  | none => rfl
  | some t =>
    simp only [Act.put, actOf, setF_sz]
    congr 1
    apply Array.ext
    · simp
    · intro i h1 h2
      have hi : i < fr.sz := by simpa using h2
      simp only [Array.getElem_setIfInBounds, List.getElem_toArray, List.getElem_map, List.getElem_range, getF_setF hd]
      by_cases e : t = i
      · subst e; simp [hi]
      · simp [e, Ne.symm e]
theorem setF_wf {fr : Fr} {d : Option Nat} {v : V} {n : Nat} (h : ∀ t, (getF fr t).wf n = true) (hv : v.wf n = true) : ∀ t, (getF (setF fr d v) t).wf n = true := by
  intro t
  cases d with
  | none => exact h t
  | some d =>
    by_cases hd : deepOk fr.sz = true
    · rw [getF_setF hd]; split
      · exact hv
      · exact h t
    · simp only [setF]
      have : (Nat.blt d fr.sz && deepOk fr.sz) = false := by simp [hd]
      rw [this]; exact h t
theorem actOf_agree {fr : Fr} {n : Nat} {β' : Nat → Nat} (h : ∀ t, (getF fr t).wf n = true) (hβ : ∀ id, id < n → β' id = β id) : actOf df I ρ β' fr = actOf df I ρ β fr := by
  unfold actOf
  congr 2
  exact List.map_congr_left fun t _ => V.den_agree (h t) hβ
theorem actOf_ext {a b : Fr} (h1 : a.sz = b.sz) (h2 : ∀ t, getF a t = getF b t) : actOf df I ρ β a = actOf df I ρ β b := by
  unfold actOf
  rw [h1]
  congr 2
  exact List.map_congr_left fun t _ => by rw [h2]
theorem withB_ok {α : Type} {q : B} {k : Bool → S → Tree α} {Φ : α → Prop} (h : WR I ρ w0 X n0 β0 β s w) (ht : (withB q s k).vc I ρ Φ) :
    ∃ s', WR I ρ w0 X n0 β0 β s' w ∧ s'.nb = s.nb ∧ s'.blks = s.blks ∧ (k (q.den I ρ) s').vc I ρ Φ := by
  have many : ∀ (n : Nat) (s1 : S), WR I ρ w0 X n0 β0 β s1 w → s1.nb = s.nb → s1.blks = s.blks → (withBn q k n s1).vc I ρ Φ → ∃ s', WR I ρ w0 X n0 β0 β s' w ∧ s'.nb = s.nb ∧ s'.blks = s.blks ∧ (k (q.den I ρ) s').vc I ρ Φ := by
    intro n
    induction n with
    | zero => intro s1 _ _ _ ht; exact ht.elim
    | succ n ih =>
      intro s1 h1 e1 e2 ht
      unfold withBn at ht
      have hu := B.den_under h1.known q
      split at ht
      · rename_i e; rw [e] at hu; rw [← hu]; exact ⟨s1, h1, e1, e2, ht⟩
      · rename_i e; rw [e] at hu; rw [← hu]; exact ⟨s1, h1, e1, e2, ht⟩
      · simp only [B.force_eq, S.assumeK_eq] at ht
        cases hq : (q.under s1.known).head.den I ρ with
        | true => exact ih _ (h1.assume hq) e1 e2 (ht.1 hq)
        | false => exact ih _ (h1.assume hq) e1 e2 (ht.2 hq)
  exact many 16 s h rfl rfl ht
theorem putF_ok {α : Type} {f : F} {d : Option Nat} {v : V} {s' : S} {k : F → Tree α} {Φ : α → Prop} (ht : (putF f d v s' k).vc I ρ Φ) : v.wf s'.nb = true ∧ (k ⟨setF f.fr d v, s'⟩).vc I ρ Φ := by
  unfold putF at ht
  cases h : v.wf s'.nb with
  | true => rw [h] at ht; simp only [cond_true, V.force_eq, setFK_eq] at ht; exact ⟨rfl, ht⟩
  | false => rw [h] at ht; exact ht.elim
theorem WR.rebase (h : WR I ρ w0 X n0 β0 β s w) {β' : Nat → Nat} {s' : S} {w' : World} (h' : WR I ρ w0 X s.nb β β' s' w') : WR I ρ w0 X n0 β0 β' s' w' :=
  ⟨h'.row, h'.inj, h'.idlt, h'.cwf, h'.own, h'.held, h'.uniq, h'.known, Nat.le_trans h.n0le h'.n0le, fun id hid => (h'.agr id (Nat.lt_of_lt_of_le hid h.n0le)).trans (h.agr id hid), h'.keeps, h'.hyp⟩
theorem WR.here (h : WR I ρ w0 X n0 β0 β s w) : WR I ρ w0 X s.nb β β s w :=
  ⟨h.row, h.inj, h.idlt, h.cwf, h.own, h.held, h.uniq, h.known, Nat.le_refl _, fun _ _ => rfl, h.keeps, h.hyp⟩
def RF (ro : Option Nat) : Fence := { Fence.wide with round := ro }
theorem semAt_run {ro : Option Nat} {ev : Operand → Value} {o : Oper} {w w' : World} {nx : Next} (h : (execOp ev o).run P w = .ok nx w') (hn : ∀ d, nx ≠ .defer d) : (o.semAt ro ev).run P w = .ok nx w' := by
  rw [Oper.semAt_eq ro ev o]
  · exact h
  · intro c hc
    simp only [execOp, hc, Sem.run_bind] at h
    cases hr : (resolve ev c o.type).run P w with
    | ok d w1 =>
      rw [hr] at h
      simp only [Result.andThen_ok, Sem.run_pure, Result.ok.injEq] at h
      exact hn d h.1.symm
    | halt x w1 => rw [hr] at h; cases h
section
variable {ro : Option Nat} {n : Nat} {o : Oper} {a : Act} {next : Act → World → Prop} {Q : Exit → Act → World → Prop} {w' : World}
theorem value_wp {v : Value} (hr : (execOp a.eval o).run P w = .ok (.value v) w') (hk : next (a.put o.dst v) w') : o.wpIn (RF ro) n P a w next Q := by
  refine ⟨fun _ _ => trivial, ?_⟩
  rw [semAt_run hr (fun _ h => nomatch h)]
  exact hk
theorem skip_wp (hr : (execOp a.eval o).run P w = .ok .skip w') (hk : next (a.put o.dst undef) w') : o.wpIn (RF ro) n P a w next Q := by
  refine ⟨fun _ _ => trivial, ?_⟩
  rw [semAt_run hr (fun _ h => nomatch h)]
  exact hk
def CallR (o : Oper) (a : Act) (next : Act → World → Prop) (Q : Exit → Act → World → Prop) : Ending → World → Prop
  | .returned v, w => next (a.put o.dst v) w
  | .panicked chain, w => Q (.panic chain) a w
  | .outgrown, _ => LetsOut Q
theorem enter_wp {f : FuncId} {args : Array Value} (hr : (execOp a.eval o).run P w = .ok (.enter f args) w') (hk : Calls P f args w' (CallR o a next Q)) : o.wpIn (RF ro) n P a w next Q := by
  refine ⟨fun _ _ => trivial, ?_⟩
  rw [semAt_run hr (fun _ h => nomatch h)]
  refine ⟨fun h => (nomatch h), ?_⟩
  show CallsIn Fence.wide (n - 1) P f args w' _
  refine callsIn_wide.2 (hk.mono fun e w' h => ?_)
  cases e <;> exact h
def YCalls (P : Program) (args : Array Value) (w : World) (R : Ending → World → Prop) : Prop :=
  ∃ (l : Nat) (vs : List Value) (r : Loop), args = (.func (.yield l) #[] #[] :: vs).toArray ∧ w.heap[l]? = some (.loop r) ∧ vs.length = r.params.size ∧
    ∀ n, RoundIn Fence.wide n P l r.fn ((r.params.zip vs.toArray).foldl (fun t (p, v) => t.setIfInBounds p v) r.tmps) r.assign r.body w R
theorem yield_wp {args : Array Value} (hr : ∀ l vs, args = (.func (.yield l) #[] #[] :: vs).toArray → (execOp a.eval o).run P w = (Instr.yield l vs.toArray).run P w) (hk : YCalls P args w (CallR o a next Q)) : o.wpIn (RF ro) n P a w next Q := by
  obtain ⟨l, vs, r, e, hl, hs, hR⟩ := hk
  have hr := hr l vs e
  rw [run_yield hl (by simpa using hs)] at hr
  refine ⟨fun _ _ => trivial, ?_⟩
  rw [semAt_run hr (fun _ h => nomatch h)]
  refine ⟨fun h => (nomatch h), ?_⟩
  show RoundIn Fence.wide (n - 1) P _ _ _ _ _ w _
  refine (hR _).mono fun e w' h => ?_
  cases e <;> exact h
def CallsX (P : Program) (g : FuncId) (args : Array Value) (w : World) (R : Ending → World → Prop) : Prop := if g = yldNo then YCalls P args w R else Calls P g args w R
end
structure Anc where
  n : Nat
  β : Nat → Nat
def Agr (Z : Anc) (n : Nat) (β : Nat → Nat) : Prop := Z.n ≤ n ∧ ∀ id, id < Z.n → β id = Z.β id
theorem WR.anc {Z : Anc} (h : WR I ρ w0 X n0 β0 β s w) (hA : Agr Z n0 β0) : Agr Z s.nb β :=
  ⟨Nat.le_trans hA.1 h.n0le, fun id hid => (h.agr id (Nat.lt_of_lt_of_le hid hA.1)).trans (hA.2 id hid)⟩
def CallOk (P : Program) (I : Interp) (ρ : Env) (Z : Anc) (call : CallT) : Prop :=
  ∀ (g : FuncId) (args : List V) (s : S) (w0 : World) (X : Nat → Prop) (n0 : Nat) (β0 β : Nat → Nat) (w : World) (R : Ending → World → Prop), Agr Z n0 β0 →
    (call g args s).vc I ρ (fun r => ∀ β' w', WR I ρ w0 X n0 β0 β' r.2 w' → r.1.wf r.2.nb = true → s.nb ≤ r.2.nb → (∀ id, id < s.nb → β' id = β id) → R (.returned (r.1.den I ρ β')) w') →
    WR I ρ w0 X n0 β0 β s w → (∀ v ∈ args, v.wf s.nb = true) → CallsX P g (args.map (V.den I ρ β)).toArray w R
theorem allSome_ok : ∀ {xs : List Operand} {ev : Operand → Option V} {eval : Operand → Value} {vs : List V}, (∀ x v, ev x = some v → eval x = v.den I ρ β) → allSome (xs.map ev) = some vs → xs.map eval = vs.map (V.den I ρ β) ∧ ∀ v ∈ vs, ∃ x ∈ xs, ev x = some v
  | [], ev, eval, vs, hev, h => by injection h with h; subst h; exact ⟨rfl, fun _ h => by cases h⟩
  | x :: xs, ev, eval, vs, hev, h => by
    simp only [List.map_cons] at h
    cases hx : ev x with
    | none => rw [hx] at h; cases h
    | some v =>
      rw [hx] at h
      obtain ⟨vs', h1, rfl⟩ := Option.map_eq_some_iff.1 h
      obtain ⟨h2, h3⟩ := allSome_ok hev h1
      refine ⟨by simp [hev x v hx, h2], fun u hu => ?_⟩
      rcases List.mem_cons.1 hu with e | hu
      · subst e; exact ⟨x, .head _, hx⟩
      · obtain ⟨y, hy, e⟩ := h3 u hu; exact ⟨y, .tail _ hy, e⟩
def NoCount (P : Program) : Prop := (P.funcs.all (fun fn => !(fn.name == "runtime.NumGoroutine")) && Nat.ble P.funcs.size yldNo) = true
theorem callFunc_run (hN : NoCount P) {g : FuncId} {fn : Func} (hf : P.funcs[g]? = some fn) (hb : fn.body.isSome = true) (args : Array Value) (w : World) : (callFunc g args).run P w = .ok (.enter g args) w := by
  have hn : (fn.name == "runtime.NumGoroutine") = false := by
    unfold NoCount at hN
    rw [Bool.and_eq_true] at hN
    have := Array.all_eq_true_iff_forall_mem.1 hN.1 fn (Array.mem_of_getElem? hf)
    simpa using this
  have hb' : fn.body.isNone = false := by cases h : fn.body <;> simp_all
  simp only [callFunc, Sem.run_bind, run_program, Result.andThen_ok, hf, hn, Bool.false_eq_true, if_false, hb', Sem.run_pure]
theorem funcsBad (hN : NoCount P) {g : FuncId} {fn : Func} (hf : P.funcs[g]? = some fn) (hg : g = yldNo) : False := by
  unfold NoCount at hN
  rw [Bool.and_eq_true, Nat.ble_eq] at hN
  have := (Array.getElem?_eq_some_iff.1 hf).1
  subst hg
  omega
theorem payS_wf (ag : Bool) (ps : List P0) {n : Nat} : (payS ag ps).wf n = true := by
  have h1 : ∀ ps : List P0, ∀ c ∈ ofP0s ps, c.wf n = true := fun ps => by
    induction ps with
    | nil => intro c hc; cases hc
    | cons p r ih =>
      intro c hc
      cases p with
      | int k t =>
        rcases List.mem_cons.1 hc with e | hc
        · subst e; rfl
        · exact ih c hc
      | bool b =>
        rcases List.mem_cons.1 hc with e | hc
        · subst e; rfl
        · exact ih c hc
  have h2 : (ofP0s ps).all (C.wf n) = true := List.all_eq_true.2 (h1 ps)
  unfold payS
  cases ag with
  | true => exact h2
  | false =>
    cases h : ofP0s ps with
    | nil => rfl
    | cons c r => exact h1 ps c (by rw [h]; exact .head _)
theorem payS_ex {t : TypeId} (ag : Bool) (ps : List P0) : ∃ v, ifcDen I ρ t ag ps = .iface t v ∧ (payS ag ps).den I ρ β = v := by
  have h1 : ∀ p : P0, ∃ c, ofP0s [p] = [c] ∧ c.den I ρ β = p.den I ρ := fun p => by cases p <;> exact ⟨_, rfl, rfl⟩
  unfold ifcDen payS
  cases ag with
  | true => exact ⟨_, rfl, by simp only [V.den, cellsOf, ofP0s_den]⟩
  | false =>
    cases ps with
    | nil => exact ⟨_, rfl, rfl⟩
    | cons p r => cases p <;> exact ⟨_, rfl, rfl⟩
theorem method_run {t : TypeId} {name : String} {g : FuncId} (h : methodS P t name = some g) (v : Value) (n : Nat) (w : World) : (method (n + 1) t v name).run P w = .ok (g, v) w ∧ ∃ fn, P.funcs[g]? = some fn ∧ fn.body.isSome = true := by
  unfold methodS at h
  split at h
  · cases h
  · rename_i i hi
    split at h
    · cases h
    · rename_i m hm
      split at h
      · cases h
      · rename_i f d hne hp hf hu
        split at h
        · rename_i fn hfn
          split at h
          · rename_i hb
            injection h with h
            subst h
            refine ⟨?_, fn, hfn, hb⟩
            unfold method
            simp only [Sem.run_bind, typeInfo, run_program, Result.andThen_ok, hi, Sem.run_pure, hm, hp, follow, hf]
            unfold receiverAt
            simp only [Sem.run_bind, run_underlying hu, Result.andThen_ok]
            cases d <;> first | (simp only [Place.get, Sem.run_pure, Result.andThen_ok]; done) | exact absurd hu (hne _)
          · cases h
        · cases h
      · cases h
theorem callee_ok (hN : NoCount P) {o : Oper} {ev : Operand → Option V} {a : Act} {g : FuncId} {vs : List V} {ro : Option Nat} {n : Nat} {next : Act → World → Prop} {Q : Exit → Act → World → Prop} (hev : ∀ x v, ev x = some v → a.eval x = v.den I ρ β)
    (hwf : ∀ x v, ev x = some v → v.wf s.nb = true) (h : calleeS P ev o.op = some (g, vs)) : (∀ v ∈ vs, v.wf s.nb = true) ∧ (CallsX P g (vs.map (V.den I ρ β)).toArray w (CallR o a next Q) → o.wpIn (RF ro) n P a w next Q) := by
  obtain ⟨dst, op, type, pos, after, guard⟩ := o
  simp only at h
  unfold calleeS at h
  split at h
  · rename_i f args at1
    split at h
    · rename_i g' caps vs' hf hvs
      split at h
      · rename_i fn hfn
        split at h
        · rename_i hb
          obtain ⟨h1, h2⟩ := Prod.mk.inj (Option.some.inj h)
          subst h1 h2
          obtain ⟨ha, hm⟩ := allSome_ok hev hvs
          refine ⟨fun v hv => ?_, fun hc => ?_⟩
          · rcases List.mem_append.1 hv with hv | hv
            · obtain ⟨x, -, hx⟩ := hm v hv; exact hwf x v hx
            · obtain ⟨p, hp, rfl⟩ := List.mem_map.1 hv
              have := hwf f _ hf
              simp only [V.wf, C.wf, List.all_eq_true] at this
              exact this p hp
          · have e : args.map a.eval = (vs'.map (V.den I ρ β)).toArray := by apply Array.ext'; simpa using ha
            have e2 : (#[] : Array Value) ++ args.map a.eval ++ (caps.map fun p => Value.pointer (some ⟨β p.1, p.2, none⟩)).toArray = ((vs' ++ caps.map ptrV).map (V.den I ρ β)).toArray := by
              rw [e]
              apply Array.ext'
              simp [ptrV, V.den, C.den, Function.comp_def]
            have hr : (execOp a.eval ⟨dst, .call ⟨.value f, args, at1⟩, type, pos, after, guard⟩).run P w = .ok (.enter g' ((vs' ++ caps.map ptrV).map (V.den I ρ β)).toArray) w := by
              simp only [execOp, resolve, hev f _ hf, V.den, C.den, Deferred.ofValue, Sem.run_bind, Sem.run_pure, Result.andThen_ok, invoke]
              rw [callFunc_run hN hfn hb, e2]
            unfold CallsX at hc
            split at hc
            · rename_i hgy
              obtain ⟨l, us, r, he, -⟩ := hc
              exact (funcsBad hN hfn hgy).elim
            · exact enter_wp hr hc
        · cases h
      · cases h
    · rename_i id vs' hf hvs
      obtain ⟨h1, h2⟩ := Prod.mk.inj (Option.some.inj h)
      subst h1 h2
      obtain ⟨ha, hm⟩ := allSome_ok hev hvs
      refine ⟨fun v hv => ?_, fun hc => ?_⟩
      · rcases List.mem_cons.1 hv with e | hv
        · subst e; exact hwf f _ hf
        · obtain ⟨x, -, hx⟩ := hm v hv; exact hwf x v hx
      · unfold CallsX at hc
        rw [if_pos rfl] at hc
        refine yield_wp (fun l us he => ?_) hc
        have e : args.map a.eval = (vs'.map (V.den I ρ β)).toArray := by apply Array.ext'; simpa using ha
        have he' := congrArg Array.toList he
        simp only [List.map_cons, List.toList_toArray, List.cons.injEq] at he'
        obtain ⟨e1, e3⟩ := he'
        simp only [V.den, C.den, Value.func.injEq, Fn.yield.injEq] at e1
        have e4 : vs'.map (V.den I ρ β) = us := by simpa using e3
        simp only [execOp, resolve, hev f _ hf, V.den, C.den, Deferred.ofValue, Sem.run_bind, Sem.run_pure, Result.andThen_ok, invoke, e, e4, e1.1]
        simp
    · cases h
  · rename_i x name args at1
    split at h
    · rename_i t ag ps vs' hf hvs
      split at h
      · rename_i g' hg
        obtain ⟨h1, h2⟩ := Prod.mk.inj (Option.some.inj h)
        subst h1 h2
        obtain ⟨ha, hm⟩ := allSome_ok hev hvs
        refine ⟨fun v hv => ?_, fun hc => ?_⟩
        · rcases List.mem_cons.1 hv with e | hv
          · subst e; exact payS_wf ag ps
          · obtain ⟨y, -, hy⟩ := hm v hv; exact hwf y v hy
        · have e : args.map a.eval = (vs'.map (V.den I ρ β)).toArray := by apply Array.ext'; simpa using ha
          obtain ⟨v, hv1, hv2⟩ := payS_ex (I := I) (ρ := ρ) (β := β) (t := t) ag ps
          obtain ⟨hr1, fn, hfn, hb⟩ := method_run hg v (P.types.size + 99) w
          have hr : (execOp a.eval ⟨dst, .call ⟨.invoke x name, args, at1⟩, type, pos, after, guard⟩).run P w = .ok (.enter g' ((payS ag ps :: vs').map (V.den I ρ β)).toArray) w := by
            simp only [execOp, resolve, hev x _ hf, V.den, C.den, hv1, Sem.run_bind, Sem.run_pure, Result.andThen_ok, invoke]
            have h0 : (#[Value.iface t v] ++ args.map a.eval)[0]? = some (.iface t v) := by rw [Array.getElem?_append, if_pos (by simp)]; rfl
            have h1 : (#[Value.iface t v] ++ args.map a.eval).extract 1 (#[Value.iface t v] ++ args.map a.eval).size = args.map a.eval := by
              apply Array.ext'; simp [List.take_of_length_le]
            simp only [h0, h1, callMethod, Sem.run_bind, run_program, Result.andThen_ok]
            rw [show P.types.size + Made.depth = P.types.size + 99 + 1 from rfl, hr1]
            simp only [Result.andThen_ok]
            rw [callFunc_run hN hfn hb, e, List.map_cons, hv2, show #[v] ++ (List.map (V.den I ρ β) vs').toArray = (v :: List.map (V.den I ρ β) vs').toArray by apply Array.ext'; simp]
          unfold CallsX at hc
          split at hc
          · rename_i hgy
            exact (funcsBad hN hfn hgy).elim
          · exact enter_wp hr hc
      · cases h
    · cases h
  · cases h
theorem cOf_wf {n : Nat} {c : Value} {x : C} (hc : cOf c = some x) : x.wf n = true := by
  unfold cOf at hc
  split at hc <;> first | (cases hc; done) | (injection hc with hc; subst hc; rfl)
theorem csOf_wf {n : Nat} : ∀ {vs : List Value} {l : List C}, csOf vs = some l → ∀ c ∈ l, c.wf n = true := by
  intro vs
  induction vs with
  | nil => intro l hl c hc; injection hl with hl; subst hl; cases hc
  | cons v r ih =>
    intro l hl c hc
    unfold csOf at hl
    split at hl
    · rename_i c1 cs1 e1 e2
      injection hl with hl
      subst hl
      rcases List.mem_cons.1 hc with e | hc
      · subst e; exact cOf_wf e1
      · exact ih e2 c hc
    · cases hl
theorem vOf_wf {n : Nat} {c : Value} {v : V} (h : vOf c = some v) : v.wf n = true := by
  unfold vOf at h
  split at h
  · rename_i cs
    obtain ⟨l, hl, rfl⟩ := Option.map_eq_some_iff.1 h
    simp only [V.wf, List.all_eq_true]
    exact csOf_wf hl
  · split at h
    · injection h with h; subst h; rfl
    · cases h
  · obtain ⟨c1, hc, rfl⟩ := Option.map_eq_some_iff.1 h; exact cOf_wf hc
theorem evF_wf {fr : Fr} {n : Nat} (hw : ∀ t, (getF fr t).wf n = true) {x : Operand} {v : V} (h : evF fr x = some v) : v.wf n = true := by
  cases x with
  | tmp t =>
    injection h with h
    subst h
    exact hw t
  | const c => exact vOf_wf h
  | global g => cases h
  | func g => injection h with h; subst h; rfl
theorem stepT_ok {α : Type} (hN : NoCount P) {call : CallT} {Z : Anc} (hc : CallOk P I ρ Z call) (hA : Agr Z n0 β0) {ro : Option Nat} {o : Oper} {f : F} {k : F → Tree α} {Φ : α → Prop} {next : Act → World → Prop} {Q : Exit → Act → World → Prop}
    (ht : (stepT P call o f k).vc I ρ Φ) (h : WR I ρ w0 X n0 β0 β f.s w) (hw : f.wf)
    (hk : ∀ f' β' w', (k f').vc I ρ Φ → WR I ρ w0 X n0 β0 β' f'.s w' → f'.wf → next (actOf df I ρ β' f'.fr) w') : o.wpIn (RF ro) 0 P (actOf df I ρ β f.fr) w next Q := by
  have one : ∀ {s1 : S} {v : V} {s' : S}, WR I ρ w0 X n0 β0 β s1 w → s1.nb = f.s.nb → opS P (evF f.fr) s1 o.op = .ok v s' → (putF f o.dst v s' k).vc I ρ Φ → o.wpIn (RF ro) 0 P (actOf df I ρ β f.fr) w next Q := by
    intro s1 v s' h1 hnb ho hp
    obtain ⟨hvw, hp⟩ := putF_ok hp
    have hop := opS_ok (P := P) (eval := (actOf df I ρ β f.fr).eval) (ev := evF f.fr) h1 o (fun x v hx => evF_ok hx)
    rw [ho] at hop
    obtain ⟨β', w', hr, hwr, hag, hle⟩ := hop
    have hfw : ∀ t, (getF f.fr t).wf s1.nb = true := fun t => by rw [hnb]; exact hw.ok t
    have e : actOf df I ρ β f.fr = actOf df I ρ β' f.fr := (actOf_agree hfw hag).symm
    have hn := hk ⟨setF f.fr o.dst v, s'⟩ β' w' hp hwr ⟨by rw [setF_sz]; exact hw.deep, setF_wf (fun t => V.wf_mono hle (hfw t)) hvw⟩
    simp only [← put_ok f.fr hw.deep] at hn
    rcases hr with hr | ⟨hr, hv⟩
    · exact value_wp hr (by rw [e]; exact hn)
    · exact skip_wp hr (by rw [e, ← hv]; exact hn)
  unfold stepT at ht
  split at ht
  · rename_i g vs hg
    obtain ⟨hvw, hx⟩ := callee_ok (s := f.s) (w := w) (ro := ro) (n := 0) (next := next) (Q := Q) hN (a := actOf df I ρ β f.fr) (fun x v hx => evF_ok hx) (fun x v hx => evF_wf hw.ok hx) hg
    refine hx ?_
    refine hc g vs f.s w0 X n0 β0 β w _ hA ?_ h hvw
    rw [vsF_eq, Tree.vc_bind] at ht
    refine Tree.vc_mono ?_ ht
    rintro ⟨v, s'⟩ hp β' w' hwr hv hle hag
    obtain ⟨-, hp⟩ := putF_ok hp
    have e : actOf df I ρ β f.fr = actOf df I ρ β' f.fr := (actOf_agree hw.ok hag).symm
    have hn := hk ⟨setF f.fr o.dst v, s'⟩ β' w' hp hwr ⟨by rw [setF_sz]; exact hw.deep, setF_wf (fun t => V.wf_mono hle (hw.ok t)) hv⟩
    simp only [← put_ok f.fr hw.deep] at hn
    show next _ _
    rw [e]
    exact hn
  · have many : ∀ (n : Nat) (s1 : S), WR I ρ w0 X n0 β0 β s1 w → s1.nb = f.s.nb → (opT P o f k n s1).vc I ρ Φ → o.wpIn (RF ro) 0 P (actOf df I ρ β f.fr) w next Q := by
      intro n
      induction n with
      | zero => intro s1 _ _ ht; exact ht.elim
      | succ n ih =>
        intro s1 h1 hnb ht
        unfold opT at ht
        split at ht
        · rename_i v s' ho; exact one h1 hnb ho ht
        · rename_i q ho
          simp only [B.force_eq, S.assumeK_eq] at ht
          cases hq : q.den I ρ with
          | true => exact ih _ (h1.assume hq) hnb (ht.1 hq)
          | false => exact ih _ (h1.assume hq) hnb (ht.2 hq)
        · exact ht.elim
    exact many 64 f.s h rfl ht
theorem wanted_bool {ops : Array Oper} {o : Oper} {fr : Fr} {j : Nat} {want b : Bool} (hg : o.guard = some (j, want)) {v : V} (hv : ((ops[j]?).bind (·.dst)).map (getF fr) = some v) (hb : v.den I ρ β = .bool b) :
    Region.wanted o (yielded ops (actOf df I ρ β fr).tmps) = (b == want) := by
  obtain ⟨d, hd, rfl⟩ := Option.map_eq_some_iff.1 hv
  have : (actOf df I ρ β fr).tmps[d]? = some (.bool b) := by
    have h1 := getF_den (df := df) (I := I) (ρ := ρ) (β := β) fr d
    rw [hb] at h1
    cases h2 : (actOf df I ρ β fr).tmps[d]? with
    | none => 
      have : (actOf df I ρ β fr).tmps.getD d undef = undef := by
        rw [Array.getD_eq_getD_getElem?, h2]; rfl
      rw [this] at h1; cases h1
    | some u =>
      have : (actOf df I ρ β fr).tmps.getD d undef = u := by
        rw [Array.getD_eq_getD_getElem?, h2]; rfl
      rw [this] at h1; rw [h1]
  simp only [Region.wanted, hg, yielded, hd, Option.bind_some, this]
  cases b <;> cases want <;> rfl
theorem wanted_not {ops : Array Oper} {o : Oper} {fr : Fr} {j : Nat} {want : Bool} (hg : o.guard = some (j, want)) {vs : List (Bool × List C)} (hv : ((ops[j]?).bind (·.dst)).map (getF fr) = some (.tup vs)) :
    Region.wanted o (yielded ops (actOf df I ρ β fr).tmps) = false := by
  obtain ⟨d, hd, e⟩ := Option.map_eq_some_iff.1 hv
  have h1 := getF_den (df := df) (I := I) (ρ := ρ) (β := β) fr d
  rw [e] at h1
  have : yielded ops (actOf df I ρ β fr).tmps j = none := by
    simp only [yielded, hd, Option.bind_some]
    cases h2 : (actOf df I ρ β fr).tmps[d]? with
    | none => rfl
    | some u =>
      have : (actOf df I ρ β fr).tmps.getD d undef = u := by
        rw [Array.getD_eq_getD_getElem?, h2]; rfl
      rw [this] at h1
      subst h1
      rfl
  simp only [Region.wanted, hg, this]
  rfl
theorem seqOps_ok (hN : NoCount P) {call : CallT} {Z : Anc} (hc : CallOk P I ρ Z call) (hA : Agr Z n0 β0) {ro : Option Nat} {ops : Array Oper} {Q : Exit → Act → World → Prop} :
    ∀ (l : List Oper) (f : F) (β : Nat → Nat) (w : World), (seqOps P call ops l f).vc I ρ (fun f' => ∀ β' w', WR I ρ w0 X n0 β0 β' f'.s w' → f'.wf → Q .normal (actOf df I ρ β' f'.fr) w') →
      WR I ρ w0 X n0 β0 β f.s w → f.wf → wpListIn (RF ro) 0 P ops Q l (actOf df I ρ β f.fr) w
  | [], f, β, w, ht, h, hw => ht β w h hw
  | o :: r, f, β, w, ht, h, hw => by
    have undef_ok : ∀ (s1 : S), WR I ρ w0 X n0 β0 β s1 w → s1.nb = f.s.nb → (seqOps P call ops r ⟨setF f.fr o.dst .undef, s1⟩).vc I ρ (fun f' => ∀ β' w', WR I ρ w0 X n0 β0 β' f'.s w' → f'.wf → Q .normal (actOf df I ρ β' f'.fr) w') →
        wpListIn (RF ro) 0 P ops Q r ((actOf df I ρ β f.fr).put o.dst undef) w := fun s1 h1 hnb ht => by
      have := seqOps_ok (ro := ro) (Q := Q) hN hc hA r ⟨setF f.fr o.dst .undef, s1⟩ β w ht h1 ⟨by show deepOk (setF f.fr o.dst .undef).sz = true; rw [setF_sz]; exact hw.deep, setF_wf (fun t => by show (getF f.fr t).wf s1.nb = true; rw [hnb]; exact hw.ok t) rfl⟩
      rw [← put_ok f.fr hw.deep] at this
      exact this
    unfold seqOps at ht
    unfold wpListIn
    split at ht
    · rename_i hg
      rw [if_pos (by simp [Region.wanted, hg])]
      exact (stepT_ok hN hc hA ht h hw fun f' β' w' hk h' hw' => seqOps_ok hN hc hA r f' β' w' hk h' hw')
    · rename_i j want hg
      split at ht
      · rename_i q hq
        obtain ⟨s1, h1, hnb, hbl, ht⟩ := withB_ok h ht
        have hwd := wanted_bool (df := df) (I := I) (ρ := ρ) (β := β) hg hq rfl
        cases hb : (q.den I ρ == want) with
        | true =>
          rw [hb] at ht hwd
          rw [if_pos hwd]
          exact (stepT_ok hN hc hA (f := ⟨f.fr, s1⟩) ht h1 ⟨hw.deep, fun t => by show (getF f.fr t).wf s1.nb = true; rw [hnb]; exact hw.ok t⟩ fun f' β' w' hk h' hw' => seqOps_ok hN hc hA r f' β' w' hk h' hw')
        | false =>
          rw [hb] at ht hwd
          rw [if_neg (by rw [hwd]; simp)]
          simp only [cond_false, setFK_eq] at ht
          exact ⟨fun _ _ => trivial, undef_ok s1 h1 hnb ht⟩
      · rename_i vs hq
        have hwd := wanted_not (df := df) (I := I) (ρ := ρ) (β := β) hg hq
        rw [if_neg (by rw [hwd]; simp)]
        rw [setFK_eq] at ht
        exact ⟨fun _ _ => trivial, undef_ok f.s h rfl ht⟩
      · exact ht.elim
end
end Go.Proofs.Ythkkipkhofkpmaa.Sx

