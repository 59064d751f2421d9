import Derived.Test.YthkkipkhofkpmaaQSx5
set_option linter.all false
set_option autoImplicit false
namespace Go.Proofs.Ythkkipkhofkpmaa.Sx
open Go Go.RowKit
def Done (listed : Array Bool) (j : Nat) : Prop := listed.getD j false = true
theorem done_set {listed : Array Bool} {i : Nat} (hi : i < listed.size) : Done (listed.setIfInBounds i true) = fun j => j = i ∨ Done listed j := by
  funext j
  apply propext
  unfold Done
  by_cases h : j = i
  · subst h; simp [hi]
  · have : i ≠ j := fun e => h e.symm
    simp [Array.getElem?_setIfInBounds, this, h]
theorem ready_mem {ops : Array Oper} {listed : Array Bool} {i : Nat} (h : i ∈ Region.ready .any ops listed) : ∃ o, ops[i]? = some o ∧ ¬ Done listed i ∧ listed.getD i true = false ∧ ∀ e ∈ o.after, Region.binds .any e = true → Done listed e.on := by
  unfold Region.ready at h
  rw [List.mem_filter] at h
  obtain ⟨h1, h2⟩ := h
  have hi : i < ops.size := List.mem_range.1 h1
  obtain ⟨o, ho⟩ : ∃ o, ops[i]? = some o := ⟨_, Array.getElem?_eq_getElem hi⟩
  rw [ho] at h2
  simp only [Bool.and_eq_true, Bool.not_eq_true', Option.map_some, Option.getD_some] at h2
  refine ⟨o, ho, ?_, h2.1, fun e he hb => ?_⟩
  · unfold Done
    intro hd
    have h3 := h2.1
    by_cases hl : i < listed.size
    · simp [hl] at h3 hd; rw [h3] at hd; cases hd
    · simp [hl] at h3
  · have := (Array.all_eq_true_iff_forall_mem.1 h2.2) e he
    simpa [hb, Done] using this
def left (listed : Array Bool) : Nat := (listed.toList.filter (· == false)).length
theorem left_set_aux : ∀ (l : List Bool) (i : Nat), l[i]? = some false → ((l.set i true).filter (· == false)).length + 1 = (l.filter (· == false)).length
  | [], i, h => by simp at h
  | b :: l, 0, h => by simp at h; subst h; simp
  | b :: l, i + 1, h => by
    have := left_set_aux l i (by simpa using h)
    cases b <;> simp at this ⊢ <;> omega
theorem left_set {listed : Array Bool} {i : Nat} (h : listed.getD i true = false) : left (listed.setIfInBounds i true) + 1 = left listed := by
  have hi : i < listed.size := by
    apply Classical.byContradiction
    intro hn
    simp [hn] at h
  unfold left
  rw [Array.toList_setIfInBounds]
  refine left_set_aux _ _ ?_
  simp [hi] at h
  simp [hi, h]
def regionOkG (ops : Array Oper) : Bool := (List.range ops.size).all fun i => match ops[i]? with
  | none => true
  | some o => o.after.all fun e => !Region.binds .any e || decide (e.on < i)
theorem regionOkG_spec {ops : Array Oper} (h : regionOkG ops = true) {i : Nat} {o : Oper} (ho : ops[i]? = some o) : ∀ e ∈ o.after, Region.binds .any e = true → e.on < i := by
  have hi : i < ops.size := (Array.getElem?_eq_some_iff.1 ho).1
  have h1 := List.all_eq_true.1 h i (List.mem_range.2 hi)
  rw [ho] at h1
  intro e he hb
  have := (Array.all_eq_true_iff_forall_mem.1 h1) e he
  simpa [hb] using this
theorem ready_nilG {ops : Array Oper} {listed : Array Bool} (hok : regionOkG ops = true) (hs : listed.size = ops.size) (h : Region.ready .any ops listed = []) : ∀ i, i < ops.size → Done listed i := by
  intro i
  induction i using Nat.strongRecOn with
  | _ i ih =>
    intro hi
    obtain ⟨o, ho⟩ : ∃ o, ops[i]? = some o := ⟨_, Array.getElem?_eq_getElem hi⟩
    apply Classical.byContradiction
    intro hn
    have hmem : i ∈ Region.ready .any ops listed := by
      unfold Region.ready
      rw [List.mem_filter]
      refine ⟨List.mem_range.2 hi, ?_⟩
      rw [ho]
      simp only [Option.map_some, Option.getD_some, Bool.and_eq_true, Bool.not_eq_true']
      refine ⟨?_, ?_⟩
      · have hl : i < listed.size := by omega
        unfold Done at hn
        simp [hl] at hn ⊢
        exact hn
      · refine Array.all_eq_true_iff_forall_mem.2 fun e he => ?_
        by_cases hb : Region.binds .any e = true
        · have hlt := regionOkG_spec hok ho e he hb
          have := ih e.on hlt (by omega)
          unfold Done at this
          simpa [hb] using this
        · simp [hb]
    rw [h] at hmem; cases hmem
section
variable {P : Program} {ro : Option Nat} {ops : Array Oper} {Q : Exit → Act → World → Prop} (Inv : (Nat → Prop) → Act → World → Prop)
def StepG (o : Oper) (a : Act) (w : World) (K : Act → World → Prop) : Prop := if Region.wanted o (yielded ops a.tmps) then o.wpIn (RF ro) 0 P a w K Q else K (a.put o.dst undef) w
theorem wpAny_invG (hok : regionOkG ops = true)
    (hstep : ∀ (i : Nat) (o : Oper) (D : Nat → Prop) (a : Act) (w : World), ops[i]? = some o → ¬ D i → (∀ e ∈ o.after, Region.binds .any e = true → D e.on) → Inv D a w → StepG (P := P) (ro := ro) (ops := ops) (Q := Q) o a w (fun a' w' => Inv (fun j => j = i ∨ D j) a' w'))
    (hdone : ∀ (D : Nat → Prop) (a : Act) (w : World), (∀ i, i < ops.size → D i) → Inv D a w → Q .normal a w) :
    ∀ (fuel : Nat) (listed : Array Bool) (a : Act) (w : World), listed.size = ops.size → left listed ≤ fuel → Inv (Done listed) a w → wpAnyIn (RF ro) 0 P .any ops Q fuel listed a w
  | 0, listed, a, w, hs, hl, hi => by
    have hr : Region.ready .any ops listed = [] := by
      apply List.eq_nil_iff_forall_not_mem.2
      intro i hm
      obtain ⟨_, _, _, h3, _⟩ := ready_mem hm
      have := left_set h3
      omega
    exact ⟨hr, hdone _ a w (ready_nilG hok hs hr) hi⟩
  | fuel + 1, listed, a, w, hs, hl, hi => by
    refine ⟨fun hr => hdone _ a w (ready_nilG hok hs hr) hi, fun i hm => ?_⟩
    obtain ⟨o, ho, hn, h3, he⟩ := ready_mem hm
    have hil : i < listed.size := by rw [hs]; exact (Array.getElem?_eq_some_iff.1 ho).1
    have hnext : ∀ a' w', Inv (fun j => j = i ∨ Done listed j) a' w' → wpAnyIn (RF ro) 0 P .any ops Q fuel (listed.setIfInBounds i true) a' w' := fun a' w' h => by
      refine wpAny_invG hok hstep hdone fuel _ a' w' (by simpa using hs) (by have := left_set h3; omega) ?_
      rw [done_set hil]
      exact h
    have hst := hstep i o _ a w ho hn he hi
    unfold wpOpIn
    rw [ho]
    dsimp only
    unfold StepG at hst
    by_cases hw : Region.wanted o (yielded ops a.tmps) = true
    · rw [if_pos hw] at hst ⊢
      exact (Oper.wpIn_mono (fun a' w' h => hnext a' w' h) hst)
    · rw [if_neg hw] at hst ⊢
      exact ⟨fun _ _ => trivial, hnext _ _ hst⟩
theorem wp_region_invG {id : Nat} {a : Act} {w : World} (hm : P.follows .mixedOrders = true) (hok : regionOkG ops = true) (h0 : Inv (fun _ => False) a w.drew)
    (hstep : ∀ (i : Nat) (o : Oper) (D : Nat → Prop) (a : Act) (w : World), ops[i]? = some o → ¬ D i → (∀ e ∈ o.after, Region.binds .any e = true → D e.on) → Inv D a w → StepG (P := P) (ro := ro) (ops := ops) (Q := Q) o a w (fun a' w' => Inv (fun j => j = i ∨ D j) a' w'))
    (hdone : ∀ (D : Nat → Prop) (a : Act) (w : World), (∀ i, i < ops.size → D i) → Inv D a w → Q .normal a w) : (Code.region id ops true).wpIn (RF ro) 0 P Q a w := by
  refine wpIn_region_any hm (wpAny_invG Inv hok hstep hdone _ _ _ _ (by simp) ?_ ?_)
  · exact Nat.le_trans (List.length_filter_le _ _) (by simp)
  · have : Done (Array.replicate ops.size false) = fun _ => False := by
      funext j
      apply propext
      unfold Done
      by_cases h : j < ops.size <;> simp [h]
    rw [this]; exact h0
end
section
variable {P : Program} {ro : Option Nat} {ops : Array Oper} {Q : Exit → Act → World → Prop} {o : Oper} {a : Act} {w : World} {K : Act → World → Prop}
theorem step_yes (h : Region.wanted o (yielded ops a.tmps) = true) (hk : o.wpIn (RF ro) 0 P a w K Q) : StepG (P := P) (ro := ro) (ops := ops) (Q := Q) o a w K := by unfold StepG; rw [if_pos h]; exact hk
theorem step_no (h : Region.wanted o (yielded ops a.tmps) = false) (hk : K (a.put o.dst undef) w) : StepG (P := P) (ro := ro) (ops := ops) (Q := Q) o a w K := by unfold StepG; rw [if_neg (by rw [h]; simp)]; exact hk
end
def C.ids : C → List Nat
  | .ptr id _ | .slice id .. => [id]
  | .opq id => [id]
  | .yld id => [id]
  | .fn _ caps => caps.map (·.1)
  | .osl id cid .. => [id, cid]
  | _ => []
def idsOf (cs : List C) : List Nat := cs.flatMap C.ids
def V.ids : V → List Nat
  | .c x => x.ids
  | .agg cs => idsOf cs
  | .tup vs => vs.flatMap fun p => idsOf p.2
  | .any _ => []
def bytesSame (a b : ByteArray) : Bool := a.data.toList == b.data.toList
def fnSame : Fn → Fn → Bool
  | .func a, .func b => Nat.beq a b
  | _, _ => false
def capsSame : List (Nat × Nat) → List (Nat × Nat) → Bool
  | [], [] => true
  | (a, b) :: r, (c, d) :: q => Nat.beq a c && (Nat.beq b d && capsSame r q)
  | _, _ => false
def p0sSame : List P0 → List P0 → Bool
  | [], [] => true
  | .int k a :: r, .int l b :: q => kindSame k l && (a.same b && p0sSame r q)
  | .bool a :: r, .bool b :: q => a.same b && p0sSame r q
  | _, _ => false
theorem p0sSame_eq {a : List P0} : ∀ {b : List P0}, p0sSame a b = true → a = b := by
  induction a with
  | nil =>
    intro b h
    cases b with
    | nil => rfl
    | cons q r => cases q <;> cases h
  | cons x r ih =>
    intro b h
    cases b with
    | nil => cases x <;> cases h
    | cons y q =>
      cases x <;> cases y <;> simp only [p0sSame, Bool.and_eq_true, Bool.false_eq_true] at h
      · rw [kindSame_eq h.1, T.same_eq h.2.1, ih h.2.2]
      · rw [B.same_eq _ _ h.1, ih h.2]
def boolSame : Bool → Bool → Bool
  | true, true | false, false => true
  | _, _ => false
theorem boolSame_eq {a b : Bool} (h : boolSame a b = true) : a = b := by cases a <;> cases b <;> first | rfl | cases h
def C.same : C → C → Bool
  | .int k a, .int l b => kindSame k l && a.same b
  | .bool a, .bool b => a.same b
  | .ptr a b, .ptr c d => Nat.beq a c && Nat.beq b d
  | .nilp, .nilp => true
  | .slice a b c d, .slice e f g h => Nat.beq a e && (Nat.beq b f && (Nat.beq c g && Nat.beq d h))
  | .nils, .nils => true
  | .fn f a, .fn g b => fnSame f g && capsSame a b
  | .str a, .str b => bytesSame a b
  | .nilf, .nilf => true
  | .abs f a, .abs g b => Nat.beq f g && a.same b
  | .opq a, .opq b => Nat.beq a b
  | .yld a, .yld b => Nat.beq a b
  | .nili, .nili => true
  | .ifc t a p, .ifc u b q => Nat.beq t u && (boolSame a b && p0sSame p q)
  | .osl a b c d e, .osl f g h i j => Nat.beq a f && (Nat.beq b g && (Nat.beq c h && (Nat.beq d i && Nat.beq e j)))
  | _, _ => false
def cellsSame : List C → List C → Bool
  | [], [] => true
  | a :: r, b :: q => a.same b && cellsSame r q
  | _, _ => false
structure RS where
  v : V
  nb : Nat
  nb' : Nat
  nw : List (Nat × Blk)
  wr : List (Nat × List C)
  see : List Nat
structure RG where
  fr : Fr
  s : S
  rs : List (Nat × RS)
def bit (m j : Nat) : Bool := Nat.testBit m j
def maskOf (pm : List Nat) (es : List Edge) : Nat := es.foldl (fun m e => bif Region.binds .any e then m ||| (2 ^ e.on ||| pm.getD e.on 0) else m) 0
def masks : List Oper → List Nat → List Nat
  | [], pm => pm
  | o :: r, pm => masks r (pm ++ [maskOf pm o.after.toList])
def appF {α : Type} : List Nat → Nat → (List Nat → α) → α
  | [], x, k => natF x fun x => k [x]
  | y :: r, x, k => appF r x fun r => k (y :: r)
theorem appF_eq {α : Type} (l : List Nat) (x : Nat) : ∀ k : List Nat → α, appF l x k = k (l ++ [x]) := by
  induction l with
  | nil => intro k; simp [appF, natF_eq]
  | cons y r ih => intro k; simp [appF, ih]
def masksK {α : Type} : List Oper → List Nat → (List Nat → α) → α
  | [], pm, k => k pm
  | o :: r, pm, k => appF pm (maskOf pm o.after.toList) fun pm => masksK r pm k
theorem masksK_eq {α : Type} (l : List Oper) : ∀ (pm : List Nat) (k : List Nat → α), masksK l pm k = k (masks l pm) := by
  induction l with
  | nil => intro pm k; rfl
  | cons o r ih => intro pm k; simp [masksK, masks, appF_eq, ih]
def dstsOf (pm : List Nat) : Nat → List Oper → List (Nat × Nat × Nat)
  | _, [] => []
  | i, o :: r => match o.dst with
    | some d => (i, d, pm.getD i 0) :: dstsOf pm (i + 1) r
    | none => dstsOf pm (i + 1) r
def okRead (ds : List (Nat × Nat × Nat)) (i m t : Nat) : Bool := ds.all fun p => !Nat.beq p.2.1 t || (bif Nat.blt p.1 i then bit m p.1 else Nat.beq p.1 i || bit p.2.2 i)
def evR (ds : List (Nat × Nat × Nat)) (i m : Nat) (fr : Fr) : Operand → Option V
  | .tmp t => bif okRead ds i m t then some (getF fr t) else none
  | x => evF fr x
def distinctD : List (Nat × Nat × Nat) → Bool
  | [] => true
  | p :: r => (r.all fun q => !Nat.beq p.2.1 q.2.1) && distinctD r
def seenBlks (ev : Operand → Option V) (vis : List (Nat × Blk)) : Op → List (Nat × Blk)
  | .load _ a | .store _ a _ => match ev a with
    | some (.c (.ptr id _)) => vis.filter fun p => Nat.beq p.1 id
    | _ => []
  | .call { callee := .value _, .. } => vis
  | .call { callee := .builtin .append, args, .. } => vis.filter fun p => args.toList.any fun x => match ev x with
    | some (.c (.slice id ..)) | some (.c (.osl id ..)) => Nat.beq p.1 id
    | _ => false
  | .slice _ x _ _ _ => match ev x with
    | some (.c (.osl id ..)) => vis.filter fun p => Nat.beq p.1 id
    | _ => []
  | _ => []
def opTr (P : Program) (ev : Operand → Option V) (o : Op) : Nat → S → Tree (V × S)
  | 0, _ => .bad
  | n + 1, s => match opS P ev s o with
    | .ok v s' => .leaf (v, s')
    | .split q => q.force fun q => .node q (s.assumeK q true (opTr P ev o n)) (s.assumeK q false (opTr P ev o n))
    | .bad => .bad
def runT (P : Program) (call : CallT) (ev : Operand → Option V) (o : Op) (s : S) : Tree (V × S) := match calleeS P ev o with
  | some (g, vs) => vsF vs fun vs => call g vs s
  | none => opTr P ev o 64 s
def knowK {α : Type} (kn : Known) (b : B) (v : Bool) (k : Known → α) : α := match kn with
  | ⟨f, d, m⟩ => factsF (addFact f b v) fun f => k ⟨f, d, m⟩
theorem knowK_eq {α : Type} (kn : Known) (b : B) (v : Bool) (k : Known → α) : knowK kn b v k = k (kn.add b v) := by obtain ⟨f, d, m⟩ := kn; simp [knowK, Known.add, factsF_eq]
def bindK {α γ : Type} : Tree α → Known → (α → Known → Tree γ) → Tree γ
  | .leaf a, kn, k => k a kn
  | .node b x y, kn, k => .node b (knowK kn b true fun kn => bindK x kn k) (knowK kn b false fun kn => bindK y kn k)
  | .bad, _, _ => .bad
def partK {γ : Type} (q : B) (k : Bool → Known → Tree γ) : Nat → Known → Tree γ
  | 0, _ => .bad
  | n + 1, kn => match q.under kn with
    | .lit true => k true kn
    | .lit false => k false kn
    | q' => q'.head.force fun a => .node a (knowK kn a true (partK q k n)) (knowK kn a false (partK q k n))
def diffs (new : List (Nat × Blk)) : List (Nat × Blk) → Option (List (Nat × List C))
  | [] => some []
  | p :: r => match findIn new p.1, diffs new r with
    | some b, some l => bif Nat.beq b.ty p.2.ty then some (bif cellsSame p.2.cells b.cells then l else (p.1, b.cells) :: l) else none
    | _, _ => none
def inRange (x : Nat × RS) (id : Nat) : Bool := Nat.ble x.2.nb id && Nat.blt id x.2.nb'
def avoids (un : List (Nat × RS)) (ids : List Nat) : Bool := ids.all fun id => un.all fun x => !inRange x id
def hidden (un : List (Nat × RS)) (id : Nat) : Bool := un.any fun x => (x.2.wr.any fun q => Nat.beq q.1 id) || inRange x id
def putAll : List (Nat × List C) → List (Nat × Blk) → List (Nat × Blk)
  | [], l => l
  | p :: r, l => putIn (putAll r l) p.1 p.2
def wantT {γ : Type} (ops : Array Oper) (ev : Operand → Option V) (kn : Known) (g : Option (Nat × Bool)) (k : Bool → Known → Tree γ) : Tree γ := match g with
  | none => k true kn
  | some (j, want) => match (ops[j]?).bind (·.dst) with
    | none => .bad
    | some d => match ev (.tmp d) with
      | some (.c (.bool q)) => partK q (fun b kn => k (b == want) kn) 16 kn
      | some (.tup _) => k false kn
      | _ => .bad
section
variable {α : Type}
def blksF : List (Nat × Blk) → (List (Nat × Blk) → α) → α
  | [], k => k []
  | (i, ⟨t, cs⟩) :: r, k => natF i fun i => natF t fun t => csF cs fun cs => blksF r fun r => k ((i, ⟨t, cs⟩) :: r)
def wrF : List (Nat × List C) → (List (Nat × List C) → α) → α
  | [], k => k []
  | (i, cs) :: r, k => natF i fun i => csF cs fun cs => wrF r fun r => k ((i, cs) :: r)
def natsF : List Nat → (List Nat → α) → α
  | [], k => k []
  | i :: r, k => natF i fun i => natsF r fun r => k (i :: r)
theorem blksF_eq (l : List (Nat × Blk)) : ∀ k : List (Nat × Blk) → α, blksF l k = k l := by
  induction l with
  | nil => intro k; rfl
  | cons p r ih => intro k; obtain ⟨i, t, cs⟩ := p; simp [blksF, natF_eq, csF_eq, ih]
theorem wrF_eq (l : List (Nat × List C)) : ∀ k : List (Nat × List C) → α, wrF l k = k l := by
  induction l with
  | nil => intro k; rfl
  | cons p r ih => intro k; obtain ⟨i, cs⟩ := p; simp [wrF, natF_eq, csF_eq, ih]
theorem natsF_eq (l : List Nat) : ∀ k : List Nat → α, natsF l k = k l := by
  induction l with
  | nil => intro k; rfl
  | cons p r ih => intro k; simp [natsF, natF_eq, ih]
end
def filtK {α γ : Type} (p : γ → Bool) : List γ → (List γ → α) → α
  | [], k => k []
  | x :: r, k => match p x with
    | true => filtK p r fun r => k (x :: r)
    | false => filtK p r k
theorem filtK_eq {α γ : Type} (p : γ → Bool) (l : List γ) : ∀ k : List γ → α, filtK p l k = k (l.filter p) := by
  induction l with
  | nil => intro k; rfl
  | cons x r ih => intro k; cases h : p x <;> simp [filtK, h, ih]
def finK {γ : Type} (fr : Fr) (bl : List (Nat × Blk)) (n nb' : Nat) (kn : Known) (i : Nat) (v : V) (nw : List (Nat × Blk)) (wr : List (Nat × List C)) (see : List Nat) (rs : List (Nat × RS)) (k : RG → Tree γ) : Tree γ := match nw, wr with
  | [], [] => natsF see fun see => k ⟨fr, ⟨bl, nb', kn⟩, (i, ⟨v, n, nb', [], [], see⟩) :: rs⟩
  | nw, wr => blksF (nw ++ putAll wr bl) fun bl => blksF nw fun nw => wrF wr fun wr => natsF see fun see => k ⟨fr, ⟨bl, nb', kn⟩, (i, ⟨v, n, nb', nw, wr, see⟩) :: rs⟩
theorem finK_eq {γ : Type} (fr : Fr) (bl : List (Nat × Blk)) (n nb' : Nat) (kn : Known) (i : Nat) (v : V) (nw : List (Nat × Blk)) (wr : List (Nat × List C)) (see : List Nat) (rs : List (Nat × RS)) (k : RG → Tree γ) :
    finK fr bl n nb' kn i v nw wr see rs k = k ⟨fr, ⟨nw ++ putAll wr bl, nb', kn⟩, (i, ⟨v, n, nb', nw, wr, see⟩) :: rs⟩ := by
  unfold finK
  split
  · simp [natsF_eq, putAll]
  · simp [blksF_eq, wrF_eq, natsF_eq]
def C.noDigit : C → Bool
  | .int k _ => !kindSame k .u32
  | .abs .. => false
  | _ => true
theorem noDigit_den {I : Interp} {ρ : Env} {β : Nat → Nat} {c : C} (h : c.noDigit = true) (d : Int) : c.den I ρ β ≠ .int .u32 d := by
  cases c <;> simp only [C.noDigit, Bool.not_eq_true', Bool.false_eq_true] at h <;> simp only [C.den] <;> intro e <;> first | (cases e; done) | skip
  · injection e with e1 e2
    subst e1
    cases h
  · exact I.opq.dig _ _ e
  · unfold ifcDen at e
    split at e <;> cases e
def regStep {γ : Type} (P : Program) (call : CallT) (ops : Array Oper) (ds : List (Nat × Nat × Nat)) (m i : Nat) (o : Oper) (g : RG) (k : RG → Tree γ) : Tree γ := match g with
  | ⟨fr, ⟨bl, n, kn⟩, rs⟩ =>
    wantT ops (evR ds i m fr) kn o.guard fun w kn => match w with
    | false => setFK fr o.dst .undef fun fr => k ⟨fr, ⟨bl, n, kn⟩, (i, ⟨.undef, n, n, [], [], []⟩) :: rs⟩
    | true =>
      filtK (fun x => !bit m x.1) rs fun un =>
      filtK (fun p => !hidden un p.1) (seenBlks (evR ds i m fr) bl o.op) fun T =>
      bindK (runT P call (evR ds i m fr) o.op ⟨T, n, kn⟩) kn fun r kn => match diffs r.2.blks T with
        | none => .bad
        | some wr =>
          filtK (fun p => Nat.ble n p.1) r.2.blks fun nw => natF r.2.nb fun nb' =>
          bif r.1.wf nb' && (Nat.ble n nb' && ((nw.all fun p => Nat.blt p.1 nb' && avoids un (idsOf p.2.cells)) && (avoids un r.1.ids && ((wr.all fun q => avoids un (idsOf q.2)) && ((un.all fun x => wr.all fun q => !x.2.see.any fun id => Nat.beq id q.1) && ((nw.all (fun p => !p.2.isOpq) || bl.all (fun p => p.2.isOpq || T.any (fun q => Nat.beq q.1 p.1))) && ((nw.all (fun p => p.2.isOpq || p.2.cells.all C.noDigit) || un.all (fun x => x.2.nw.all fun p => !p.2.isOpq)) && ((wr.all (fun q => q.2.all C.noDigit) || bl.all (fun p => !p.2.isOpq)) && wr.all fun q => T.all fun p => !Nat.beq p.1 q.1 || !p.2.dead)))))))) then
            r.1.force fun v => setFK fr o.dst v fun fr => finK fr bl n nb' kn i v nw wr (T.map (·.1)) rs k
          else .bad
def regLoop (P : Program) (call : CallT) (ops : Array Oper) (pm : List Nat) (ds : List (Nat × Nat × Nat)) : Nat → List Oper → RG → Tree F
  | _, [], g => .leaf ⟨g.fr, g.s⟩
  | i, o :: r, g => regStep P call ops ds (pm.getD i 0) i o g fun g' => natF (i + 1) fun j => regLoop P call ops pm ds j r g'
def dsF {α : Type} : List (Nat × Nat × Nat) → (List (Nat × Nat × Nat) → α) → α
  | [], k => k []
  | (a, b, c) :: r, k => natF a fun a => natF b fun b => natF c fun c => dsF r fun r => k ((a, b, c) :: r)
theorem dsF_eq {α : Type} (l : List (Nat × Nat × Nat)) : ∀ k : List (Nat × Nat × Nat) → α, dsF l k = k l := by
  induction l with
  | nil => intro k; rfl
  | cons p r ih => intro k; obtain ⟨a, b, c⟩ := p; simp [dsF, natF_eq, ih]
def drawT (P : Program) (call : CallT) (ops : Array Oper) (f : F) : Tree F :=
  masksK ops.toList [] fun pm => dsF (dstsOf pm 0 ops.toList) fun ds =>
  bif regionOkG ops && (distinctD ds && ds.all fun p => Nat.blt p.2.1 f.fr.sz) then regLoop P call ops pm ds 0 ops.toList ⟨f.fr, f.s, []⟩ else .bad
section
variable {I : Interp} {ρ : Env} {β β' : Nat → Nat}
theorem fnSame_eq {a b : Fn} (h : fnSame a b = true) : a = b := by
  cases a <;> cases b <;> simp [fnSame] at h
  rw [h]
theorem capsSame_eq : ∀ {a b : List (Nat × Nat)}, capsSame a b = true → a = b
  | [], [], _ => rfl
  | (a, b) :: r, (c, d) :: q, h => by
    simp only [capsSame, Bool.and_eq_true, Nat.beq_eq] at h
    rw [h.1, h.2.1, capsSame_eq h.2.2]
  | [], _ :: _, h | _ :: _, [], h => by cases h
theorem bytesSame_eq {a b : ByteArray} (h : bytesSame a b = true) : a = b := by
  obtain ⟨⟨x⟩⟩ := a
  obtain ⟨⟨y⟩⟩ := b
  simp only [bytesSame, beq_iff_eq] at h
  rw [h]
theorem C.same_eq {a b : C} (h : a.same b = true) : a = b := by
  cases a <;> cases b <;> simp only [C.same, Bool.and_eq_true, Nat.beq_eq, Bool.false_eq_true] at h
  · rw [kindSame_eq h.1, T.same_eq h.2]
  · rw [B.same_eq _ _ h]
  · rw [h.1, h.2]
  · rfl
  · rw [h.1, h.2.1, h.2.2.1, h.2.2.2]
  · rfl
  · rw [fnSame_eq h.1, capsSame_eq h.2]
  · rw [bytesSame_eq h]
  · rfl
  · rw [h.1, T.same_eq h.2]
  · rw [h]
  · rw [h.1, boolSame_eq h.2.1, p0sSame_eq h.2.2]
  · rw [h]
  · rfl
  · rw [h.1, h.2.1, h.2.2.1, h.2.2.2.1, h.2.2.2.2]
theorem cellsSame_eq : ∀ {a b : List C}, cellsSame a b = true → a = b
  | [], [], _ => rfl
  | a :: r, b :: q, h => by
    simp only [cellsSame, Bool.and_eq_true] at h
    rw [C.same_eq h.1, cellsSame_eq h.2]
  | [], _ :: _, h | _ :: _, [], h => by cases h
theorem C.den_ids {c : C} (h : ∀ id ∈ c.ids, β' id = β id) : c.den I ρ β' = c.den I ρ β := by
  cases c <;> simp only [C.ids, List.mem_singleton, List.mem_map] at h <;> simp only [C.den]
  · rw [h _ rfl]
  · rw [h _ rfl]
  · congr 2
    exact List.map_congr_left fun p hp => by rw [h p.1 ⟨p, hp, rfl⟩]
  · rw [h _ rfl]
  · rw [h _ rfl]
  · rw [h _ (.head _), h _ (.tail _ (.head _))]
theorem cellsOf_ids {cs : List C} (h : ∀ id ∈ idsOf cs, β' id = β id) : cellsOf I ρ β' cs = cellsOf I ρ β cs := by
  unfold cellsOf
  congr 1
  exact List.map_congr_left fun c hc => C.den_ids fun id hid => h id (List.mem_flatMap.2 ⟨c, hc, hid⟩)
theorem RowP.ids {w : World} {id : Nat} {b : Blk} (hid : β' id = β id) (hc : ∀ x ∈ idsOf b.cells, β' x = β x) (h : RowP I ρ β w id b) : RowP I ρ β' w id b := by
  unfold RowP at *
  cases ho : opn b.ty with
  | false => rw [ho] at h; simp only at h ⊢; rw [hid, cellsOf_ids hc]; exact h
  | true =>
    rw [ho] at h
    simp only at h ⊢
    rcases h.ex with e | ⟨cid, r, e⟩
    · rw [e]; trivial
    · rw [e] at h hc ⊢
      obtain ⟨a, h1, h2, h3, h4⟩ := h
      exact ⟨a, by rw [hid]; exact h1, by rw [hc cid (by simp [idsOf, C.ids])]; exact h2, h3.trans (List.map_congr_left fun c hm => (C.den_ids fun x hx => hc x (List.mem_flatMap.2 ⟨c, .tail _ hm, hx⟩)).symm), h4⟩
theorem V.den_ids {v : V} (h : ∀ id ∈ v.ids, β' id = β id) : v.den I ρ β' = v.den I ρ β := by
  cases v with
  | c x => exact C.den_ids h
  | agg cs => simp only [V.den, cellsOf_ids h]
  | tup vs =>
    simp only [V.den]
    congr 2
    refine List.map_congr_left fun p hp => ?_
    have hc : ∀ id ∈ idsOf p.2, β' id = β id := fun id hid => h id (List.mem_flatMap.2 ⟨p, hp, hid⟩)
    obtain ⟨b, cs⟩ := p
    unfold partOf
    split
    · rename_i c r e
      obtain ⟨rfl, rfl⟩ := Prod.mk.inj e
      exact C.den_ids fun id hid => hc id (List.mem_flatMap.2 ⟨c, .head _, hid⟩)
    · rename_i cs' e; obtain ⟨rfl, rfl⟩ := Prod.mk.inj e; simp only [cellsOf_ids hc]
  | any _ => rfl
theorem C.ids_wf {c : C} {n : Nat} : c.wf n = true ↔ ∀ id ∈ c.ids, id < n := by
  cases c <;> simp [C.wf, C.ids]
theorem idsOf_wf {cs : List C} {n : Nat} : (∀ c ∈ cs, c.wf n = true) ↔ ∀ id ∈ idsOf cs, id < n := by
  constructor
  · intro h id hid
    obtain ⟨c, hc, hi⟩ := List.mem_flatMap.1 hid
    exact C.ids_wf.1 (h c hc) id hi
  · intro h c hc
    exact C.ids_wf.2 fun id hid => h id (List.mem_flatMap.2 ⟨c, hc, hid⟩)
theorem V.ids_wf {v : V} {n : Nat} : v.wf n = true ↔ ∀ id ∈ v.ids, id < n := by
  cases v with
  | c x => exact C.ids_wf
  | agg cs => simp only [V.wf, List.all_eq_true]; exact idsOf_wf
  | tup vs =>
    simp only [V.wf, List.all_eq_true, V.ids, List.mem_flatMap]
    constructor
    · rintro h id ⟨p, hp, hid⟩; exact idsOf_wf.1 (h p hp) id hid
    · intro h p hp; exact idsOf_wf.2 fun id hid => h id ⟨p, hp, hid⟩
  | any _ => simp [V.wf, V.ids]
end
end Go.Proofs.Ythkkipkhofkpmaa.Sx

