/- Loops whose rounds are not counted: what a round leaves is seen anew. -/
import Derived.Test.YtmoclgpdcnjacaaSxC
set_option linter.all false
set_option autoImplicit false
namespace Go.Proofs.Ytmoclgpdcnjacaa.Sx
open Go Go.RowKit

/- Of the variables below m alone. -/
def T.sta (m : Nat) : T → Bool
  | .lit _ => true
  | .var k => Nat.blt k m
  | .wrap _ a => a.sta m
  | .bin _ a b => a.sta m && b.sta m
  | .app _ a => a.sta m
  | .cons a b => a.sta m && b.sta m
  | .nil => true
def B.sta (m : Nat) : B → Bool
  | .lit _ => true
  | .var _ => true
  | .lt a b => a.sta m && b.sta m
  | .eq a b => a.sta m && b.sta m
  | .not a => a.sta m
  | .and a b => a.sta m && b.sta m
  | .iff a b => a.sta m && b.sta m
  | .app _ a => a.sta m
def P0.sta (m : Nat) : P0 → Bool
  | .int _ t => t.sta m
  | .bool b => b.sta m
def C.sta (m : Nat) : C → Bool
  | .int _ t => t.sta m
  | .bool b => b.sta m
  | .abs _ a => a.sta m
  | .ifc _ _ ps => ps.all (P0.sta m)
  | _ => true
def V.sta (m : Nat) : V → Bool
  | .c x => x.sta m
  | .agg cs => cs.all (C.sta m)
  | .tup vs => vs.all fun p => p.2.all (C.sta m)
  | .any _ => false
/-- Environments that agree below m. -/
structure Same (m : Nat) (ρ ρ' : Env) : Prop where
  i : ∀ k, k < m → ρ'.i k = ρ.i k
  b : ∀ k, ρ'.b k = ρ.b k
section
variable {I : Interp} {ρ ρ' : Env} {m : Nat} {β : Nat → Nat} (h : Same m ρ ρ')
include h
theorem T.dens_sta : ∀ {t : T}, t.sta m = true → t.dens I ρ' = t.dens I ρ
  | .lit _, _ => rfl
  | .var k, ht => by simp only [T.dens, h.i k (by simpa [T.sta] using ht)]
  | .wrap k a, ht => by simp only [T.dens, T.dens_sta (t := a) ht]
  | .bin o a b, ht => by
    simp only [T.sta, Bool.and_eq_true] at ht
    simp only [T.dens, T.dens_sta ht.1, T.dens_sta ht.2]
  | .app f a, ht => by simp only [T.dens, T.dens_sta (t := a) ht]
  | .cons a b, ht => by
    simp only [T.sta, Bool.and_eq_true] at ht
    simp only [T.dens, T.dens_sta ht.1, T.dens_sta ht.2]
  | .nil, _ => rfl
theorem T.den_sta {t : T} (ht : t.sta m = true) : t.den I ρ' = t.den I ρ := by unfold T.den; rw [T.dens_sta h ht]
theorem B.den_sta : ∀ {b : B}, b.sta m = true → b.den I ρ' = b.den I ρ
  | .lit _, _ => rfl
  | .var k, _ => h.b k
  | .lt a b, ht => by
    simp only [B.sta, Bool.and_eq_true] at ht
    simp only [B.den, T.den_sta h ht.1, T.den_sta h ht.2]
  | .eq a b, ht => by
    simp only [B.sta, Bool.and_eq_true] at ht
    simp only [B.den, T.den_sta h ht.1, T.den_sta h ht.2]
  | .not a, ht => by simp only [B.den, B.den_sta (b := a) ht]
  | .and a b, ht => by
    simp only [B.sta, Bool.and_eq_true] at ht
    simp only [B.den, B.den_sta ht.1, B.den_sta ht.2]
  | .iff a b, ht => by
    simp only [B.sta, Bool.and_eq_true] at ht
    simp only [B.den, B.den_sta ht.1, B.den_sta ht.2]
  | .app f a, ht => by simp only [B.den, T.dens_sta h (t := a) ht]
theorem P0.den_sta {p : P0} (hp : p.sta m = true) : p.den I ρ' = p.den I ρ := by
  cases p with
  | int k t => simp only [P0.den, T.den_sta h (t := t) hp]
  | bool b => simp only [P0.den, B.den_sta h (b := b) hp]
theorem C.den_sta {c : C} (hc : c.sta m = true) : c.den I ρ' β = c.den I ρ β := by
  cases c <;> simp only [C.sta] at hc <;> simp only [C.den]
  · rw [T.den_sta h hc]
  · rw [B.den_sta h hc]
  · rw [T.dens_sta h hc]
  · rename_i t ag ps
    have e : ps.map (P0.den I ρ') = ps.map (P0.den I ρ) := List.map_congr_left fun p hp => P0.den_sta h (List.all_eq_true.1 hc p hp)
    unfold ifcDen
    split
    · rename_i p r
      rw [P0.den_sta h (List.all_eq_true.1 hc p (.head _))]
    · rw [e]
theorem cellsOf_sta {cs : List C} (hc : cs.all (C.sta m) = true) : cellsOf I ρ' β cs = cellsOf I ρ β cs := by
  unfold cellsOf
  rw [List.map_congr_left fun c h' => C.den_sta h (List.all_eq_true.1 hc c h')]
theorem V.den_sta {v : V} (hv : v.sta m = true) : v.den I ρ' β = v.den I ρ β := by
  cases v with
  | c x => exact C.den_sta h hv
  | agg cs => simp only [V.den, cellsOf_sta h hv]
  | tup vs =>
    simp only [V.den]
    congr 2
    refine List.map_congr_left fun p hp => ?_
    have hc := List.all_eq_true.1 hv p hp
    obtain ⟨b, cs⟩ := p
    unfold partOf
    split
    · rename_i c r e
      obtain ⟨rfl, rfl⟩ := Prod.mk.inj e
      exact C.den_sta h (List.all_eq_true.1 hc c (.head _))
    · rename_i cs' e; obtain ⟨rfl, rfl⟩ := Prod.mk.inj e; simp only [cellsOf_sta h hc]
  | any _ => cases hv
end
/-- The ints of loops: variables from m on, each with its slot. -/
abbrev Lv := List (Nat × Nat)
def slotOf (k : Nat) : Lv → Option Nat
  | [] => none
  | p :: r => bif Nat.beq p.1 k then some p.2 else slotOf k r
def intV (I : Interp) (ρ : Env) : V → Int
  | .c (.int _ e) => e.den I ρ
  | _ => 0
/-- What the variables stand for behind a round. -/
def newEnv (I : Interp) (ρ : Env) (β : Nat → Nat) (m : Nat) (lv : Lv) (fr : Fr) : Env :=
  ⟨fun k => if k < m then ρ.i k else match slotOf k lv with | some t => intV I ρ (getF fr t) | none => 0, ρ.b, fun t => (getF fr t).den I ρ β⟩
theorem newEnv_same (I : Interp) (ρ : Env) (β : Nat → Nat) (m : Nat) (lv : Lv) (fr : Fr) : Same m ρ (newEnv I ρ β m lv fr) := ⟨fun k hk => if_pos hk, fun _ => rfl⟩
def V.same2 : V → V → Bool
  | .tup [], .tup [] => true
  | a, b => a.same b
theorem V.same2_eq {a b : V} (h : a.same2 b = true) : a = b := by
  unfold V.same2 at h
  split at h
  · rfl
  · exact V.same_eq h
/-- A slot, seen anew. -/
def slotOk (m : Nat) (lv : Lv) (fr fr0 : Fr) (t : Nat) : Bool := match getF fr0 t with
  | .any n => Nat.beq n t
  | .c (.int .i64 (.var k)) => bif Nat.blt k m then V.same2 (.c (.int .i64 (.var k))) (getF fr t) else match slotOf k lv, getF fr t with
    | some t', .c (.int .i64 _) => Nat.beq t' t
    | _, _ => false
  | v => v.sta m && v.same2 (getF fr t)
def allBelow (p : Nat → Bool) : Nat → Bool
  | 0 => true
  | n + 1 => p n && allBelow p n
theorem allBelow_iff {p : Nat → Bool} : ∀ {n : Nat}, allBelow p n = true → ∀ t, t < n → p t = true
  | 0, _, t, h => absurd h (Nat.not_lt_zero _)
  | n + 1, hp, t, h => by
    simp only [allBelow, Bool.and_eq_true] at hp
    rcases Nat.lt_or_ge t n with h' | h'
    · exact allBelow_iff hp.2 t h'
    · rw [show t = n by omega]; exact hp.1
def frOk (m : Nat) (lv : Lv) (fr fr0 : Fr) : Bool := Nat.beq fr.sz fr0.sz && allBelow (slotOk m lv fr fr0) fr0.sz
section
variable {I : Interp} {ρ : Env} {m : Nat} {β : Nat → Nat} {lv : Lv} {fr fr0 : Fr} {df : List Deferred}
theorem slotOk_den {t : Nat} (h : slotOk m lv fr fr0 t = true) : (getF fr0 t).den I (newEnv I ρ β m lv fr) β = (getF fr t).den I ρ β := by
  unfold slotOk at h
  split at h
  · rename_i n e
    have := Nat.eq_of_beq_eq_true h
    subst this
    rw [e]; rfl
  · rename_i k e
    cases hk : Nat.blt k m with
    | true =>
      rw [hk] at h
      simp only [cond_true] at h
      rw [e, V.same2_eq h]
      rw [← V.same2_eq h]
      exact V.den_sta (newEnv_same I ρ β m lv fr) (show V.sta m (.c (.int .i64 (.var k))) = true from hk)
    | false =>
      rw [hk] at h
      simp only [cond_false] at h
      split at h
      · rename_i t' x hs hx
        have := Nat.eq_of_beq_eq_true h
        subst this
        rw [e, hx]
        have hk' : ¬ k < m := fun h' => by rw [show Nat.blt k m = true by simpa using h'] at hk; cases hk
        show Value.int .i64 ((newEnv I ρ β m lv fr).i k) = .int .i64 (x.den I ρ)
        unfold newEnv
        simp only [if_neg hk', hs, hx]
        rfl
      · cases h
  · rename_i v _ _
    simp only [Bool.and_eq_true] at h
    rw [← V.same2_eq h.2]
    exact V.den_sta (newEnv_same I ρ β m lv fr) h.1
theorem frOk_act (h : frOk m lv fr fr0 = true) : actOf df I (newEnv I ρ β m lv fr) β fr0 = actOf df I ρ β fr := by
  simp only [frOk, Bool.and_eq_true] at h
  have e := Nat.eq_of_beq_eq_true h.1
  have hs := allBelow_iff h.2
  unfold actOf
  rw [e]
  congr 2
  exact List.map_congr_left fun t ht => slotOk_den (hs t (List.mem_range.1 ht))
end
/-- The blocks that stay, and a lesser number of names. -/
def stOk (m : Nat) (s s0 : S) : Bool := s0.blks.all fun p => (Nat.blt p.1 s0.nb && (p.2.cells.all (C.wf s0.nb) && p.2.cells.all (C.sta m))) && s.blks.any fun q => Nat.beq q.1 p.1 && (Nat.beq q.2.ty p.2.ty && cellsSame q.2.cells p.2.cells)
section
variable {P : Program} {I : Interp} {ρ ρ' : Env} {w0 w : World} {X : Nat → Prop} {n0 m : Nat} {β0 β : Nat → Nat} {s s0 : S}
theorem stOk_mem (hs : stOk m s s0 = true) {p : Nat × Blk} (hp : p ∈ s0.blks) : p.1 < s0.nb ∧ (∀ c ∈ p.2.cells, c.wf s0.nb = true) ∧ p.2.cells.all (C.sta m) = true ∧ p ∈ s.blks := by
  have := List.all_eq_true.1 hs p hp
  simp only [Bool.and_eq_true] at this
  obtain ⟨⟨h1, h2, h3⟩, h4⟩ := this
  obtain ⟨q, hq, h5⟩ := List.any_eq_true.1 h4
  simp only [Bool.and_eq_true] at h5
  have e1 := Nat.eq_of_beq_eq_true h5.1
  have e2 := Nat.eq_of_beq_eq_true h5.2.1
  have e3 := cellsSame_eq h5.2.2
  have e : q = p := by
    obtain ⟨a, b, c⟩ := q
    obtain ⟨a', b', c'⟩ := p
    simp only at e1 e2 e3
    subst e1 e2 e3
    rfl
  subst e
  exact ⟨by simpa using h1, List.all_eq_true.1 h2, h3, hq⟩
theorem C.num_sta (h : Same m ρ ρ') {c : C} (hc : c.sta m = true) : c.num I ρ' = c.num I ρ := by
  cases c <;> simp only [C.num] <;> exact T.den_sta h hc
theorem WR.renew (h : WR I ρ w0 X n0 β0 β s w) (hs : stOk m s s0 = true) (hn : n0 ≤ s0.nb) (hS : Same m ρ ρ') (hk : s0.known.Ok I ρ') : WR I ρ' w0 X n0 β0 β s0 w := by
  have hc : ∀ p ∈ s0.blks, cellsOf I ρ' β p.2.cells = cellsOf I ρ β p.2.cells := fun p hp => cellsOf_sta hS (stOk_mem hs hp).2.2.1
  have hl : ∀ p ∈ s0.blks, p ∈ s.blks := fun p hp => (stOk_mem hs hp).2.2.2
  refine ⟨fun p hp ho => by rw [hc p hp]; exact h.row p (hl p hp) ho, fun p hp ho q hq => h.inj p (hl p hp) ho q (hl q hq), fun p hp => (stOk_mem hs hp).1, fun p hp => (stOk_mem hs hp).2.1, fun p hp => h.own p (hl p hp), fun p hp ho => ⟨?_, fun q hq => (h.held p (hl p hp) ho).2 q (hl q hq)⟩, fun p hp q hq => h.uniq p (hl p hp) q (hl q hq), hk, hn, h.agr, h.keeps, h.hyp⟩
  have e : numsOf I ρ' p.2.cells = numsOf I ρ p.2.cells := List.map_congr_left fun c hc => C.num_sta hS (List.all_eq_true.1 (stOk_mem hs hp).2.2.1 c hc)
  rw [e]
  exact (h.held p (hl p hp) ho).1
/-- A piece of code, from a state on. -/
theorem code_ok (hm : P.follows .mixedOrders = true) (hN : NoCount P) {ct : CT} (hct : CTOk P I ρ ct) {k : Nat} {c : Code} (hn : noRF c = true) {f : F} {Q : Exit → Act → World → Prop}
    (ht : (execC P (execY P ct k) CY.none c false f).vc I ρ (fun o => ∀ β' w', WR I ρ w0 X n0 β0 β' o.f.s w' → o.f.wf → Q o.e.den (actOf [] I ρ β' o.f.fr) w'))
    (h : WR I ρ w0 X n0 β0 β f.s w) (hw : f.wf) : c.wpIn (RF none) 0 P Q (actOf [] I ρ β f.fr) w := by
  refine execC_ok (I := I) (ρ := ρ) (Z := ⟨n0, β0⟩) hm hN (fun L cy Z hL hcy => execY_ok hm hN hct k L cy Z hL hcy) c false none Q f ⟨I.fixed, w0, X, []⟩ n0 β0 β w ⟨Nat.le_refl _, fun _ _ => rfl⟩ (fun _ h => h) CY.none_ok (fun h => nomatch h) (Tree.vc_mono ?_ ht) h hw
  intro o hp b' β' w' hE hd h' hw'
  rw [show b'.df = [] from hd hn]
  exact hp β' w' (hE.back h') hw'
/-- Behind a round: the same state, of other ints. -/
theorem again {f f0 : F} {lv : Lv} (hf : frOk m lv f.fr f0.fr = true) (hs : stOk m f.s f0.s = true) (hn : n0 ≤ f0.s.nb) (h : WR I ρ w0 X n0 β0 β f.s w) (hk : f0.s.known.Ok I (newEnv I ρ β m lv f.fr)) :
    actOf [] I ρ β f.fr = actOf [] I (newEnv I ρ β m lv f.fr) β f0.fr ∧ WR I (newEnv I ρ β m lv f.fr) w0 X n0 β0 β f0.s w :=
  ⟨(frOk_act hf).symm, h.renew hs hn (newEnv_same I ρ β m lv f.fr) hk⟩
/-- Where a function's walk is put together by hand. -/
def Ends (P : Program) (fn : Func) (R : Ending → World → Prop) (e : Exit) (a : Act) (w : World) : Prop := match e with
  | .normal | .ret => a.defers = [] ∧ ∃ v, (results fn a.tmps).run P w = .ok v w ∧ R (.returned v) w
  | _ => False
theorem calls_split {fn : Func} {c : Code} {g : FuncId} (hf : P.funcs[g]? = some fn) (hcb : fn.body = some c) {args : List V} (hdp : deepOk (startSz fn.ntmps args) = true) {R : Ending → World → Prop}
    (h : c.wpIn (RF none) 0 P (Ends P fn R) (actOf [] I ρ β (fillFr ⟨startSz fn.ntmps args, .nil⟩ 0 args)) w) : Calls P g (args.map (V.den I ρ β)).toArray w R := by
  refine callsIn_wide.1 (callsIn_of_wp_marks (F := Fence.wide) (n := 0) hf hcb trivial ?_ rfl)
  obtain ⟨hsz, hget⟩ := fillFr_spec args ⟨startSz fn.ntmps args, .nil⟩ 0 hdp (by simp [startSz]; omega)
  have hnil : ∀ t, getF ⟨startSz fn.ntmps args, .nil⟩ t = .undef := fun t => by unfold getF; cases Nat.blt t (startSz fn.ntmps args) <;> rfl
  have e : (⟨(args.map (V.den I ρ β)).toArray ++ Array.replicate (fn.ntmps - (args.map (V.den I ρ β)).toArray.size) undef, []⟩ : Act) = actOf [] I ρ β (fillFr ⟨startSz fn.ntmps args, .nil⟩ 0 args) := by
    unfold actOf
    congr 1
    apply Array.ext'
    apply List.ext_getElem
    · simp only [hsz]; simp [startSz]; omega
    · intro j h1 h2
      have hj : j < startSz fn.ntmps args := by simpa [hsz] using h2
      simp only [List.toList_toArray, List.getElem_map, List.getElem_range, hget, hnil]
      by_cases hja : j < args.length
      · rw [if_pos ⟨by omega, by omega⟩]
        simp [List.getElem_append, hja]
      · rw [if_neg (by omega)]
        simp [List.getElem_append, hja, V.den_undef]
  rw [e]
  show c.wpIn (RF none) 0 P _ _ w
  refine wpIn_mono h (fun e a w' hq => ?_)
  cases e with
  | normal =>
    obtain ⟨h1, h2⟩ := hq
    show LeavesInM Fence.wide 0 P fn a.tmps R a.defers .returning w'
    rw [h1]; exact h2
  | ret =>
    obtain ⟨h1, h2⟩ := hq
    show LeavesInM Fence.wide 0 P fn a.tmps R a.defers .returning w'
    rw [h1]; exact h2
  | exit _ => exact hq.elim
  | goto _ => exact hq.elim
  | panic _ => exact hq.elim
  | outgrown => exact hq.elim
/-- What a function hands back, from a state at its end. -/
theorem ends_of_state {fn : Func} {f : F} {R : Ending → World → Prop} {v : V} (h : WR I ρ w0 X n0 β0 β f.s w) (hv : resultsS P f fn.results.toList = some v) (hR : R (.returned (v.den I ρ β)) w) {e : Exit} (he : e = .normal ∨ e = .ret) : Ends P fn R e (actOf [] I ρ β f.fr) w := by
  have := results_ok (fn := fn) h hv
  rcases he with rfl | rfl <;> exact ⟨rfl, _, this, hR⟩
end
/- Codes, one after the other, and what is checked of all leaves. -/
def allOk {α : Type} (p : α → Bool) : Tree α → Bool
  | .leaf a => p a
  | .node _ x y => allOk p x && allOk p y
  | .bad => false
theorem allOk_vc {α : Type} {I : Interp} {ρ : Env} {p : α → Bool} : ∀ {t : Tree α}, allOk p t = true → t.vc I ρ (fun a => p a = true)
  | .leaf _, h => h
  | .node _ _ _, h => by
    simp only [allOk, Bool.and_eq_true] at h
    exact ⟨fun _ => allOk_vc h.1, fun _ => allOk_vc h.2⟩
def execS (P : Program) (callY : CY → CallT) : List Code → F → Tree Out
  | [], f => .leaf ⟨.normal, f⟩
  | c :: r, f => (execC P callY CY.none c false f).bind fun o => match o.e with
    | .normal => execS P callY r o.f
    | _ => .leaf o
def seqs : List Code → Code → Code
  | [], r => r
  | c :: cs, r => .seq c (seqs cs r)
def hasF (l : List (B × Bool)) (p : B × Bool) : Bool := l.any fun q => q.1.same p.1 && q.2 == p.2
theorem hasF_ok {I : Interp} {ρ : Env} {l : List (B × Bool)} (hl : ∀ p ∈ l, p.1.den I ρ = p.2) {p : B × Bool} (h : hasF l p = true) : p.1.den I ρ = p.2 := by
  obtain ⟨q, hq, h⟩ := List.any_eq_true.1 h
  simp only [Bool.and_eq_true, beq_iff_eq] at h
  rw [← B.same_eq _ _ h.1, ← h.2]
  exact hl q hq
def withFirst : Tree Out → (Out → Bool) → Bool
  | .leaf o, k => match o.e with
    | .normal => k o
    | _ => false
  | .node _ x y, k => withFirst x k || withFirst y k
  | .bad, _ => false
theorem withFirst_ex {k : Out → Bool} : ∀ {t : Tree Out}, withFirst t k = true → ∃ o, k o = true
  | .leaf o, h => by
    unfold withFirst at h
    split at h
    · exact ⟨o, h⟩
    · cases h
  | .node _ x y, h => by
    simp only [withFirst, Bool.or_eq_true] at h
    exact h.elim withFirst_ex withFirst_ex
  | .bad, h => by cases h
def anyK {α : Type} (fr : Fr) : List Nat → (Fr → α) → α
  | [], k => k fr
  | t :: r, k => setFK fr (some t) (.any t) fun fr => anyK fr r k
def lvK {α : Type} (fr : Fr) : Lv → (Fr → α) → α
  | [], k => k fr
  | p :: r, k => setFK fr (some p.2) (.c (.int .i64 (.var p.1))) fun fr => lvK fr r k
theorem anyK_ex {k : Fr → Bool} : ∀ {l : List Nat} {fr : Fr}, anyK fr l k = true → ∃ fr, k fr = true
  | [], fr, h => ⟨fr, h⟩
  | t :: r, fr, h => by
    unfold anyK at h
    rw [setFK_eq] at h
    exact anyK_ex h
theorem lvK_ex {k : Fr → Bool} : ∀ {l : Lv} {fr : Fr}, lvK fr l k = true → ∃ fr, k fr = true
  | [], fr, h => ⟨fr, h⟩
  | p :: r, fr, h => by
    unfold lvK at h
    rw [setFK_eq] at h
    exact lvK_ex h
/-- A state like that of a leaf, in which slots may hold anything, and others a loop's ints; a check of it. -/
def genK (dirty : List Nat) (lv : Lv) (kn : Known) (o : Out) (k : F → Bool) : Bool := anyK o.f.fr dirty fun fr => lvK fr lv fun fr => k ⟨fr, ⟨o.f.s.blks, o.f.s.nb, kn⟩⟩
theorem genK_ex {dirty : List Nat} {lv : Lv} {kn : Known} {o : Out} {k : F → Bool} (h : genK dirty lv kn o k = true) : ∃ f, k f = true ∧ f.s.known = kn := by
  obtain ⟨fr, h⟩ := anyK_ex h
  obtain ⟨fr, h⟩ := lvK_ex h
  exact ⟨_, h, rfl⟩
def wfOk (f : F) : Bool := deepOk f.fr.sz && allBelow (fun t => (getF f.fr t).wf f.s.nb) f.fr.sz
theorem wfOk_wf {f : F} (h : wfOk f = true) : f.wf := by
  simp only [wfOk, Bool.and_eq_true] at h
  refine ⟨h.1, fun t => ?_⟩
  by_cases ht : t < f.fr.sz
  · exact allBelow_iff h.2 t ht
  · rw [getF_out (by omega)]; rfl
section
variable {P : Program} {I : Interp} {ρ : Env} {w0 : World} {X : Nat → Prop} {n0 : Nat} {β0 : Nat → Nat}
theorem spine_ok (hm : P.follows .mixedOrders = true) (hN : NoCount P) {ct : CT} (hct : CTOk P I ρ ct) {k : Nat} {r : Code} {Q : Exit → Act → World → Prop} : ∀ {cs : List Code} {f : F} {β : Nat → Nat} {w : World}, cs.all noRF = true →
    (execS P (execY P ct k) cs f).vc I ρ (fun o => ∀ β' w', WR I ρ w0 X n0 β0 β' o.f.s w' → o.f.wf → match o.e with
      | .normal => r.wpIn (RF none) 0 P Q (actOf [] I ρ β' o.f.fr) w'
      | e => Q e.den (actOf [] I ρ β' o.f.fr) w') →
    WR I ρ w0 X n0 β0 β f.s w → f.wf → (seqs cs r).wpIn (RF none) 0 P Q (actOf [] I ρ β f.fr) w
  | [], f, β, w, _, ht, h, hw => ht β w h hw
  | c :: cs, f, β, w, hn, ht, h, hw => by
    simp only [List.all_cons, Bool.and_eq_true] at hn
    simp only [execS, Tree.vc_bind] at ht
    refine wpIn_seq (code_ok hm hN hct (k := k) hn.1 (Tree.vc_mono ?_ ht) h hw)
    rintro ⟨e, f'⟩ hp β' w' h' hw'
    cases e with
    | normal => exact spine_ok hm hN hct hn.2 hp h' hw'
    | ret => exact hp β' w' h' hw'
    | exit id => exact hp β' w' h' hw'
end
end Go.Proofs.Ytmoclgpdcnjacaa.Sx
