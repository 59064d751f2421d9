/- Tables of contracts, and worlds that hold lists. -/
import Derived.Test.YtpmdmcdjhibblaaEd6
import Derived.Test.YtpmdmcdjhibblaaEd7
import Derived.Test.YtpmdmcdjhibblaaEd9
set_option linter.all false
set_option autoImplicit false
namespace Go.Proofs.Ytpmdmcdjhibblaa.Sx
open Go Go.RowKit

section
variable {I : Interp} {ρ : Env} {w0 w w' : World} {X : Nat → Prop} {n0 : Nat} {β0 β : Nat → Nat} {s : S}
theorem WR.alike (h : WR I ρ w0 X n0 β0 β s w) (hh : w'.heap = w.heap) (ho : w'.os = w.os) (ht : w'.tape = w.tape) (hp : w'.output = w.output) : WR I ρ w0 X n0 β0 β s w' :=
  ⟨fun p hp => by rw [hh]; exact h.row p hp, h.inj, h.idlt, h.cwf, h.own, h.known, h.n0le, h.agr,
    ⟨ho.trans h.keeps.os, ht.trans h.keeps.tape, hp.trans h.keeps.output, by rw [hh]; exact h.keeps.size, fun g hg hx => by rw [hh]; exact h.keeps.block g hg hx⟩, h.hyp⟩
theorem WR.upd (h : WR I ρ w0 X n0 β0 β s w) {id : Nat} {b : Blk} (hb : (id, b) ∈ s.blks) {cs : List C} (hwf : ∀ c ∈ cs, c.wf s.nb = true) (hu : Upd (β id) (cellsOf I ρ β cs) b.ty w w') :
    WR I ρ w0 X n0 β0 β (s.put id cs) w' := by
  refine (h.put hb hwf).alike ?_ hu.os hu.tape hu.output
  apply Array.ext'
  apply List.ext_getElem?
  intro k
  simp only [Array.getElem?_toList]
  by_cases hk : k = β id
  · subst hk
    rw [hu.row, setRow_heap w (β id) _ _ b.ty (0, 0) (h.row _ hb)]
  · rw [hu.other k hk, setRow_other w (β id) k _ hk]
end
/-- One table, and another. -/
def ctOr (a b : CT) : CT := fun g args s => match a g args s with
  | some t => some t
  | none => b g args s
theorem ctOr_ok {P : Program} {I : Interp} {ρ : Env} {a b : CT} (ha : CTOk P I ρ a) (hb : CTOk P I ρ b) : CTOk P I ρ (ctOr a b) := by
  intro g args s t h
  unfold ctOr at h
  split at h
  · rename_i t' h'
    injection h with h
    subst h
    exact ha g args s _ h'
  · exact hb g args s t h
def V.same : V → V → Bool
  | .c a, .c b => a.same b
  | .agg a, .agg b => cellsSame a b
  | _, _ => false
def vsSame : List V → List V → Bool
  | [], [] => true
  | a :: r, b :: q => a.same b && vsSame r q
  | _, _ => false
theorem V.same_eq {a b : V} (h : a.same b = true) : a = b := by
  cases a <;> cases b <;> simp only [V.same, Bool.false_eq_true] at h
  · rw [C.same_eq h]
  · rw [cellsSame_eq h]
theorem vsSame_eq : ∀ {a b : List V}, vsSame a b = true → a = b
  | [], [], _ => rfl
  | a :: r, b :: q, h => by
    simp only [vsSame, Bool.and_eq_true] at h
    rw [V.same_eq h.1, vsSame_eq h.2]
  | [], _ :: _, h => by cases h
  | _ :: _, [], h => by cases h
structure Ent where
  g : FuncId
  args : List V
  v : V
def entFor (g : FuncId) (args : List V) : List Ent → Option V
  | [] => none
  | e :: r => bif Nat.beq g e.g && vsSame args e.args then some e.v else entFor g args r
theorem entFor_mem {g : FuncId} {args : List V} {v : V} : ∀ {l : List Ent}, entFor g args l = some v → ∃ e ∈ l, e.g = g ∧ e.args = args ∧ e.v = v
  | [], h => by cases h
  | e :: r, h => by
    unfold entFor at h
    cases hb : (Nat.beq g e.g && vsSame args e.args) with
    | true =>
      rw [hb] at h
      injection h with h
      simp only [Bool.and_eq_true] at hb
      exact ⟨e, .head _, (Nat.eq_of_beq_eq_true hb.1).symm, (vsSame_eq hb.2).symm, h⟩
    | false =>
      rw [hb] at h
      obtain ⟨e', h1, h2⟩ := entFor_mem h
      exact ⟨e', .tail _ h1, h2⟩
/-- Calls whose answer is named ahead. -/
def ctL (l : List Ent) : CT := fun g args s => match entFor g args l with
  | some v => some (.leaf (v, s))
  | none => none
theorem ctL_ok {P : Program} {I : Interp} {ρ : Env} {l : List Ent} (hl : ∀ e ∈ l, e.v.wf 0 = true ∧ e.args.all (V.wf 0) = true ∧ ∀ w, Hyp I w (fun _ => False) → Calls P e.g (e.args.map (V.den I ρ id)).toArray w (fun x w' => x = .returned (e.v.den I ρ id) ∧ Below w.heap.size w w')) : CTOk P I ρ (ctL l) := by
  intro g args s t h w0 X n0 β0 β w R ht hw ha
  unfold ctL at h
  split at h
  · rename_i v hv
    injection h with h
    subst h
    obtain ⟨e, he, rfl, rfl, rfl⟩ := entFor_mem hv
    obtain ⟨h1, h2, h3⟩ := hl e he
    have hy : Hyp I w (fun _ => False) := fun p hp => by
      obtain ⟨a1, a2⟩ := hw.hyp p hp
      exact ⟨(hw.keeps.block _ (Array.getElem?_eq_some_iff.1 a1).1 a2).trans a1, id⟩
    have ea : e.args.map (V.den I ρ β) = e.args.map (V.den I ρ id) := List.map_congr_left fun v hv => V.den_none (List.all_eq_true.1 h2 v hv) _ _
    rw [ea]
    refine (h3 w hy).mono fun x w' ⟨hx, hb⟩ => ?_
    subst hx
    rw [V.den_none h1 id β]
    exact ht β w' (hw.below hb) (V.wf_mono (Nat.zero_le _) h1) (Nat.le_refl _) (fun _ _ => rfl)
  · cases h
section
variable {P : Program} {I : Interp} {ρ : Env} {w0 w : World} {X : Nat → Prop} {n0 : Nat} {β0 β : Nat → Nat} {s : S}
theorem ct_leaf1 {g : FuncId} {args : List V} {v : V} {R : Ending → World → Prop}
    (hc : Calls P g (args.map (V.den I ρ β)).toArray w (fun e w' => e = .returned (v.den I ρ β) ∧ Below w.heap.size w w')) (hv : v.wf s.nb = true)
    (ht : ∀ β' w', WR I ρ w0 X n0 β0 β' s w' → v.wf s.nb = true → s.nb ≤ s.nb → (∀ id, id < s.nb → β' id = β id) → R (.returned (v.den I ρ β')) w') (h : WR I ρ w0 X n0 β0 β s w) :
    Calls P g (args.map (V.den I ρ β)).toArray w R :=
  hc.mono fun e w' ⟨he, hb⟩ => by subst he; exact ht β w' (h.below hb) hv (Nat.le_refl _) (fun _ _ => rfl)
end
/-- The functions of an edge, and of an edge and a point, as symbols. -/
def ctE : CT := fun g args s => match args with
  | [.agg [.int .i64 k, .int .i64 ax, .int .i64 ay, .int .i64 bx, .int .i64 by', .int .i64 cx, .int .i64 cy]] =>
    bif Nat.beq g 14 || Nat.beq g 15 then some (.leaf (.c (.int .i64 (.app 4 (tl [k, ax, ay, bx, by', cx, cy]))), s)) else
    bif Nat.beq g 16 || Nat.beq g 17 then some (.leaf (.c (.int .i64 (.app 5 (tl [k, ax, ay, bx, by', cx, cy]))), s)) else none
  | [.agg [.int .i64 k, .int .i64 ax, .int .i64 ay, .int .i64 bx, .int .i64 by', .int .i64 cx, .int .i64 cy], .agg [.int .i64 px, .int .i64 py]] =>
    bif Nat.beq g 25 || Nat.beq g 26 then some (.leaf (.c (.bool (.app 0 (tl [k, ax, ay, bx, by', cx, cy, px, py]))), s)) else
    bif Nat.beq g 27 || Nat.beq g 28 then some (.leaf (.c (.int .i64 (.app 6 (tl [k, ax, ay, bx, by', cx, cy, px, py]))), s)) else none
  | _ => none
/-- The place that a Draw has come to: none for the first, or a symbol of its list. -/
def placeOf (j : Nat) : T → Option Nat
  | .lit (.ofNat 0) => some 0
  | .app f (.cons (.lit (.ofNat k)) .nil) => bif Nat.beq f (2 * j + 1) then some k else none
  | _ => none
def ctN : CT := fun g args s => bif Nat.beq g 33 then match args with
  | [.c (.ptr id 0), .c (.int .i64 (.lit n))] => match s.find id with
    | some ⟨ty, [.abs j .nil, .int .i64 a]⟩ => bif Nat.beq ty 56 && (Nat.blt j 2 && (intLt 0 n && intLt n 1000000)) then
        match placeOf j a with
        | some k => natF j fun j => natF k fun k => some (s.putK id [.abs j .nil, .int .i64 (.app (2 * j + 1) (tl [.lit (.ofNat (k + 1))]))] fun s' => .leaf (.c (.int .i64 (.app (2 * j) (tl [.lit (.ofNat k), .lit n]))), s'))
        | none => none
      else none
    | _ => none
  | _ => none
  else none
/-- Motions, applied: by mirrored ones, and by others. -/
def ctA : CT := fun g args s => bif Nat.beq g 40 || Nat.beq g 29 then match args with
  | [.agg [.int .i64 x, .int .i64 y, .int .i64 t, .bool m], .agg [.int .i64 a, .int .i64 b]] => some (withB m s fun v s => match v with
    | true => .leaf (.agg [.int .i64 (.app 7 (tl [x, t, a, b])), .int .i64 (.app 8 (tl [y, t, a, b]))], s)
    | false => .leaf (.agg [.int .i64 (.app 9 (tl [x, t, a, b])), .int .i64 (.app 10 (tl [y, t, a, b]))], s))
  | _ => none
  else none

/-- All blocks of a world. -/
def fixedOf (W : World) : List (Nat × Obj) := (List.range W.heap.size).filterMap fun k => (W.heap[k]?).map fun o => (k, o)
theorem mem_fixed {W : World} {k : Nat} {o : Obj} : (k, o) ∈ fixedOf W ↔ W.heap[k]? = some o := by
  unfold fixedOf
  simp only [List.mem_filterMap, List.mem_range, Option.map_eq_some_iff, Prod.mk.injEq]
  constructor
  · rintro ⟨j, -, o', h, rfl, rfl⟩; exact h
  · intro h; exact ⟨k, (Array.getElem?_eq_some_iff.1 h).1, o, h, rfl, rfl⟩
theorem hyp_fixed {I : Interp} {W : World} (hI : I.fixed = fixedOf W) : Hyp I W (fun _ => False) := fun p hp => by
  rw [hI] at hp
  exact ⟨mem_fixed.1 hp, id⟩
/-- A list that comes in: where it stands, how much room there is, what it holds. -/
structure Ls where
  p : Option Addr
  cap : Nat
  zs : List Int
def Ls.v (l : Ls) : Value := .slice l.p l.zs.length l.cap
def Ls.Ok (l : Ls) (W : World) : Prop := I64s W.heap.size W l.v l.zs
theorem Ls.spec {l : Ls} {W : World} (h : l.Ok W) : l.zs.length ≤ maxLen ∧ (0 < l.zs.length → ∃ b off, l.p = some ⟨b, off, none⟩ ∧ b < W.heap.size ∧ ∀ j, j < l.zs.length → W.cell? ⟨b, off + j, none⟩ = some (.int .i64 (l.zs[j]?.getD 0))) := by
  obtain ⟨p, cap, e, h1, h2⟩ := h
  unfold Ls.v at e
  injection e with e1 e2 e3
  subst e1
  exact ⟨h1, h2⟩
def oneL (l0 l1 : Ls) (j : Nat) : Ls := match j with | 0 => l0 | _ => l1
/-- What the symbols mean. -/
def fiL (l0 l1 : Ls) (f : Nat) (a : List Int) : Int := match f, a with
  | 0, [k, n] => drawV l0.zs k.toNat n
  | 1, [k] => drawA l0.zs k.toNat
  | 2, [k, n] => drawV l1.zs k.toNat n
  | 3, [k] => drawA l1.zs k.toNat
  | 4, [k, ax, ay, bx, by', cx, cy] => checkZ k ax ay bx by' cx cy
  | 5, [k, ax, ay, bx, by', cx, cy] => radiusZ k ax ay bx by' cx cy
  | 6, [k, ax, ay, bx, by', cx, cy, px, py] => rayZ k ax ay bx by' cx cy px py
  | 7, [x, t, a, b] => apX x t true a b
  | 8, [y, t, a, b] => apY y t true a b
  | 9, [x, t, a, b] => apX x t false a b
  | 10, [y, t, a, b] => apY y t false a b
  | _, _ => 0
def fbL (f : Nat) (a : List Int) : Bool := match f, a with
  | 0, [k, ax, ay, bx, by', cx, cy, px, py] => decide (onP k ax ay bx by' cx cy px py)
  | _, _ => false
def IL (W : World) (l0 l1 : Ls) : Interp := ⟨fiL l0 l1, fbL, fun f _ => (oneL l0 l1 f).v, fixedOf W, fun f l => by unfold oneL Ls.v; exact ⟨(fun _ h => nomatch h), (fun _ h => nomatch h)⟩⟩
section
variable {W : World} {l0 l1 : Ls}
theorem ctE_ok (ρ : Env) : CTOk Try.prog (IL W l0 l1) ρ ctE := by
  intro g args s t h w0 X n0 β0 β w R ht hw ha
  unfold ctE at h
  split at h
  · rename_i k ax ay bx by' cx cy
    cases h1 : (Nat.beq g 14 || Nat.beq g 15) with
    | true =>
      rw [h1] at h
      injection h with h
      subst h
      simp only [Bool.or_eq_true] at h1
      refine ct_leaf1 ?_ rfl ht hw
      rcases h1 with h1 | h1 <;> (have := Nat.eq_of_beq_eq_true h1; subst this)
      · exact vcheck_c _ _ _ _ _ _ _ w
      · exact rcheck_c _ _ _ _ _ _ _ w
    | false =>
      rw [h1] at h
      simp only [cond_false] at h
      cases h2 : (Nat.beq g 16 || Nat.beq g 17) with
      | true =>
        rw [h2] at h
        injection h with h
        subst h
        simp only [Bool.or_eq_true] at h2
        refine ct_leaf1 ?_ rfl ht hw
        rcases h2 with h1 | h1 <;> (have := Nat.eq_of_beq_eq_true h1; subst this)
        · exact vrad_c _ _ _ _ _ _ _ w
        · exact rrad_c _ _ _ _ _ _ _ w
      | false => rw [h2] at h; cases h
  · rename_i k ax ay bx by' cx cy px py
    cases h1 : (Nat.beq g 25 || Nat.beq g 26) with
    | true =>
      rw [h1] at h
      injection h with h
      subst h
      simp only [Bool.or_eq_true] at h1
      refine ct_leaf1 ?_ rfl ht hw
      rcases h1 with h1 | h1 <;> (have := Nat.eq_of_beq_eq_true h1; subst this)
      · exact von_c _ _ _ _ _ _ _ _ _ w
      · exact ron_c _ _ _ _ _ _ _ _ _ w
    | false =>
      rw [h1] at h
      simp only [cond_false] at h
      cases h2 : (Nat.beq g 27 || Nat.beq g 28) with
      | true =>
        rw [h2] at h
        injection h with h
        subst h
        simp only [Bool.or_eq_true] at h2
        refine ct_leaf1 ?_ rfl ht hw
        rcases h2 with h1 | h1 <;> (have := Nat.eq_of_beq_eq_true h1; subst this)
        · exact vray_c _ _ _ _ _ _ _ _ _ w
        · exact rray_c _ _ _ _ _ _ _ _ _ w
      | false => rw [h2] at h; cases h
  · cases h
theorem ctA_ok (ρ : Env) : CTOk Try.prog (IL W l0 l1) ρ ctA := by
  intro g args s t h w0 X n0 β0 β w R ht hw ha
  unfold ctA at h
  cases h1 : (Nat.beq g 40 || Nat.beq g 29) with
  | false => rw [h1] at h; cases h
  | true =>
    rw [h1] at h
    simp only [cond_true] at h
    split at h
    · rename_i x y t m a b
      injection h with h
      subst h
      obtain ⟨s', hw', hnb, hbl, ht⟩ := withB_ok hw ht
      have hc : ∀ w, Calls Try.prog g #[.agg #[.int .i64 (x.den (IL W l0 l1) ρ), .int .i64 (y.den (IL W l0 l1) ρ), .int .i64 (t.den (IL W l0 l1) ρ), .bool (m.den (IL W l0 l1) ρ)], .agg #[.int .i64 (a.den (IL W l0 l1) ρ), .int .i64 (b.den (IL W l0 l1) ρ)]] w
          (fun e w' => e = .returned (.agg #[.int .i64 (apX (x.den (IL W l0 l1) ρ) (t.den (IL W l0 l1) ρ) (m.den (IL W l0 l1) ρ) (a.den (IL W l0 l1) ρ) (b.den (IL W l0 l1) ρ)), .int .i64 (apY (y.den (IL W l0 l1) ρ) (t.den (IL W l0 l1) ρ) (m.den (IL W l0 l1) ρ) (a.den (IL W l0 l1) ρ) (b.den (IL W l0 l1) ρ))]) ∧ Below w.heap.size w w') := by
        intro w
        simp only [Bool.or_eq_true] at h1
        rcases h1 with h1 | h1 <;> (have := Nat.eq_of_beq_eq_true h1; subst this)
        · exact vapply_c _ _ _ _ _ _ w
        · exact rapply_c _ _ _ _ _ _ w
      refine (hc w).mono fun e w' ⟨he, hb⟩ => ?_
      subst he
      have hw2 := hw'.below hb
      cases hm : m.den (IL W l0 l1) ρ with
      | true =>
        rw [hm] at ht
        exact ht β w' hw2 rfl (by show s.nb ≤ s'.nb; omega) (fun _ _ => rfl)
      | false =>
        rw [hm] at ht
        exact ht β w' hw2 rfl (by show s.nb ≤ s'.nb; omega) (fun _ _ => rfl)
    · cases h
theorem placeOf_spec {ρ : Env} {j : Nat} (hj : j < 2) {a : T} {k : Nat} (h : placeOf j a = some k) : a.den (IL W l0 l1) ρ = drawA (oneL l0 l1 j).zs k := by
  unfold placeOf at h
  split at h
  · injection h with h; subst h; simp [T.den_lit, drawA]
  · rename_i f k'
    cases hb : Nat.beq f (2 * j + 1) with
    | false => rw [hb] at h; cases h
    | true =>
      rw [hb] at h
      injection h with h
      subst h
      have := Nat.eq_of_beq_eq_true hb
      subst this
      rw [T.den_app, T.dens_cons, T.dens_nil, T.den_lit]
      obtain rfl | rfl : j = 0 ∨ j = 1 := by omega
      · rfl
      · rfl
  · cases h
theorem ctN_ok (h0 : l0.Ok W) (h1 : l1.Ok W) (ρ : Env) : CTOk Try.prog (IL W l0 l1) ρ ctN := by
  intro g args s t h w0 X n0 β0 β w R ht hw ha
  unfold ctN at h
  cases hg : Nat.beq g 33 with
  | false => rw [hg] at h; cases h
  | true =>
    have := Nat.eq_of_beq_eq_true hg
    subst this
    rw [hg] at h
    simp only [cond_true] at h
    split at h
    · rename_i id n
      split at h
      · rename_i ty j a hf
        cases hc : (Nat.beq ty 56 && (Nat.blt j 2 && (intLt 0 n && intLt n 1000000))) with
        | false => rw [hc] at h; cases h
        | true =>
          rw [hc] at h
          simp only [cond_true] at h
          simp only [Bool.and_eq_true, Nat.blt_eq, intLt_eq, decide_eq_true_eq] at hc
          obtain ⟨hty, hj, hn1, hn2⟩ := hc
          have := Nat.eq_of_beq_eq_true hty
          subst this
          split at h
          · rename_i k hk
            simp only [natF_eq, Option.some.injEq] at h
            subst h
            rw [S.putK_eq] at ht
            have hb := findIn_mem hf
            have hrow := hw.row _ hb
            have hok : (oneL l0 l1 j).Ok W := by
              obtain rfl | rfl : j = 0 ∨ j = 1 := by omega
              · exact h0
              · exact h1
            obtain ⟨q1, q2⟩ := Ls.spec hok
            have hcell : cellsOf (IL W l0 l1) ρ β [.abs j .nil, .int .i64 a] = #[(oneL l0 l1 j).v, .int .i64 (drawA (oneL l0 l1 j).zs k)] := by
              simp only [cellsOf, List.map_cons, List.map_nil, C.den, placeOf_spec hj hk]
              rfl
            have hcell2 : cellsOf (IL W l0 l1) ρ β [.abs j .nil, .int .i64 (.app (2 * j + 1) (tl [.lit (.ofNat (k + 1))]))] = #[(oneL l0 l1 j).v, .int .i64 (drawA (oneL l0 l1 j).zs (k + 1))] := by
              simp only [cellsOf, List.map_cons, List.map_nil, C.den, tl, T.den_app, T.dens_cons, T.dens_nil, T.den_lit]
              obtain rfl | rfl : j = 0 ∨ j = 1 := by omega
              · rfl
              · rfl
            have hval : (T.app (2 * j) (tl [.lit (.ofNat k), .lit n])).den (IL W l0 l1) ρ = drawV (oneL l0 l1 j).zs k n := by
              simp only [tl, T.den_app, T.dens_cons, T.dens_nil, T.den_lit]
              obtain rfl | rfl : j = 0 ∨ j = 1 := by omega
              · rfl
              · rfl
            rw [hcell] at hrow
            have hcall := next_c (oneL l0 l1 j).p (oneL l0 l1 j).zs k (oneL l0 l1 j).cap (β id) n w q1 hn1 (by omega) (fun hz => by
              obtain ⟨b, off, e, hb1, hb2⟩ := q2 hz
              obtain ⟨o, ho⟩ : ∃ o, W.heap[b]? = some o := ⟨_, Array.getElem?_eq_getElem hb1⟩
              obtain ⟨e1, e2⟩ := hw.hyp (b, o) (mem_fixed.2 ho)
              have hlt := (Array.getElem?_eq_some_iff.1 e1).1
              have e3 : w.heap[b]? = W.heap[b]? := (hw.keeps.block b hlt e2).trans (e1.trans ho.symm)
              refine ⟨b, off, e, fun eb => ?_, fun i hi => (World.cell?_of_block (a := ⟨b, off + i, none⟩) e3).trans (hb2 i hi)⟩
              rcases hw.own _ hb with x | x
              · exact e2 (by rw [eb]; exact x)
              · simp only at x hlt; omega) hrow
            refine hcall.mono fun e w' ⟨he, hu⟩ => ?_
            subst he
            have hu : Upd (β id) (cellsOf (IL W l0 l1) ρ β [.abs j .nil, .int .i64 (.app (2 * j + 1) (tl [.lit (.ofNat (k + 1))]))]) TD w w' := by rw [hcell2]; exact hu
            have hwf : ∀ c ∈ [C.abs j .nil, .int .i64 (.app (2 * j + 1) (tl [.lit (.ofNat (k + 1))]))], c.wf s.nb = true := by
              intro c hc
              simp only [List.mem_cons, List.not_mem_nil, or_false] at hc
              rcases hc with rfl | rfl <;> rfl
            have := ht β w' (hw.upd hb hwf hu) rfl (Nat.le_refl _) (fun _ _ => rfl)
            simp only [V.den, C.den, hval] at this
            exact this
          · cases h
      · cases h
    · cases h
/-- All of them. -/
def ctM : CT := ctOr ctA (ctOr ctN ctE)
theorem ctM_ok (h0 : l0.Ok W) (h1 : l1.Ok W) (ρ : Env) : CTOk Try.prog (IL W l0 l1) ρ ctM := ctOr_ok (ctA_ok ρ) (ctOr_ok (ctN_ok h0 h1 ρ) (ctE_ok ρ))
end
/-- Of all leaves, a check. -/
def leavesOk (p : V → Bool) : Tree V → Bool
  | .leaf v => p v
  | .node _ x y => leavesOk p x && leavesOk p y
  | .bad => false
theorem leavesOk_vc {I : Interp} {ρ : Env} {p : V → Bool} : ∀ {t : Tree V}, leavesOk p t = true → t.vc I ρ (fun v => p v = true)
  | .leaf v, h => h
  | .node _ x y, h => by
    simp only [leavesOk, Bool.and_eq_true] at h
    exact ⟨fun _ => leavesOk_vc h.1, fun _ => leavesOk_vc h.2⟩
  | .bad, h => by cases h
theorem Tree.vc_ex {α : Type} {I : Interp} {ρ : Env} {Φ : α → Prop} : ∀ {t : Tree α}, t.vc I ρ Φ → ∃ a, t.sel I ρ = some a ∧ Φ a
  | .leaf a, h => ⟨a, rfl, h⟩
  | .node b x y, h => by
    cases hb : b.den I ρ with
    | true =>
      obtain ⟨a, h1, h2⟩ := Tree.vc_ex (h.1 hb)
      exact ⟨a, by simp [Tree.sel, hb, h1], h2⟩
    | false =>
      obtain ⟨a, h1, h2⟩ := Tree.vc_ex (h.2 hb)
      exact ⟨a, by simp [Tree.sel, hb, h1], h2⟩
  | .bad, h => h.elim
/-- A function hands back some value that is good, the same in all worlds. -/
theorem calls_ex {P : Program} {I : Interp} {ρ : Env} (hm : P.follows .mixedOrders = true) (hN : NoCount P) {ct : CT} (hct : CTOk P I ρ ct) {n : Nat} {g : FuncId} {args : List V} {k : Known} {L : Tree V} {G : Value → Prop}
    (hk : k.Ok I ρ) (hwf : (args.all (V.wf 0)) = true) (hL : vals (execF P ct n g args ⟨[], 0, k⟩) = L) (hv : L.vc I ρ (fun v => v.wf 0 = true ∧ G (v.den I ρ id))) :
    ∃ r, G r ∧ ∀ w, Hyp I w (fun _ => False) → Calls P g (args.map (V.den I ρ id)).toArray w (fun e w' => e = .returned r ∧ Below w.heap.size w w') := by
  rw [← hL, vals_vc] at hv
  obtain ⟨⟨v, s⟩, h1, h2, h3⟩ := Tree.vc_ex hv
  refine ⟨_, h3, fun w hh => ?_⟩
  refine execF_ok hm hN hct n g args ⟨[], 0, k⟩ w (fun _ => False) 0 id id w _ (Tree.vc_sel h1 ?_) ⟨(fun _ h => nomatch h), (fun _ h => nomatch h), (fun _ h => nomatch h), (fun _ h => nomatch h), (fun _ h => nomatch h), hk, Nat.le_refl _, fun _ _ => rfl, Keeps.refl _ _, hh⟩ (fun v hv => List.all_eq_true.1 hwf v hv)
  intro β' w' hb _ _ _
  exact ⟨congrArg _ (V.den_none h2 _ _), hb.keeps.below⟩
/-- As calls_lit, with all that is known. -/
theorem calls_litD {P : Program} {I : Interp} {ρ : Env} (hm : P.follows .mixedOrders = true) (hN : NoCount P) {ct : CT} (hct : CTOk P I ρ ct) {n : Nat} {g : FuncId} {args : List V} {k : Known} {L : Tree V} {w : World} {r : Value}
    (hh : Hyp I w fun _ => False) (hk : k.Ok I ρ) (hwf : (args.all (V.wf 0)) = true) (hL : vals (execF P ct n g args ⟨[], 0, k⟩) = L) (hv : L.vc I ρ (fun v => v.wf 0 = true ∧ v.den I ρ id = r)) :
    Calls P g (args.map (V.den I ρ id)).toArray w (fun e w' => e = .returned r ∧ Below w.heap.size w w') := by
  obtain ⟨r', e, h⟩ := calls_ex (G := fun x => x = r) hm hN hct hk hwf hL hv
  subst e
  exact h w hh
theorem Tree.vc_and {α : Type} {I : Interp} {ρ : Env} {Φ Ψ : α → Prop} : ∀ {t : Tree α}, t.vc I ρ Φ → t.vc I ρ Ψ → t.vc I ρ (fun a => Φ a ∧ Ψ a)
  | .leaf _, h, k => ⟨h, k⟩
  | .node _ _ _, h, k => ⟨fun hb => Tree.vc_and (h.1 hb) (k.1 hb), fun hb => Tree.vc_and (h.2 hb) (k.2 hb)⟩
  | .bad, h, _ => h.elim
/-- A number of ours, within bounds. -/
def inB (k : Known) (t : T) (lo hi : Int) : Bool := t.ivK k fun i => leO (some lo) i.lo && leO i.hi (some hi)
theorem inB_ok {I : Interp} {ρ : Env} {k : Known} (hk : k.Ok I ρ) {t : T} {lo hi : Int} (h : inB k t lo hi = true) : lo ≤ t.den I ρ ∧ t.den I ρ ≤ hi := by
  unfold inB at h
  rw [T.ivK_eq] at h
  simp only [Bool.and_eq_true] at h
  obtain ⟨a, b, e1, e2, h1⟩ := leO_ok h.1
  obtain ⟨c, d, e3, e4, h2⟩ := leO_ok h.2
  have := T.iv_ok hk t
  injection e1 with e1
  injection e4 with e4
  have := this.1 b e2
  have := (T.iv_ok hk t).2 c e3
  omega
theorem draws_ok {W : World} {l0 l1 : Ls} {ρ : Env} {l : List (B × Bool)} (hl : ∀ p ∈ l, p.1.den (IL W l0 l1) ρ = p.2) {n : Nat} (hn : ∀ i, i < n → -9223372036854775808 ≤ ρ.i i ∧ ρ.i i ≤ 9223372036854775807) : (⟨l, [0, 2], n⟩ : Known).Ok (IL W l0 l1) ρ := by
  refine ⟨hl, ?_, hn⟩
  intro f hf a n h
  simp only [List.mem_cons, List.not_mem_nil, or_false] at hf
  rcases hf with rfl | rfl
  · exact drawV_in _ _ h
  · exact drawV_in _ _ h
end Go.Proofs.Ytpmdmcdjhibblaa.Sx
