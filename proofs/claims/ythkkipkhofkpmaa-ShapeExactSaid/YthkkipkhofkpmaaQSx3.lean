import Derived.Test.YthkkipkhofkpmaaQSx2
set_option linter.all false
set_option autoImplicit false
namespace Go.Proofs.Ythkkipkhofkpmaa.Sx
open Go Go.RowKit
def cOf : Value → Option C
  | .int k n => some (.int k (.lit n))
  | .bool b => some (.bool (.lit b))
  | .string s => some (.str s)
  | .pointer none => some .nilp
  | .slice none 0 0 => some .nils
  | .nilFunc => some .nilf
  | .nilIface => some .nili
  | _ => none
def csOf : List Value → Option (List C)
  | [] => some []
  | v :: r => match cOf v, csOf r with
    | some c, some cs => some (c :: cs)
    | _, _ => none
def vOf : Value → Option V
  | .agg cs => (csOf cs.toList).map .agg
  | .tuple cs => if cs.size = 0 then some .undef else none
  | v => (cOf v).map .c
def V.cells? : V → Option (List C)
  | .c x => some [x]
  | .agg cs => some cs
  | .tup _ => none
  | .any _ => none
section
variable {I : Interp} {ρ : Env} {β : Nat → Nat}
theorem cOf_den {v : Value} {c : C} (h : cOf v = some c) : c.den I ρ β = v := by
  unfold cOf at h
  split at h <;> first | (cases h; done) | (injection h with h; subst h; rfl)
theorem csOf_den : ∀ {l : List Value} {cs : List C}, csOf l = some cs → cs.map (C.den I ρ β) = l
  | [], cs, h => by injection h with h; subst h; rfl
  | v :: r, cs, h => by
    unfold csOf at h
    cases h1 : cOf v with
    | none => rw [h1] at h; simp at h
    | some c =>
      cases h2 : csOf r with
      | none => rw [h1, h2] at h; simp at h
      | some cs' =>
        rw [h1, h2] at h
        injection h with h
        subst h
        simp [cOf_den h1, csOf_den h2]
theorem vOf_den {v : Value} {x : V} (h : vOf v = some x) : x.den I ρ β = v := by
  unfold vOf at h
  split at h
  · rename_i cs
    cases h2 : csOf cs.toList with
    | none => rw [h2] at h; simp at h
    | some cs' =>
      rw [h2] at h
      injection h with h
      subst h
      simp only [V.den, cellsOf, csOf_den h2]
  · rename_i cs
    split at h
    · rename_i h0
      injection h with h
      subst h
      simp only [V.undef, V.den, List.map_nil]
      congr 1
      exact (Array.eq_empty_of_size_eq_zero h0).symm
    · cases h
  · obtain ⟨c, hc, rfl⟩ := Option.map_eq_some_iff.1 h; exact cOf_den hc
theorem cells?_den {x : V} {cs : List C} (h : x.cells? = some cs) : (x.den I ρ β).cells = cellsOf I ρ β cs := by
  cases x with
  | c x => injection h with h; subst h; simp [V.den, C.cells, cellsOf]
  | agg l => injection h with h; subst h; rfl
  | tup _ => cases h
  | any _ => cases h
theorem oneCell'_den (c : C) : (c.den I ρ β).oneCell' = true := by
  have := C.one (I := I) (ρ := ρ) (β := β) c
  cases h : c.den I ρ β <;> simp_all [Value.oneCell']
end
inductive OR where
  | ok (v : V) (s : S)
  | split (b : B)
  | bad
def isRow : TypeDesc → Bool
  | .struct _ | .array _ _ => true
  | _ => false
def sizeT (P : Program) (t : TypeId) : Option Nat := (P.info? t).map (·.size)
def partS (P : Program) (t : TypeId) (cs : List C) (off : Nat) : Option V :=
  match P.underlying t, sizeT P t with
  | some d, some n => match isRow d with
    | true => if off + n ≤ cs.length then some (.agg ((cs.drop off).take n)) else none
    | false => (cs[off]?).map .c
  | _, _ => none
def eqS (P : Program) : Nat → TypeId → V → V → Option B
  | 0, _, _, _ => none
  | d + 1, t, x, y => match P.underlying t, x, y with
    | some (.int _), .c (.int k a), .c (.int l b) => if kindSame k l then some (.mkEq a b) else none
    | some .bool, .c (.bool a), .c (.bool b) => some (.mkIff a b)
    | some .string, .c (.str a), .c (.str b) => some (.lit (a.toList == b.toList))
    | some (.struct _), .agg xs, .agg ys => if P.stoodInHeld t then none else
      (P.fieldsOf t).toList.foldr (fun f r => match r with
        | none => none
        | some r => if f.name = "_" then none else
          match partS P f.type xs f.offset, partS P f.type ys f.offset with
          | some a, some b => match eqS P d f.type a b with
            | some q => some (B.mkAnd q r)
            | none => none
          | _, _ => none) (some (.lit true))
    | some (.array n e), .agg xs, .agg ys => match sizeT P e with
      | none => none
      | some c => (List.range n).foldr (fun i r => match r with
        | none => none
        | some r =>
          match partS P e xs (i * c), partS P e ys (i * c) with
          | some a, some b => match eqS P d e a b with
            | some q => some (B.mkAnd q r)
            | none => none
          | _, _ => none) (some (.lit true))
    | _, _, _ => none
section
variable {P : Program} {I : Interp} {ρ : Env} {β : Nat → Nat}
theorem run_isAgg {t : TypeId} {d : TypeDesc} (hu : P.underlying t = some d) (w : World) : (isAgg t).run P w = .ok (isRow d) w := by
  unfold isAgg
  rw [Sem.run_bind, run_underlying hu w]
  cases d <;> rfl
theorem run_size {t : TypeId} {n : Nat} (h : sizeT P t = some n) (w : World) : (sizeOf t).run P w = .ok n w := by
  unfold sizeT at h
  cases hi : P.info? t with
  | none => rw [hi] at h; cases h
  | some i =>
    rw [hi] at h
    injection h with h
    simp [sizeOf, typeInfo, hi, h]
theorem cellsOf_extract (cs : List C) (off n : Nat) : (cellsOf I ρ β cs).extract off (off + n) = cellsOf I ρ β ((cs.drop off).take n) := by
  unfold cellsOf
  apply Array.ext'
  simp [List.extract_eq_take_drop, List.map_take, List.map_drop]
theorem partS_run {t : TypeId} {cs : List C} {off : Nat} {x : V} (h : partS P t cs off = some x) (w : World) : (part t (cellsOf I ρ β cs) off).run P w = .ok (x.den I ρ β) w := by
  unfold partS at h
  split at h
  · rename_i d n hu hn
    split at h
    · rename_i hr
      split at h
      · injection h with h
        subst h
        simp only [part, Sem.run_bind, run_isAgg hu, Result.andThen_ok, hr, if_true, run_size hn, Sem.run_pure, cellsOf_extract]
        rfl
      · cases h
    · rename_i hr
      cases hc : cs[off]? with
      | none => rw [hc] at h; cases h
      | some c =>
        rw [hc] at h
        injection h with h
        subst h
        simp only [part, Sem.run_bind, run_isAgg hu, Result.andThen_ok, hr, Bool.false_eq_true, if_false, cellsOf_get, hc, Option.map_some, Sem.run_pure]
        rfl
  · cases h
theorem eqS_run : ∀ (d : Nat) {t : TypeId} {x y : V} {q : B}, eqS P d t x y = some q → ∀ (e : Nat), d ≤ e → ∀ w : World, (Op.equalIn e t (x.den I ρ β) (y.den I ρ β)).run P w = .ok (q.den I ρ) w
  | 0, t, x, y, q, h, _, _, _ => by cases h
  | d + 1, t, x, y, q, h, 0, he, _ => by omega
  | d + 1, t, x, y, q, h, e + 1, he, w => by
    have he' : d ≤ e := by omega
    unfold eqS at h
    split at h
    · rename_i k' k a l b hu
      split at h
      · rename_i hk
        have := kindSame_eq hk
        subst this
        injection h with h
        subst h
        simp only [V.den, C.den]
        rw [run_equalIn_int w e t k k' _ _ hu, B.den_mkEq]
        congr 1
      · cases h
    · rename_i a b hu
      injection h with h
      subst h
      simp only [V.den, C.den]
      rw [run_equalIn_bool' w e t _ _ hu, B.den_mkIff]
    · rename_i a b hu
      injection h with h
      subst h
      simp only [V.den, C.den]
      rw [run_equalIn_string w e t _ _ hu]; rfl
    · rename_i fs xs ys hu
      split at h
      · cases h
      · rename_i hst
        have hf : P.underlying t = some (.struct (P.fieldsOf t)) := by simp [Program.fieldsOf, hu]
        have hst' : P.stoodInHeld t = false := by simpa using hst
        simp only [V.den]
        rw [run_equalIn_struct w e t _ _ hf hst']
        revert h
        generalize (P.fieldsOf t).toList = l
        clear hf hst hst' hu
        intro h
        induction l generalizing q with
        | nil =>
          simp only [List.foldr_nil, Option.some.injEq] at h
          subst h
          rfl
        | cons f l ih =>
          simp only [List.foldr_cons] at h
          split at h
          · cases h
          · rename_i r hr
            split at h
            · cases h
            · rename_i hn
              split at h
              · rename_i a b ha hb
                split at h
                · rename_i q1 hq
                  injection h with h
                  subst h
                  simp only [Op.eqFields, hn, ne_eq, not_false_eq_true, if_true, Sem.run_bind, partS_run ha, partS_run hb, Result.andThen_ok, eqS_run d hq e he' w, ih _ hr, B.den_mkAnd]
                  cases q1.den I ρ <;> simp
                  exact ih _ hr
                · cases h
              · cases h
    · rename_i n el xs ys hu
      split at h
      · cases h
      · rename_i c hc
        obtain ⟨i, hi⟩ : ∃ i, P.info? el = some i := by
          unfold sizeT at hc
          cases hi : P.info? el with
          | none => rw [hi] at hc; cases hc
          | some i => exact ⟨i, rfl⟩
        have hcc : P.cellsOf el = c := by
          unfold sizeT at hc
          unfold Program.cellsOf
          rw [hc]; rfl
        simp only [V.den]
        rw [run_equalIn_array w e _ _ hu hi, hcc]
        revert h
        generalize List.range n = l
        intro h
        induction l generalizing q with
        | nil =>
          simp only [List.foldr_nil, Option.some.injEq] at h
          subst h
          rfl
        | cons j l ih =>
          simp only [List.foldr_cons] at h
          split at h
          · cases h
          · rename_i r hr
            split at h
            · rename_i a b ha hb
              split at h
              · rename_i q1 hq
                injection h with h
                subst h
                simp only [Op.eqItems, Sem.run_bind, partS_run ha, partS_run hb, Result.andThen_ok, eqS_run d hq e he' w, ih _ hr, B.den_mkAnd]
                cases q1.den I ρ <;> simp
                exact ih _ hr
              · cases h
            · cases h
    · cases h
end
end Go.Proofs.Ythkkipkhofkpmaa.Sx

