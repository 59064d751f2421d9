import Derived.Test.YtliimpbbppbghaaQSc
import Derived.Test.YtliimpbbppbghaaQXc
import Derived.Test.YtliimpbbppbghaaQEd1
import Derived.Test.YtliimpbbppbghaaQShelf
set_option linter.all false
set_option autoImplicit false
namespace Go.Proofs.Ytliimpbbppbghaa.Sx
open Go Go.RowKit
def tL : List T → T
  | [] => .nil
  | a :: r => .cons a (tL r)
theorem tL_dens {I : Interp} {ρ : Env} (l : List T) : (tL l).dens I ρ = l.map (T.den I ρ) := by
  induction l with
  | nil => rfl
  | cons a r ih => simp only [tL, T.dens_cons, ih, List.map_cons]
def hiZ (a b : Int) : Int := a * b / 18446744073709551616
def loZ (a b : Int) : Int := a * b % 18446744073709551616
def cmp3 (x y : Int) : Int := if x < y then -1 else if y < x then 1 else 0
def mulV (a b : T) : V := match a, b with
  | .lit x, .lit y => .tup [(false, [.int .u64 (.lit (hiZ x y))]), (false, [.int .u64 (.lit (loZ x y))])]
  | a, b => .tup [(false, [.int .u64 (.app 21 (tL [a, b]))]), (false, [.int .u64 (.app 22 (tL [a, b]))])]
def ctMul : CT := fun g args s => match args with
  | [.c (.int .u64 a), .c (.int .u64 b)] => bif Nat.beq g 93 && (inB s.known a 0 18446744073709551615 && inB s.known b 0 18446744073709551615) then some ((mulV a b).force fun v => .leaf (v, s)) else none
  | _ => none
def cmpW : List C → List C → Option T
  | [.int .u64 (.app f x), .int .u64 (.app g y)], [.int .u64 (.app h z), .int .u64 (.app k u)] => match x, z with
    | .cons a (.cons b .nil), .cons c (.cons d .nil) => bif Nat.beq f 21 && (Nat.beq g 22 && (Nat.beq h 21 && (Nat.beq k 22 && (x.same y && z.same u)))) then some (.app 23 (tL [a, b, c, d])) else none
    | _, _ => none
  | _, _ => none
def ctCmpW : CT := fun g args s => match args with
  | [.agg a, .agg b] => bif Nat.beq g 74 then match cmpW a b with
    | some t => some (.leaf (.c (.int .i64 t), s))
    | none => none else none
  | _ => none
structure MulI (I : Interp) : Prop where
  hi : ∀ a b, I.fi 21 [a, b] = hiZ a b
  lo : ∀ a b, I.fi 22 [a, b] = loZ a b
  cmp : ∀ a b c d, I.fi 23 [a, b, c, d] = cmp3 (a * b) (c * d)
theorem mul64_z {a b : Int} (ha : 0 ≤ a ∧ a ≤ 18446744073709551615) (hb : 0 ≤ b ∧ b ≤ 18446744073709551615) (w : World) :
    Calls Try.prog 93 #[.int .u64 a, .int .u64 b] w (fun e w' => e = .returned (.tuple #[.int .u64 (hiZ a b), .int .u64 (loZ a b)]) ∧ Below w.heap.size w w') := by
  have h := Try.bits_Mul64 a.toNat b.toNat (by omega) (by omega) w
  rw [Int.toNat_of_nonneg ha.1, Int.toNat_of_nonneg hb.1] at h
  refine h.mono ?_
  rintro e w' ⟨rfl, rfl⟩
  refine ⟨?_, Below.refl _ _⟩
  have e1 : ((a.toNat * b.toNat / 18446744073709551616 : Nat) : Int) = hiZ a b := by
    unfold hiZ
    rw [Int.natCast_ediv, Int.natCast_mul, Int.toNat_of_nonneg ha.1, Int.toNat_of_nonneg hb.1]; rfl
  have e2 : ((a.toNat * b.toNat % 18446744073709551616 : Nat) : Int) = loZ a b := by
    unfold loZ
    rw [Int.natCast_emod, Int.natCast_mul, Int.toNat_of_nonneg ha.1, Int.toNat_of_nonneg hb.1]; rfl
  rw [e1, e2]
theorem ctMul_ok {I : Interp} (hI : MulI I) (ρ : Env) : CTOk Try.prog I ρ ctMul := by
  intro g args s t h w0 X n0 β0 β w R ht hw ha
  unfold ctMul at h
  split at h
  · rename_i a b
    cases hc : (Nat.beq g 93 && (inB s.known a 0 18446744073709551615 && inB s.known b 0 18446744073709551615)) with
    | false => rw [hc] at h; cases h
    | true =>
      rw [hc] at h
      simp only [Bool.and_eq_true] at hc
      obtain ⟨h1, h2, h3⟩ := hc
      have := Nat.eq_of_beq_eq_true h1
      subst this
      injection h with h
      rw [V.force_eq] at h
      subst h
      have hden : V.den I ρ β (mulV a b) = .tuple #[.int .u64 (hiZ (a.den I ρ) (b.den I ρ)), .int .u64 (loZ (a.den I ρ) (b.den I ρ))] := by
        unfold mulV
        split
        · rfl
        · simp only [V.den, List.map_cons, List.map_nil, partOf, C.den, T.den_app, tL_dens, hI.hi, hI.lo]
      have hwf : ∀ n, (mulV a b).wf n = true := fun n => by unfold mulV; split <;> rfl
      refine (mul64_z (inB_ok hw.known h2) (inB_ok hw.known h3) w).mono ?_
      rintro e w' ⟨rfl, hb⟩
      have := ht β w' (hw.below hb) (hwf _) (Nat.le_refl _) (fun _ _ => rfl)
      rw [hden] at this
      exact this
  · cases h
end Go.Proofs.Ytliimpbbppbghaa.Sx
set_option autoImplicit false
namespace Go.Proofs.Ytliimpbbppbghaa.Sx
open Go Go.RowKit
def lexZ (a b c d : Int) : Int := if a < c then -1 else if c < a then 1 else if b < d then -1 else if d < b then 1 else 0
def wcmpT : Tree V :=
 (.node (.lt (.var 0) (.var 2))
 (.leaf (.c (.int .i64 (.lit (-1)))))
 (.node (.lt (.var 2) (.var 0))
 (.leaf (.c (.int .i64 (.lit 1))))
 (.node (.lt (.var 1) (.var 3))
 (.leaf (.c (.int .i64 (.lit (-1)))))
 (.node (.lt (.var 3) (.var 1))
 (.leaf (.c (.int .i64 (.lit 1))))
 (.leaf (.c (.int .i64 (.lit 0))))))))
set_option maxRecDepth 1000000 in
theorem wcmp_tree : vals (execF Try.prog CT.none 20 74 [.agg [.int .u64 (.var 0), .int .u64 (.var 1)], .agg [.int .u64 (.var 2), .int .u64 (.var 3)]] sNone) = wcmpT := by kernel_rfl
set_option maxHeartbeats 20000000 in
theorem wcmp_c (a b c d : Int) (w : World) : Calls Try.prog 74 #[.agg #[.int .u64 a, .int .u64 b], .agg #[.int .u64 c, .int .u64 d]] w
    (fun e w' => e = .returned (.int .i64 (lexZ a b c d)) ∧ Below w.heap.size w w') := by
  have key : (wcmpT).vc I0 (envOf [a, b, c, d] []) (fun v => v.wf 0 = true ∧ v.den I0 (envOf [a, b, c, d] []) id = .int .i64 (lexZ a b c d)) := ?key
  · have h := @calls_lit Try.prog I0 (envOf [a, b, c, d] []) mixed nocount CT.none (CT.none_ok _ _ _) 20 74 [.agg [.int .u64 (.var 0), .int .u64 (.var 1)], .agg [.int .u64 (.var 2), .int .u64 (.var 3)]] wcmpT w (.int .i64 (lexZ a b c d)) (fun _ h => nomatch h) rfl wcmp_tree key
    exact h
  unfold wcmpT
  repeat' (first | refine And.intro ?_ ?_ | intro _)
  all_goals first | rfl | skip
  all_goals (simp only [B.lt_t, B.lt_f, B.eq_t, B.eq_f, B.den_var, B.den_lit, B.den_not, B.den_and, B.den_iff, T.den_lit, T.den_var, T.den_wrap, T.den_bin, ev_add, ev_sub, ev_mul, ev_quo, ev_rem, ev_max, ev_min, envOf, List.getD_cons_zero, List.getD_cons_succ, w64] at *)
  all_goals (show Value.int .i64 _ = _; refine congrArg _ ?_; show (_ : Int) = lexZ a b c d; unfold lexZ; simp only [T.den_lit]; repeat' split; all_goals first | rfl | omega)
theorem lex_cmp (a b c d : Int) : lexZ (hiZ a b) (loZ a b) (hiZ c d) (loZ c d) = cmp3 (a * b) (c * d) := by
  unfold hiZ loZ cmp3 lexZ
  generalize a * b = x
  generalize c * d = y
  repeat' split
  all_goals first | rfl | omega
theorem ctCmpW_ok {I : Interp} (hI : MulI I) (ρ : Env) : CTOk Try.prog I ρ ctCmpW := by
  intro g args s t h w0 X n0 β0 β w R ht hw ha
  unfold ctCmpW at h
  split at h
  · rename_i a b
    cases hc : Nat.beq g 74 with
    | false => rw [hc] at h; cases h
    | true =>
      rw [hc] at h
      have := Nat.eq_of_beq_eq_true hc
      subst this
      simp only [cond_true] at h
      split at h
      · rename_i t' hcm
        injection h with h
        subst h
        unfold cmpW at hcm
        split at hcm
        · rename_i f x g y h' z k u
          split at hcm
          · rename_i p q p2 q2
            cases hb : (Nat.beq f 21 && (Nat.beq g 22 && (Nat.beq h' 21 && (Nat.beq k 22 && ((T.cons p (.cons q .nil)).same y && (T.cons p2 (.cons q2 .nil)).same u))))) with
            | false => rw [hb] at hcm; cases hcm
            | true =>
              rw [hb] at hcm
              injection hcm with hcm
              subst hcm
              simp only [Bool.and_eq_true] at hb
              obtain ⟨h1, h2, h3, h4, h5, h6⟩ := hb
              have := Nat.eq_of_beq_eq_true h1; subst this
              have := Nat.eq_of_beq_eq_true h2; subst this
              have := Nat.eq_of_beq_eq_true h3; subst this
              have := Nat.eq_of_beq_eq_true h4; subst this
              have := T.same_eq h5; subst this
              have := T.same_eq h6; subst this
              refine ct_leaf1 ?_ rfl ht hw
              have hc2 := wcmp_c (hiZ (p.den I ρ) (q.den I ρ)) (loZ (p.den I ρ) (q.den I ρ)) (hiZ (p2.den I ρ) (q2.den I ρ)) (loZ (p2.den I ρ) (q2.den I ρ)) w
              rw [lex_cmp] at hc2
              have e1 : ([V.agg [.int .u64 (.app 21 (.cons p (.cons q .nil))), .int .u64 (.app 22 (.cons p (.cons q .nil)))], V.agg [.int .u64 (.app 21 (.cons p2 (.cons q2 .nil))), .int .u64 (.app 22 (.cons p2 (.cons q2 .nil)))]].map (V.den I ρ β)).toArray = #[.agg #[.int .u64 (hiZ (p.den I ρ) (q.den I ρ)), .int .u64 (loZ (p.den I ρ) (q.den I ρ))], .agg #[.int .u64 (hiZ (p2.den I ρ) (q2.den I ρ)), .int .u64 (loZ (p2.den I ρ) (q2.den I ρ))]] := by
                simp only [List.map_cons, List.map_nil, V.den, cellsOf, C.den, T.den_app, T.dens_cons, T.dens_nil, hI.hi, hI.lo]
              have e2 : V.den I ρ β (.c (.int .i64 (.app 23 (tL [p, q, p2, q2])))) = .int .i64 (cmp3 (p.den I ρ * q.den I ρ) (p2.den I ρ * q2.den I ρ)) := by
                simp only [V.den, C.den, T.den_app, tL_dens, List.map_cons, List.map_nil, hI.cmp]
              rw [e1, e2]
              exact hc2
          · cases hcm
        · cases hcm
      · cases h
  · cases h
end Go.Proofs.Ytliimpbbppbghaa.Sx
set_option autoImplicit false
namespace Go.Proofs.Ytliimpbbppbghaa.Sx
open Go Go.RowKit
structure ET where
  k : T
  ax : T
  ay : T
  bx : T
  by' : T
  cx : T
  cy : T
def ET.list (e : ET) : List T := [e.k, e.ax, e.ay, e.bx, e.by', e.cx, e.cy]
def ET.den (I : Interp) (ρ : Env) (e : ET) : E7 := ⟨e.k.den I ρ, e.ax.den I ρ, e.ay.den I ρ, e.bx.den I ρ, e.by'.den I ρ, e.cx.den I ρ, e.cy.den I ρ⟩
def et0 : ET := ⟨.lit 0, .lit 0, .lit 0, .lit 0, .lit 0, .lit 0, .lit 0⟩
def e7s : List C → Option (List ET)
  | [] => some []
  | .int .i64 a :: .int .i64 b :: .int .i64 c :: .int .i64 d :: .int .i64 e :: .int .i64 f :: .int .i64 g :: r => (e7s r).map (⟨a, b, c, d, e, f, g⟩ :: ·)
  | _ => none
def rowE (s : S) (id off len : Nat) : Option (List ET) := (partOfRow s id off (len * 7)).bind e7s
def slE (s : S) : C → Option (List ET)
  | .slice id off len _ => rowE s id off len
  | .osl id _ off _ len => rowE s id off len
  | .nils => some []
  | _ => none
def eqsT (x y : ET) : B := .mkAnd (.mkEq y.ax x.bx) (.mkEq y.ay x.by')
def prT (es : List ET) (closed : Bool) : List (ET × ET) := (List.range (es.length - 1)).map (fun j => (es.getD j et0, es.getD (j + 1) et0)) ++ (bif closed && !isEmp es then [(es.getD (es.length - 1) et0, es.getD 0 et0)] else [])
  where isEmp : List ET → Bool
    | [] => true
    | _ => false
def allT : List (ET × ET) → B
  | [] => .lit true
  | p :: r => .mkAnd (eqsT p.1 p.2) (allT r)
def ctChain : CT := fun g args s => match args with
  | [.c x, .c (.bool (.lit cl))] => bif Nat.beq g 38 then match slE s x with
    | some es => bif Nat.ble es.length 1000 then some (((allT (prT es cl)).under s.known).force fun b => .leaf (.c (.bool b), s)) else none
    | none => none else none
  | _ => none
theorem e7s_eq : ∀ {cs : List C} {es : List ET}, e7s cs = some es → cs = (es.flatMap ET.list).map (C.int .i64)
  | [], es, h => by injection h with h; subst h; rfl
  | cs, es, h => by
    unfold e7s at h
    split at h
    · injection h with h; subst h; rfl
    · rename_i a b c d e f g r
      cases hr : e7s r with
      | none => rw [hr] at h; cases h
      | some es' =>
        rw [hr] at h
        injection h with h
        subst h
        have := e7s_eq hr
        simp only [List.flatMap_cons, ET.list, List.map_append, List.map_cons, List.map_nil, List.cons_append, List.nil_append, ← this]
    · cases h
theorem flat_get (i : Nat) (hi : i < 7) : ∀ (es : List ET) (j : Nat), (es.flatMap ET.list)[j * 7 + i]? = (es[j]?).bind fun e => e.list[i]?
  | [], j => by simp
  | e :: r, 0 => by
    simp only [List.flatMap_cons, Nat.zero_mul, Nat.zero_add]
    rw [List.getElem?_append_left (by simp [ET.list]; omega)]
    rfl
  | e :: r, j + 1 => by
    simp only [List.flatMap_cons]
    rw [List.getElem?_append_right (by simp [ET.list]; omega)]
    rw [show (j + 1) * 7 + i - e.list.length = j * 7 + i by simp [ET.list]; omega, flat_get i hi r j]
    rfl
section
variable {I : Interp} {ρ : Env} {w0 w : World} {X : Nat → Prop} {n0 : Nat} {β0 β : Nat → Nat} {s : S}
theorem rowE_ok (h : WR I ρ w0 X n0 β0 β s w) {id off len : Nat} {es : List ET} (hr : rowE s id off len = some es) : es.length = len ∧ β id < w.heap.size ∧ Edges w (β id) off (es.map (ET.den I ρ)) := by
  unfold rowE at hr
  cases hp : partOfRow s id off (len * 7) with
  | none => rw [hp] at hr; cases hr
  | some cs =>
    rw [hp] at hr
    simp only [Option.bind_some] at hr
    unfold partOfRow at hp
    split at hp
    · rename_i b hb
      obtain ⟨hm, hl⟩ := find_mem hb
      cases hle : Nat.ble (off + len * 7) b.row.length with
      | false => rw [hle] at hp; cases hp
      | true =>
        rw [hle] at hp
        injection hp with hp
        have hle := Nat.le_of_ble_eq_true hle
        have hcs := e7s_eq hr
        have hlen : cs.length = len * 7 := by rw [← hp]; simp; omega
        have hlen2 : es.length = len := by
          have : cs.length = es.length * 7 := by
            rw [hcs]
            simp only [List.length_map, List.length_flatMap]
            clear hcs hr hlen
            induction es with
            | nil => rfl
            | cons e r ih => simp [ET.list] at ih ⊢; omega
          omega
        refine ⟨hlen2, h.lt hm hl, fun j hj => ?_⟩
        have hj' : j < es.length := by simpa using hj
        have key : ∀ i, i < 7 → ∀ t, es[j].list[i]? = some t → w.cell? ⟨β id, off + j * 7 + i, none⟩ = some (.int .i64 (t.den I ρ)) := by
          intro i hi t ht
          have hc : b.row[off + j * 7 + i]? = some (.int .i64 t) := by
            have e1 : cs[j * 7 + i]? = some (.int .i64 t) := by
              rw [hcs, List.getElem?_map, flat_get i hi, List.getElem?_eq_getElem hj']
              simp only [Option.bind_some, ht, Option.map_some]
            rw [← hp, List.getElem?_take_of_lt (by omega), List.getElem?_drop] at e1
            rw [show off + j * 7 + i = off + (j * 7 + i) by omega]
            exact e1
          exact (h.row _ hm hl).cell (Blk.live_dead hl) hc
        have he : (es.map (ET.den I ρ))[j]! = es[j].den I ρ := by
          rw [getElem!_pos _ j (by simpa using hj')]; simp
        rw [he]
        exact ⟨key 0 (by decide) _ rfl, key 1 (by decide) _ rfl, key 2 (by decide) _ rfl, key 3 (by decide) _ rfl, key 4 (by decide) _ rfl, key 5 (by decide) _ rfl, key 6 (by decide) _ rfl⟩
    · cases hp
theorem slE_ok (h : WR I ρ w0 X n0 β0 β s w) {x : C} {es : List ET} (hx : slE s x = some es) (hlen : es.length ≤ 1000000000000) : ∃ p cap, x.den I ρ β = .slice p es.length cap ∧ SlE w.heap.size w (.slice p es.length cap) (es.map (ET.den I ρ)) := by
  unfold slE at hx
  split at hx
  · obtain ⟨h1, h2, h3⟩ := rowE_ok h hx
    subst h1
    exact ⟨_, _, rfl, _, _, by rw [List.length_map], by rw [List.length_map]; exact hlen, fun _ => ⟨_, _, rfl, h2, h3⟩⟩
  · obtain ⟨h1, h2, h3⟩ := rowE_ok h hx
    subst h1
    exact ⟨_, _, rfl, _, _, by rw [List.length_map], by rw [List.length_map]; exact hlen, fun _ => ⟨_, _, rfl, h2, h3⟩⟩
  · injection hx with hx
    subst hx
    exact ⟨_, _, rfl, none, 0, rfl, by simp, fun h => absurd h (by simp)⟩
  · cases hx
theorem allT_t : ∀ l : List (ET × ET), (allT l).den I ρ = true ↔ ∀ x ∈ l.map (fun p : ET × ET => (p.1.den I ρ, p.2.den I ρ)), meets x
  | [] => by simp [allT, B.den]
  | p :: r => by
    unfold allT
    rw [B.den_mkAnd, Bool.and_eq_true, allT_t r]
    have e : (eqsT p.1 p.2).den I ρ = true ↔ meets (p.1.den I ρ, p.2.den I ρ) := by
      unfold eqsT meets
      rw [B.den_mkAnd, B.den_mkEq, B.den_mkEq, Bool.and_eq_true, decide_eq_true_eq, decide_eq_true_eq]
      rfl
    rw [e]
    simp
theorem prT_den (es : List ET) (cl : Bool) : (prT es cl).map (fun p => (p.1.den I ρ, p.2.den I ρ)) = prAll (es.map (ET.den I ρ)) cl := by
  have hget : ∀ j, j < es.length → (es.map (ET.den I ρ))[j]! = (es.getD j et0).den I ρ := fun j hj => by
    rw [getElem!_pos _ j (by simpa using hj)]
    simp [hj]
  unfold prT prAll prU
  rw [List.map_append, List.length_map, List.map_map]
  congr 1
  · refine List.map_congr_left fun j hj => ?_
    have hj := List.mem_range.1 hj
    simp only [Function.comp]
    rw [hget j (by omega), hget (j + 1) (by omega)]
  · cases cl with
    | false => simp
    | true =>
      cases es with
      | nil => rfl
      | cons e r =>
        rw [if_pos ⟨rfl, by simp⟩, hget _ (by simp), hget 0 (by simp)]
        rfl
end
theorem ctChain_ok (I : Interp) (ρ : Env) : CTOk Try.prog I ρ ctChain := by
  intro g args s t h w0 X n0 β0 β w R ht hw ha
  unfold ctChain at h
  split at h
  · rename_i x cl
    cases hc : Nat.beq g 38 with
    | false => rw [hc] at h; cases h
    | true =>
      rw [hc] at h
      have := Nat.eq_of_beq_eq_true hc
      subst this
      simp only [cond_true] at h
      split at h
      · rename_i es hes
        cases hle : Nat.ble es.length 1000 with
        | false => rw [hle] at h; cases h
        | true =>
          rw [hle] at h
          injection h with h
          rw [B.force_eq] at h
          subst h
          have hlen : es.length ≤ 1000000000000 := by have := Nat.le_of_ble_eq_true hle; omega
          obtain ⟨p, cap, hx, hS⟩ := slE_ok hw hes hlen
          have hcall := isChain_calls p es.length cap cl _ w hS
          have hb : ((allT (prT es cl)).under s.known).den I ρ = decide (∀ x ∈ prAll (es.map (ET.den I ρ)) cl, meets x) := by
            rw [B.den_under hw.known, ← prT_den]
            rw [Bool.eq_iff_iff, allT_t, decide_eq_true_eq]
          have ea : ([V.c x, V.c (.bool (.lit cl))].map (V.den I ρ β)).toArray = #[.slice p es.length cap, .bool cl] := by
            simp only [List.map_cons, List.map_nil, V.den, hx]; rfl
          rw [ea]
          refine hcall.mono ?_
          rintro e w' ⟨rfl, hbl⟩
          rw [← hb]
          exact ht β w' (hw.below hbl) rfl (Nat.le_refl _) (fun _ _ => rfl)
      · cases h
  · cases h
end Go.Proofs.Ytliimpbbppbghaa.Sx

