/- What the symbols mean in layer 7. -/
import Derived.Test.YtmoclgpdcnjacaaMa
import Derived.Test.YtmoclgpdcnjacaaEd9
set_option linter.all false
set_option autoImplicit false
namespace Go.Proofs.Ytmoclgpdcnjacaa.Sx
open Go Go.RowKit

/-- A coordinate of a spot against a bound, as seen from its place. -/
def ordZ (bd d sd t b u : Int) : Int := sgS (t * d - b * bd) sd u
def withinP (ax ay dx dy sx sy t b u x0 y0 x1 y1 : Int) : Prop :=
  0 ≤ ordZ (x0 - ax) dx sx t b u ∧ ordZ (x1 - ax) dx sx t b u ≤ 0 ∧ 0 ≤ ordZ (y0 - ay) dy sy t b u ∧ ordZ (y1 - ay) dy sy t b u ≤ 0
instance (ax ay dx dy sx sy t b u x0 y0 x1 y1 : Int) : Decidable (withinP ax ay dx dy sx sy t b u x0 y0 x1 y1) := by unfold withinP; infer_instance
/-- The common ends that the program gathers. -/
def endsL (on : Int × Int → Bool) : List (Int × Int) → List (Int × Int) → List (Int × Int)
  | [], acc => acc
  | p :: r, acc => endsL on r (if on p = true ∧ p ∉ acc then acc ++ [p] else acc)
def onB (k ax ay bx by' cx cy k2 px py qx qy rx ry : Int) (z : Int × Int) : Bool := decide (onP k ax ay bx by' cx cy z.1 z.2 ∧ onP k2 px py qx qy rx ry z.1 z.2)
def endsZ (k ax ay bx by' cx cy k2 px py qx qy rx ry : Int) : Int :=
  if 1 < (endsL (onB k ax ay bx by' cx cy k2 px py qx qy rx ry) [(ax, ay), (bx, by'), (px, py), (qx, qy)] []).length then -1
  else (endsL (onB k ax ay bx by' cx cy k2 px py qx qy rx ry) [(ax, ay), (bx, by'), (px, py), (qx, qy)] []).length
def fiM1 (f : Nat) (l : List Int) : Int := match f, l with
  | 4, [k, ax, ay, bx, by', cx, cy] => checkZ k ax ay bx by' cx cy
  | 5, [k, ax, ay, bx, by', cx, cy] => radiusZ k ax ay bx by' cx cy
  | 11, [k, ax, ay, bx, by', cx, cy, k2, px, py, qx, qy, rx, ry] => endsZ k ax ay bx by' cx cy k2 px py qx qy rx ry
  | _, _ => 0
def fiM (f : Nat) (l : List Int) : Int := if f = 999 then numOpq.len l else if f = 998 then (match l with | [a, b, c] => sgS a b c | _ => 0) else fiM1 f l
def fbM (f : Nat) (l : List Int) : Bool := match f, l with
  | 0, [k, ax, ay, bx, by', cx, cy, px, py] => decide (onP k ax ay bx by' cx cy px py)
  | 3, [ax, ay, dx, dy, sx, sy, t, b, u, x0, y0, x1, y1] => decide (withinP ax ay dx dy sx sy t b u x0 y0 x1 y1)
  | _, _ => false
def IM : Interp := ⟨fiM, fbM, fun _ _ => .nilFunc, [], numOpq, fun _ => if_pos rfl, fun _ _ => ⟨(fun _ h => nomatch h), (fun _ h => nomatch h)⟩⟩
theorem im_998 (a b c : Int) : IM.fi 998 [a, b, c] = sgS a b c := rfl
def tlM : List T → T
  | [] => .nil
  | a :: r => .cons a (tlM r)
/-- Functions of edges, and of edges and points, as symbols. -/
def ctEm : CT := fun g args s => match args with
  | [.agg [.int .i64 k, .int .i64 ax, .int .i64 ay, .int .i64 bx, .int .i64 by', .int .i64 cx, .int .i64 cy]] =>
    bif Nat.beq g 26 || Nat.beq g 21 then some (.leaf (.c (.int .i64 (.app 4 (tlM [k, ax, ay, bx, by', cx, cy]))), s)) else
    bif Nat.beq g 15 then some (.leaf (.c (.int .i64 (.app 5 (tlM [k, ax, ay, bx, by', cx, cy]))), s)) else none
  | [.agg [.int .i64 k, .int .i64 ax, .int .i64 ay, .int .i64 bx, .int .i64 by', .int .i64 cx, .int .i64 cy], .agg [.int .i64 px, .int .i64 py]] =>
    bif Nat.beq g 17 then some (.leaf (.c (.bool (.app 0 (tlM [k, ax, ay, bx, by', cx, cy, px, py]))), s)) else none
  | _ => none
theorem ctEm_ok {I : Interp} (hi : I.fi = fiM) (hb : I.fb = fbM) (ρ : Env) : CTOk Try.prog I ρ ctEm := by
  intro g args s t h w0 X n0 β0 β w R ht hw ha
  unfold ctEm at h
  split at h
  · rename_i k ax ay bx by' cx cy
    cases h1 : (Nat.beq g 26 || Nat.beq g 21) with
    | true =>
      rw [h1] at h
      injection h with h
      subst h
      simp only [Bool.or_eq_true] at h1
      refine ct_leaf1 ?_ rfl ht hw
      have e : ∀ β, V.den I ρ β (.c (.int .i64 (.app 4 (tlM [k, ax, ay, bx, by', cx, cy])))) = .int .i64 (checkZ (k.den I ρ) (ax.den I ρ) (ay.den I ρ) (bx.den I ρ) (by'.den I ρ) (cx.den I ρ) (cy.den I ρ)) := fun β => by
        simp only [V.den, C.den, T.den_app, tlM, T.dens_cons, T.dens_nil, hi]; rfl
      rw [e]
      rcases h1 with h1 | h1 <;> (have := Nat.eq_of_beq_eq_true h1; subst this)
      · exact vcheck_c _ _ _ _ _ _ _ w
      · exact rcheck_c _ _ _ _ _ _ _ w
    | false =>
      rw [h1] at h
      simp only [cond_false] at h
      cases h2 : Nat.beq g 15 with
      | true =>
        rw [h2] at h
        injection h with h
        subst h
        have := Nat.eq_of_beq_eq_true h2
        subst this
        refine ct_leaf1 ?_ rfl ht hw
        have e : ∀ β, V.den I ρ β (.c (.int .i64 (.app 5 (tlM [k, ax, ay, bx, by', cx, cy])))) = .int .i64 (radiusZ (k.den I ρ) (ax.den I ρ) (ay.den I ρ) (bx.den I ρ) (by'.den I ρ) (cx.den I ρ) (cy.den I ρ)) := fun β => by
          simp only [V.den, C.den, T.den_app, tlM, T.dens_cons, T.dens_nil, hi]; rfl
        rw [e]
        exact vrad_c _ _ _ _ _ _ _ w
      | false => rw [h2] at h; cases h
  · rename_i k ax ay bx by' cx cy px py
    cases h1 : Nat.beq g 17 with
    | true =>
      rw [h1] at h
      injection h with h
      subst h
      have := Nat.eq_of_beq_eq_true h1
      subst this
      refine ct_leaf1 ?_ rfl ht hw
      have e : ∀ β, V.den I ρ β (.c (.bool (.app 0 (tlM [k, ax, ay, bx, by', cx, cy, px, py])))) = .bool (decide (onP (k.den I ρ) (ax.den I ρ) (ay.den I ρ) (bx.den I ρ) (by'.den I ρ) (cx.den I ρ) (cy.den I ρ) (px.den I ρ) (py.den I ρ))) := fun β => by
        simp only [V.den, C.den, B.den, tlM, T.dens_cons, T.dens_nil, hb]; rfl
      rw [e]
      exact von_c _ _ _ _ _ _ _ _ _ w
    | false => rw [h1] at h; cases h
  · cases h
end Go.Proofs.Ytmoclgpdcnjacaa.Sx
