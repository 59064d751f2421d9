import Derived.Test.YtliimpbbppbghaaQSn
set_option linter.all false
set_option autoImplicit false
namespace Go.Proofs.Ytliimpbbppbghaa.Sx
open Go Go.RowKit
def litT : T → Option Int
  | .lit n => some n
  | _ => none
def litsT : List T → Option (List Int)
  | [] => some []
  | t :: r => match litT t, litsT r with
    | some n, some l => some (n :: l)
    | _, _ => none
theorem litsT_den {I : Interp} {ρ : Env} : ∀ {l : List T} {ns : List Int}, litsT l = some ns → l.map (T.den I ρ) = ns
  | [], ns, h => by cases h; rfl
  | t :: r, ns, h => by
    unfold litsT at h
    split at h
    · rename_i n l h1 h2
      injection h with h
      subst h
      unfold litT at h1
      split at h1
      · injection h1 with h1
        subst h1
        rw [List.map_cons, litsT_den h2, T.den_lit]
      · cases h1
    · cases h
def symI (f : Nat) (l : List T) : T := match litsT l with
  | some ns => .lit (fiH f ns)
  | none => .app f (tL l)
def symB (f : Nat) (l : List T) : B := match litsT l with
  | some ns => .lit (fbH f ns)
  | none => .app f (tL l)
theorem symI_den (ρ : Env) (f : Nat) (l : List T) : (symI f l).den IH ρ = fiH f (l.map (T.den IH ρ)) := by
  unfold symI
  split
  · rename_i ns h; rw [litsT_den h]; rfl
  · rw [T.den_app, tL_dens]; rfl
theorem symB_den (ρ : Env) (f : Nat) (l : List T) : (symB f l).den IH ρ = fbH f (l.map (T.den IH ρ)) := by
  unfold symB
  split
  · rename_i ns h; rw [litsT_den h]; rfl
  · rw [B.den_app, tL_dens]; rfl
def ctEd : CT := fun g args s => match args with
  | [.agg [.int .i64 k, .int .i64 ax, .int .i64 ay, .int .i64 bx, .int .i64 by', .int .i64 cx, .int .i64 cy]] =>
    bif Nat.beq g 37 then some ((symI 4 [k, ax, ay, bx, by', cx, cy]).force fun t => .leaf (.c (.int .i64 t), s)) else none
  | [.agg [.int .i64 k, .int .i64 ax, .int .i64 ay, .int .i64 bx, .int .i64 by', .int .i64 cx, .int .i64 cy], .agg [.int .i64 px, .int .i64 py]] =>
    bif Nat.beq g 63 then some ((symB 0 [k, ax, ay, bx, by', cx, cy, px, py]).force fun b => .leaf (.c (.bool b), s)) else
    bif Nat.beq g 64 then some ((symI 6 [k, ax, ay, bx, by', cx, cy, px, py]).force fun t => .leaf (.c (.int .i64 t), s)) else none
  | _ => none
theorem ctEd_ok (ρ : Env) : CTOk Try.prog IH ρ ctEd := by
  intro g args s t h w0 X n0 β0 β w R ht hw ha
  unfold ctEd at h
  split at h
  · rename_i k ax ay bx by' cx cy
    cases h1 : Nat.beq g 37 with
    | true =>
      rw [h1] at h
      injection h with h
      rw [T.force_eq] at h
      subst h
      have := Nat.eq_of_beq_eq_true h1
      subst this
      refine ct_leaf1 ?_ rfl ht hw
      show Calls Try.prog _ _ w (fun e w' => e = .returned (.int .i64 ((symI 4 [k, ax, ay, bx, by', cx, cy]).den IH ρ)) ∧ _)
      rw [symI_den]
      exact vcheck_c _ _ _ _ _ _ _ w
    | false => rw [h1] at h; cases h
  · rename_i k ax ay bx by' cx cy px py
    cases h1 : Nat.beq g 63 with
    | true =>
      rw [h1] at h
      injection h with h
      rw [B.force_eq] at h
      subst h
      have := Nat.eq_of_beq_eq_true h1
      subst this
      refine ct_leaf1 ?_ rfl ht hw
      show Calls Try.prog _ _ w (fun e w' => e = .returned (.bool ((symB 0 [k, ax, ay, bx, by', cx, cy, px, py]).den IH ρ)) ∧ _)
      rw [symB_den]
      exact von_c _ _ _ _ _ _ _ _ _ w
    | false =>
      rw [h1] at h
      simp only [cond_false] at h
      cases h2 : Nat.beq g 64 with
      | true =>
        rw [h2] at h
        injection h with h
        rw [T.force_eq] at h
        subst h
        have := Nat.eq_of_beq_eq_true h2
        subst this
        refine ct_leaf1 ?_ rfl ht hw
        show Calls Try.prog _ _ w (fun e w' => e = .returned (.int .i64 ((symI 6 [k, ax, ay, bx, by', cx, cy, px, py]).den IH ρ)) ∧ _)
        rw [symI_den]
        exact vray_c _ _ _ _ _ _ _ _ _ w
      | false => rw [h2] at h; cases h
  · cases h
theorem ok_of_check {k ax ay bx by' cx cy : Int} (h : checkZ k ax ay bx by' cx cy = 0) : okP k ax ay bx by' cx cy := by
  unfold checkZ at h
  unfold okP
  split at h
  · cases h
  · split at h
    · cases h
    · split at h
      · rename_i h1 h2 h3
        have h2 := Classical.not_not.1 h2
        exact ⟨by omega, by omega, h2.1, h2.2.1, h2.2.2, h3⟩
      · cases h
def yesB (k : Known) (b : B) : Bool := match b.under k with
  | .lit v => v
  | _ => false
theorem yesB_ok {I : Interp} {ρ : Env} {k : Known} (hk : k.Ok I ρ) {b : B} (h : yesB k b = true) : b.den I ρ = true := by
  have e := B.den_under hk b
  unfold yesB at h
  split at h
  · rename_i v hv
    rw [hv] at e
    subst h
    exact e.symm
  · cases h
def ctCv : CT := fun g args s => match args with
  | [.agg [.int .i64 k, .int .i64 ax, .int .i64 ay, .int .i64 bx, .int .i64 by', .int .i64 cx, .int .i64 cy], .c (.int .i64 r), .agg [.int .i64 px, .int .i64 py]] =>
    bif Nat.beq g 42 && (yesB s.known (.mkEq (symI 4 [k, ax, ay, bx, by', cx, cy]) (.lit 0)) && (inB s.known r 0 4194304 && (inB s.known px (-71303168) 71303168 && inB s.known py (-71303168) 71303168)))
      then some ((symB 11 [k, ax, ay, bx, by', cx, cy, r, px, py]).force fun b => .leaf (.c (.bool b), s)) else none
  | _ => none
theorem ctCv_ok (ρ : Env) : CTOk Try.prog IH ρ ctCv := by
  intro g args s t h w0 X n0 β0 β w R ht hw ha
  unfold ctCv at h
  split at h
  · rename_i k ax ay bx by' cx cy r px py
    cases hc : (Nat.beq g 42 && (yesB s.known (.mkEq (symI 4 [k, ax, ay, bx, by', cx, cy]) (.lit 0)) && (inB s.known r 0 4194304 && (inB s.known px (-71303168) 71303168 && inB s.known py (-71303168) 71303168)))) with
    | false => rw [hc] at h; cases h
    | true =>
      rw [hc] at h
      injection h with h
      rw [B.force_eq] at h
      subst h
      simp only [Bool.and_eq_true] at hc
      obtain ⟨h1, h2, h3, h4, h5⟩ := hc
      have := Nat.eq_of_beq_eq_true h1
      subst this
      have h2 := yesB_ok hw.known h2
      rw [B.den_mkEq, symI_den, decide_eq_true_eq] at h2
      have hok := ok_of_check (show checkZ (k.den IH ρ) (ax.den IH ρ) (ay.den IH ρ) (bx.den IH ρ) (by'.den IH ρ) (cx.den IH ρ) (cy.den IH ρ) = 0 from h2)
      have h4 := inB_ok hw.known h4
      have h5 := inB_ok hw.known h5
      refine ct_leaf1 ?_ rfl ht hw
      show Calls Try.prog _ _ w (fun e w' => e = .returned (.bool ((symB 11 [k, ax, ay, bx, by', cx, cy, r, px, py]).den IH ρ)) ∧ _)
      rw [symB_den]
      exact covers_c hok (inB_ok hw.known h3) ⟨h4.1, h4.2, h5.1, h5.2⟩ w
  · cases h
def ctH : CT := ctOr ctChain (ctOr ctEd (ctOr ctCv (ctOr ctMul ctCmpW)))
theorem ctH_ok (ρ : Env) : CTOk Try.prog IH ρ ctH := ctOr_ok (ctChain_ok _ _) (ctOr_ok (ctEd_ok _) (ctOr_ok (ctCv_ok _) (ctOr_ok (ctMul_ok mulIH _) (ctCmpW_ok mulIH _))))
end Go.Proofs.Ytliimpbbppbghaa.Sx

