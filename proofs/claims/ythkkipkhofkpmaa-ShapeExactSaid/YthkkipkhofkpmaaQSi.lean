import Derived.Test.YthkkipkhofkpmaaQSc
import Derived.Test.YthkkipkhofkpmaaQSxC
import Derived.Test.YthkkipkhofkpmaaQEd1
import Derived.Test.YthkkipkhofkpmaaQShelf
set_option linter.all false
set_option autoImplicit false
namespace Go.Proofs.Ythkkipkhofkpmaa.Sx
open Go Go.RowKit
def tL : List T → T
  | [] => .nil
  | a :: r => .cons a (tL r)
theorem tL_dens {I : Interp} {ρ : Env} (l : List T) : (tL l).dens I ρ = l.map (T.den I ρ) := by
  induction l with
  | nil => rfl
  | cons a r ih => simp only [tL, T.dens_cons, ih, List.map_cons]
def hiZ (a b : Int) : Int := a * b / 18446744073709551616
def loZ (a b : Int) : Int := a * b % 18446744073709551616
def cmp3 (x y : Int) : Int := if x < y then -1 else if y < x then 1 else 0
def mulV (a b : T) : V := match a, b with
  | .lit x, .lit y => .tup [(false, [.int .u64 (.lit (hiZ x y))]), (false, [.int .u64 (.lit (loZ x y))])]
  | a, b => .tup [(false, [.int .u64 (.app 21 (tL [a, b]))]), (false, [.int .u64 (.app 22 (tL [a, b]))])]
def ctMul : CT := fun g args s => match args with
  | [.c (.int .u64 a), .c (.int .u64 b)] => bif Nat.beq g 93 && (inB s.known a 0 18446744073709551615 && inB s.known b 0 18446744073709551615) then some ((mulV a b).force fun v => .leaf (v, s)) else none
  | _ => none
def cmpW : List C → List C → Option T
  | [.int .u64 (.app f x), .int .u64 (.app g y)], [.int .u64 (.app h z), .int .u64 (.app k u)] => match x, z with
    | .cons a (.cons b .nil), .cons c (.cons d .nil) => bif Nat.beq f 21 && (Nat.beq g 22 && (Nat.beq h 21 && (Nat.beq k 22 && (x.same y && z.same u)))) then some (.app 23 (tL [a, b, c, d])) else none
    | _, _ => none
  | _, _ => none
def ctCmpW : CT := fun g args s => match args with
  | [.agg a, .agg b] => bif Nat.beq g 74 then match cmpW a b with
    | some t => some (.leaf (.c (.int .i64 t), s))
    | none => none else none
  | _ => none
structure MulI (I : Interp) : Prop where
  hi : ∀ a b, I.fi 21 [a, b] = hiZ a b
  lo : ∀ a b, I.fi 22 [a, b] = loZ a b
  cmp : ∀ a b c d, I.fi 23 [a, b, c, d] = cmp3 (a * b) (c * d)
theorem mul64_z {a b : Int} (ha : 0 ≤ a ∧ a ≤ 18446744073709551615) (hb : 0 ≤ b ∧ b ≤ 18446744073709551615) (w : World) :
    Calls Try.prog 93 #[.int .u64 a, .int .u64 b] w (fun e w' => e = .returned (.tuple #[.int .u64 (hiZ a b), .int .u64 (loZ a b)]) ∧ Below w.heap.size w w') := by
  have h := Try.bits_Mul64 a.toNat b.toNat (by omega) (by omega) w
  rw [Int.toNat_of_nonneg ha.1, Int.toNat_of_nonneg hb.1] at h
  refine h.mono ?_
  rintro e w' ⟨rfl, rfl⟩
  refine ⟨?_, Below.refl _ _⟩
  have e1 : ((a.toNat * b.toNat / 18446744073709551616 : Nat) : Int) = hiZ a b := by
    unfold hiZ
    rw [Int.natCast_ediv, Int.natCast_mul, Int.toNat_of_nonneg ha.1, Int.toNat_of_nonneg hb.1]; rfl
  have e2 : ((a.toNat * b.toNat % 18446744073709551616 : Nat) : Int) = loZ a b := by
    unfold loZ
    rw [Int.natCast_emod, Int.natCast_mul, Int.toNat_of_nonneg ha.1, Int.toNat_of_nonneg hb.1]; rfl
  rw [e1, e2]
theorem ctMul_ok {I : Interp} (hI : MulI I) (ρ : Env) : CTOk Try.prog I ρ ctMul := by
  intro g args s t h w0 X n0 β0 β w R ht hw ha
  unfold ctMul at h
  split at h
  · rename_i a b
    cases hc : (Nat.beq g 93 && (inB s.known a 0 18446744073709551615 && inB s.known b 0 18446744073709551615)) with
    | false => rw [hc] at h; cases h
    | true =>
      rw [hc] at h
      simp only [Bool.and_eq_true] at hc
      obtain ⟨h1, h2, h3⟩ := hc
      have := Nat.eq_of_beq_eq_true h1
      subst this
      injection h with h
      rw [V.force_eq] at h
      subst h
      have hden : V.den I ρ β (mulV a b) = .tuple #[.int .u64 (hiZ (a.den I ρ) (b.den I ρ)), .int .u64 (loZ (a.den I ρ) (b.den I ρ))] := by
        unfold mulV
        split
        · rfl
        · simp only [V.den, List.map_cons, List.map_nil, partOf, C.den, T.den_app, tL_dens, hI.hi, hI.lo]
      have hwf : ∀ n, (mulV a b).wf n = true := fun n => by unfold mulV; split <;> rfl
      refine (mul64_z (inB_ok hw.known h2) (inB_ok hw.known h3) w).mono ?_
      rintro e w' ⟨rfl, hb⟩
      have := ht β w' (hw.below hb) (hwf _) (Nat.le_refl _) (fun _ _ => rfl)
      rw [hden] at this
      exact this
  · cases h
end Go.Proofs.Ythkkipkhofkpmaa.Sx

