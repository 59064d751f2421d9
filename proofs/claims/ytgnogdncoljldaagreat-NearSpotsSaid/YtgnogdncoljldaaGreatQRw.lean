import Derived.Test.YtgnogdncoljldaaGreatQRv
set_option linter.all false
namespace Go.Proofs.YtgnogdncoljldaaGreat.Sx
open Go Go.RowKit
theorem gz_one (n : Int) : gz n 1 = 1 := by
 unfold gz
 rw [show (1 : Int).natAbs = 1 from rfl, Nat.gcd_one_right]
 rfl
theorem side_nn {x s c : Int} (hx : 0 ≤ x) (hs : 0 ≤ s) (hc : 0 ≤ c) : 0 ≤ RM.sideZ x s c := by
 rw [sideZ_sg _ _ _ hc]
 have h := sgS_spec x s c
 generalize x * x = u at *
 generalize s * s * c = v at *
 omega
theorem sq_nn (x : Int) : 0 ≤ x * x := by
 rcases Int.le_total 0 x with h | h
 ·exact Int.mul_nonneg h h
 ·have := Int.mul_nonneg (Int.neg_nonneg_of_nonpos h) (Int.neg_nonneg_of_nonpos h); rwa [Int.neg_mul_neg] at this
theorem end_nn (n d : Int) (hn : 0 ≤ n) (hd : 1 ≤ d) : 0 ≤ RM.cmpZ 0 (if n = 0 then 0 else 1) (n.tdiv (gz n d)) (d.tdiv (gz n d)) 0 0 0 1 := by
 have g1 := gz_ge (n := n) hd
 have b1 : 0 ≤ n.tdiv (gz n d) := Int.tdiv_nonneg hn (by omega)
 have b2 : 0 ≤ d.tdiv (gz n d) := Int.tdiv_nonneg (by omega) (by omega)
 refine cmpZ_zero (side_nn (by simp) ?_ (Int.mul_nonneg b1 b2))
 split <;> decide
theorem way2_nn (r n : Int) (hr : 0 ≤ r) (h : r * r ≤ n) : 0 ≤ RM.cmpZ (0 - r) (if n = 0 then 0 else 1) (n.tdiv (gz n 1)) ((1 : Int).tdiv (gz n 1)) 0 0 0 1 := by
 have hrr := sq_nn r
 rw [gz_one, Int.tdiv_one, Int.tdiv_one]
 refine cmpZ_zero ?_
 rw [Int.mul_one, Int.mul_one, Int.sub_zero, sideZ_sg _ _ _ (by omega)]
 have hs := sgS_spec (0 - r) (if n = 0 then 0 else 1) n
 by_cases hn : n = 0
 ·rw [if_pos hn] at hs ⊢
  have : r = 0 := by
   apply Classical.byContradiction
   intro h0
   have := Int.mul_pos (show 0 < r by omega) (show 0 < r by omega)
   omega
  subst this
  omega
 ·rw [if_neg hn] at hs ⊢
  rw [show (0 - r) * (0 - r) = r * r by grind, Int.one_mul, Int.one_mul] at hs
  omega
theorem way1_nn (r n : Int) (hr : 0 ≤ r) (hn : 0 ≤ n) (h : n < r * r) : 0 ≤ RM.cmpZ r (if n = 0 then 0 else -1) (n.tdiv (gz n 1)) ((1 : Int).tdiv (gz n 1)) 0 0 0 1 := by
 rw [gz_one, Int.tdiv_one, Int.tdiv_one]
 refine cmpZ_zero ?_
 rw [Int.mul_one, Int.mul_one, Int.sub_zero, sideZ_sg _ _ _ (by omega)]
 have hs := sgS_spec r (if n = 0 then 0 else -1) n
 by_cases h0 : n = 0
 ·rw [if_pos h0] at hs ⊢
  omega
 ·rw [if_neg h0] at hs ⊢
  rw [show (-1 : Int) * -1 * n = n by grind] at hs
  have : 0 < r := by
   apply Classical.byContradiction
   intro h1
   obtain rfl : r = 0 := by omega
   omega
  omega
theorem scaled {c q n : Int} (hq : 1 ≤ q) (hc : 0 ≤ c) (hn : n = q * c) : n.tdiv (gz n (q * q)) = c.tdiv (gz c q) ∧ (q * q).tdiv (gz n (q * q)) = q.tdiv (gz c q) ∧ (n = 0 ↔ c = 0) := by
 subst hn
 have e : gz (q * c) (q * q) = q * gz c q := by
  unfold gz
  rw [Int.natAbs_mul, Int.natAbs_mul, Nat.gcd_mul_left, Int.natCast_mul]
  congr 1
  omega
 rw [e, Int.mul_tdiv_mul_of_pos _ _ (by omega), Int.mul_tdiv_mul_of_pos _ _ (by omega)]
 refine ⟨rfl, rfl, fun h => ?_, fun h => by rw [h, Int.mul_zero]⟩
 rcases Int.mul_eq_zero.1 h with h | h
 ·omega
 ·exact h
theorem cmp_scaled {c q n : Int} (hq : 1 ≤ q) (hq2 : q ≤ l256) (hc : 0 ≤ c) (hc2 : c ≤ l256) (hn : n = q * c) :
  RM.cmpZ 0 (if c = 0 then 0 else 1) (c.tdiv (gz c q)) (q.tdiv (gz c q)) 0 (if n = 0 then 0 else 1) (n.tdiv (gz n (q * q))) ((q * q).tdiv (gz n (q * q))) = 0 := by
 obtain ⟨e1, e2, e3⟩ := scaled hq hc hn
 rw [e1, e2, show (if n = 0 then (0 : Int) else 1) = if c = 0 then 0 else 1 by simp only [e3]]
 exact cmpZ_self (rtOf (by decide) (by decide) (.inl rfl) hc hc2 hq hq2)
section
variable {W : World} {l0 l1 : Ls} {ρ : Env}
theorem fnCmpS_ok : (fnCmpS 20).Ok Tryz.prog (IL W l0 l1) ρ := by
 intro k ts r hk hv w vs ha
 unfold fnCmpS at hv
 simp only at hv
 split at hv
 ·rename_i a s n d b t m e
  cases hb : (rtK k a s n d && same4 a s n d b t m e) with
  | false => rw [hb] at hv; cases hv
  | true =>
    rw [hb] at hv
    injection hv with hv
    subst hv
    simp only [same4, Bool.and_eq_true] at hb
    obtain ⟨b1, s1, s2, s3, s4⟩ := hb
    have s1 := T.same_eq s1
    have s2 := T.same_eq s2
    have s3 := T.same_eq s3
    have s4 := T.same_eq s4
    subst s1 s2 s3 s4
    have b1 := rtK_ok (il_root W l0 l1) hk b1
    obtain ⟨v1, r1, z1, y1, rfl, e1, k1, ha⟩ := RArgs.cons ha
    obtain ⟨v2, r2, z2, y2, rfl, e2, k2, ha⟩ := RArgs.cons ha
    obtain ⟨rfl, rfl⟩ := RArgs.nil ha
    injection e1 with e1 f1
    subst f1
    injection e2 with e2 f2
    subst e1 e2
    refine (vcmp2_c v1 v2 _ _ _ _ _ _ _ _ w k1 k2 b1 b1).mono ?_
    rintro x w' ⟨rfl, hb⟩
    refine ⟨⟨id, (fun _ _ hj => nomatch hj), ?_⟩, hb⟩
    rw [cmpZ_self b1]
    rfl
 ·cases hv
theorem fnCase_ok {a : T} {s : Int} {n d x y u v p q l : T} (h : ptZ (ρ.i 0) (ρ.i 1) (ρ.i 2) (ρ.i 3) (ρ.i 4) (ρ.i 5) (ρ.i 6) (ρ.i 7) (ρ.i 8) = mkPt (a.den (IL W l0 l1) ρ) s (n.den (IL W l0 l1) ρ) (d.den (IL W l0 l1) ρ) (x.den (IL W l0 l1) ρ) (y.den (IL W l0 l1) ρ) (u.den (IL W l0 l1) ρ) (v.den (IL W l0 l1) ρ) (p.den (IL W l0 l1) ρ) (q.den (IL W l0 l1) ρ) (l.den (IL W l0 l1) ρ)) :
  (fnCase (ptR a s n d x y u v p q l)).Ok Tryz.prog (IL W l0 l1) ρ := by
 intro k ts r hk hv w vs ha
 unfold fnCase at hv
 simp only at hv
 split at hv
 ·injection hv with hv
  subst hv
  obtain ⟨v1, r1, z1, y1, rfl, e1, k1, ha⟩ := RArgs.cons ha
  obtain ⟨v2, r2, z2, y2, rfl, e2, k2, ha⟩ := RArgs.cons ha
  obtain ⟨rfl, rfl⟩ := RArgs.nil ha
  injection e1 with e1 f1
  subst f1
  injection e2 with e2 f2
  subst e1 e2
  have k1 := k1.ints
  have k2 := k2.ints
  subst k1 k2
  refine (vpoint_c _ _ _ _ _ _ _ _ _ w).mono ?_
  rintro e w' ⟨hP, hb⟩
  have hP : PtV (ptZ (ρ.i 0) (ρ.i 1) (ρ.i 2) (ρ.i 3) (ρ.i 4) (ρ.i 5) (ρ.i 6) (ρ.i 7) (ρ.i 8)) e w' := hP
  rw [h] at hP
  obtain ⟨vv, rfl, hr⟩ := hP
  obtain ⟨β, h1, h2⟩ := gives_root (il_root W l0 l1) (ρ := ρ) (a := a) (s := app2 30 (.lit s) n) (n := app2 31 n d) (d := app2 32 n d) hr
  refine ⟨⟨β, h1, ?_⟩, hb⟩
  rw [h2]
  rfl
 ·cases hv
end
end Go.Proofs.YtgnogdncoljldaaGreat.Sx

