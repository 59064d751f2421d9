
/- The numbers of the law RootBounds. -/
import Derived.Test.YtdaipflgcgefgaaGreatDoorRootEnd
import Derived.Test.YtdaipflgcgefgaaGreatDoorRootN
set_option linter.all false
namespace Go.Proofs.YtdaipflgcgefgaaGreatDoor
open Go Go.RowKit Go.Shelf

theorem sqrt_ex {D : Int} (hD : 0 < D) : ∀ M : Nat, ∃ r : Int, 0 ≤ r ∧ D * (r * r) ≤ M ∧ (M : Int) < D * ((r + 1) * (r + 1))
  | 0 => ⟨0, by decide, by simp, by simpa using hD⟩
  | M + 1 => by
    obtain ⟨r, h0, h1, h2⟩ := sqrt_ex hD M
    by_cases h : ((M + 1 : Nat) : Int) < D * ((r + 1) * (r + 1))
    · exact ⟨r, h0, by omega, h⟩
    · have e : (r + 1) * (r + 1) < (r + 1 + 1) * (r + 1 + 1) := RM.sq_lt (by omega) (by omega)
      have := Int.mul_lt_mul_of_pos_left e hD
      exact ⟨r + 1, by omega, by omega, by omega⟩
theorem rho_ex {N D : Int} (hN : 0 ≤ N) (hD : 0 < D) : ∃ r, RM.Rho N D r := by
  have hk : ∀ k : Nat, ∃ r : Int, 0 ≤ r ∧ D * (r * r) ≤ N * (k * k) ∧ N * (k * k) < D * ((r + 1) * (r + 1)) := fun k => by
    have h0 : 0 ≤ N * (k * k : Int) := Int.mul_nonneg hN (Int.mul_nonneg (by omega) (by omega))
    have h := sqrt_ex hD (N * (k * k)).toNat
    rw [Int.toNat_of_nonneg h0] at h
    exact h
  exact ⟨fun k => Classical.choose (hk k), fun k => Classical.choose_spec (hk k)⟩
theorem rt_ex {a s N D : Int} (h : RtR a s N D) : ∃ r, RM.Rt s N D r := by
  obtain ⟨r, hr⟩ := rho_ex h.n0 h.d1
  exact ⟨r, h.s1, h.n0, h.d1, h.z, hr⟩
theorem bounds_of {A s n lo hi : Int} (hs : s = -1 ∨ s = 0 ∨ s = 1) (hn : 0 ≤ n) (h : 0 ≤ lo ∧ lo * lo ≤ n * 1048576 ∧ 0 ≤ hi ∧ n * 1048576 ≤ hi * hi) {r : Nat → Int} (hr : RM.Rt (ofS s n 1) (ofN s n 1) 1 r) (k : Nat) :
    1024 * (A * k + ofS s n 1 * r k) ≤ k * bHigh A s lo hi + 1024 ∧ k * bLow A s lo hi ≤ 1024 * (A * k + ofS s n 1 * r k) + 1024 := by
  rcases hs with rfl | rfl | rfl
  · have e : ofN (-1) n 1 = n := by rw [ofN_one]; rfl
    have e2 : ofS (-1) n 1 = -n.sign := by unfold ofS; rw [e]; omega
    have hz : ofS (-1) n 1 * r k = -r k := by
      rw [e2]
      rcases (by omega : n = 0 ∨ 0 < n) with rfl | hp
      · have := hr.rho
        rw [e] at this
        rw [this.zero (by decide) k]
        rfl
      · rw [Int.sign_eq_one_of_pos hp]; omega
    rw [hz]
    have hr' := hr
    rw [e] at hr'
    have hb := RM.root_bounds (A := A) hr' h.1 h.2.1 h.2.2.1 h.2.2.2 k
    have eH : (k : Int) * bHigh A (-1) lo hi = 1024 * (A * k) - k * lo := by simp [bHigh]; grind
    have eL : (k : Int) * bLow A (-1) lo hi = 1024 * (A * k) - k * hi := by simp [bLow]; grind
    rw [eH, eL]
    omega
  · have e2 : ofS 0 n 1 = 0 := by unfold ofS; rw [Int.zero_mul]
    rw [e2, Int.zero_mul]
    have eH : (k : Int) * bHigh A 0 lo hi = 1024 * (A * k) := by simp [bHigh]; grind
    have eL : (k : Int) * bLow A 0 lo hi = 1024 * (A * k) := by simp [bLow]; grind
    rw [eH, eL]
    omega
  · have e : ofN 1 n 1 = n := by rw [ofN_one]; rfl
    have e2 : ofS 1 n 1 = n.sign := by unfold ofS; rw [e, Int.one_mul]
    have hz : ofS 1 n 1 * r k = r k := by
      rw [e2]
      rcases (by omega : n = 0 ∨ 0 < n) with rfl | hp
      · have := hr.rho
        rw [e] at this
        rw [this.zero (by decide) k]
        rfl
      · rw [Int.sign_eq_one_of_pos hp, Int.one_mul]
    rw [hz]
    have hr' := hr
    rw [e] at hr'
    have hb := RM.root_bounds (A := A) hr' h.1 h.2.1 h.2.2.1 h.2.2.2 k
    have eH : (k : Int) * bHigh A 1 lo hi = 1024 * (A * k) + k * hi := by simp [bHigh]; grind
    have eL : (k : Int) * bLow A 1 lo hi = 1024 * (A * k) + k * lo := by simp [bLow]; grind
    rw [eH, eL]
    omega
/-- What the law asks of what it has found. -/
theorem bounds_cmp {A S N lo hi A' S' N' lo' hi' : Int} (hs : S = -1 ∨ S = 0 ∨ S = 1) (hn : 0 ≤ N) (h : 0 ≤ lo ∧ lo * lo ≤ N * 1048576 ∧ 0 ≤ hi ∧ N * 1048576 ≤ hi * hi) (hs' : S' = -1 ∨ S' = 0 ∨ S' = 1) (hn' : 0 ≤ N') (h' : 0 ≤ lo' ∧ lo' * lo' ≤ N' * 1048576 ∧ 0 ≤ hi' ∧ N' * 1048576 ≤ hi' * hi')
    (hr : RtR A (ofS S N 1) (ofN S N 1) (ofD S N 1)) (hr' : RtR A' (ofS S' N' 1) (ofN S' N' 1) (ofD S' N' 1)) :
    ∃ c, c = RM.cmpZ A (ofS S N 1) (ofN S N 1) (ofD S N 1) A' (ofS S' N' 1) (ofN S' N' 1) (ofD S' N' 1) ∧ ((c = -1 ∧ bLow A S lo hi ≤ bHigh A' S' lo' hi') ∨ (c = 0 ∧ bLow A S lo hi ≤ bHigh A' S' lo' hi' ∧ bLow A' S' lo' hi' ≤ bHigh A S lo hi) ∨ (c = 1 ∧ bLow A' S' lo' hi' ≤ bHigh A S lo hi)) := by
  refine ⟨_, rfl, ?_⟩
  obtain ⟨r, t⟩ := rt_ex hr
  obtain ⟨r', t'⟩ := rt_ex hr'
  have ho := RM.cmpZ_order (A1 := A) (A2 := A') (A3 := A) t t' t
  rw [ofD_one] at t t'
  rw [ofD_one, ofD_one] at ho ⊢
  have b1 := fun k => bounds_of (A := A) hs hn h t k
  have b2 := fun k => bounds_of (A := A') hs' hn' h' t' k
  have m1 : bHigh A S lo hi < bLow A' S' lo' hi' → RM.cmpZ A (ofS S N 1) (ofN S N 1) 1 A' (ofS S' N' 1) (ofN S' N' 1) 1 < 0 := fun hl => RM.cmpZ_bounds t t' (fun k => (b1 k).1) (fun k => (b2 k).2) hl
  have m2 : bHigh A' S' lo' hi' < bLow A S lo hi → RM.cmpZ A' (ofS S' N' 1) (ofN S' N' 1) 1 A (ofS S N 1) (ofN S N 1) 1 < 0 := fun hl => RM.cmpZ_bounds t' t (fun k => (b2 k).1) (fun k => (b1 k).2) hl
  obtain ⟨o1, -, o2, -, -⟩ := ho
  generalize RM.cmpZ A (ofS S N 1) (ofN S N 1) 1 A' (ofS S' N' 1) (ofN S' N' 1) 1 = c at *
  generalize RM.cmpZ A' (ofS S' N' 1) (ofN S' N' 1) 1 A (ofS S N 1) (ofN S N 1) 1 = c' at *
  generalize bHigh A S lo hi = x1 at *
  generalize bLow A S lo hi = x2 at *
  generalize bHigh A' S' lo' hi' = x3 at *
  generalize bLow A' S' lo' hi' = x4 at *
  clear b1 b2 t t' hr hr' h h'
  by_cases q1 : x1 < x4 <;> by_cases q2 : x3 < x2
  · have := m1 q1; have := m2 q2; omega
  · have := m1 q1; omega
  · have := m2 q2; omega
  · omega
end Go.Proofs.YtdaipflgcgefgaaGreatDoor
