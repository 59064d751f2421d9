/- Texts that belong together. -/
import Derived.Test.YtegjcikofmphjaaGreatDoorQRootEnd
import Derived.Test.YtegjcikofmphjaaGreatDoorQRootO
import Derived.Test.YtegjcikofmphjaaGreatDoorQRootMath
import Derived.Deep.LoopGhost
set_option linter.all false
/- The numbers of the law RootBounds. -/
namespace Go.Proofs.YtegjcikofmphjaaGreatDoor
open Go Go.RowKit Go.Shelf
theorem sqrt_ex {D : Int} (hD : 0 < D) : ∀ M : Nat, ∃ r : Int, 0 ≤ r ∧ D * (r * r) ≤ M ∧ (M : Int) < D * ((r + 1) * (r + 1))
  | 0 => ⟨0, by decide, by simp, by simpa using hD⟩
  | M + 1 => by
    obtain ⟨r, h0, h1, h2⟩ := sqrt_ex hD M
    by_cases h : ((M + 1 : Nat) : Int) < D * ((r + 1) * (r + 1))
    · exact ⟨r, h0, by omega, h⟩
    · have e : (r + 1) * (r + 1) < (r + 1 + 1) * (r + 1 + 1) := RM.sq_lt (by omega) (by omega)
      have := Int.mul_lt_mul_of_pos_left e hD
      exact ⟨r + 1, by omega, by omega, by omega⟩
theorem rho_ex {N D : Int} (hN : 0 ≤ N) (hD : 0 < D) : ∃ r, RM.Rho N D r := by
  have hk : ∀ k : Nat, ∃ r : Int, 0 ≤ r ∧ D * (r * r) ≤ N * (k * k) ∧ N * (k * k) < D * ((r + 1) * (r + 1)) := fun k => by
    have h0 : 0 ≤ N * (k * k : Int) := Int.mul_nonneg hN (Int.mul_nonneg (by omega) (by omega))
    have h := sqrt_ex hD (N * (k * k)).toNat
    rw [Int.toNat_of_nonneg h0] at h
    exact h
  exact ⟨fun k => Classical.choose (hk k), fun k => Classical.choose_spec (hk k)⟩
theorem rt_ex {a s N D : Int} (h : RtR a s N D) : ∃ r, RM.Rt s N D r := by
  obtain ⟨r, hr⟩ := rho_ex h.n0 h.d1
  exact ⟨r, h.s1, h.n0, h.d1, h.z, hr⟩
end Go.Proofs.YtegjcikofmphjaaGreatDoor

