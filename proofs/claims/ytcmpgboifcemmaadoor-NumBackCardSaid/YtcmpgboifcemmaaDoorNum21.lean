/- Layer 1: commonWord. -/
import Derived.Test.YtcmpgboifcemmaaDoorNum20
set_option linter.all false
namespace Go.Proofs.YtcmpgboifcemmaaDoor
open Go Go.RowKit Go.Shelf

set_option maxRecDepth 100000 in
set_option maxHeartbeats 2000000 in
theorem commonWord_calls (x y : Nat) (hx : x < 18446744073709551616) (hy : y < 18446744073709551616) (w : World) :
    Calls Tryd.prog 55 #[.int .u64 x, .int .u64 y] w fun e w' => e = .returned (.int .u64 (Nat.gcd x y : Nat)) ∧ Below w.heap.size w w' := by
  go_enter Tryd.func55, Tryd.ntmps55
  go_wp2
  go_loopw [0, 1] (fun a c wr => ∃ u v : Nat, a = .int .u64 u ∧ c = .int .u64 v ∧ u < 18446744073709551616 ∧ v < 18446744073709551616 ∧ Nat.gcd u v = Nat.gcd x y ∧ Below w.heap.size w wr) (fun _ c _ => (intOf c).toNat)
  case atStart => exact ⟨x, y, rfl, rfl, hx, hy, rfl, Below.refl _ _⟩
  case round =>
    obtain ⟨u, v, rfl, rfl, hu, hv, hg, hB⟩ := hrel
    have Hg := Lib.hid hg
    by_cases h0 : v = 0
    · subst h0
      have hgg : Nat.gcd x y = u := by rw [← hg, Nat.gcd_zero_right]
      have Hgg := Lib.hid hgg
      clear hg hgg
      go_wp2
      go_ret
      exact ⟨by rw [Hgg.out]; rfl, hB⟩
    · have ht : ((v : Int) != 0) = true := by simp [h0]
      have ht2 : ((v : Int) == 0) = false := by simp [h0]
      have ht3 : ¬ ((v : Int) = 0) := by omega
      have hmod : (u : Int).tmod (v : Int) = ((u % v : Nat) : Int) := (Int.ofNat_tmod u v)
      clear hg
      go_wp2
      go_region
      all_goals go_wp2
      all_goals
        rw [show (u : Int) % (v : Int) = ((u % v : Nat) : Int) from (Int.natCast_emod u v).symm]
        have hlt := Nat.mod_lt u (Nat.pos_of_ne_zero h0)
        refine ⟨⟨v, u % v, rfl, rfl, hv, by omega, ?_, hB.drew⟩, ?_⟩
        · rw [← Hg.out, Nat.gcd_comm, ← Nat.gcd_rec, Nat.gcd_comm]
        · show ((u % v : Nat) : Int).toNat < ((v : Nat) : Int).toNat
          omega

end Go.Proofs.YtcmpgboifcemmaaDoor
