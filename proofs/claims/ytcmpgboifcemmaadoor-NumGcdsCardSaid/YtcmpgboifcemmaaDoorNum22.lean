/- Layer 1: bits.Div32. -/
import Derived.Test.YtcmpgboifcemmaaDoorNum21
set_option linter.all false
namespace Go.Proofs.YtcmpgboifcemmaaDoor
open Go Go.RowKit Go.Shelf

theorem div32_bound {h l y : Nat} (hy : y < 4294967296) (hl : l < 4294967296) (hlt : h < y) : (h * 4294967296 + l) / y < 4294967296 := by
  rw [Nat.div_lt_iff_lt_mul (by omega)]
  have : (h + 1) * 4294967296 ≤ y * 4294967296 := Nat.mul_le_mul_right _ hlt
  omega

set_option maxRecDepth 100000 in
set_option maxHeartbeats 2000000 in
theorem div32_calls (h l y : Nat) (hl : l < 4294967296) (hy : y < 4294967296) (hlt : h < y) (w : World) :
    Calls Tryd.prog 57 #[.int .u32 h, .int .u32 l, .int .u32 y] w fun e w' => e = .returned (.tuple #[.int .u32 ((h * 4294967296 + l) / y : Nat), .int .u32 ((h * 4294967296 + l) % y : Nat)]) ∧ Below w.heap.size w w' := by
  have h0 : ((y : Int) != 0) = true := by simp; omega
  have h1 : ¬ ((y : Int) ≤ (h : Int)) := by omega
  have h1' : decide ((y : Int) ≤ (h : Int)) = false := by simp; omega
  have hy0 : ¬ ((y : Int) = 0) := by omega
  have hjoin : bits .or .u64 ((h : Int) * 4294967296) (l : Int) = ((h * 4294967296 + l : Nat) : Int) := by
    rw [bits_join .u64 64 (by decide) (fun n h0 h1 => by rw [IntKind.wrap_u64]; omega) 32 _ _ (by omega) (by omega) (by omega) (by omega) (by omega) (by omega)]
    omega
  obtain ⟨z, hz⟩ : ∃ z : Nat, z = h * 4294967296 + l := ⟨_, rfl⟩
  rw [← hz]
  have hq : z / y < 4294967296 := by rw [hz]; exact div32_bound hy hl hlt
  have hr : z % y < 4294967296 := Nat.lt_trans (Nat.mod_lt z (by omega)) hy
  have hz64 : z < 18446744073709551616 := by omega
  have e1 : (z : Int) / (y : Int) = ((z / y : Nat) : Int) := (Int.natCast_ediv z y).symm
  have e2 : (z : Int) % (y : Int) = ((z % y : Nat) : Int) := (Int.natCast_emod z y).symm
  generalize z / y = q at *
  generalize z % y = r at *
  have hzI : (h : Int) * 4294967296 + (l : Int) = (z : Int) := by omega
  have E1 := Lib.hid e1
  have E2 := Lib.hid e2
  have HzI := Lib.hid hzI
  clear e1 e2 hzI
  go_enter Tryd.func57, Tryd.ntmps57
  go_wp2
  rw [HzI.out]
  have e1 := E1.out
  have e2 := E2.out
  have w1 : IntKind.u64.wrap (y : Int) = y := by rw [IntKind.wrap_u64]; omega
  have w2 : IntKind.u64.wrap (q : Int) = q := by rw [IntKind.wrap_u64]; omega
  have w3 : IntKind.u64.wrap (r : Int) = r := by rw [IntKind.wrap_u64]; omega
  have w4 : IntKind.u32.wrap (q : Int) = q := by rw [IntKind.wrap_u32]; omega
  have w5 : IntKind.u32.wrap (r : Int) = r := by rw [IntKind.wrap_u32]; omega
  have t1 : (z : Int).tdiv (y : Int) = (q : Int) := by rw [← e1]; exact Int.tdiv_eq_ediv_of_nonneg (by omega)
  have t2 : (z : Int).tmod (y : Int) = (r : Int) := by rw [← e2]; exact Int.tmod_eq_emod_of_nonneg (by omega)
  clear hz hjoin
  go_region
  all_goals go_wp2
  all_goals go_ret2
  all_goals exact ⟨rfl, (Below.refl _ w).drew⟩

end Go.Proofs.YtcmpgboifcemmaaDoor
