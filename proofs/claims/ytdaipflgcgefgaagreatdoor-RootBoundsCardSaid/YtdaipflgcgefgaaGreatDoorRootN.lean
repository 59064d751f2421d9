
/- The laws' bounds. -/
import Derived.Test.YtdaipflgcgefgaaGreatDoorRootO
import Derived.Test.YtdaipflgcgefgaaGreatDoorRootMath
import Derived.Deep.LoopGhost
set_option linter.all false
namespace Go.Proofs.YtdaipflgcgefgaaGreatDoor
open Go Go.RowKit Go.Shelf

/-- The powers of two that the search goes down by. -/
def stepP (k : Nat) : Int := ((2 ^ k : Nat) : Int)
theorem stepP_succ (k : Nat) : stepP (k + 1) = 2 * stepP k := by unfold stepP; rw [Nat.pow_succ]; omega
theorem stepP_pos (k : Nat) : 1 ≤ stepP k := by unfold stepP; have := Nat.two_pow_pos k; omega
theorem stepP_le {k : Nat} (h : k ≤ 26) : stepP k ≤ 67108864 := by unfold stepP; have : 2 ^ k ≤ 2 ^ 26 := Nat.pow_le_pow_right (by decide) h; omega
theorem mul_self_nonneg' (z : Int) : 0 ≤ z * z := by
  rcases Int.le_total 0 z with h | h
  · exact Int.mul_nonneg h h
  · have := Int.mul_nonneg (show 0 ≤ -z by omega) (show 0 ≤ -z by omega)
    rw [Int.neg_mul_neg] at this
    exact this
def bLow (a s lo hi : Int) : Int := if s = 1 then a * 1024 + lo else if s = -1 then a * 1024 - hi else a * 1024
def bHigh (a s lo hi : Int) : Int := if s = 1 then a * 1024 + hi else if s = -1 then a * 1024 - lo else a * 1024

set_option maxRecDepth 100000 in
set_option maxHeartbeats 4000000 in
theorem lawBounds_ok (a s n : Int) (w : World) (ha : -1000 < a ∧ a < 1000) (hs : s = -1 ∨ s = 0 ∨ s = 1) (hn : 0 ≤ n ∧ n < 100000) :
    Calls Tryz.prog 31 #[.int .i64 a, .int .i64 s, .int .i64 n] w fun e w' => ∃ lo hi, e = .returned (.tuple #[.int .i64 (bLow a s lo hi), .int .i64 (bHigh a s lo hi)]) ∧ (0 ≤ lo ∧ lo * lo ≤ n * 1048576 ∧ 0 ≤ hi ∧ n * 1048576 ≤ hi * hi) ∧ Ext w w' := by
  have Ha := Lib.hid ha
  have Hs := Lib.hid hs
  have Hn := Lib.hid hn
  clear ha hs hn
  go_enter Tryz.func31, Tryz.ntmps31
  go_wp2_with fail
  go_loopg [8, 9] 26 (fun gk lo st wr => gk ≤ 26 ∧ ∃ z : Int, lo = .int .i64 z ∧ st = .int .i64 (stepP gk / 2) ∧ 0 ≤ z ∧ z + stepP gk ≤ 67108864 ∧ z * z ≤ n * 1048576 ∧ n * 1048576 < (z + stepP gk) * (z + stepP gk) ∧ Ext w wr)
  case atStart =>
    have e26 : stepP 26 = 67108864 := by decide
    rw [e26]
    exact ⟨by decide, 0, rfl, rfl, by decide, by decide, by have := Hn.out; omega, by have := Hn.out; omega, Ext.refl _⟩
  case round =>
    obtain ⟨hk, z, rfl, rfl, h0, h1, h2, h3, hE⟩ := hrel
    have hT : 0 ≤ n * 1048576 ∧ n * 1048576 ≤ 104857600000 := by have := Hn.out; omega
    have w2 : wrap64 (n * 1048576) = n * 1048576 := by unfold wrap64; omega
    rcases gk with _ | k
    · have e0 : stepP 0 / 2 = 0 := by decide
      have e1 : stepP 0 = 1 := by decide
      rw [e0]
      rw [e1] at h1 h3
      have w1 : wrap64 (z * z) = z * z := by have := mul_self_nonneg' z; unfold wrap64; omega
      have w8 : wrap64 (z + 1) = z + 1 := by unfold wrap64; omega
      have w3 : wrap64 (a * 1024) = a * 1024 := by have := Ha.out; unfold wrap64; omega
      have w4 : wrap64 (a * 1024 + z) = a * 1024 + z := by have := Ha.out; unfold wrap64; omega
      have w5 : wrap64 (a * 1024 + (z + 1)) = a * 1024 + (z + 1) := by have := Ha.out; unfold wrap64; omega
      have w6 : wrap64 (a * 1024 - z) = a * 1024 - z := by have := Ha.out; unfold wrap64; omega
      have w7 : wrap64 (a * 1024 - (z + 1)) = a * 1024 - (z + 1) := by have := Ha.out; unfold wrap64; omega
      have R1 : Hid (n * 1048576 < (z + 1) * (z + 1)) := Lib.hid h3
      have R2 := Lib.hid h0
      have R3 := Lib.hid h2
      have R4 := Lib.hid hE
      clear h3 h0 h1 h2 hE hk hT
      rcases Hs.out with rfl | rfl | rfl
      · by_cases hz : z * z < n * 1048576
        · go_wp2
          go_ret2
          exact ⟨z, z + 1, by simp [bLow, bHigh], ⟨R2.out, R3.out, by have := R2.out; omega, by have := R1.out; omega⟩, R4.out⟩
        · go_wp2
          go_ret2
          exact ⟨z, z, by simp [bLow, bHigh], ⟨R2.out, R3.out, R2.out, by omega⟩, R4.out⟩
      · by_cases hz : z * z < n * 1048576
        · go_wp2
          go_ret2
          exact ⟨z, z + 1, by simp [bLow, bHigh], ⟨R2.out, R3.out, by have := R2.out; omega, by have := R1.out; omega⟩, R4.out⟩
        · go_wp2
          go_ret2
          exact ⟨z, z, by simp [bLow, bHigh], ⟨R2.out, R3.out, R2.out, by omega⟩, R4.out⟩
      · by_cases hz : z * z < n * 1048576
        · go_wp2
          go_ret2
          exact ⟨z, z + 1, by simp [bLow, bHigh], ⟨R2.out, R3.out, by have := R2.out; omega, by have := R1.out; omega⟩, R4.out⟩
        · go_wp2
          go_ret2
          exact ⟨z, z, by simp [bLow, bHigh], ⟨R2.out, R3.out, R2.out, by omega⟩, R4.out⟩
    · rw [stepP_succ] at *
      have hp := stepP_pos k
      have hq : 2 * stepP k / 2 = stepP k := by omega
      rw [hq]
      obtain ⟨p, hpp⟩ : ∃ p, p = stepP k := ⟨_, rfl⟩
      rw [← hpp] at h1 h3 hp ⊢
      have HP := Lib.hid hpp
      have hpb : (z + p) * (z + p) ≤ 67108864 * 67108864 := Int.mul_le_mul (by omega) (by omega) (by omega) (by decide)
      have hpn : 0 ≤ (z + p) * (z + p) := Int.mul_nonneg (by omega) (by omega)
      have w1 : wrap64 ((z + p) * (z + p)) = (z + p) * (z + p) := by unfold wrap64; omega
      have w3 : wrap64 (z + p) = z + p := by unfold wrap64; omega
      have w4 : wrap64 (p.tdiv 2) = p / 2 := by rw [Int.tdiv_eq_ediv_of_nonneg (by omega)]; unfold wrap64; omega
      have HK := Lib.hid hk
      have R0 := Lib.hid h0
      have R1 := Lib.hid h1
      have R2 := Lib.hid h2
      have R3 := Lib.hid h3
      have R4 := Lib.hid hE
      have hp1 : 0 < p := by omega
      clear hpb hpn hk h0 h2 h3 hE hpp hq hT hp
      by_cases hc : (z + p) * (z + p) ≤ n * 1048576
      · go_wp2
        go_roundg k
        case measure => omega
        case rel => exact ⟨by have := HK.out; omega, z + p, by first | rfl | rw [w3], by first | (rw [w4, ← HP.out]) | rw [← HP.out], by have := R0.out; omega, by rw [← HP.out]; have := R1.out; omega, hc, by rw [← HP.out, show z + p + p = z + 2 * p by omega]; exact R3.out, R4.out⟩
      · go_wp2
        go_roundg k
        case measure => omega
        case rel => exact ⟨by have := HK.out; omega, z, rfl, by rw [← HP.out], R0.out, by rw [← HP.out]; have := R1.out; omega, R2.out, by rw [← HP.out]; omega, R4.out⟩
end Go.Proofs.YtdaipflgcgefgaaGreatDoor
