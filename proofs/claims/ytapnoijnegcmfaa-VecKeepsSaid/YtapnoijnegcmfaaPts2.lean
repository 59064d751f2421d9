/- vec and its reference: more functions on points. -/
import Derived.Test.YtapnoijnegcmfaaOps
import Derived.LoopN
set_option linter.all false
namespace Go.Proofs.Ytapnoijnegcmfaa
open Go Go.RowKit Go.Shelf

theorem inB_and (x y : Int) : (inB x && inB y) = rightB x y := by unfold inB rightB; rw [← Bool.decide_and]; congr 1; simp; omega
set_option maxRecDepth 100000 in
set_option maxHeartbeats 1000000 in
theorem vright (x y : Int) (w : World) : Calls Try.prog 9 #[.agg #[.int .i64 x, .int .i64 y]] w fun e w' => e = .returned (.bool (rightB x y)) ∧ Ext w w' := by
  rw [← inB_and]
  obtain ⟨b, hb⟩ : ∃ b, b = inB x := ⟨_, rfl⟩
  obtain ⟨c, hc⟩ : ∃ c, c = inB y := ⟨_, rfl⟩
  have h1 := vbounded x
  have h2 := vbounded y
  rw [← hb] at h1
  rw [← hc] at h2
  have H1 := Lib.hid h1
  have H2 := Lib.hid h2
  rw [← hb, ← hc]
  clear hb hc h1 h2
  cases b
  · go_enter Try.func9, Try.ntmps9
    go_wp2_with (refine (H1.out _).mono ?_; rintro e w' ⟨rfl, rfl⟩)
    go_ret
    exact ⟨rfl, Ext.alloc _ _⟩
  · go_enter Try.func9, Try.ntmps9
    go_wp2_with fail
    refine (H1.out _).mono ?_; rintro e w' ⟨rfl, rfl⟩
    go_wp2_with fail
    refine (H2.out _).mono ?_; rintro e w' ⟨rfl, rfl⟩
    go_wp2_with fail
    go_ret
    exact ⟨by simp, Ext.alloc _ _⟩
set_option maxRecDepth 100000 in
set_option maxHeartbeats 1000000 in
theorem rright (x y : Int) (w : World) : Calls Try.prog 10 #[.agg #[.int .i64 x, .int .i64 y]] w fun e w' => e = .returned (.bool (rightB x y)) ∧ Ext w w' := by
  obtain ⟨b, hb⟩ : ∃ b, b = rightB x y := ⟨_, rfl⟩
  rw [← hb]
  unfold rightB at hb
  by_cases h1 : -67108864 ≤ x
  · by_cases h2 : x ≤ 67108864
    · by_cases h3 : -67108864 ≤ y
      · by_cases h4 : y ≤ 67108864
        · have hb' : b = true := by rw [hb]; simp; omega
          subst hb'; clear hb
          go_enter Try.func10, Try.ntmps10
          go_wp2_with fail
          go_ret
          exact ⟨rfl, Ext.alloc _ _⟩
        · have hb' : b = false := by rw [hb]; simp; omega
          subst hb'; clear hb
          go_enter Try.func10, Try.ntmps10
          go_wp2_with fail
          go_ret
          exact ⟨rfl, Ext.alloc _ _⟩
      · have hb' : b = false := by rw [hb]; simp; omega
        subst hb'; clear hb
        go_enter Try.func10, Try.ntmps10
        go_wp2_with fail
        go_ret
        exact ⟨rfl, Ext.alloc _ _⟩
    · have hb' : b = false := by rw [hb]; simp; omega
      subst hb'; clear hb
      go_enter Try.func10, Try.ntmps10
      go_wp2_with fail
      go_ret
      exact ⟨rfl, Ext.alloc _ _⟩
  · have hb' : b = false := by rw [hb]; simp; omega
    subst hb'; clear hb
    go_enter Try.func10, Try.ntmps10
    go_wp2_with fail
    go_ret
    exact ⟨rfl, Ext.alloc _ _⟩
end Go.Proofs.Ytapnoijnegcmfaa
