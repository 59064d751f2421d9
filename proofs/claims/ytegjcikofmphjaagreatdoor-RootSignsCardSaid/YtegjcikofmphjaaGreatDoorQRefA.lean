/- Texts that belong together. -/
import Derived.Test.YtegjcikofmphjaaGreatDoorQRef9
set_option linter.all false
/- The reference of layer 1: Right. -/
namespace Go.Proofs.YtegjcikofmphjaaGreatDoor
open Go Go.RowKit Go.Shelf
set_option maxRecDepth 100000 in
set_option maxHeartbeats 2000000 in
theorem rright_calls (neg : Bool) (v : Value) (ds : List Nat) (w : World) (hu : U32s w.heap.size w v ds) :
    Calls Tryz.prog 40 #[.agg #[.bool neg, v]] w fun e w' => e = .returned (.bool (rightB neg ds)) ∧ Ext w w' := by
  obtain ⟨p, cap, rfl, hl, hc⟩ := hu
  have hlm := digs_lt_maxLen hl
  clear hl
  by_cases h0 : ds.length = 0
  · have hr : rightB neg ds = !neg := by simp [rightB, h0]
    rw [hr, h0]
    clear hr hc hlm h0
    cases neg
    · go_enter Tryz.func40, Tryz.ntmps40
      go_wp2
      go_ret
      exact ⟨rfl, Ext.alloc _ _⟩
    · go_enter Tryz.func40, Tryz.ntmps40
      go_wp2
      go_ret
      exact ⟨rfl, Ext.alloc _ _⟩
  · obtain ⟨b, off, rfl, hB, hc⟩ := hc (by omega)
    have hlast := hc (ds.length - 1) (by omega)
    obtain ⟨n, hn⟩ : ∃ n, ds.length = n + 1 := ⟨ds.length - 1, by omega⟩
    rw [hn, Nat.add_sub_cancel] at hlast
    obtain ⟨d, hd⟩ : ∃ d, d = ds[n]?.getD 0 := ⟨_, rfl⟩
    rw [← hd] at hlast
    have hr : rightB neg ds = (decide (n + 1 ≤ 64) && (d != 0)) := by simp [rightB, hn, hd]
    rw [hr, hn]
    clear hr hd hc h0
    rw [hn] at hlm
    clear hn
    have hn0 : ((n : Int) + 1 == 0) = false := by simp; omega
    by_cases h64 : n + 1 ≤ 64
    · by_cases hz : d = 0
      · subst hz
        go_enter Tryz.func40, Tryz.ntmps40
        go_wp2
        go_ret
        exact ⟨by simp, Ext.alloc _ _⟩
      · have hz2 : ((d : Int) != 0) = true := by simp [hz]
        go_enter Tryz.func40, Tryz.ntmps40
        go_wp2
        go_ret
        exact ⟨by simp [h64, hz], Ext.alloc _ _⟩
    · go_enter Tryz.func40, Tryz.ntmps40
      go_wp2
      go_ret
      exact ⟨by simp [h64], Ext.alloc _ _⟩
end Go.Proofs.YtegjcikofmphjaaGreatDoor

