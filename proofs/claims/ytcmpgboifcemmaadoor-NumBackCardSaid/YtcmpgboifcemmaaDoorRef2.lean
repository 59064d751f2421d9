/- The reference of layer 1: trim. -/
import Derived.Test.YtcmpgboifcemmaaDoorRef1
import Derived.WalkKit
set_option linter.all false
namespace Go.Proofs.YtcmpgboifcemmaaDoor
open Go Go.RowKit Go.Shelf

theorem strip_all_above {ds : List Nat} {k : Nat} (hk : k ≤ ds.length) (hz : ∀ j, k ≤ j → j < ds.length → ds[j]?.getD 0 = 0) : (strip ds).length ≤ k := by
  have e : ds = ds.take k ++ ds.drop k := (List.take_append_drop k ds).symm
  have hz' : ∀ d ∈ ds.drop k, d = 0 := fun d hd => by
    obtain ⟨j, hj⟩ := List.getElem?_of_mem hd
    rw [List.getElem?_drop] at hj
    have hlt := (List.getElem?_eq_some_iff.1 hj).1
    have := hz (k + j) (by omega) hlt
    rw [hj] at this; exact this
  rw [e, strip_append_zero hz']
  exact Nat.le_trans (strip_length_le _) (by rw [List.length_take]; omega)

set_option maxRecDepth 100000 in
set_option maxHeartbeats 2000000 in
theorem trim_calls (p : Option Addr) (cap : Nat) (ds : List Nat) (w : World) (hu : U32s w.heap.size w (.slice p ds.length cap) ds) (hcap : (strip ds).length = ds.length ∨ ds.length ≤ cap) :
    Calls Tryd.prog 42 #[.slice p ds.length cap] w fun e w' => e = .returned (.slice p (strip ds).length cap) ∧ Ext w w' := by
  obtain ⟨p', cap', he, hl, hc⟩ := hu
  cases he
  have hlm := digs_lt_maxLen hl
  have Hc := Lib.hid hc
  have Hcap := Lib.hid hcap
  obtain ⟨n, hn⟩ : ∃ n, n = ds.length := ⟨_, rfl⟩
  rw [← hn] at hlm ⊢
  have Hn := Lib.hid hn
  clear hc hcap hl hn
  go_enter Tryd.func42, Tryd.ntmps42
  go_wp2
  go_loopw [0] (fun i wr => ∃ k : Nat, k ≤ n ∧ i = .slice p k cap ∧ (∀ j, k ≤ j → j < n → ds[j]?.getD 0 = 0) ∧ Ext w wr) (fun i _ => match i with | .slice _ k _ => k | _ => 0)
  case atStart => exact ⟨n, Nat.le_refl _, rfl, fun j a b => by omega, Ext.refl _⟩
  case round =>
    obtain ⟨k, hk, rfl, hz, hB⟩ := hrel
    by_cases h0 : k = 0
    · subst h0
      have HB := Lib.hid hB
      have hs : (strip ds).length = 0 := by
        have := strip_length_zero (ds := ds) (fun j hj => hz j (Nat.zero_le _) (by rw [Hn.out]; exact hj))
        rw [this]; rfl
      have Hs := Lib.hid hs
      clear hB hz hs
      go_wp2
      go_ret
      exact ⟨by rw [Hs.out]; rfl, HB.out⟩
    · obtain ⟨j, rfl⟩ : ∃ j, k = j + 1 := ⟨k - 1, by omega⟩
      have hnl := Hn.out
      obtain ⟨b, off, rfl, hb, hcs⟩ := Hc.out (by omega)
      have h1 := (Below.cell hB (p := ⟨b, off + j, none⟩) hb).trans (hcs j (by omega))
      have hd0 : ds[j]?.getD 0 = 0 ∨ ds[j]?.getD 0 ≠ 0 := Nat.eq_zero_or_pos _ |>.imp id (by omega)
      have Hz := Lib.hid hz
      have HB := Lib.hid hB
      rcases hd0 with hd | hd
      · rw [hd] at h1
        have hc2 : j + 1 ≤ cap := by
          rcases Hcap.out with h | h
          · have hz2 : ∀ i, j ≤ i → i < ds.length → ds[i]?.getD 0 = 0 := fun i a b => by
              by_cases e : i = j
              · subst e; exact hd
              · exact hz i (by omega) (by omega)
            have := strip_all_above (ds := ds) (k := j) (by omega) hz2
            omega
          · omega
        have Hd := Lib.hid hd
        clear hcs hB hz hd hnl
        go_wp2
        go_roundw
        case rel =>
          refine ⟨j, by omega, by congr 1, fun i a b => ?_, HB.out⟩
          by_cases e : i = j
          · subst e; exact Hd.out
          · exact Hz.out i (by omega) b
        case measure => simp
      · have hs : (strip ds).length = j + 1 := strip_length_of (by omega) hd (fun i a b => hz i (by omega) (by omega))
        have hdn : ((ds[j]?.getD 0 : Nat) : Int) ≠ 0 := by omega
        have Hs := Lib.hid hs
        generalize ds[j]?.getD 0 = d at *
        clear hcs hB hz hnl hs
        go_wp2
        go_ret
        exact ⟨by rw [Hs.out]; rfl, HB.out⟩

end Go.Proofs.YtcmpgboifcemmaaDoor
