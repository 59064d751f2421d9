/- Texts that belong together. -/
import Derived.Test.YtegjcikofmphjaaGreatDoorQRefs
import Derived.WalkKit
import Derived.Deep.QuietTactic
import Derived.BigQuiet
set_option linter.all false
/- The reference of layer 1: compare. -/
namespace Go.Proofs.YtegjcikofmphjaaGreatDoor
open Go Go.RowKit Go.Shelf
def NewS (lo : Nat) (v : Value) : Prop := ∀ b off n c, v = .slice (some ⟨b, off, none⟩) n c → lo ≤ b
theorem Owns.newS {w : World} {base : Nat} {v : Value} {ds : List Nat} (h : Owns w base v ds) : NewS base v := by
  obtain ⟨hl, ⟨rfl, h0⟩ | ⟨g, cap, cur, rfl, hb, -⟩⟩ := h
  · intro b off n c e; cases e
  · intro b off n c e; cases e; exact hb
theorem NewS.cut {lo n k cap : Nat} {p : Option Addr} (h : NewS lo (.slice p n cap)) : NewS lo (.slice p k cap) := fun b off m c e => by cases e; exact h b off n cap rfl
theorem U32s.strip {B : Nat} {w : World} {p : Option Addr} {cap : Nat} {ds : List Nat} (h : U32s B w (.slice p ds.length cap) ds) : U32s B w (.slice p (strip ds).length cap) (strip ds) := by
  obtain ⟨q, cap2, he, hl, hc⟩ := h
  cases he
  have hle := strip_length_le ds
  refine ⟨p, cap, rfl, by omega, fun h0 => ?_⟩
  obtain ⟨b, off, rfl, hb, hcs⟩ := hc (by omega)
  refine ⟨b, off, rfl, hb, fun j hj => ?_⟩
  rw [hcs j (by omega)]
  congr 3
  have := strip_take ds
  rw [← this, List.getElem?_take_of_lt hj]
theorem trim_digs {p : Option Addr} {cap n : Nat} {ds : List Nat} {w : World} (hn : ds.length = n) (hu : U32s w.heap.size w (.slice p n cap) ds) (hcap : (Go.Proofs.YtegjcikofmphjaaGreatDoor.strip ds).length = n ∨ n ≤ cap) (hd : Digits ds) :
    Calls Tryz.prog 81 #[.slice p n cap] w fun e w' => ∃ k, e = .returned (.slice p k cap) ∧ k = (digs (val ds)).length ∧ k ≤ n ∧ U32s w'.heap.size w' (.slice p k cap) (digs (val ds)) ∧ Ext w w' := by
  subst hn
  refine (trim_calls p cap ds w hu hcap).mono fun e w' ⟨he, hx⟩ => ⟨_, he, ?_⟩
  rw [← strip_digs hd]
  exact ⟨rfl, strip_length_le ds, (hx.u32s hu).strip, hx⟩
set_option maxRecDepth 100000 in
set_option maxHeartbeats 4000000 in
theorem compare_calls (v u : Value) (xs ys : List Nat) (w : World) (hx : U32s w.heap.size w v xs) (hy : U32s w.heap.size w u ys) (hdx : Digits xs) (hdy : Digits ys) :
    Calls Tryz.prog 70 #[v, u] w fun e w' => e = .returned (.int .i64 (cmpL xs ys)) ∧ Ext w w' := by
  obtain ⟨p, cap, rfl, hl, hc⟩ := hx
  obtain ⟨q, cap2, rfl, hl2, hc2⟩ := hy
  have hlm := digs_lt_maxLen hl
  have hlm2 := digs_lt_maxLen hl2
  by_cases he : xs.length = ys.length
  · rw [cmpL_len he]
    rw [← he] at hc2 ⊢
    obtain ⟨n, hn⟩ : ∃ n, n = xs.length := ⟨_, rfl⟩
    rw [← hn] at hlm ⊢
    have Hc := Lib.hid hc
    have Hc2 := Lib.hid hc2
    have Hn := Lib.hid hn
    have He := Lib.hid he
    clear hc hc2 hl hl2 hlm2 hn he
    go_enter Tryz.func70, Tryz.ntmps70
    go_wp2
    go_loopw [5] (fun i wr => ∃ k : Nat, k ≤ n ∧ i = .int .i64 ((k : Int) - 1) ∧ xs.drop k = ys.drop k ∧ Ext w wr) (fun i _ => (intOf i + 1).toNat)
    case atStart => exact ⟨n, Nat.le_refl _, rfl, by rw [List.drop_eq_nil_of_le (by rw [Hn.out]; exact Nat.le_refl _), List.drop_eq_nil_of_le (by rw [Hn.out, He.out]; exact Nat.le_refl _)], Ext.refl _⟩
    case round =>
      obtain ⟨k, hk, rfl, hdr, hB⟩ := hrel
      have Hdr := Lib.hid hdr
      have HB := Lib.hid hB
      by_cases h0 : k = 0
      · subst h0
        have hs : sgn (val xs) (val ys) = 0 := by
          have : xs = ys := by simpa using hdr
          rw [this]; exact sgn_eq _
        have Hs := Lib.hid hs
        clear hB hdr hs
        go_wp2
        go_ret
        exact ⟨by rw [Hs.out]; rfl, HB.out⟩
      · obtain ⟨j, rfl⟩ : ∃ j, k = j + 1 := ⟨k - 1, by omega⟩
        have hj : ((j + 1 : Nat) : Int) - 1 = (j : Int) := by omega
        rw [hj]
        have hnn := Hn.out
        obtain ⟨b, off, rfl, hb, hcs⟩ := Hc.out (by omega)
        obtain ⟨b2, off2, rfl, hb2, hcs2⟩ := Hc2.out (by omega)
        have h1 := (Below.cell hB (p := ⟨b, off + j, none⟩) hb).trans (hcs j (by omega))
        have h2 := (Below.cell hB (p := ⟨b2, off2 + j, none⟩) hb2).trans (hcs2 j (by omega))
        have hjI : (j : Int) < (n : Int) := by omega
        have hj0 : (0 : Int) ≤ (j : Int) := by omega
        have hlx : j < xs.length := by omega
        have hly : j < ys.length := by have := He.out; omega
        obtain ⟨d, hd⟩ : ∃ d, d = xs[j]?.getD 0 := ⟨_, rfl⟩
        obtain ⟨f, hf⟩ : ∃ f, f = ys[j]?.getD 0 := ⟨_, rfl⟩
        rw [← hd] at h1
        rw [← hf] at h2
        have Hd := Lib.hid hd
        have Hf := Lib.hid hf
        rcases Nat.lt_trichotomy d f with hlt | heq | hgt
        · have hr : sgn (val xs) (val ys) = -1 := sgn_lt (val_lt_of_digit He.out hdx hlx hdr (by rw [← hd, ← hf]; exact hlt))
          have Hr := Lib.hid hr
          have hdd : (d : Int) < (f : Int) := by omega
          clear hcs hcs2 hB h0 hr hd hf hlx hly hnn hdr hlt
          go_wp2
          go_quiet (fail)
          go_wp2
          go_ret
          exact ⟨by rw [Hr.out]; rfl, HB.out.trans (Ext.drewN _ _)⟩
        · subst heq
          have hz2 := drop_eq_cons hlx hly hdr (by rw [← hd, ← hf])
          have Hz2 := Lib.hid hz2
          have hdd : ¬ ((d : Int) < (d : Int)) := by omega
          clear hcs hcs2 hB h0 hd hf hlx hly hnn hdr hz2
          go_wp2
          go_quiet (fail)
          go_wp2
          go_quiet (fail)
          go_wp2
          go_roundw
          case rel => exact ⟨j, by omega, by congr 1, Hz2.out, HB.out.trans (Ext.drewN _ _)⟩
          case measure => simp [intOf]
        · have hr : sgn (val xs) (val ys) = 1 := sgn_gt (val_lt_of_digit He.out.symm hdy hly hdr.symm (by rw [← hd, ← hf]; exact hgt))
          have Hr := Lib.hid hr
          have hdd : ¬ (d : Int) < (f : Int) := by omega
          have hdd2 : (f : Int) < (d : Int) := by omega
          clear hcs hcs2 hB h0 hr hd hf hlx hly hnn hdr hgt
          go_wp2
          go_quiet (fail)
          go_wp2
          go_quiet (fail)
          go_wp2
          go_ret
          exact ⟨by rw [Hr.out]; rfl, (HB.out.trans (Ext.drewN _ _)).trans (Ext.drewN _ _)⟩
  · by_cases hlt : xs.length < ys.length
    · have hr : cmpL xs ys = -1 := by unfold cmpL; rw [if_pos hlt]
      rw [hr]
      generalize xs.length = n at *
      generalize ys.length = m at *
      have h1 : (n : Int) < (m : Int) := by omega
      have h2 : ((n : Int) != (m : Int)) = true := by simp; omega
      clear hc hc2 hl hl2 hr
      go_enter Tryz.func70, Tryz.ntmps70
      go_wp2
      go_ret
      exact ⟨rfl, Ext.refl _⟩
    · have hr : cmpL xs ys = 1 := by unfold cmpL; rw [if_neg hlt, if_pos (by omega)]
      rw [hr]
      generalize xs.length = n at *
      generalize ys.length = m at *
      have h1 : ¬ (n : Int) < (m : Int) := by omega
      have h2 : ((n : Int) != (m : Int)) = true := by simp; omega
      clear hc hc2 hl hl2 hr
      go_enter Tryz.func70, Tryz.ntmps70
      go_wp2
      go_ret
      exact ⟨rfl, Ext.refl _⟩
end Go.Proofs.YtegjcikofmphjaaGreatDoor

