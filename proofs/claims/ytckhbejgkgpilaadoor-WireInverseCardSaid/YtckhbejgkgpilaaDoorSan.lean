/- What the laws of wire call: decodes, malformed, sanity. -/
import Derived.Test.YtckhbejgkgpilaaDoorLaw1
set_option linter.all false
namespace Go.Proofs.YtckhbejgkgpilaaDoor
open Go Go.RowKit Go.Shelf

/-- No value of the k-th kind begins in s. -/
def NoneK (k : Nat) (s : Bs) : Prop :=
  match k with
  | 0 => Dec serInt I64 s none
  | 1 => Dec serText TextOk s none
  | 2 => Dec (serL serInt) (AllOk I64) s none
  | _ => Dec (serL serText) (AllOk TextOk) s none
theorem noneK_empty (k : Nat) : NoneK k [] := by
  match k with
  | 0 => exact dec_empty (serNum_ne 59)
  | 1 => exact dec_empty serText_ne
  | 2 => exact dec_empty (serL_ne _)
  | _ + 3 => exact dec_empty (serL_ne _)

set_option maxRecDepth 100000 in
set_option maxHeartbeats 2000000 in
theorem decodes_calls (rb : Option Nat) (st : Option Bs) (k : Nat) (hk : k < 4) (hn : NoneK k (st.getD [])) (hl : (st.getD []).length ≤ 4294967280) (w : World) (hv : Vars w) (h : RdP rb st w) :
    Calls Tryd.prog 36 #[ptrV rb, .int .i64 k] w fun e w' => e = .returned (.bool true) ∧ RdP rb none w' ∧ Keep rb w w' := by
  have Hv := Lib.hid hv
  have H := Lib.hid h
  have Hn := Lib.hid hn
  have Hl := Lib.hid hl
  clear hv h hn hl
  match k, hk, Hn with
  | 0, _, Hn =>
    go_enter Tryd.func36, Tryd.ntmps36
    go_wp2_with fail
    refine (rint_calls rb st Hl.out w Hv.out H.out).mono ?_
    rintro e w' ⟨o, hd, rfl, hr, hkp⟩
    obtain rfl : o = none := Dec.eq ud_int hd Hn.out
    have Hr := Lib.hid hr
    have Hk := Lib.hid hkp
    clear hd hr hkp
    simp only [Option.map_none, Option.getD_none, encI]
    go_wp2
    go_ret
    exact ⟨rfl, Hr.out, Hk.out⟩
  | 1, _, Hn =>
    go_enter Tryd.func36, Tryd.ntmps36
    go_wp2_with fail
    refine (rtext_calls rb st Hl.out w Hv.out H.out).mono ?_
    rintro e w' ⟨o, hd, rfl, hr, hkp⟩
    obtain rfl : o = none := Dec.eq ud_text hd Hn.out
    have Hr := Lib.hid hr
    have Hk := Lib.hid hkp
    clear hd hr hkp
    simp only [Option.map_none, Option.getD_none, encT]
    go_wp2
    go_ret
    exact ⟨rfl, Hr.out, Hk.out⟩
  | 2, _, Hn =>
    go_enter Tryd.func36, Tryd.ntmps36
    go_wp2_with fail
    refine (rints_calls rb st Hl.out w Hv.out H.out).mono ?_
    rintro e w' ⟨o, hd, ⟨v, rfl, hs⟩, hr, hkp⟩
    obtain rfl : o = none := Dec.eq (ud_list ud_int opens_int) hd Hn.out
    have Hr := Lib.hid hr
    have Hk := Lib.hid hkp
    obtain ⟨p, cap, rfl, -, -⟩ := hs
    clear hd hr hkp
    simp only [Option.map_none, Option.getD_none, List.length_nil]
    go_wp2
    go_ret
    exact ⟨rfl, Hr.out, Hk.out⟩
  | 3, _, Hn =>
    go_enter Tryd.func36, Tryd.ntmps36
    go_wp2_with fail
    refine (rtexts_calls rb st Hl.out w Hv.out H.out).mono ?_
    rintro e w' ⟨o, hd, ⟨v, rfl, hs⟩, hr, hkp⟩
    obtain rfl : o = none := Dec.eq (ud_list ud_text opens_text) hd Hn.out
    have Hr := Lib.hid hr
    have Hk := Lib.hid hkp
    obtain ⟨p, cap, rfl, -, -⟩ := hs
    clear hd hr hkp
    simp only [Option.map_none, Option.getD_none, List.length_nil]
    go_wp2
    go_ret
    exact ⟨rfl, Hr.out, Hk.out⟩

/-- A new reader and what happens to it leave what was there. -/
theorem ext_keep {w w1 w2 : World} (h : Ext w w1) (k : Keep (some w.heap.size) w1 w2) : Ext w w2 := Keep.new h (fun b e => by cases e; exact Nat.le_refl _) k

set_option maxRecDepth 100000 in
set_option maxHeartbeats 2000000 in
theorem malformed_calls (s : Bs) (hl : s.length ≤ 4294967280) (hn : ∀ k, k < 4 → NoneK k s) (w : World) (hv : Vars w) :
    Calls Tryd.prog 37 #[.string ⟨s.toArray⟩] w fun e w' => e = .returned (.bool true) ∧ Ext w w' := by
  have Hv := Lib.hid hv
  have Hn := Lib.hid hn
  have Hl := Lib.hid hl
  clear hv hn hl
  go_enter Tryd.func37, Tryd.ntmps37
  go_wp2_with fail
  go_loopw [3] (fun i wr => ∃ k : Nat, k ≤ 4 ∧ i = .int .i64 (k : Int) ∧ Ext w wr) (fun i _ => 4 - (intOf i).toNat)
  case atStart => exact ⟨0, by omega, rfl, Ext.refl _⟩
  case round =>
    obtain ⟨k, hk, rfl, hB⟩ := hrel
    have HB := Lib.hid hB
    clear hB
    by_cases hlt : k < 4
    · go_wp2_with fail
      refine (new_calls s wr (Hv.out.ext HB.out).low).mono ?_
      rintro e w1 ⟨rfl, hr1, hx1⟩
      have Hr1 := Lib.hid hr1
      have Hx1 := Lib.hid hx1
      have Hv1 : Hid (Vars w1) := (Hv.out.ext HB.out).ext hx1
      clear hr1 hx1
      obtain ⟨rb, hrb⟩ : ∃ rb, rb = some wr.heap.size := ⟨_, rfl⟩
      have hpv : ptrV rb = .pointer (some ⟨wr.heap.size, 0, none⟩) := by rw [hrb]; rfl
      have Hpv := Lib.hid hpv
      have Hrb := Lib.hid hrb
      rw [← hrb] at Hr1 ⊢
      clear hrb
      rw [hpv]
      clear hpv
      go_wp2_with fail
      rw [← Hpv.out]
      refine (decodes_calls rb (some s) k hlt (Hn.out k hlt) Hl.out w1 Hv1.out Hr1.out).mono ?_
      rintro e w2 ⟨rfl, hr2, hk2⟩
      have Hr2 := Lib.hid hr2
      have Hk2 := Lib.hid hk2
      clear hr2 hk2
      go_wp2_with fail
      refine (bad_calls rb none w2 Hr2.out).mono ?_
      rintro e w3 ⟨rfl, rfl⟩
      simp only [Option.isNone_none]
      go_wp2_with fail
      refine (left_calls rb none w3 Hr2.out).mono ?_
      rintro e w4 ⟨rfl, rfl⟩
      simp only [Option.getD_none, List.length_nil]
      have HB2 : Hid (Ext w w4) := HB.out.trans (ext_keep Hx1.out (by have := Hk2.out; rwa [Hrb.out] at this))
      go_wp2
      go_roundw
      case rel => exact ⟨k + 1, by omega, by go_num, HB2.out⟩
      case measure => simp [intOf]; omega
    · go_wp2
      go_ret
      exact ⟨rfl, HB.out⟩

end Go.Proofs.YtckhbejgkgpilaaDoor
