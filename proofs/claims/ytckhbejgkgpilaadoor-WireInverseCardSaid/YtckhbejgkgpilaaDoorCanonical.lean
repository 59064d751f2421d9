/- The walk of WireCanonical. (Written by gen_can.py.) -/
import Derived.Test.YtckhbejgkgpilaaDoorSan2
set_option linter.all false
namespace Go.Proofs.YtckhbejgkgpilaaDoor
open Go Go.RowKit Go.Shelf

theorem cut_bytes (s : Bs) (n : Nat) : (⟨s.toArray⟩ : ByteArray).extract 0 (min s.length n) = ⟨(s.take n).toArray⟩ := by
  rw [bytes_take]
  congr 2
  rcases Nat.le_total s.length n with h | h
  · rw [Nat.min_eq_left h, List.take_of_length_le (Nat.le_refl _), List.take_of_length_le h]
  · rw [Nat.min_eq_right h]
theorem int_default (w : World) (hv : Vars w) : Calls Tryd.prog 12 #[.int .i64 0] w fun e w' => e = .returned (.string ⟨(serInt 0).toArray⟩) ∧ Ext w w' := int_lit rfl ⟨by decide, by decide⟩ w hv

set_option maxRecDepth 100000 in
set_option maxHeartbeats 8000000 in
theorem wireCanonical_walk (s : Bs) (hs0 : s.length ≤ 9223372036854775807) (w0 : World) (hv : Vars w0) : Calls Tryd.prog 6 #[.string ⟨s.toArray⟩] w0 fun e w' => e = .returned (.bool true) ∧ Ext w0 w' := by
  have V0 := Lib.hid hv
  clear hv
  have hsz := bytes_size s
  obtain ⟨t, ht⟩ : ∃ t, t = s.take 200 := ⟨_, rfl⟩
  have hcut := cut_bytes s 200
  rw [← ht] at hcut
  have hmin : min (s.length : Int) 200 = ((min s.length 200 : Nat) : Int) := by omega
  have hle : min s.length 200 ≤ s.length := Nat.min_le_left _ _
  have htl : t.length ≤ 200 := by rw [ht, List.length_take]; omega
  have hsz2 := bytes_size t
  clear ht
  go_enter Tryd.func6, Tryd.ntmps6
  go_wp2_with fail
  refine (sanity_calls w0 V0.out).mono ?_
  rintro e w1 ⟨rfl, hx1⟩
  have X1 := Lib.hid hx1
  clear hx1
  go_wp2
  go_loopw [4] (fun i wr => ∃ k : Nat, k ≤ 4 ∧ i = .int .i64 (k : Int) ∧ Ext w0 wr) (fun i _ => 4 - (intOf i).toNat)
  case atStart => exact ⟨0, by omega, rfl, X1.out⟩
  case round =>
    obtain ⟨k, hk, rfl, hx⟩ := hrel
    have XR := Lib.hid hx
    have VR : Hid (Vars wr) := V0.out.ext hx
    clear hx hcut hmin hle hsz hs0
    rcases (by omega : k = 4 ∨ k < 4) with rfl | hlt
    · have hno : ¬ ((4 : Int) < 4) := by omega
      go_wp2
      go_ret
      exact ⟨rfl, XR.out⟩
    go_wp2_with fail
    refine (new_calls t wr VR.out.low).mono ?_
    rintro e w2 ⟨rfl, hr2, hx2⟩
    have R2 := Lib.hid hr2
    have X2 := Lib.hid hx2
    have V2 : Hid (Vars w2) := VR.out.ext hx2
    obtain ⟨b, hb⟩ : ∃ b, b = wr.heap.size := ⟨_, rfl⟩
    rw [← hb] at R2 ⊢
    have HB := Lib.hid hb
    clear hr2 hx2 hb hk
    unfold ptrV
    have hfin : ∀ {w3 w4 : World}, Keep (some b) w2 w3 → Ext w3 w4 → Ext w0 w4 := fun {w3 w4} h1 h2 => (XR.out.trans (Keep.new X2.out (fun c e => by cases e; rw [HB.out]; exact Nat.le_refl _) h1)).trans h2
    have FIN := Lib.hid (fun w3 w4 => @hfin w3 w4)
    clear hfin
    rcases (by omega : k = 0 ∨ k = 1 ∨ k = 2 ∨ k = 3) with rfl | rfl | rfl | rfl
    · go_wp2_with fail
      refine (rint_calls (some b) (some t) (by show t.length ≤ _; omega) w2 V2.out R2.out).mono ?_
      rintro e w3 ⟨o, hd, rfl, hr3, hk3⟩
      have V3 : Hid (Vars w3) := V2.out.keep hk3 R2.out.low
      have R3 := Lib.hid hr3
      have K3 := Lib.hid hk3
      clear hr3 hk3
      rcases o with _ | ⟨a, r⟩
      focus
        clear hd
        simp only [Option.map_none, Option.getD_none, encI]
        go_wp2_with fail
        refine (int_default w3 V3.out).mono ?_
        rintro e w4 ⟨rfl, hx4⟩
        have X4 : Hid (Ext w0 w4) := FIN.out _ _ K3.out hx4
        have R4 : Hid (RdP (some b) none w4) := R3.out.ext hx4
        clear hx4
        go_wp2_with fail
        refine (bad_calls (some b) none w4 R4.out).mono ?_
        rintro e w5 ⟨rfl, rfl⟩
        simp only [Option.isNone_none]
        go_wp2_with fail
        refine (bad_calls (some b) none w5 R4.out).mono ?_
        rintro e w6 ⟨rfl, rfl⟩
        simp only [Option.isNone_none]
        go_wp2_with fail
        refine (left_calls (some b) none w6 R4.out).mono ?_
        rintro e w7 ⟨rfl, rfl⟩
        simp only [Option.getD_none, List.length_nil]
        go_wp2
        go_roundw
        case rel => exact ⟨1, by omega, rfl, X4.out⟩
        case measure => simp [intOf]
      have hts : I64 a ∧ t = serInt a ++ r := hd.some a r rfl
      have HT := Lib.hid hts
      clear hd hts
      simp only [Option.map_some, Option.getD_some, encI]
      go_wp2_with fail
      refine (int_calls a HT.out.1 (by have h := congrArg List.length HT.out.2; rw [List.length_append] at h; omega) w3 V3.out).mono ?_
      rintro e w4 ⟨rfl, hx4⟩
      have X4 : Hid (Ext w0 w4) := FIN.out _ _ K3.out hx4
      have R4 : Hid (RdP (some b) (some r) w4) := R3.out.ext hx4
      clear hx4
      have hts := HT.out
      have hsl := congrArg List.length hts.2
      rw [List.length_append] at hsl
      have hd1 : (t.length : Int) - (r.length : Int) = ((serInt a).length : Int) := by omega
      have hd2 : (⟨t.toArray⟩ : ByteArray).extract 0 (serInt a).length = ⟨(serInt a).toArray⟩ := by rw [hts.2, bytes_take, List.take_left]
      have hd3 : (serInt a).length ≤ t.length := by omega
      have hsz3 := bytes_size (serInt a)
      obtain ⟨u, hu⟩ : ∃ u, u = serInt a := ⟨_, rfl⟩
      rw [← hu] at hd1 hd2 hd3 hsz3 ⊢
      clear hu hsl hts HT
      go_wp2_with fail
      refine (bad_calls (some b) (some r) w4 R4.out).mono ?_
      rintro e w5 ⟨rfl, rfl⟩
      simp only [Option.isNone_some]
      go_wp2_with fail
      refine (left_calls (some b) (some r) w5 R4.out).mono ?_
      rintro e w6 ⟨rfl, rfl⟩
      simp only [Option.getD_some]
      have hbq : (u == u) = true := by simp
      go_wp2_with fail
      refine (bad_calls (some b) (some r) w6 R4.out).mono ?_
      rintro e w7 ⟨rfl, rfl⟩
      simp only [Option.isNone_some]
      go_wp2
      go_roundw
      case rel => exact ⟨1, by omega, rfl, X4.out⟩
      case measure => simp [intOf]
    · go_wp2_with fail
      refine (rtext_calls (some b) (some t) (by show t.length ≤ _; omega) w2 V2.out R2.out).mono ?_
      rintro e w3 ⟨o, hd, rfl, hr3, hk3⟩
      have V3 : Hid (Vars w3) := V2.out.keep hk3 R2.out.low
      have R3 := Lib.hid hr3
      have K3 := Lib.hid hk3
      clear hr3 hk3
      rcases o with _ | ⟨a, r⟩
      focus
        clear hd
        simp only [Option.map_none, Option.getD_none, encT]
        go_wp2_with fail
        refine (text_lit (s := []) rfl (by simp) w3 V3.out).mono ?_
        rintro e w4 ⟨rfl, hx4⟩
        have X4 : Hid (Ext w0 w4) := FIN.out _ _ K3.out hx4
        have R4 : Hid (RdP (some b) none w4) := R3.out.ext hx4
        clear hx4
        go_wp2_with fail
        refine (bad_calls (some b) none w4 R4.out).mono ?_
        rintro e w5 ⟨rfl, rfl⟩
        simp only [Option.isNone_none]
        go_wp2_with fail
        refine (bad_calls (some b) none w5 R4.out).mono ?_
        rintro e w6 ⟨rfl, rfl⟩
        simp only [Option.isNone_none]
        go_wp2_with fail
        refine (left_calls (some b) none w6 R4.out).mono ?_
        rintro e w7 ⟨rfl, rfl⟩
        simp only [Option.getD_none, List.length_nil]
        go_wp2
        go_roundw
        case rel => exact ⟨2, by omega, rfl, X4.out⟩
        case measure => simp [intOf]
      have hts : TextOk a ∧ t = serText a ++ r := hd.some a r rfl
      have HT := Lib.hid hts
      clear hd hts
      simp only [Option.map_some, Option.getD_some, encT]
      go_wp2_with fail
      refine (text_calls a HT.out.1 (by have h := congrArg List.length HT.out.2; rw [List.length_append] at h; omega) w3 V3.out).mono ?_
      rintro e w4 ⟨rfl, hx4⟩
      have X4 : Hid (Ext w0 w4) := FIN.out _ _ K3.out hx4
      have R4 : Hid (RdP (some b) (some r) w4) := R3.out.ext hx4
      clear hx4
      have hts := HT.out
      have hsl := congrArg List.length hts.2
      rw [List.length_append] at hsl
      have hd1 : (t.length : Int) - (r.length : Int) = ((serText a).length : Int) := by omega
      have hd2 : (⟨t.toArray⟩ : ByteArray).extract 0 (serText a).length = ⟨(serText a).toArray⟩ := by rw [hts.2, bytes_take, List.take_left]
      have hd3 : (serText a).length ≤ t.length := by omega
      have hsz3 := bytes_size (serText a)
      obtain ⟨u, hu⟩ : ∃ u, u = serText a := ⟨_, rfl⟩
      rw [← hu] at hd1 hd2 hd3 hsz3 ⊢
      clear hu hsl hts HT
      go_wp2_with fail
      refine (bad_calls (some b) (some r) w4 R4.out).mono ?_
      rintro e w5 ⟨rfl, rfl⟩
      simp only [Option.isNone_some]
      go_wp2_with fail
      refine (left_calls (some b) (some r) w5 R4.out).mono ?_
      rintro e w6 ⟨rfl, rfl⟩
      simp only [Option.getD_some]
      have hbq : (u == u) = true := by simp
      go_wp2_with fail
      refine (bad_calls (some b) (some r) w6 R4.out).mono ?_
      rintro e w7 ⟨rfl, rfl⟩
      simp only [Option.isNone_some]
      go_wp2
      go_roundw
      case rel => exact ⟨2, by omega, rfl, X4.out⟩
      case measure => simp [intOf]
    · go_wp2_with fail
      refine (rints_calls (some b) (some t) (by show t.length ≤ _; omega) w2 V2.out R2.out).mono ?_
      rintro e w3 ⟨o, hd, ⟨v, rfl, hsl3⟩, hr3, hk3⟩
      have V3 : Hid (Vars w3) := V2.out.keep hk3 R2.out.low
      have R3 := Lib.hid hr3
      have K3 := Lib.hid hk3
      have S3 := Lib.hid hsl3
      clear hr3 hk3 hsl3
      rcases o with _ | ⟨a, r⟩
      focus
        clear hd
        simp only [Option.map_none, Option.getD_none] at S3
        go_wp2_with fail
        refine (ints_lit (S := fun c => w2.heap.size ≤ c) rfl (fun _ h => absurd h (by simp)) (by simp [serL]) S3.out V3.out).mono ?_
        rintro e w4 ⟨rfl, hx4⟩
        have X4 : Hid (Ext w0 w4) := FIN.out _ _ K3.out hx4
        have R4 : Hid (RdP (some b) none w4) := R3.out.ext hx4
        clear hx4
        go_wp2_with fail
        refine (bad_calls (some b) none w4 R4.out).mono ?_
        rintro e w5 ⟨rfl, rfl⟩
        simp only [Option.isNone_none]
        go_wp2_with fail
        refine (bad_calls (some b) none w5 R4.out).mono ?_
        rintro e w6 ⟨rfl, rfl⟩
        simp only [Option.isNone_none]
        go_wp2_with fail
        refine (left_calls (some b) none w6 R4.out).mono ?_
        rintro e w7 ⟨rfl, rfl⟩
        simp only [Option.getD_none, List.length_nil]
        go_wp2
        go_roundw
        case rel => exact ⟨3, by omega, rfl, X4.out⟩
        case measure => simp [intOf]
      have hts : AllOk I64 a ∧ t = serL serInt a ++ r := hd.some a r rfl
      have HT := Lib.hid hts
      clear hd hts
      simp only [Option.map_some, Option.getD_some] at S3
      go_wp2_with fail
      refine (ints_calls v a (fun c => w2.heap.size ≤ c) w3 V3.out S3.out HT.out.1 (by have h := congrArg List.length HT.out.2; rw [List.length_append] at h; omega)).mono ?_
      rintro e w4 ⟨rfl, hx4⟩
      have X4 : Hid (Ext w0 w4) := FIN.out _ _ K3.out hx4
      have R4 : Hid (RdP (some b) (some r) w4) := R3.out.ext hx4
      clear hx4
      have hts := HT.out
      have hsl := congrArg List.length hts.2
      rw [List.length_append] at hsl
      have hd1 : (t.length : Int) - (r.length : Int) = ((serL serInt a).length : Int) := by omega
      have hd2 : (⟨t.toArray⟩ : ByteArray).extract 0 (serL serInt a).length = ⟨(serL serInt a).toArray⟩ := by rw [hts.2, bytes_take, List.take_left]
      have hd3 : (serL serInt a).length ≤ t.length := by omega
      have hsz3 := bytes_size (serL serInt a)
      obtain ⟨u, hu⟩ : ∃ u, u = serL serInt a := ⟨_, rfl⟩
      rw [← hu] at hd1 hd2 hd3 hsz3 ⊢
      clear hu hsl hts HT
      go_wp2_with fail
      refine (bad_calls (some b) (some r) w4 R4.out).mono ?_
      rintro e w5 ⟨rfl, rfl⟩
      simp only [Option.isNone_some]
      go_wp2_with fail
      refine (left_calls (some b) (some r) w5 R4.out).mono ?_
      rintro e w6 ⟨rfl, rfl⟩
      simp only [Option.getD_some]
      have hbq : (u == u) = true := by simp
      go_wp2_with fail
      refine (bad_calls (some b) (some r) w6 R4.out).mono ?_
      rintro e w7 ⟨rfl, rfl⟩
      simp only [Option.isNone_some]
      go_wp2
      go_roundw
      case rel => exact ⟨3, by omega, rfl, X4.out⟩
      case measure => simp [intOf]
    · go_wp2_with fail
      refine (rtexts_calls (some b) (some t) (by show t.length ≤ _; omega) w2 V2.out R2.out).mono ?_
      rintro e w3 ⟨o, hd, ⟨v, rfl, hsl3⟩, hr3, hk3⟩
      have V3 : Hid (Vars w3) := V2.out.keep hk3 R2.out.low
      have R3 := Lib.hid hr3
      have K3 := Lib.hid hk3
      have S3 := Lib.hid hsl3
      clear hr3 hk3 hsl3
      rcases o with _ | ⟨a, r⟩
      focus
        clear hd
        simp only [Option.map_none, Option.getD_none] at S3
        go_wp2_with fail
        refine (texts_lit (S := fun c => w2.heap.size ≤ c) rfl (fun _ h => absurd h (by simp)) (by simp [serL]) S3.out V3.out).mono ?_
        rintro e w4 ⟨rfl, hx4⟩
        have X4 : Hid (Ext w0 w4) := FIN.out _ _ K3.out hx4
        have R4 : Hid (RdP (some b) none w4) := R3.out.ext hx4
        clear hx4
        go_wp2_with fail
        refine (bad_calls (some b) none w4 R4.out).mono ?_
        rintro e w5 ⟨rfl, rfl⟩
        simp only [Option.isNone_none]
        go_wp2_with fail
        refine (bad_calls (some b) none w5 R4.out).mono ?_
        rintro e w6 ⟨rfl, rfl⟩
        simp only [Option.isNone_none]
        go_wp2_with fail
        refine (left_calls (some b) none w6 R4.out).mono ?_
        rintro e w7 ⟨rfl, rfl⟩
        simp only [Option.getD_none, List.length_nil]
        go_wp2
        go_roundw
        case rel => exact ⟨4, by omega, rfl, X4.out⟩
        case measure => simp [intOf]
      have hts : AllOk TextOk a ∧ t = serL serText a ++ r := hd.some a r rfl
      have HT := Lib.hid hts
      clear hd hts
      simp only [Option.map_some, Option.getD_some] at S3
      go_wp2_with fail
      refine (texts_calls v a (fun c => w2.heap.size ≤ c) w3 V3.out S3.out HT.out.1 (by have h := congrArg List.length HT.out.2; rw [List.length_append] at h; omega)).mono ?_
      rintro e w4 ⟨rfl, hx4⟩
      have X4 : Hid (Ext w0 w4) := FIN.out _ _ K3.out hx4
      have R4 : Hid (RdP (some b) (some r) w4) := R3.out.ext hx4
      clear hx4
      have hts := HT.out
      have hsl := congrArg List.length hts.2
      rw [List.length_append] at hsl
      have hd1 : (t.length : Int) - (r.length : Int) = ((serL serText a).length : Int) := by omega
      have hd2 : (⟨t.toArray⟩ : ByteArray).extract 0 (serL serText a).length = ⟨(serL serText a).toArray⟩ := by rw [hts.2, bytes_take, List.take_left]
      have hd3 : (serL serText a).length ≤ t.length := by omega
      have hsz3 := bytes_size (serL serText a)
      obtain ⟨u, hu⟩ : ∃ u, u = serL serText a := ⟨_, rfl⟩
      rw [← hu] at hd1 hd2 hd3 hsz3 ⊢
      clear hu hsl hts HT
      go_wp2_with fail
      refine (bad_calls (some b) (some r) w4 R4.out).mono ?_
      rintro e w5 ⟨rfl, rfl⟩
      simp only [Option.isNone_some]
      go_wp2_with fail
      refine (left_calls (some b) (some r) w5 R4.out).mono ?_
      rintro e w6 ⟨rfl, rfl⟩
      simp only [Option.getD_some]
      have hbq : (u == u) = true := by simp
      go_wp2_with fail
      refine (bad_calls (some b) (some r) w6 R4.out).mono ?_
      rintro e w7 ⟨rfl, rfl⟩
      simp only [Option.isNone_some]
      go_wp2
      go_roundw
      case rel => exact ⟨4, by omega, rfl, X4.out⟩
      case measure => simp [intOf]

end Go.Proofs.YtckhbejgkgpilaaDoor
