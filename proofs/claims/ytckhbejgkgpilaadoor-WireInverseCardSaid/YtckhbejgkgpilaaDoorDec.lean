/- Decoding: the reader's number, Int, Text. -/
import Derived.Test.YtckhbejgkgpilaaDoorWr
import Derived.WalkMore
import Derived.ScopeJumps
set_option linter.all false
namespace Go.Proofs.YtckhbejgkgpilaaDoor
open Go Go.RowKit Go.Shelf

/-- strconv.Atoi, as number asks it. -/
def atoiV (s : Bs) : Int := match Lib.atoiAll s with | .ok v => v | .syntax => 0 | .range => Lib.atoiSat s
theorem atoiV_i64 (s : Bs) : I64 (atoiV s) := by
  unfold atoiV
  split
  · exact Lib.atoiAll_bounds (by assumption)
  · exact ⟨by decide, by decide⟩
  · exact Lib.atoiSat_bounds s
theorem atoi_calls (s : Bs) (hs : s.length ≤ 281474976710656) (w : World) (hv : Vars w) : Calls Tryd.prog 54 #[.string ⟨s.toArray⟩] w fun e w' =>
    ∃ ev : Value, e = .returned (.tuple #[.int .i64 (atoiV s), ev]) ∧ Ext w w' ∧ ((ev = .nilIface ∧ ∃ v, Lib.atoiAll s = .ok v) ∨ ((∃ t p, ev = .iface t (.pointer (some ⟨p, 0, none⟩))) ∧ ∀ v, Lib.atoiAll s ≠ .ok v)) := by
  have hsz := bytes_size s
  obtain ⟨t1, p1, h1⟩ := hv.syn
  obtain ⟨t2, p2, h2⟩ := hv.rng
  cases ha : Lib.atoiAll s with
  | ok v =>
    refine (Tryd.strconv_Atoi_ok ⟨s.toArray⟩ (by rw [hsz]; omega) v ha w).mono ?_
    rintro e w' ⟨rfl, hw⟩
    refine ⟨.nilIface, by simp [atoiV, ha], ?_, .inl ⟨rfl, v, rfl⟩⟩
    rcases hw with rfl | ⟨t, rfl⟩
    · exact Ext.refl _
    · exact Lib.bytesWorld_below _ _ _
  | «syntax» =>
    refine (Tryd.strconv_Atoi_syntax ⟨s.toArray⟩ (by rw [hsz]; exact hs) ha _ w h1 (.inr ⟨_, _, rfl⟩)).mono ?_
    rintro e w' ⟨N, rfl, -, -, hx⟩
    have e1 : atoiV s = 0 := by simp [atoiV, ha]
    rw [e1]
    exact ⟨_, rfl, hx, .inr ⟨⟨_, _, rfl⟩, fun v e => by cases e⟩⟩
  | range =>
    refine (Tryd.strconv_Atoi_range ⟨s.toArray⟩ (by rw [hsz]; exact hs) ha _ w h2 (.inr ⟨_, _, rfl⟩)).mono ?_
    rintro e w' ⟨N, rfl, -, -, hx⟩
    have e1 : atoiV s = Lib.atoiSat s := by simp [atoiV, ha]
    rw [e1]
    exact ⟨_, rfl, hx, .inr ⟨⟨_, _, rfl⟩, fun v e => by cases e⟩⟩

theorem cut_calls (s : Bs) (m : UInt8) (hs : s.length ≤ 4294967280) (w : World) (hv : Vars w) : Calls Tryd.prog 53 #[.string ⟨s.toArray⟩, .string ⟨[m].toArray⟩] w fun e w' =>
    e = .returned (.tuple #[.string ⟨(Lib.cut s [m]).1.toArray⟩, .string ⟨(Lib.cut s [m]).2.1.toArray⟩, .bool (Lib.cut s [m]).2.2]) ∧ Ext w w' := by
  obtain ⟨k, hk⟩ := hv.len
  refine (Tryd.strings_Cut ⟨s.toArray⟩ ⟨[m].toArray⟩ k w (by rw [bytes_size]; omega) hk).mono ?_
  rintro e w' ⟨rfl, n, rfl⟩
  exact ⟨rfl, Ext.drewN _ _⟩

/-- How number's frame stands where it jumps. -/
def NumFrame (rb : Option Nat) (a : Act) : Prop := ∃ u1 u2 u3 u4 u5 u6 u7 u8 u9 u10 u11 u12 u13 u14 u15 u16 u17 u18 u19 u20 u21 u22 u23 u24 u25 u26 u27 u28 u29 u30 u31 u32 u33 u34 u35 u36 u37 u38 u39 u40 u41, a = { tmps := #[ptrV rb, u1, u2, u3, u4, u5, u6, u7, u8, u9, u10, u11, u12, u13, u14, u15, u16, u17, u18, u19, u20, u21, u22, u23, u24, u25, u26, u27, u28, u29, u30, u31, u32, u33, u34, u35, u36, u37, u38, u39, u40, u41], defers := [] }
set_option maxRecDepth 100000 in
set_option maxHeartbeats 4000000 in
/-- number: an integer's decimal form and the mark, if they begin there. -/
theorem number_calls (rb : Option Nat) (st : Option Bs) (m : UInt8) (hl : (st.getD []).length ≤ 4294967280) (hm : Mark m) (w : World) (hv : Vars w) (h : RdP rb st w) :
    Calls Tryd.prog 42 #[ptrV rb, .string ⟨[m].toArray⟩] w fun e w' => ∃ o : Option (Int × Bs), Dec (serNum m) I64 (st.getD []) o ∧ e = .returned (.int .i64 ((o.map (·.1)).getD 0)) ∧ RdP rb (o.map (·.2)) w' ∧ Keep rb w w' := by
  have hR := remainder_calls rb st w h
  obtain ⟨s, hs⟩ : ∃ s, s = st.getD [] := ⟨_, rfl⟩
  rw [← hs] at hR hl ⊢
  have HS := Lib.hid hs
  have H := Lib.hid h
  have Hv := Lib.hid hv
  have Hl := Lib.hid hl
  have Hm := Lib.hid hm
  clear hs h hv hl hm
  go_enter Tryd.func42, Tryd.ntmps42
  go_wp2
  refine wp_scope_jumps 0 (fun a w' => NumFrame rb a ∧ Ext w w' ∧ Dec (serNum m) I64 s none) (fun _ _ => 0) rfl ?first ?pass
  case pass =>
    rintro a w2 ⟨⟨u1, u2, u3, u4, u5, u6, u7, u8, u9, u10, u11, u12, u13, u14, u15, u16, u17, u18, u19, u20, u21, u22, u23, u24, u25, u26, u27, u28, u29, u30, u31, u32, u33, u34, u35, u36, u37, u38, u39, u40, u41, rfl⟩, hx2, hd⟩
    have Hx2 := Lib.hid hx2
    have Hd := Lib.hid hd
    clear hx2 hd hR
    go_wp2_with fail
    refine (spoil_calls rb st w2 (H.out.ext Hx2.out)).mono ?_
    rintro e w4 ⟨⟨v, rfl⟩, hr, hk⟩
    have Hr := Lib.hid hr
    have Hk := Lib.hid hk
    clear hr hk
    go_wp2
    simp only [Exit.jump]
    go_ret
    exact ⟨none, Hd.out, rfl, Hr.out, Hx2.out.keep.trans Hk.out⟩
  go_wp2_with fail
  refine hR.mono ?_
  rintro e w1 ⟨rfl, rfl⟩
  clear hR
  go_wp2_with fail
  refine (cut_calls s m Hl.out w1 Hv.out).mono ?_
  rintro e w2 ⟨rfl, hx2⟩
  have Hx2 := Lib.hid hx2
  clear hx2
  rcases cut_mark m s with ⟨hm1, hc⟩ | ⟨a, r, hsr, hm1, hc⟩
  · have hdec : Dec (serNum m) I64 s none := Dec.no fun n r _ e => hm1 (by rw [e]; simp [serNum])
    have Hdec := Lib.hid hdec
    rw [hc]
    clear hc hm1 hdec
    go_wp2_with fail
    refine (atoi_calls s (by have := Hl.out; omega) w2 (Hv.out.ext Hx2.out)).mono ?_
    rintro e w3 ⟨ev, rfl, hx3, -⟩
    have Hx3 := Lib.hid hx3
    clear hx3
    go_wp2_with fail
    go_step3
    exact ⟨rfl, ⟨_, _, _, _, _, _, _, _, _, _, _, _, _, _, _, _, _, _, _, _, _, _, _, _, _, _, _, _, _, _, _, _, _, _, _, _, _, _, _, _, _, rfl⟩, Hx2.out.trans Hx3.out, Hdec.out⟩
  · have Hsr := Lib.hid hsr
    have Hm1 := Lib.hid hm1
    rw [hc]
    clear hc hsr hm1
    have hal : a.length ≤ 4294967280 := by have h1 := Hl.out; rw [Hsr.out, List.length_append] at h1; omega
    go_wp2_with fail
    refine (atoi_calls a (by omega) w2 (Hv.out.ext Hx2.out)).mono ?_
    rintro e w3 ⟨ev, rfl, hx3, hev⟩
    have Hx3 := Lib.hid hx3
    clear hx3
    have hi := atoiV_i64 a
    have Hi := Lib.hid hi
    clear hi hal
    rcases hev with ⟨rfl, v, hav⟩ | ⟨⟨t, p, rfl⟩, hno⟩
    · have hva : atoiV a = v := by simp [atoiV, hav]
      have Hva := Lib.hid hva
      have Hav := Lib.hid hav
      rw [hva] at Hi ⊢
      clear hva hav
      go_wp2_with fail
      refine (itoa_calls v Hi.out w3 ((Hv.out.ext Hx2.out).ext Hx3.out)).mono ?_
      rintro e w4 ⟨rfl, hx4⟩
      have Hx4 := Lib.hid hx4
      clear hx4
      by_cases he : Lib.itoa v = a
      · have hdec : Dec (serNum m) I64 s (some (v, r)) := Dec.yes Hi.out (by rw [Hsr.out, ← he]; simp [serNum])
        have Hdec := Lib.hid hdec
        clear hdec
        subst he
        cases st with
        | none => exact absurd (HS.out.symm.trans Hsr.out) (by simp)
        | some rr =>
          cases rb with
          | none => exact absurd H.out (by simp [RdP])
          | some b =>
            have hR4 := H.out.1.ext ((Hx2.out.trans Hx3.out).trans Hx4.out)
            have c0 := hR4.c0
            have f0 := hR4.f 0
            have HR4 := Lib.hid hR4
            clear hR4
            unfold ptrV
            go_wp2
            simp only [Exit.jump]
            go_ret
            exact ⟨some (v, r), Hdec.out, rfl, ⟨HR4.out.set0 r, H.out.2⟩, (((Hx2.out.trans Hx3.out).trans Hx4.out).keep).trans (Keep.set _ 0 _)⟩
      · have hdec : Dec (serNum m) I64 s none := Dec.no fun n t hn e => he (by
          have h1 := split_at_mark (Hm.out.not_mem n) Hm1.out (show Lib.itoa n ++ m :: t = a ++ m :: r by rw [← Hsr.out, e]; simp [serNum])
          have h2 := atoi_itoa hn
          rw [h1.1, Hav.out] at h2
          injection h2 with h2
          rw [h2]; exact h1.1)
        have Hdec := Lib.hid hdec
        have hne : (Lib.itoa v == a) = false := by simp [he]
        clear hdec
        have He := Lib.hid he
        clear he
        go_wp2_with fail
        go_step3
        exact ⟨rfl, ⟨_, _, _, _, _, _, _, _, _, _, _, _, _, _, _, _, _, _, _, _, _, _, _, _, _, _, _, _, _, _, _, _, _, _, _, _, _, _, _, _, _, rfl⟩, (Hx2.out.trans Hx3.out).trans Hx4.out, Hdec.out⟩
    · have hdec : Dec (serNum m) I64 s none := Dec.no fun n t hn e => hno n (by
        have h1 := split_at_mark (Hm.out.not_mem n) Hm1.out (show Lib.itoa n ++ m :: t = a ++ m :: r by rw [← Hsr.out, e]; simp [serNum])
        rw [← h1.1]; exact atoi_itoa hn)
      have Hdec := Lib.hid hdec
      clear hdec hno
      go_wp2_with fail
      go_step3
      exact ⟨rfl, ⟨_, _, _, _, _, _, _, _, _, _, _, _, _, _, _, _, _, _, _, _, _, _, _, _, _, _, _, _, _, _, _, _, _, _, _, _, _, _, _, _, _, rfl⟩, Hx2.out.trans Hx3.out, Hdec.out⟩

end Go.Proofs.YtckhbejgkgpilaaDoor
