/- Decoding: Int and Text. (Written by gen_dec2.py.) -/
import Derived.Test.YtckhbejgkgpilaaDoorDec
import Derived.StillTailTactics
set_option linter.all false
namespace Go.Proofs.YtckhbejgkgpilaaDoor
open Go Go.RowKit Go.Shelf

theorem bytes_take (l : Bs) (k : Nat) : (⟨l.toArray⟩ : ByteArray).extract 0 k = ⟨(l.take k).toArray⟩ := by
  apply ByteArray.ext
  simp
theorem bytes_drop (l : Bs) (k : Nat) : (⟨l.toArray⟩ : ByteArray).extract k l.length = ⟨(l.drop k).toArray⟩ := by
  apply ByteArray.ext
  simp
  exact List.take_of_length_le (by simp)
theorem dec_text_none {s : Bs} (h : Dec (serNum 58) I64 s none) : Dec serText TextOk s none := dec_text h
theorem dec_text_yes {s r : Bs} {n : Int} (h : Dec (serNum 58) I64 s (some (n, r))) (h0 : 0 ≤ n) (h1 : n ≤ r.length) : Dec serText TextOk s (some (r.take n.toNat, r.drop n.toNat)) := by
  have := dec_text h
  simp only [if_pos (And.intro h0 h1)] at this
  exact this
theorem dec_text_no {s r : Bs} {n : Int} (h : Dec (serNum 58) I64 s (some (n, r))) (h0 : ¬ (0 ≤ n ∧ n ≤ r.length)) : Dec serText TextOk s none := by
  have := dec_text h
  simp only [if_neg h0] at this
  exact this

set_option maxRecDepth 100000 in
set_option maxHeartbeats 1000000 in
theorem rint_calls (rb : Option Nat) (st : Option Bs) (hl : (st.getD []).length ≤ 4294967280) (w : World) (hv : Vars w) (h : RdP rb st w) :
    Calls Tryd.prog 22 #[ptrV rb] w fun e w' => ∃ o : Option (Int × Bs), Dec serInt I64 (st.getD []) o ∧ e = .returned (encI ((o.map (·.1)).getD 0)) ∧ RdP rb (o.map (·.2)) w' ∧ Keep rb w w' := by
  have hN := number_calls rb st 59 hl mark59 w hv h
  have HN := Lib.hid hN
  clear hN hl hv h
  go_enter Tryd.func22, Tryd.ntmps22
  go_wp2_with fail
  refine HN.out.mono ?_
  rintro e w' ⟨o, hd, rfl, hr, hk⟩
  have Hd := Lib.hid hd
  have Hr := Lib.hid hr
  have Hk := Lib.hid hk
  clear hd hr hk
  go_wp2
  go_ret
  exact ⟨o, Hd.out, rfl, Hr.out, Hk.out⟩

/-- How Text's frame stands where it jumps. -/
def TextFrame (rb : Option Nat) (a : Act) : Prop := ∃ u1 u2 u3 u4 u5 u6 u7 u8 u9 u10 u11 u12 u13 u14 u15 u16 u17 u18 u19 u20 u21 u22 u23 u24 u25 u26 u27 u28 u29 u30 u31 u32 u33 u34 u35 u36 u37 u38 u39, a = { tmps := #[ptrV rb, u1, u2, u3, u4, u5, u6, u7, u8, u9, u10, u11, u12, u13, u14, u15, u16, u17, u18, u19, u20, u21, u22, u23, u24, u25, u26, u27, u28, u29, u30, u31, u32, u33, u34, u35, u36, u37, u38, u39], defers := [] }
set_option maxRecDepth 100000 in
set_option maxHeartbeats 4000000 in
theorem rtext_calls (rb : Option Nat) (st : Option Bs) (hl : (st.getD []).length ≤ 4294967280) (w : World) (hv : Vars w) (h : RdP rb st w) :
    Calls Tryd.prog 24 #[ptrV rb] w fun e w' => ∃ o : Option (Bs × Bs), Dec serText TextOk (st.getD []) o ∧ e = .returned (encT ((o.map (·.1)).getD [])) ∧ RdP rb (o.map (·.2)) w' ∧ Keep rb w w' := by
  have hN := number_calls rb st 58 hl mark58 w hv h
  obtain ⟨s, hs⟩ : ∃ s, s = st.getD [] := ⟨_, rfl⟩
  rw [← hs] at hN hl ⊢
  have HN := Lib.hid hN
  have HL := Lib.hid hl
  clear hN hl hv h hs
  go_enter Tryd.func24, Tryd.ntmps24
  go_wp2
  refine wp_scope_jumps 0 (fun a w' => TextFrame rb a ∧ (∃ st', RdP rb st' w') ∧ Keep rb w w' ∧ Dec serText TextOk s none) (fun _ _ => 0) rfl ?first ?pass
  case pass =>
    rintro a w2 ⟨⟨u1, u2, u3, u4, u5, u6, u7, u8, u9, u10, u11, u12, u13, u14, u15, u16, u17, u18, u19, u20, u21, u22, u23, u24, u25, u26, u27, u28, u29, u30, u31, u32, u33, u34, u35, u36, u37, u38, u39, rfl⟩, ⟨st', hst⟩, hx2, hd⟩
    have Hst := Lib.hid hst
    have Hx2 := Lib.hid hx2
    have Hd := Lib.hid hd
    clear hx2 hd HN hst
    go_wp2_with fail
    refine (spoil_calls rb st' w2 Hst.out).mono ?_
    rintro e w4 ⟨⟨v, rfl⟩, hr, hk⟩
    have Hr := Lib.hid hr
    have Hk := Lib.hid hk
    clear hr hk
    go_wp2
    simp only [Exit.jump]
    go_ret
    exact ⟨none, Hd.out, rfl, Hr.out, Hx2.out.trans Hk.out⟩
  go_wp2_with fail
  refine HN.out.mono ?_
  rintro e w1 ⟨o, hd, rfl, hr, hk⟩
  have Hd := Lib.hid hd
  have Hr := Lib.hid hr
  have Hk := Lib.hid hk
  clear hd hr hk HN
  go_wp2_with fail
  refine (bad_calls rb (o.map (·.2)) w1 Hr.out).mono ?_
  rintro e w2 ⟨rfl, rfl⟩
  rcases o with _ | ⟨n, r⟩
  · simp only [Option.map_none, Option.isNone_none, Option.getD_none]
    go_wp2_with fail
    go_step3
    exact ⟨rfl, ⟨_, _, _, _, _, _, _, _, _, _, _, _, _, _, _, _, _, _, _, _, _, _, _, _, _, _, _, _, _, _, _, _, _, _, _, _, _, _, _, rfl⟩, ⟨_, Hr.out⟩, Hk.out, dec_text_none Hd.out⟩
  · simp only [Option.map_some, Option.isNone_some, Option.getD_some]
    rcases rb with _ | b
    · exact absurd Hr.out (by simp [RdP])
    · have hi := (Hd.out.some n r rfl).1
      have hrl : r.length ≤ 4294967280 := by have h1 := (Hd.out.some n r rfl).2; have h2 := HL.out; rw [h1, List.length_append] at h2; omega
      obtain ⟨hi1, hi2⟩ := hi
      have c0 : w2.cell? ⟨b, 0, none⟩ = some (.string ⟨r.toArray⟩) := Hr.out.1.c0
      have f0 := Hr.out.1.f 0
      have hsz := bytes_size r
      unfold ptrV
      by_cases h0 : n < 0
      · have hno : Dec serText TextOk s none := dec_text_no Hd.out (by omega)
        have Hno := Lib.hid hno
        clear hno
        go_wp2_with fail
        go_step3
        exact ⟨rfl, ⟨_, _, _, _, _, _, _, _, _, _, _, _, _, _, _, _, _, _, _, _, _, _, _, _, _, _, _, _, _, _, _, _, _, _, _, _, _, _, _, rfl⟩, ⟨_, Hr.out⟩, Hk.out, Hno.out⟩
      · by_cases h1 : (r.length : Int) < n
        · have hno : Dec serText TextOk s none := dec_text_no Hd.out (by omega)
          have Hno := Lib.hid hno
          clear hno
          go_wp2_with fail
          go_step3
          exact ⟨rfl, ⟨_, _, _, _, _, _, _, _, _, _, _, _, _, _, _, _, _, _, _, _, _, _, _, _, _, _, _, _, _, _, _, _, _, _, _, _, _, _, _, rfl⟩, ⟨_, Hr.out⟩, Hk.out, Hno.out⟩
        · have hyes := dec_text_yes Hd.out (by omega) (by omega)
          have Hyes := Lib.hid hyes
          have htk := bytes_take r n.toNat
          have hdp := bytes_drop r n.toNat
          obtain ⟨k, rfl⟩ : ∃ k : Nat, n = (k : Int) := ⟨n.toNat, by omega⟩
          simp only [Int.toNat_natCast] at htk hdp
          have hk1 : k ≤ r.length := by omega
          have c0' : w2.drew.cell? ⟨b, 0, none⟩ = some (.string ⟨r.toArray⟩) := c0
          have f0' : w2.drew.frozen? ⟨b, 0, none⟩ = false := f0
          clear hyes
          go_wp2
          go_still_tail 14, (by kernel_rfl)
          change wpList _ _ _ _ _ w2.drew
          go_wp2
          simp only [Exit.jump]
          go_ret
          exact ⟨some (r.take k, r.drop k), Hyes.out, rfl, ⟨RdAt.set0 (w := w2.drew) Hr.out.1 (r.drop k), Hr.out.2⟩, Hk.out.trans ((Ext.drew w2).keep.trans (Keep.set _ 0 _))⟩

end Go.Proofs.YtckhbejgkgpilaaDoor
