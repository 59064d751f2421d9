/- The reference's reader: Int, Text, Ints, Texts. (Written by gen_qr.py.) -/
import Derived.Test.YtckhbejgkgpilaaDoorQNum
set_option linter.all false
namespace Go.Proofs.YtckhbejgkgpilaaDoor
open Go Go.RowKit Go.Shelf

set_option maxRecDepth 100000 in
set_option maxHeartbeats 2000000 in
theorem qint_calls (b : Nat) (s : Bs) (st : Option Bs) (hl : s.length ≤ 4294967280) (w : World) (h : QP b s st w) :
    Calls Tryd.prog 23 #[.pointer (some ⟨b, 0, none⟩)] w fun e w' => ∃ o : Option (Int × Bs), Dec serInt I64 (st.getD []) o ∧ e = .returned (encI ((o.map (·.1)).getD 0)) ∧ QP b s (o.map (·.2)) w' ∧ Keep (some b) w w' := by
  have hN := qnumber_calls b s st hl 59 mark59 w h
  have HN := Lib.hid hN
  clear hN h
  go_enter Tryd.func23, Tryd.ntmps23
  go_wp2_with fail
  refine HN.out.mono ?_
  rintro e w1 ⟨o, hd, rfl, hq, hk⟩
  have Hd := Lib.hid hd
  have Hq := Lib.hid hq
  have Hk := Lib.hid hk
  clear hd hq hk
  rcases o with _ | ⟨n, r⟩
  · simp only [Option.map_none, Option.getD_none, Option.isSome_none]
    go_wp2_with fail
    refine (qfail_calls b s st w1 Hq.out).mono ?_
    rintro e w2 ⟨⟨v, rfl⟩, hq2, hk2⟩
    have Hq2 := Lib.hid hq2
    have Hk2 := Lib.hid hk2
    clear hq2 hk2
    go_wp2
    go_ret
    exact ⟨none, Hd.out, rfl, Hq2.out, Hk.out.trans Hk2.out⟩
  · simp only [Option.map_some, Option.getD_some, Option.isSome_some]
    go_wp2
    go_ret
    exact ⟨some (n, r), Hd.out, rfl, Hq.out, Hk.out⟩

set_option maxRecDepth 100000 in
set_option maxHeartbeats 4000000 in
theorem qtext_calls (b : Nat) (s : Bs) (st : Option Bs) (hl : s.length ≤ 4294967280) (w : World) (h : QP b s st w) :
    Calls Tryd.prog 25 #[.pointer (some ⟨b, 0, none⟩)] w fun e w' => ∃ o : Option (Bs × Bs), Dec serText TextOk (st.getD []) o ∧ e = .returned (encT ((o.map (·.1)).getD [])) ∧ QP b s (o.map (·.2)) w' ∧ Keep (some b) w w' := by
  have hN := qnumber_calls b s st hl 58 mark58 w h
  have HN := Lib.hid hN
  clear hN h
  go_enter Tryd.func25, Tryd.ntmps25
  go_wp2_with fail
  refine HN.out.mono ?_
  rintro e w1 ⟨o, hd, rfl, hq, hk⟩
  have Hd := Lib.hid hd
  have Hk := Lib.hid hk
  clear hk
  have bad : ∀ (st2 : Option Bs) (w2 : World), QP b s st2 w2 → Keep (some b) w w2 → Calls Tryd.prog 44 #[.pointer (some ⟨b, 0, none⟩)] w2 fun e w' => (∃ v, e = .returned v) ∧ QP b s none w' ∧ Keep (some b) w w' := fun st2 w2 hq hx =>
    (qfail_calls b s st2 w2 hq).mono fun e w' h => ⟨h.1, h.2.1, hx.trans h.2.2⟩
  have Bad := Lib.hid bad
  clear bad
  rcases o with _ | ⟨n, r⟩
  · have Hq := Lib.hid hq
    clear hd hq
    simp only [Option.map_none, Option.getD_none, Option.isSome_none]
    go_wp2_with fail
    refine (Bad.out st w1 Hq.out Hk.out).mono ?_
    rintro e w2 ⟨⟨v, rfl⟩, hq2, hk2⟩
    have Hq2 := Lib.hid hq2
    have Hk2 := Lib.hid hk2
    clear hq2 hk2
    go_wp2
    go_ret
    exact ⟨none, dec_text_none Hd.out, rfl, Hq2.out, Hk2.out⟩
  · simp only [Option.map_some, Option.getD_some, Option.isSome_some]
    have Hq := Lib.hid hq
    obtain ⟨k, wrong, hk, hqa, hst⟩ := hq
    cases wrong with
    | true => simp at hst
    | false =>
    have hrk : r = s.drop k := by simpa using hst
    have hi := (hd.some n r rfl).1
    obtain ⟨hi1, hi2⟩ := hi
    have hrl : (r.length : Int) = (s.length : Int) - (k : Int) := by rw [hrk, List.length_drop]; omega
    have HQA := Lib.hid hqa
    have HRK := Lib.hid hrk
    clear hd hst hqa hrk
    by_cases h0 : n < 0
    · have hno : Dec serText TextOk (st.getD []) none := dec_text_no Hd.out (by omega)
      have Hno := Lib.hid hno
      clear hno hrl
      go_wp2_with fail
      refine (Bad.out _ w1 Hq.out Hk.out).mono ?_
      rintro e w2 ⟨⟨v, rfl⟩, hq2, hk2⟩
      have Hq2 := Lib.hid hq2
      have Hk2 := Lib.hid hk2
      clear hq2 hk2
      go_wp2
      go_ret
      exact ⟨none, Hno.out, rfl, Hq2.out, Hk2.out⟩
    · obtain ⟨l, hl2⟩ : ∃ l, l = r.length := ⟨_, rfl⟩
      have HL2 := Lib.hid hl2
      have hleft := qleft_calls b s (some r) hl w1 Hq.out
      simp only [Option.getD_some] at hleft
      rw [← hl2] at hleft hrl
      have HLF := Lib.hid hleft
      clear hleft hl2
      by_cases h1 : (l : Int) < n
      · have hno : Dec serText TextOk (st.getD []) none := dec_text_no Hd.out (by have := HL2.out; omega)
        have Hno := Lib.hid hno
        clear hno hrl
        go_wp2_with fail
        refine HLF.out.mono ?_
        rintro e w2 ⟨rfl, hx2⟩
        have Hx2 := Lib.hid hx2
        clear hx2
        go_wp2_with fail
        refine (Bad.out _ w2 (Hq.out.ext Hx2.out) (Hk.out.trans Hx2.out.keep)).mono ?_
        rintro e w3 ⟨⟨v, rfl⟩, hq2, hk2⟩
        have Hq2 := Lib.hid hq2
        have Hk2 := Lib.hid hk2
        clear hq2 hk2
        go_wp2
        go_ret
        exact ⟨none, Hno.out, rfl, Hq2.out, Hk2.out⟩
      · have hyes := dec_text_yes Hd.out (by omega) (by have := HL2.out; omega)
        have Hyes := Lib.hid hyes
        obtain ⟨j, hj⟩ : ∃ j : Nat, n = (j : Int) := ⟨n.toNat, by omega⟩
        subst hj
        have hjl : k + j ≤ s.length := by omega
        have hw1 : IntKind.i64.wrap ((k : Int) + (j : Int)) = (k : Int) + (j : Int) := by rw [IntKind.wrap_i64]; omega
        have hext : (⟨s.toArray⟩ : ByteArray).extract k (k + j) = ⟨(r.take j).toArray⟩ := by rw [bytes_mid, HRK.out]; congr 2; rw [show k + j - k = j by omega]
        have hnat : ((k : Int) + (j : Int)).toNat = k + j := by omega
        have e1 : (k : Int) ≤ (k : Int) + (j : Int) := by omega
        have e2 : (k : Int) + (j : Int) ≤ (s.length : Int) := by omega
        have e3 : (0 : Int) ≤ (k : Int) := by omega
        have e4 : (0 : Int) ≤ (k : Int) + (j : Int) := by omega
        have hsz := bytes_size s
        clear hyes hrl
        go_wp2_with fail
        refine HLF.out.mono ?_
        rintro e w2 ⟨rfl, hx2⟩
        have Hx2 := Lib.hid hx2
        have hq2 := HQA.out.ext hx2
        have c0 := hq2.c0
        have c1 := hq2.c1
        have f1 := hq2.f 1
        have HQ2 := Lib.hid hq2
        clear hx2 hq2
        go_wp2
        go_quiet (fail)
        go_wp2
        go_ret
        refine ⟨some (r.take j, r.drop j), by have h := Hyes.out; simpa using h, rfl, ⟨k + j, false, hjl, QAt.set1 (w := w2.drewN _) HQ2.out (k + j), ?_⟩, (Hk.out.trans (Hx2.out.trans (Ext.drewN _ _)).keep).trans (Keep.set _ 1 _)⟩
        show some (r.drop j) = some (s.drop (k + j))
        rw [HRK.out, List.drop_drop]

theorem qp_below {b : Nat} {s : Bs} {st : Option Bs} {base : Nat} {w1 w2 : World} (h : QP b s st w1) (hb : b < base) (k : Below base w1 w2) : QP b s st w2 := by
  obtain ⟨i, wr, h1, h2, h3⟩ := h
  exact ⟨i, wr, h1, (k.block b hb).trans h2, h3⟩
theorem qp_len {b : Nat} {s : Bs} {st : Option Bs} {w : World} (h : QP b s st w) : (st.getD []).length ≤ s.length := by
  obtain ⟨i, wr, h1, h2, rfl⟩ := h
  cases wr <;> simp

set_option maxRecDepth 100000 in
set_option maxHeartbeats 4000000 in
theorem qints_calls (b : Nat) (s : Bs) (st : Option Bs) (hl : s.length ≤ 4294967280) (hsl : (st.getD []).length ≤ s.length) (w : World) (h : QP b s st w) :
    Calls Tryd.prog 28 #[.pointer (some ⟨b, 0, none⟩)] w fun e w' => ∃ o : Option (List Int × Bs), Dec (serL serInt) (AllOk I64) (st.getD []) o ∧ (∃ v, e = .returned v ∧ SlOf encI (fun c => w.heap.size ≤ c) w' v ((o.map (·.1)).getD [])) ∧ QP b s (o.map (·.2)) w' ∧ Keep (some b) w w' := by
  have hS := qbyte_calls b s st hl 91 w h
  have e91 : (((91 : UInt8).toNat : Nat) : Int) = 91 := rfl
  rw [e91] at hS
  obtain ⟨t, ht⟩ : ∃ t, t = st.getD [] := ⟨_, rfl⟩
  rw [← ht] at hS hsl ⊢
  obtain ⟨i0, hi, hz0, hz1, hz2⟩ : ∃ i, Tryd.prog.info? 3 = some i ∧ i.zero = some (.int .i64 0) ∧ i.size = 1 ∧ i.bytes = 8 := by
    have h : (Tryd.prog.info? 3).map (fun i => (i.zero, i.size, i.bytes)) = some (some (.int .i64 0), 1, 8) := by kernel_rfl
    obtain ⟨i, hi, e⟩ := Option.map_eq_some_iff.1 h
    simp only [Prod.mk.injEq] at e
    exact ⟨i, hi, e.1, e.2.1, e.2.2⟩
  obtain ⟨B, hB⟩ : ∃ B, B = w.heap.size := ⟨_, rfl⟩
  have hbl := h.lt
  rw [← hB] at hbl ⊢
  have HRl : Hid (∀ c, some b = some c → c < B) := fun c e => by cases e; exact hbl
  have HB := Lib.hid hB
  have HS := Lib.hid hS
  have HQ := Lib.hid h
  clear hS h ht hB hbl e91
  go_enter Tryd.func28, Tryd.ntmps28
  go_wp2_with fail
  refine HS.out.mono ?_
  rintro e w1 (⟨r0, he0, rfl, hr, hk⟩ | ⟨hno, rfl, hq1, hk⟩)
  case inr =>
    have hd : Dec (serL serInt) (AllOk I64) t none := dec_list_none hno
    have Hd := Lib.hid hd
    have Hq1 := Lib.hid hq1
    have Hk1 := Lib.hid hk
    clear hd hno hq1 hk
    go_wp2_with fail
    refine (qfail_calls b s st w1 Hq1.out).mono ?_
    rintro e w2 ⟨⟨v, rfl⟩, hq2, hk2⟩
    have Hq2 := Lib.hid hq2
    have Hk2 := Lib.hid hk2
    clear hq2 hk2
    go_wp2
    go_ret
    exact ⟨none, Hd.out, ⟨_, rfl, SlOf.nil⟩, Hq2.out, Hk1.out.trans Hk2.out⟩
  have He0 := Lib.hid he0
  have Hr := Lib.hid hr
  have Hk := Lib.hid hk
  clear he0 hr hk
  go_wp2_with fail
  go_loopw [3] (fun v wr => ∃ acc r, OwnsE encI 3 wr B v acc ∧ AllOk I64 acc ∧ QP b s (some r) wr ∧ t = 91 :: (acc.flatMap serInt ++ r) ∧ Keep (some b) w wr) (fun v _ => t.length + 1 - lenOf v)
  case atStart => exact ⟨[], r0, OwnsE.nil, fun _ h => absurd h (by simp), Hr.out, by rw [He0.out]; rfl, Hk.out⟩
  case round =>
    obtain ⟨acc, r, ho, hok, hrd, hsr, hkr⟩ := hrel
    obtain ⟨pv, cv, rfl⟩ := ho.shape
    have Ho := Lib.hid ho
    have Hok := Lib.hid hok
    have Hrd := Lib.hid hrd
    have Hsr := Lib.hid hsr
    have Hkr := Lib.hid hkr
    clear ho hok hrd hsr hkr
    have hn : acc.length + r.length + 1 ≤ t.length := by
      have h1 := flat_ge opens_int acc
      have h2 := congrArg List.length Hsr.out
      rw [List.length_cons, List.length_append] at h2
      omega
    obtain ⟨n, hn2⟩ : ∃ n, n = acc.length := ⟨_, rfl⟩
    rw [← hn2] at hn ⊢
    have Hn2 := Lib.hid hn2
    clear hn2
    have hb93 := qbyte_calls b s (some r) hl 93 wr Hrd.out
    have e93 : (((93 : UInt8).toNat : Nat) : Int) = 93 := rfl
    rw [e93] at hb93
    have H93 := Lib.hid hb93
    clear hb93 e93
    go_wp2_with fail
    refine H93.out.mono ?_
    rintro e w2 (⟨r1, he1, rfl, hr1, hk1⟩ | ⟨hno, rfl, hq1, hk1⟩)
    · have he1' : r = 93 :: r1 := he1
      have hd := dec_list_done (ser := serInt) (ok := I64) (s := t) (r := r1) Hok.out (by rw [Hsr.out, he1'])
      have Hd := Lib.hid hd
      have Hr1 := Lib.hid hr1
      have Hk1 := Lib.hid hk1
      clear he1 he1' hd hr1 hk1
      go_wp2
      go_ret
      refine ⟨some (acc, r1), Hd.out, ⟨_, rfl, ?_⟩, Hr1.out, Hkr.out.trans Hk1.out⟩
      rw [Hn2.out]
      exact OwnsE.sl (Ho.out.keep Hk1.out HRl.out) (by show acc.length ≤ maxLen; unfold maxLen; have := Hn2.out; omega)
    · have Hno := Lib.hid hno
      have Hq1 := Lib.hid hq1
      have Hk1 := Lib.hid hk1
      clear hno hq1 hk1
      go_wp2_with fail
      refine (qint_calls b s (some r) hl w2 Hq1.out).mono ?_
      rintro e w3 ⟨o, hd, rfl, hr3, hk3⟩
      have Hd := Lib.hid hd
      have Hr3 := Lib.hid hr3
      have Hk3' : Hid (Keep (some b) w w3) := (Hkr.out.trans Hk1.out).trans hk3
      obtain ⟨x, hx⟩ : ∃ x, x = (o.map (·.1)).getD 0 := ⟨_, rfl⟩
      rw [← hx]
      have Hx := Lib.hid hx
      have hB3 : B ≤ w3.heap.size := by rw [HB.out]; exact Hk3'.out.size
      have ho3 := (Ho.out.keep Hk1.out HRl.out).keep hk3 HRl.out
      have Hown : Hid (∀ o, (w3.alloc o).ownsRow B 3 1 (.slice pv n cv) n (acc.map encI)) := fun o => by
        have h : (w3.alloc o).ownsRow B 3 1 (.slice pv acc.length cv) acc.length (acc.map encI) := World.ownsRow.alloc ho3 o
        rw [← Hn2.out] at h; exact h
      have Hoo : Hid (OwnsE encI 3 w3 B (.slice pv n cv) acc) := by rw [Hn2.out]; exact ho3
      clear hd hr3 hk3 hx ho3
      unfold encI
      go_wp2_with (at_builtin; refine wpList_append_own _ rfl (.tmp 17) (.tmp 20) 22 rfl B 3 i0 (.int .i64 0) 1 8 Tryd.underlying22 hi hz0 hz1 hz2 rfl (by decide) _ _ _ rfl (Hown.out _) ⟨w3.heap.size, 0, none⟩ 1 1 [encI x] rfl rfl (cell_one_own _ _ _) (by intro u hu; simp at hu; subst hu; rfl) (by unfold maxLen; omega) (by omega) (by simp; omega) ?_; intro v' w4 hown' hgrow _; obtain ⟨ho1, hb1⟩ := own_step Hoo.out Hn2.out.symm (by omega) hown' hgrow; have Ho1 := Lib.hid ho1; have Hb1 := Lib.hid hb1; clear hown' hgrow ho1 hb1)
      go_wp2_with fail
      refine (qbad_calls b s (o.map (·.2)) w4 (qp_below Hr3.out (HRl.out b rfl) Hb1.out)).mono ?_
      rintro e w5 ⟨rfl, rfl⟩
      have HK : Hid (Keep (some b) w w5) := keep_of_below Hk3'.out HB.out Hb1.out
      have HQ5 : Hid (QP b s (o.map (·.2)) w5) := qp_below Hr3.out (HRl.out b rfl) Hb1.out
      rcases o with _ | ⟨y, r3⟩
      · have hd : Dec (serL serInt) (AllOk I64) t none := dec_list_fail ud_int opens_int Hok.out Hsr.out Hno.out Hd.out
        have Hd2 := Lib.hid hd
        clear hd
        simp only [Option.map_none, Option.isNone_none]
        go_wp2
        go_ret
        exact ⟨none, Hd2.out, ⟨_, rfl, SlOf.nil⟩, HQ5.out, HK.out⟩
      · have hyx : x = y := Hx.out
        subst hyx
        have hd := Hd.out.some _ _ rfl
        have Hd2 := Lib.hid hd
        clear hd
        simp only [Option.map_some, Option.isNone_some]
        go_wp2
        go_roundw
        case rel => exact ⟨acc ++ [x], r3, Ho1.out, fun a ha => by rcases List.mem_append.1 ha with h | h; exact Hok.out a h; simp at h; rw [h]; exact Hd2.out.1, HQ5.out, by rw [Hsr.out, show r = _ from Hd2.out.2]; simp, HK.out⟩
        case measure =>
          obtain ⟨p', c', e'⟩ := Ho1.out.shape
          rw [e']
          simp only [lenOf, List.length_append, List.length_cons, List.length_nil]
          have := Hn2.out
          omega

set_option maxRecDepth 100000 in
set_option maxHeartbeats 4000000 in
theorem qtexts_calls (b : Nat) (s : Bs) (st : Option Bs) (hl : s.length ≤ 4294967280) (hsl : (st.getD []).length ≤ s.length) (w : World) (h : QP b s st w) :
    Calls Tryd.prog 31 #[.pointer (some ⟨b, 0, none⟩)] w fun e w' => ∃ o : Option (List Bs × Bs), Dec (serL serText) (AllOk TextOk) (st.getD []) o ∧ (∃ v, e = .returned v ∧ SlOf encT (fun c => w.heap.size ≤ c) w' v ((o.map (·.1)).getD [])) ∧ QP b s (o.map (·.2)) w' ∧ Keep (some b) w w' := by
  have hS := qbyte_calls b s st hl 91 w h
  have e91 : (((91 : UInt8).toNat : Nat) : Int) = 91 := rfl
  rw [e91] at hS
  obtain ⟨t, ht⟩ : ∃ t, t = st.getD [] := ⟨_, rfl⟩
  rw [← ht] at hS hsl ⊢
  obtain ⟨i0, hi, hz0, hz1, hz2⟩ : ∃ i, Tryd.prog.info? 9 = some i ∧ i.zero = some (.string ⟨#[]⟩) ∧ i.size = 1 ∧ i.bytes = 16 := by
    have h : (Tryd.prog.info? 9).map (fun i => (i.zero, i.size, i.bytes)) = some (some (.string ⟨#[]⟩), 1, 16) := by kernel_rfl
    obtain ⟨i, hi, e⟩ := Option.map_eq_some_iff.1 h
    simp only [Prod.mk.injEq] at e
    exact ⟨i, hi, e.1, e.2.1, e.2.2⟩
  obtain ⟨B, hB⟩ : ∃ B, B = w.heap.size := ⟨_, rfl⟩
  have hbl := h.lt
  rw [← hB] at hbl ⊢
  have HRl : Hid (∀ c, some b = some c → c < B) := fun c e => by cases e; exact hbl
  have HB := Lib.hid hB
  have HS := Lib.hid hS
  have HQ := Lib.hid h
  clear hS h ht hB hbl e91
  go_enter Tryd.func31, Tryd.ntmps31
  go_wp2_with fail
  refine HS.out.mono ?_
  rintro e w1 (⟨r0, he0, rfl, hr, hk⟩ | ⟨hno, rfl, hq1, hk⟩)
  case inr =>
    have hd : Dec (serL serText) (AllOk TextOk) t none := dec_list_none hno
    have Hd := Lib.hid hd
    have Hq1 := Lib.hid hq1
    have Hk1 := Lib.hid hk
    clear hd hno hq1 hk
    go_wp2_with fail
    refine (qfail_calls b s st w1 Hq1.out).mono ?_
    rintro e w2 ⟨⟨v, rfl⟩, hq2, hk2⟩
    have Hq2 := Lib.hid hq2
    have Hk2 := Lib.hid hk2
    clear hq2 hk2
    go_wp2
    go_ret
    exact ⟨none, Hd.out, ⟨_, rfl, SlOf.nil⟩, Hq2.out, Hk1.out.trans Hk2.out⟩
  have He0 := Lib.hid he0
  have Hr := Lib.hid hr
  have Hk := Lib.hid hk
  clear he0 hr hk
  go_wp2_with fail
  go_loopw [3] (fun v wr => ∃ acc r, OwnsE encT 9 wr B v acc ∧ AllOk TextOk acc ∧ QP b s (some r) wr ∧ t = 91 :: (acc.flatMap serText ++ r) ∧ Keep (some b) w wr) (fun v _ => t.length + 1 - lenOf v)
  case atStart => exact ⟨[], r0, OwnsE.nil, fun _ h => absurd h (by simp), Hr.out, by rw [He0.out]; rfl, Hk.out⟩
  case round =>
    obtain ⟨acc, r, ho, hok, hrd, hsr, hkr⟩ := hrel
    obtain ⟨pv, cv, rfl⟩ := ho.shape
    have Ho := Lib.hid ho
    have Hok := Lib.hid hok
    have Hrd := Lib.hid hrd
    have Hsr := Lib.hid hsr
    have Hkr := Lib.hid hkr
    clear ho hok hrd hsr hkr
    have hn : acc.length + r.length + 1 ≤ t.length := by
      have h1 := flat_ge opens_text acc
      have h2 := congrArg List.length Hsr.out
      rw [List.length_cons, List.length_append] at h2
      omega
    obtain ⟨n, hn2⟩ : ∃ n, n = acc.length := ⟨_, rfl⟩
    rw [← hn2] at hn ⊢
    have Hn2 := Lib.hid hn2
    clear hn2
    have hb93 := qbyte_calls b s (some r) hl 93 wr Hrd.out
    have e93 : (((93 : UInt8).toNat : Nat) : Int) = 93 := rfl
    rw [e93] at hb93
    have H93 := Lib.hid hb93
    clear hb93 e93
    go_wp2_with fail
    refine H93.out.mono ?_
    rintro e w2 (⟨r1, he1, rfl, hr1, hk1⟩ | ⟨hno, rfl, hq1, hk1⟩)
    · have he1' : r = 93 :: r1 := he1
      have hd := dec_list_done (ser := serText) (ok := TextOk) (s := t) (r := r1) Hok.out (by rw [Hsr.out, he1'])
      have Hd := Lib.hid hd
      have Hr1 := Lib.hid hr1
      have Hk1 := Lib.hid hk1
      clear he1 he1' hd hr1 hk1
      go_wp2
      go_ret
      refine ⟨some (acc, r1), Hd.out, ⟨_, rfl, ?_⟩, Hr1.out, Hkr.out.trans Hk1.out⟩
      rw [Hn2.out]
      exact OwnsE.sl (Ho.out.keep Hk1.out HRl.out) (by show acc.length ≤ maxLen; unfold maxLen; have := Hn2.out; omega)
    · have Hno := Lib.hid hno
      have Hq1 := Lib.hid hq1
      have Hk1 := Lib.hid hk1
      clear hno hq1 hk1
      go_wp2_with fail
      refine (qtext_calls b s (some r) hl w2 Hq1.out).mono ?_
      rintro e w3 ⟨o, hd, rfl, hr3, hk3⟩
      have Hd := Lib.hid hd
      have Hr3 := Lib.hid hr3
      have Hk3' : Hid (Keep (some b) w w3) := (Hkr.out.trans Hk1.out).trans hk3
      obtain ⟨x, hx⟩ : ∃ x, x = (o.map (·.1)).getD [] := ⟨_, rfl⟩
      rw [← hx]
      have Hx := Lib.hid hx
      have hB3 : B ≤ w3.heap.size := by rw [HB.out]; exact Hk3'.out.size
      have ho3 := (Ho.out.keep Hk1.out HRl.out).keep hk3 HRl.out
      have Hown : Hid (∀ o, (w3.alloc o).ownsRow B 9 1 (.slice pv n cv) n (acc.map encT)) := fun o => by
        have h : (w3.alloc o).ownsRow B 9 1 (.slice pv acc.length cv) acc.length (acc.map encT) := World.ownsRow.alloc ho3 o
        rw [← Hn2.out] at h; exact h
      have Hoo : Hid (OwnsE encT 9 w3 B (.slice pv n cv) acc) := by rw [Hn2.out]; exact ho3
      clear hd hr3 hk3 hx ho3
      unfold encT
      go_wp2_with (at_builtin; refine wpList_append_own _ rfl (.tmp 17) (.tmp 20) 23 rfl B 9 i0 (.string ⟨#[]⟩) 1 16 Tryd.underlying23 hi hz0 hz1 hz2 rfl (by decide) _ _ _ rfl (Hown.out _) ⟨w3.heap.size, 0, none⟩ 1 1 [encT x] rfl rfl (cell_one_own _ _ _) (by intro u hu; simp at hu; subst hu; rfl) (by unfold maxLen; omega) (by omega) (by simp; omega) ?_; intro v' w4 hown' hgrow _; obtain ⟨ho1, hb1⟩ := own_step Hoo.out Hn2.out.symm (by omega) hown' hgrow; have Ho1 := Lib.hid ho1; have Hb1 := Lib.hid hb1; clear hown' hgrow ho1 hb1)
      go_wp2_with fail
      refine (qbad_calls b s (o.map (·.2)) w4 (qp_below Hr3.out (HRl.out b rfl) Hb1.out)).mono ?_
      rintro e w5 ⟨rfl, rfl⟩
      have HK : Hid (Keep (some b) w w5) := keep_of_below Hk3'.out HB.out Hb1.out
      have HQ5 : Hid (QP b s (o.map (·.2)) w5) := qp_below Hr3.out (HRl.out b rfl) Hb1.out
      rcases o with _ | ⟨y, r3⟩
      · have hd : Dec (serL serText) (AllOk TextOk) t none := dec_list_fail ud_text opens_text Hok.out Hsr.out Hno.out Hd.out
        have Hd2 := Lib.hid hd
        clear hd
        simp only [Option.map_none, Option.isNone_none]
        go_wp2
        go_ret
        exact ⟨none, Hd2.out, ⟨_, rfl, SlOf.nil⟩, HQ5.out, HK.out⟩
      · have hyx : x = y := Hx.out
        subst hyx
        have hd := Hd.out.some _ _ rfl
        have Hd2 := Lib.hid hd
        clear hd
        simp only [Option.map_some, Option.isNone_some]
        go_wp2
        go_roundw
        case rel => exact ⟨acc ++ [x], r3, Ho1.out, fun a ha => by rcases List.mem_append.1 ha with h | h; exact Hok.out a h; simp at h; rw [h]; exact Hd2.out.1, HQ5.out, by rw [Hsr.out, show r = _ from Hd2.out.2]; simp, HK.out⟩
        case measure =>
          obtain ⟨p', c', e'⟩ := Ho1.out.shape
          rw [e']
          simp only [lenOf, List.length_append, List.length_cons, List.length_nil]
          have := Hn2.out
          omega

end Go.Proofs.YtckhbejgkgpilaaDoor
