/- The walk of WireReads. (Written by gen_reads.py.) -/
import Derived.Test.YtckhbejgkgpilaaDoorQRead
import Derived.Test.YtckhbejgkgpilaaDoorOpen
import Derived.Test.YtckhbejgkgpilaaDoorWrites
set_option linter.all false
namespace Go.Proofs.YtckhbejgkgpilaaDoor
open Go Go.RowKit Go.Shelf

theorem RdP.keep {ba : Nat} {rb : Option Nat} {st : Option Bs} {w w' : World} (h : RdP (some ba) st w) (hk : Keep rb w w') (hb : rb ≠ some ba) : RdP (some ba) st w' := ⟨(hk.block ba h.1.lt hb).trans h.1, h.2⟩

set_option maxRecDepth 100000 in
set_option maxHeartbeats 8000000 in
theorem wireReads_walk (s : Bs) (u : Value) (cs : List Nat) (w0 : World) (hv : Vars w0) (hs0 : s.length ≤ 9223372036854775807) (hu : SlOf encB (fun b => b < w0.heap.size) w0 u cs ∧ ∀ c ∈ cs, c < 256) :
    Calls Tryd.prog 4 #[.string ⟨s.toArray⟩, u] w0 fun e w' => e = .returned (.bool true) ∧ Ext w0 w' := by
  have V0 := Lib.hid hv
  have HU2 := Lib.hid hu.2
  obtain ⟨p, n, cap, rfl, hn, hnl, hcs⟩ := hu.1.parts
  have HN := Lib.hid hn
  have HCS := Lib.hid hcs
  clear hv hu hn hcs
  have hsz := bytes_size s
  obtain ⟨t, ht⟩ : ∃ t, t = s.take 200 := ⟨_, rfl⟩
  have hcut := cut_bytes s 200
  rw [← ht] at hcut
  have hmin : min (s.length : Int) 200 = ((min s.length 200 : Nat) : Int) := by omega
  have hle : min s.length 200 ≤ s.length := Nat.min_le_left _ _
  have htl : t.length ≤ 200 := by rw [ht, List.length_take]; omega
  have htl2 : t.length ≤ 4294967280 := by omega
  clear ht
  go_enter Tryd.func4, Tryd.ntmps4
  go_wp2_with fail
  refine (sanity_calls w0 V0.out).mono ?_
  rintro e w1 ⟨rfl, hx1⟩
  have X1 := Lib.hid hx1
  have V1 : Hid (Vars w1) := V0.out.ext hx1
  clear hx1
  go_wp2_with fail
  refine (new_calls t w1 V1.out.low).mono ?_
  rintro e w2 ⟨rfl, hr2, hx2⟩
  have R2 := Lib.hid hr2
  have X2 : Hid (Ext w0 w2) := X1.out.trans hx2
  obtain ⟨ba, hba⟩ : ∃ b, b = w1.heap.size := ⟨_, rfl⟩
  rw [← hba] at R2 ⊢
  have HBA : Hid (w0.heap.size ≤ ba) := by show _ ≤ _; rw [hba]; exact Below.size X1.out
  have hal := R2.out.rlt ba rfl
  have HAL := Lib.hid hal
  unfold ptrV
  clear hr2 hx2 hba hal hcut hmin hle hsz hs0
  go_wp2_with fail
  refine (qnew_calls t w2).mono ?_
  rintro e w3 ⟨rfl, hq3, hx3⟩
  have Q3 := Lib.hid hq3
  have X3 : Hid (Ext w0 w3) := X2.out.trans hx3
  have R3 : Hid (RdP (some ba) (some t) w3) := R2.out.ext hx3
  obtain ⟨bb, hbb⟩ : ∃ b, b = w2.heap.size := ⟨_, rfl⟩
  rw [← hbb] at Q3 ⊢
  have HAB : Hid (ba < bb) := by show _ < _; rw [hbb]; exact HAL.out
  clear hq3 hx3 hbb
  go_wp2
  have LOW : Hid (6 ≤ ba) := R3.out.2
  have FA : Hid (∀ w w' : World, Ext w0 w → Keep (some ba) w w' → Ext w0 w') := fun _ _ h k => Keep.new h (fun c e => by cases e; exact HBA.out) k
  have FB : Hid (∀ w w' : World, Ext w0 w → Keep (some bb) w w' → Ext w0 w') := fun _ _ h k => Keep.new h (fun c e => by cases e; exact Nat.le_of_lt (Nat.lt_of_le_of_lt HBA.out HAB.out)) k
  go_loopw [8] (fun i wr => ∃ (k : Nat) (st : Option Bs), k ≤ n ∧ k ≤ 12 ∧ i = .int .i64 (k : Int) ∧ RdP (some ba) st wr ∧ QP bb t st wr ∧ Ext w0 wr) (fun i _ => 12 - (intOf i).toNat)
  case atStart => exact ⟨0, some t, by omega, by omega, rfl, R3.out, Q3.out, X3.out⟩
  case round =>
    obtain ⟨k, st, hk, hk12, rfl, hr, hq, hx⟩ := hrel
    have RR := Lib.hid hr
    have QR := Lib.hid hq
    have XR := Lib.hid hx
    have VR : Hid (Vars wr) := V0.out.ext hx
    have hsl := qp_len hq
    have SL : Hid ((st.getD []).length ≤ 4294967280) := by show _ ≤ _; omega
    clear hr hq hx hsl
    by_cases hlt : k < n
    case neg =>
      have hno : ¬ ((k : Int) < (n : Int)) := by omega
      go_wp2
      go_ret
      exact ⟨rfl, XR.out⟩
    by_cases h12 : k < 12
    case neg =>
      have hno : ¬ ((k : Int) < 12) := by omega
      go_wp2
      go_ret
      exact ⟨rfl, XR.out⟩
    have h12I : (k : Int) < 12 := by omega
    have hnI : (k : Int) < (n : Int) := by omega
    obtain ⟨c, hc⟩ : ∃ c, cs[k]? = some c := ⟨_, List.getElem?_eq_getElem (by rw [← HN.out]; exact hlt)⟩
    have hc256 := HU2.out c (List.mem_of_getElem? hc)
    obtain ⟨b, off, rfl, -, hbl, hcells⟩ := HCS.out (by omega)
    have hcell := (Below.cell XR.out (p := ⟨b, off + k, none⟩) hbl).trans (hcells k c hc)
    unfold encB at hcell
    clear hcells hc hbl
    rcases (by omega : c % 4 = 0 ∨ c % 4 = 1 ∨ c % 4 = 2 ∨ c % 4 = 3) with hj | hj | hj | hj
    · have hjI : (c : Int) % 4 = 0 := by omega
      have hjT : (c : Int).tmod 4 = 0 := by rw [Int.tmod_eq_emod_of_nonneg (by omega)]; exact hjI
      clear hj
      go_wp2_with fail
      refine (rint_calls (some ba) st SL.out wr VR.out RR.out).mono ?_
      rintro e w5 ⟨o, hd, rfl, hr5, hk5⟩
      have D5 := Lib.hid hd
      have R5 := Lib.hid hr5
      have Q5 : Hid (QP bb t st w5) := QR.out.keep hk5 (fun e => by cases e; exact Nat.lt_irrefl _ HAB.out)
      have X5 : Hid (Ext w0 w5) := FA.out _ _ XR.out hk5
      skip
      clear hd hr5 hk5
      go_wp2_with fail
      refine (qint_calls bb t st htl2 w5 Q5.out).mono ?_
      rintro e w6 ⟨o2, hd2, rfl, hq6, hk6⟩
      obtain rfl : o = o2 := Dec.eq ud_int D5.out hd2
      have Q6 := Lib.hid hq6
      have R6 : Hid (RdP (some ba) (o.map (·.2)) w6) := R5.out.keep hk6 (fun e => by cases e; exact Nat.lt_irrefl _ HAB.out)
      have X6 : Hid (Ext w0 w6) := FB.out _ _ X5.out hk6
      skip
      clear hd2 hq6 hk6
      obtain ⟨st2, hst2⟩ : ∃ st2, st2 = o.map (·.2) := ⟨_, rfl⟩
      rw [← hst2] at Q6 R6
      clear hst2
      have R7 := Lib.hid R6.out
      have Q7 := Lib.hid Q6.out
      have X7 := Lib.hid X6.out
      obtain ⟨w7, hw7⟩ : ∃ w7, w7 = w6 := ⟨_, rfl⟩
      rw [← hw7] at R7 Q7 X7 ⊢
      clear hw7 R6 Q6 X6
      unfold encI
      obtain ⟨x, hx⟩ : ∃ x, x = (o.map (·.1)).getD 0 := ⟨_, rfl⟩
      rw [← hx]
      clear hx
      have hxe : (x == x) = true := by simp
      go_wp2_with fail
      refine (left_calls (some ba) st2 w7 R7.out).mono ?_
      rintro e w8 ⟨rfl, rfl⟩
      go_wp2_with fail
      refine (qleft_calls bb t st2 htl2 w8 Q7.out).mono ?_
      rintro e w9 ⟨rfl, hx9⟩
      have X9 : Hid (Ext w0 w9) := X7.out.trans hx9
      have R9 : Hid (RdP (some ba) st2 w9) := R7.out.ext hx9
      have Q9 : Hid (QP bb t st2 w9) := Q7.out.ext hx9
      clear hx9
      go_wp2_with fail
      refine (bad_calls (some ba) st2 w9 R9.out).mono ?_
      rintro e w10 ⟨rfl, rfl⟩
      go_wp2_with fail
      refine (qbad_calls bb t st2 w10 Q9.out).mono ?_
      rintro e w11 ⟨rfl, rfl⟩
      obtain ⟨bd, hbd⟩ : ∃ bd, bd = st2.isNone := ⟨_, rfl⟩
      rw [← hbd]
      clear hbd
      have hbe : (bd == bd) = true := by simp
      go_wp2
      go_roundw
      case rel => exact ⟨k + 1, st2, by omega, by omega, by go_num, R9.out, Q9.out, X9.out⟩
      case measure => simp [intOf]; omega
    · have hjI : (c : Int) % 4 = 1 := by omega
      have hjT : (c : Int).tmod 4 = 1 := by rw [Int.tmod_eq_emod_of_nonneg (by omega)]; exact hjI
      clear hj
      go_wp2_with fail
      refine (rtext_calls (some ba) st SL.out wr VR.out RR.out).mono ?_
      rintro e w5 ⟨o, hd, rfl, hr5, hk5⟩
      have D5 := Lib.hid hd
      have R5 := Lib.hid hr5
      have Q5 : Hid (QP bb t st w5) := QR.out.keep hk5 (fun e => by cases e; exact Nat.lt_irrefl _ HAB.out)
      have X5 : Hid (Ext w0 w5) := FA.out _ _ XR.out hk5
      skip
      clear hd hr5 hk5
      go_wp2_with fail
      refine (qtext_calls bb t st htl2 w5 Q5.out).mono ?_
      rintro e w6 ⟨o2, hd2, rfl, hq6, hk6⟩
      obtain rfl : o = o2 := Dec.eq ud_text D5.out hd2
      have Q6 := Lib.hid hq6
      have R6 : Hid (RdP (some ba) (o.map (·.2)) w6) := R5.out.keep hk6 (fun e => by cases e; exact Nat.lt_irrefl _ HAB.out)
      have X6 : Hid (Ext w0 w6) := FB.out _ _ X5.out hk6
      skip
      clear hd2 hq6 hk6
      obtain ⟨st2, hst2⟩ : ∃ st2, st2 = o.map (·.2) := ⟨_, rfl⟩
      rw [← hst2] at Q6 R6
      clear hst2
      have R7 := Lib.hid R6.out
      have Q7 := Lib.hid Q6.out
      have X7 := Lib.hid X6.out
      obtain ⟨w7, hw7⟩ : ∃ w7, w7 = w6 := ⟨_, rfl⟩
      rw [← hw7] at R7 Q7 X7 ⊢
      clear hw7 R6 Q6 X6
      unfold encT
      obtain ⟨x, hx⟩ : ∃ x, x = (o.map (·.1)).getD [] := ⟨_, rfl⟩
      rw [← hx]
      clear hx
      have hxe : (x == x) = true := by simp
      go_wp2_with fail
      refine (left_calls (some ba) st2 w7 R7.out).mono ?_
      rintro e w8 ⟨rfl, rfl⟩
      go_wp2_with fail
      refine (qleft_calls bb t st2 htl2 w8 Q7.out).mono ?_
      rintro e w9 ⟨rfl, hx9⟩
      have X9 : Hid (Ext w0 w9) := X7.out.trans hx9
      have R9 : Hid (RdP (some ba) st2 w9) := R7.out.ext hx9
      have Q9 : Hid (QP bb t st2 w9) := Q7.out.ext hx9
      clear hx9
      go_wp2_with fail
      refine (bad_calls (some ba) st2 w9 R9.out).mono ?_
      rintro e w10 ⟨rfl, rfl⟩
      go_wp2_with fail
      refine (qbad_calls bb t st2 w10 Q9.out).mono ?_
      rintro e w11 ⟨rfl, rfl⟩
      obtain ⟨bd, hbd⟩ : ∃ bd, bd = st2.isNone := ⟨_, rfl⟩
      rw [← hbd]
      clear hbd
      have hbe : (bd == bd) = true := by simp
      go_wp2
      go_roundw
      case rel => exact ⟨k + 1, st2, by omega, by omega, by go_num, R9.out, Q9.out, X9.out⟩
      case measure => simp [intOf]; omega
    · have hjI : (c : Int) % 4 = 2 := by omega
      have hjT : (c : Int).tmod 4 = 2 := by rw [Int.tmod_eq_emod_of_nonneg (by omega)]; exact hjI
      clear hj
      go_wp2_with fail
      refine (rints_calls (some ba) st SL.out wr VR.out RR.out).mono ?_
      rintro e w5 ⟨o, hd, ⟨v, rfl, hs5⟩, hr5, hk5⟩
      have D5 := Lib.hid hd
      have R5 := Lib.hid hr5
      have Q5 : Hid (QP bb t st w5) := QR.out.keep hk5 (fun e => by cases e; exact Nat.lt_irrefl _ HAB.out)
      have X5 : Hid (Ext w0 w5) := FA.out _ _ XR.out hk5
      have S5 := Lib.hid hs5
      have A5 : Hid (ba < wr.heap.size) := RR.out.rlt ba rfl
      have B5 : Hid (bb < wr.heap.size) := QR.out.lt
      clear hs5
      clear hd hr5 hk5
      go_wp2_with fail
      refine (qints_calls bb t st htl2 (qp_len Q5.out) w5 Q5.out).mono ?_
      rintro e w6 ⟨o2, hd2, ⟨v2, rfl, hs6⟩, hq6, hk6⟩
      obtain rfl : o = o2 := Dec.eq (ud_list ud_int opens_int) D5.out hd2
      have Q6 := Lib.hid hq6
      have R6 : Hid (RdP (some ba) (o.map (·.2)) w6) := R5.out.keep hk6 (fun e => by cases e; exact Nat.lt_irrefl _ HAB.out)
      have X6 : Hid (Ext w0 w6) := FB.out _ _ X5.out hk6
      have SA := Lib.hid (S5.out.keep hk6 (fun c hc e => by cases e; exact absurd B5.out (Nat.not_lt.2 hc)))
      have SB := Lib.hid hs6
      clear hs6
      clear hd2 hq6 hk6
      obtain ⟨st2, hst2⟩ : ∃ st2, st2 = o.map (·.2) := ⟨_, rfl⟩
      rw [← hst2] at Q6 R6
      clear hst2
      obtain ⟨xs, hxs⟩ : ∃ xs, xs = (o.map (·.1)).getD [] := ⟨_, rfl⟩
      rw [← hxs] at SA SB
      go_wp2_with fail
      refine (sameInts_calls v v2 xs xs _ _ w6 SA.out SB.out).mono ?_
      rintro e w7 ⟨rfl, hx7⟩
      rw [show decide (xs = xs) = true from by simp]
      have R7 : Hid (RdP (some ba) st2 w7) := R6.out.ext hx7
      have Q7 : Hid (QP bb t st2 w7) := Q6.out.ext hx7
      have X7 : Hid (Ext w0 w7) := X6.out.trans hx7
      clear hx7 hxs
      go_wp2_with fail
      refine (left_calls (some ba) st2 w7 R7.out).mono ?_
      rintro e w8 ⟨rfl, rfl⟩
      go_wp2_with fail
      refine (qleft_calls bb t st2 htl2 w8 Q7.out).mono ?_
      rintro e w9 ⟨rfl, hx9⟩
      have X9 : Hid (Ext w0 w9) := X7.out.trans hx9
      have R9 : Hid (RdP (some ba) st2 w9) := R7.out.ext hx9
      have Q9 : Hid (QP bb t st2 w9) := Q7.out.ext hx9
      clear hx9
      go_wp2_with fail
      refine (bad_calls (some ba) st2 w9 R9.out).mono ?_
      rintro e w10 ⟨rfl, rfl⟩
      go_wp2_with fail
      refine (qbad_calls bb t st2 w10 Q9.out).mono ?_
      rintro e w11 ⟨rfl, rfl⟩
      obtain ⟨bd, hbd⟩ : ∃ bd, bd = st2.isNone := ⟨_, rfl⟩
      rw [← hbd]
      clear hbd
      have hbe : (bd == bd) = true := by simp
      go_wp2
      go_roundw
      case rel => exact ⟨k + 1, st2, by omega, by omega, by go_num, R9.out, Q9.out, X9.out⟩
      case measure => simp [intOf]; omega
    · have hjI : (c : Int) % 4 = 3 := by omega
      have hjT : (c : Int).tmod 4 = 3 := by rw [Int.tmod_eq_emod_of_nonneg (by omega)]; exact hjI
      clear hj
      go_wp2_with fail
      refine (rtexts_calls (some ba) st SL.out wr VR.out RR.out).mono ?_
      rintro e w5 ⟨o, hd, ⟨v, rfl, hs5⟩, hr5, hk5⟩
      have D5 := Lib.hid hd
      have R5 := Lib.hid hr5
      have Q5 : Hid (QP bb t st w5) := QR.out.keep hk5 (fun e => by cases e; exact Nat.lt_irrefl _ HAB.out)
      have X5 : Hid (Ext w0 w5) := FA.out _ _ XR.out hk5
      have S5 := Lib.hid hs5
      have A5 : Hid (ba < wr.heap.size) := RR.out.rlt ba rfl
      have B5 : Hid (bb < wr.heap.size) := QR.out.lt
      clear hs5
      clear hd hr5 hk5
      go_wp2_with fail
      refine (qtexts_calls bb t st htl2 (qp_len Q5.out) w5 Q5.out).mono ?_
      rintro e w6 ⟨o2, hd2, ⟨v2, rfl, hs6⟩, hq6, hk6⟩
      obtain rfl : o = o2 := Dec.eq (ud_list ud_text opens_text) D5.out hd2
      have Q6 := Lib.hid hq6
      have R6 : Hid (RdP (some ba) (o.map (·.2)) w6) := R5.out.keep hk6 (fun e => by cases e; exact Nat.lt_irrefl _ HAB.out)
      have X6 : Hid (Ext w0 w6) := FB.out _ _ X5.out hk6
      have SA := Lib.hid (S5.out.keep hk6 (fun c hc e => by cases e; exact absurd B5.out (Nat.not_lt.2 hc)))
      have SB := Lib.hid hs6
      clear hs6
      clear hd2 hq6 hk6
      obtain ⟨st2, hst2⟩ : ∃ st2, st2 = o.map (·.2) := ⟨_, rfl⟩
      rw [← hst2] at Q6 R6
      clear hst2
      obtain ⟨xs, hxs⟩ : ∃ xs, xs = (o.map (·.1)).getD [] := ⟨_, rfl⟩
      rw [← hxs] at SA SB
      go_wp2_with fail
      refine (sameTexts_calls v v2 xs xs _ _ w6 SA.out SB.out).mono ?_
      rintro e w7 ⟨rfl, hx7⟩
      rw [show decide (xs = xs) = true from by simp]
      have R7 : Hid (RdP (some ba) st2 w7) := R6.out.ext hx7
      have Q7 : Hid (QP bb t st2 w7) := Q6.out.ext hx7
      have X7 : Hid (Ext w0 w7) := X6.out.trans hx7
      clear hx7 hxs
      go_wp2_with fail
      refine (left_calls (some ba) st2 w7 R7.out).mono ?_
      rintro e w8 ⟨rfl, rfl⟩
      go_wp2_with fail
      refine (qleft_calls bb t st2 htl2 w8 Q7.out).mono ?_
      rintro e w9 ⟨rfl, hx9⟩
      have X9 : Hid (Ext w0 w9) := X7.out.trans hx9
      have R9 : Hid (RdP (some ba) st2 w9) := R7.out.ext hx9
      have Q9 : Hid (QP bb t st2 w9) := Q7.out.ext hx9
      clear hx9
      go_wp2_with fail
      refine (bad_calls (some ba) st2 w9 R9.out).mono ?_
      rintro e w10 ⟨rfl, rfl⟩
      go_wp2_with fail
      refine (qbad_calls bb t st2 w10 Q9.out).mono ?_
      rintro e w11 ⟨rfl, rfl⟩
      obtain ⟨bd, hbd⟩ : ∃ bd, bd = st2.isNone := ⟨_, rfl⟩
      rw [← hbd]
      clear hbd
      have hbe : (bd == bd) = true := by simp
      go_wp2
      go_roundw
      case rel => exact ⟨k + 1, st2, by omega, by omega, by go_num, R9.out, Q9.out, X9.out⟩
      case measure => simp [intOf]; omega

end Go.Proofs.YtckhbejgkgpilaaDoor
