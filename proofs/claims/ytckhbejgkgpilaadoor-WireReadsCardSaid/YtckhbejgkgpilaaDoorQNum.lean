/- The reference's reader: number. -/
import Derived.Test.YtckhbejgkgpilaaDoorQMath
set_option linter.all false
namespace Go.Proofs.YtckhbejgkgpilaaDoor
open Go Go.RowKit Go.Shelf

set_option maxRecDepth 100000 in
set_option maxHeartbeats 16000000 in
theorem qnumber_calls (b : Nat) (s : Bs) (st : Option Bs) (hl : s.length ≤ 4294967280) (m : UInt8) (hm : Mark m) (w : World) (h : QP b s st w) :
    Calls Tryd.prog 43 #[.pointer (some ⟨b, 0, none⟩), .int .u8 (m.toNat : Int)] w fun e w' => ∃ o : Option (Int × Bs), Dec (serNum m) I64 (st.getD []) o ∧ e = .returned (.tuple #[.int .i64 ((o.map (·.1)).getD 0), .bool o.isSome]) ∧
      QP b s (match o with | some (_, r) => some r | none => st) w' ∧ Keep (some b) w w' := by
  have HQ := Lib.hid h
  have HM := Lib.hid hm
  obtain ⟨k, wrong, hk, hq, rfl⟩ := h
  have c0 := hq.c0
  have c1 := hq.c1
  have c2 := hq.c2
  have f1 := hq.f 1
  have HQA := Lib.hid hq
  have hsz := bytes_size s
  cases wrong with
  | true =>
    clear hq hm
    go_enter Tryd.func43, Tryd.ntmps43
    go_wp2
    go_ret2
    exact ⟨none, dec_empty (serNum_ne m), rfl, HQ.out, Keep.refl _ _⟩
  | false =>
    have hst : (if false = true then (none : Option Bs) else some (s.drop k)) = some (s.drop k) := rfl
    rw [hst] at HQ ⊢
    simp only [Option.getD_some]
    clear hq hm hst
    go_enter Tryd.func43, Tryd.ntmps43
    go_wp2
    have hw21 : IntKind.i64.wrap ((k : Int) + 21) = (k : Int) + 21 := by rw [IntKind.wrap_i64]; omega
    go_loopw [6] (fun i wr => ∃ n : Nat, k ≤ n ∧ n ≤ s.length ∧ n ≤ k + 21 ∧ i = .int .i64 (n : Int) ∧ (∀ x ∈ (s.drop k).take (n - k), x ≠ m) ∧ wr = w) (fun i _ => s.length - (intOf i).toNat)
    case atStart => exact ⟨k, Nat.le_refl _, hk, by omega, rfl, by simp, rfl⟩
    case round =>
      obtain ⟨i, hki, hil, hi21, rfl, hscan, rfl⟩ := hrel
      have HSC := Lib.hid hscan
      clear hscan
      by_cases h1 : i < s.length
      · obtain ⟨c, hc⟩ : ∃ c, s[i]? = some c := ⟨_, List.getElem?_eq_getElem h1⟩
        have hge : ∀ h, (⟨s.toArray⟩ : ByteArray)[i]'h = c := fun h => byte_at hc h
        have HC := Lib.hid hc
        have h1I : (i : Int) < (s.length : Int) := by omega
        have hneI : ((i : Int) == (s.length : Int)) = false := by simp; omega
        clear hc
        by_cases hcm : c = m
        · subst hcm
          have hbb : ((c.toNat : Int) == (c.toNat : Int)) = true := by simp
          obtain ⟨a, ha⟩ : ∃ a, a = (s.drop k).take (i - k) := ⟨_, rfl⟩
          have hsp : s.drop k = a ++ c :: s.drop (i + 1) := by rw [ha]; exact scan_split hki HC.out
          have hma : c ∉ a := fun hmem => HSC.out c (by rw [← ha]; exact hmem) rfl
          have hext : (⟨s.toArray⟩ : ByteArray).extract k i = ⟨a.toArray⟩ := by rw [bytes_mid, ha]
          have hal : a.length = i - k := by rw [ha, List.length_take, List.length_drop]; omega
          have HSP := Lib.hid hsp
          have HMA := Lib.hid hma
          have HAL := Lib.hid hal
          have hkI : (k : Int) ≤ (i : Int) := by omega
          have hiI : (i : Int) ≤ (s.length : Int) := by omega
          have hk0 : (0 : Int) ≤ (k : Int) := by omega
          clear hsp hma ha hal
          by_cases h21 : i < k + 21
          · have h21I : (i : Int) < (k : Int) + 21 := by omega
            go_wp2
            go_quiet (fail)
            obtain ⟨W, hW⟩ : ∃ W, W = wr.drewN nq := ⟨_, rfl⟩
            have XW : Hid (Ext wr W) := by rw [hW]; exact Ext.drewN _ _
            have QW : Hid (QAt b s k false W) := HQA.out.ext XW.out
            rw [← hW]
            clear hW c0 c1 c2 f1 hge h1I hneI hiI hkI hw21 hsz
            have hlaz := bytes_size a
            obtain ⟨la, hla⟩ : ∃ la, la = a.length := ⟨_, rfl⟩
            rw [← hla] at hlaz
            have HLA := Lib.hid hla
            have hla21 : la ≤ 4294967280 := by rw [hla, HAL.out]; omega
            clear hla
            by_cases h45 : a[0]? = some 45
            · have hlt0 : 0 < la := by rw [HLA.out]; exact (List.getElem?_eq_some_iff.1 h45).1
              have hltI : (0 : Int) < (la : Int) := by omega
              have hg0 : ∀ h, (⟨a.toArray⟩ : ByteArray)[0]'h = 45 := fun h => byte_at h45 h
              have hsg : signAt a = 1 := by unfold signAt; rw [if_pos h45]
              have HSG := Lib.hid hsg
              clear h45 hsg
              go_wp2
              clear hg0 hltI
              go_loopw [9, 10, 11] (fun n kk d wz => ∃ j p : Nat, ∃ q : Int, kk = .int .i64 ((1 + j : Nat) : Int) ∧ 1 + j ≤ la ∧ Lib.decFrom 0 ((a.drop 1).take j) = some p ∧ p ≤ 9223372036854775808 ∧ q = -(p : Int) ∧ n = .int .i64 q ∧ wz = W) (fun _ kk _ _ => la - (intOf kk).toNat)
              case atStart => exact ⟨0, 0, 0, rfl, by omega, by simp [Lib.decFrom], by omega, by simp, rfl, rfl⟩
              case round =>
                obtain ⟨j, p, q, rfl, hjl, hdf, hpl, hq, rfl, rfl⟩ := hrel
                have HDF := Lib.hid hdf
                have HPQ := Lib.hid hq
                have hqb : -9223372036854775808 ≤ q ∧ q ≤ 0 := by omega
                obtain ⟨x, hx⟩ : ∃ x, x = 1 + j := ⟨_, rfl⟩
                rw [← hx] at hjl ⊢
                have HX := Lib.hid hx
                clear hdf hq hx
                by_cases hlt : x < la
                · obtain ⟨d, hd⟩ : ∃ d, a[x]? = some d := ⟨_, List.getElem?_eq_getElem (by rw [← HLA.out]; exact hlt)⟩
                  have hg : ∀ h, (⟨a.toArray⟩ : ByteArray)[x]'h = d := fun h => byte_at hd h
                  have hd2 : (a.drop 1)[j]? = some d := by rw [List.getElem?_drop, ← HX.out]; exact hd
                  have HD2 := Lib.hid hd2
                  have hdt := UInt8.toNat_lt d
                  obtain ⟨v, hv⟩ : ∃ v : Int, v = (d.toNat : Int) - 48 := ⟨_, rfl⟩
                  have hw1 : IntKind.i64.wrap (d.toNat : Int) = (d.toNat : Int) := by rw [IntKind.wrap_i64]; omega
                  have hw2 : IntKind.i64.wrap v = v := by rw [IntKind.wrap_i64]; omega
                  have hw3 : (d.toNat : Int) - 48 = v := hv.symm
                  have HV := Lib.hid hv
                  have bad : (Lib.digitVal d = none ∨ ∃ e, Lib.digitVal d = some e ∧ 9223372036854775808 < p * 10 + e) → Dec (serNum c) I64 (s.drop k) none := fun hb => by
                    rw [HSP.out]
                    exact none_word HM.out HMA.out fun N hN => none_at (i := j) (p := p) (c := d) (by rw [HSG.out]; exact HDF.out) (by rw [HSG.out]; exact HD2.out) hb hN
                  have BAD := Lib.hid bad
                  have hlI : (x : Int) < (la : Int) := by omega
                  have hx0 : (0 : Int) ≤ (x : Int) := by omega
                  clear hd hd2 hv bad
                  by_cases v0 : v < 0
                  · have hb := BAD.out (.inl (by unfold Lib.digitVal; rw [if_neg (by have := HV.out; omega)]))
                    have HB := Lib.hid hb
                    clear hb
                    go_wp2
                    go_ret2
                    exact ⟨none, HB.out, rfl, HQ.out.ext XW.out, XW.out.keep⟩
                  by_cases v9 : 9 < v
                  · have hb := BAD.out (.inl (by unfold Lib.digitVal; rw [if_neg (by have := HV.out; omega)]))
                    have HB := Lib.hid hb
                    clear hb
                    go_wp2
                    go_ret2
                    exact ⟨none, HB.out, rfl, HQ.out.ext XW.out, XW.out.keep⟩
                  have hdv : Lib.digitVal d = some (d.toNat - 48) := by unfold Lib.digitVal; rw [if_pos (by have := HV.out; omega)]
                  have HDV := Lib.hid hdv
                  clear hdv
                  by_cases q1 : q < -922337203685477580
                  · have hb := BAD.out (.inr ⟨_, HDV.out, by have := HV.out; have := HPQ.out; omega⟩)
                    have HB := Lib.hid hb
                    clear hb
                    go_wp2
                    go_ret2
                    exact ⟨none, HB.out, rfl, HQ.out.ext XW.out, XW.out.keep⟩
                  by_cases q2 : q = -922337203685477580
                  · by_cases v8 : 8 < v
                    · have hb := BAD.out (.inr ⟨_, HDV.out, by have := HV.out; have := HPQ.out; omega⟩)
                      have HB := Lib.hid hb
                      have q3 : (q == -922337203685477580) = true := by simp [q2]
                      clear hb q2
                      go_wp2
                      go_ret2
                      exact ⟨none, HB.out, rfl, HQ.out.ext XW.out, XW.out.keep⟩
                    · have q3 : (q == -922337203685477580) = true := by simp [q2]
                      have hm1 : IntKind.i64.wrap (10 * q) = 10 * q := by rw [IntKind.wrap_i64]; omega
                      have hm2 : IntKind.i64.wrap (10 * q - v) = 10 * q - v := by rw [IntKind.wrap_i64]; omega
                      have hp2 : p * 10 + (d.toNat - 48) ≤ 9223372036854775808 := by have := HV.out; have := HPQ.out; omega
                      have hq2 : 10 * q - v = -((p * 10 + (d.toNat - 48) : Nat) : Int) := by have := HV.out; have := HPQ.out; omega
                      have HQ2 := Lib.hid hq2
                      have HP2 := Lib.hid hp2
                      clear q2 hq2 hp2
                      go_wp2
                      go_roundw
                      case rel => exact ⟨j + 1, p * 10 + (d.toNat - 48), 10 * q - v, by rw [HX.out]; rfl, by have := HX.out; omega, dig_next HDF.out HD2.out HDV.out, HP2.out, HQ2.out, rfl, (by first | trivial | rfl)⟩
                      case measure => simp [intOf]; omega
                  · have q3 : (q == -922337203685477580) = false := by simp [q2]
                    have hm1 : IntKind.i64.wrap (10 * q) = 10 * q := by rw [IntKind.wrap_i64]; omega
                    have hm2 : IntKind.i64.wrap (10 * q - v) = 10 * q - v := by rw [IntKind.wrap_i64]; omega
                    have hp2 : p * 10 + (d.toNat - 48) ≤ 9223372036854775808 := by have := HV.out; have := HPQ.out; omega
                    have hq2 : 10 * q - v = -((p * 10 + (d.toNat - 48) : Nat) : Int) := by have := HV.out; have := HPQ.out; omega
                    have HQ2 := Lib.hid hq2
                    have HP2 := Lib.hid hp2
                    clear q2 hq2 hp2
                    go_wp2
                    go_roundw
                    case rel => exact ⟨j + 1, p * 10 + (d.toNat - 48), 10 * q - v, by rw [HX.out]; rfl, by have := HX.out; omega, dig_next HDF.out HD2.out HDV.out, HP2.out, HQ2.out, rfl, (by first | trivial | rfl)⟩
                    case measure => simp [intOf]; omega
                · have hxl : x = la := by omega
                  have hall : Lib.decFrom 0 (a.drop (signAt a)) = some p := by
                    rw [HSG.out]
                    have h := HDF.out
                    rwa [List.take_of_length_le (by rw [List.length_drop, ← HLA.out]; have := HX.out; omega)] at h
                  have HALL := Lib.hid hall
                  have fin2 : (¬ I64 (valOf (signAt a) p) ∨ Lib.itoa (valOf (signAt a) p) ≠ a) → Dec (serNum c) I64 (s.drop k) none := fun hb => by
                    rw [HSP.out]
                    exact none_word HM.out HMA.out fun N hN => none_form2 HALL.out hb hN
                  have FIN2 := Lib.hid fin2
                  have hno : ¬ ((x : Int) < (la : Int)) := by omega
                  clear hall fin2 hxl
                  obtain ⟨N, hN0⟩ : ∃ N, N = q := ⟨_, rfl⟩
                  have hNq := HPQ.out
                  rw [← hN0] at hNq hqb ⊢
                  clear hN0
                  have hNv : valOf (signAt a) p = N := by rw [HSG.out]; simp only [valOf]; simp; omega
                  have HN := Lib.hid hNv
                  have hI : I64 N := ⟨by omega, by omega⟩
                  have HI := Lib.hid hI
                  clear hNv hI hNq hqb
                  go_wp2_with fail
                  refine (decimal_calls N HI.out _).mono ?_
                  rintro e w5 ⟨rfl, hx5⟩
                  have X5 := Lib.hid (XW.out.trans hx5)
                  have Q5 := QW.out.ext hx5
                  have c1 := Q5.c1
                  have f1 := Q5.f 1
                  have HQ5 := Lib.hid Q5
                  clear hx5 Q5
                  have hwi : IntKind.i64.wrap ((i : Int) + 1) = (i : Int) + 1 := by rw [IntKind.wrap_i64]; omega
                  by_cases heq : Lib.itoa N = a
                  · have hdec : Dec (serNum c) I64 (s.drop k) (some (N, s.drop (i + 1))) := Dec.yes HI.out (by rw [HSP.out, ← heq]; simp [serNum])
                    have hbb : (Lib.itoa N == a) = true := by simp [heq]
                    have HDEC := Lib.hid hdec
                    clear hdec heq
                    go_wp2
                    go_ret2
                    exact ⟨some (N, s.drop (i + 1)), HDEC.out, rfl, ⟨i + 1, false, by omega, QAt.set1 HQ5.out (i + 1), rfl⟩, X5.out.keep.trans (Keep.set _ 1 _)⟩
                  · have hb := FIN2.out (.inr (by rw [HN.out]; exact heq))
                    have hbb : (Lib.itoa N == a) = false := by simp [heq]
                    have HB := Lib.hid hb
                    clear hb heq
                    go_wp2
                    go_ret2
                    exact ⟨none, HB.out, rfl, HQ.out.ext X5.out, X5.out.keep⟩
            · have hsg : signAt a = 0 := by unfold signAt; rw [if_neg h45]
              have HSG := Lib.hid hsg
              by_cases hlt0 : 0 < la
              · obtain ⟨c0, hc0⟩ : ∃ c0, a[0]? = some c0 := ⟨_, List.getElem?_eq_getElem (by rw [← HLA.out]; exact hlt0)⟩
                have hltI : (0 : Int) < (la : Int) := by omega
                have hg0 : ∀ h, (⟨a.toArray⟩ : ByteArray)[0]'h = c0 := fun h => byte_at hc0 h
                have hne45 : ((c0.toNat : Int) == 45) = false := by
                  have h1 : c0.toNat ≠ 45 := fun e => h45 (by rw [hc0]; congr 1; exact UInt8.toNat_inj.1 (by rw [e]; rfl))
                  simp; omega
                clear h45 hsg hc0
                go_wp2
                clear hg0 hltI hne45
                go_loopw [9, 10, 11] (fun n kk d wz => ∃ j p : Nat, ∃ q : Int, kk = .int .i64 ((0 + j : Nat) : Int) ∧ 0 + j ≤ la ∧ Lib.decFrom 0 ((a.drop 0).take j) = some p ∧ p ≤ 9223372036854775808 ∧ q = -(p : Int) ∧ n = .int .i64 q ∧ wz = W) (fun _ kk _ _ => la - (intOf kk).toNat)
                case atStart => exact ⟨0, 0, 0, rfl, by omega, by simp [Lib.decFrom], by omega, by simp, rfl, rfl⟩
                case round =>
                  obtain ⟨j, p, q, rfl, hjl, hdf, hpl, hq, rfl, rfl⟩ := hrel
                  have HDF := Lib.hid hdf
                  have HPQ := Lib.hid hq
                  have hqb : -9223372036854775808 ≤ q ∧ q ≤ 0 := by omega
                  obtain ⟨x, hx⟩ : ∃ x, x = 0 + j := ⟨_, rfl⟩
                  rw [← hx] at hjl ⊢
                  have HX := Lib.hid hx
                  clear hdf hq hx
                  by_cases hlt : x < la
                  · obtain ⟨d, hd⟩ : ∃ d, a[x]? = some d := ⟨_, List.getElem?_eq_getElem (by rw [← HLA.out]; exact hlt)⟩
                    have hg : ∀ h, (⟨a.toArray⟩ : ByteArray)[x]'h = d := fun h => byte_at hd h
                    have hd2 : (a.drop 0)[j]? = some d := by rw [List.getElem?_drop, ← HX.out]; exact hd
                    have HD2 := Lib.hid hd2
                    have hdt := UInt8.toNat_lt d
                    obtain ⟨v, hv⟩ : ∃ v : Int, v = (d.toNat : Int) - 48 := ⟨_, rfl⟩
                    have hw1 : IntKind.i64.wrap (d.toNat : Int) = (d.toNat : Int) := by rw [IntKind.wrap_i64]; omega
                    have hw2 : IntKind.i64.wrap v = v := by rw [IntKind.wrap_i64]; omega
                    have hw3 : (d.toNat : Int) - 48 = v := hv.symm
                    have HV := Lib.hid hv
                    have bad : (Lib.digitVal d = none ∨ ∃ e, Lib.digitVal d = some e ∧ 9223372036854775808 < p * 10 + e) → Dec (serNum c) I64 (s.drop k) none := fun hb => by
                      rw [HSP.out]
                      exact none_word HM.out HMA.out fun N hN => none_at (i := j) (p := p) (c := d) (by rw [HSG.out]; exact HDF.out) (by rw [HSG.out]; exact HD2.out) hb hN
                    have BAD := Lib.hid bad
                    have hlI : (x : Int) < (la : Int) := by omega
                    have hx0 : (0 : Int) ≤ (x : Int) := by omega
                    clear hd hd2 hv bad
                    by_cases v0 : v < 0
                    · have hb := BAD.out (.inl (by unfold Lib.digitVal; rw [if_neg (by have := HV.out; omega)]))
                      have HB := Lib.hid hb
                      clear hb
                      go_wp2
                      go_ret2
                      exact ⟨none, HB.out, rfl, HQ.out.ext XW.out, XW.out.keep⟩
                    by_cases v9 : 9 < v
                    · have hb := BAD.out (.inl (by unfold Lib.digitVal; rw [if_neg (by have := HV.out; omega)]))
                      have HB := Lib.hid hb
                      clear hb
                      go_wp2
                      go_ret2
                      exact ⟨none, HB.out, rfl, HQ.out.ext XW.out, XW.out.keep⟩
                    have hdv : Lib.digitVal d = some (d.toNat - 48) := by unfold Lib.digitVal; rw [if_pos (by have := HV.out; omega)]
                    have HDV := Lib.hid hdv
                    clear hdv
                    by_cases q1 : q < -922337203685477580
                    · have hb := BAD.out (.inr ⟨_, HDV.out, by have := HV.out; have := HPQ.out; omega⟩)
                      have HB := Lib.hid hb
                      clear hb
                      go_wp2
                      go_ret2
                      exact ⟨none, HB.out, rfl, HQ.out.ext XW.out, XW.out.keep⟩
                    by_cases q2 : q = -922337203685477580
                    · by_cases v8 : 8 < v
                      · have hb := BAD.out (.inr ⟨_, HDV.out, by have := HV.out; have := HPQ.out; omega⟩)
                        have HB := Lib.hid hb
                        have q3 : (q == -922337203685477580) = true := by simp [q2]
                        clear hb q2
                        go_wp2
                        go_ret2
                        exact ⟨none, HB.out, rfl, HQ.out.ext XW.out, XW.out.keep⟩
                      · have q3 : (q == -922337203685477580) = true := by simp [q2]
                        have hm1 : IntKind.i64.wrap (10 * q) = 10 * q := by rw [IntKind.wrap_i64]; omega
                        have hm2 : IntKind.i64.wrap (10 * q - v) = 10 * q - v := by rw [IntKind.wrap_i64]; omega
                        have hp2 : p * 10 + (d.toNat - 48) ≤ 9223372036854775808 := by have := HV.out; have := HPQ.out; omega
                        have hq2 : 10 * q - v = -((p * 10 + (d.toNat - 48) : Nat) : Int) := by have := HV.out; have := HPQ.out; omega
                        have HQ2 := Lib.hid hq2
                        have HP2 := Lib.hid hp2
                        clear q2 hq2 hp2
                        go_wp2
                        go_roundw
                        case rel => exact ⟨j + 1, p * 10 + (d.toNat - 48), 10 * q - v, by rw [HX.out]; rfl, by have := HX.out; omega, dig_next HDF.out HD2.out HDV.out, HP2.out, HQ2.out, rfl, (by first | trivial | rfl)⟩
                        case measure => simp [intOf]; omega
                    · have q3 : (q == -922337203685477580) = false := by simp [q2]
                      have hm1 : IntKind.i64.wrap (10 * q) = 10 * q := by rw [IntKind.wrap_i64]; omega
                      have hm2 : IntKind.i64.wrap (10 * q - v) = 10 * q - v := by rw [IntKind.wrap_i64]; omega
                      have hp2 : p * 10 + (d.toNat - 48) ≤ 9223372036854775808 := by have := HV.out; have := HPQ.out; omega
                      have hq2 : 10 * q - v = -((p * 10 + (d.toNat - 48) : Nat) : Int) := by have := HV.out; have := HPQ.out; omega
                      have HQ2 := Lib.hid hq2
                      have HP2 := Lib.hid hp2
                      clear q2 hq2 hp2
                      go_wp2
                      go_roundw
                      case rel => exact ⟨j + 1, p * 10 + (d.toNat - 48), 10 * q - v, by rw [HX.out]; rfl, by have := HX.out; omega, dig_next HDF.out HD2.out HDV.out, HP2.out, HQ2.out, rfl, (by first | trivial | rfl)⟩
                      case measure => simp [intOf]; omega
                  · have hxl : x = la := by omega
                    have hall : Lib.decFrom 0 (a.drop (signAt a)) = some p := by
                      rw [HSG.out]
                      have h := HDF.out
                      rwa [List.take_of_length_le (by rw [List.length_drop, ← HLA.out]; have := HX.out; omega)] at h
                    have HALL := Lib.hid hall
                    have fin2 : (¬ I64 (valOf (signAt a) p) ∨ Lib.itoa (valOf (signAt a) p) ≠ a) → Dec (serNum c) I64 (s.drop k) none := fun hb => by
                      rw [HSP.out]
                      exact none_word HM.out HMA.out fun N hN => none_form2 HALL.out hb hN
                    have FIN2 := Lib.hid fin2
                    have hno : ¬ ((x : Int) < (la : Int)) := by omega
                    clear hall fin2 hxl
                    by_cases hq0 : q = -9223372036854775808
                    · have hb := FIN2.out (.inl (by rw [HSG.out]; simp only [valOf]; intro h; have h1 := h.2; have h2 := HPQ.out; simp at h1; omega))
                      have HB := Lib.hid hb
                      have hqq : IntKind.i64.wrap (-q) = q := by rw [IntKind.wrap_i64]; omega
                      have hq1 : (q == q) = true := by simp
                      have hq2 : (q == 0) = false := by simp; omega
                      have hq3 : ¬ (q = 0) := by omega
                      clear hb hq0 hqb
                      go_wp2
                      go_ret2
                      exact ⟨none, HB.out, rfl, HQ.out.ext XW.out, XW.out.keep⟩
                    · obtain ⟨N, hN0⟩ : ∃ N, N = -q := ⟨_, rfl⟩
                      have hNq : N = (p : Int) := by have := HPQ.out; omega
                      have hNb : 0 ≤ N ∧ N ≤ 9223372036854775807 := by omega
                      have hwn : IntKind.i64.wrap N = N := by rw [IntKind.wrap_i64]; omega
                      have hqn : -q = N := hN0.symm
                      have hcond : ((q == N) && (q != 0)) = false := by
                        by_cases h0 : q = 0
                        · simp [h0]
                        · have : q ≠ N := by omega
                          simp [this]
                      have hc1 : (q == N) = decide (q = 0) := by
                        by_cases h0 : q = 0
                        · have : N = 0 := by omega
                          simp [h0, this]
                        · have : q ≠ N := by omega
                          simp [this, h0]
                      clear hq0 hcond hN0
                      by_cases h0 : q = 0
                      · have hN00 : N = 0 := by omega
                        subst h0
                        subst hN00
                        clear hc1
                        have hNv : valOf (signAt a) p = 0 := by rw [HSG.out]; simp only [valOf]; simp; omega
                        have HN := Lib.hid hNv
                        have hI : I64 0 := ⟨by omega, by omega⟩
                        have HI := Lib.hid hI
                        clear hNv hI hNq hNb hqb
                        go_wp2_with fail
                        refine (decimal_calls 0 HI.out _).mono ?_
                        rintro e w5 ⟨rfl, hx5⟩
                        have X5 := Lib.hid (XW.out.trans hx5)
                        have Q5 := QW.out.ext hx5
                        have c1 := Q5.c1
                        have f1 := Q5.f 1
                        have HQ5 := Lib.hid Q5
                        clear hx5 Q5
                        have hwi : IntKind.i64.wrap ((i : Int) + 1) = (i : Int) + 1 := by rw [IntKind.wrap_i64]; omega
                        by_cases heq : Lib.itoa 0 = a
                        · have hdec : Dec (serNum c) I64 (s.drop k) (some (0, s.drop (i + 1))) := Dec.yes HI.out (by rw [HSP.out, ← heq]; simp [serNum])
                          have hbb : (Lib.itoa 0 == a) = true := by simp [heq]
                          have HDEC := Lib.hid hdec
                          clear hdec heq
                          go_wp2
                          go_ret2
                          exact ⟨some (0, s.drop (i + 1)), HDEC.out, rfl, ⟨i + 1, false, by omega, QAt.set1 HQ5.out (i + 1), rfl⟩, X5.out.keep.trans (Keep.set _ 1 _)⟩
                        · have hb := FIN2.out (.inr (by rw [HN.out]; exact heq))
                          have hbb : (Lib.itoa 0 == a) = false := by simp [heq]
                          have HB := Lib.hid hb
                          clear hb heq
                          go_wp2
                          go_ret2
                          exact ⟨none, HB.out, rfl, HQ.out.ext X5.out, X5.out.keep⟩
                      · have hc2 : (q == N) = false := by rw [hc1]; simp [h0]
                        clear hc1 h0
                        have hNv : valOf (signAt a) p = N := by rw [HSG.out]; simp only [valOf]; simp; omega
                        have HN := Lib.hid hNv
                        have hI : I64 N := ⟨by omega, by omega⟩
                        have HI := Lib.hid hI
                        clear hNv hI hNq hNb hqb
                        go_wp2_with fail
                        refine (decimal_calls N HI.out _).mono ?_
                        rintro e w5 ⟨rfl, hx5⟩
                        have X5 := Lib.hid (XW.out.trans hx5)
                        have Q5 := QW.out.ext hx5
                        have c1 := Q5.c1
                        have f1 := Q5.f 1
                        have HQ5 := Lib.hid Q5
                        clear hx5 Q5
                        have hwi : IntKind.i64.wrap ((i : Int) + 1) = (i : Int) + 1 := by rw [IntKind.wrap_i64]; omega
                        by_cases heq : Lib.itoa N = a
                        · have hdec : Dec (serNum c) I64 (s.drop k) (some (N, s.drop (i + 1))) := Dec.yes HI.out (by rw [HSP.out, ← heq]; simp [serNum])
                          have hbb : (Lib.itoa N == a) = true := by simp [heq]
                          have HDEC := Lib.hid hdec
                          clear hdec heq
                          go_wp2
                          go_ret2
                          exact ⟨some (N, s.drop (i + 1)), HDEC.out, rfl, ⟨i + 1, false, by omega, QAt.set1 HQ5.out (i + 1), rfl⟩, X5.out.keep.trans (Keep.set _ 1 _)⟩
                        · have hb := FIN2.out (.inr (by rw [HN.out]; exact heq))
                          have hbb : (Lib.itoa N == a) = false := by simp [heq]
                          have HB := Lib.hid hb
                          clear hb heq
                          go_wp2
                          go_ret2
                          exact ⟨none, HB.out, rfl, HQ.out.ext X5.out, X5.out.keep⟩
              · have hla0 : la = 0 := by omega
                have hno : ¬ ((0 : Int) < (la : Int)) := by omega
                clear h45 hsg hla0
                go_wp2
                clear hno
                go_loopw [9, 10, 11] (fun n kk d wz => ∃ j p : Nat, ∃ q : Int, kk = .int .i64 ((0 + j : Nat) : Int) ∧ 0 + j ≤ la ∧ Lib.decFrom 0 ((a.drop 0).take j) = some p ∧ p ≤ 9223372036854775808 ∧ q = -(p : Int) ∧ n = .int .i64 q ∧ wz = W) (fun _ kk _ _ => la - (intOf kk).toNat)
                case atStart => exact ⟨0, 0, 0, rfl, by omega, by simp [Lib.decFrom], by omega, by simp, rfl, rfl⟩
                case round =>
                  obtain ⟨j, p, q, rfl, hjl, hdf, hpl, hq, rfl, rfl⟩ := hrel
                  have HDF := Lib.hid hdf
                  have HPQ := Lib.hid hq
                  have hqb : -9223372036854775808 ≤ q ∧ q ≤ 0 := by omega
                  obtain ⟨x, hx⟩ : ∃ x, x = 0 + j := ⟨_, rfl⟩
                  rw [← hx] at hjl ⊢
                  have HX := Lib.hid hx
                  clear hdf hq hx
                  by_cases hlt : x < la
                  · obtain ⟨d, hd⟩ : ∃ d, a[x]? = some d := ⟨_, List.getElem?_eq_getElem (by rw [← HLA.out]; exact hlt)⟩
                    have hg : ∀ h, (⟨a.toArray⟩ : ByteArray)[x]'h = d := fun h => byte_at hd h
                    have hd2 : (a.drop 0)[j]? = some d := by rw [List.getElem?_drop, ← HX.out]; exact hd
                    have HD2 := Lib.hid hd2
                    have hdt := UInt8.toNat_lt d
                    obtain ⟨v, hv⟩ : ∃ v : Int, v = (d.toNat : Int) - 48 := ⟨_, rfl⟩
                    have hw1 : IntKind.i64.wrap (d.toNat : Int) = (d.toNat : Int) := by rw [IntKind.wrap_i64]; omega
                    have hw2 : IntKind.i64.wrap v = v := by rw [IntKind.wrap_i64]; omega
                    have hw3 : (d.toNat : Int) - 48 = v := hv.symm
                    have HV := Lib.hid hv
                    have bad : (Lib.digitVal d = none ∨ ∃ e, Lib.digitVal d = some e ∧ 9223372036854775808 < p * 10 + e) → Dec (serNum c) I64 (s.drop k) none := fun hb => by
                      rw [HSP.out]
                      exact none_word HM.out HMA.out fun N hN => none_at (i := j) (p := p) (c := d) (by rw [HSG.out]; exact HDF.out) (by rw [HSG.out]; exact HD2.out) hb hN
                    have BAD := Lib.hid bad
                    have hlI : (x : Int) < (la : Int) := by omega
                    have hx0 : (0 : Int) ≤ (x : Int) := by omega
                    clear hd hd2 hv bad
                    by_cases v0 : v < 0
                    · have hb := BAD.out (.inl (by unfold Lib.digitVal; rw [if_neg (by have := HV.out; omega)]))
                      have HB := Lib.hid hb
                      clear hb
                      go_wp2
                      go_ret2
                      exact ⟨none, HB.out, rfl, HQ.out.ext XW.out, XW.out.keep⟩
                    by_cases v9 : 9 < v
                    · have hb := BAD.out (.inl (by unfold Lib.digitVal; rw [if_neg (by have := HV.out; omega)]))
                      have HB := Lib.hid hb
                      clear hb
                      go_wp2
                      go_ret2
                      exact ⟨none, HB.out, rfl, HQ.out.ext XW.out, XW.out.keep⟩
                    have hdv : Lib.digitVal d = some (d.toNat - 48) := by unfold Lib.digitVal; rw [if_pos (by have := HV.out; omega)]
                    have HDV := Lib.hid hdv
                    clear hdv
                    by_cases q1 : q < -922337203685477580
                    · have hb := BAD.out (.inr ⟨_, HDV.out, by have := HV.out; have := HPQ.out; omega⟩)
                      have HB := Lib.hid hb
                      clear hb
                      go_wp2
                      go_ret2
                      exact ⟨none, HB.out, rfl, HQ.out.ext XW.out, XW.out.keep⟩
                    by_cases q2 : q = -922337203685477580
                    · by_cases v8 : 8 < v
                      · have hb := BAD.out (.inr ⟨_, HDV.out, by have := HV.out; have := HPQ.out; omega⟩)
                        have HB := Lib.hid hb
                        have q3 : (q == -922337203685477580) = true := by simp [q2]
                        clear hb q2
                        go_wp2
                        go_ret2
                        exact ⟨none, HB.out, rfl, HQ.out.ext XW.out, XW.out.keep⟩
                      · have q3 : (q == -922337203685477580) = true := by simp [q2]
                        have hm1 : IntKind.i64.wrap (10 * q) = 10 * q := by rw [IntKind.wrap_i64]; omega
                        have hm2 : IntKind.i64.wrap (10 * q - v) = 10 * q - v := by rw [IntKind.wrap_i64]; omega
                        have hp2 : p * 10 + (d.toNat - 48) ≤ 9223372036854775808 := by have := HV.out; have := HPQ.out; omega
                        have hq2 : 10 * q - v = -((p * 10 + (d.toNat - 48) : Nat) : Int) := by have := HV.out; have := HPQ.out; omega
                        have HQ2 := Lib.hid hq2
                        have HP2 := Lib.hid hp2
                        clear q2 hq2 hp2
                        go_wp2
                        go_roundw
                        case rel => exact ⟨j + 1, p * 10 + (d.toNat - 48), 10 * q - v, by rw [HX.out]; rfl, by have := HX.out; omega, dig_next HDF.out HD2.out HDV.out, HP2.out, HQ2.out, rfl, (by first | trivial | rfl)⟩
                        case measure => simp [intOf]; omega
                    · have q3 : (q == -922337203685477580) = false := by simp [q2]
                      have hm1 : IntKind.i64.wrap (10 * q) = 10 * q := by rw [IntKind.wrap_i64]; omega
                      have hm2 : IntKind.i64.wrap (10 * q - v) = 10 * q - v := by rw [IntKind.wrap_i64]; omega
                      have hp2 : p * 10 + (d.toNat - 48) ≤ 9223372036854775808 := by have := HV.out; have := HPQ.out; omega
                      have hq2 : 10 * q - v = -((p * 10 + (d.toNat - 48) : Nat) : Int) := by have := HV.out; have := HPQ.out; omega
                      have HQ2 := Lib.hid hq2
                      have HP2 := Lib.hid hp2
                      clear q2 hq2 hp2
                      go_wp2
                      go_roundw
                      case rel => exact ⟨j + 1, p * 10 + (d.toNat - 48), 10 * q - v, by rw [HX.out]; rfl, by have := HX.out; omega, dig_next HDF.out HD2.out HDV.out, HP2.out, HQ2.out, rfl, (by first | trivial | rfl)⟩
                      case measure => simp [intOf]; omega
                  · have hxl : x = la := by omega
                    have hall : Lib.decFrom 0 (a.drop (signAt a)) = some p := by
                      rw [HSG.out]
                      have h := HDF.out
                      rwa [List.take_of_length_le (by rw [List.length_drop, ← HLA.out]; have := HX.out; omega)] at h
                    have HALL := Lib.hid hall
                    have fin2 : (¬ I64 (valOf (signAt a) p) ∨ Lib.itoa (valOf (signAt a) p) ≠ a) → Dec (serNum c) I64 (s.drop k) none := fun hb => by
                      rw [HSP.out]
                      exact none_word HM.out HMA.out fun N hN => none_form2 HALL.out hb hN
                    have FIN2 := Lib.hid fin2
                    have hno : ¬ ((x : Int) < (la : Int)) := by omega
                    clear hall fin2 hxl
                    by_cases hq0 : q = -9223372036854775808
                    · have hb := FIN2.out (.inl (by rw [HSG.out]; simp only [valOf]; intro h; have h1 := h.2; have h2 := HPQ.out; simp at h1; omega))
                      have HB := Lib.hid hb
                      have hqq : IntKind.i64.wrap (-q) = q := by rw [IntKind.wrap_i64]; omega
                      have hq1 : (q == q) = true := by simp
                      have hq2 : (q == 0) = false := by simp; omega
                      have hq3 : ¬ (q = 0) := by omega
                      clear hb hq0 hqb
                      go_wp2
                      go_ret2
                      exact ⟨none, HB.out, rfl, HQ.out.ext XW.out, XW.out.keep⟩
                    · obtain ⟨N, hN0⟩ : ∃ N, N = -q := ⟨_, rfl⟩
                      have hNq : N = (p : Int) := by have := HPQ.out; omega
                      have hNb : 0 ≤ N ∧ N ≤ 9223372036854775807 := by omega
                      have hwn : IntKind.i64.wrap N = N := by rw [IntKind.wrap_i64]; omega
                      have hqn : -q = N := hN0.symm
                      have hcond : ((q == N) && (q != 0)) = false := by
                        by_cases h0 : q = 0
                        · simp [h0]
                        · have : q ≠ N := by omega
                          simp [this]
                      have hc1 : (q == N) = decide (q = 0) := by
                        by_cases h0 : q = 0
                        · have : N = 0 := by omega
                          simp [h0, this]
                        · have : q ≠ N := by omega
                          simp [this, h0]
                      clear hq0 hcond hN0
                      by_cases h0 : q = 0
                      · have hN00 : N = 0 := by omega
                        subst h0
                        subst hN00
                        clear hc1
                        have hNv : valOf (signAt a) p = 0 := by rw [HSG.out]; simp only [valOf]; simp; omega
                        have HN := Lib.hid hNv
                        have hI : I64 0 := ⟨by omega, by omega⟩
                        have HI := Lib.hid hI
                        clear hNv hI hNq hNb hqb
                        go_wp2_with fail
                        refine (decimal_calls 0 HI.out _).mono ?_
                        rintro e w5 ⟨rfl, hx5⟩
                        have X5 := Lib.hid (XW.out.trans hx5)
                        have Q5 := QW.out.ext hx5
                        have c1 := Q5.c1
                        have f1 := Q5.f 1
                        have HQ5 := Lib.hid Q5
                        clear hx5 Q5
                        have hwi : IntKind.i64.wrap ((i : Int) + 1) = (i : Int) + 1 := by rw [IntKind.wrap_i64]; omega
                        by_cases heq : Lib.itoa 0 = a
                        · have hdec : Dec (serNum c) I64 (s.drop k) (some (0, s.drop (i + 1))) := Dec.yes HI.out (by rw [HSP.out, ← heq]; simp [serNum])
                          have hbb : (Lib.itoa 0 == a) = true := by simp [heq]
                          have HDEC := Lib.hid hdec
                          clear hdec heq
                          go_wp2
                          go_ret2
                          exact ⟨some (0, s.drop (i + 1)), HDEC.out, rfl, ⟨i + 1, false, by omega, QAt.set1 HQ5.out (i + 1), rfl⟩, X5.out.keep.trans (Keep.set _ 1 _)⟩
                        · have hb := FIN2.out (.inr (by rw [HN.out]; exact heq))
                          have hbb : (Lib.itoa 0 == a) = false := by simp [heq]
                          have HB := Lib.hid hb
                          clear hb heq
                          go_wp2
                          go_ret2
                          exact ⟨none, HB.out, rfl, HQ.out.ext X5.out, X5.out.keep⟩
                      · have hc2 : (q == N) = false := by rw [hc1]; simp [h0]
                        clear hc1 h0
                        have hNv : valOf (signAt a) p = N := by rw [HSG.out]; simp only [valOf]; simp; omega
                        have HN := Lib.hid hNv
                        have hI : I64 N := ⟨by omega, by omega⟩
                        have HI := Lib.hid hI
                        clear hNv hI hNq hNb hqb
                        go_wp2_with fail
                        refine (decimal_calls N HI.out _).mono ?_
                        rintro e w5 ⟨rfl, hx5⟩
                        have X5 := Lib.hid (XW.out.trans hx5)
                        have Q5 := QW.out.ext hx5
                        have c1 := Q5.c1
                        have f1 := Q5.f 1
                        have HQ5 := Lib.hid Q5
                        clear hx5 Q5
                        have hwi : IntKind.i64.wrap ((i : Int) + 1) = (i : Int) + 1 := by rw [IntKind.wrap_i64]; omega
                        by_cases heq : Lib.itoa N = a
                        · have hdec : Dec (serNum c) I64 (s.drop k) (some (N, s.drop (i + 1))) := Dec.yes HI.out (by rw [HSP.out, ← heq]; simp [serNum])
                          have hbb : (Lib.itoa N == a) = true := by simp [heq]
                          have HDEC := Lib.hid hdec
                          clear hdec heq
                          go_wp2
                          go_ret2
                          exact ⟨some (N, s.drop (i + 1)), HDEC.out, rfl, ⟨i + 1, false, by omega, QAt.set1 HQ5.out (i + 1), rfl⟩, X5.out.keep.trans (Keep.set _ 1 _)⟩
                        · have hb := FIN2.out (.inr (by rw [HN.out]; exact heq))
                          have hbb : (Lib.itoa N == a) = false := by simp [heq]
                          have HB := Lib.hid hb
                          clear hb heq
                          go_wp2
                          go_ret2
                          exact ⟨none, HB.out, rfl, HQ.out.ext X5.out, X5.out.keep⟩

          · have h21I : ¬ ((i : Int) < (k : Int) + 21) := by omega
            go_wp2
            go_quiet (fail)
            obtain ⟨W, hW⟩ : ∃ W, W = wr.drewN nq := ⟨_, rfl⟩
            have XW : Hid (Ext wr W) := by rw [hW]; exact Ext.drewN _ _
            have QW : Hid (QAt b s k false W) := HQA.out.ext XW.out
            rw [← hW]
            clear hW c0 c1 c2 f1 hge h1I hneI hiI hkI hw21 hsz
            have hlaz := bytes_size a
            obtain ⟨la, hla⟩ : ∃ la, la = a.length := ⟨_, rfl⟩
            rw [← hla] at hlaz
            have HLA := Lib.hid hla
            have hla21 : la ≤ 4294967280 := by rw [hla, HAL.out]; omega
            clear hla
            by_cases h45 : a[0]? = some 45
            · have hlt0 : 0 < la := by rw [HLA.out]; exact (List.getElem?_eq_some_iff.1 h45).1
              have hltI : (0 : Int) < (la : Int) := by omega
              have hg0 : ∀ h, (⟨a.toArray⟩ : ByteArray)[0]'h = 45 := fun h => byte_at h45 h
              have hsg : signAt a = 1 := by unfold signAt; rw [if_pos h45]
              have HSG := Lib.hid hsg
              clear h45 hsg
              go_wp2
              clear hg0 hltI
              go_loopw [9, 10, 11] (fun n kk d wz => ∃ j p : Nat, ∃ q : Int, kk = .int .i64 ((1 + j : Nat) : Int) ∧ 1 + j ≤ la ∧ Lib.decFrom 0 ((a.drop 1).take j) = some p ∧ p ≤ 9223372036854775808 ∧ q = -(p : Int) ∧ n = .int .i64 q ∧ wz = W) (fun _ kk _ _ => la - (intOf kk).toNat)
              case atStart => exact ⟨0, 0, 0, rfl, by omega, by simp [Lib.decFrom], by omega, by simp, rfl, rfl⟩
              case round =>
                obtain ⟨j, p, q, rfl, hjl, hdf, hpl, hq, rfl, rfl⟩ := hrel
                have HDF := Lib.hid hdf
                have HPQ := Lib.hid hq
                have hqb : -9223372036854775808 ≤ q ∧ q ≤ 0 := by omega
                obtain ⟨x, hx⟩ : ∃ x, x = 1 + j := ⟨_, rfl⟩
                rw [← hx] at hjl ⊢
                have HX := Lib.hid hx
                clear hdf hq hx
                by_cases hlt : x < la
                · obtain ⟨d, hd⟩ : ∃ d, a[x]? = some d := ⟨_, List.getElem?_eq_getElem (by rw [← HLA.out]; exact hlt)⟩
                  have hg : ∀ h, (⟨a.toArray⟩ : ByteArray)[x]'h = d := fun h => byte_at hd h
                  have hd2 : (a.drop 1)[j]? = some d := by rw [List.getElem?_drop, ← HX.out]; exact hd
                  have HD2 := Lib.hid hd2
                  have hdt := UInt8.toNat_lt d
                  obtain ⟨v, hv⟩ : ∃ v : Int, v = (d.toNat : Int) - 48 := ⟨_, rfl⟩
                  have hw1 : IntKind.i64.wrap (d.toNat : Int) = (d.toNat : Int) := by rw [IntKind.wrap_i64]; omega
                  have hw2 : IntKind.i64.wrap v = v := by rw [IntKind.wrap_i64]; omega
                  have hw3 : (d.toNat : Int) - 48 = v := hv.symm
                  have HV := Lib.hid hv
                  have bad : (Lib.digitVal d = none ∨ ∃ e, Lib.digitVal d = some e ∧ 9223372036854775808 < p * 10 + e) → Dec (serNum c) I64 (s.drop k) none := fun hb => by
                    rw [HSP.out]
                    exact none_word HM.out HMA.out fun N hN => none_at (i := j) (p := p) (c := d) (by rw [HSG.out]; exact HDF.out) (by rw [HSG.out]; exact HD2.out) hb hN
                  have BAD := Lib.hid bad
                  have hlI : (x : Int) < (la : Int) := by omega
                  have hx0 : (0 : Int) ≤ (x : Int) := by omega
                  clear hd hd2 hv bad
                  by_cases v0 : v < 0
                  · have hb := BAD.out (.inl (by unfold Lib.digitVal; rw [if_neg (by have := HV.out; omega)]))
                    have HB := Lib.hid hb
                    clear hb
                    go_wp2
                    go_ret2
                    exact ⟨none, HB.out, rfl, HQ.out.ext XW.out, XW.out.keep⟩
                  by_cases v9 : 9 < v
                  · have hb := BAD.out (.inl (by unfold Lib.digitVal; rw [if_neg (by have := HV.out; omega)]))
                    have HB := Lib.hid hb
                    clear hb
                    go_wp2
                    go_ret2
                    exact ⟨none, HB.out, rfl, HQ.out.ext XW.out, XW.out.keep⟩
                  have hdv : Lib.digitVal d = some (d.toNat - 48) := by unfold Lib.digitVal; rw [if_pos (by have := HV.out; omega)]
                  have HDV := Lib.hid hdv
                  clear hdv
                  by_cases q1 : q < -922337203685477580
                  · have hb := BAD.out (.inr ⟨_, HDV.out, by have := HV.out; have := HPQ.out; omega⟩)
                    have HB := Lib.hid hb
                    clear hb
                    go_wp2
                    go_ret2
                    exact ⟨none, HB.out, rfl, HQ.out.ext XW.out, XW.out.keep⟩
                  by_cases q2 : q = -922337203685477580
                  · by_cases v8 : 8 < v
                    · have hb := BAD.out (.inr ⟨_, HDV.out, by have := HV.out; have := HPQ.out; omega⟩)
                      have HB := Lib.hid hb
                      have q3 : (q == -922337203685477580) = true := by simp [q2]
                      clear hb q2
                      go_wp2
                      go_ret2
                      exact ⟨none, HB.out, rfl, HQ.out.ext XW.out, XW.out.keep⟩
                    · have q3 : (q == -922337203685477580) = true := by simp [q2]
                      have hm1 : IntKind.i64.wrap (10 * q) = 10 * q := by rw [IntKind.wrap_i64]; omega
                      have hm2 : IntKind.i64.wrap (10 * q - v) = 10 * q - v := by rw [IntKind.wrap_i64]; omega
                      have hp2 : p * 10 + (d.toNat - 48) ≤ 9223372036854775808 := by have := HV.out; have := HPQ.out; omega
                      have hq2 : 10 * q - v = -((p * 10 + (d.toNat - 48) : Nat) : Int) := by have := HV.out; have := HPQ.out; omega
                      have HQ2 := Lib.hid hq2
                      have HP2 := Lib.hid hp2
                      clear q2 hq2 hp2
                      go_wp2
                      go_roundw
                      case rel => exact ⟨j + 1, p * 10 + (d.toNat - 48), 10 * q - v, by rw [HX.out]; rfl, by have := HX.out; omega, dig_next HDF.out HD2.out HDV.out, HP2.out, HQ2.out, rfl, (by first | trivial | rfl)⟩
                      case measure => simp [intOf]; omega
                  · have q3 : (q == -922337203685477580) = false := by simp [q2]
                    have hm1 : IntKind.i64.wrap (10 * q) = 10 * q := by rw [IntKind.wrap_i64]; omega
                    have hm2 : IntKind.i64.wrap (10 * q - v) = 10 * q - v := by rw [IntKind.wrap_i64]; omega
                    have hp2 : p * 10 + (d.toNat - 48) ≤ 9223372036854775808 := by have := HV.out; have := HPQ.out; omega
                    have hq2 : 10 * q - v = -((p * 10 + (d.toNat - 48) : Nat) : Int) := by have := HV.out; have := HPQ.out; omega
                    have HQ2 := Lib.hid hq2
                    have HP2 := Lib.hid hp2
                    clear q2 hq2 hp2
                    go_wp2
                    go_roundw
                    case rel => exact ⟨j + 1, p * 10 + (d.toNat - 48), 10 * q - v, by rw [HX.out]; rfl, by have := HX.out; omega, dig_next HDF.out HD2.out HDV.out, HP2.out, HQ2.out, rfl, (by first | trivial | rfl)⟩
                    case measure => simp [intOf]; omega
                · have hxl : x = la := by omega
                  have hall : Lib.decFrom 0 (a.drop (signAt a)) = some p := by
                    rw [HSG.out]
                    have h := HDF.out
                    rwa [List.take_of_length_le (by rw [List.length_drop, ← HLA.out]; have := HX.out; omega)] at h
                  have HALL := Lib.hid hall
                  have fin2 : (¬ I64 (valOf (signAt a) p) ∨ Lib.itoa (valOf (signAt a) p) ≠ a) → Dec (serNum c) I64 (s.drop k) none := fun hb => by
                    rw [HSP.out]
                    exact none_word HM.out HMA.out fun N hN => none_form2 HALL.out hb hN
                  have FIN2 := Lib.hid fin2
                  have hno : ¬ ((x : Int) < (la : Int)) := by omega
                  clear hall fin2 hxl
                  obtain ⟨N, hN0⟩ : ∃ N, N = q := ⟨_, rfl⟩
                  have hNq := HPQ.out
                  rw [← hN0] at hNq hqb ⊢
                  clear hN0
                  have hNv : valOf (signAt a) p = N := by rw [HSG.out]; simp only [valOf]; simp; omega
                  have HN := Lib.hid hNv
                  have hI : I64 N := ⟨by omega, by omega⟩
                  have HI := Lib.hid hI
                  clear hNv hI hNq hqb
                  go_wp2_with fail
                  refine (decimal_calls N HI.out _).mono ?_
                  rintro e w5 ⟨rfl, hx5⟩
                  have X5 := Lib.hid (XW.out.trans hx5)
                  have Q5 := QW.out.ext hx5
                  have c1 := Q5.c1
                  have f1 := Q5.f 1
                  have HQ5 := Lib.hid Q5
                  clear hx5 Q5
                  have hwi : IntKind.i64.wrap ((i : Int) + 1) = (i : Int) + 1 := by rw [IntKind.wrap_i64]; omega
                  by_cases heq : Lib.itoa N = a
                  · have hdec : Dec (serNum c) I64 (s.drop k) (some (N, s.drop (i + 1))) := Dec.yes HI.out (by rw [HSP.out, ← heq]; simp [serNum])
                    have hbb : (Lib.itoa N == a) = true := by simp [heq]
                    have HDEC := Lib.hid hdec
                    clear hdec heq
                    go_wp2
                    go_ret2
                    exact ⟨some (N, s.drop (i + 1)), HDEC.out, rfl, ⟨i + 1, false, by omega, QAt.set1 HQ5.out (i + 1), rfl⟩, X5.out.keep.trans (Keep.set _ 1 _)⟩
                  · have hb := FIN2.out (.inr (by rw [HN.out]; exact heq))
                    have hbb : (Lib.itoa N == a) = false := by simp [heq]
                    have HB := Lib.hid hb
                    clear hb heq
                    go_wp2
                    go_ret2
                    exact ⟨none, HB.out, rfl, HQ.out.ext X5.out, X5.out.keep⟩
            · have hsg : signAt a = 0 := by unfold signAt; rw [if_neg h45]
              have HSG := Lib.hid hsg
              by_cases hlt0 : 0 < la
              · obtain ⟨c0, hc0⟩ : ∃ c0, a[0]? = some c0 := ⟨_, List.getElem?_eq_getElem (by rw [← HLA.out]; exact hlt0)⟩
                have hltI : (0 : Int) < (la : Int) := by omega
                have hg0 : ∀ h, (⟨a.toArray⟩ : ByteArray)[0]'h = c0 := fun h => byte_at hc0 h
                have hne45 : ((c0.toNat : Int) == 45) = false := by
                  have h1 : c0.toNat ≠ 45 := fun e => h45 (by rw [hc0]; congr 1; exact UInt8.toNat_inj.1 (by rw [e]; rfl))
                  simp; omega
                clear h45 hsg hc0
                go_wp2
                clear hg0 hltI hne45
                go_loopw [9, 10, 11] (fun n kk d wz => ∃ j p : Nat, ∃ q : Int, kk = .int .i64 ((0 + j : Nat) : Int) ∧ 0 + j ≤ la ∧ Lib.decFrom 0 ((a.drop 0).take j) = some p ∧ p ≤ 9223372036854775808 ∧ q = -(p : Int) ∧ n = .int .i64 q ∧ wz = W) (fun _ kk _ _ => la - (intOf kk).toNat)
                case atStart => exact ⟨0, 0, 0, rfl, by omega, by simp [Lib.decFrom], by omega, by simp, rfl, rfl⟩
                case round =>
                  obtain ⟨j, p, q, rfl, hjl, hdf, hpl, hq, rfl, rfl⟩ := hrel
                  have HDF := Lib.hid hdf
                  have HPQ := Lib.hid hq
                  have hqb : -9223372036854775808 ≤ q ∧ q ≤ 0 := by omega
                  obtain ⟨x, hx⟩ : ∃ x, x = 0 + j := ⟨_, rfl⟩
                  rw [← hx] at hjl ⊢
                  have HX := Lib.hid hx
                  clear hdf hq hx
                  by_cases hlt : x < la
                  · obtain ⟨d, hd⟩ : ∃ d, a[x]? = some d := ⟨_, List.getElem?_eq_getElem (by rw [← HLA.out]; exact hlt)⟩
                    have hg : ∀ h, (⟨a.toArray⟩ : ByteArray)[x]'h = d := fun h => byte_at hd h
                    have hd2 : (a.drop 0)[j]? = some d := by rw [List.getElem?_drop, ← HX.out]; exact hd
                    have HD2 := Lib.hid hd2
                    have hdt := UInt8.toNat_lt d
                    obtain ⟨v, hv⟩ : ∃ v : Int, v = (d.toNat : Int) - 48 := ⟨_, rfl⟩
                    have hw1 : IntKind.i64.wrap (d.toNat : Int) = (d.toNat : Int) := by rw [IntKind.wrap_i64]; omega
                    have hw2 : IntKind.i64.wrap v = v := by rw [IntKind.wrap_i64]; omega
                    have hw3 : (d.toNat : Int) - 48 = v := hv.symm
                    have HV := Lib.hid hv
                    have bad : (Lib.digitVal d = none ∨ ∃ e, Lib.digitVal d = some e ∧ 9223372036854775808 < p * 10 + e) → Dec (serNum c) I64 (s.drop k) none := fun hb => by
                      rw [HSP.out]
                      exact none_word HM.out HMA.out fun N hN => none_at (i := j) (p := p) (c := d) (by rw [HSG.out]; exact HDF.out) (by rw [HSG.out]; exact HD2.out) hb hN
                    have BAD := Lib.hid bad
                    have hlI : (x : Int) < (la : Int) := by omega
                    have hx0 : (0 : Int) ≤ (x : Int) := by omega
                    clear hd hd2 hv bad
                    by_cases v0 : v < 0
                    · have hb := BAD.out (.inl (by unfold Lib.digitVal; rw [if_neg (by have := HV.out; omega)]))
                      have HB := Lib.hid hb
                      clear hb
                      go_wp2
                      go_ret2
                      exact ⟨none, HB.out, rfl, HQ.out.ext XW.out, XW.out.keep⟩
                    by_cases v9 : 9 < v
                    · have hb := BAD.out (.inl (by unfold Lib.digitVal; rw [if_neg (by have := HV.out; omega)]))
                      have HB := Lib.hid hb
                      clear hb
                      go_wp2
                      go_ret2
                      exact ⟨none, HB.out, rfl, HQ.out.ext XW.out, XW.out.keep⟩
                    have hdv : Lib.digitVal d = some (d.toNat - 48) := by unfold Lib.digitVal; rw [if_pos (by have := HV.out; omega)]
                    have HDV := Lib.hid hdv
                    clear hdv
                    by_cases q1 : q < -922337203685477580
                    · have hb := BAD.out (.inr ⟨_, HDV.out, by have := HV.out; have := HPQ.out; omega⟩)
                      have HB := Lib.hid hb
                      clear hb
                      go_wp2
                      go_ret2
                      exact ⟨none, HB.out, rfl, HQ.out.ext XW.out, XW.out.keep⟩
                    by_cases q2 : q = -922337203685477580
                    · by_cases v8 : 8 < v
                      · have hb := BAD.out (.inr ⟨_, HDV.out, by have := HV.out; have := HPQ.out; omega⟩)
                        have HB := Lib.hid hb
                        have q3 : (q == -922337203685477580) = true := by simp [q2]
                        clear hb q2
                        go_wp2
                        go_ret2
                        exact ⟨none, HB.out, rfl, HQ.out.ext XW.out, XW.out.keep⟩
                      · have q3 : (q == -922337203685477580) = true := by simp [q2]
                        have hm1 : IntKind.i64.wrap (10 * q) = 10 * q := by rw [IntKind.wrap_i64]; omega
                        have hm2 : IntKind.i64.wrap (10 * q - v) = 10 * q - v := by rw [IntKind.wrap_i64]; omega
                        have hp2 : p * 10 + (d.toNat - 48) ≤ 9223372036854775808 := by have := HV.out; have := HPQ.out; omega
                        have hq2 : 10 * q - v = -((p * 10 + (d.toNat - 48) : Nat) : Int) := by have := HV.out; have := HPQ.out; omega
                        have HQ2 := Lib.hid hq2
                        have HP2 := Lib.hid hp2
                        clear q2 hq2 hp2
                        go_wp2
                        go_roundw
                        case rel => exact ⟨j + 1, p * 10 + (d.toNat - 48), 10 * q - v, by rw [HX.out]; rfl, by have := HX.out; omega, dig_next HDF.out HD2.out HDV.out, HP2.out, HQ2.out, rfl, (by first | trivial | rfl)⟩
                        case measure => simp [intOf]; omega
                    · have q3 : (q == -922337203685477580) = false := by simp [q2]
                      have hm1 : IntKind.i64.wrap (10 * q) = 10 * q := by rw [IntKind.wrap_i64]; omega
                      have hm2 : IntKind.i64.wrap (10 * q - v) = 10 * q - v := by rw [IntKind.wrap_i64]; omega
                      have hp2 : p * 10 + (d.toNat - 48) ≤ 9223372036854775808 := by have := HV.out; have := HPQ.out; omega
                      have hq2 : 10 * q - v = -((p * 10 + (d.toNat - 48) : Nat) : Int) := by have := HV.out; have := HPQ.out; omega
                      have HQ2 := Lib.hid hq2
                      have HP2 := Lib.hid hp2
                      clear q2 hq2 hp2
                      go_wp2
                      go_roundw
                      case rel => exact ⟨j + 1, p * 10 + (d.toNat - 48), 10 * q - v, by rw [HX.out]; rfl, by have := HX.out; omega, dig_next HDF.out HD2.out HDV.out, HP2.out, HQ2.out, rfl, (by first | trivial | rfl)⟩
                      case measure => simp [intOf]; omega
                  · have hxl : x = la := by omega
                    have hall : Lib.decFrom 0 (a.drop (signAt a)) = some p := by
                      rw [HSG.out]
                      have h := HDF.out
                      rwa [List.take_of_length_le (by rw [List.length_drop, ← HLA.out]; have := HX.out; omega)] at h
                    have HALL := Lib.hid hall
                    have fin2 : (¬ I64 (valOf (signAt a) p) ∨ Lib.itoa (valOf (signAt a) p) ≠ a) → Dec (serNum c) I64 (s.drop k) none := fun hb => by
                      rw [HSP.out]
                      exact none_word HM.out HMA.out fun N hN => none_form2 HALL.out hb hN
                    have FIN2 := Lib.hid fin2
                    have hno : ¬ ((x : Int) < (la : Int)) := by omega
                    clear hall fin2 hxl
                    by_cases hq0 : q = -9223372036854775808
                    · have hb := FIN2.out (.inl (by rw [HSG.out]; simp only [valOf]; intro h; have h1 := h.2; have h2 := HPQ.out; simp at h1; omega))
                      have HB := Lib.hid hb
                      have hqq : IntKind.i64.wrap (-q) = q := by rw [IntKind.wrap_i64]; omega
                      have hq1 : (q == q) = true := by simp
                      have hq2 : (q == 0) = false := by simp; omega
                      have hq3 : ¬ (q = 0) := by omega
                      clear hb hq0 hqb
                      go_wp2
                      go_ret2
                      exact ⟨none, HB.out, rfl, HQ.out.ext XW.out, XW.out.keep⟩
                    · obtain ⟨N, hN0⟩ : ∃ N, N = -q := ⟨_, rfl⟩
                      have hNq : N = (p : Int) := by have := HPQ.out; omega
                      have hNb : 0 ≤ N ∧ N ≤ 9223372036854775807 := by omega
                      have hwn : IntKind.i64.wrap N = N := by rw [IntKind.wrap_i64]; omega
                      have hqn : -q = N := hN0.symm
                      have hcond : ((q == N) && (q != 0)) = false := by
                        by_cases h0 : q = 0
                        · simp [h0]
                        · have : q ≠ N := by omega
                          simp [this]
                      have hc1 : (q == N) = decide (q = 0) := by
                        by_cases h0 : q = 0
                        · have : N = 0 := by omega
                          simp [h0, this]
                        · have : q ≠ N := by omega
                          simp [this, h0]
                      clear hq0 hcond hN0
                      by_cases h0 : q = 0
                      · have hN00 : N = 0 := by omega
                        subst h0
                        subst hN00
                        clear hc1
                        have hNv : valOf (signAt a) p = 0 := by rw [HSG.out]; simp only [valOf]; simp; omega
                        have HN := Lib.hid hNv
                        have hI : I64 0 := ⟨by omega, by omega⟩
                        have HI := Lib.hid hI
                        clear hNv hI hNq hNb hqb
                        go_wp2_with fail
                        refine (decimal_calls 0 HI.out _).mono ?_
                        rintro e w5 ⟨rfl, hx5⟩
                        have X5 := Lib.hid (XW.out.trans hx5)
                        have Q5 := QW.out.ext hx5
                        have c1 := Q5.c1
                        have f1 := Q5.f 1
                        have HQ5 := Lib.hid Q5
                        clear hx5 Q5
                        have hwi : IntKind.i64.wrap ((i : Int) + 1) = (i : Int) + 1 := by rw [IntKind.wrap_i64]; omega
                        by_cases heq : Lib.itoa 0 = a
                        · have hdec : Dec (serNum c) I64 (s.drop k) (some (0, s.drop (i + 1))) := Dec.yes HI.out (by rw [HSP.out, ← heq]; simp [serNum])
                          have hbb : (Lib.itoa 0 == a) = true := by simp [heq]
                          have HDEC := Lib.hid hdec
                          clear hdec heq
                          go_wp2
                          go_ret2
                          exact ⟨some (0, s.drop (i + 1)), HDEC.out, rfl, ⟨i + 1, false, by omega, QAt.set1 HQ5.out (i + 1), rfl⟩, X5.out.keep.trans (Keep.set _ 1 _)⟩
                        · have hb := FIN2.out (.inr (by rw [HN.out]; exact heq))
                          have hbb : (Lib.itoa 0 == a) = false := by simp [heq]
                          have HB := Lib.hid hb
                          clear hb heq
                          go_wp2
                          go_ret2
                          exact ⟨none, HB.out, rfl, HQ.out.ext X5.out, X5.out.keep⟩
                      · have hc2 : (q == N) = false := by rw [hc1]; simp [h0]
                        clear hc1 h0
                        have hNv : valOf (signAt a) p = N := by rw [HSG.out]; simp only [valOf]; simp; omega
                        have HN := Lib.hid hNv
                        have hI : I64 N := ⟨by omega, by omega⟩
                        have HI := Lib.hid hI
                        clear hNv hI hNq hNb hqb
                        go_wp2_with fail
                        refine (decimal_calls N HI.out _).mono ?_
                        rintro e w5 ⟨rfl, hx5⟩
                        have X5 := Lib.hid (XW.out.trans hx5)
                        have Q5 := QW.out.ext hx5
                        have c1 := Q5.c1
                        have f1 := Q5.f 1
                        have HQ5 := Lib.hid Q5
                        clear hx5 Q5
                        have hwi : IntKind.i64.wrap ((i : Int) + 1) = (i : Int) + 1 := by rw [IntKind.wrap_i64]; omega
                        by_cases heq : Lib.itoa N = a
                        · have hdec : Dec (serNum c) I64 (s.drop k) (some (N, s.drop (i + 1))) := Dec.yes HI.out (by rw [HSP.out, ← heq]; simp [serNum])
                          have hbb : (Lib.itoa N == a) = true := by simp [heq]
                          have HDEC := Lib.hid hdec
                          clear hdec heq
                          go_wp2
                          go_ret2
                          exact ⟨some (N, s.drop (i + 1)), HDEC.out, rfl, ⟨i + 1, false, by omega, QAt.set1 HQ5.out (i + 1), rfl⟩, X5.out.keep.trans (Keep.set _ 1 _)⟩
                        · have hb := FIN2.out (.inr (by rw [HN.out]; exact heq))
                          have hbb : (Lib.itoa N == a) = false := by simp [heq]
                          have HB := Lib.hid hb
                          clear hb heq
                          go_wp2
                          go_ret2
                          exact ⟨none, HB.out, rfl, HQ.out.ext X5.out, X5.out.keep⟩
              · have hla0 : la = 0 := by omega
                have hno : ¬ ((0 : Int) < (la : Int)) := by omega
                clear h45 hsg hla0
                go_wp2
                clear hno
                go_loopw [9, 10, 11] (fun n kk d wz => ∃ j p : Nat, ∃ q : Int, kk = .int .i64 ((0 + j : Nat) : Int) ∧ 0 + j ≤ la ∧ Lib.decFrom 0 ((a.drop 0).take j) = some p ∧ p ≤ 9223372036854775808 ∧ q = -(p : Int) ∧ n = .int .i64 q ∧ wz = W) (fun _ kk _ _ => la - (intOf kk).toNat)
                case atStart => exact ⟨0, 0, 0, rfl, by omega, by simp [Lib.decFrom], by omega, by simp, rfl, rfl⟩
                case round =>
                  obtain ⟨j, p, q, rfl, hjl, hdf, hpl, hq, rfl, rfl⟩ := hrel
                  have HDF := Lib.hid hdf
                  have HPQ := Lib.hid hq
                  have hqb : -9223372036854775808 ≤ q ∧ q ≤ 0 := by omega
                  obtain ⟨x, hx⟩ : ∃ x, x = 0 + j := ⟨_, rfl⟩
                  rw [← hx] at hjl ⊢
                  have HX := Lib.hid hx
                  clear hdf hq hx
                  by_cases hlt : x < la
                  · obtain ⟨d, hd⟩ : ∃ d, a[x]? = some d := ⟨_, List.getElem?_eq_getElem (by rw [← HLA.out]; exact hlt)⟩
                    have hg : ∀ h, (⟨a.toArray⟩ : ByteArray)[x]'h = d := fun h => byte_at hd h
                    have hd2 : (a.drop 0)[j]? = some d := by rw [List.getElem?_drop, ← HX.out]; exact hd
                    have HD2 := Lib.hid hd2
                    have hdt := UInt8.toNat_lt d
                    obtain ⟨v, hv⟩ : ∃ v : Int, v = (d.toNat : Int) - 48 := ⟨_, rfl⟩
                    have hw1 : IntKind.i64.wrap (d.toNat : Int) = (d.toNat : Int) := by rw [IntKind.wrap_i64]; omega
                    have hw2 : IntKind.i64.wrap v = v := by rw [IntKind.wrap_i64]; omega
                    have hw3 : (d.toNat : Int) - 48 = v := hv.symm
                    have HV := Lib.hid hv
                    have bad : (Lib.digitVal d = none ∨ ∃ e, Lib.digitVal d = some e ∧ 9223372036854775808 < p * 10 + e) → Dec (serNum c) I64 (s.drop k) none := fun hb => by
                      rw [HSP.out]
                      exact none_word HM.out HMA.out fun N hN => none_at (i := j) (p := p) (c := d) (by rw [HSG.out]; exact HDF.out) (by rw [HSG.out]; exact HD2.out) hb hN
                    have BAD := Lib.hid bad
                    have hlI : (x : Int) < (la : Int) := by omega
                    have hx0 : (0 : Int) ≤ (x : Int) := by omega
                    clear hd hd2 hv bad
                    by_cases v0 : v < 0
                    · have hb := BAD.out (.inl (by unfold Lib.digitVal; rw [if_neg (by have := HV.out; omega)]))
                      have HB := Lib.hid hb
                      clear hb
                      go_wp2
                      go_ret2
                      exact ⟨none, HB.out, rfl, HQ.out.ext XW.out, XW.out.keep⟩
                    by_cases v9 : 9 < v
                    · have hb := BAD.out (.inl (by unfold Lib.digitVal; rw [if_neg (by have := HV.out; omega)]))
                      have HB := Lib.hid hb
                      clear hb
                      go_wp2
                      go_ret2
                      exact ⟨none, HB.out, rfl, HQ.out.ext XW.out, XW.out.keep⟩
                    have hdv : Lib.digitVal d = some (d.toNat - 48) := by unfold Lib.digitVal; rw [if_pos (by have := HV.out; omega)]
                    have HDV := Lib.hid hdv
                    clear hdv
                    by_cases q1 : q < -922337203685477580
                    · have hb := BAD.out (.inr ⟨_, HDV.out, by have := HV.out; have := HPQ.out; omega⟩)
                      have HB := Lib.hid hb
                      clear hb
                      go_wp2
                      go_ret2
                      exact ⟨none, HB.out, rfl, HQ.out.ext XW.out, XW.out.keep⟩
                    by_cases q2 : q = -922337203685477580
                    · by_cases v8 : 8 < v
                      · have hb := BAD.out (.inr ⟨_, HDV.out, by have := HV.out; have := HPQ.out; omega⟩)
                        have HB := Lib.hid hb
                        have q3 : (q == -922337203685477580) = true := by simp [q2]
                        clear hb q2
                        go_wp2
                        go_ret2
                        exact ⟨none, HB.out, rfl, HQ.out.ext XW.out, XW.out.keep⟩
                      · have q3 : (q == -922337203685477580) = true := by simp [q2]
                        have hm1 : IntKind.i64.wrap (10 * q) = 10 * q := by rw [IntKind.wrap_i64]; omega
                        have hm2 : IntKind.i64.wrap (10 * q - v) = 10 * q - v := by rw [IntKind.wrap_i64]; omega
                        have hp2 : p * 10 + (d.toNat - 48) ≤ 9223372036854775808 := by have := HV.out; have := HPQ.out; omega
                        have hq2 : 10 * q - v = -((p * 10 + (d.toNat - 48) : Nat) : Int) := by have := HV.out; have := HPQ.out; omega
                        have HQ2 := Lib.hid hq2
                        have HP2 := Lib.hid hp2
                        clear q2 hq2 hp2
                        go_wp2
                        go_roundw
                        case rel => exact ⟨j + 1, p * 10 + (d.toNat - 48), 10 * q - v, by rw [HX.out]; rfl, by have := HX.out; omega, dig_next HDF.out HD2.out HDV.out, HP2.out, HQ2.out, rfl, (by first | trivial | rfl)⟩
                        case measure => simp [intOf]; omega
                    · have q3 : (q == -922337203685477580) = false := by simp [q2]
                      have hm1 : IntKind.i64.wrap (10 * q) = 10 * q := by rw [IntKind.wrap_i64]; omega
                      have hm2 : IntKind.i64.wrap (10 * q - v) = 10 * q - v := by rw [IntKind.wrap_i64]; omega
                      have hp2 : p * 10 + (d.toNat - 48) ≤ 9223372036854775808 := by have := HV.out; have := HPQ.out; omega
                      have hq2 : 10 * q - v = -((p * 10 + (d.toNat - 48) : Nat) : Int) := by have := HV.out; have := HPQ.out; omega
                      have HQ2 := Lib.hid hq2
                      have HP2 := Lib.hid hp2
                      clear q2 hq2 hp2
                      go_wp2
                      go_roundw
                      case rel => exact ⟨j + 1, p * 10 + (d.toNat - 48), 10 * q - v, by rw [HX.out]; rfl, by have := HX.out; omega, dig_next HDF.out HD2.out HDV.out, HP2.out, HQ2.out, rfl, (by first | trivial | rfl)⟩
                      case measure => simp [intOf]; omega
                  · have hxl : x = la := by omega
                    have hall : Lib.decFrom 0 (a.drop (signAt a)) = some p := by
                      rw [HSG.out]
                      have h := HDF.out
                      rwa [List.take_of_length_le (by rw [List.length_drop, ← HLA.out]; have := HX.out; omega)] at h
                    have HALL := Lib.hid hall
                    have fin2 : (¬ I64 (valOf (signAt a) p) ∨ Lib.itoa (valOf (signAt a) p) ≠ a) → Dec (serNum c) I64 (s.drop k) none := fun hb => by
                      rw [HSP.out]
                      exact none_word HM.out HMA.out fun N hN => none_form2 HALL.out hb hN
                    have FIN2 := Lib.hid fin2
                    have hno : ¬ ((x : Int) < (la : Int)) := by omega
                    clear hall fin2 hxl
                    by_cases hq0 : q = -9223372036854775808
                    · have hb := FIN2.out (.inl (by rw [HSG.out]; simp only [valOf]; intro h; have h1 := h.2; have h2 := HPQ.out; simp at h1; omega))
                      have HB := Lib.hid hb
                      have hqq : IntKind.i64.wrap (-q) = q := by rw [IntKind.wrap_i64]; omega
                      have hq1 : (q == q) = true := by simp
                      have hq2 : (q == 0) = false := by simp; omega
                      have hq3 : ¬ (q = 0) := by omega
                      clear hb hq0 hqb
                      go_wp2
                      go_ret2
                      exact ⟨none, HB.out, rfl, HQ.out.ext XW.out, XW.out.keep⟩
                    · obtain ⟨N, hN0⟩ : ∃ N, N = -q := ⟨_, rfl⟩
                      have hNq : N = (p : Int) := by have := HPQ.out; omega
                      have hNb : 0 ≤ N ∧ N ≤ 9223372036854775807 := by omega
                      have hwn : IntKind.i64.wrap N = N := by rw [IntKind.wrap_i64]; omega
                      have hqn : -q = N := hN0.symm
                      have hcond : ((q == N) && (q != 0)) = false := by
                        by_cases h0 : q = 0
                        · simp [h0]
                        · have : q ≠ N := by omega
                          simp [this]
                      have hc1 : (q == N) = decide (q = 0) := by
                        by_cases h0 : q = 0
                        · have : N = 0 := by omega
                          simp [h0, this]
                        · have : q ≠ N := by omega
                          simp [this, h0]
                      clear hq0 hcond hN0
                      by_cases h0 : q = 0
                      · have hN00 : N = 0 := by omega
                        subst h0
                        subst hN00
                        clear hc1
                        have hNv : valOf (signAt a) p = 0 := by rw [HSG.out]; simp only [valOf]; simp; omega
                        have HN := Lib.hid hNv
                        have hI : I64 0 := ⟨by omega, by omega⟩
                        have HI := Lib.hid hI
                        clear hNv hI hNq hNb hqb
                        go_wp2_with fail
                        refine (decimal_calls 0 HI.out _).mono ?_
                        rintro e w5 ⟨rfl, hx5⟩
                        have X5 := Lib.hid (XW.out.trans hx5)
                        have Q5 := QW.out.ext hx5
                        have c1 := Q5.c1
                        have f1 := Q5.f 1
                        have HQ5 := Lib.hid Q5
                        clear hx5 Q5
                        have hwi : IntKind.i64.wrap ((i : Int) + 1) = (i : Int) + 1 := by rw [IntKind.wrap_i64]; omega
                        by_cases heq : Lib.itoa 0 = a
                        · have hdec : Dec (serNum c) I64 (s.drop k) (some (0, s.drop (i + 1))) := Dec.yes HI.out (by rw [HSP.out, ← heq]; simp [serNum])
                          have hbb : (Lib.itoa 0 == a) = true := by simp [heq]
                          have HDEC := Lib.hid hdec
                          clear hdec heq
                          go_wp2
                          go_ret2
                          exact ⟨some (0, s.drop (i + 1)), HDEC.out, rfl, ⟨i + 1, false, by omega, QAt.set1 HQ5.out (i + 1), rfl⟩, X5.out.keep.trans (Keep.set _ 1 _)⟩
                        · have hb := FIN2.out (.inr (by rw [HN.out]; exact heq))
                          have hbb : (Lib.itoa 0 == a) = false := by simp [heq]
                          have HB := Lib.hid hb
                          clear hb heq
                          go_wp2
                          go_ret2
                          exact ⟨none, HB.out, rfl, HQ.out.ext X5.out, X5.out.keep⟩
                      · have hc2 : (q == N) = false := by rw [hc1]; simp [h0]
                        clear hc1 h0
                        have hNv : valOf (signAt a) p = N := by rw [HSG.out]; simp only [valOf]; simp; omega
                        have HN := Lib.hid hNv
                        have hI : I64 N := ⟨by omega, by omega⟩
                        have HI := Lib.hid hI
                        clear hNv hI hNq hNb hqb
                        go_wp2_with fail
                        refine (decimal_calls N HI.out _).mono ?_
                        rintro e w5 ⟨rfl, hx5⟩
                        have X5 := Lib.hid (XW.out.trans hx5)
                        have Q5 := QW.out.ext hx5
                        have c1 := Q5.c1
                        have f1 := Q5.f 1
                        have HQ5 := Lib.hid Q5
                        clear hx5 Q5
                        have hwi : IntKind.i64.wrap ((i : Int) + 1) = (i : Int) + 1 := by rw [IntKind.wrap_i64]; omega
                        by_cases heq : Lib.itoa N = a
                        · have hdec : Dec (serNum c) I64 (s.drop k) (some (N, s.drop (i + 1))) := Dec.yes HI.out (by rw [HSP.out, ← heq]; simp [serNum])
                          have hbb : (Lib.itoa N == a) = true := by simp [heq]
                          have HDEC := Lib.hid hdec
                          clear hdec heq
                          go_wp2
                          go_ret2
                          exact ⟨some (N, s.drop (i + 1)), HDEC.out, rfl, ⟨i + 1, false, by omega, QAt.set1 HQ5.out (i + 1), rfl⟩, X5.out.keep.trans (Keep.set _ 1 _)⟩
                        · have hb := FIN2.out (.inr (by rw [HN.out]; exact heq))
                          have hbb : (Lib.itoa N == a) = false := by simp [heq]
                          have HB := Lib.hid hb
                          clear hb heq
                          go_wp2
                          go_ret2
                          exact ⟨none, HB.out, rfl, HQ.out.ext X5.out, X5.out.keep⟩

        · have hcm2 : c ≠ m := hcm
          have hbb : ((c.toNat : Int) == (m.toNat : Int)) = false := by
            have h1 : c.toNat ≠ m.toNat := fun e => hcm (UInt8.toNat_inj.1 e)
            simp; omega
          by_cases h21 : i < k + 21
          · have h21I : (i : Int) < (k : Int) + 21 := by omega
            have hsn := scan_next hki HC.out hcm2 HSC.out
            have HSN := Lib.hid hsn
            have hwi : IntKind.i64.wrap ((i : Int) + 1) = (i : Int) + 1 := by rw [IntKind.wrap_i64]; omega
            clear hsn
            go_wp2
            go_roundw
            case rel => exact ⟨i + 1, by omega, by omega, by omega, rfl, HSN.out, (by first | trivial | rfl)⟩
            case measure => simp [intOf]; omega
          · have h21I : ¬ ((i : Int) < (k : Int) + 21) := by omega
            have hd := none_scan HM.out HSC.out (.inr (by omega))
            have HD := Lib.hid hd
            clear hd
            go_wp2
            go_ret2
            exact ⟨none, HD.out, rfl, HQ.out, Keep.refl _ _⟩
      · have hd := none_scan HM.out HSC.out (.inl (by rw [List.length_drop]; omega))
        have HD := Lib.hid hd
        have h1I : ¬ ((i : Int) < (s.length : Int)) := by omega
        have heI : ((i : Int) == (s.length : Int)) = true := by simp; omega
        clear hd
        go_wp2
        go_ret2
        exact ⟨none, HD.out, rfl, HQ.out, Keep.refl _ _⟩

end Go.Proofs.YtckhbejgkgpilaaDoor
