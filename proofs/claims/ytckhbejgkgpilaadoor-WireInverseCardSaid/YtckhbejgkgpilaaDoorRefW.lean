/- The reference of layer 3: decimal, Int, Text. -/
import Derived.Test.YtckhbejgkgpilaaDoorSan2
import Derived.Laws.IdiomStrings
set_option linter.all false
namespace Go.Proofs.YtckhbejgkgpilaaDoor
open Go Go.RowKit Go.Shelf

theorem conv_one {w : World} {g : Nat} {u : Int} {b : UInt8} (hb : (b.toNat : Int) = u) (hr : w.cell? ⟨g, 0, none⟩ = some (.int .u8 u)) : (convert 31 9 (.slice (some ⟨g, 0, none⟩) 1 1)).run Tryd.prog w = .ok (.string ⟨[b].toArray⟩) w := by
  subst hb
  exact run_convert_bytes_back (P := Tryd.prog) w 31 9 5 ⟨g, 0, none⟩ 1 [b] Tryd.underlying31 Tryd.underlying5 Tryd.underlying9 (fun j hj => by
    obtain rfl : j = 0 := by simp at hj; omega
    simpa [Addr.add] using hr)

theorem itoa_digit {n : Int} (h0 : 0 ≤ n) (h1 : n < 10) : Lib.itoa n = [UInt8.ofNat (48 + n.toNat)] := by
  unfold Lib.itoa
  rw [if_neg (by omega), Lib.decDigits, dif_pos (by omega)]
theorem itoa_pos_step {n : Int} (h : 10 ≤ n) : Lib.itoa n = Lib.itoa (n / 10) ++ Lib.itoa (n % 10) := by
  rw [itoa_digit (n := n % 10) (by omega) (by omega)]
  unfold Lib.itoa
  rw [if_neg (by omega), if_neg (by omega), Lib.decDigits, dif_neg (by omega)]
  rw [show (n / 10).toNat = n.toNat / 10 by omega, show (n % 10).toNat = n.toNat % 10 by omega]
theorem itoa_neg_one {n : Int} (h0 : n < 0) (h1 : -10 < n) : Lib.itoa n = 45 :: Lib.itoa (-n) := by
  rw [itoa_digit (n := -n) (by omega) (by omega)]
  unfold Lib.itoa
  rw [if_pos h0, Lib.decDigits, dif_pos (by omega)]
  rw [show (-n).toNat = n.natAbs by omega]
theorem itoa_neg_step {n : Int} (h : n ≤ -10) : Lib.itoa n = Lib.itoa (-((-n) / 10)) ++ Lib.itoa ((-n) % 10) := by
  rw [itoa_digit (n := (-n) % 10) (by omega) (by omega)]
  unfold Lib.itoa
  rw [if_pos (by omega), if_pos (by omega), Lib.decDigits, dif_neg (by omega)]
  rw [show (-((-n) / 10)).natAbs = n.natAbs / 10 by omega, show ((-n) % 10).toNat = n.natAbs % 10 by omega]
  rfl

set_option maxRecDepth 100000 in
set_option maxHeartbeats 4000000 in
theorem decimal_all : ∀ (k : Nat) (n : Int), 2 * n.natAbs + (if n < 0 then 1 else 0) = k → I64 n → ∀ w : World, Calls Tryd.prog 39 #[.int .i64 n] w fun e w' => e = .returned (.string ⟨(Lib.itoa n).toArray⟩) ∧ Ext w w' := by
  intro k
  induction k using Nat.strongRecOn with
  | _ k ih =>
    intro n hk hn w
    obtain ⟨hn1, hn2⟩ := hn
    have IH : Hid (∀ m : Int, I64 m → 2 * m.natAbs + (if m < 0 then 1 else 0) < k → ∀ w : World, Calls Tryd.prog 39 #[.int .i64 m] w fun e w' => e = .returned (.string ⟨(Lib.itoa m).toArray⟩) ∧ Ext w w') := fun m h64 hm => ih _ hm m rfl h64
    have HK := Lib.hid hk
    clear ih hk
    by_cases hneg : n < 0
    · have h0 : ¬ (0 ≤ n) := by omega
      obtain ⟨q, hq⟩ : ∃ q, q = (-n) / 10 := ⟨_, rfl⟩
      obtain ⟨m, hm⟩ : ∃ m, m = (-n) % 10 := ⟨_, rfl⟩
      have e1 : n.tmod 10 = -m := by
        rw [hm, show n = -(-n) by omega, Int.neg_tmod, Int.tmod_eq_emod_of_nonneg (by omega)]
        simp
      have e2 : n.tdiv 10 = -q := by
        rw [hq, show n = -(-n) by omega, Int.neg_tdiv, Int.tdiv_eq_ediv_of_nonneg (by omega)]
        simp
      have e3 : IntKind.i64.wrap (-m) = -m := by rw [IntKind.wrap_i64]; omega
      have e4 : IntKind.i64.wrap (-q) = -q := by rw [IntKind.wrap_i64]; omega
      have e5 : IntKind.i64.wrap (- -m) = m := by rw [IntKind.wrap_i64]; omega
      have e6 : IntKind.i64.wrap m = m := by rw [IntKind.wrap_i64]; omega
      have hdm := IH.out m ⟨by omega, by omega⟩ (by have := HK.out; split at this <;> split <;> omega)
      have hL1 := itoa_len (n := m) ⟨by omega, by omega⟩
      by_cases hd : q = 0
      · have hfin : Lib.itoa n = 45 :: Lib.itoa m := by rw [itoa_neg_one hneg (by omega), show m = -n by omega]
        have Hfin := Lib.hid hfin
        have h1 : ¬ (9223372036854775807 < 1 + (Lib.itoa m).length) := by omega
        subst hd
        have HD := Lib.hid hdm
        clear hq hm hfin hdm hL1
        go_enter Tryd.func39, Tryd.ntmps39
        go_wp2_with fail
        refine (HD.out _).mono ?_
        rintro e w' ⟨rfl, hx⟩
        have Hx := Lib.hid hx
        clear hx
        go_wp2
        go_ret
        refine ⟨?_, Hx.out⟩
        rw [Hfin.out]
        show Ending.returned (Value.string (⟨[45].toArray⟩ ++ ⟨(Lib.itoa m).toArray⟩)) = _
        rw [bytes_append]
        rfl
      · have hfin : Lib.itoa n = Lib.itoa (-q) ++ Lib.itoa m := by rw [itoa_neg_step (by omega), ← hq, ← hm]
        have Hfin := Lib.hid hfin
        have hL2 := itoa_len (n := -q) ⟨by omega, by omega⟩
        have h1 : ¬ (9223372036854775807 < (Lib.itoa (-q)).length + (Lib.itoa m).length) := by omega
        have HD := Lib.hid hdm
        have HD2 := Lib.hid (IH.out (-q) ⟨by omega, by omega⟩ (by have := HK.out; split at this <;> split <;> omega))
        have h2 : (-q == 0) = false := by simp; omega
        have h3 : (q == 0) = false := by simp; omega
        clear hq hm hfin hdm hL1 hL2 hd
        go_enter Tryd.func39, Tryd.ntmps39
        go_wp2_with fail
        refine (HD2.out _).mono ?_
        rintro e w1 ⟨rfl, hx1⟩
        have Hx1 := Lib.hid hx1
        clear hx1
        go_wp2_with fail
        refine (HD.out _).mono ?_
        rintro e w' ⟨rfl, hx⟩
        have Hx := Lib.hid hx
        clear hx
        go_wp2
        go_ret
        refine ⟨?_, Hx1.out.trans Hx.out⟩
        rw [Hfin.out]
        show Ending.returned (Value.string (⟨(Lib.itoa (-q)).toArray⟩ ++ ⟨(Lib.itoa m).toArray⟩)) = _
        rw [bytes_append]
    · have h0 : 0 ≤ n := by omega
      by_cases hd : n < 10
      · have hbt : ((UInt8.ofNat (48 + n.toNat)).toNat : Int) = 48 + n := by rw [digit_ok _ (by omega)]; omega
        have hw1 : IntKind.i64.wrap (48 + n) = 48 + n := by rw [IntKind.wrap_i64]; omega
        have hw2 : IntKind.u8.wrap (48 + n) = 48 + n := by rw [IntKind.wrap_u8]; omega
        have hconv : (convert 31 9 (.slice (some ⟨w.heap.size, 0, none⟩) 1 1)).run Tryd.prog (w.alloc (.cells #[.int .u8 (48 + n)] 5)) = .ok (.string ⟨(Lib.itoa n).toArray⟩) (w.alloc (.cells #[.int .u8 (48 + n)] 5)) := by
          rw [itoa_digit h0 hd]
          exact conv_one hbt (by rw [Lib.cell_of_heap (heap_alloc_new w _)]; rfl)
        clear hbt
        go_enter Tryd.func39, Tryd.ntmps39
        go_wp2
        go_ret
        exact ⟨rfl, Ext.alloc _ _⟩
      · obtain ⟨q, hq⟩ : ∃ q, q = n / 10 := ⟨_, rfl⟩
        obtain ⟨m, hm⟩ : ∃ m, m = n % 10 := ⟨_, rfl⟩
        have e1 : n.tmod 10 = m := by rw [hm, Int.tmod_eq_emod_of_nonneg h0]
        have e2 : n.tdiv 10 = q := by rw [hq, Int.tdiv_eq_ediv_of_nonneg h0]
        have e3 : IntKind.i64.wrap m = m := by rw [IntKind.wrap_i64]; omega
        have e4 : IntKind.i64.wrap q = q := by rw [IntKind.wrap_i64]; omega
        have e5 : n / 10 = q := hq.symm
        have e6 : n % 10 = m := hm.symm
        have hdm := IH.out m ⟨by omega, by omega⟩ (by have := HK.out; split at this <;> split <;> omega)
        have hL1 := itoa_len (n := m) ⟨by omega, by omega⟩
        have hfin : Lib.itoa n = Lib.itoa q ++ Lib.itoa m := by rw [itoa_pos_step (by omega), ← hq, ← hm]
        have Hfin := Lib.hid hfin
        have hL2 := itoa_len (n := q) ⟨by omega, by omega⟩
        have h1 : ¬ (9223372036854775807 < (Lib.itoa q).length + (Lib.itoa m).length) := by omega
        have HD := Lib.hid hdm
        have HD2 := Lib.hid (IH.out q ⟨by omega, by omega⟩ (by have := HK.out; split at this <;> split <;> omega))
        clear hq hm hfin hdm hL1 hL2
        go_enter Tryd.func39, Tryd.ntmps39
        go_wp2_with fail
        refine (HD2.out _).mono ?_
        rintro e w1 ⟨rfl, hx1⟩
        have Hx1 := Lib.hid hx1
        clear hx1
        go_wp2_with fail
        refine (HD.out _).mono ?_
        rintro e w' ⟨rfl, hx⟩
        have Hx := Lib.hid hx
        clear hx
        go_wp2
        go_ret
        refine ⟨?_, Hx1.out.trans Hx.out⟩
        rw [Hfin.out]
        show Ending.returned (Value.string (⟨(Lib.itoa q).toArray⟩ ++ ⟨(Lib.itoa m).toArray⟩)) = _
        rw [bytes_append]
theorem decimal_calls (n : Int) (hn : I64 n) (w : World) : Calls Tryd.prog 39 #[.int .i64 n] w fun e w' => e = .returned (.string ⟨(Lib.itoa n).toArray⟩) ∧ Ext w w' := decimal_all _ n rfl hn w

set_option maxRecDepth 100000 in
set_option maxHeartbeats 1000000 in
theorem refint_calls (n : Int) (hn : I64 n) (w : World) :
    Calls Tryd.prog 13 #[.int .i64 n] w fun e w' => e = .returned (.string ⟨(serInt n).toArray⟩) ∧ Ext w w' := by
  have hI := decimal_calls n hn w
  have h1 : ¬ (9223372036854775807 < (Lib.itoa n).length + 1) := by have := itoa_len hn; omega
  go_enter Tryd.func13, Tryd.ntmps13
  go_wp2_with fail
  refine hI.mono ?_
  rintro e w' ⟨rfl, hx⟩
  go_wp2
  go_ret
  exact ⟨by rw [bytes_append]; rfl, hx⟩

set_option maxRecDepth 100000 in
set_option maxHeartbeats 1000000 in
theorem reftext_calls (s : Bs) (hs : TextOk s) (hl : (serText s).length ≤ 140737488355328) (w : World) :
    Calls Tryd.prog 15 #[.string ⟨s.toArray⟩] w fun e w' => e = .returned (.string ⟨(serText s).toArray⟩) ∧ Ext w w' := by
  unfold TextOk at hs
  have hI := decimal_calls s.length ⟨by omega, by omega⟩ w
  have hsz := bytes_size s
  have hl2 : (Lib.itoa s.length).length + 1 + s.length ≤ 140737488355328 := by simp [serText, serNum] at hl; omega
  have h1 : ¬ (9223372036854775807 < (Lib.itoa s.length).length + 1) := by omega
  have h2 : ¬ (9223372036854775807 < (Lib.itoa s.length).length + 1 + s.length) := by omega
  clear hl hl2
  go_enter Tryd.func15, Tryd.ntmps15
  go_wp2_with fail
  refine hI.mono ?_
  rintro e w' ⟨rfl, hx⟩
  go_wp2
  go_ret
  refine ⟨?_, hx⟩
  rw [bytes_append, bytes_append]
  rfl

set_option maxRecDepth 100000 in
set_option maxHeartbeats 4000000 in
theorem refints_calls (v : Value) (xs : List Int) (S : Nat → Prop) (w : World) (hu : SlOf encI S w v xs) (ho : AllOk I64 xs) (hl : (serL serInt xs).length ≤ 140737488355328) :
    Calls Tryd.prog 17 #[v] w fun e w' => e = .returned (.string ⟨(serL serInt xs).toArray⟩) ∧ Ext w w' := by
  obtain ⟨p, cap, rfl, hm, hc⟩ := hu
  unfold maxLen at hm
  rw [serL_len] at hl
  have Hl := Lib.hid hl
  have Ho := Lib.hid ho
  have Hc := Lib.hid hc
  obtain ⟨n, hn⟩ : ∃ n, n = xs.length := ⟨_, rfl⟩
  rw [← hn] at hm ⊢
  have Hn := Lib.hid hn
  clear hl ho hc hn
  go_enter Tryd.func17, Tryd.ntmps17
  go_wp2_with fail
  go_loopw [3, 4] (fun s i wr => ∃ k : Nat, k ≤ n ∧ i = .int .i64 (k : Int) ∧ s = .string ⟨(91 :: (xs.take k).flatMap serInt).toArray⟩ ∧ Ext w wr) (fun _ i _ => (n - (intOf i).toNat))
  case atStart => exact ⟨0, Nat.zero_le _, rfl, rfl, Ext.refl _⟩
  case round =>
    obtain ⟨k, hk, rfl, rfl, hx⟩ := hrel
    have Hx := Lib.hid hx
    clear hx
    have hle := flat_le serInt xs k
    by_cases hlt : k < n
    · obtain ⟨x, hx⟩ : ∃ x, xs[k]? = some x := ⟨_, List.getElem?_eq_getElem (by rw [← Hn.out]; exact hlt)⟩
      obtain ⟨b, off, rfl, -, hbl, hcs⟩ := Hc.out (by rw [← Hn.out]; omega)
      have hcell := (Below.cell Hx.out (p := ⟨b, off + k, none⟩) hbl).trans (hcs k x hx)
      unfold encI at hcell
      have hok := Ho.out x (List.mem_of_getElem? hx)
      have Hok := Lib.hid hok
      have hf := flat_take serInt xs k x hx
      have hle2 := flat_le serInt xs (k + 1)
      obtain ⟨q, hq⟩ : ∃ q, q = 91 :: (xs.take k).flatMap serInt := ⟨_, rfl⟩
      have hcat : (⟨q.toArray⟩ : ByteArray) ++ ⟨(serInt x).toArray⟩ = ⟨(91 :: (xs.take (k + 1)).flatMap serInt).toArray⟩ := by rw [bytes_append, hf, hq]; rfl
      have hql : q.length + (serInt x).length ≤ 140737488355328 := by
        have h1 := Hl.out
        rw [hf, List.length_append] at hle2
        rw [hq, List.length_cons]
        omega
      have h1 : ¬ (9223372036854775807 < q.length + (serInt x).length) := by omega
      have hxl : (serInt x).length ≤ 140737488355328 := by omega
      have HC := Lib.hid (refint_calls x Hok.out wr)
      have hqs := bytes_size q
      have Hcat := Lib.hid hcat
      rw [← hq]
      clear hcs hok hx hbl hf hle2 hq hql hle hxl hcat
      go_wp2_with fail
      refine (HC.out).mono ?_
      rintro e w2 ⟨rfl, hx2⟩
      have Hx2 := Lib.hid hx2
      clear hx2
      go_wp2
      go_roundw
      case rel => exact ⟨k + 1, by omega, by go_num, by rw [Hcat.out], Hx.out.trans Hx2.out⟩
      case measure => simp [intOf]; omega
    · have hkn : k = n := by omega
      subst hkn
      have ht : xs.take k = xs := List.take_of_length_le (by rw [← Hn.out]; exact Nat.le_refl _)
      rw [ht] at hle ⊢
      have h1 : ¬ (9223372036854775807 < (91 :: xs.flatMap serInt).length + 1) := by have := Hl.out; rw [List.length_cons]; omega
      obtain ⟨q, hq⟩ : ∃ q, q = 91 :: xs.flatMap serInt := ⟨_, rfl⟩
      have hcat : (⟨q.toArray⟩ : ByteArray) ++ ⟨[93].toArray⟩ = ⟨(serL serInt xs).toArray⟩ := by rw [bytes_append, hq]; rfl
      have Hcat := Lib.hid hcat
      rw [← hq] at h1 ⊢
      clear ht hle hq hcat
      go_wp2
      go_ret
      exact ⟨by rw [← Hcat.out]; rfl, Hx.out⟩

set_option maxRecDepth 100000 in
set_option maxHeartbeats 4000000 in
theorem reftexts_calls (v : Value) (xs : List Bs) (S : Nat → Prop) (w : World) (hu : SlOf encT S w v xs) (ho : AllOk TextOk xs) (hl : (serL serText xs).length ≤ 140737488355328) :
    Calls Tryd.prog 19 #[v] w fun e w' => e = .returned (.string ⟨(serL serText xs).toArray⟩) ∧ Ext w w' := by
  obtain ⟨p, cap, rfl, hm, hc⟩ := hu
  unfold maxLen at hm
  rw [serL_len] at hl
  have Hl := Lib.hid hl
  have Ho := Lib.hid ho
  have Hc := Lib.hid hc
  obtain ⟨n, hn⟩ : ∃ n, n = xs.length := ⟨_, rfl⟩
  rw [← hn] at hm ⊢
  have Hn := Lib.hid hn
  clear hl ho hc hn
  go_enter Tryd.func19, Tryd.ntmps19
  go_wp2_with fail
  go_loopw [3, 4] (fun s i wr => ∃ k : Nat, k ≤ n ∧ i = .int .i64 (k : Int) ∧ s = .string ⟨(91 :: (xs.take k).flatMap serText).toArray⟩ ∧ Ext w wr) (fun _ i _ => (n - (intOf i).toNat))
  case atStart => exact ⟨0, Nat.zero_le _, rfl, rfl, Ext.refl _⟩
  case round =>
    obtain ⟨k, hk, rfl, rfl, hx⟩ := hrel
    have Hx := Lib.hid hx
    clear hx
    have hle := flat_le serText xs k
    by_cases hlt : k < n
    · obtain ⟨x, hx⟩ : ∃ x, xs[k]? = some x := ⟨_, List.getElem?_eq_getElem (by rw [← Hn.out]; exact hlt)⟩
      obtain ⟨b, off, rfl, -, hbl, hcs⟩ := Hc.out (by rw [← Hn.out]; omega)
      have hcell := (Below.cell Hx.out (p := ⟨b, off + k, none⟩) hbl).trans (hcs k x hx)
      unfold encT at hcell
      have hok := Ho.out x (List.mem_of_getElem? hx)
      have Hok := Lib.hid hok
      have hf := flat_take serText xs k x hx
      have hle2 := flat_le serText xs (k + 1)
      obtain ⟨q, hq⟩ : ∃ q, q = 91 :: (xs.take k).flatMap serText := ⟨_, rfl⟩
      have hcat : (⟨q.toArray⟩ : ByteArray) ++ ⟨(serText x).toArray⟩ = ⟨(91 :: (xs.take (k + 1)).flatMap serText).toArray⟩ := by rw [bytes_append, hf, hq]; rfl
      have hql : q.length + (serText x).length ≤ 140737488355328 := by
        have h1 := Hl.out
        rw [hf, List.length_append] at hle2
        rw [hq, List.length_cons]
        omega
      have h1 : ¬ (9223372036854775807 < q.length + (serText x).length) := by omega
      have hxl : (serText x).length ≤ 140737488355328 := by omega
      have HC := Lib.hid (reftext_calls x Hok.out hxl wr)
      have hqs := bytes_size q
      have Hcat := Lib.hid hcat
      rw [← hq]
      clear hcs hok hx hbl hf hle2 hq hql hle hxl hcat
      go_wp2_with fail
      refine (HC.out).mono ?_
      rintro e w2 ⟨rfl, hx2⟩
      have Hx2 := Lib.hid hx2
      clear hx2
      go_wp2
      go_roundw
      case rel => exact ⟨k + 1, by omega, by go_num, by rw [Hcat.out], Hx.out.trans Hx2.out⟩
      case measure => simp [intOf]; omega
    · have hkn : k = n := by omega
      subst hkn
      have ht : xs.take k = xs := List.take_of_length_le (by rw [← Hn.out]; exact Nat.le_refl _)
      rw [ht] at hle ⊢
      have h1 : ¬ (9223372036854775807 < (91 :: xs.flatMap serText).length + 1) := by have := Hl.out; rw [List.length_cons]; omega
      obtain ⟨q, hq⟩ : ∃ q, q = 91 :: xs.flatMap serText := ⟨_, rfl⟩
      have hcat : (⟨q.toArray⟩ : ByteArray) ++ ⟨[93].toArray⟩ = ⟨(serL serText xs).toArray⟩ := by rw [bytes_append, hq]; rfl
      have Hcat := Lib.hid hcat
      rw [← hq] at h1 ⊢
      clear ht hle hq hcat
      go_wp2
      go_ret
      exact ⟨by rw [← Hcat.out]; rfl, Hx.out⟩
end Go.Proofs.YtckhbejgkgpilaaDoor
