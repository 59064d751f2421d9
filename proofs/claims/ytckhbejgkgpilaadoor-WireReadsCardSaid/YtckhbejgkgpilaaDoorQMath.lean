/- How the reference reads a number: the mathematics. -/
import Derived.Test.YtckhbejgkgpilaaDoorQ
set_option linter.all false
namespace Go.Proofs.YtckhbejgkgpilaaDoor
open Go

theorem decFrom_append : ∀ (l1 l2 : Bs) (acc : Nat), Lib.decFrom acc (l1 ++ l2) = (Lib.decFrom acc l1).bind fun m => Lib.decFrom m l2
  | [], l2, acc => rfl
  | c :: l1, l2, acc => by
    simp only [List.cons_append, Lib.decFrom]
    cases Lib.digitVal c with
    | none => rfl
    | some d => exact decFrom_append l1 l2 _
theorem decFrom_ge : ∀ (l : Bs) (acc u : Nat), Lib.decFrom acc l = some u → acc ≤ u
  | [], acc, u, h => by simp only [Lib.decFrom, Option.some.injEq] at h; omega
  | c :: l, acc, u, h => by
    simp only [Lib.decFrom] at h
    cases hd : Lib.digitVal c with
    | none => rw [hd] at h; cases h
    | some d =>
      rw [hd] at h
      have := decFrom_ge l _ u h
      omega
theorem digitVal_ofNat {d : Nat} (h : d < 10) : Lib.digitVal (UInt8.ofNat (48 + d)) = some d := by
  unfold Lib.digitVal
  rw [digit_ok d h, if_pos (by omega)]
  congr 1; omega
theorem dec_decFrom (u : Nat) : Lib.decFrom 0 (Lib.decDigits u) = some u := by
  induction u using Nat.strongRecOn with
  | _ u ih =>
    by_cases h : u < 10
    · rw [Lib.decDigits, dif_pos h]
      simp only [Lib.decFrom]
      rw [digitVal_ofNat h]
      simp only [Nat.zero_mul, Nat.zero_add]
    · rw [Lib.decDigits, dif_neg h, decFrom_append, ih (u / 10) (by omega)]
      simp only [Lib.decFrom, Option.bind_some]
      rw [digitVal_ofNat (show u % 10 < 10 by omega)]
      simp only [Option.some.injEq]
      omega
/-- Where the digits begin. -/
def signAt (a : Bs) : Nat := if a[0]? = some 45 then 1 else 0
def valOf (f p : Nat) : Int := if f = 0 then (p : Int) else -(p : Int)
theorem itoa_dig {N : Int} (hN : I64 N) : ∃ u, u ≤ 9223372036854775808 ∧ Lib.decFrom 0 ((Lib.itoa N).drop (signAt (Lib.itoa N))) = some u ∧ N = valOf (signAt (Lib.itoa N)) u := by
  obtain ⟨h1, h2⟩ := hN
  by_cases hn : N < 0
  · have e : Lib.itoa N = 45 :: Lib.decDigits N.natAbs := by unfold Lib.itoa; rw [if_pos hn]
    refine ⟨N.natAbs, by omega, ?_, ?_⟩
    · rw [e]; simp [signAt, dec_decFrom]
    · rw [e]; simp [signAt, valOf]; omega
  · have e : Lib.itoa N = Lib.decDigits N.toNat := by unfold Lib.itoa; rw [if_neg hn]
    have hs : signAt (Lib.decDigits N.toNat) = 0 := by
      unfold signAt
      cases hd : Lib.decDigits N.toNat with
      | nil => rfl
      | cons c r =>
        have := dec_digit N.toNat c (by rw [hd]; exact List.mem_cons_self ..)
        have hc : c ≠ 45 := by rintro rfl; revert this; decide
        simp [hc]
    refine ⟨N.toNat, by omega, ?_, ?_⟩
    · rw [e, hs]; simp [dec_decFrom]
    · rw [e, hs]; simp [valOf]; omega
/-- Digits that go wrong at one place are those of no integer. -/
theorem none_at {a : Bs} {i p : Nat} {c : UInt8} (hp : Lib.decFrom 0 ((a.drop (signAt a)).take i) = some p) (hc : (a.drop (signAt a))[i]? = some c) (hbad : Lib.digitVal c = none ∨ ∃ d, Lib.digitVal c = some d ∧ 9223372036854775808 < p * 10 + d) {N : Int} (hN : I64 N) : Lib.itoa N ≠ a := by
  rintro rfl
  obtain ⟨u, hu, hd, -⟩ := itoa_dig hN
  generalize (Lib.itoa N).drop (signAt (Lib.itoa N)) = l at *
  have hi : i < l.length := (List.getElem?_eq_some_iff.1 hc).1
  have hl : l = l.take i ++ (c :: l.drop (i + 1)) := by
    have h1 : l.drop i = c :: l.drop (i + 1) := by
      rw [List.drop_eq_getElem_cons hi]
      congr 1
      exact (List.getElem?_eq_some_iff.1 hc).2
    rw [← h1, List.take_append_drop]
  rw [hl, decFrom_append, hp] at hd
  simp only [Option.bind_some, Lib.decFrom] at hd
  rcases hbad with h | ⟨d, h, h2⟩
  · rw [h] at hd; cases hd
  · rw [h] at hd
    have := decFrom_ge _ _ _ hd
    omega
/-- Digits whose number has another decimal form are those of no integer. -/
theorem none_form2 {a : Bs} {p : Nat} (hp : Lib.decFrom 0 (a.drop (signAt a)) = some p) (hbad : ¬ I64 (valOf (signAt a) p) ∨ Lib.itoa (valOf (signAt a) p) ≠ a) {N : Int} (hN : I64 N) : Lib.itoa N ≠ a := by
  rintro rfl
  obtain ⟨u, hu, hd, hv⟩ := itoa_dig hN
  rw [hp] at hd
  obtain rfl := Option.some.inj hd
  rw [← hv] at hbad
  rcases hbad with h | h
  · exact h hN
  · exact h rfl
/-- No mark within reach: no number. -/
theorem none_scan {m : UInt8} {t : Bs} {j : Nat} (hm : Mark m) (hs : ∀ x ∈ t.take j, x ≠ m) (he : t.length ≤ j ∨ 21 ≤ j) : Dec (serNum m) I64 t none := by
  refine Dec.no fun n r hn e => ?_
  have hl := itoa_len hn
  have hlt : (Lib.itoa n).length < j := by
    have := congrArg List.length e
    simp [serNum] at this
    omega
  have hget : (t.take j)[(Lib.itoa n).length]? = some m := by
    rw [List.getElem?_take_of_lt hlt, e]
    simp [serNum]
  exact hs m (List.mem_of_getElem? hget) rfl
theorem none_word {m : UInt8} {a r : Bs} (hm : Mark m) (ha : m ∉ a) (h : ∀ N, I64 N → Lib.itoa N ≠ a) : Dec (serNum m) I64 (a ++ m :: r) none := Dec.no fun n t hn e =>
  h n hn (split_at_mark (hm.not_mem n) ha (show Lib.itoa n ++ m :: t = a ++ m :: r by rw [e]; simp [serNum])).1
theorem scan_split {m : UInt8} {s : Bs} {k i : Nat} (hki : k ≤ i) (hg : s[i]? = some m) : s.drop k = (s.drop k).take (i - k) ++ m :: s.drop (i + 1) := by
  have hi : i < s.length := (List.getElem?_eq_some_iff.1 hg).1
  have h1 : (s.drop k).drop (i - k) = m :: s.drop (i + 1) := by
    rw [List.drop_drop, show k + (i - k) = i by omega, List.drop_eq_getElem_cons hi]
    congr 1
    exact (List.getElem?_eq_some_iff.1 hg).2
  rw [← h1, List.take_append_drop]
theorem scan_next {m : UInt8} {s : Bs} {k i : Nat} {c : UInt8} (hki : k ≤ i) (hg : s[i]? = some c) (hc : c ≠ m) (h : ∀ x ∈ (s.drop k).take (i - k), x ≠ m) : ∀ x ∈ (s.drop k).take (i + 1 - k), x ≠ m := by
  rw [show i + 1 - k = (i - k) + 1 by omega, List.take_add_one, List.getElem?_drop, show k + (i - k) = i by omega, hg]
  intro x hx
  rcases List.mem_append.1 hx with hx | hx
  · exact h x hx
  · simp at hx; subst hx; exact hc
theorem dig_next {l : Bs} {i p d : Nat} {c : UInt8} (hp : Lib.decFrom 0 (l.take i) = some p) (hc : l[i]? = some c) (hd : Lib.digitVal c = some d) : Lib.decFrom 0 (l.take (i + 1)) = some (p * 10 + d) := Lib.decFrom_take l i 0 p c d hp hc hd
theorem bytes_mid (s : Bs) (k i : Nat) : (⟨s.toArray⟩ : ByteArray).extract k i = ⟨((s.drop k).take (i - k)).toArray⟩ := by
  apply ByteArray.ext
  simp

end Go.Proofs.YtckhbejgkgpilaaDoor
