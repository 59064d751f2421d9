/- The reference of layer 4. -/
import Derived.Test.YtblpalhnjkfjoaaChk
set_option linter.all false
namespace Go.Proofs.Ytblpalhnjkfjoaa
open Go Go.RowKit Go.Shelf

theorem byte_at (s : Bs) (k : Nat) (c : UInt8) (h : s[k]? = some c) (hk : k < (⟨s.toArray⟩ : ByteArray).size) : (⟨s.toArray⟩ : ByteArray)[k] = c := by
  show s.toArray[k] = c
  have hk : k < s.length := (List.getElem?_eq_some_iff.1 h).1
  have hc : s[k] = c := (List.getElem?_eq_some_iff.1 h).2
  simpa using hc

theorem step_Xi {s : Bs} {q X d : Nat} {c : UInt8} (h : s[q]? = some c) (hX2 : hX (s.take q ++ [c]) = stX X c) (hd : d = c.toNat) :
    Value.int .i64 ((48271 * (X : Int) + (d : Int) + 1) % 2147483647) = .int .i64 (hX (s.take (q + 1)) : Nat) := by
  rw [take_snoc h, hX2, hd]
  unfold stX
  simp
theorem step_Yi {s : Bs} {q Y d : Nat} {c : UInt8} (h : s[q]? = some c) (hY2 : hY (s.take q ++ [c]) = stY Y c) (hd : d = c.toNat) :
    Value.int .i64 ((40692 * (Y : Int) + (d : Int) + 1) % 2147483629) = .int .i64 (hY (s.take (q + 1)) : Nat) := by
  rw [take_snoc h, hY2, hd]
  unfold stY
  simp

set_option maxRecDepth 100000 in
set_option maxHeartbeats 1000000 in
theorem rof_calls (s : Bs) (hs : s.length ≤ 9223372036854775807) (w : World) :
    Calls Try.prog 12 #[.string ⟨s.toArray⟩] w fun e w' => e = .returned (.string ⟨(dig s).toArray⟩) ∧ Ext w w' := by
  have hsz := bytes_size s
  obtain ⟨m, hm⟩ : ∃ m, m = s.length := ⟨_, rfl⟩
  rw [← hm] at hs hsz
  have Hm := Lib.hid hm
  clear hm
  go_enter Try.func12, Try.ntmps12
  go_wp2_with fail
  go_loop [3, 4, 5] (fun x y j => ∃ q : Nat, q ≤ m ∧ j = .int .i64 (q : Int) ∧ x = .int .i64 (hX (s.take q) : Nat) ∧ y = .int .i64 (hY (s.take q) : Nat)) (fun _ _ j => m - (intOf j).toNat)
  case atStart => exact ⟨0, Nat.zero_le _, rfl, rfl, rfl⟩
  case round =>
    obtain ⟨q, hq, rfl, rfl, rfl⟩ := hrel
    by_cases hqm : q < m
    · obtain ⟨c, hcc⟩ : ∃ c, s[q]? = some c := ⟨_, List.getElem?_eq_getElem (by rw [← Hm.out]; exact hqm)⟩
      obtain ⟨d, hd⟩ : ∃ d, d = c.toNat := ⟨_, rfl⟩
      have hbc : ((⟨s.toArray⟩ : ByteArray)[q]'(by omega)).toNat = d := by rw [byte_at s q c hcc (by omega), hd]
      have Hcc := Lib.hid hcc
      have hX1 := hX_lt (s.take q)
      have hY1 := hY_lt (s.take q)
      have hc1 := c.toNat_lt
      rw [← hd] at hc1
      have hw1 : wrap64 (d : Int) = (d : Int) := by unfold wrap64; omega
      have Hd := Lib.hid hd
      have HX2 := Lib.hid (hX_snoc (s.take q) c)
      have HY2 := Lib.hid (hY_snoc (s.take q) c)
      obtain ⟨X, hXe⟩ : ∃ X, X = hX (s.take q) := ⟨_, rfl⟩
      obtain ⟨Y, hYe⟩ : ∃ Y, Y = hY (s.take q) := ⟨_, rfl⟩
      rw [← hXe] at hX1 HX2 ⊢
      rw [← hYe] at hY1 HY2 ⊢
      clear hcc hXe hYe hd
      go_wp2_with fail
      go_round
      case rel => exact ⟨q + 1, by omega, by go_num, step_Xi Hcc.out HX2.out Hd.out, step_Yi Hcc.out HY2.out Hd.out⟩
      case measure => simp [intOf]; omega
    · have hqm' : q = m := by omega
      subst hqm'
      have ht : s.take q = s := List.take_of_length_le (by rw [← Hm.out]; exact Nat.le_refl _)
      rw [ht]
      clear ht
      have hX1 := hX_lt s
      have hY1 := hY_lt s
      have hcat : (⟨(b4 (hX s)).toArray⟩ : ByteArray) ++ ⟨(b4 (hY s)).toArray⟩ = ⟨(dig s).toArray⟩ := bytes_append _ _
      have h8 : ¬ (9223372036854775807 < (b4 (hX s)).length + (b4 (hY s)).length) := by rw [b4_length, b4_length]; decide
      have hb1 := bytes_size (b4 (hX s))
      have hb2 := bytes_size (b4 (hY s))
      have HX1 : Hid (hX s < 4294967296) := Nat.lt_trans hX1 (by decide)
      have HY1 : Hid (hY s < 4294967296) := Nat.lt_trans hY1 (by decide)
      have Hcat := Lib.hid hcat
      clear hX1 hY1 hcat
      go_wp2_with fail
      refine (bytes4_calls _ HX1.out _).mono ?_
      rintro e w1 ⟨rfl, hx1⟩
      go_wp2_with fail
      refine (bytes4_calls _ HY1.out _).mono ?_
      rintro e w2 ⟨rfl, hx2⟩
      go_wp2_with fail
      go_ret
      exact ⟨by rw [Hcat.out]; rfl, hx1.trans hx2⟩

theorem chain_cat (a b : Bs) : (⟨#[1]⟩ : ByteArray) ++ ⟨(b4 a.length).toArray⟩ ++ ⟨a.toArray⟩ ++ ⟨b.toArray⟩ = ⟨(chainL a b).toArray⟩ := by
  rw [show (⟨#[1]⟩ : ByteArray) = ⟨[(1 : UInt8)].toArray⟩ from rfl, bytes_append, bytes_append, bytes_append]
  rfl
theorem mark_cat (k m : Bs) : (⟨#[2]⟩ : ByteArray) ++ ⟨(b4 k.length).toArray⟩ ++ ⟨k.toArray⟩ ++ ⟨m.toArray⟩ ++ ⟨k.toArray⟩ = ⟨(markL k m).toArray⟩ := by
  rw [show (⟨#[2]⟩ : ByteArray) = ⟨[(2 : UInt8)].toArray⟩ from rfl, bytes_append, bytes_append, bytes_append, bytes_append]
  rfl

set_option maxRecDepth 100000 in
set_option maxHeartbeats 1000000 in
theorem rchain_calls (a b : Bs) (ha : a.length < 100000) (hb : b.length < 100000) (w : World) :
    Calls Try.prog 14 #[.string ⟨a.toArray⟩, .string ⟨b.toArray⟩] w fun e w' => e = .returned (.string ⟨(dig (chainL a b)).toArray⟩) ∧ Ext w w' := by
  have hsa := bytes_size a
  have hsb := bytes_size b
  have hs1 : (⟨#[1]⟩ : ByteArray).size = 1 := rfl
  have hs4 := bytes_size (b4 a.length)
  rw [b4_length] at hs4
  have HL : Hid ((chainL a b).length ≤ 9223372036854775807) := by show (chainL a b).length ≤ _; simp [chainL, b4_length]; omega
  have HA : Hid (a.length < 4294967296) := by show a.length < _; omega
  go_enter Try.func14, Try.ntmps14
  go_wp2_with fail
  refine (bytes4_calls _ HA.out _).mono ?_
  rintro e w1 ⟨rfl, hx1⟩
  go_wp2_with fail
  rw [chain_cat]
  refine (rof_calls _ HL.out _).mono ?_
  rintro e w2 ⟨rfl, hx2⟩
  go_wp2_with fail
  go_ret
  exact ⟨rfl, hx1.trans hx2⟩

set_option maxRecDepth 100000 in
set_option maxHeartbeats 1000000 in
theorem rmark_calls (k m : Bs) (hk : k.length < 100000) (hm : m.length < 100000) (w : World) :
    Calls Try.prog 15 #[.string ⟨k.toArray⟩, .string ⟨m.toArray⟩] w fun e w' => e = .returned (.string ⟨(dig (markL k m)).toArray⟩) ∧ Ext w w' := by
  have hsa := bytes_size k
  have hsb := bytes_size m
  have hs1 : (⟨#[2]⟩ : ByteArray).size = 1 := rfl
  have hs4 := bytes_size (b4 k.length)
  rw [b4_length] at hs4
  have HL : Hid ((markL k m).length ≤ 9223372036854775807) := by show (markL k m).length ≤ _; simp [markL, b4_length]; omega
  have HA : Hid (k.length < 4294967296) := by show k.length < _; omega
  go_enter Try.func15, Try.ntmps15
  go_wp2_with fail
  refine (bytes4_calls _ HA.out _).mono ?_
  rintro e w1 ⟨rfl, hx1⟩
  go_wp2_with fail
  rw [mark_cat]
  refine (rof_calls _ HL.out _).mono ?_
  rintro e w2 ⟨rfl, hx2⟩
  go_wp2_with fail
  go_ret
  exact ⟨rfl, hx1.trans hx2⟩

theorem beqL (x d : Bs) : (x == d) = decide (x = d) := by
  by_cases h : x = d <;> simp [h]

set_option maxRecDepth 100000 in
set_option maxHeartbeats 1000000 in
theorem rcheck_calls (k m x : Bs) (hk : k.length < 100000) (hm : m.length < 100000) (w : World) :
    Calls Try.prog 17 #[.string ⟨k.toArray⟩, .string ⟨m.toArray⟩, .string ⟨x.toArray⟩] w fun e w' => e = .returned (.bool (decide (k ≠ [] ∧ x = dig (markL k m)))) ∧ Ext w w' := by
  by_cases h0 : k = []
  · have hr : decide (k ≠ [] ∧ x = dig (markL k m)) = false := by simp [h0]
    rw [hr]
    have hke : List.isEmpty k = true := by simp [h0]
    clear hr h0
    go_enter Try.func17, Try.ntmps17
    go_wp2_with fail
    go_ret
    exact ⟨rfl, Ext.refl _⟩
  · have hr : decide (k ≠ [] ∧ x = dig (markL k m)) = decide (x = dig (markL k m)) := by simp [h0]
    rw [hr]
    have hke : List.isEmpty k = false := by simpa using h0
    have HM := Lib.hid (rmark_calls k m hk hm)
    obtain ⟨d, hd⟩ : ∃ d, d = dig (markL k m) := ⟨_, rfl⟩
    rw [← hd] at HM ⊢
    clear hr hk hm hd
    go_enter Try.func17, Try.ntmps17
    go_wp2_with fail
    refine (HM.out _).mono ?_
    rintro e w2 ⟨rfl, hx2⟩
    go_wp2_with fail
    go_ret
    exact ⟨by rw [← beqL]; rfl, hx2⟩

end Go.Proofs.Ytblpalhnjkfjoaa
