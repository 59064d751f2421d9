/- Texts that belong together. -/
import Derived.Test.YtegjcikofmphjaaGreatDoorQRef6
set_option linter.all false
/- The reference of layer 1: minus. (Written by gen_minus.py.) -/
namespace Go.Proofs.YtegjcikofmphjaaGreatDoor
open Go Go.RowKit Go.Shelf
def minC (xs ys : List Nat) : Nat → Nat
  | 0 => 0
  | k + 1 => if xs[k]?.getD 0 < minC xs ys k + ys[k]?.getD 0 then 1 else 0
def minD (xs ys : List Nat) (k : Nat) : Nat := if xs[k]?.getD 0 < minC xs ys k + ys[k]?.getD 0 then xs[k]?.getD 0 + B32 - (minC xs ys k + ys[k]?.getD 0) else xs[k]?.getD 0 - (minC xs ys k + ys[k]?.getD 0)
def minL (xs ys : List Nat) : Nat → List Nat
  | 0 => []
  | k + 1 => minL xs ys k ++ [minD xs ys k]
theorem minL_length (xs ys : List Nat) (k : Nat) : (minL xs ys k).length = k := by
  induction k with
  | zero => rfl
  | succ k ih => rw [minL, List.length_append, ih]; rfl
theorem minC_le (xs ys : List Nat) (k : Nat) : minC xs ys k ≤ 1 := by
  cases k with
  | zero => simp [minC]
  | succ k => rw [minC]; split <;> omega
theorem minD_lt {xs ys : List Nat} (hx : Digits xs) (hy : Digits ys) (k : Nat) : minD xs ys k < B32 := by
  have h1 := hx.getD k
  have h2 := hy.getD k
  have h3 := minC_le xs ys k
  unfold minD
  split <;> omega
theorem minL_digits {xs ys : List Nat} (hx : Digits xs) (hy : Digits ys) (k : Nat) : Digits (minL xs ys k) := by
  induction k with
  | zero => exact Digits.nil
  | succ k ih => rw [minL]; exact ih.append fun d hd => by rw [List.mem_singleton.1 hd]; exact minD_lt hx hy k
theorem minL_val {xs ys : List Nat} (hx : Digits xs) (hy : Digits ys) (k : Nat) : val (minL xs ys k) + val (ys.take k) = val (xs.take k) + B32 ^ k * minC xs ys k := by
  induction k with
  | zero => simp [minL, minC, val]
  | succ k ih =>
    rw [minL, val_snoc, minL_length, val_take_succ, val_take_succ, Nat.pow_succ]
    have h1 := hx.getD k
    have h2 := hy.getD k
    have h3 := minC_le xs ys k
    have h : minD xs ys k + (minC xs ys k + ys[k]?.getD 0) = xs[k]?.getD 0 + B32 * minC xs ys (k + 1) := by
      rw [minC]; unfold minD
      split <;> omega
    have h5 : B32 ^ k * (minD xs ys k + (minC xs ys k + ys[k]?.getD 0)) = B32 ^ k * (xs[k]?.getD 0 + B32 * minC xs ys (k + 1)) := by rw [h]
    rw [Nat.mul_add, Nat.mul_add, Nat.mul_add] at h5
    rw [Nat.mul_assoc]
    omega
theorem minL_done {xs ys : List Nat} (hx : Digits xs) (hy : Digits ys) (hl : ys.length ≤ xs.length) (hle : val ys ≤ val xs) : val (minL xs ys xs.length) = val xs - val ys := by
  have h := minL_val hx hy xs.length
  rw [val_take_all (Nat.le_refl _), val_take_all hl] at h
  have h1 := val_lt (minL_digits hx hy xs.length)
  rw [minL_length] at h1
  have h2 := minC_le xs ys xs.length
  rcases Nat.eq_zero_or_pos (minC xs ys xs.length) with e | e
  · rw [e, Nat.mul_zero] at h; omega
  · have e1 : minC xs ys xs.length = 1 := by omega
    rw [e1, Nat.mul_one] at h; omega
set_option maxRecDepth 100000 in
set_option maxHeartbeats 8000000 in
theorem minus_calls (v u : Value) (xs ys : List Nat) (w : World) (hx : U32s w.heap.size w v xs) (hy : U32s w.heap.size w u ys) (hdx : Digits xs) (hdy : Digits ys) (hbx : xs.length ≤ 1099511627776) (hly : ys.length ≤ xs.length) (hle : val ys ≤ val xs) :
    Calls Tryz.prog 72 #[v, u] w fun e w' => ∃ r, e = .returned r ∧ U32s w'.heap.size w' r (digs (val xs - val ys)) ∧ Ext w w' ∧ NewS w.heap.size r := by
  obtain ⟨p, cap, rfl, hl, hc⟩ := hx
  obtain ⟨q, cap2, rfl, hl2, hc2⟩ := hy
  have Hdone := Lib.hid (minL_done hdx hdy hly hle)
  obtain ⟨n, hn⟩ : ∃ n, n = xs.length := ⟨_, rfl⟩
  obtain ⟨m, hm⟩ : ∃ m, m = ys.length := ⟨_, rfl⟩
  rw [← hn] at hbx ⊢
  rw [← hm] at hly ⊢
  rw [← hn] at hly
  have Hc := Lib.hid hc
  have Hc2 := Lib.hid hc2
  have Hn := Lib.hid hn
  have Hm := Lib.hid hm
  have Hdx := Lib.hid hdx
  have Hdy := Lib.hid hdy
  obtain ⟨i0, hi, hz0, hz1, hz2⟩ := info_parts info_u32
  clear hc hc2 hl hl2 hn hm hdx hdy hle
  go_enter Tryz.func72, Tryz.ntmps72
  go_wp2
  go_loopw [5, 6, 7] (fun v c i wr => ∃ k : Nat, i = .int .i64 (k : Int) ∧ c = .int .u64 (minC xs ys k : Nat) ∧ k ≤ n ∧ Owns wr w.heap.size v (minL xs ys k) ∧ Ext w wr) (fun _ _ i _ => n - (intOf i).toNat)
  case atStart => exact ⟨0, rfl, rfl, by omega, Owns.nil _ _, Ext.refl _⟩
  case round =>
    obtain ⟨k, rfl, rfl, hk, ho, hB⟩ := hrel
    have HB := Lib.hid hB
    have hsz := Below.size hB
    have hcle := minC_le xs ys k
    have hL := minL_length xs ys k
    obtain ⟨pv, cv, rfl, hcv⟩ := ho.shape
    rw [hL] at ho hcv ⊢
    have Ho := Lib.hid ho
    have hown : ∀ o, (wr.alloc o).ownsRow w.heap.size 87 1 (.slice pv k cv) k (u32l (minL xs ys k)) := fun o => by
      have h := ho.alloc o
      unfold Owns at h
      rw [hL] at h; exact h
    have Hown := Lib.hid hown
    have HL := Lib.hid hL
    clear hL ho hown hB
    obtain ⟨c, hcc⟩ : ∃ c, c = minC xs ys k := ⟨_, rfl⟩
    rw [← hcc] at hcle ⊢
    have Hcc := Lib.hid hcc
    clear hcc
    by_cases h1 : k < n
    · by_cases h2 : k < m
      · have hnl := Hn.out
        obtain ⟨b, off, rfl, hb, hcs⟩ := Hc.out (by omega)
        have hx1 := (Below.cell HB.out (p := ⟨b, off + k, none⟩) hb).trans (hcs k (by omega))
        have hg1 : (k : Int) < (n : Int) := by omega
        have hml := Hm.out
        obtain ⟨b2, off2, rfl, hb2, hcs2⟩ := Hc2.out (by omega)
        have hy1 := (Below.cell HB.out (p := ⟨b2, off2 + k, none⟩) hb2).trans (hcs2 k (by omega))
        have hg2 : (k : Int) < (m : Int) := by omega
        obtain ⟨x, hx⟩ : ∃ x, x = xs[k]?.getD 0 := ⟨_, rfl⟩
        obtain ⟨y, hy⟩ : ∃ y, y = ys[k]?.getD 0 := ⟨_, rfl⟩
        have hxB := Hdx.out.getD k
        have hyB := Hdy.out.getD k
        rw [← hx] at hx1 hxB
        rw [← hy] at hyB hy1
        obtain ⟨s, hs⟩ : ∃ s : Nat, s = c + y := ⟨_, rfl⟩
        have hsel : xs[k]?.getD 0 < minC xs ys k + ys[k]?.getD 0 ↔ x < s := by rw [← hx, ← hy, ← Hcc.out, hs]
        unfold B32 at hxB hyB
        by_cases hb3 : x < s
        · have hsum : (c : Int) + (y : Int) = (s : Int) := by omega
          have hw1 : IntKind.u64.wrap (s : Int) = (s : Int) := by rw [IntKind.wrap_u64]; omega
          obtain ⟨d, hd⟩ : ∃ d : Nat, d = x + 4294967296 - s := ⟨_, rfl⟩
          have hlt : (x : Int) < (s : Int) := by omega
          have hw2 : IntKind.u64.wrap ((x : Int) + 4294967296) = (x : Int) + 4294967296 := by rw [IntKind.wrap_u64]; omega
          have hw3 : (x : Int) + 4294967296 - (s : Int) = (d : Int) := by omega
          have HC : Hid (minC xs ys (k + 1) = 1) := by show _ = 1; rw [minC, if_pos (hsel.2 hb3)]
          have HD : Hid (d = minD xs ys k) := by show d = _; rw [minD, if_pos (hsel.2 hb3), hd, ← hx, ← hy, ← Hcc.out]; unfold B32; omega
          have hw4 : IntKind.u64.wrap (d : Int) = (d : Int) := by rw [IntKind.wrap_u64]; omega
          have hw5 : (d : Int) % 4294967296 = (d : Int) := by omega
          have hdl : d ≤ 4294967295 := by omega
          clear hx hy hs hd hsel hcs hnl hcs2 hml
          go_wp2_with (at_builtin; refine wpList_append_own _ rfl (.tmp 38) (.tmp 43) 23 rfl w.heap.size 87 i0 (.int .u32 0) 1 4 Tryz.underlying23 hi hz0 hz1 hz2 rfl (by decide) _ _ _ rfl (Hown.out _) ⟨wr.heap.size, 0, none⟩ 1 1 [.int .u32 (d : Int)] rfl rfl (cell_one_own _ _ _) (by intro u hu; simp at hu; subst hu; rfl) (by unfold maxLen; omega) (by omega) (by simp; omega) ?_; intro v' w1 hown' hgrow _; obtain ⟨ho1, hb1, hs1⟩ := own_step Ho.out HL.out (by omega) hown' hgrow; have Ho1 := Lib.hid ho1; have Hb1 := Lib.hid hb1; clear hown' hgrow ho1 hb1)
          go_wp2
          go_roundw
          case rel => first | exact ⟨k + 1, by go_num, by rw [HC.out]; first | done | rfl, by omega, by rw [minL, ← HD.out]; exact Ho1.out, Below.trans HB.out Hb1.out⟩ | ((repeat apply Exists.intro); exact ⟨⟨k + 1, by go_num, by rw [HC.out]; first | done | rfl, by omega, by rw [minL, ← HD.out]; exact Ho1.out, Below.trans HB.out Hb1.out⟩, rfl⟩)
          case measure => simp [intOf]; omega
        · have hsum : (c : Int) + (y : Int) = (s : Int) := by omega
          have hw1 : IntKind.u64.wrap (s : Int) = (s : Int) := by rw [IntKind.wrap_u64]; omega
          obtain ⟨d, hd⟩ : ∃ d : Nat, d = x - s := ⟨_, rfl⟩
          have hlt : ¬ (x : Int) < (s : Int) := by omega
          have hw3 : (x : Int) - (s : Int) = (d : Int) := by omega
          have HC : Hid (minC xs ys (k + 1) = 0) := by show _ = 0; rw [minC, if_neg (fun h => hb3 (hsel.1 h))]
          have HD : Hid (d = minD xs ys k) := by show d = _; rw [minD, if_neg (fun h => hb3 (hsel.1 h)), hd, ← hx, ← hy, ← Hcc.out]; omega
          have hw4 : IntKind.u64.wrap (d : Int) = (d : Int) := by rw [IntKind.wrap_u64]; omega
          have hw5 : (d : Int) % 4294967296 = (d : Int) := by omega
          have hdl : d ≤ 4294967295 := by omega
          clear hx hy hs hd hsel hcs hnl hcs2 hml
          go_wp2_with (at_builtin; refine wpList_append_own _ rfl (.tmp 38) (.tmp 43) 23 rfl w.heap.size 87 i0 (.int .u32 0) 1 4 Tryz.underlying23 hi hz0 hz1 hz2 rfl (by decide) _ _ _ rfl (Hown.out _) ⟨wr.heap.size, 0, none⟩ 1 1 [.int .u32 (d : Int)] rfl rfl (cell_one_own _ _ _) (by intro u hu; simp at hu; subst hu; rfl) (by unfold maxLen; omega) (by omega) (by simp; omega) ?_; intro v' w1 hown' hgrow _; obtain ⟨ho1, hb1, hs1⟩ := own_step Ho.out HL.out (by omega) hown' hgrow; have Ho1 := Lib.hid ho1; have Hb1 := Lib.hid hb1; clear hown' hgrow ho1 hb1)
          go_wp2
          go_roundw
          case rel => first | exact ⟨k + 1, by go_num, by rw [HC.out]; first | done | rfl, by omega, by rw [minL, ← HD.out]; exact Ho1.out, Below.trans HB.out Hb1.out⟩ | ((repeat apply Exists.intro); exact ⟨⟨k + 1, by go_num, by rw [HC.out]; first | done | rfl, by omega, by rw [minL, ← HD.out]; exact Ho1.out, Below.trans HB.out Hb1.out⟩, rfl⟩)
          case measure => simp [intOf]; omega
      · have hnl := Hn.out
        obtain ⟨b, off, rfl, hb, hcs⟩ := Hc.out (by omega)
        have hx1 := (Below.cell HB.out (p := ⟨b, off + k, none⟩) hb).trans (hcs k (by omega))
        have hg1 : (k : Int) < (n : Int) := by omega
        have hg2 : ¬ (k : Int) < (m : Int) := by omega
        obtain ⟨x, hx⟩ : ∃ x, x = xs[k]?.getD 0 := ⟨_, rfl⟩
        obtain ⟨y, hy⟩ : ∃ y, y = ys[k]?.getD 0 := ⟨_, rfl⟩
        have hxB := Hdx.out.getD k
        have hyB := Hdy.out.getD k
        rw [← hx] at hx1 hxB
        rw [← hy] at hyB
        have hy0 : y = 0 := by rw [hy]; exact getD_of_ge (by have := Hm.out; omega)
        obtain ⟨s, hs⟩ : ∃ s : Nat, s = c + y := ⟨_, rfl⟩
        have hsel : xs[k]?.getD 0 < minC xs ys k + ys[k]?.getD 0 ↔ x < s := by rw [← hx, ← hy, ← Hcc.out, hs]
        unfold B32 at hxB hyB
        by_cases hb3 : x < s
        · obtain rfl : s = c := by omega
          obtain ⟨d, hd⟩ : ∃ d : Nat, d = x + 4294967296 - s := ⟨_, rfl⟩
          have hlt : (x : Int) < (s : Int) := by omega
          have hw2 : IntKind.u64.wrap ((x : Int) + 4294967296) = (x : Int) + 4294967296 := by rw [IntKind.wrap_u64]; omega
          have hw3 : (x : Int) + 4294967296 - (s : Int) = (d : Int) := by omega
          have HC : Hid (minC xs ys (k + 1) = 1) := by show _ = 1; rw [minC, if_pos (hsel.2 hb3)]
          have HD : Hid (d = minD xs ys k) := by show d = _; rw [minD, if_pos (hsel.2 hb3), hd, ← hx, ← hy, ← Hcc.out]; unfold B32; omega
          have hw4 : IntKind.u64.wrap (d : Int) = (d : Int) := by rw [IntKind.wrap_u64]; omega
          have hw5 : (d : Int) % 4294967296 = (d : Int) := by omega
          have hdl : d ≤ 4294967295 := by omega
          clear hx hy hs hd hsel hcs hnl hy0
          go_wp2_with (at_builtin; refine wpList_append_own _ rfl (.tmp 38) (.tmp 43) 23 rfl w.heap.size 87 i0 (.int .u32 0) 1 4 Tryz.underlying23 hi hz0 hz1 hz2 rfl (by decide) _ _ _ rfl (Hown.out _) ⟨wr.heap.size, 0, none⟩ 1 1 [.int .u32 (d : Int)] rfl rfl (cell_one_own _ _ _) (by intro u hu; simp at hu; subst hu; rfl) (by unfold maxLen; omega) (by omega) (by simp; omega) ?_; intro v' w1 hown' hgrow _; obtain ⟨ho1, hb1, hs1⟩ := own_step Ho.out HL.out (by omega) hown' hgrow; have Ho1 := Lib.hid ho1; have Hb1 := Lib.hid hb1; clear hown' hgrow ho1 hb1)
          go_wp2
          go_roundw
          case rel => first | exact ⟨k + 1, by go_num, by rw [HC.out]; first | done | rfl, by omega, by rw [minL, ← HD.out]; exact Ho1.out, Below.trans HB.out Hb1.out⟩ | ((repeat apply Exists.intro); exact ⟨⟨k + 1, by go_num, by rw [HC.out]; first | done | rfl, by omega, by rw [minL, ← HD.out]; exact Ho1.out, Below.trans HB.out Hb1.out⟩, rfl⟩)
          case measure => simp [intOf]; omega
        · obtain rfl : s = c := by omega
          obtain ⟨d, hd⟩ : ∃ d : Nat, d = x - s := ⟨_, rfl⟩
          have hlt : ¬ (x : Int) < (s : Int) := by omega
          have hw3 : (x : Int) - (s : Int) = (d : Int) := by omega
          have HC : Hid (minC xs ys (k + 1) = 0) := by show _ = 0; rw [minC, if_neg (fun h => hb3 (hsel.1 h))]
          have HD : Hid (d = minD xs ys k) := by show d = _; rw [minD, if_neg (fun h => hb3 (hsel.1 h)), hd, ← hx, ← hy, ← Hcc.out]; omega
          have hw4 : IntKind.u64.wrap (d : Int) = (d : Int) := by rw [IntKind.wrap_u64]; omega
          have hw5 : (d : Int) % 4294967296 = (d : Int) := by omega
          have hdl : d ≤ 4294967295 := by omega
          clear hx hy hs hd hsel hcs hnl hy0
          go_wp2_with (at_builtin; refine wpList_append_own _ rfl (.tmp 38) (.tmp 43) 23 rfl w.heap.size 87 i0 (.int .u32 0) 1 4 Tryz.underlying23 hi hz0 hz1 hz2 rfl (by decide) _ _ _ rfl (Hown.out _) ⟨wr.heap.size, 0, none⟩ 1 1 [.int .u32 (d : Int)] rfl rfl (cell_one_own _ _ _) (by intro u hu; simp at hu; subst hu; rfl) (by unfold maxLen; omega) (by omega) (by simp; omega) ?_; intro v' w1 hown' hgrow _; obtain ⟨ho1, hb1, hs1⟩ := own_step Ho.out HL.out (by omega) hown' hgrow; have Ho1 := Lib.hid ho1; have Hb1 := Lib.hid hb1; clear hown' hgrow ho1 hb1)
          go_wp2
          go_roundw
          case rel => first | exact ⟨k + 1, by go_num, by rw [HC.out]; first | done | rfl, by omega, by rw [minL, ← HD.out]; exact Ho1.out, Below.trans HB.out Hb1.out⟩ | ((repeat apply Exists.intro); exact ⟨⟨k + 1, by go_num, by rw [HC.out]; first | done | rfl, by omega, by rw [minL, ← HD.out]; exact Ho1.out, Below.trans HB.out Hb1.out⟩, rfl⟩)
          case measure => simp [intOf]; omega
    · obtain rfl : k = n := by omega
      have hg1 : ¬ (k : Int) < (k : Int) := by omega
      have hdone : val (minL xs ys k) = val xs - val ys := by have h := Hdone.out; rw [← Hn.out] at h; exact h
      have hu := Ho.out.u32s (by rw [HL.out]; unfold maxLen; omega)
      have HT := Lib.hid (trim_digs HL.out hu (.inr hcv) (minL_digits Hdx.out Hdy.out k))
      have Hdone2 := Lib.hid hdone
      have Ho2 : Hid (Owns wr w.heap.size (.slice pv k cv) _) := Ho.out
      clear hdone hu
      go_wp2_with fail
      refine HT.out.mono ?_
      rintro e w2 ⟨k2, rfl, -, -, hu2, hx2⟩
      have Hu2 := Lib.hid hu2
      have Hx2 := Lib.hid hx2
      clear hu2 hx2
      go_wp2
      go_ret
      exact ⟨_, rfl, by rw [← Hdone2.out]; exact Hu2.out, HB.out.trans Hx2.out, (Owns.newS Ho2.out).cut⟩
end Go.Proofs.YtegjcikofmphjaaGreatDoor

