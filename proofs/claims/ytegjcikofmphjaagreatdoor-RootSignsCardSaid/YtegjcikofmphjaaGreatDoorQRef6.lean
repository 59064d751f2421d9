/- Texts that belong together. -/
import Derived.Test.YtegjcikofmphjaaGreatDoorQRef5
set_option linter.all false
/- The reference of layer 1: plus. -/
namespace Go.Proofs.YtegjcikofmphjaaGreatDoor
open Go Go.RowKit Go.Shelf
def plusC (xs ys : List Nat) : Nat → Nat
  | 0 => 0
  | k + 1 => (plusC xs ys k + xs[k]?.getD 0 + ys[k]?.getD 0) / B32
def plusD (xs ys : List Nat) (k : Nat) : Nat := (plusC xs ys k + xs[k]?.getD 0 + ys[k]?.getD 0) % B32
def plusL (xs ys : List Nat) : Nat → List Nat
  | 0 => []
  | k + 1 => plusL xs ys k ++ [plusD xs ys k]
theorem plusL_length (xs ys : List Nat) (k : Nat) : (plusL xs ys k).length = k := by
  induction k with
  | zero => rfl
  | succ k ih => rw [plusL, List.length_append, ih]; rfl
theorem plusC_le {xs ys : List Nat} (hx : Digits xs) (hy : Digits ys) (k : Nat) : plusC xs ys k ≤ 1 := by
  induction k with
  | zero => simp [plusC]
  | succ k ih =>
    have h1 := hx.getD k
    have h2 := hy.getD k
    rw [plusC]
    unfold B32 at *
    omega
theorem plusL_digits (xs ys : List Nat) (k : Nat) : Digits (plusL xs ys k) := by
  induction k with
  | zero => exact Digits.nil
  | succ k ih => rw [plusL]; exact ih.append fun d hd => by rw [List.mem_singleton.1 hd]; exact Nat.mod_lt _ B32_pos
theorem plusL_val (xs ys : List Nat) (k : Nat) : val (plusL xs ys k) + B32 ^ k * plusC xs ys k = val (xs.take k) + val (ys.take k) := by
  induction k with
  | zero => simp [plusL, plusC, val]
  | succ k ih =>
    rw [plusL, val_snoc, plusL_length, val_take_succ, val_take_succ]
    have h := Nat.mod_add_div (plusC xs ys k + xs[k]?.getD 0 + ys[k]?.getD 0) B32
    have h2 : B32 ^ k * ((plusC xs ys k + xs[k]?.getD 0 + ys[k]?.getD 0) % B32 + B32 * ((plusC xs ys k + xs[k]?.getD 0 + ys[k]?.getD 0) / B32)) = B32 ^ k * (plusC xs ys k + xs[k]?.getD 0 + ys[k]?.getD 0) := by rw [h]
    rw [plusD, plusC, Nat.pow_succ]
    rw [Nat.mul_add, Nat.mul_add, Nat.mul_add] at h2
    rw [Nat.mul_assoc]
    generalize (plusC xs ys k + xs[k]?.getD 0 + ys[k]?.getD 0) % B32 = u at *
    generalize (plusC xs ys k + xs[k]?.getD 0 + ys[k]?.getD 0) / B32 = v at *
    omega
theorem plusL_done {xs ys : List Nat} {k : Nat} (h1 : xs.length ≤ k) (h2 : ys.length ≤ k) (h : plusC xs ys k = 0) : val (plusL xs ys k) = val xs + val ys := by
  have := plusL_val xs ys k
  rw [h, Nat.mul_zero, val_take_all h1, val_take_all h2] at this
  exact this
theorem plusC_end {xs ys : List Nat} {k : Nat} (hx : Digits xs) (hy : Digits ys) (h1 : xs.length ≤ k) (h2 : ys.length ≤ k) : plusC xs ys (k + 1) = 0 := by
  have := plusC_le hx hy k
  rw [plusC, getD_of_ge h1, getD_of_ge h2]
  unfold B32
  omega
set_option maxRecDepth 100000 in
set_option maxHeartbeats 8000000 in
theorem plus_calls (v u : Value) (xs ys : List Nat) (w : World) (hx : U32s w.heap.size w v xs) (hy : U32s w.heap.size w u ys) (hdx : Digits xs) (hdy : Digits ys) (hbx : xs.length ≤ 1099511627776) (hby : ys.length ≤ 1099511627776) :
    Calls Tryz.prog 73 #[v, u] w fun e w' => ∃ r, e = .returned r ∧ U32s w'.heap.size w' r (digs (val xs + val ys)) ∧ Ext w w' ∧ NewS w.heap.size r := by
  obtain ⟨p, cap, rfl, hl, hc⟩ := hx
  obtain ⟨q, cap2, rfl, hl2, hc2⟩ := hy
  obtain ⟨n, hn⟩ : ∃ n, n = xs.length := ⟨_, rfl⟩
  obtain ⟨m, hm⟩ : ∃ m, m = ys.length := ⟨_, rfl⟩
  rw [← hn] at hbx ⊢
  rw [← hm] at hby ⊢
  have Hc := Lib.hid hc
  have Hc2 := Lib.hid hc2
  have Hn := Lib.hid hn
  have Hm := Lib.hid hm
  have Hdx := Lib.hid hdx
  have Hdy := Lib.hid hdy
  obtain ⟨i0, hi, hz0, hz1, hz2⟩ := info_parts info_u32
  clear hc hc2 hl hl2 hn hm hdx hdy
  go_enter Tryz.func73, Tryz.ntmps73
  go_wp2
  go_loopw [5, 6, 7] (fun v c i wr => ∃ k : Nat, i = .int .i64 (k : Int) ∧ c = .int .u64 (plusC xs ys k : Nat) ∧ k ≤ max n m + 1 ∧ Owns wr w.heap.size v (plusL xs ys k) ∧ Ext w wr) (fun _ _ i _ => max n m + 1 - (intOf i).toNat)
  case atStart => exact ⟨0, rfl, rfl, by omega, Owns.nil _ _, Ext.refl _⟩
  case round =>
    obtain ⟨k, rfl, rfl, hk, ho, hB⟩ := hrel
    have HB := Lib.hid hB
    have hsz := Below.size hB
    have hcle := plusC_le Hdx.out Hdy.out k
    have hL := plusL_length xs ys k
    obtain ⟨pv, cv, rfl, hcv⟩ := ho.shape
    rw [hL] at ho hcv ⊢
    have Ho := Lib.hid ho
    have hown : ∀ o, (wr.alloc o).ownsRow w.heap.size 87 1 (.slice pv k cv) k (u32l (plusL xs ys k)) := fun o => by
      have h := ho.alloc o
      unfold Owns at h
      rw [hL] at h; exact h
    have Hown := Lib.hid hown
    have HL := Lib.hid hL
    clear hL ho hown hB
    obtain ⟨c, hcc⟩ : ∃ c, c = plusC xs ys k := ⟨_, rfl⟩
    rw [← hcc] at hcle ⊢
    have Hcc := Lib.hid hcc
    clear hcc
    by_cases h1 : k < n
    · by_cases h2 : k < m
      · have hnl := Hn.out
        obtain ⟨b, off, rfl, hb, hcs⟩ := Hc.out (by omega)
        have hx1 := (Below.cell HB.out (p := ⟨b, off + k, none⟩) hb).trans (hcs k (by omega))
        have hg1 : (k : Int) < (n : Int) := by omega
        have hml := Hm.out
        obtain ⟨b2, off2, rfl, hb2, hcs2⟩ := Hc2.out (by omega)
        have hy1 := (Below.cell HB.out (p := ⟨b2, off2 + k, none⟩) hb2).trans (hcs2 k (by omega))
        have hg2 : (k : Int) < (m : Int) := by omega
        obtain ⟨x, hx⟩ : ∃ x, x = xs[k]?.getD 0 := ⟨_, rfl⟩
        obtain ⟨y, hy⟩ : ∃ y, y = ys[k]?.getD 0 := ⟨_, rfl⟩
        have hxB := Hdx.out.getD k
        have hyB := Hdy.out.getD k
        rw [← hx] at hx1
        rw [← hy] at hy1
        rw [← hx] at hxB
        rw [← hy] at hyB
        obtain ⟨S, hS⟩ : ∃ S : Nat, S = c + x + y := ⟨_, rfl⟩
        obtain ⟨d, hd⟩ : ∃ d : Nat, d = S % B32 := ⟨_, rfl⟩
        obtain ⟨f, hf⟩ : ∃ f : Nat, f = S / B32 := ⟨_, rfl⟩
        have HD : Hid (d = plusD xs ys k) := by show d = _; rw [hd, hS, plusD, ← Hcc.out, hx, hy]
        have HC : Hid (plusC xs ys (k + 1) = f) := by show _ = f; rw [hf, hS, plusC, ← Hcc.out, hx, hy]
        unfold B32 at hxB hyB hd hf
        have hw1 : IntKind.u64.wrap ((c : Int) + (x : Int)) = (c : Int) + (x : Int) := by rw [IntKind.wrap_u64]; omega
        have hsum : (c : Int) + (x : Int) + (y : Int) = (S : Int) := by omega
        have hw2 : IntKind.u64.wrap (S : Int) = (S : Int) := by rw [IntKind.wrap_u64]; omega
        have hw3 : (S : Int) % 4294967296 = (d : Int) := by omega
        have hw4 : (S : Int) / 4294967296 = (f : Int) := by omega
        clear hx hy hS hf hd hcs hnl hcs2 hml
        go_wp2_with (at_builtin; refine wpList_append_own _ rfl (.tmp 46) (.tmp 49) 23 rfl w.heap.size 87 i0 (.int .u32 0) 1 4 Tryz.underlying23 hi hz0 hz1 hz2 rfl (by decide) _ _ _ rfl (Hown.out _) ⟨wr.heap.size, 0, none⟩ 1 1 [.int .u32 (d : Int)] rfl rfl (cell_one_own _ _ _) (by intro u hu; simp at hu; subst hu; rfl) (by unfold maxLen; omega) (by omega) (by simp; omega) ?_; intro v' w1 hown' hgrow _; obtain ⟨ho1, hb1, hs1⟩ := own_step Ho.out HL.out (by omega) hown' hgrow; have Ho1 := Lib.hid ho1; have Hb1 := Lib.hid hb1; clear hown' hgrow ho1 hb1)
        go_wp2
        go_roundw
        case rel => first | exact ⟨k + 1, by go_num, by rw [HC.out]; first | done | rfl, by omega, by rw [plusL, ← HD.out]; exact Ho1.out, Below.trans HB.out Hb1.out⟩ | ((repeat apply Exists.intro); exact ⟨⟨k + 1, by go_num, by rw [HC.out]; first | done | rfl, by omega, by rw [plusL, ← HD.out]; exact Ho1.out, Below.trans HB.out Hb1.out⟩, rfl⟩)
        case measure => simp [intOf]; omega
      · have hnl := Hn.out
        obtain ⟨b, off, rfl, hb, hcs⟩ := Hc.out (by omega)
        have hx1 := (Below.cell HB.out (p := ⟨b, off + k, none⟩) hb).trans (hcs k (by omega))
        have hg1 : (k : Int) < (n : Int) := by omega
        have hg2 : ¬ (k : Int) < (m : Int) := by omega
        obtain ⟨x, hx⟩ : ∃ x, x = xs[k]?.getD 0 := ⟨_, rfl⟩
        obtain ⟨y, hy⟩ : ∃ y, y = ys[k]?.getD 0 := ⟨_, rfl⟩
        have hxB := Hdx.out.getD k
        have hyB := Hdy.out.getD k
        rw [← hx] at hx1
        rw [← hx] at hxB
        rw [← hy] at hyB
        have hy0 : y = 0 := by rw [hy]; exact getD_of_ge (by have := Hm.out; omega)
        obtain ⟨S, hS⟩ : ∃ S : Nat, S = c + x + y := ⟨_, rfl⟩
        obtain ⟨d, hd⟩ : ∃ d : Nat, d = S % B32 := ⟨_, rfl⟩
        obtain ⟨f, hf⟩ : ∃ f : Nat, f = S / B32 := ⟨_, rfl⟩
        have HD : Hid (d = plusD xs ys k) := by show d = _; rw [hd, hS, plusD, ← Hcc.out, hx, hy]
        have HC : Hid (plusC xs ys (k + 1) = f) := by show _ = f; rw [hf, hS, plusC, ← Hcc.out, hx, hy]
        unfold B32 at hxB hyB hd hf
        have hsum : (c : Int) + (x : Int) = (S : Int) := by omega
        have hw2 : IntKind.u64.wrap (S : Int) = (S : Int) := by rw [IntKind.wrap_u64]; omega
        have hw3 : (S : Int) % 4294967296 = (d : Int) := by omega
        have hw4 : (S : Int) / 4294967296 = (f : Int) := by omega
        clear hx hy hS hf hd hcs hnl hy0
        go_wp2_with (at_builtin; refine wpList_append_own _ rfl (.tmp 46) (.tmp 49) 23 rfl w.heap.size 87 i0 (.int .u32 0) 1 4 Tryz.underlying23 hi hz0 hz1 hz2 rfl (by decide) _ _ _ rfl (Hown.out _) ⟨wr.heap.size, 0, none⟩ 1 1 [.int .u32 (d : Int)] rfl rfl (cell_one_own _ _ _) (by intro u hu; simp at hu; subst hu; rfl) (by unfold maxLen; omega) (by omega) (by simp; omega) ?_; intro v' w1 hown' hgrow _; obtain ⟨ho1, hb1, hs1⟩ := own_step Ho.out HL.out (by omega) hown' hgrow; have Ho1 := Lib.hid ho1; have Hb1 := Lib.hid hb1; clear hown' hgrow ho1 hb1)
        go_wp2
        go_roundw
        case rel => first | exact ⟨k + 1, by go_num, by rw [HC.out]; first | done | rfl, by omega, by rw [plusL, ← HD.out]; exact Ho1.out, Below.trans HB.out Hb1.out⟩ | ((repeat apply Exists.intro); exact ⟨⟨k + 1, by go_num, by rw [HC.out]; first | done | rfl, by omega, by rw [plusL, ← HD.out]; exact Ho1.out, Below.trans HB.out Hb1.out⟩, rfl⟩)
        case measure => simp [intOf]; omega
    · by_cases h2 : k < m
      · have hg1 : ¬ (k : Int) < (n : Int) := by omega
        have hml := Hm.out
        obtain ⟨b2, off2, rfl, hb2, hcs2⟩ := Hc2.out (by omega)
        have hy1 := (Below.cell HB.out (p := ⟨b2, off2 + k, none⟩) hb2).trans (hcs2 k (by omega))
        have hg2 : (k : Int) < (m : Int) := by omega
        obtain ⟨x, hx⟩ : ∃ x, x = xs[k]?.getD 0 := ⟨_, rfl⟩
        obtain ⟨y, hy⟩ : ∃ y, y = ys[k]?.getD 0 := ⟨_, rfl⟩
        have hxB := Hdx.out.getD k
        have hyB := Hdy.out.getD k
        rw [← hy] at hy1
        rw [← hx] at hxB
        rw [← hy] at hyB
        have hx0 : x = 0 := by rw [hx]; exact getD_of_ge (by have := Hn.out; omega)
        obtain ⟨S, hS⟩ : ∃ S : Nat, S = c + x + y := ⟨_, rfl⟩
        obtain ⟨d, hd⟩ : ∃ d : Nat, d = S % B32 := ⟨_, rfl⟩
        obtain ⟨f, hf⟩ : ∃ f : Nat, f = S / B32 := ⟨_, rfl⟩
        have HD : Hid (d = plusD xs ys k) := by show d = _; rw [hd, hS, plusD, ← Hcc.out, hx, hy]
        have HC : Hid (plusC xs ys (k + 1) = f) := by show _ = f; rw [hf, hS, plusC, ← Hcc.out, hx, hy]
        unfold B32 at hxB hyB hd hf
        have hsum : (c : Int) + (y : Int) = (S : Int) := by omega
        have hw2 : IntKind.u64.wrap (S : Int) = (S : Int) := by rw [IntKind.wrap_u64]; omega
        have hw3 : (S : Int) % 4294967296 = (d : Int) := by omega
        have hw4 : (S : Int) / 4294967296 = (f : Int) := by omega
        clear hx hy hS hf hd hx0 hcs2 hml
        go_wp2_with (at_builtin; refine wpList_append_own _ rfl (.tmp 46) (.tmp 49) 23 rfl w.heap.size 87 i0 (.int .u32 0) 1 4 Tryz.underlying23 hi hz0 hz1 hz2 rfl (by decide) _ _ _ rfl (Hown.out _) ⟨wr.heap.size, 0, none⟩ 1 1 [.int .u32 (d : Int)] rfl rfl (cell_one_own _ _ _) (by intro u hu; simp at hu; subst hu; rfl) (by unfold maxLen; omega) (by omega) (by simp; omega) ?_; intro v' w1 hown' hgrow _; obtain ⟨ho1, hb1, hs1⟩ := own_step Ho.out HL.out (by omega) hown' hgrow; have Ho1 := Lib.hid ho1; have Hb1 := Lib.hid hb1; clear hown' hgrow ho1 hb1)
        go_wp2
        go_roundw
        case rel => first | exact ⟨k + 1, by go_num, by rw [HC.out]; first | done | rfl, by omega, by rw [plusL, ← HD.out]; exact Ho1.out, Below.trans HB.out Hb1.out⟩ | ((repeat apply Exists.intro); exact ⟨⟨k + 1, by go_num, by rw [HC.out]; first | done | rfl, by omega, by rw [plusL, ← HD.out]; exact Ho1.out, Below.trans HB.out Hb1.out⟩, rfl⟩)
        case measure => simp [intOf]; omega
      · by_cases h3 : c = 0
        · subst h3
          have hg1 : ¬ (k : Int) < (n : Int) := by omega
          have hg2 : ¬ (k : Int) < (m : Int) := by omega
          have hdone : val (plusL xs ys k) = val xs + val ys := plusL_done (by have := Hn.out; omega) (by have := Hm.out; omega) Hcc.out.symm
          have hu := Ho.out.u32s (by rw [HL.out]; unfold maxLen; omega)
          have HT := Lib.hid (trim_digs HL.out hu (.inr hcv) (plusL_digits xs ys k))
          have Hdone := Lib.hid hdone
          have Ho2 : Hid (Owns wr w.heap.size (.slice pv k cv) _) := Ho.out
          clear hdone hu
          go_wp2_with fail
          refine HT.out.mono ?_
          rintro e w2 ⟨k2, rfl, -, -, hu2, hx2⟩
          have Hu2 := Lib.hid hu2
          have Hx2 := Lib.hid hx2
          clear hu2 hx2
          go_wp2
          go_ret
          exact ⟨_, rfl, by rw [← Hdone.out]; exact Hu2.out, HB.out.trans Hx2.out, (Owns.newS Ho2.out).cut⟩
        · have hg1 : ¬ (k : Int) < (n : Int) := by omega
          have hg2 : ¬ (k : Int) < (m : Int) := by omega
          obtain ⟨x, hx⟩ : ∃ x, x = xs[k]?.getD 0 := ⟨_, rfl⟩
          obtain ⟨y, hy⟩ : ∃ y, y = ys[k]?.getD 0 := ⟨_, rfl⟩
          have hxB := Hdx.out.getD k
          have hyB := Hdy.out.getD k
          rw [← hx] at hxB
          rw [← hy] at hyB
          have hx0 : x = 0 := by rw [hx]; exact getD_of_ge (by have := Hn.out; omega)
          have hy0 : y = 0 := by rw [hy]; exact getD_of_ge (by have := Hm.out; omega)
          obtain ⟨S, hS⟩ : ∃ S : Nat, S = c + x + y := ⟨_, rfl⟩
          obtain ⟨d, hd⟩ : ∃ d : Nat, d = S % B32 := ⟨_, rfl⟩
          obtain ⟨f, hf⟩ : ∃ f : Nat, f = S / B32 := ⟨_, rfl⟩
          have HD : Hid (d = plusD xs ys k) := by show d = _; rw [hd, hS, plusD, ← Hcc.out, hx, hy]
          have HC : Hid (plusC xs ys (k + 1) = f) := by show _ = f; rw [hf, hS, plusC, ← Hcc.out, hx, hy]
          unfold B32 at hxB hyB hd hf
          obtain rfl : d = c := by omega
          obtain rfl : f = 0 := by omega
          have hkm : k ≤ max n m := by
            by_cases e : k ≤ max n m
            · exact e
            · have hk1 : k = max n m + 1 := by omega
              have h := plusC_end (k := max n m) Hdx.out Hdy.out (by have := Hn.out; omega) (by have := Hm.out; omega)
              rw [← hk1, ← Hcc.out] at h
              omega
          have hg3 : (0 : Int) < (d : Int) := by omega
          have hw4 : (d : Int) / 4294967296 = 0 := by omega
          have hw3 : (d : Int) % 4294967296 = (d : Int) := by omega
          clear hx hy hS hf hd hx0 hy0
          go_wp2_with (at_builtin; refine wpList_append_own _ rfl (.tmp 46) (.tmp 49) 23 rfl w.heap.size 87 i0 (.int .u32 0) 1 4 Tryz.underlying23 hi hz0 hz1 hz2 rfl (by decide) _ _ _ rfl (Hown.out _) ⟨wr.heap.size, 0, none⟩ 1 1 [.int .u32 (d : Int)] rfl rfl (cell_one_own _ _ _) (by intro u hu; simp at hu; subst hu; rfl) (by unfold maxLen; omega) (by omega) (by simp; omega) ?_; intro v' w1 hown' hgrow _; obtain ⟨ho1, hb1, hs1⟩ := own_step Ho.out HL.out (by omega) hown' hgrow; have Ho1 := Lib.hid ho1; have Hb1 := Lib.hid hb1; clear hown' hgrow ho1 hb1)
          go_wp2
          go_roundw
          case rel => first | exact ⟨k + 1, by go_num, by rw [HC.out]; first | done | rfl, by omega, by rw [plusL, ← HD.out]; exact Ho1.out, Below.trans HB.out Hb1.out⟩ | ((repeat apply Exists.intro); exact ⟨⟨k + 1, by go_num, by rw [HC.out]; first | done | rfl, by omega, by rw [plusL, ← HD.out]; exact Ho1.out, Below.trans HB.out Hb1.out⟩, rfl⟩)
          case measure => simp [intOf]; omega
end Go.Proofs.YtegjcikofmphjaaGreatDoor

