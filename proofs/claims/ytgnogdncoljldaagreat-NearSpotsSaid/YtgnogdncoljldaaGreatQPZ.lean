import Derived.Laws.Concat
import Derived.Lib.ItoaLen
import Derived.ArgAppend
import Derived.WalkSpells
import Derived.Test.YtgnogdncoljldaaGreatQP6
set_option linter.all false
namespace Go.Proofs.YtgnogdncoljldaaGreat
open Go Go.RowKit Go.Shelf
def prodL (L : Nat) (xs ys : List Nat) : Nat → List Nat
 | 0 => List.replicate L 0
 | i + 1 => line (xs[i]?.getD 0) i ys (prodL L xs ys i)
theorem prodL_length (L : Nat) (xs ys : List Nat) (k : Nat) : (prodL L xs ys k).length = L := by
 induction k with
 | zero => simp [prodL]
 | succ k ih => rw [prodL, line_length, ih]
theorem prodL_digits {L : Nat} {xs ys : List Nat} (hx : Digits xs) (hy : Digits ys) (k : Nat) : Digits (prodL L xs ys k) := by
 induction k with
 | zero => exact digits_replicate _
 | succ k ih => exact line_digits (hx.getD k) hy ih
theorem prodL_zero (L : Nat) (xs ys : List Nat) (k j : Nat) (hj : k + ys.length ≤ j) : (prodL L xs ys k)[j]?.getD 0 = 0 := by
 induction k with
 | zero =>
   show (List.replicate L 0)[j]?.getD 0 = 0
   rw [List.getElem?_replicate]; split <;> rfl
 | succ k ih =>
   show (line _ k ys (prodL L xs ys k))[j]?.getD 0 = 0
   rw [line_zero j (by omega), ih (by omega)]
theorem prodL_val {L : Nat} (xs ys : List Nat) (k : Nat) (hk : k ≤ xs.length) (h : xs.length + ys.length ≤ L) : val (prodL L xs ys k) = val (xs.take k) * val ys := by
 induction k with
 | zero => simp [prodL, val_zeros, val]
 | succ k ih =>
   show val (line _ k ys (prodL L xs ys k)) = _
   rw [line_val (by rw [prodL_length]; omega) (prodL_zero _ _ _ _ _ (Nat.le_refl _)), ih (by omega), val_take_succ, Nat.add_mul, Nat.mul_assoc]
def stT (p i : Nat) (ys row : List Nat) (k : Nat) : Nat × List Nat := if k ≤ ys.length then lineTo p i ys row k else (0, line p i ys row)
theorem cast_sum (c r x y : Nat) : ((c : Int) + (r : Int) + (x : Int) * (y : Int)) / 4294967296 = (((c + (x * y + r)) / B32 : Nat) : Int) ∧ ((c : Int) + (r : Int) + (x : Int) * (y : Int)) % 4294967296 = (((c + (x * y + r)) % B32 : Nat) : Int) := by
 unfold B32
 rw [← Int.natCast_mul]
 generalize x * y = t
 omega
set_option maxRecDepth 100000 in
set_option maxHeartbeats 8000000 in
theorem rtimes_calls (v u : Value) (xs ys : List Nat) (w : World) (hx : U32s w.heap.size w v xs) (hy : U32s w.heap.size w u ys) (hdx : Digits xs) (hdy : Digits ys) (hnx : xs.length ≤ 64) (hny : ys.length ≤ 64) :
  Calls Tryz.prog 178 #[v, u] w fun e w' => ∃ r, e = .returned r ∧ U32s w'.heap.size w' r (digs (val xs * val ys)) ∧ Ext w w' := by
 obtain ⟨p, cap, rfl, hl, hc⟩ := hx
 obtain ⟨q, cap2, rfl, hl2, hc2⟩ := hy
 have Hc := Lib.hid hc
 have Hc2 := Lib.hid hc2
 obtain ⟨n, hn⟩ : ∃ n, n = xs.length := ⟨_, rfl⟩
 obtain ⟨m, hm⟩ : ∃ m, m = ys.length := ⟨_, rfl⟩
 rw [← hn] at hnx
 rw [← hm] at hny
 have Hn := Lib.hid hn
 have Hm := Lib.hid hm
 rw [← hn, ← hm]
 obtain ⟨L, hL⟩ : ∃ L, L = n + m + 1 := ⟨_, rfl⟩
 have HL := Lib.hid hL
 have hLI : (n : Int) + (m : Int) + 1 = (L : Int) := by omega
 have hLb : L ≤ 129 := by omega
 have hln : ∀ i, prodL L xs ys (i + 1) = (lineTo (xs[i]?.getD 0) i ys (prodL L xs ys i) m).2.set (i + m) (lineTo (xs[i]?.getD 0) i ys (prodL L xs ys i) m).1 := fun i => by rw [hm]; rfl
 have Hln := Lib.hid hln
 clear hc hc2 hl hl2 hn hm hln hL
 have HLI := Lib.hid hLI
 clear hLI
 go_enter Tryz.func178, Tryz.ntmps178
 go_wp2_with (refine make_row rfl (.tmp 14) (.tmp 14) rfl L (by first | rfl | (show Value.int .i64 _ = _; rw [HLI.out])) (by first | rfl | (show Value.int .i64 _ = _; rw [HLI.out])) (by omega) ?_)
 go_loopw [6] (fun i wr => ∃ k : Nat, k ≤ n ∧ i = .int .i64 k ∧ RowAt wr w.heap.size 118 (arr (prodL L xs ys k)) ∧ Ext w wr) (fun i _ => n - (intOf i).toNat)
 case atStart => exact ⟨0, Nat.zero_le _, rfl, by rw [prodL]; exact RowAt.new _ _ _, Ext.alloc _ _⟩
 case round =>
  obtain ⟨i, hi, rfl, hr5, hB⟩ := hrel
  obtain ⟨wo, hwo⟩ : ∃ wo : World, wo = wr := ⟨_, rfl⟩
  rw [← hwo] at hr5 hB ⊢
  clear hwo wr
  have hL2 := HL.out
  by_cases hlt : i < n
  ·obtain ⟨b, off, rfl, hbB, hcs⟩ := Hc.out (by rw [← Hn.out]; exact Nat.lt_of_le_of_lt (Nat.zero_le _) hlt)
   have Hcx := Lib.hid (hcs i (by rw [← Hn.out]; exact hlt))
   have HbB := Lib.hid hbB
   clear hcs hbB
   have Hl := Lib.hid (Hln.out i)
   have Hz := Lib.hid (prodL_zero L xs ys i)
   have hp := hdx.getD i
   have HD := Lib.hid (prodL_digits (L := L) hdx hdy i)
   have Hlen := Lib.hid (prodL_length L xs ys i)
   generalize xs[i]?.getD 0 = x at *
   generalize hP : prodL L xs ys i = P at *
   have HP := Lib.hid hP
   have Hp := Lib.hid hp
   have HR5 := Lib.hid hr5
   have HBB := Lib.hid hB
   clear hp hP hr5 hB hL2
   go_wp2
   go_loopw [7, 8] (fun c j wr => ∃ k : Nat, k ≤ m + 1 ∧ j = .int .i64 k ∧ c = .int .u64 ((stT x i ys P k).1 : Nat) ∧ RowAt wr w.heap.size 118 (arr (stT x i ys P k).2) ∧ Ext w wr) (fun _ j _ => m + 1 - (intOf j).toNat)
   case atStart => exact ⟨0, Nat.zero_le _, rfl, by unfold stT; rw [if_pos (Nat.zero_le _)]; rfl, by unfold stT; rw [if_pos (Nat.zero_le _)]; exact HR5.out, HBB.out⟩
   case round =>
    obtain ⟨k, hk, rfl, rfl, hr5, hB⟩ := hrel
    have hL2 := HL.out
    by_cases hkm : k < m
    ·have e0 : stT x i ys P k = lineTo x i ys P k := by unfold stT; rw [if_pos (by rw [← Hm.out]; omega)]
     have e1 : stT x i ys P (k + 1) = lineTo x i ys P (k + 1) := by unfold stT; rw [if_pos (by rw [← Hm.out]; omega)]
     rw [e0] at hr5 ⊢
     have He1 := Lib.hid e1
     clear e0 e1
     obtain ⟨hb1, hb2⟩ := lineTo_bounds (i := i) Hp.out hdy HD.out k
     have hll := lineTo_length x i ys P k
     rw [Hlen.out] at hll
     obtain ⟨b2, off2, rfl, hbB2, hcs2⟩ := Hc2.out (by rw [← Hm.out]; exact Nat.lt_of_le_of_lt (Nat.zero_le _) hkm)
     have hcy := (hB.cell (p := ⟨b2, off2 + k, none⟩) hbB2).trans (hcs2 k (by rw [← Hm.out]; exact hkm))
     have hcx := (hB.cell (p := ⟨b, off + i, none⟩) HbB.out).trans Hcx.out
     clear hcs2
     have hyk := hdy.getD k
     have hmul := mul_bound Hp.out hyk
     have hrk := hb2.getD (i + k)
     have hcr := (hr5.cell (i + k)).trans (arr_get _ (i + k) (by rw [hll]; omega))
     have hfr := hr5.frozen (i + k)
     have hs1 : (lineTo x i ys P (k + 1)).1 = ((lineTo x i ys P k).1 + (x * ys[k]?.getD 0 + (lineTo x i ys P k).2[i + k]?.getD 0)) / B32 := rfl
     have hs2 : (lineTo x i ys P (k + 1)).2 = (lineTo x i ys P k).2.set (i + k) (((lineTo x i ys P k).1 + (x * ys[k]?.getD 0 + (lineTo x i ys P k).2[i + k]?.getD 0)) % B32) := rfl
     generalize (lineTo x i ys P k).2[i + k]?.getD 0 = r at *
     generalize ys[k]?.getD 0 = y at *
     generalize lineTo x i ys P k = st at *
     obtain ⟨c, row⟩ := st
     dsimp only at *
     have Hs1 := Lib.hid hs1
     have Hs2 := Lib.hid hs2
     have Hr5 := Lib.hid hr5
     have Hll := Lib.hid hll
     have HB := Lib.hid hB
     have hx' := Hp.out
     have hik : (i : Int) + (k : Int) < (L : Int) := by omega
     unfold B32 at hx' hyk hrk hb1
     have hmul' : (x : Int) * (y : Int) ≤ 18446744065119617025 := by rw [← Int.natCast_mul]; generalize x * y = t at hmul; clear hs1 hs2 Hs1 Hs2; omega
     have hmul0 : 0 ≤ (x : Int) * (y : Int) := Int.mul_nonneg (by omega) (by omega)
     have hw1 : IntKind.u64.wrap ((x : Int) * (y : Int)) = (x : Int) * (y : Int) := by rw [IntKind.wrap_u64]; omega
     have hw2 : IntKind.u64.wrap ((c : Int) + (r : Int)) = (c : Int) + (r : Int) := by rw [IntKind.wrap_u64]; omega
     have hw3 : IntKind.u64.wrap ((c : Int) + (r : Int) + (x : Int) * (y : Int)) = (c : Int) + (r : Int) + (x : Int) * (y : Int) := by rw [IntKind.wrap_u64]; omega
     have hkI : (k : Int) < (m : Int) := by omega
     have hiI : (i : Int) < (n : Int) := by omega
     have hik0 : 0 ≤ (i : Int) + (k : Int) := by omega
     clear hs1 hs2 hr5 hll hb2 hmul hL2 hB hbB2
     go_wp2_with fail
     go_quiet (fail)
     have hcr' : (wr.drewN nq).cell? ⟨w.heap.size, i + k, none⟩ = some (.int .u32 (r : Int)) := hcr
     have hfr' : (wr.drewN nq).frozen? ⟨w.heap.size, i + k, none⟩ = false := hfr
     have HR6 := Lib.hid (show RowAt (wr.drewN nq) w.heap.size _ _ from Hr5.out)
     have HB6 := Lib.hid (HB.out.trans (Ext.drewN wr nq))
     clear hcr hfr hcx hcy
     go_wp2
     go_roundw
     case rel =>
      rw [(cast_sum c r x y).1, (cast_sum c r x y).2]
      refine ⟨k + 1, by omega, by rw [Int.natCast_add]; rfl, by rw [He1.out, Hs1.out], by rw [He1.out, Hs2.out, ← arr_set]; exact HR6.out.set (i + k) _, ?_⟩
      exact HB6.out.setCell (p := ⟨w.heap.size, i + k, none⟩) (Nat.le_refl _) _
     case measure => show m + 1 - ((k : Int) + 1).toNat < m + 1 - ((k : Int)).toNat; omega
    ·have hkI : ¬ (k : Int) < (m : Int) := by omega
     obtain ⟨hb1, hb2⟩ := lineTo_bounds (i := i) Hp.out hdy HD.out m
     have hll := lineTo_length x i ys P m
     rw [Hlen.out] at hll
     have hz := Hz.out (i + m) (by rw [← Hm.out]; omega)
     have hg0 := lineTo_get (p := x) (i := i) (ys := ys) (row := P) m (i + m) (Nat.le_refl _)
     have hrz : (lineTo x i ys P m).2[i + m]?.getD 0 = 0 := by rw [hg0]; exact hz
     have hline : line x i ys P = (lineTo x i ys P m).2.set (i + m) (lineTo x i ys P m).1 := by unfold line; rw [← Hm.out]
     have hpl := Hl.out
     by_cases hkm1 : k = m
     ·subst hkm1
      have e0 : stT x i ys P k = lineTo x i ys P k := by unfold stT; rw [if_pos (by rw [← Hm.out]; omega)]
      have e1 : stT x i ys P (k + 1) = (0, line x i ys P) := by unfold stT; rw [if_neg (by rw [← Hm.out]; omega)]
      rw [e0] at hr5 ⊢
      rw [hline] at e1
      have He1 := Lib.hid e1
      clear e0 e1 hz hg0 hline
      have hcr := (hr5.cell (i + k)).trans (arr_get _ (i + k) (by rw [hll]; omega))
      have hfr := hr5.frozen (i + k)
      rw [hrz] at hcr
      have hset0 : (lineTo x i ys P k).1 = 0 → (lineTo x i ys P k).2.set (i + k) 0 = (lineTo x i ys P k).2 := fun _ => by
       apply List.ext_getElem?
       intro j
       by_cases hj : j = i + k
       ·subst hj
        rw [List.getElem?_set_self (by rw [hll]; omega)]
        have h1 : i + k < (lineTo x i ys P k).2.length := by rw [hll]; omega
        rw [List.getElem?_eq_getElem h1] at hrz ⊢
        simpa using hrz.symm
       ·rw [List.getElem?_set_ne (by omega)]
      generalize lineTo x i ys P k = st at *
      obtain ⟨c, row⟩ := st
      dsimp only at *
      have Hr5 := Lib.hid hr5
      have Hset0 := Lib.hid hset0
      have Hpl := Lib.hid hpl
      have HB := Lib.hid hB
      unfold B32 at hb1
      have hik : (i : Int) + (k : Int) < (L : Int) := by omega
      have hik0 : 0 ≤ (i : Int) + (k : Int) := by omega
      clear hr5 hll hb2 hset0 hpl hB hrz hL2
      by_cases hc0 : c = 0
      ·subst hc0
       go_wp2
       go_roundw
       case rel => exact ⟨i + 1, by omega, by rw [Int.natCast_add]; rfl, by rw [Hpl.out, Hset0.out rfl]; exact Hr5.out, HB.out⟩
       case measure => show n - ((i : Int) + 1).toNat < n - ((i : Int)).toNat; omega
      ·have hcI : (0 : Int) < (c : Int) := by omega
       go_wp2
       go_roundw
       case rel =>
        refine ⟨k + 1, by omega, by rw [Int.natCast_add]; rfl, ?_, ?_, HB.out.setCell (p := ⟨w.heap.size, i + k, none⟩) (Nat.le_refl _) _⟩
        ·rw [He1.out]; show Value.int .u64 ((c : Int) / 4294967296) = .int .u64 ((0 : Nat) : Int); rw [show (c : Int) / 4294967296 = 0 by omega]; rfl
        ·rw [He1.out]; show RowAt _ _ _ (arr (row.set (i + k) c)); rw [← arr_set]; exact Hr5.out.set (i + k) _
       case measure => show k + 1 - ((k : Int) + 1).toNat < k + 1 - ((k : Int)).toNat; omega
     ·obtain rfl : k = m + 1 := by omega
      have e0 : stT x i ys P (m + 1) = (0, line x i ys P) := by unfold stT; rw [if_neg (by rw [← Hm.out]; omega)]
      rw [e0] at hr5 ⊢
      rw [hline, ← hpl] at hr5
      have Hr5 := Lib.hid hr5
      have HB := Lib.hid hB
      clear e0 hr5 hll hb1 hb2 hB hrz hL2 hpl hz hg0 hline
      go_wp2
      go_roundw
      case rel => exact ⟨i + 1, by omega, by rw [Int.natCast_add]; rfl, Hr5.out, HB.out⟩
      case measure => show n - ((i : Int) + 1).toNat < n - ((i : Int)).toNat; omega
  ·obtain rfl : i = n := by omega
   have hlen := prodL_length L xs ys i
   have hu := u32s_row (B := wo.heap.size) (cap := L) (L := L) hr5 hr5.lt (by rw [hlen]; exact Nat.le_refl _) (by rw [hlen]; unfold maxLen; omega)
   have hv : val (prodL L xs ys i) = val xs * val ys := by rw [prodL_val xs ys i (by rw [← Hn.out]; exact Nat.le_refl _) (by rw [← Hn.out, ← Hm.out]; omega), val_take_all (by rw [← Hn.out]; exact Nat.le_refl _)]
   have hd := prodL_digits (L := L) hdx hdy i
   rw [List.take_of_length_le (by rw [hlen]; exact Nat.le_refl _)] at hu
   have Htr := Lib.hid (trim_digs (p := some ⟨w.heap.size, 0, none⟩) (cap := L) (n := L) (w := wo) hlen hu (.inr (Nat.le_refl _)) hd)
   have HV := Lib.hid hv
   have HB := Lib.hid hB
   clear hlen hu hv hd hr5 hB hL2
   go_wp2_with fail
   refine Htr.out.mono ?_
   rintro e w1 ⟨kk, rfl, -, -, hu, hx⟩
   rw [HV.out] at hu
   go_wp2
   go_ret
   exact ⟨_, rfl, hu, HB.out.trans hx⟩
end Go.Proofs.YtgnogdncoljldaaGreat
namespace Go.Proofs.YtgnogdncoljldaaGreat
open Go Go.RowKit Go.Shelf
theorem eql_nil {ops : Array Oper} {rest : List Oper} {o : Oper} {b : Act} {w : World} {Q : Exit → Act → World → Prop} (hgd : o.guard = none) (x y : Operand) (ho : o.op = .binOp .eql 34 x y 34) (a : Option Addr) (n c : Nat) (hx : b.eval x = .slice a n c) (hy : b.eval y = .slice none 0 0)
  (h : wpList Tryz.prog ops Q rest (b.put o.dst (.bool a.isNone)) w) : wpList Tryz.prog ops Q (o :: rest) b w := by
 refine wpList_plain hgd fun K hK => wp_of_run (v := .bool a.isNone) ?_ (hK _ _ h)
 have h1 := Lib.run_eql_slice_nil (P := Tryz.prog) w 34 118 a n c
 unfold execOp
 simp only [ho, hx, hy]
 simp [go_sem, h1, Tryz.underlying34]
set_option maxRecDepth 100000 in
theorem clone_nil (c : Nat) (w : World) : Calls Tryz.prog 200 #[.slice none 0 c] w fun e w' => e = .returned (.slice none 0 0) ∧ Ext w w' := by
 go_enter Tryz.func200, Tryz.ntmps200
 go_wp2_with (refine eql_nil rfl (.tmp 3) _ rfl _ _ _ rfl rfl ?_)
 go_ret
 exact ⟨rfl, Ext.refl _⟩
set_option maxRecDepth 100000 in
set_option maxHeartbeats 2000000 in
theorem clone_some (ad : Addr) (c : Nat) (ds : List Nat) (w : World) (hcs : ∀ j, j < ds.length → (Addr.add ad j).block < w.heap.size ∧ w.cell? (Addr.add ad j) = some (.int .u32 (ds.getD j 0 : Nat))) (hm : ds.length ≤ 64) :
  Calls Tryz.prog 200 #[.slice (some ad) ds.length c] w fun e w' => ∃ p c', e = .returned (.slice p ds.length c') ∧ U32s w'.heap.size w' (.slice p ds.length c') ds ∧ Ext w w' := by
 obtain ⟨i0, hi, hz0, hz1, hz2⟩ := info_parts info_u32
 obtain ⟨n, hn⟩ : ∃ n, n = ds.length := ⟨_, rfl⟩
 rw [← hn] at hm hcs ⊢
 obtain ⟨news, hnews⟩ : ∃ news, news = u32l ds := ⟨_, rfl⟩
 have hnl : news.length = n := by rw [hnews, u32l_length, hn]
 have Hc1 : Hid (∀ o (j : Nat) (u : Value), news[j]? = some u → (w.alloc o).cell? (Addr.add ad j) = some u) := fun o j u hj => by
  have hj' : j < n := by have := (List.getElem?_eq_some_iff.1 hj).1; omega
  obtain ⟨hb, hc⟩ := hcs j hj'
  have e1 : (w.alloc o).cell? (Addr.add ad j) = w.cell? (Addr.add ad j) := (Ext.alloc w o).cell (p := Addr.add ad j) hb
  rw [hnews, u32l_get (by rw [← hn]; exact hj')] at hj
  rw [e1, hc, ← hj, List.getD_eq_getElem?_getD]
 have Hc2 : Hid (∀ u ∈ news, u.oneCell' = true) := by rw [hnews]; exact u32l_one _
 have Hnews := Lib.hid hnews
 have Hn := Lib.hid hn
 clear hcs hnews hn
 have hown : (w.alloc (.cells #[] 118)).ownsRow w.heap.size 118 1 (.slice (some ⟨w.heap.size, 0, none⟩) 0 0) 0 [] := World.ownsRow_lit w #[] 0 (Nat.le_refl _) (by decide) rfl
 have Hown := Lib.hid hown
 clear hown
 go_enter Tryz.func200, Tryz.ntmps200
 go_wp2_with (first | (refine eql_nil rfl (.tmp 3) _ rfl _ _ _ rfl rfl ?_) | (at_builtin; refine wpList_append_own _ rfl (.tmp 5) (.tmp 6) 34 rfl w.heap.size 118 i0 (.int .u32 0) 1 4 Tryz.underlying34 hi hz0 hz1 hz2 rfl (by decide) _ _ _ rfl Hown.out ad n c news rfl (by rw [hnl, Nat.mul_one]) (Hc1.out _) Hc2.out (by unfold maxLen; omega) (by omega) (by simp) ?_; intro v' w2 hown' hgrow _; have H1 := Lib.hid hown'; have H2 := Lib.hid hgrow; clear hown' hgrow))
 go_ret
 have ho : Owns w2 w.heap.size v' ds := by
  have h := H1.out
  rw [Nat.zero_add, List.nil_append, Hnews.out, Hn.out] at h
  exact h
 obtain ⟨p, c', rfl, -⟩ := ho.shape
 rw [Hn.out]
 exact ⟨p, c', rfl, ho.u32s (by rw [← Hn.out]; unfold maxLen; omega), ext_grown H2.out⟩
theorem clone_ok (v : Value) (ds : List Nat) (w : World) (h : U32s w.heap.size w v ds) (hm : ds.length ≤ 64) :
  Calls Tryz.prog 200 #[v] w fun e w' => ∃ p c', e = .returned (.slice p ds.length c') ∧ U32s w'.heap.size w' (.slice p ds.length c') ds ∧ Ext w w' := by
 obtain ⟨q, cap, rfl, hl, hc⟩ := h
 rcases q with _ | ⟨b, off, spot⟩
 ·by_cases h0 : 0 < ds.length
  ·obtain ⟨b, off, e, -⟩ := hc h0
   cases e
  ·obtain rfl : ds = [] := List.length_eq_zero_iff.1 (by omega)
   refine (clone_nil cap w).mono fun e w' ⟨he, hx⟩ => ⟨none, 0, he, ⟨none, 0, rfl, by decide, fun h => absurd h (by simp)⟩, hx⟩
 ·refine clone_some ⟨b, off, spot⟩ cap ds w (fun j hj => ?_) hm
  obtain ⟨b', off', e, hb, hcs⟩ := hc (by omega)
  cases e
  exact ⟨by rw [show Addr.add ⟨b, off, none⟩ j = ⟨b, off + j, none⟩ by simp [Addr.add]]; exact hb, by rw [show Addr.add ⟨b, off, none⟩ j = ⟨b, off + j, none⟩ by simp [Addr.add]]; exact hcs j hj⟩
end Go.Proofs.YtgnogdncoljldaaGreat

