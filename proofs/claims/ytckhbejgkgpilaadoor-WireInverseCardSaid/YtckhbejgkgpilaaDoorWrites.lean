/- The walk of WireWrites. (Written by gen_wri.py.) -/
import Derived.Test.YtckhbejgkgpilaaDoorRefW
set_option linter.all false
namespace Go.Proofs.YtckhbejgkgpilaaDoor
open Go Go.RowKit Go.Shelf

theorem SlOf.cut {α : Type} {enc : α → Value} {S : Nat → Prop} {w : World} {p : Option Addr} {n cap : Nat} {xs : List α} (h : SlOf enc S w (.slice p n cap) xs) (k : Nat) : SlOf enc S w (.slice p (min n k) cap) (xs.take k) := by
  obtain ⟨p', cap', e, hl, hc⟩ := h
  cases e
  have hlen : (xs.take k).length = min xs.length k := by rw [List.length_take, Nat.min_comm]
  refine ⟨p, cap, by rw [hlen], by rw [hlen]; exact Nat.le_trans (Nat.min_le_left _ _) hl, fun h0 => ?_⟩
  rw [hlen] at h0
  obtain ⟨b, off, rfl, hS, hlt, hcs⟩ := hc (by omega)
  refine ⟨b, off, rfl, hS, hlt, fun j x hj => hcs j x ?_⟩
  have hjk : j < (xs.take k).length := (List.getElem?_eq_some_iff.1 hj).1
  rw [List.getElem?_take_of_lt (by rw [hlen] at hjk; omega)] at hj
  exact hj
theorem AllOk.take {α : Type} {ok : α → Prop} {xs : List α} (h : AllOk ok xs) (k : Nat) : AllOk ok (xs.take k) := fun a ha => h a (List.mem_of_mem_take ha)
theorem cutL_ok {l : List Bs} : AllOk (fun x => x.length ≤ 100) (cutL l) := fun a ha => by
  obtain ⟨b, -, rfl⟩ := List.mem_map.1 ha
  rw [List.length_take]; omega
theorem cutL_length (l : List Bs) : (cutL l).length ≤ 20 := by simp [cutL]; omega
theorem flat_bound {α : Type} {ser : α → Bs} {ok : α → Prop} {B : Nat} (hb : ∀ a, ok a → (ser a).length ≤ B) : ∀ xs : List α, AllOk ok xs → (xs.flatMap ser).length ≤ xs.length * B
  | [], _ => by simp
  | x :: xs, h => by
    have h1 := hb x (h x (List.mem_cons_self ..))
    have h2 := flat_bound hb xs (fun a ha => h a (List.mem_cons_of_mem _ ha))
    simp only [List.flatMap_cons, List.length_append, List.length_cons, Nat.add_mul, Nat.one_mul]
    omega
theorem serInt_le {n : Int} (h : I64 n) : (serInt n).length ≤ 21 := by have := itoa_len h; simp [serInt, serNum]; omega
theorem serText_le {s : Bs} (h : s.length ≤ 100) : (serText s).length ≤ 121 := by
  have := itoa_len (n := s.length) ⟨by omega, by omega⟩
  simp [serText, serNum]; omega
theorem serInts_le {xs : List Int} {k : Nat} (h : AllOk I64 xs) (hl : xs.length ≤ k) : (serL serInt xs).length ≤ k * 21 + 2 := by
  have h1 := flat_bound (ser := serInt) (ok := I64) (B := 21) (fun a ha => serInt_le ha) xs h
  have h2 : xs.length * 21 ≤ k * 21 := Nat.mul_le_mul_right _ hl
  rw [serL_len]; omega
theorem serTexts_le {xs : List Bs} (h : AllOk (fun x => x.length ≤ 100) xs) (hl : xs.length ≤ 20) : (serL serText xs).length ≤ 2422 := by
  have h1 := flat_bound (ser := serText) (ok := fun x => x.length ≤ 100) (B := 121) (fun a ha => serText_le ha) xs h
  have h2 : xs.length * 121 ≤ 20 * 121 := Nat.mul_le_mul_right _ hl
  rw [serL_len]; omega
theorem ok_of_short {xs : List Bs} (h : AllOk (fun x => x.length ≤ 100) xs) : AllOk TextOk xs := fun a ha => by have := h a ha; unfold TextOk; omega

theorem SlOf.parts {α : Type} {enc : α → Value} {S : Nat → Prop} {w : World} {v : Value} {xs : List α} (h : SlOf enc S w v xs) : ∃ p n cap, v = .slice p n cap ∧ n = xs.length ∧ n ≤ 9223372036854775807 ∧ (0 < n → ∃ b off, p = some ⟨b, off, none⟩ ∧ S b ∧ b < w.heap.size ∧ ∀ j x, xs[j]? = some x → w.cell? ⟨b, off + j, none⟩ = some (enc x)) := by
  obtain ⟨p, cap, rfl, hl, hc⟩ := h
  exact ⟨p, _, cap, rfl, rfl, hl, hc⟩

set_option maxRecDepth 100000 in
set_option maxHeartbeats 8000000 in
theorem wireWrites_walk (v u : Value) (zs : List Int) (ts : List Bs) (w0 : World) (hv : Vars w0) (hz : SlOf encI (fun b => b < w0.heap.size) w0 v zs ∧ AllOk I64 zs ∧ ∃ p cap, v = .slice p zs.length cap ∧ zs.length ≤ cap)
    (ht : SlOf encT (fun b => b < w0.heap.size) w0 u ts ∧ ∀ x ∈ ts, x.length ≤ 9223372036854775807) : Calls Tryd.prog 3 #[v, u] w0 fun e w' => e = .returned (.bool true) ∧ Ext w0 w' := by
  obtain ⟨hz1, hz2, p, cap, rfl, hcap⟩ := hz
  have V0 := Lib.hid hv
  have HT := Lib.hid ht
  have hzc := hz1.cut 40
  have hz3 := hz2.take 40
  obtain ⟨xs, hxs⟩ : ∃ xs, xs = zs.take 40 := ⟨_, rfl⟩
  rw [← hxs] at hzc hz3
  have hzl : zs.length ≤ 9223372036854775807 := by obtain ⟨_, _, _, h, _⟩ := hz1; exact h
  obtain ⟨n, hn⟩ : ∃ n, n = zs.length := ⟨_, rfl⟩
  rw [← hn] at hcap hzl hzc ⊢
  obtain ⟨m, hm⟩ : ∃ m, m = min n 40 := ⟨_, rfl⟩
  rw [← hm] at hzc
  have hmin : min (n : Int) 40 = (m : Int) := by omega
  have hm2 : m ≤ cap := by omega
  have hm40 : m ≤ 40 := by omega
  have HZ := Lib.hid hzc
  obtain ⟨p', m', cap', e', hml, -, hc1⟩ := hzc.parts
  cases e'
  have HML := Lib.hid hml
  have HC1 := Lib.hid hc1
  have HO1 := Lib.hid hz3
  clear hv ht hz1 hz2 hzc hn hxs hm hml hc1 hz3
  go_enter Tryd.func3, Tryd.ntmps3
  go_wp2_with fail
  refine (sanity_calls w0 V0.out).mono ?_
  rintro e w1 ⟨rfl, hx1⟩
  have X1 : Hid (Ext w0 w1.drew) := hx1.trans (Ext.drew w1)
  have HC := Lib.hid (cutl_calls u ts _ w1.drew ((HT.out.1.ext hx1).ext (Ext.drew w1)) HT.out.2)
  clear hx1
  go_wp2
  go_region_law (go_simp; go_at_call 11; refine HC.out.mono ?_; rintro e w2 ⟨v2, rfl, hs2, hx2⟩; have S2 := Lib.hid hs2; have X2 := Lib.hid (X1.out.trans hx2); clear hs2 hx2)
  all_goals
    clear hmin
    have hoys := cutL_ok (l := ts)
    have hlys := cutL_length ts
    obtain ⟨ys, hys⟩ : ∃ ys, ys = cutL ts := ⟨_, rfl⟩
    rw [← hys] at S2 hoys hlys
    obtain ⟨q, m2, cap2, rfl, hml2, -, hc2⟩ := S2.out.parts
    rw [← hml2] at hlys
    have HML2 := Lib.hid hml2
    have HC2 := Lib.hid hc2
    have HO2 := Lib.hid hoys
    clear hys hml2 hc2 hoys HT HC
    go_wp2_with fail
    go_loopw [7, 20] (fun x i wr => ∃ k : Nat, k ≤ m ∧ i = .int .i64 (k : Int) ∧ Ext w2 wr) (fun _ i _ => (m - (intOf i).toNat))
    case atStart => exact ⟨0, Nat.zero_le _, rfl, Ext.refl _⟩
    case round =>
      obtain ⟨k, hk, rfl, hx⟩ := hrel
      have XR := Lib.hid hx
      have XC : Hid (Ext w0 wr) := X2.out.trans hx
      have VR : Hid (Vars wr) := V0.out.ext (X2.out.trans hx)
      clear hx
      by_cases hlt : k < m
      · obtain ⟨x, hx⟩ : ∃ x, (xs)[k]? = some x := ⟨_, List.getElem?_eq_getElem (by rw [← HML.out]; exact hlt)⟩
        obtain ⟨b, off, e1, hSb, hbl, hcs⟩ := HC1.out (by omega)
        cases e1
        have hcell := (Below.cell XC.out (p := ⟨b, off + k, none⟩) hbl).trans (hcs k x hx)
        unfold encI at hcell
        have hok := HO1.out x (List.mem_of_getElem? hx)
        have Hok := Lib.hid hok
        have hxl : (serInt x).length ≤ 140737488355328 := by have := serInt_le hok; omega
        have Hxl := Lib.hid hxl
        clear hcs hok hx hbl hxl hSb
        go_wp2_with fail
        refine (int_calls x Hok.out Hxl.out wr VR.out).mono ?_
        rintro e w5 ⟨rfl, hx5⟩
        have X5 := Lib.hid (XR.out.trans hx5)
        clear hx5
        go_wp2_with fail
        refine (refint_calls x Hok.out w5).mono ?_
        rintro e w6 ⟨rfl, hx6⟩
        have X6 := Lib.hid (X5.out.trans hx6)
        clear hx6
        go_wp2
        go_roundw
        case rel => exact ⟨k + 1, by omega, by go_num, X6.out⟩
        case measure => simp [intOf]; omega
      · have hkm : k = m := by omega
        clear hkm
        have XA := Lib.hid XR.out
        clear XR
        go_wp2_with fail
        go_loopw [9, 32] (fun x i wr => ∃ k : Nat, k ≤ m2 ∧ i = .int .i64 (k : Int) ∧ Ext w2 wr) (fun _ i _ => (m2 - (intOf i).toNat))
        case atStart => exact ⟨0, Nat.zero_le _, rfl, XA.out⟩
        case round =>
          obtain ⟨k, hk, rfl, hx⟩ := hrel
          have XC := Lib.hid hx
          have XR := Lib.hid hx
          have VR : Hid (Vars wr) := V0.out.ext (X2.out.trans hx)
          clear hx
          by_cases hlt : k < m2
          · obtain ⟨x, hx⟩ : ∃ x, (ys)[k]? = some x := ⟨_, List.getElem?_eq_getElem (by rw [← HML2.out]; exact hlt)⟩
            obtain ⟨b, off, e1, hSb, hbl, hcs⟩ := HC2.out (by omega)
            cases e1
            have hcell := (Below.cell XC.out (p := ⟨b, off + k, none⟩) hbl).trans (hcs k x hx)
            unfold encT at hcell
            have hok := HO2.out x (List.mem_of_getElem? hx)
            have Hok := Lib.hid hok
            have hxl : (serText x).length ≤ 140737488355328 := by have := serText_le hok; omega
            have Hxl := Lib.hid hxl
            clear hcs hok hx hbl hxl hSb
            go_wp2_with fail
            refine (text_calls x (by have := Hok.out; unfold TextOk; omega) Hxl.out wr VR.out).mono ?_
            rintro e w5 ⟨rfl, hx5⟩
            have X5 := Lib.hid (XR.out.trans hx5)
            clear hx5
            go_wp2_with fail
            refine (reftext_calls x (by have := Hok.out; unfold TextOk; omega) Hxl.out w5).mono ?_
            rintro e w6 ⟨rfl, hx6⟩
            have X6 := Lib.hid (X5.out.trans hx6)
            clear hx6
            go_wp2
            go_roundw
            case rel => exact ⟨k + 1, by omega, by go_num, X6.out⟩
            case measure => simp [intOf]; omega
          · have hkm : k = m2 := by omega
            clear hkm
            have V2 : Hid (Vars wr) := VR.out
            have S1r : Hid (SlOf encI (fun b => b < w0.heap.size) wr (.slice p m cap) xs) := HZ.out.ext (X2.out.trans XR.out)
            have S2r : Hid (SlOf encT (fun b => w1.drew.heap.size ≤ b) wr (.slice q m2 cap2) ys) := S2.out.ext XR.out
            have hb1 : (serL serInt xs).length ≤ 140737488355328 := by have := serInts_le (k := 40) HO1.out (by rw [← HML.out]; exact hm40); omega
            have hb2 : (serL serText ys).length ≤ 140737488355328 := by have := serTexts_le HO2.out (by rw [← HML2.out]; exact hlys); omega
            have HB1 := Lib.hid hb1
            have HB2 := Lib.hid hb2
            clear hb1 hb2
            go_wp2_with fail
            refine (ints_calls _ xs _ wr V2.out S1r.out HO1.out HB1.out).mono ?_
            rintro e w7 ⟨rfl, hx7⟩
            have X7 := Lib.hid hx7
            clear hx7
            go_wp2_with fail
            refine (refints_calls _ xs _ w7 (S1r.out.ext X7.out) HO1.out HB1.out).mono ?_
            rintro e w8 ⟨rfl, hx8⟩
            have X8 := Lib.hid (X7.out.trans hx8)
            clear hx8
            go_wp2_with fail
            refine (texts_calls _ ys _ w8 (V2.out.ext X8.out) (S2r.out.ext X8.out) (ok_of_short HO2.out) HB2.out).mono ?_
            rintro e w9 ⟨rfl, hx9⟩
            have X9 := Lib.hid (X8.out.trans hx9)
            clear hx9
            go_wp2_with fail
            refine (reftexts_calls _ ys _ w9 (S2r.out.ext X9.out) (ok_of_short HO2.out) HB2.out).mono ?_
            rintro e w10 ⟨rfl, hx10⟩
            have X10 := Lib.hid (X9.out.trans hx10)
            clear hx10
            go_wp2
            go_ret
            exact ⟨rfl, (X2.out.trans XR.out).trans X10.out⟩


end Go.Proofs.YtckhbejgkgpilaaDoor
