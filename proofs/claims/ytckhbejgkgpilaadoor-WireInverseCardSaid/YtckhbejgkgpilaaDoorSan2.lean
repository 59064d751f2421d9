/- sanity of wire's laws. (Written by gen_san2.py.) -/
import Derived.Test.YtckhbejgkgpilaaDoorSan
set_option linter.all false
namespace Go.Proofs.YtckhbejgkgpilaaDoor
open Go Go.RowKit Go.Shelf

theorem int_lit {n : Int} {l : Bs} (hl : serInt n = l) (hn : I64 n) (w : World) (hv : Vars w) : Calls Tryd.prog 12 #[.int .i64 n] w fun e w' => e = .returned (.string ⟨l.toArray⟩) ∧ Ext w w' := by
  subst hl
  exact int_calls n hn (by have := itoa_len hn; simp [serInt, serNum]; omega) w hv
theorem text_lit {s l : Bs} (hl : serText s = l) (hs : s.length ≤ 1000) (w : World) (hv : Vars w) : Calls Tryd.prog 14 #[.string ⟨s.toArray⟩] w fun e w' => e = .returned (.string ⟨l.toArray⟩) ∧ Ext w w' := by
  subst hl
  exact text_calls s (by unfold TextOk; omega) (by have := itoa_len (n := s.length) ⟨by omega, by omega⟩; simp [serText, serNum]; omega) w hv
theorem ints_lit {v : Value} {xs : List Int} {l : Bs} {S : Nat → Prop} {w : World} (hl : serL serInt xs = l) (ho : AllOk I64 xs) (hb : l.length ≤ 140737488355328) (hu : SlOf encI S w v xs) (hv : Vars w) : Calls Tryd.prog 16 #[v] w fun e w' => e = .returned (.string ⟨l.toArray⟩) ∧ Ext w w' := by
  subst hl
  exact ints_calls v xs S w hv hu ho hb
theorem texts_lit {v : Value} {xs : List Bs} {l : Bs} {S : Nat → Prop} {w : World} (hl : serL serText xs = l) (ho : AllOk TextOk xs) (hb : l.length ≤ 140737488355328) (hu : SlOf encT S w v xs) (hv : Vars w) : Calls Tryd.prog 18 #[v] w fun e w' => e = .returned (.string ⟨l.toArray⟩) ∧ Ext w w' := by
  subst hl
  exact texts_calls v xs S w hv hu ho hb
theorem sl_lit {α : Type} (enc : α → Value) (w : World) (t : TypeId) (xs : List α) (c : Nat) (hm : xs.length ≤ maxLen) : SlOf enc (fun b => w.heap.size ≤ b) (w.alloc (.cells (xs.map enc).toArray t)) (.slice (some ⟨w.heap.size, 0, none⟩) xs.length c) xs := by
  refine ⟨_, c, rfl, hm, fun _ => ⟨w.heap.size, 0, rfl, Nat.le_refl _, by simp, fun j x hj => ?_⟩⟩
  rw [Lib.cell_of_heap (heap_alloc_new w _)]
  simp [hj]
theorem none_num {m : UInt8} {s : Bs} (h : m ∉ s) : Dec (serNum m) I64 s none := Dec.no fun n r _ e => h (by rw [e]; simp [serNum])
theorem none_form {m : UInt8} {a r : Bs} {v : Int} (hm : Mark m) (ha : m ∉ a) (h : Lib.atoiAll a = .ok v) (hv : Lib.itoa v ≠ a) : Dec (serNum m) I64 (a ++ m :: r) none := Dec.no fun n t hn e => by
  have h1 := split_at_mark (hm.not_mem n) ha (show Lib.itoa n ++ m :: t = a ++ m :: r by rw [e]; simp [serNum])
  have h2 := atoi_itoa hn
  rw [h1.1, h] at h2
  injection h2 with h2
  subst h2
  exact hv h1.1
theorem noneK_of {s : Bs} (h0 : Dec serInt I64 s none) (h1 : Dec serText TextOk s none) (h2 : ∀ r, s ≠ 91 :: r) : ∀ k, k < 4 → NoneK k s
  | 0, _ => h0
  | 1, _ => h1
  | 2, _ => dec_list_none h2
  | 3, _ => dec_list_none h2
theorem itoa_1 : Lib.itoa 1 = [49] := by simp [Lib.itoa, Lib.decDigits]
theorem itoa_0 : Lib.itoa 0 = [48] := by simp [Lib.itoa, Lib.decDigits]
theorem none_1 : ∀ k, k < 4 → NoneK k [48, 49, 59] := noneK_of (none_form (a := [48, 49]) (r := []) (v := 1) mark59 (by decide) rfl (by rw [itoa_1]; decide)) (dec_text_none (none_num (by decide))) (by simp)
theorem none_2 : ∀ k, k < 4 → NoneK k [43, 49, 59] := noneK_of (none_form (a := [43, 49]) (r := []) (v := 1) mark59 (by decide) rfl (by rw [itoa_1]; decide)) (dec_text_none (none_num (by decide))) (by simp)
theorem none_3 : ∀ k, k < 4 → NoneK k [45, 48, 59] := noneK_of (none_form (a := [45, 48]) (r := []) (v := 0) mark59 (by decide) rfl (by rw [itoa_0]; decide)) (dec_text_none (none_num (by decide))) (by simp)
theorem none_4 : ∀ k, k < 4 → NoneK k [49] := noneK_of (none_num (by decide)) (dec_text_none (none_num (by decide))) (by simp)
theorem none_5 : ∀ k, k < 4 → NoneK k [51, 58, 97, 98] := noneK_of (none_num (by decide)) (dec_text_no (n := 3) (r := [97, 98]) (Dec.yes ⟨by decide, by decide⟩ (by simp [serNum, Lib.itoa, Lib.decDigits])) (by simp)) (by simp)
theorem lit_0 : serInt 0 = [48, 59] := by simp [serInt, serNum, Lib.itoa, Lib.decDigits]
theorem lit_m1 : serInt (-1) = [45, 49, 59] := by simp [serInt, serNum, Lib.itoa, Lib.decDigits]
theorem lit_250 : serInt 250 = [50, 53, 48, 59] := by simp [serInt, serNum, Lib.itoa, Lib.decDigits]
theorem lit_ab : serText [97, 98] = [50, 58, 97, 98] := by simp [serText, serNum, Lib.itoa, Lib.decDigits]
theorem lit_e : serText [] = [48, 58] := by simp [serText, serNum, Lib.itoa, Lib.decDigits]
theorem lit_12 : serL serInt [1, -2] = [91, 49, 59, 45, 50, 59, 93] := by simp [serL, serInt, serNum, Lib.itoa, Lib.decDigits]
theorem lit_no : serL serInt [] = [91, 93] := by simp [serL]
theorem lit_ea : serL serText [[], [97]] = [91, 48, 58, 49, 58, 97, 93] := by simp [serL, serText, serNum, Lib.itoa, Lib.decDigits]
theorem i64_1 : AllOk I64 [1, -2] := fun a ha => by simp at ha; rcases ha with rfl | rfl <;> exact ⟨by decide, by decide⟩

set_option maxRecDepth 100000 in
set_option maxHeartbeats 8000000 in
theorem sanity_calls (w0 : World) (hv : Vars w0) : Calls Tryd.prog 10 #[] w0 fun e w' => e = .returned (.bool true) ∧ Ext w0 w' := by
  have V0 := Lib.hid hv
  have X0 : Hid (Ext w0 w0) := Ext.refl _
  clear hv
  go_enter Tryd.func10, Tryd.ntmps10
  go_wp2_with fail
  refine (int_lit lit_0 ⟨by decide, by decide⟩ w0 V0.out).mono ?_
  rintro e w1 ⟨rfl, hx⟩
  have X1 : Hid (Ext w0 w1) := X0.out.trans hx
  have V1 : Hid (Vars w1) := V0.out.ext hx
  clear hx
  go_wp2_with fail
  refine (int_lit lit_m1 ⟨by decide, by decide⟩ w1 V1.out).mono ?_
  rintro e w2 ⟨rfl, hx⟩
  have X2 : Hid (Ext w0 w2) := X1.out.trans hx
  have V2 : Hid (Vars w2) := V1.out.ext hx
  clear hx
  go_wp2_with fail
  refine (int_lit lit_250 ⟨by decide, by decide⟩ w2 V2.out).mono ?_
  rintro e w3 ⟨rfl, hx⟩
  have X3 : Hid (Ext w0 w3) := X2.out.trans hx
  have V3 : Hid (Vars w3) := V2.out.ext hx
  clear hx
  go_wp2_with fail
  refine (text_lit lit_ab (by decide) w3 V3.out).mono ?_
  rintro e w4 ⟨rfl, hx⟩
  have X4 : Hid (Ext w0 w4) := X3.out.trans hx
  have V4 : Hid (Vars w4) := V3.out.ext hx
  clear hx
  go_wp2_with fail
  refine (text_lit lit_e (by decide) w4 V4.out).mono ?_
  rintro e w5 ⟨rfl, hx⟩
  have X5 : Hid (Ext w0 w5) := X4.out.trans hx
  have V5 : Hid (Vars w5) := V4.out.ext hx
  clear hx
  go_wp2_with fail
  obtain ⟨w6, hW⟩ : ∃ w6, w6 = w5.alloc (.cells #[.int .i64 1, .int .i64 (-2)] 3) := ⟨_, rfl⟩
  have hx : Ext w5 w6 := by rw [hW]; exact Ext.alloc _ _
  have G5 : Hid (w6 = w5.alloc (.cells #[.int .i64 1, .int .i64 (-2)] 3)) := hW
  rw [← hW]
  clear hW
  have X6 : Hid (Ext w0 w6) := X5.out.trans hx
  have V6 : Hid (Vars w6) := V5.out.ext hx
  clear hx
  refine (ints_lit (w := w6) lit_12 i64_1 (by decide) (S := fun b => w5.heap.size ≤ b) (v := .slice (some ⟨w5.heap.size, 0, none⟩) 2 2) (by rw [G5.out]; exact sl_lit encI w5 3 [1, -2] 2 (by unfold maxLen; decide)) V6.out).mono ?_
  rintro e w7 ⟨rfl, hx⟩
  have X7 : Hid (Ext w0 w7) := X6.out.trans hx
  have V7 : Hid (Vars w7) := V6.out.ext hx
  clear hx
  go_wp2_with fail
  refine (ints_lit (S := fun _ => True) lit_no (fun _ h => absurd h (by simp)) (by decide) SlOf.nil V7.out).mono ?_
  rintro e w8 ⟨rfl, hx⟩
  have X8 : Hid (Ext w0 w8) := X7.out.trans hx
  have V8 : Hid (Vars w8) := V7.out.ext hx
  clear hx
  go_wp2_with fail
  obtain ⟨w9, hW⟩ : ∃ w9, w9 = w8.alloc (.cells #[.string ⟨#[]⟩, .string ⟨#[97]⟩] 9) := ⟨_, rfl⟩
  have hx : Ext w8 w9 := by rw [hW]; exact Ext.alloc _ _
  have G8 : Hid (w9 = w8.alloc (.cells #[.string ⟨#[]⟩, .string ⟨#[97]⟩] 9)) := hW
  rw [← hW]
  clear hW
  have X9 : Hid (Ext w0 w9) := X8.out.trans hx
  have V9 : Hid (Vars w9) := V8.out.ext hx
  clear hx
  refine (texts_lit (w := w9) lit_ea (fun a ha => by unfold TextOk; simp at ha; rcases ha with rfl | rfl <;> simp) (by decide) (S := fun b => w8.heap.size ≤ b) (v := .slice (some ⟨w8.heap.size, 0, none⟩) 2 2) (by rw [G8.out]; exact sl_lit encT w8 9 [[], [97]] 2 (by unfold maxLen; decide)) V9.out).mono ?_
  rintro e w10 ⟨rfl, hx⟩
  have X10 : Hid (Ext w0 w10) := X9.out.trans hx
  have V10 : Hid (Vars w10) := V9.out.ext hx
  clear hx
  go_wp2_with fail
  refine (new_calls [91, 49, 59, 45, 50, 59, 93, 51, 59] w10 V10.out.low).mono ?_
  rintro e w11 ⟨rfl, hr, hx⟩
  obtain ⟨rb, hrb⟩ : ∃ rb, rb = some w10.heap.size := ⟨_, rfl⟩
  rw [← hrb] at hr ⊢
  obtain ⟨g, hg⟩ : ∃ g, g = w10.heap.size := ⟨_, rfl⟩
  have hpv : ptrV rb = .pointer (some ⟨g, 0, none⟩) := by rw [hrb, hg]; rfl
  have PV := Lib.hid hpv
  have RB := Lib.hid hrb
  have R11 := Lib.hid hr
  have XN := Lib.hid hx
  have V11 : Hid (Vars w11) := V10.out.ext hx
  have hrlt := hr.rlt
  have RLT := Lib.hid hrlt
  have hlow := hr.low
  have LOW := Lib.hid hlow
  rw [hpv]
  clear hr hx hrb hpv hg hrlt hlow
  have KK11 : Hid (Keep rb w11 w11) := Keep.refl _ _
  go_wp2_with fail
  rw [← PV.out]
  refine (rints_calls rb _ (by decide) w11 V11.out R11.out).mono ?_
  rintro e w12 ⟨o, hd, ⟨v, rfl, hs⟩, hr, hk⟩
  obtain rfl : o = some ([1, -2], [51, 59]) := Dec.whole (ser := serL serInt) (ok := AllOk I64) (a := [1, -2]) (r := [51, 59]) (ud_list ud_int opens_int) i64_1 (by rw [lit_12]; exact hd)
  simp only [Option.map_some, Option.getD_some] at hs hr
  have R12 := Lib.hid hr
  have V12 : Hid (Vars w12) := V11.out.keep hk LOW.out
  have S12 := Lib.hid hs
  have KK12 : Hid (Keep rb w11 w12) := hk
  clear hd hs hr hk
  rw [PV.out]
  go_wp2_with fail
  rw [← PV.out]
  refine (left_calls rb _ w12 R12.out).mono ?_
  rintro e w ⟨rfl, rfl⟩
  simp only [Option.getD_some, List.length_cons, List.length_nil]
  rw [PV.out]
  go_wp2_with fail
  rw [← PV.out]
  refine (rint_calls rb _ (by decide) w V12.out R12.out).mono ?_
  rintro e w13 ⟨o, hd, rfl, hr, hk⟩
  obtain rfl : o = some (3, []) := Dec.whole (ser := serInt) (ok := I64) (a := 3) (r := []) ud_int ⟨by decide, by decide⟩ (by rw [show serInt 3 ++ [] = [51, 59] by simp [serInt, serNum, Lib.itoa, Lib.decDigits]]; exact hd)
  simp only [Option.map_some, Option.getD_some] at hr ⊢
  have R13 := Lib.hid hr
  have V13 : Hid (Vars w13) := V12.out.keep hk LOW.out
  have S13 := Lib.hid (S12.out.keep hk (fun b hb e => by have := RLT.out b e; omega))
  have KK13 : Hid (Keep rb w11 w13) := KK12.out.trans hk
  clear hd hr hk
  unfold encI
  rw [PV.out]
  go_wp2_with fail
  obtain ⟨W, hW⟩ : ∃ W, W = w13.alloc (.cells #[.int .i64 1, .int .i64 (-2)] 3) := ⟨_, rfl⟩
  have hx : Ext w13 W := by rw [hW]; exact Ext.alloc _ _
  have GW := Lib.hid hW
  rw [← hW]
  clear hW
  have RW := Lib.hid (R13.out.ext hx)
  have VW : Hid (Vars W) := V13.out.ext hx
  have SW := Lib.hid (S13.out.ext hx)
  have KW : Hid (Keep rb w11 W) := KK13.out.trans hx.keep
  clear hx
  refine (sameInts_calls _ _ [1, -2] [1, -2] _ (fun b => w13.heap.size ≤ b) W SW.out (by rw [GW.out]; exact sl_lit encI w13 3 [1, -2] 2 (by unfold maxLen; decide))).mono ?_
  rintro e w14 ⟨rfl, hx⟩
  rw [show decide (([1, -2] : List Int) = [1, -2]) = true from rfl]
  have R14 := Lib.hid (RW.out.ext hx)
  have V14 : Hid (Vars w14) := VW.out.ext hx
  have KK14 : Hid (Keep rb w11 w14) := KW.out.trans hx.keep
  clear hx
  go_wp2_with fail
  rw [← PV.out]
  refine (left_calls rb _ w14 R14.out).mono ?_
  rintro e w ⟨rfl, rfl⟩
  simp only [Option.getD_some, List.length_nil]
  rw [PV.out]
  go_wp2_with fail
  rw [← PV.out]
  refine (bad_calls rb _ w R14.out).mono ?_
  rintro e w' ⟨rfl, rfl⟩
  simp only [Option.isNone_some]
  rw [PV.out]
  go_wp2_with fail
  rw [← PV.out]
  refine (rint_calls rb _ (by decide) w' V14.out R14.out).mono ?_
  rintro e w15 ⟨o, hd, rfl, hr, hk⟩
  obtain rfl : o = none := Dec.eq ud_int hd (noneK_empty 0)
  simp only [Option.map_none, Option.getD_none] at hr ⊢
  have R15 := Lib.hid hr
  have V15 : Hid (Vars w15) := V14.out.keep hk LOW.out
  have KK15 : Hid (Keep rb w11 w15) := KK14.out.trans hk
  clear hd hr hk
  unfold encI
  rw [PV.out]
  go_wp2_with fail
  rw [← PV.out]
  refine (bad_calls rb _ w15 R15.out).mono ?_
  rintro e w ⟨rfl, rfl⟩
  simp only [Option.isNone_none]
  have X15 : Hid (Ext w0 w) := X10.out.trans (ext_keep XN.out (by have := KK15.out; rwa [RB.out] at this))
  rw [PV.out]
  obtain ⟨w15, hwn⟩ : ∃ w15, w15 = w := ⟨_, rfl⟩
  rw [← hwn] at X15 V15 ⊢
  clear hwn
  go_wp2_with fail
  refine (malformed_calls [48, 49, 59] (by decide) none_1 w15 V15.out).mono ?_
  rintro e w16 ⟨rfl, hx⟩
  have X16 : Hid (Ext w0 w16) := X15.out.trans hx
  have V16 : Hid (Vars w16) := V15.out.ext hx
  clear hx
  go_wp2_with fail
  refine (malformed_calls [43, 49, 59] (by decide) none_2 w16 V16.out).mono ?_
  rintro e w17 ⟨rfl, hx⟩
  have X17 : Hid (Ext w0 w17) := X16.out.trans hx
  have V17 : Hid (Vars w17) := V16.out.ext hx
  clear hx
  go_wp2_with fail
  refine (malformed_calls [45, 48, 59] (by decide) none_3 w17 V17.out).mono ?_
  rintro e w18 ⟨rfl, hx⟩
  have X18 : Hid (Ext w0 w18) := X17.out.trans hx
  have V18 : Hid (Vars w18) := V17.out.ext hx
  clear hx
  go_wp2_with fail
  refine (malformed_calls [49] (by decide) none_4 w18 V18.out).mono ?_
  rintro e w19 ⟨rfl, hx⟩
  have X19 : Hid (Ext w0 w19) := X18.out.trans hx
  have V19 : Hid (Vars w19) := V18.out.ext hx
  clear hx
  go_wp2_with fail
  refine (malformed_calls [51, 58, 97, 98] (by decide) none_5 w19 V19.out).mono ?_
  rintro e w20 ⟨rfl, hx⟩
  have X20 : Hid (Ext w0 w20) := X19.out.trans hx
  have V20 : Hid (Vars w20) := V19.out.ext hx
  clear hx
  go_wp2
  go_ret
  exact ⟨rfl, X20.out⟩

end Go.Proofs.YtckhbejgkgpilaaDoor
