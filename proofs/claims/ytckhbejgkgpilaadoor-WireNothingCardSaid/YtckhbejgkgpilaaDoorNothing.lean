/- The walk of WireNothing. -/
import Derived.Test.YtckhbejgkgpilaaDoorSan2
set_option linter.all false
namespace Go.Proofs.YtckhbejgkgpilaaDoor
open Go Go.RowKit Go.Shelf

set_option maxRecDepth 100000 in
set_option maxHeartbeats 4000000 in
theorem wireNothing_walk (c : Nat) (hc : c < 256) (w0 : World) (hv : Vars w0) : Calls Tryd.prog 9 #[.int .u8 c] w0 fun e w' => e = .returned (.bool true) ∧ Ext w0 w' := by
  have V0 := Lib.hid hv
  have hcm : IntKind.i64.wrap ((c : Int) % 4) = ((c % 4 : Nat) : Int) := by rw [IntKind.wrap_i64]; omega
  have hcm2 : IntKind.u8.wrap ((c : Int) % 4) = ((c % 4 : Nat) : Int) := by rw [IntKind.wrap_u8]; omega
  have hc4 : c % 4 < 4 := Nat.mod_lt _ (by decide)
  clear hv
  go_enter Tryd.func9, Tryd.ntmps9
  go_wp2_with fail
  refine (sanity_calls w0 V0.out).mono ?_
  rintro e w1 ⟨rfl, hx1⟩
  have X1 := Lib.hid hx1
  have V1 : Hid (Vars w1) := V0.out.ext hx1
  clear hx1
  go_wp2_with fail
  obtain ⟨W2, hW2⟩ : ∃ W, W = w1.alloc (.cells #[.string ⟨#[]⟩, .bool false] 53) := ⟨_, rfl⟩
  have hx2 : Ext w1 W2 := by rw [hW2]; exact Ext.alloc _ _
  have hr1 : RdP (some w1.heap.size) (some []) W2 := by rw [hW2]; exact ⟨heap_alloc_new w1 _, V1.out.low⟩
  have hs2 : W2.heap.size = w1.heap.size + 1 := by rw [hW2]; simp
  rw [← hW2]
  have V2 : Hid (Vars W2) := V1.out.ext hx2
  have X2 : Hid (Ext w0 W2) := X1.out.trans hx2
  have S2 := Lib.hid hs2
  have R1 := Lib.hid hr1
  clear hx2 hr1 hs2 hW2
  refine (new_calls [] W2 V2.out.low).mono ?_
  rintro e w3 ⟨rfl, hr3, hx3⟩
  have V3 : Hid (Vars w3) := V2.out.ext hx3
  have X3 : Hid (Ext w0 w3) := X2.out.trans hx3
  have R1' : Hid (RdP (some w1.heap.size) (some []) w3) := R1.out.ext hx3
  have R3 := Lib.hid hr3
  have hs3 : W2.heap.size < w3.heap.size := hr3.rlt _ rfl
  have S3 := Lib.hid hs3
  clear hx3 hr3 hs3
  obtain ⟨b1, hb1⟩ : ∃ b, b = w1.heap.size := ⟨_, rfl⟩
  obtain ⟨b2, hb2⟩ : ∃ b, b = W2.heap.size := ⟨_, rfl⟩
  rw [← hb1] at R1' S2 ⊢
  rw [← hb2] at R3 S2 S3 ⊢
  have B1 := Lib.hid hb1
  have hb12 : b2 = b1 + 1 := S2.out
  have B12 := Lib.hid hb12
  unfold ptrV
  clear hb1 hb2 hb12
  go_wp2_with fail
  obtain ⟨W4, hW4⟩ : ∃ W, W = w3.alloc (.cells #[.pointer none, .pointer (some ⟨b1, 0, none⟩), .pointer (some ⟨b2, 0, none⟩)] 32) := ⟨_, rfl⟩
  have hx4 : Ext w3 W4 := by rw [hW4]; exact Ext.alloc _ _
  have hsl : SlOf ptrV (fun b => w3.heap.size ≤ b) W4 (.slice (some ⟨w3.heap.size, 0, none⟩) 3 3) [none, some b1, some b2] := by rw [hW4]; exact sl_lit ptrV w3 32 [none, some b1, some b2] 3 (by unfold maxLen; simp)
  obtain ⟨g, hg⟩ : ∃ g, g = w3.heap.size := ⟨_, rfl⟩
  rw [← hW4]
  rw [← hg] at hsl ⊢
  have V4 : Hid (Vars W4) := V3.out.ext hx4
  have X4 : Hid (Ext w0 W4) := X3.out.trans hx4
  have R14 := Lib.hid (R1'.out.ext hx4)
  have R24 := Lib.hid (R3.out.ext hx4)
  have SL := Lib.hid hsl
  have G := Lib.hid hg
  have hb2g : b2 < g := by rw [hg]; exact S3.out
  have B2g := Lib.hid hb2g
  have hw0b : w0.heap.size ≤ b1 := by rw [B1.out]; exact Below.size X1.out
  have W0b := Lib.hid hw0b
  clear hx4 hsl hW4 hg hb2g hw0b
  go_loopw [12] (fun i wr => ∃ k : Nat, k ≤ 3 ∧ i = .int .i64 (k : Int) ∧ (k ≤ 1 → RdP (some b1) (some []) wr) ∧ (k ≤ 2 → RdP (some b2) (some []) wr) ∧ SlOf ptrV (fun b => g ≤ b) wr (.slice (some ⟨g, 0, none⟩) 3 3) [none, some b1, some b2] ∧ Vars wr ∧ Ext w0 wr) (fun i _ => 3 - (intOf i).toNat)
  case atStart => exact ⟨0, by omega, rfl, fun _ => R14.out, fun _ => R24.out, SL.out, V4.out, X4.out⟩
  case round =>
    obtain ⟨k, hk, rfl, hr1, hr2, hs, hvr, hxr⟩ := hrel
    have VR := Lib.hid hvr
    have XR := Lib.hid hxr
    have SR := Lib.hid hs
    obtain ⟨p, cap, hp, -, hcs⟩ := hs
    cases hp
    obtain ⟨b, off, hbo, -, -, hcells⟩ := hcs (by simp)
    cases hbo
    have H1 := Lib.hid hr1
    have H2 := Lib.hid hr2
    have HC := Lib.hid hcells
    clear hr1 hr2 hcs hcells hvr hxr
    have step : ∀ (rb : Option Nat) (st : Option Bs) (rest : World → Prop), True := fun _ _ _ => trivial
    clear step
    rcases (by omega : k = 0 ∨ k = 1 ∨ k = 2 ∨ k = 3) with rfl | rfl | rfl | rfl
    · have hcell : wr.cell? ⟨g, 0 + 0, none⟩ = some (.pointer none) := HC.out 0 none rfl
      have hcell2 : wr.cell? ⟨g, 0, none⟩ = some (.pointer none) := hcell
      clear hcell
      go_wp2_with fail
      refine (left_calls none none wr rfl).mono ?_
      rintro e w5 ⟨rfl, rfl⟩
      simp only [Option.getD_none, List.length_nil]
      go_wp2_with fail
      refine (bad_calls none none w5 rfl).mono ?_
      rintro e w6 ⟨rfl, rfl⟩
      simp only [Option.isNone_none]
      go_wp2_with fail
      refine (decodes_calls none none (c % 4) hc4 (noneK_empty _) (by decide) w6 VR.out rfl).mono ?_
      rintro e w7 ⟨rfl, hr7, hk7⟩
      have K7 := Lib.hid hk7
      clear hr7 hk7
      go_wp2_with fail
      refine (bad_calls none none w7 rfl).mono ?_
      rintro e w8 ⟨rfl, rfl⟩
      simp only [Option.isNone_none]
      go_wp2_with fail
      refine (left_calls none none w8 rfl).mono ?_
      rintro e w9 ⟨rfl, rfl⟩
      simp only [Option.getD_none, List.length_nil]
      have hx := K7.out.ext
      have HX := Lib.hid hx
      clear hx
      go_wp2
      go_roundw
      case rel => exact ⟨1, by omega, rfl, fun _ => (H1.out (by omega)).ext HX.out, fun _ => (H2.out (by omega)).ext HX.out, SR.out.ext HX.out, VR.out.ext HX.out, XR.out.trans HX.out⟩
      case measure => simp [intOf]
    · have hcell2 : wr.cell? ⟨g, 1, none⟩ = some (.pointer (some ⟨b1, 0, none⟩)) := HC.out 1 (some b1) rfl
      have hr := H1.out (Nat.le_refl _)
      have R5 := Lib.hid hr
      clear hr
      go_wp2_with fail
      refine (left_calls (some b1) (some []) wr R5.out).mono ?_
      rintro e w5 ⟨rfl, rfl⟩
      simp only [Option.getD_some, List.length_nil]
      go_wp2_with fail
      refine (bad_calls (some b1) (some []) w5 R5.out).mono ?_
      rintro e w6 ⟨rfl, rfl⟩
      simp only [Option.isNone_some]
      go_wp2_with fail
      refine (decodes_calls (some b1) (some []) (c % 4) hc4 (noneK_empty _) (by decide) w6 VR.out R5.out).mono ?_
      rintro e w7 ⟨rfl, hr7, hk7⟩
      have K7 := Lib.hid hk7
      have R7 := Lib.hid hr7
      clear hr7 hk7
      go_wp2_with fail
      refine (bad_calls (some b1) none w7 R7.out).mono ?_
      rintro e w8 ⟨rfl, rfl⟩
      simp only [Option.isNone_none]
      go_wp2_with fail
      refine (left_calls (some b1) none w8 R7.out).mono ?_
      rintro e w9 ⟨rfl, rfl⟩
      simp only [Option.getD_none, List.length_nil]
      have hx : Ext w0 w9 := Keep.new XR.out (fun b e => by cases e; have := W0b.out; have := B12.out; omega) K7.out
      have HX := Lib.hid hx
      clear hx
      go_wp2
      go_roundw
      case rel => exact ⟨2, by omega, rfl, fun h => by omega, fun h => ⟨(K7.out.block b2 ((H2.out (by omega)).rlt b2 rfl) (fun e => by cases e; have := B12.out; omega)).trans (H2.out (by omega)).1, (H2.out (by omega)).2⟩, SR.out.keep K7.out (fun b hb e => by cases e; have := B2g.out; have := B12.out; omega), VR.out.keep K7.out R5.out.low, HX.out⟩
      case measure => simp [intOf]
    · have hcell2 : wr.cell? ⟨g, 2, none⟩ = some (.pointer (some ⟨b2, 0, none⟩)) := HC.out 2 (some b2) rfl
      have hr := H2.out (Nat.le_refl _)
      have R5 := Lib.hid hr
      clear hr
      go_wp2_with fail
      refine (left_calls (some b2) (some []) wr R5.out).mono ?_
      rintro e w5 ⟨rfl, rfl⟩
      simp only [Option.getD_some, List.length_nil]
      go_wp2_with fail
      refine (bad_calls (some b2) (some []) w5 R5.out).mono ?_
      rintro e w6 ⟨rfl, rfl⟩
      simp only [Option.isNone_some]
      go_wp2_with fail
      refine (decodes_calls (some b2) (some []) (c % 4) hc4 (noneK_empty _) (by decide) w6 VR.out R5.out).mono ?_
      rintro e w7 ⟨rfl, hr7, hk7⟩
      have K7 := Lib.hid hk7
      have R7 := Lib.hid hr7
      clear hr7 hk7
      go_wp2_with fail
      refine (bad_calls (some b2) none w7 R7.out).mono ?_
      rintro e w8 ⟨rfl, rfl⟩
      simp only [Option.isNone_none]
      go_wp2_with fail
      refine (left_calls (some b2) none w8 R7.out).mono ?_
      rintro e w9 ⟨rfl, rfl⟩
      simp only [Option.getD_none, List.length_nil]
      have hx : Ext w0 w9 := Keep.new XR.out (fun b e => by cases e; have := W0b.out; have := B12.out; omega) K7.out
      have HX := Lib.hid hx
      clear hx
      go_wp2
      go_roundw
      case rel => exact ⟨3, by omega, rfl, fun h => by omega, fun h => by omega, SR.out.keep K7.out (fun b hb e => by cases e; have := B2g.out; have := B12.out; omega), VR.out.keep K7.out R5.out.low, HX.out⟩
      case measure => simp [intOf]
    · have hno : ¬ ((3 : Int) < 3) := by omega
      go_wp2
      go_ret
      exact ⟨rfl, XR.out⟩

end Go.Proofs.YtckhbejgkgpilaaDoor
