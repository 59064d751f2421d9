/- The walk of WireTruncated. (Written by gen_val.py.) -/
import Derived.Test.YtckhbejgkgpilaaDoorValF
set_option linter.all false
namespace Go.Proofs.YtckhbejgkgpilaaDoor
open Go Go.RowKit Go.Shelf

set_option maxRecDepth 100000 in
set_option maxHeartbeats 16000000 in
theorem wireTruncated_walk (c : Nat) (n : Int) (s : Bs) (p : Option Addr) (lz cap : Nat) (q : Option Addr) (lt cap2 : Nat) (zs : List Int) (ts : List Bs) (less : Nat) (w0 : World) (hv : Vars w0) (hval : ValIn w0 c n s p lz cap (.slice q lt cap2) zs ts) (hl : less < 65536) :
    Calls Tryd.prog 7 #[valV c n s p lz cap (.slice q lt cap2), .int .u16 less] w0 fun e w' => e = .returned (.bool true) ∧ Ext w0 w' := by
  unfold valV
  have V0 := Lib.hid hv
  have HV := Lib.hid hval
  have hsz := bytes_size s
  obtain ⟨s1, hs1⟩ : ∃ s1, s1 = s.take 100 := ⟨_, rfl⟩
  obtain ⟨zs1, hzs1⟩ : ∃ zs1, zs1 = zs.take 20 := ⟨_, rfl⟩
  obtain ⟨ts1, hts1⟩ : ∃ ts1, ts1 = cutL ts := ⟨_, rfl⟩
  have hcut : (⟨s.toArray⟩ : ByteArray).extract 0 (min s.length 100) = ⟨s1.toArray⟩ := by rw [hs1]; exact cut_bytes s 100
  have hmin1 : min (s.length : Int) 100 = ((min s.length 100 : Nat) : Int) := by omega
  have hle1 : min s.length 100 ≤ s.length := Nat.min_le_left _ _
  obtain ⟨lz1, hlz1⟩ : ∃ lz1, lz1 = min lz 20 := ⟨_, rfl⟩
  have hmin2 : min (lz : Int) 20 = (lz1 : Int) := by omega
  have hle2 : lz1 ≤ cap := by have := hval.hcap; omega
  have hcutz : SlOf encI (fun b => b < w0.heap.size) w0 (.slice p lz1 cap) zs1 := by rw [hlz1, hzs1]; exact hval.hz.cut 20
  have hslen := hval.hs
  have hzo1 : AllOk I64 zs1 := by rw [hzs1]; exact hval.hzo.take 20
  have hto1 : AllOk (fun x => x.length ≤ 100) ts1 := by rw [hts1]; exact cutL_ok
  have hs1l : s1.length ≤ 100 := by rw [hs1, List.length_take]; omega
  have HZ := Lib.hid hcutz
  have HO1 := Lib.hid hzo1
  have HO2 := Lib.hid hto1
  have HS1 := Lib.hid hs1
  have HZS1 := Lib.hid hzs1
  have HTS1 := Lib.hid hts1
  have HS1L := Lib.hid hs1l
  have hb2 : (serL serInt zs1).length ≤ 140737488355328 := by have := serInts_le (k := 20) hzo1 (by rw [hzs1, List.length_take]; omega); omega
  have hb3 : (serL serText ts1).length ≤ 140737488355328 := by have := serTexts_le hto1 (by rw [hts1]; exact cutL_length ts); omega
  have HB2 := Lib.hid hb2
  have HB3 := Lib.hid hb3
  have hlen := serK_len (j := c % 4) (s := s) (ts := ts) hval.hn hval.hzo
  have HLEN := Lib.hid hlen
  have hj4 : c % 4 < 4 := Nat.mod_lt _ (by decide)
  have HSHORT : Hid (∀ p q : Bs, serK (c % 4) n s zs ts = p ++ q → q ≠ [] → NoneK (c % 4) p) := fun p q h hq => serK_short hval.hn hval.hzo hj4 h hq
  have hc256 := hval.hc
  have hmin1' := hmin1
  have HMIN1 := Lib.hid hmin1
  have HMIN2 := Lib.hid hmin2
  have HCUT := Lib.hid hcut
  have HLE1 := Lib.hid hle1
  have HLE2 := Lib.hid hle2
  have HC := Lib.hid hc256
  have hw3 : IntKind.i64.wrap (less : Int) = (less : Int) := by rw [IntKind.wrap_i64]; omega
  clear hmin1 hmin2 hcut hle1 hle2 hmin1' hsz
  clear hv hval hcutz hzo1 hto1 hs1 hzs1 hts1 hb2 hb3 hlz1 hs1l hlen
  go_enter Tryd.func7, Tryd.ntmps7
  go_wp2_with fail
  have hvc := vcells_new w0 45 c n s p lz cap (.slice q lt cap2)
  obtain ⟨W1, hW1⟩ : ∃ W, W = w0.alloc (.cells #[.int .u8 c, .int .i64 n, .string ⟨s.toArray⟩, .slice p lz cap, .slice q lt cap2] 45) := ⟨_, rfl⟩
  have hx1 : Ext w0 W1 := by rw [hW1]; exact Ext.alloc _ _
  have hgl : w0.heap.size < W1.heap.size := by rw [hW1]; simp
  rw [← hW1] at hvc ⊢
  obtain ⟨g, hg⟩ : ∃ g, g = w0.heap.size := ⟨_, rfl⟩
  rw [← hg] at hvc hgl ⊢
  have X1 := Lib.hid hx1
  have V1 : Hid (Vars W1) := V0.out.ext hx1
  have VC1 := Lib.hid hvc
  have GL := Lib.hid hgl
  have HG := Lib.hid hg
  clear hW1 hx1 hgl hvc hg
  refine (sanity_calls W1 V1.out).mono ?_
  rintro e w2 ⟨rfl, hx2⟩
  have X2 : Hid (Ext W1 w2.drew) := hx2.trans (Ext.drew w2)
  clear hx2
  have VC2 := Lib.hid (VC1.out.ext GL.out X2.out)
  have GL2 : Hid (g < w2.drew.heap.size) := Nat.lt_of_lt_of_le GL.out (Below.size X2.out)
  have V2 : Hid (Vars w2.drew) := V1.out.ext X2.out
  have XA : Hid (Ext w0 w2.drew) := X1.out.trans X2.out
  go_wp2
  refine wp_region_inv (fun D ac w' => ∃ vs : Nat → Value, ac = { tmps := #[valV c n s p lz cap (.slice q lt cap2), .int .u16 less, .pointer (some ⟨g, 0, none⟩), undef, .bool false, .bool true, vs 29, undef, undef, .bool true, vs 0, vs 1, vs 2, vs 3, vs 4, vs 5, vs 6, vs 7, vs 8, vs 9, vs 10, vs 11, vs 12, vs 13, vs 14, vs 15, vs 16, vs 17, vs 18, vs 19, vs 20, vs 21, vs 22, vs 23, vs 24, vs 25, vs 26, vs 27, vs 28, undef, undef, undef, undef, undef, undef, undef, undef, undef, undef, undef, undef, undef, undef, undef, undef, undef, undef, undef, undef, undef, undef, undef, undef, undef, undef, undef, undef, undef, undef, undef, undef, undef, undef, undef, undef, undef, undef, undef, undef, undef, undef, undef, undef, undef, undef, undef, undef, undef, undef], defers := [] } ∧ Ext w2.drew w' ∧ ∀ k, D k → (valF g c n s p lz cap (.slice q lt cap2) s1 lz1 zs1 ts1 (c % 4)) k (vs k) w') (by kernel_rfl) (by kernel_rfl) ?start ?step ?fin
  case start => exact ⟨fun _ => undef, rfl, Ext.refl _, fun _ h => h.elim⟩
  case step =>
    rintro i o D ac wz hio hn he ⟨vs, rfl, k0, hF⟩
    rcases i with _ | _ | _ | _ | _ | _ | _ | _ | _ | _ | _ | _ | _ | _ | _ | _ | _ | _ | _ | _ | _ | _ | _ | _ | _ | _ | _ | _ | _ | _ | i
    rotate_left 30
    · exact absurd hio (by simp)
    all_goals (obtain rfl := Option.some.inj (hio.symm.trans (by rfl)))
    · exact wp_of_run (run_field1 (.tmp 2) rfl g rfl) ⟨upd vs 0 _, rfl, k0, inv_same hF rfl⟩
    · exact wp_of_run (run_load_i (.tmp 10) rfl ⟨g, 1, none⟩ (by exact (hF 0 (he ⟨0, .data⟩ (by simp) rfl))) n (VC2.out.ext GL2.out k0).2.1) ⟨upd vs 1 _, rfl, k0, inv_same hF rfl⟩
    · refine wp_of_callE (run_enter1 12 (.tmp 11) _ rfl _ (by exact (hF 1 (he ⟨1, .data⟩ (by simp) rfl))) ent_int) (int_calls n HV.out.hn (by have := serInt_le HV.out.hn; omega) wz (V2.out.ext k0)) ?_
      rintro e w' ⟨rfl, hx⟩
      exact ⟨_, rfl, upd vs 2 _, rfl, k0.trans hx, inv_step hF (fun k v h => valF_mono hx h) rfl⟩
    · exact wp_of_run (run_field2 (.tmp 2) rfl g rfl) ⟨upd vs 3 _, rfl, k0, inv_same hF rfl⟩
    · exact wp_of_run (run_load_s (.tmp 13) rfl ⟨g, 2, none⟩ (by exact (hF 3 (he ⟨3, .data⟩ (by simp) rfl))) ⟨s.toArray⟩ (VC2.out.ext GL2.out k0).2.2.1) ⟨upd vs 4 _, rfl, k0, inv_same hF rfl⟩
    · exact wp_of_run (run_field2 (.tmp 2) rfl g rfl) ⟨upd vs 5 _, rfl, k0, inv_same hF rfl⟩
    · exact wp_of_run (run_load_s (.tmp 15) rfl ⟨g, 2, none⟩ (by exact (hF 5 (he ⟨5, .data⟩ (by simp) rfl))) ⟨s.toArray⟩ (VC2.out.ext GL2.out k0).2.2.1) ⟨upd vs 6 _, rfl, k0, inv_same hF rfl⟩
    · exact wp_of_run (run_len_s (.tmp 16) _ rfl rfl s (by exact (hF 6 (he ⟨6, .data⟩ (by simp) rfl)))) ⟨upd vs 7 _, rfl, k0, inv_same hF rfl⟩
    · exact wp_of_run (run_min (.tmp 17) 100 _ rfl rfl rfl s.length _ (by exact (hF 7 (he ⟨7, .data⟩ (by simp) rfl))) HMIN1.out) ⟨upd vs 8 _, rfl, k0, inv_same hF rfl⟩
    · exact wp_of_run (run_slice_s (.tmp 14) (.tmp 18) rfl s s1 (min s.length 100) (by exact (hF 4 (he ⟨4, .data⟩ (by simp) rfl))) (by exact (hF 8 (he ⟨8, .data⟩ (by simp) rfl))) HLE1.out HCUT.out) ⟨upd vs 9 _, rfl, k0, inv_same hF rfl⟩
    · refine wp_of_callE (run_enter1 14 (.tmp 19) _ rfl _ (by exact (hF 9 (he ⟨9, .data⟩ (by simp) rfl))) ent_text) (text_calls s1 (by have := HS1L.out; unfold TextOk; omega) (by have := serText_le HS1L.out; omega) wz (V2.out.ext k0)) ?_
      rintro e w' ⟨rfl, hx⟩
      exact ⟨_, rfl, upd vs 10 _, rfl, k0.trans hx, inv_step hF (fun k v h => valF_mono hx h) rfl⟩
    · exact wp_of_run (run_field3 (.tmp 2) rfl g rfl) ⟨upd vs 11 _, rfl, k0, inv_same hF rfl⟩
    · exact wp_of_run (run_load_si (.tmp 21) rfl ⟨g, 3, none⟩ (by exact (hF 11 (he ⟨11, .data⟩ (by simp) rfl))) p lz cap (VC2.out.ext GL2.out k0).2.2.2.1) ⟨upd vs 12 _, rfl, k0, inv_same hF rfl⟩
    · exact wp_of_run (run_field3 (.tmp 2) rfl g rfl) ⟨upd vs 13 _, rfl, k0, inv_same hF rfl⟩
    · exact wp_of_run (run_load_si (.tmp 23) rfl ⟨g, 3, none⟩ (by exact (hF 13 (he ⟨13, .data⟩ (by simp) rfl))) p lz cap (VC2.out.ext GL2.out k0).2.2.2.1) ⟨upd vs 14 _, rfl, k0, inv_same hF rfl⟩
    · exact wp_of_run (run_len_si (.tmp 24) _ rfl rfl p lz cap (by exact (hF 14 (he ⟨14, .data⟩ (by simp) rfl)))) ⟨upd vs 15 _, rfl, k0, inv_same hF rfl⟩
    · exact wp_of_run (run_min (.tmp 25) 20 _ rfl rfl rfl lz _ (by exact (hF 15 (he ⟨15, .data⟩ (by simp) rfl))) HMIN2.out) ⟨upd vs 16 _, rfl, k0, inv_same hF rfl⟩
    · exact wp_of_run (run_slice_i (.tmp 22) (.tmp 26) rfl p lz cap lz1 (by exact (hF 12 (he ⟨12, .data⟩ (by simp) rfl))) (by exact (hF 16 (he ⟨16, .data⟩ (by simp) rfl))) HLE2.out) ⟨upd vs 17 _, rfl, k0, inv_same hF rfl⟩
    · refine wp_of_callE (run_enter1 16 (.tmp 27) _ rfl _ (by exact (hF 17 (he ⟨17, .data⟩ (by simp) rfl))) ent_ints) (ints_calls _ zs1 _ wz (V2.out.ext k0) (HZ.out.ext (XA.out.trans k0)) HO1.out HB2.out) ?_
      rintro e w' ⟨rfl, hx⟩
      exact ⟨_, rfl, upd vs 18 _, rfl, k0.trans hx, inv_step hF (fun k v h => valF_mono hx h) rfl⟩
    · exact wp_of_run (run_field4 (.tmp 2) rfl g rfl) ⟨upd vs 19 _, rfl, k0, inv_same hF rfl⟩
    · exact wp_of_run (run_load_ss (.tmp 29) rfl ⟨g, 4, none⟩ (by exact (hF 19 (he ⟨19, .data⟩ (by simp) rfl))) q lt cap2 (VC2.out.ext GL2.out k0).2.2.2.2) ⟨upd vs 20 _, rfl, k0, inv_same hF rfl⟩
    · refine wp_of_callE (run_enter1 11 (.tmp 30) _ rfl _ (by exact (hF 20 (he ⟨20, .data⟩ (by simp) rfl))) ent_cut) (HTS1.out ▸ cutl_calls (.slice q lt cap2) ts _ wz (HV.out.ht.ext (XA.out.trans k0)) HV.out.hto) ?_
      rintro e w' ⟨v', rfl, hs, hx⟩
      exact ⟨_, rfl, upd vs 21 _, rfl, k0.trans hx, inv_step hF (fun k v h => valF_mono hx h) (SlOf.kind hs (fun _ _ _ => trivial))⟩
    · refine wp_of_callE (run_enter1 18 (.tmp 31) _ rfl _ rfl ent_texts) (texts_calls _ ts1 _ wz (V2.out.ext k0) (hF 21 (he ⟨21, .data⟩ (by simp) rfl)) (ok_of_short HO2.out) HB3.out) ?_
      rintro e w' ⟨rfl, hx⟩
      exact ⟨_, rfl, upd vs 22 _, rfl, k0.trans hx, inv_step hF (fun k v h => valF_mono hx h) rfl⟩
    · exact wp_of_run (run_build4 (.tmp 12) (.tmp 20) (.tmp 28) (.tmp 32) rfl _ _ _ _ (by exact (hF 2 (he ⟨2, .data⟩ (by simp) rfl))) (by exact (hF 10 (he ⟨10, .data⟩ (by simp) rfl))) (by exact (hF 18 (he ⟨18, .data⟩ (by simp) rfl))) (by exact (hF 22 (he ⟨22, .data⟩ (by simp) rfl)))) ⟨upd vs 23 _, rfl, k0.trans (Ext.alloc _ _), inv_step hF (fun k v h => valF_mono (Ext.alloc _ _) h) ⟨_, rfl, heap_alloc_new _ _⟩⟩
    · exact wp_of_run (run_field0 (.tmp 2) rfl g rfl) ⟨upd vs 24 _, rfl, k0, inv_same hF rfl⟩
    · exact wp_of_run (run_load_u8 (.tmp 34) rfl ⟨g, 0, none⟩ (by exact (hF 24 (he ⟨24, .data⟩ (by simp) rfl))) c (VC2.out.ext GL2.out k0).1) ⟨upd vs 25 _, rfl, k0, inv_same hF rfl⟩
    · exact wp_of_run (run_rem4 (.tmp 35) rfl rfl c (c % 4) HC.out rfl (by exact (hF 25 (he ⟨25, .data⟩ (by simp) rfl)))) ⟨upd vs 26 _, rfl, k0, inv_same hF rfl⟩
    · obtain ⟨G, hG, hrow⟩ := (hF 23 (he ⟨23, .data⟩ (by simp) rfl))
      exact wp_of_run (run_index4 (.tmp 33) (.tmp 36) rfl G (c % 4) hG (by exact (hF 26 (he ⟨26, .data⟩ (by simp) rfl))) (Nat.mod_lt _ (by decide))) ⟨upd vs 27 _, rfl, k0, inv_same hF ⟨G, rfl, hrow⟩⟩
    · obtain ⟨G, hG, hrow⟩ := (hF 27 (he ⟨27, .data⟩ (by simp) rfl))
      exact wp_of_run (run_load_s (.tmp 37) rfl ⟨G, c % 4, none⟩ (by exact hG) _ (by rw [Lib.cell_of_heap hrow]; exact parts_at (Nat.mod_lt _ (by decide)) _ _ _ _)) ⟨upd vs 28 _, rfl, k0, inv_same hF rfl⟩
    · exact wp_of_run (run_assign (.tmp 38) rfl _ (hF 28 (he ⟨28, .data⟩ (by simp) rfl))) ⟨upd vs 29 _, rfl, k0, inv_same hF rfl⟩
  case fin =>
    rintro D ac wz hD ⟨vs, rfl, k0, hF⟩
    have h6 : vs 29 = .string ⟨(part (c % 4) n s1 zs1 ts1).toArray⟩ := hF 29 (hD 29 (by simp))
    have XZ := Lib.hid (XA.out.trans k0)
    have VZ : Hid (Vars wz) := V2.out.ext k0
    obtain ⟨k0c, -⟩ := (VC2.out.ext GL2.out k0)
    have GLZ : Hid (g < wz.heap.size) := Nat.lt_of_lt_of_le GL2.out (Below.size k0)
    have VCZ := Lib.hid (VC2.out.ext GL2.out k0)
    rw [h6]
    have hser : part (c % 4) n s1 zs1 ts1 = serK (c % 4) n s zs ts := by rw [HS1.out, HZS1.out, HTS1.out]; exact part_serK
    rw [hser]
    clear hD hF h6 k0 hser
    generalize vs = ws
    obtain ⟨L, hL⟩ : ∃ L, L = serK (c % 4) n s zs ts := ⟨_, rfl⟩
    rw [← hL] at HLEN HSHORT ⊢
    obtain ⟨j, hjj⟩ : ∃ j, j = c % 4 := ⟨_, rfl⟩
    have hj1 : (c : Int) % 4 = (j : Int) := by omega
    have hj2 : (c : Int).tmod 4 = (j : Int) := by rw [Int.tmod_eq_emod_of_nonneg (by omega)]; exact hj1
    have hj3 : IntKind.i64.wrap (j : Int) = (j : Int) := by rw [IntKind.wrap_i64]; omega
    have hj4' : j < 4 := by omega
    rw [← hjj] at HSHORT
    obtain ⟨l, hl2⟩ : ∃ l, l = L.length := ⟨_, rfl⟩
    have hl1 := HLEN.out
    rw [← hl2] at hl1
    obtain ⟨r, hr⟩ : ∃ r, r = less % l := ⟨_, rfl⟩
    have hrl : r < l := by rw [hr]; exact Nat.mod_lt _ hl1.2
    obtain ⟨d, hd⟩ : ∃ d, d = l - 1 - r := ⟨_, rfl⟩
    have hsz := bytes_size L
    rw [← hl2] at hsz
    have e1 : (less : Int) % (l : Int) = (r : Int) := by rw [hr]; omega
    have e2 : (less : Int).tmod (l : Int) = (r : Int) := by rw [Int.tmod_eq_emod_of_nonneg (by omega)]; exact e1
    have e3 : IntKind.i64.wrap ((l : Int) - 1) = (l : Int) - 1 := by rw [IntKind.wrap_i64]; omega
    have e4 : IntKind.i64.wrap (d : Int) = (d : Int) := by rw [IntKind.wrap_i64]; omega
    have e5 : (l : Int) - 1 - (r : Int) = (d : Int) := by omega
    have e6 : ((l : Int) == 0) = false := by simp; omega
    have e7 : d ≤ l := by omega
    have e9 : IntKind.i64.wrap (r : Int) = (r : Int) := by rw [IntKind.wrap_i64]; omega
    have e8 : (⟨L.toArray⟩ : ByteArray).extract 0 d = ⟨(L.take d).toArray⟩ := bytes_take L d
    obtain ⟨M, hM⟩ : ∃ M, M = L.take d := ⟨_, rfl⟩
    rw [← hM] at e8
    have hnone : NoneK j M := by
      refine HSHORT.out M (L.drop d) (by rw [hM, List.take_append_drop]) (fun e => ?_)
      have h1 := congrArg List.length e
      rw [List.length_drop, List.length_nil] at h1
      omega
    have hMl : M.length ≤ 4294967280 := by rw [hM, List.length_take]; omega
    have HN := Lib.hid hnone
    have HML := Lib.hid hMl
    have HL2 := Lib.hid hl2
    clear hL hjj hl2 hl1 hr hd hM hnone hMl hrl
    go_wp2_with fail
    refine (new_calls M wz VZ.out.low).mono ?_
    rintro e w3 ⟨rfl, hr3, hx3⟩
    have R3 := Lib.hid hr3
    have X3 := Lib.hid hx3
    have V3 : Hid (Vars w3) := VZ.out.ext hx3
    obtain ⟨v0, v1, v2, v3, v4⟩ := VCZ.out.ext GLZ.out hx3
    obtain ⟨b, hb⟩ : ∃ b, b = wz.heap.size := ⟨_, rfl⟩
    rw [← hb] at R3 ⊢
    have HB := Lib.hid hb
    unfold ptrV
    clear hr3 hx3 hb v1 v2 v3 v4 k0c
    go_wp2_with fail
    refine (decodes_calls (some b) (some M) j hj4' HN.out HML.out w3 V3.out R3.out).mono ?_
    rintro e w4 ⟨rfl, hr4, hk4⟩
    have R4 := Lib.hid hr4
    have K4 := Lib.hid hk4
    have V4 : Hid (Vars w4) := V3.out.keep hk4 R3.out.low
    clear hr4 hk4 v0
    go_wp2_with fail
    refine (bad_calls (some b) none w4 R4.out).mono ?_
    rintro e w5 ⟨rfl, rfl⟩
    simp only [Option.isNone_none]
    go_wp2_with fail
    go_loopw [8] (fun i wr => ∃ k : Nat, k ≤ 4 ∧ i = .int .i64 (k : Int) ∧ RdP (some b) none wr ∧ Keep (some b) w3 wr) (fun i _ => 4 - (intOf i).toNat)
    case atStart => exact ⟨0, by omega, rfl, R4.out, K4.out⟩
    case round =>
      obtain ⟨k, hk, rfl, hrr, hkk⟩ := hrel
      have RR := Lib.hid hrr
      have KR := Lib.hid hkk
      have VR : Hid (Vars wr) := V3.out.keep hkk R3.out.low
      clear hrr hkk
      by_cases hlt : k < 4
      · go_wp2_with fail
        refine (decodes_calls (some b) none k hlt (noneK_empty k) (by decide) wr VR.out RR.out).mono ?_
        rintro e w6 ⟨rfl, hr6, hk6⟩
        have R6 := Lib.hid hr6
        have K6 := Lib.hid hk6
        clear hr6 hk6
        go_wp2_with fail
        refine (bad_calls (some b) none w6 R6.out).mono ?_
        rintro e w7 ⟨rfl, rfl⟩
        simp only [Option.isNone_none]
        go_wp2_with fail
        refine (left_calls (some b) none w7 R6.out).mono ?_
        rintro e w8 ⟨rfl, rfl⟩
        simp only [Option.getD_none, List.length_nil]
        have KR2 : Hid (Keep (some b) w3 w8) := KR.out.trans K6.out
        go_wp2
        go_roundw
        case rel => exact ⟨k + 1, by omega, by go_num, R6.out, KR2.out⟩
        case measure => simp [intOf]; omega
      · go_wp2
        go_ret
        exact ⟨rfl, Keep.new (XZ.out.trans X3.out) (fun c e => by cases e; rw [HB.out]; exact Below.size XZ.out) KR.out⟩

end Go.Proofs.YtckhbejgkgpilaaDoor
