/- The walk of WireInverse. -/
import Derived.Test.YtckhbejgkgpilaaDoorInvB
set_option linter.all false
namespace Go.Proofs.YtckhbejgkgpilaaDoor
open Go Go.RowKit Go.Shelf

theorem info_val : ∃ i z, Tryd.prog.info? 45 = some i ∧ i.zero = some z ∧ i.size = 5 ∧ i.bytes = 80 ∧ z.cells.size = 5 := by
  obtain ⟨i, hi, e⟩ := Option.map_eq_some_iff.1 (show (Tryd.prog.info? 45).map (fun i => (i.zero, i.size, i.bytes)) = some (some (.agg #[.int .u8 0, .int .i64 0, .string ⟨#[]⟩, .slice none 0 0, .slice none 0 0]), 5, 80) by kernel_rfl)
  simp only [Prod.mk.injEq] at e
  exact ⟨i, _, hi, e.1, e.2.1, e.2.2, rfl⟩

set_option maxRecDepth 100000 in
set_option maxHeartbeats 16000000 in
theorem wireInverse_walk (u : Value) (ds : List VD) (w0 : World) (hv : Vars w0) (hu : VRow (fun b => b < w0.heap.size) w0 u ds ∧ ∀ d ∈ ds, VD.In w0 d) :
    Calls Tryd.prog 5 #[u] w0 fun e w' => e = .returned (.bool true) ∧ Ext w0 w' := by
  have V0 := Lib.hid hv
  have HIN := Lib.hid hu.2
  obtain ⟨p, cap, rfl, hcap, hmx, hcs⟩ := hu.1
  have HCS := Lib.hid hcs
  obtain ⟨n, hn⟩ : ∃ n, n = ds.length := ⟨_, rfl⟩
  rw [← hn] at hcap hmx ⊢
  have HN := Lib.hid hn
  clear hv hu hn hcs
  obtain ⟨m, hm⟩ : ∃ m, m = min n 8 := ⟨_, rfl⟩
  have hmin : min (n : Int) 8 = (m : Int) := by omega
  have hle : m ≤ cap := by omega
  have hm8 : m ≤ 8 := by omega
  have hmn : m ≤ n := by omega
  clear hm hmx
  obtain ⟨i0, z0, hi, hz0, hz1, hz2, hz3⟩ := info_val
  have HI := Lib.hid hi
  have HZ0 := Lib.hid hz0
  have HZ1 := Lib.hid hz1
  have HZ2 := Lib.hid hz2
  have HZ3 := Lib.hid hz3
  clear hi hz0 hz1 hz2 hz3
  go_enter Tryd.func5, Tryd.ntmps5
  go_wp2_with fail
  refine (sanity_calls w0 V0.out).mono ?_
  rintro e w1 ⟨rfl, hx1⟩
  have X1 := Lib.hid hx1
  have V1 : Hid (Vars w1) := V0.out.ext hx1
  clear hx1
  go_wp2
  obtain ⟨B, hB⟩ : ∃ B, B = w1.heap.size := ⟨_, rfl⟩
  have HB := Lib.hid hB
  have HB0 : Hid (w0.heap.size ≤ B) := by show _ ≤ _; rw [hB]; exact Below.size X1.out
  clear hB
  go_loopw [4, 5, 19] (fun v s i wr => ∃ (k : Nat) (es : List VD), k ≤ m ∧ es.length = k ∧ i = .int .i64 (k : Int) ∧ s = .string ⟨(es.flatMap VD.ser).toArray⟩ ∧ wr.ownsRow B 45 5 v k (es.flatMap VD.cells) ∧ (∀ d ∈ es, VD.Cut (fun b => v.ownBlock ≠ some b) wr d) ∧ Ext w0 wr ∧ B ≤ wr.heap.size) (fun v s i _ => 8 - (intOf i).toNat)
  case atStart => exact ⟨0, [], by omega, rfl, rfl, rfl, World.ownsRow_nil _ _ _ _, fun _ h => absurd h (by simp), X1.out, by rw [HB.out]; exact Nat.le_refl _⟩
  case round =>
    obtain ⟨k, es, hk, hes, rfl, rfl, hown, hcut, hx, hBw⟩ := hrel
    have HES := Lib.hid hes
    have OWN := Lib.hid hown
    have CUT := Lib.hid hcut
    have XR := Lib.hid hx
    have VR : Hid (Vars wr) := V0.out.ext hx
    clear hes hown hcut hx
    by_cases hlt : k < m
    · have hI : (k : Int) < (m : Int) := by omega
      obtain ⟨d, hd⟩ : ∃ d, ds[k]? = some d := ⟨_, List.getElem?_eq_getElem (by rw [← HN.out]; omega)⟩
      have hin := HIN.out d (List.mem_of_getElem? hd)
      have IN := Lib.hid hin
      obtain ⟨b, off, rfl, -, hbl, hcells⟩ := HCS.out (by have := HN.out; omega)
      have hrg := hcells k d hd
      have c0 : wr.cell? ⟨b, off + k * 5, none⟩ = some _ := (Below.cell XR.out (p := ⟨b, off + k * 5, none⟩) hbl).trans (hrg 0 _ rfl)
      have c1 := (Below.cell XR.out (p := ⟨b, off + k * 5 + 1, none⟩) hbl).trans (hrg 1 _ rfl)
      have c2 := (Below.cell XR.out (p := ⟨b, off + k * 5 + 2, none⟩) hbl).trans (hrg 2 _ rfl)
      have c3 := (Below.cell XR.out (p := ⟨b, off + k * 5 + 3, none⟩) hbl).trans (hrg 3 _ rfl)
      have c4 := (Below.cell XR.out (p := ⟨b, off + k * 5 + 4, none⟩) hbl).trans (hrg 4 _ rfl)
      clear hrg hcells hd hbl hin
      obtain ⟨c, z, s, pz, lz, capz, q, lt, capt, zs, ts⟩ := d
      dsimp only at c0 c1 c2 c3 c4
      have hval : ValIn w0 c z s pz lz capz (.slice q lt capt) zs ts := IN.out
      have HV := Lib.hid hval
      have hsz := bytes_size s
      obtain ⟨s1, hs1⟩ : ∃ s1, s1 = s.take 100 := ⟨_, rfl⟩
      obtain ⟨zs1, hzs1⟩ : ∃ zs1, zs1 = zs.take 20 := ⟨_, rfl⟩
      obtain ⟨ts1, hts1⟩ : ∃ ts1, ts1 = cutL ts := ⟨_, rfl⟩
      have hcut : (⟨s.toArray⟩ : ByteArray).extract 0 (min s.length 100) = ⟨s1.toArray⟩ := by rw [hs1]; exact cut_bytes s 100
      have hmin1 : min (s.length : Int) 100 = ((min s.length 100 : Nat) : Int) := by omega
      have hle1 : min s.length 100 ≤ s.length := Nat.min_le_left _ _
      obtain ⟨lz1, hlz1⟩ : ∃ lz1, lz1 = min lz 20 := ⟨_, rfl⟩
      have hmin2 : min (lz : Int) 20 = (lz1 : Int) := by omega
      have hle2 : lz1 ≤ capz := by have := hval.hcap; omega
      have hcutz : SlOf encI (fun b => b < w0.heap.size) w0 (.slice pz lz1 capz) zs1 := by rw [hlz1, hzs1]; exact hval.hz.cut 20
      have hslen := hval.hs
      have HZ := Lib.hid hcutz
      have HS1 := Lib.hid hs1
      have HZS1 := Lib.hid hzs1
      have HTS1 := Lib.hid hts1
      clear hval hs1 hzs1 hts1 hcutz hlz1
      go_wp2_with fail
      have hvc := vcells_new wr 45 c z s1 pz lz1 capz (.slice q lt capt)
      obtain ⟨o1, ho1⟩ : ∃ o, o = Obj.cells #[.int .u8 c, .int .i64 z, .string ⟨s1.toArray⟩, .slice pz lz1 capz, .slice q lt capt] 45 := ⟨_, rfl⟩
      rw [← ho1] at hvc ⊢
      have VC := Lib.hid hvc
      have hfz : (wr.alloc o1).frozen? ⟨wr.heap.size, 4, none⟩ = false := by rw [ho1]; simp only [World.frozen?, heap_alloc_new]; rfl
      have FZ := Lib.hid hfz
      clear hfz
      clear ho1 hvc c0 c1 c2 c3 c4 hmin1 hle1 hcut hmin2 hle2 hslen hsz
      refine (cutl_calls (.slice q lt capt) ts _ (wr.alloc o1) (HV.out.ht.ext (XR.out.trans (Ext.alloc wr o1))) HV.out.hto).mono ?_
      rintro e w2 ⟨v1, rfl, hs2, hx2⟩
      have X2 := Lib.hid hx2
      have hvc2 := VC.out.ext (by simp) hx2
      have hfz2 : w2.frozen? ⟨wr.heap.size, 4, none⟩ = false := (World.frozen?_of_block (a := ⟨wr.heap.size, 4, none⟩) (Below.block hx2 wr.heap.size (by simp))).trans FZ.out
      have VC2 := Lib.hid hvc2
      obtain ⟨v0, v1, v2, v3, v4⟩ := hvc2
      obtain ⟨q1, capt1, rfl, ht1m, -⟩ := id hs2
      rw [← HTS1.out] at hs2 ⊢
      obtain ⟨lt1, hlt1⟩ : ∃ l, l = ts1.length := ⟨_, rfl⟩
      rw [← hlt1] at hs2 ⊢
      have S2 := Lib.hid hs2
      have HLT1 := Lib.hid hlt1
      clear hs2 hx2 hlt1 ht1m
      obtain ⟨d1, hd1⟩ : ∃ d1, d1 = VD.mk c z s1 pz lz1 capz q1 lt1 capt1 zs1 ts1 := ⟨_, rfl⟩
      have HD1 := Lib.hid hd1
      have hw2 : wr.heap.size < w2.heap.size := by have := Below.size X2.out; simp at this; omega
      have Hown : Hid (∀ o, ((w2.setCell ⟨wr.heap.size, 4, none⟩ (.slice q1 lt1 capt1)).alloc o).ownsRow B 45 5 u4 k (es.flatMap VD.cells)) := by
        intro o
        exact World.ownsRow.alloc (own_keep (own_keep (own_keep (rb := none) OWN.out (Ext.alloc wr o1).keep (fun _ e => by cases e)) X2.out.keep (rb := none) (fun _ e => by cases e)) (Keep.set w2 4 (.slice q1 lt1 capt1)) (fun x e h => by cases e; have := (World.ownsRow.lt OWN.out _ h).2; omega)) o
      have hzz : SlOf encI (fun b => b < w0.heap.size) w0 (.slice pz lz1 capz) zs1 := HZ.out
      have hzo1 : AllOk I64 zs1 := by rw [HZS1.out]; exact HV.out.hzo.take 20
      have hzl1 : zs1.length ≤ 20 := by rw [HZS1.out, List.length_take]; omega
      have hto1 : AllOk (fun x => x.length ≤ 100) ts1 := by rw [HTS1.out]; exact cutL_ok
      have htl1 : ts1.length ≤ 20 := by rw [HTS1.out]; exact cutL_length ts
      have hsl1 : s1.length ≤ 100 := by rw [HS1.out, List.length_take]; omega
      have HAP : Hid (∀ v' w4 o2, w4.ownsRow B 45 5 v' (k + 1) (es.flatMap VD.cells ++ d1.cells) → ((w2.setCell ⟨wr.heap.size, 4, none⟩ (.slice q1 lt1 capt1)).alloc o2).grownBy w4 u4.ownBlock → (v'.ownBlock = u4.ownBlock ∨ v'.ownBlock = some ((w2.setCell ⟨wr.heap.size, 4, none⟩ (.slice q1 lt1 capt1)).alloc o2).heap.size) → Ext w0 w4 ∧ B ≤ w4.heap.size ∧ w4.ownsRow B 45 5 v' (k + 1) ((es ++ [d1]).flatMap VD.cells) ∧ (∀ e ∈ es ++ [d1], VD.Cut (fun b => v'.ownBlock ≠ some b) w4 e) ∧
          VCells w4 wr.heap.size d1.c d1.n d1.s d1.p d1.lz d1.cap (.slice d1.q d1.lt d1.cap2) ∧ wr.heap.size < w4.heap.size) := by
        subst hd1
        intro v' w4 o2 a1 a2 a3
        exact inv_append XR.out HB0.out hBw OWN.out CUT.out X2.out hzz S2.out HV.out.hc HV.out.hn hsl1 hzo1 hzl1 hto1 htl1 VC2.out rfl a1 a2 a3
      clear hzz hzo1 hzl1 hto1 htl1 hsl1
      have hd1c : d1.cells = [.int .u8 c, .int .i64 z, .string ⟨s1.toArray⟩, .slice pz lz1 capz, .slice q1 lt1 capt1] := by subst hd1; rfl
      clear hd1
      go_wp2_with (at_builtin; refine wpList_append_own_at _ rfl (.tmp 43) (.tmp 45) 43 rfl B 45 i0 z0 5 80 Tryd.underlying43 HI.out HZ0.out HZ1.out HZ2.out HZ3.out (by decide) _ _ _ rfl (Hown.out _) ⟨w2.heap.size, 0, none⟩ 1 1 d1.cells rfl rfl (by rw [hd1c]; exact cells_new' _ _ (by simp) _ _) (cells_one d1) (by unfold maxLen; omega) (by omega) (by simp; omega) ?_; intro v' w4 hown' hgrow _ hblk; have HA4 := Lib.hid (HAP.out _ _ _ hown' hgrow hblk); clear hown' hgrow hblk v0 v1 v2 v3 v4 hd1c hfz2)
      obtain ⟨x4, hB4, own4, cut4, c4, gl4⟩ := HA4.out
      have X4 := Lib.hid x4
      have HB4 := Lib.hid hB4
      have OWN4 := Lib.hid own4
      have CUT4 := Lib.hid cut4
      have CU4 := Lib.hid ((cut4 d1 (by simp)).ext (Ext.drew w4))
      have C4 := Lib.hid (c4.ext gl4 (Ext.drew w4))
      have GL4 : Hid (wr.heap.size < w4.drew.heap.size) := gl4
      have V4 : Hid (Vars w4.drew) := V0.out.ext (x4.trans (Ext.drew w4))
      have SL : Hid ((es.flatMap VD.ser).length ≤ 8388608) := by
        have := flat_ser_le CUT.out
        have := HES.out
        show _ ≤ _; omega
      clear x4 hB4 own4 cut4 c4 gl4 HA4 HAP
      try go_wp2
      refine wp_region_inv (fun D ac w' => ∃ vs : Nat → Value, ac = { tmps := #[Value.slice (some ⟨b, off, none⟩) n cap, undef, .bool false, .bool true, v', vs 20, undef, .pointer (some ⟨wr.heap.size, 0, none⟩), undef, undef, undef, undef, .bool true, .slice (some ⟨b, off, none⟩) n cap, .slice (some ⟨b, off, none⟩) n cap, .int .i64 n, .int .i64 m, .slice (some ⟨b, off, none⟩) m cap, .int .i64 m, .int .i64 k, .bool true, .pointer (some ⟨b, off + k * 5, none⟩), .agg #[.int .u8 c, .int .i64 z, .string ⟨s.toArray⟩, .slice pz lz capz, .slice q lt capt], .pointer (some ⟨wr.heap.size, 2, none⟩), .string ⟨s.toArray⟩, .pointer (some ⟨wr.heap.size, 2, none⟩), .string ⟨s.toArray⟩, .int .i64 s.length, .int .i64 ((min s.length 100 : Nat) : Int), .string ⟨s1.toArray⟩, .pointer (some ⟨wr.heap.size, 2, none⟩), .pointer (some ⟨wr.heap.size, 3, none⟩), .slice pz lz capz, .pointer (some ⟨wr.heap.size, 3, none⟩), .slice pz lz capz, .int .i64 lz, .int .i64 lz1, .slice pz lz1 capz, .pointer (some ⟨wr.heap.size, 3, none⟩), .pointer (some ⟨wr.heap.size, 4, none⟩), .slice q lt capt, .slice q1 lt1 capt1, .pointer (some ⟨wr.heap.size, 4, none⟩), u4, .agg #[.int .u8 c, .int .i64 z, .string ⟨s1.toArray⟩, .slice pz lz1 capz, .slice q1 lt1 capt1], .slice (some ⟨w2.heap.size, 0, none⟩) 1 1, v', vs 0, vs 1, vs 2, vs 3, vs 4, vs 5, vs 6, vs 7, vs 8, vs 9, vs 10, vs 11, vs 12, vs 13, vs 14, vs 15, vs 16, vs 17, vs 18, vs 19, u67, undef, undef, undef, undef, undef, undef, undef, undef, undef, undef, undef, undef, undef, undef, undef, undef, undef, undef, undef, undef, undef, undef, undef, undef, undef, undef, undef, undef, undef, undef, undef, undef, undef, undef, undef, undef, undef, undef, undef, undef, undef, undef, undef, undef, undef, undef, undef, undef, undef, undef, undef, undef, undef, undef, undef, undef, undef, undef, undef, undef, undef], defers := [] } ∧ Ext w4.drew w' ∧ Held (es.flatMap VD.ser) D vs ∧ ∀ k, D k → (invF wr.heap.size d1 (es.flatMap VD.ser)) k (vs k) w') (by kernel_rfl) (by kernel_rfl) ?start ?step ?fin
      case start => exact ⟨fun k => ([u47, u48, u49, u50, u51, u52, u53, u54, u55, u56, u57, u58, u59, u60, u61, u62, u63, u64, u65, u66, .string ⟨(es.flatMap VD.ser).toArray⟩] : List Value).getD k undef, rfl, Ext.refl _, .inr ⟨fun h => h, rfl⟩, fun _ h => h.elim⟩
      case step =>
        rintro i o D ac wz hio hn he ⟨vs, rfl, k0, hK, hF⟩
        rcases i with _ | _ | _ | _ | _ | _ | _ | _ | _ | _ | _ | _ | _ | _ | _ | _ | _ | _ | _ | _ | _ | i
        rotate_left 21
        · exact absurd hio (by simp)
        all_goals (obtain rfl := Option.some.inj (hio.symm.trans (by rfl)))
        · exact wp_of_run (run_move (.tmp 5) rfl _ (hK.resolve_left hn).2) ⟨upd vs 0 _, rfl, k0, .inl (.inl rfl), inv_same hF rfl⟩
        · exact wp_of_run (run_field1 (.tmp 7) rfl wr.heap.size rfl) ⟨upd vs 1 _, rfl, k0, (hK.other (by decide) (by decide) _), inv_same hF rfl⟩
        · exact wp_of_run (run_load_i (.tmp 48) rfl ⟨wr.heap.size, 1, none⟩ (by exact (hF 1 (he ⟨1, .data⟩ (by simp) rfl))) d1.n (C4.out.ext GL4.out k0).2.1) ⟨upd vs 2 _, rfl, k0, (hK.other (by decide) (by decide) _), inv_same hF rfl⟩
        · refine wp_of_callE (run_enter1 12 (.tmp 49) _ rfl _ (by exact (hF 2 (he ⟨2, .data⟩ (by simp) rfl))) ent_int) (int_calls d1.n CU4.out.hn (by have := serInt_le CU4.out.hn; omega) wz (V4.out.ext k0)) ?_
          rintro e w' ⟨rfl, hx⟩
          exact ⟨_, rfl, upd vs 3 _, rfl, k0.trans hx, (hK.other (by decide) (by decide) _), inv_step hF (fun k v h => invF_mono hx h) rfl⟩
        · exact wp_of_run (run_field2 (.tmp 7) rfl wr.heap.size rfl) ⟨upd vs 4 _, rfl, k0, (hK.other (by decide) (by decide) _), inv_same hF rfl⟩
        · exact wp_of_run (run_load_s (.tmp 51) rfl ⟨wr.heap.size, 2, none⟩ (by exact (hF 4 (he ⟨4, .data⟩ (by simp) rfl))) ⟨d1.s.toArray⟩ (C4.out.ext GL4.out k0).2.2.1) ⟨upd vs 5 _, rfl, k0, (hK.other (by decide) (by decide) _), inv_same hF rfl⟩
        · refine wp_of_callE (run_enter1 14 (.tmp 52) _ rfl _ (by exact (hF 5 (he ⟨5, .data⟩ (by simp) rfl))) ent_text) (text_calls d1.s (by have := CU4.out.hs; unfold TextOk; omega) (by have := serText_le CU4.out.hs; omega) wz (V4.out.ext k0)) ?_
          rintro e w' ⟨rfl, hx⟩
          exact ⟨_, rfl, upd vs 6 _, rfl, k0.trans hx, (hK.other (by decide) (by decide) _), inv_step hF (fun k v h => invF_mono hx h) rfl⟩
        · exact wp_of_run (run_field3 (.tmp 7) rfl wr.heap.size rfl) ⟨upd vs 7 _, rfl, k0, (hK.other (by decide) (by decide) _), inv_same hF rfl⟩
        · exact wp_of_run (run_load_si (.tmp 54) rfl ⟨wr.heap.size, 3, none⟩ (by exact (hF 7 (he ⟨7, .data⟩ (by simp) rfl))) d1.p d1.lz d1.cap (C4.out.ext GL4.out k0).2.2.2.1) ⟨upd vs 8 _, rfl, k0, (hK.other (by decide) (by decide) _), inv_same hF rfl⟩
        · refine wp_of_callE (run_enter1 16 (.tmp 55) _ rfl _ (by exact (hF 8 (he ⟨8, .data⟩ (by simp) rfl))) ent_ints) (ints_calls _ d1.zs _ wz (V4.out.ext k0) (CU4.out.hz.ext k0) CU4.out.hzo (by have := serInts_le (k := 20) CU4.out.hzo CU4.out.hzl; omega)) ?_
          rintro e w' ⟨rfl, hx⟩
          exact ⟨_, rfl, upd vs 9 _, rfl, k0.trans hx, (hK.other (by decide) (by decide) _), inv_step hF (fun k v h => invF_mono hx h) rfl⟩
        · exact wp_of_run (run_field4 (.tmp 7) rfl wr.heap.size rfl) ⟨upd vs 10 _, rfl, k0, (hK.other (by decide) (by decide) _), inv_same hF rfl⟩
        · exact wp_of_run (run_load_ss (.tmp 57) rfl ⟨wr.heap.size, 4, none⟩ (by exact (hF 10 (he ⟨10, .data⟩ (by simp) rfl))) d1.q d1.lt d1.cap2 (C4.out.ext GL4.out k0).2.2.2.2) ⟨upd vs 11 _, rfl, k0, (hK.other (by decide) (by decide) _), inv_same hF rfl⟩
        · refine wp_of_callE (run_enter1 18 (.tmp 58) _ rfl _ (by exact (hF 11 (he ⟨11, .data⟩ (by simp) rfl))) ent_texts) (texts_calls _ d1.ts _ wz (V4.out.ext k0) (CU4.out.ht.ext k0) (ok_of_short CU4.out.hto) (by have := serTexts_le CU4.out.hto CU4.out.htl; omega)) ?_
          rintro e w' ⟨rfl, hx⟩
          exact ⟨_, rfl, upd vs 12 _, rfl, k0.trans hx, (hK.other (by decide) (by decide) _), inv_step hF (fun k v h => invF_mono hx h) rfl⟩
        · exact wp_of_run (run_build4 (.tmp 50) (.tmp 53) (.tmp 56) (.tmp 59) rfl _ _ _ _ (by exact (hF 3 (he ⟨3, .data⟩ (by simp) rfl))) (by exact (hF 6 (he ⟨6, .data⟩ (by simp) rfl))) (by exact (hF 9 (he ⟨9, .data⟩ (by simp) rfl))) (by exact (hF 12 (he ⟨12, .data⟩ (by simp) rfl)))) ⟨upd vs 13 _, rfl, k0.trans (Ext.alloc _ _), (hK.other (by decide) (by decide) _), inv_step hF (fun k v h => invF_mono (Ext.alloc _ _) h) ⟨_, rfl, heap_alloc_new _ _⟩⟩
        · exact wp_of_run (run_field0 (.tmp 7) rfl wr.heap.size rfl) ⟨upd vs 14 _, rfl, k0, (hK.other (by decide) (by decide) _), inv_same hF rfl⟩
        · exact wp_of_run (run_load_u8 (.tmp 61) rfl ⟨wr.heap.size, 0, none⟩ (by exact (hF 14 (he ⟨14, .data⟩ (by simp) rfl))) d1.c (C4.out.ext GL4.out k0).1) ⟨upd vs 15 _, rfl, k0, (hK.other (by decide) (by decide) _), inv_same hF rfl⟩
        · exact wp_of_run (run_rem4 (.tmp 62) rfl rfl d1.c (d1.c % 4) CU4.out.hc rfl (by exact (hF 15 (he ⟨15, .data⟩ (by simp) rfl)))) ⟨upd vs 16 _, rfl, k0, (hK.other (by decide) (by decide) _), inv_same hF rfl⟩
        · obtain ⟨G, hG, hrow⟩ := (hF 13 (he ⟨13, .data⟩ (by simp) rfl))
          exact wp_of_run (run_index4 (.tmp 60) (.tmp 63) rfl G (d1.c % 4) hG (by exact (hF 16 (he ⟨16, .data⟩ (by simp) rfl))) (Nat.mod_lt _ (by decide))) ⟨upd vs 17 _, rfl, k0, (hK.other (by decide) (by decide) _), inv_same hF ⟨G, rfl, hrow⟩⟩
        · obtain ⟨G, hG, hrow⟩ := (hF 17 (he ⟨17, .data⟩ (by simp) rfl))
          exact wp_of_run (run_load_s (.tmp 64) rfl ⟨G, d1.c % 4, none⟩ (by exact hG) _ (by rw [Lib.cell_of_heap hrow]; exact parts_at (Nat.mod_lt _ (by decide)) _ _ _ _)) ⟨upd vs 18 _, rfl, k0, (hK.other (by decide) (by decide) _), inv_same hF rfl⟩
        · exact wp_of_run (run_add_s (.tmp 47) (.tmp 65) rfl rfl _ _ (by exact (hF 0 (he ⟨0, .data⟩ (by simp) rfl))) (by exact (hF 18 (he ⟨18, .data⟩ (by simp) rfl))) SL.out (by have := CU4.out.ser_le; omega)) ⟨upd vs 19 _, rfl, k0, Held.last (he ⟨0, .data⟩ (by simp) rfl) _ _, inv_same hF rfl⟩
        · exact wp_of_run (run_assign (.tmp 66) rfl _ (hF 19 (he ⟨19, .data⟩ (by simp) rfl))) ⟨upd vs 20 _, rfl, k0, Held.last (he ⟨0, .phase⟩ (by simp) rfl) _ _, inv_same hF rfl⟩
      case fin =>
        rintro D ac wz hD ⟨vs, rfl, k0, -, hF⟩
        have h6 : vs 20 = .string ⟨(es.flatMap VD.ser ++ d1.ser).toArray⟩ := hF 20 (hD 20 (by simp))
        rw [h6]
        have K0 := Lib.hid ((Ext.drew w4).trans k0)
        clear hD hF h6 k0
        generalize vs = ws
        go_wp2
        go_roundw
        case rel => exact ⟨k + 1, es ++ [d1], by omega, by rw [List.length_append, HES.out]; rfl, by go_num, by simp, own_keep (rb := none) OWN4.out K0.out.keep (fun _ e => by cases e), fun e he => (CUT4.out e he).ext K0.out, X4.out.trans K0.out, Nat.le_trans HB4.out (Below.size K0.out)⟩
        case measure => simp [intOf]; omega
    · have hI : ¬ ((k : Int) < (m : Int)) := by omega
      obtain ⟨S, hS⟩ : ∃ S, S = es.flatMap VD.ser := ⟨_, rfl⟩
      have HS := Lib.hid hS
      rw [← hS]
      have hSl : S.length ≤ 4294967280 := by
        rw [hS]
        have := flat_ser_le CUT.out
        have := HES.out
        omega
      have hsz := bytes_size S
      obtain rfl : es.length = k := HES.out
      have hvr : VRow (fun b => b < wr.heap.size) wr u4 es := own_vrow OWN.out (by have := hm8; unfold maxLen; omega)
      have hcu : Hid (∀ e ∈ es, VD.Cut (fun b => b < wr.heap.size) wr e) := fun e he => (CUT.out e he).kind (fun _ _ h => h)
      obtain ⟨p4, cap4, rfl, hcap4, -, hrow4⟩ := hvr
      have HROW := Lib.hid hrow4
      obtain ⟨l, hl⟩ : ∃ l, l = es.length := ⟨_, rfl⟩
      rw [← hl] at hcap4 hI ⊢
      have HL := Lib.hid hl
      have hl8 : l ≤ 8 := by omega
      clear hS hrow4 hl CUT OWN HES
      go_wp2_with fail
      refine (new_calls S wr VR.out.low).mono ?_
      rintro e w3 ⟨rfl, hr3, hx3⟩
      have R3 := Lib.hid hr3
      have X3 := Lib.hid hx3
      obtain ⟨b, hb⟩ : ∃ b, b = wr.heap.size := ⟨_, rfl⟩
      rw [← hb] at R3 ⊢
      have HBB := Lib.hid hb
      have V3 : Hid (Vars w3) := VR.out.ext hx3
      unfold ptrV
      clear hr3 hx3 hb
      go_wp2_with fail
      refine (left_calls (some b) (some S) w3 R3.out).mono ?_
      rintro e w4 ⟨rfl, rfl⟩
      simp only [Option.getD_some]
      go_wp2_with fail
      go_loopw [81] (fun i wr' => ∃ k : Nat, k ≤ l ∧ i = .int .i64 (k : Int) ∧ RdP (some b) (some ((es.drop k).flatMap VD.ser)) wr' ∧ Keep (some b) w4 wr') (fun i _ => 8 - (intOf i).toNat)
      case atStart => exact ⟨0, by omega, rfl, by rw [List.drop_zero, ← HS.out]; exact R3.out, Keep.refl _ _⟩
      case round =>
        obtain ⟨k, hk, rfl, hr, hkp⟩ := hrel
        by_cases hlt : k < l
        case neg =>
          have hJ : ¬ ((k : Int) < (l : Int)) := by omega
          have hd0 : es.drop k = [] := List.drop_eq_nil_of_le (by rw [← HL.out]; omega)
          rw [hd0] at hr
          have RR : Hid (RdP (some b) (some []) wr) := hr
          have KR := Lib.hid hkp
          clear hr hkp hd0
          go_wp2_with fail
          refine (left_calls (some b) (some []) wr RR.out).mono ?_
          rintro e w5 ⟨rfl, rfl⟩
          simp only [Option.getD_some, List.length_nil]
          go_wp2_with fail
          go_ret
          exact ⟨rfl, Keep.new (XR.out.trans X3.out) (fun c e => by cases e; rw [HBB.out]; exact Below.size XR.out) KR.out⟩
        have hJ : (k : Int) < (l : Int) := by omega
        obtain ⟨d, hd⟩ : ∃ d, es[k]? = some d := ⟨_, List.getElem?_eq_getElem (by rw [← HL.out]; exact hlt)⟩
        have hdrop : es.drop k = d :: es.drop (k + 1) := by
          rw [List.drop_eq_getElem_cons (by rw [← HL.out]; exact hlt)]
          congr 1
          exact Option.some.inj ((List.getElem?_eq_getElem (by rw [← HL.out]; exact hlt)).symm.trans hd)
        have hlen : ((es.drop k).flatMap VD.ser).length ≤ 4294967280 := by
          have := flat_ser_le (ds := es.drop k) (fun x hx => hcu.out x (List.mem_of_mem_drop hx))
          have h2 : (es.drop k).length ≤ l := by rw [List.length_drop, ← HL.out]; omega
          omega
        rw [hdrop, List.flatMap_cons] at hr hlen
        obtain ⟨R, hR⟩ : ∃ R, R = (es.drop (k + 1)).flatMap VD.ser := ⟨_, rfl⟩
        rw [← hR] at hr hlen
        have HRR := Lib.hid hR
        have RR := Lib.hid hr
        have KR := Lib.hid hkp
        have HLEN := Lib.hid hlen
        have hcd := ((hcu.out d (List.mem_of_getElem? hd)).ext X3.out).keep hkp (fun x hx e => by injection e with e; have := HBB.out; omega)
        have CD := Lib.hid hcd
        have VRR : Hid (Vars wr) := V3.out.keep hkp R3.out.low
        obtain ⟨bb, oo, rfl, hbb, -, hcells⟩ := HROW.out (by have := HL.out; omega)
        have hcl : ∀ j u, d.cells[j]? = some u → wr.cell? ⟨bb, oo + k * 5 + j, none⟩ = some u := fun j u hj =>
          (World.cell?_of_block (a := ⟨bb, oo + k * 5 + j, none⟩) (hkp.block bb (Nat.lt_of_lt_of_le hbb (Below.size X3.out)) (fun e => by injection e with e; have := HBB.out; omega))).trans ((Below.cell X3.out (p := ⟨bb, oo + k * 5 + j, none⟩) hbb).trans (hcells k d hd j u hj))
        have c0 : wr.cell? ⟨bb, oo + k * 5, none⟩ = some _ := hcl 0 _ rfl
        have c1 := hcl 1 _ rfl
        have c2 := hcl 2 _ rfl
        have c3 := hcl 3 _ rfl
        have c4 := hcl 4 _ rfl
        obtain ⟨c, z, s, pz, lz, capz, q, lt, capt, zs, ts⟩ := d
        dsimp only at c0 c1 c2 c3 c4
        have hvc := vcells_new wr 45 c z s pz lz capz (.slice q lt capt)
        have VC5 := Lib.hid hvc
        clear hcl hcells hbb hcd hkp hr hR hlen hdrop hd hvc hI hcap4 hcap hmn
        have hc256 : c < 256 := CD.out.hc
        rcases (by omega : c % 4 = 0 ∨ c % 4 = 1 ∨ c % 4 = 2 ∨ c % 4 = 3) with hj | hj | hj | hj
        · have hjI : (c : Int) % 4 = 0 := by omega
          have hjT : (c : Int).tmod 4 = 0 := by rw [Int.tmod_eq_emod_of_nonneg (by omega)]; exact hjI
          have hser : VD.ser (VD.mk c z s pz lz capz q lt capt zs ts) = serInt z := by
            show part (c % 4) z s zs ts = _
            rw [hj]; rfl
          rw [hser] at RR HLEN
          clear hj hser
          go_wp2
          obtain ⟨g, hg⟩ : ∃ g, g = wr.heap.size := ⟨_, rfl⟩
          rw [← hg] at VC5 ⊢
          obtain ⟨W5, hW5⟩ : ∃ W, W = wr.alloc (.cells #[.int .u8 c, .int .i64 z, .string ⟨s.toArray⟩, .slice pz lz capz, .slice q lt capt] 45) := ⟨_, rfl⟩
          rw [← hW5] at VC5 ⊢
          have hx5 : Ext wr W5 := by rw [hW5]; exact Ext.alloc _ _
          have hg5 : g < W5.heap.size := by rw [hW5, hg]; simp
          have R5 : Hid (RdP (some b) (some (serInt z ++ R)) W5.drew) := RR.out.ext (hx5.trans (Ext.drew W5))
          have C5 := Lib.hid (VC5.out.ext hg5 (Ext.drew W5))
          have GL5 : Hid (g < W5.drew.heap.size) := hg5
          have NE5 : Hid (some b ≠ some g) := by
            intro e
            injection e with e
            have := RR.out.rlt b rfl
            omega
          have V5 : Hid (Vars W5.drew) := VRR.out.ext (hx5.trans (Ext.drew W5))
          have K5 : Hid (Keep (some b) w4 W5.drew) := KR.out.trans (hx5.trans (Ext.drew W5)).keep
          have CD5 := Lib.hid ((CD.out.kind (T := fun x => x ≠ b) (fun x hx _ e => by have := HBB.out; omega)).ext (hx5.trans (Ext.drew W5)))
          clear hW5 hx5 hg5 hg
          refine wp_region_inv (fun D ac w' => ∃ vs : Nat → Value, ac = { tmps := #[Value.slice p n cap, undef, u2, .bool true, .slice (some ⟨bb, oo, none⟩) l cap4, .string ⟨S.toArray⟩, undef, u7, .pointer (some ⟨b, 0, none⟩), undef, .pointer (some ⟨g, 0, none⟩), vs 5, .bool true, .slice p n cap, .slice p n cap, .int .i64 n, .int .i64 m, .slice p m cap, .int .i64 m, .int .i64 l, .bool false, u21, u22, u23, u24, u25, u26, u27, u28, u29, u30, u31, u32, u33, u34, u35, u36, u37, u38, u39, u40, u41, u42, u43, u44, u45, u46, u47, u48, u49, u50, u51, u52, u53, u54, u55, u56, u57, u58, u59, u60, u61, u62, u63, u64, u65, u66, u67, Value.string ⟨S.toArray⟩, .pointer (some ⟨b, 0, none⟩), .pointer (some ⟨b, 0, none⟩), .bool false, .bool false, .pointer (some ⟨b, 0, none⟩), .int .i64 S.length, .string ⟨S.toArray⟩, .int .i64 S.length, .bool false, .bool false, .slice (some ⟨bb, oo, none⟩) l cap4, .int .i64 l, .int .i64 k, .bool true, .pointer (some ⟨bb, oo + k * 5, none⟩), .agg #[.int .u8 c, .int .i64 z, .string ⟨s.toArray⟩, .slice pz lz capz, .slice q lt capt], .pointer (some ⟨g, 0, none⟩), .int .u8 c, .int .u8 0, .bool true, .bool true, vs 0, vs 1, vs 2, vs 3, vs 4, u95, u96, u97, u98, u99, u100, u101, u102, u103, u104, u105, u106, u107, u108, u109, u110, u111, u112, u113, u114, u115, u116, u117, u118, u119, u120, u121, u122, undef, undef, undef, undef, undef, undef], defers := [] } ∧ Keep (some b) W5.drew w' ∧ Rst b (serInt z ++ R) R D w' ∧ ∀ k, D k → (rdF g b 1 (fun v _ => v = .int .i64 z) (.int .i64 z)) k (vs k) w') (by kernel_rfl) (by kernel_rfl) ?start0 ?step0 ?fin0
          case start0 => exact ⟨fun k => ([u90, u91, u92, u93, u94, .bool false] : List Value).getD k undef, rfl, Keep.refl _ _, .inl ⟨fun h => h, R5.out⟩, fun _ h => h.elim⟩
          case step0 =>
            rintro i o D ac wz hio hn he ⟨vs, rfl, k0, hK, hF⟩
            rcases i with _ | _ | _ | _ | _ | _ | i
            rotate_left 6
            · exact absurd hio (by simp)
            all_goals (obtain rfl := Option.some.inj (hio.symm.trans (by rfl)))
            · exact wp_of_run (run_move (.tmp 8) rfl _ rfl) ⟨upd vs 0 _, rfl, k0, hK.same (by decide), inv_same hF rfl⟩
            · refine wp_of_callE (run_enter1 22 (.tmp 90) _ rfl (ptrV (some b)) (by exact (hF 0 (he ⟨0, .data⟩ (by simp) rfl))) ent_rint) (rint_whole z CD5.out.hn HLEN.out (V5.out.keep k0 R3.out.low) (hK.resolve_right (fun h => hn h.1)).2) ?_
              rintro e w' ⟨rfl, hr, hk⟩
              exact ⟨_, rfl, upd vs 1 _, rfl, k0.trans hk, .inr ⟨.inl rfl, hr⟩, inv_step hF (fun k v h => rdF_mono (F1 := (fun v _ => v = .int .i64 z)) (W := wz) (W' := w') (fun v h => h) h) rfl⟩
            · exact wp_of_run (run_field1 (.tmp 10) rfl g rfl) ⟨upd vs 2 _, rfl, k0, hK.same (by decide), inv_same hF rfl⟩
            · exact wp_of_run (run_load_i (.tmp 92) rfl ⟨g, 1, none⟩ (by exact (hF 2 (he ⟨2, .data⟩ (by simp) rfl))) z (C5.out.keep GL5.out k0 NE5.out).2.1) ⟨upd vs 3 _, rfl, k0, hK.same (by decide), inv_same hF rfl⟩
            · exact wp_of_run (run_eql_i (.tmp 91) (.tmp 93) rfl z (by exact (hF 1 (he ⟨1, .data⟩ (by simp) rfl))) (by exact (hF 3 (he ⟨3, .data⟩ (by simp) rfl)))) ⟨upd vs 4 _, rfl, k0, hK.same (by decide), inv_same hF rfl⟩
            · exact wp_of_run (run_assign (.tmp 94) rfl _ (hF 4 (he ⟨4, .data⟩ (by simp) rfl))) ⟨upd vs 5 _, rfl, k0, hK.same (by decide), inv_same hF rfl⟩
          case fin0 =>
            rintro D ac wz hD ⟨vs, rfl, k0, hK, hF⟩
            have h6 : vs 5 = .bool true := hF 5 (hD 5 (by simp))
            rw [h6]
            have R6 : Hid (RdP (some b) (some R) wz) := (hK.resolve_left (fun h => h.1 (hD 1 (by simp)))).2
            have K6 : Hid (Keep (some b) w4 wz) := K5.out.trans k0
            clear hD hF h6 k0 hK
            generalize vs = ws
            go_wp2_with fail
            refine (bad_calls (some b) (some R) wz R6.out).mono ?_
            rintro e w7 ⟨rfl, rfl⟩
            simp only [Option.isNone_some]
            go_wp2
            go_roundw
            case rel => exact ⟨k + 1, by omega, by go_num, by rw [← HRR.out]; exact R6.out, K6.out⟩
            case measure => simp [intOf]; omega
        · have hjI : (c : Int) % 4 = 1 := by omega
          have hjT : (c : Int).tmod 4 = 1 := by rw [Int.tmod_eq_emod_of_nonneg (by omega)]; exact hjI
          have hser : VD.ser (VD.mk c z s pz lz capz q lt capt zs ts) = serText s := by
            show part (c % 4) z s zs ts = _
            rw [hj]; rfl
          rw [hser] at RR HLEN
          clear hj hser
          go_wp2
          obtain ⟨g, hg⟩ : ∃ g, g = wr.heap.size := ⟨_, rfl⟩
          rw [← hg] at VC5 ⊢
          obtain ⟨W5, hW5⟩ : ∃ W, W = wr.alloc (.cells #[.int .u8 c, .int .i64 z, .string ⟨s.toArray⟩, .slice pz lz capz, .slice q lt capt] 45) := ⟨_, rfl⟩
          rw [← hW5] at VC5 ⊢
          have hx5 : Ext wr W5 := by rw [hW5]; exact Ext.alloc _ _
          have hg5 : g < W5.heap.size := by rw [hW5, hg]; simp
          have R5 : Hid (RdP (some b) (some (serText s ++ R)) W5.drew) := RR.out.ext (hx5.trans (Ext.drew W5))
          have C5 := Lib.hid (VC5.out.ext hg5 (Ext.drew W5))
          have GL5 : Hid (g < W5.drew.heap.size) := hg5
          have NE5 : Hid (some b ≠ some g) := by
            intro e
            injection e with e
            have := RR.out.rlt b rfl
            omega
          have V5 : Hid (Vars W5.drew) := VRR.out.ext (hx5.trans (Ext.drew W5))
          have K5 : Hid (Keep (some b) w4 W5.drew) := KR.out.trans (hx5.trans (Ext.drew W5)).keep
          have CD5 := Lib.hid ((CD.out.kind (T := fun x => x ≠ b) (fun x hx _ e => by have := HBB.out; omega)).ext (hx5.trans (Ext.drew W5)))
          clear hW5 hx5 hg5 hg
          refine wp_region_inv (fun D ac w' => ∃ vs : Nat → Value, ac = { tmps := #[Value.slice p n cap, undef, u2, .bool true, .slice (some ⟨bb, oo, none⟩) l cap4, .string ⟨S.toArray⟩, undef, u7, .pointer (some ⟨b, 0, none⟩), undef, .pointer (some ⟨g, 0, none⟩), vs 5, .bool true, .slice p n cap, .slice p n cap, .int .i64 n, .int .i64 m, .slice p m cap, .int .i64 m, .int .i64 l, .bool false, u21, u22, u23, u24, u25, u26, u27, u28, u29, u30, u31, u32, u33, u34, u35, u36, u37, u38, u39, u40, u41, u42, u43, u44, u45, u46, u47, u48, u49, u50, u51, u52, u53, u54, u55, u56, u57, u58, u59, u60, u61, u62, u63, u64, u65, u66, u67, Value.string ⟨S.toArray⟩, .pointer (some ⟨b, 0, none⟩), .pointer (some ⟨b, 0, none⟩), .bool false, .bool false, .pointer (some ⟨b, 0, none⟩), .int .i64 S.length, .string ⟨S.toArray⟩, .int .i64 S.length, .bool false, .bool false, .slice (some ⟨bb, oo, none⟩) l cap4, .int .i64 l, .int .i64 k, .bool true, .pointer (some ⟨bb, oo + k * 5, none⟩), .agg #[.int .u8 c, .int .i64 z, .string ⟨s.toArray⟩, .slice pz lz capz, .slice q lt capt], .pointer (some ⟨g, 0, none⟩), .int .u8 c, .int .u8 1, .bool false, .bool false, u90, u91, u92, u93, u94, .bool true, .bool true, vs 0, vs 1, vs 2, vs 3, vs 4, u102, u103, u104, u105, u106, u107, u108, u109, u110, u111, u112, u113, u114, u115, u116, u117, u118, u119, u120, u121, u122, undef, undef, undef, undef, undef, undef], defers := [] } ∧ Keep (some b) W5.drew w' ∧ Rst b (serText s ++ R) R D w' ∧ ∀ k, D k → (rdF g b 2 (fun v _ => v = .string ⟨s.toArray⟩) (.string ⟨s.toArray⟩)) k (vs k) w') (by kernel_rfl) (by kernel_rfl) ?start1 ?step1 ?fin1
          case start1 => exact ⟨fun k => ([u97, u98, u99, u100, u101, .bool false] : List Value).getD k undef, rfl, Keep.refl _ _, .inl ⟨fun h => h, R5.out⟩, fun _ h => h.elim⟩
          case step1 =>
            rintro i o D ac wz hio hn he ⟨vs, rfl, k0, hK, hF⟩
            rcases i with _ | _ | _ | _ | _ | _ | i
            rotate_left 6
            · exact absurd hio (by simp)
            all_goals (obtain rfl := Option.some.inj (hio.symm.trans (by rfl)))
            · exact wp_of_run (run_move (.tmp 8) rfl _ rfl) ⟨upd vs 0 _, rfl, k0, hK.same (by decide), inv_same hF rfl⟩
            · refine wp_of_callE (run_enter1 24 (.tmp 97) _ rfl (ptrV (some b)) (by exact (hF 0 (he ⟨0, .data⟩ (by simp) rfl))) ent_rtext) (rtext_whole s (by have h : s.length ≤ 100 := CD5.out.hs; unfold TextOk; omega) HLEN.out (V5.out.keep k0 R3.out.low) (hK.resolve_right (fun h => hn h.1)).2) ?_
              rintro e w' ⟨rfl, hr, hk⟩
              exact ⟨_, rfl, upd vs 1 _, rfl, k0.trans hk, .inr ⟨.inl rfl, hr⟩, inv_step hF (fun k v h => rdF_mono (F1 := (fun v _ => v = .string ⟨s.toArray⟩)) (W := wz) (W' := w') (fun v h => h) h) rfl⟩
            · exact wp_of_run (run_field2 (.tmp 10) rfl g rfl) ⟨upd vs 2 _, rfl, k0, hK.same (by decide), inv_same hF rfl⟩
            · exact wp_of_run (run_load_s (.tmp 99) rfl ⟨g, 2, none⟩ (by exact (hF 2 (he ⟨2, .data⟩ (by simp) rfl))) ⟨s.toArray⟩ (C5.out.keep GL5.out k0 NE5.out).2.2.1) ⟨upd vs 3 _, rfl, k0, hK.same (by decide), inv_same hF rfl⟩
            · exact wp_of_run (run_eql_s (.tmp 98) (.tmp 100) rfl ⟨s.toArray⟩ (by exact (hF 1 (he ⟨1, .data⟩ (by simp) rfl))) (by exact (hF 3 (he ⟨3, .data⟩ (by simp) rfl)))) ⟨upd vs 4 _, rfl, k0, hK.same (by decide), inv_same hF rfl⟩
            · exact wp_of_run (run_assign (.tmp 101) rfl _ (hF 4 (he ⟨4, .data⟩ (by simp) rfl))) ⟨upd vs 5 _, rfl, k0, hK.same (by decide), inv_same hF rfl⟩
          case fin1 =>
            rintro D ac wz hD ⟨vs, rfl, k0, hK, hF⟩
            have h6 : vs 5 = .bool true := hF 5 (hD 5 (by simp))
            rw [h6]
            have R6 : Hid (RdP (some b) (some R) wz) := (hK.resolve_left (fun h => h.1 (hD 1 (by simp)))).2
            have K6 : Hid (Keep (some b) w4 wz) := K5.out.trans k0
            clear hD hF h6 k0 hK
            generalize vs = ws
            go_wp2_with fail
            refine (bad_calls (some b) (some R) wz R6.out).mono ?_
            rintro e w7 ⟨rfl, rfl⟩
            simp only [Option.isNone_some]
            go_wp2
            go_roundw
            case rel => exact ⟨k + 1, by omega, by go_num, by rw [← HRR.out]; exact R6.out, K6.out⟩
            case measure => simp [intOf]; omega
        · have hjI : (c : Int) % 4 = 2 := by omega
          have hjT : (c : Int).tmod 4 = 2 := by rw [Int.tmod_eq_emod_of_nonneg (by omega)]; exact hjI
          have hser : VD.ser (VD.mk c z s pz lz capz q lt capt zs ts) = serL serInt zs := by
            show part (c % 4) z s zs ts = _
            rw [hj]; rfl
          rw [hser] at RR HLEN
          clear hj hser
          go_wp2
          obtain ⟨g, hg⟩ : ∃ g, g = wr.heap.size := ⟨_, rfl⟩
          rw [← hg] at VC5 ⊢
          obtain ⟨W5, hW5⟩ : ∃ W, W = wr.alloc (.cells #[.int .u8 c, .int .i64 z, .string ⟨s.toArray⟩, .slice pz lz capz, .slice q lt capt] 45) := ⟨_, rfl⟩
          rw [← hW5] at VC5 ⊢
          have hx5 : Ext wr W5 := by rw [hW5]; exact Ext.alloc _ _
          have hg5 : g < W5.heap.size := by rw [hW5, hg]; simp
          have R5 : Hid (RdP (some b) (some (serL serInt zs ++ R)) W5.drew) := RR.out.ext (hx5.trans (Ext.drew W5))
          have C5 := Lib.hid (VC5.out.ext hg5 (Ext.drew W5))
          have GL5 : Hid (g < W5.drew.heap.size) := hg5
          have NE5 : Hid (some b ≠ some g) := by
            intro e
            injection e with e
            have := RR.out.rlt b rfl
            omega
          have V5 : Hid (Vars W5.drew) := VRR.out.ext (hx5.trans (Ext.drew W5))
          have K5 : Hid (Keep (some b) w4 W5.drew) := KR.out.trans (hx5.trans (Ext.drew W5)).keep
          have CD5 := Lib.hid ((CD.out.kind (T := fun x => x ≠ b) (fun x hx _ e => by have := HBB.out; omega)).ext (hx5.trans (Ext.drew W5)))
          clear hW5 hx5 hg5 hg
          refine wp_region_inv (fun D ac w' => ∃ vs : Nat → Value, ac = { tmps := #[Value.slice p n cap, undef, u2, .bool true, .slice (some ⟨bb, oo, none⟩) l cap4, .string ⟨S.toArray⟩, undef, u7, .pointer (some ⟨b, 0, none⟩), undef, .pointer (some ⟨g, 0, none⟩), vs 5, .bool true, .slice p n cap, .slice p n cap, .int .i64 n, .int .i64 m, .slice p m cap, .int .i64 m, .int .i64 l, .bool false, u21, u22, u23, u24, u25, u26, u27, u28, u29, u30, u31, u32, u33, u34, u35, u36, u37, u38, u39, u40, u41, u42, u43, u44, u45, u46, u47, u48, u49, u50, u51, u52, u53, u54, u55, u56, u57, u58, u59, u60, u61, u62, u63, u64, u65, u66, u67, Value.string ⟨S.toArray⟩, .pointer (some ⟨b, 0, none⟩), .pointer (some ⟨b, 0, none⟩), .bool false, .bool false, .pointer (some ⟨b, 0, none⟩), .int .i64 S.length, .string ⟨S.toArray⟩, .int .i64 S.length, .bool false, .bool false, .slice (some ⟨bb, oo, none⟩) l cap4, .int .i64 l, .int .i64 k, .bool true, .pointer (some ⟨bb, oo + k * 5, none⟩), .agg #[.int .u8 c, .int .i64 z, .string ⟨s.toArray⟩, .slice pz lz capz, .slice q lt capt], .pointer (some ⟨g, 0, none⟩), .int .u8 c, .int .u8 2, .bool false, .bool false, u90, u91, u92, u93, u94, .bool false, .bool false, u97, u98, u99, u100, u101, .bool true, .bool true, vs 0, vs 1, vs 2, vs 3, vs 4, u109, u110, u111, u112, u113, u114, u115, u116, u117, u118, u119, u120, u121, u122, undef, undef, undef, undef, undef, undef], defers := [] } ∧ Keep (some b) W5.drew w' ∧ Rst b (serL serInt zs ++ R) R D w' ∧ ∀ k, D k → (rdF g b 3 (fun v W => SlOf encI (fun c => c ≠ b) W v zs) (.slice pz lz capz)) k (vs k) w') (by kernel_rfl) (by kernel_rfl) ?start2 ?step2 ?fin2
          case start2 => exact ⟨fun k => ([u104, u105, u106, u107, u108, .bool false] : List Value).getD k undef, rfl, Keep.refl _ _, .inl ⟨fun h => h, R5.out⟩, fun _ h => h.elim⟩
          case step2 =>
            rintro i o D ac wz hio hn he ⟨vs, rfl, k0, hK, hF⟩
            rcases i with _ | _ | _ | _ | _ | _ | i
            rotate_left 6
            · exact absurd hio (by simp)
            all_goals (obtain rfl := Option.some.inj (hio.symm.trans (by rfl)))
            · exact wp_of_run (run_move (.tmp 8) rfl _ rfl) ⟨upd vs 0 _, rfl, k0, hK.same (by decide), inv_same hF rfl⟩
            · refine wp_of_callE (run_enter1 27 (.tmp 104) _ rfl (ptrV (some b)) (by exact (hF 0 (he ⟨0, .data⟩ (by simp) rfl))) ent_rints) (rints_whole zs CD5.out.hzo HLEN.out (V5.out.keep k0 R3.out.low) (hK.resolve_right (fun h => hn h.1)).2) ?_
              rintro e w' ⟨⟨v1, rfl, hs⟩, hr, hk⟩
              exact ⟨_, rfl, upd vs 1 _, rfl, k0.trans hk, .inr ⟨.inl rfl, hr⟩, inv_step hF (fun k v h => rdF_mono (F1 := (fun v W => SlOf encI (fun c => c ≠ b) W v zs)) (W := wz) (W' := w') (fun v h => SlOf.keep h hk (fun c hc e => hc (by injection e with e; exact e.symm))) h) hs⟩
            · exact wp_of_run (run_field3 (.tmp 10) rfl g rfl) ⟨upd vs 2 _, rfl, k0, hK.same (by decide), inv_same hF rfl⟩
            · exact wp_of_run (run_load_si (.tmp 106) rfl ⟨g, 3, none⟩ (by exact (hF 2 (he ⟨2, .data⟩ (by simp) rfl))) pz lz capz (C5.out.keep GL5.out k0 NE5.out).2.2.2.1) ⟨upd vs 3 _, rfl, k0, hK.same (by decide), inv_same hF rfl⟩
            · refine wp_of_callE (run_enter2 26 (.tmp 105) (.tmp 107) _ rfl _ _ rfl (by exact (hF 3 (he ⟨3, .data⟩ (by simp) rfl))) ent_si) (sameInts_calls _ _ zs zs _ _ wz (hF 1 (he ⟨1, .data⟩ (by simp) rfl)) (CD5.out.hz.keep k0 (fun c hc e => hc (by injection e with e; exact e.symm)))) ?_
              rintro e w' ⟨rfl, hx⟩
              exact ⟨_, rfl, upd vs 4 _, rfl, k0.trans hx.keep, hK.other (by decide) hx, inv_step hF (fun k v h => rdF_mono (F1 := (fun v W => SlOf encI (fun c => c ≠ b) W v zs)) (W := wz) (W' := w') (fun v h => SlOf.ext h hx) h) (congrArg Value.bool (decide_eq_true rfl))⟩
            · exact wp_of_run (run_assign (.tmp 108) rfl _ (hF 4 (he ⟨4, .data⟩ (by simp) rfl))) ⟨upd vs 5 _, rfl, k0, hK.same (by decide), inv_same hF rfl⟩
          case fin2 =>
            rintro D ac wz hD ⟨vs, rfl, k0, hK, hF⟩
            have h6 : vs 5 = .bool true := hF 5 (hD 5 (by simp))
            rw [h6]
            have R6 : Hid (RdP (some b) (some R) wz) := (hK.resolve_left (fun h => h.1 (hD 1 (by simp)))).2
            have K6 : Hid (Keep (some b) w4 wz) := K5.out.trans k0
            clear hD hF h6 k0 hK
            generalize vs = ws
            go_wp2_with fail
            refine (bad_calls (some b) (some R) wz R6.out).mono ?_
            rintro e w7 ⟨rfl, rfl⟩
            simp only [Option.isNone_some]
            go_wp2
            go_roundw
            case rel => exact ⟨k + 1, by omega, by go_num, by rw [← HRR.out]; exact R6.out, K6.out⟩
            case measure => simp [intOf]; omega
        · have hjI : (c : Int) % 4 = 3 := by omega
          have hjT : (c : Int).tmod 4 = 3 := by rw [Int.tmod_eq_emod_of_nonneg (by omega)]; exact hjI
          have hser : VD.ser (VD.mk c z s pz lz capz q lt capt zs ts) = serL serText ts := by
            show part (c % 4) z s zs ts = _
            rw [hj]; rfl
          rw [hser] at RR HLEN
          clear hj hser
          go_wp2
          obtain ⟨g, hg⟩ : ∃ g, g = wr.heap.size := ⟨_, rfl⟩
          rw [← hg] at VC5 ⊢
          obtain ⟨W5, hW5⟩ : ∃ W, W = wr.alloc (.cells #[.int .u8 c, .int .i64 z, .string ⟨s.toArray⟩, .slice pz lz capz, .slice q lt capt] 45) := ⟨_, rfl⟩
          rw [← hW5] at VC5 ⊢
          have hx5 : Ext wr W5 := by rw [hW5]; exact Ext.alloc _ _
          have hg5 : g < W5.heap.size := by rw [hW5, hg]; simp
          have R5 : Hid (RdP (some b) (some (serL serText ts ++ R)) W5.drew) := RR.out.ext (hx5.trans (Ext.drew W5))
          have C5 := Lib.hid (VC5.out.ext hg5 (Ext.drew W5))
          have GL5 : Hid (g < W5.drew.heap.size) := hg5
          have NE5 : Hid (some b ≠ some g) := by
            intro e
            injection e with e
            have := RR.out.rlt b rfl
            omega
          have V5 : Hid (Vars W5.drew) := VRR.out.ext (hx5.trans (Ext.drew W5))
          have K5 : Hid (Keep (some b) w4 W5.drew) := KR.out.trans (hx5.trans (Ext.drew W5)).keep
          have CD5 := Lib.hid ((CD.out.kind (T := fun x => x ≠ b) (fun x hx _ e => by have := HBB.out; omega)).ext (hx5.trans (Ext.drew W5)))
          clear hW5 hx5 hg5 hg
          refine wp_region_inv (fun D ac w' => ∃ vs : Nat → Value, ac = { tmps := #[Value.slice p n cap, undef, u2, .bool true, .slice (some ⟨bb, oo, none⟩) l cap4, .string ⟨S.toArray⟩, undef, u7, .pointer (some ⟨b, 0, none⟩), undef, .pointer (some ⟨g, 0, none⟩), vs 5, .bool true, .slice p n cap, .slice p n cap, .int .i64 n, .int .i64 m, .slice p m cap, .int .i64 m, .int .i64 l, .bool false, u21, u22, u23, u24, u25, u26, u27, u28, u29, u30, u31, u32, u33, u34, u35, u36, u37, u38, u39, u40, u41, u42, u43, u44, u45, u46, u47, u48, u49, u50, u51, u52, u53, u54, u55, u56, u57, u58, u59, u60, u61, u62, u63, u64, u65, u66, u67, Value.string ⟨S.toArray⟩, .pointer (some ⟨b, 0, none⟩), .pointer (some ⟨b, 0, none⟩), .bool false, .bool false, .pointer (some ⟨b, 0, none⟩), .int .i64 S.length, .string ⟨S.toArray⟩, .int .i64 S.length, .bool false, .bool false, .slice (some ⟨bb, oo, none⟩) l cap4, .int .i64 l, .int .i64 k, .bool true, .pointer (some ⟨bb, oo + k * 5, none⟩), .agg #[.int .u8 c, .int .i64 z, .string ⟨s.toArray⟩, .slice pz lz capz, .slice q lt capt], .pointer (some ⟨g, 0, none⟩), .int .u8 c, .int .u8 3, .bool false, .bool false, u90, u91, u92, u93, u94, .bool false, .bool false, u97, u98, u99, u100, u101, .bool false, .bool false, u104, u105, u106, u107, u108, .bool true, .bool true, vs 0, vs 1, vs 2, vs 3, vs 4, u116, u117, u118, u119, u120, u121, u122, undef, undef, undef, undef, undef, undef], defers := [] } ∧ Keep (some b) W5.drew w' ∧ Rst b (serL serText ts ++ R) R D w' ∧ ∀ k, D k → (rdF g b 4 (fun v W => SlOf encT (fun c => c ≠ b) W v ts) (.slice q lt capt)) k (vs k) w') (by kernel_rfl) (by kernel_rfl) ?start3 ?step3 ?fin3
          case start3 => exact ⟨fun k => ([u111, u112, u113, u114, u115, .bool false] : List Value).getD k undef, rfl, Keep.refl _ _, .inl ⟨fun h => h, R5.out⟩, fun _ h => h.elim⟩
          case step3 =>
            rintro i o D ac wz hio hn he ⟨vs, rfl, k0, hK, hF⟩
            rcases i with _ | _ | _ | _ | _ | _ | i
            rotate_left 6
            · exact absurd hio (by simp)
            all_goals (obtain rfl := Option.some.inj (hio.symm.trans (by rfl)))
            · exact wp_of_run (run_move (.tmp 8) rfl _ rfl) ⟨upd vs 0 _, rfl, k0, hK.same (by decide), inv_same hF rfl⟩
            · refine wp_of_callE (run_enter1 30 (.tmp 111) _ rfl (ptrV (some b)) (by exact (hF 0 (he ⟨0, .data⟩ (by simp) rfl))) ent_rtexts) (rtexts_whole ts (ok_of_short CD5.out.hto) HLEN.out (V5.out.keep k0 R3.out.low) (hK.resolve_right (fun h => hn h.1)).2) ?_
              rintro e w' ⟨⟨v1, rfl, hs⟩, hr, hk⟩
              exact ⟨_, rfl, upd vs 1 _, rfl, k0.trans hk, .inr ⟨.inl rfl, hr⟩, inv_step hF (fun k v h => rdF_mono (F1 := (fun v W => SlOf encT (fun c => c ≠ b) W v ts)) (W := wz) (W' := w') (fun v h => SlOf.keep h hk (fun c hc e => hc (by injection e with e; exact e.symm))) h) hs⟩
            · exact wp_of_run (run_field4 (.tmp 10) rfl g rfl) ⟨upd vs 2 _, rfl, k0, hK.same (by decide), inv_same hF rfl⟩
            · exact wp_of_run (run_load_ss (.tmp 113) rfl ⟨g, 4, none⟩ (by exact (hF 2 (he ⟨2, .data⟩ (by simp) rfl))) q lt capt (C5.out.keep GL5.out k0 NE5.out).2.2.2.2) ⟨upd vs 3 _, rfl, k0, hK.same (by decide), inv_same hF rfl⟩
            · refine wp_of_callE (run_enter2 29 (.tmp 112) (.tmp 114) _ rfl _ _ rfl (by exact (hF 3 (he ⟨3, .data⟩ (by simp) rfl))) ent_st) (sameTexts_calls _ _ ts ts _ _ wz (hF 1 (he ⟨1, .data⟩ (by simp) rfl)) (CD5.out.ht.keep k0 (fun c hc e => hc (by injection e with e; exact e.symm)))) ?_
              rintro e w' ⟨rfl, hx⟩
              exact ⟨_, rfl, upd vs 4 _, rfl, k0.trans hx.keep, hK.other (by decide) hx, inv_step hF (fun k v h => rdF_mono (F1 := (fun v W => SlOf encT (fun c => c ≠ b) W v ts)) (W := wz) (W' := w') (fun v h => SlOf.ext h hx) h) (congrArg Value.bool (decide_eq_true rfl))⟩
            · exact wp_of_run (run_assign (.tmp 115) rfl _ (hF 4 (he ⟨4, .data⟩ (by simp) rfl))) ⟨upd vs 5 _, rfl, k0, hK.same (by decide), inv_same hF rfl⟩
          case fin3 =>
            rintro D ac wz hD ⟨vs, rfl, k0, hK, hF⟩
            have h6 : vs 5 = .bool true := hF 5 (hD 5 (by simp))
            rw [h6]
            have R6 : Hid (RdP (some b) (some R) wz) := (hK.resolve_left (fun h => h.1 (hD 1 (by simp)))).2
            have K6 : Hid (Keep (some b) w4 wz) := K5.out.trans k0
            clear hD hF h6 k0 hK
            generalize vs = ws
            go_wp2_with fail
            refine (bad_calls (some b) (some R) wz R6.out).mono ?_
            rintro e w7 ⟨rfl, rfl⟩
            simp only [Option.isNone_some]
            go_wp2
            go_roundw
            case rel => exact ⟨k + 1, by omega, by go_num, by rw [← HRR.out]; exact R6.out, K6.out⟩
            case measure => simp [intOf]; omega

end Go.Proofs.YtckhbejgkgpilaaDoor
