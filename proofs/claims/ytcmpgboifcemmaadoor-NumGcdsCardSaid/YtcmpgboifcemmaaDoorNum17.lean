/- Layer 1: takeOut, walked. -/
import Derived.Test.YtcmpgboifcemmaaDoorNum16
set_option linter.all false
namespace Go.Proofs.YtcmpgboifcemmaaDoor
open Go Go.RowKit Go.Shelf

theorem below_of_drew {B : Nat} {w w' : World} (h : Below B w.drew w') : Below B w w' := ⟨h.os, h.tape, h.output, h.size, h.block⟩
theorem sub_cast (c g y : Nat) : ((c : Int) + (g : Int) * (y : Int)) % 4294967296 = (((c + g * y) % B32 : Nat) : Int) ∧ ((c : Int) + (g : Int) * (y : Int)) / 4294967296 = (((c + g * y) / B32 : Nat) : Int) := by
  unfold B32
  rw [← Int.natCast_mul]
  generalize g * y = t
  omega
theorem mul_boundI {g y : Nat} (hg : g < B32) (hy : y < B32) : 0 ≤ (g : Int) * (y : Int) ∧ (g : Int) * (y : Int) ≤ 18446744065119617025 := by
  have := mul_bound hg hy
  rw [← Int.natCast_mul]
  generalize g * y = t at *
  omega

set_option maxRecDepth 100000 in
set_option maxHeartbeats 4000000 in
theorem takeOut_walk (bx o cx by_ oy cy m1 : Nat) (t : TypeId) (Y R : List Nat) (w : World) (hrow : RowAt w bx t (arr R)) (hdR : Digits R) (hdY : Digits Y) (hY : Y.length = m1 + 1) (hR : R.length = 65) (ho : o + m1 + 1 < 65)
    (hcx : m1 + 2 ≤ cx) (hcx2 : cx ≤ 65) (hby : by_ < w.heap.size) (hne : by_ ≠ bx) (hcy : ∀ j, j < m1 + 1 → w.cell? ⟨by_, oy + j, none⟩ = some (.int .u32 ((Y[j]?.getD 0 : Nat) : Int))) (htop : Y[m1]?.getD 0 ≠ 0) (hvY : 0 < val Y) (hz : ∀ j, o + Y.length < j → R[j]?.getD 0 = 0) (hbig : val (R.drop o) / val Y ≤ guess0 o Y R m1) :
    Calls Tryd.prog 51 #[.slice (some ⟨bx, o, none⟩) (m1 + 1 + 1) cx, .slice (some ⟨by_, oy, none⟩) (m1 + 1) cy] w fun e w' => ∃ g Z, e = .returned (.int .u32 (g : Nat)) ∧ Out o Y R g 0 Z ∧ RowAt w' bx t (arr Z) ∧ Keeps w.heap.size bx w w' := by
  have hstart : guess0 o Y R m1 < B32 → Out o Y R (guess0 o Y R m1) (subB (guess0 o Y R m1) o Y R Y.length) (subR (guess0 o Y R m1) o Y R Y.length) := fun hg => out_start hg hdY hdR (by omega) hbig
  have hstep : ∀ g Z, Out o Y R g 1 Z → 1 ≤ g ∧ Out o Y R (g - 1) (1 - addB o Y Z Y.length) (addR o Y Z Y.length) := fun g Z h => ⟨Nat.lt_of_le_of_lt (Nat.zero_le _) (h.pos hvY (by omega) hz), h.step hdY hvY (by omega) hz⟩
  rw [hY] at hstart
  have Hstep := Lib.hid hstep
  have hbx := hrow.lt
  have htl := hdY.getD m1
  have hword := word_calls (.slice (some ⟨bx, o + m1, none⟩) 2 (cx - m1)) [R[o + m1]?.getD 0, R[o + m1 + 1]?.getD 0] w.drew
    ⟨_, _, rfl, by show 2 ≤ maxLen; decide, fun _ => ⟨bx, o + m1, rfl, hbx, fun j hj => by
      rw [show w.drew.cell? ⟨bx, o + m1 + j, none⟩ = w.cell? ⟨bx, o + m1 + j, none⟩ from rfl, hrow.cell, arr_get R _ (by simp at hj; omega)]
      match j, hj with
      | 0, _ => rfl
      | 1, _ => rfl⟩⟩ (Digits.cons.2 ⟨hdR.getD _, Digits.cons.2 ⟨hdR.getD _, Digits.nil⟩⟩) (Nat.le_refl 2)
  have hval : val [R[o + m1]?.getD 0, R[o + m1 + 1]?.getD 0] = R[o + m1]?.getD 0 + B32 * R[o + m1 + 1]?.getD 0 := by simp [val]
  rw [hval] at hword
  have Hg0 : Hid (guess0 o Y R m1 = min ((R[o + m1]?.getD 0 + B32 * R[o + m1 + 1]?.getD 0) / Y[m1]?.getD 0) 4294967295) := rfl
  have hcyt := hcy m1 (by omega)
  have htop64 : R[o + m1]?.getD 0 + B32 * R[o + m1 + 1]?.getD 0 < 18446744073709551616 := by
    have h1 := hdR.getD (o + m1)
    have h2 := hdR.getD (o + m1 + 1)
    unfold B32 at *; omega
  generalize R[o + m1]?.getD 0 + B32 * R[o + m1 + 1]?.getD 0 = top at *
  generalize Y[m1]?.getD 0 = yt at *
  have htopl : (top : Int) / (yt : Int) < 18446744073709551616 ∧ 0 ≤ (top : Int) / (yt : Int) := by
    have h1 := Nat.div_le_self top yt
    have : ((top / yt : Nat) : Int) = (top : Int) / (yt : Int) := Int.natCast_ediv _ _
    rw [← this]
    generalize top / yt = z at *
    omega
  have hmin : min (IntKind.u64.wrap ((top : Int) / (yt : Int))) 4294967295 = ((guess0 o Y R m1 : Nat) : Int) := by
    rw [IntKind.wrap_u64, Int.emod_eq_of_lt htopl.2 htopl.1, Hg0.out]
    have : ((top / yt : Nat) : Int) = (top : Int) / (yt : Int) := Int.natCast_ediv _ _
    rw [← this]
    generalize top / yt = z at *
    omega
  have hgB : guess0 o Y R m1 < B32 := by rw [Hg0.out]; unfold B32; omega
  generalize guess0 o Y R m1 = g0 at *
  have hyt : 1 ≤ (yt : Int) := by omega
  have Hstart := Lib.hid (hstart hgB)
  have Hword := Lib.hid hword
  have Hrow := Lib.hid hrow
  have HgB := Lib.hid hgB
  have Hcy := Lib.hid hcy
  unfold B32 at htl
  clear hword hval hrow hgB hcy htop htopl htop64 hstart hstep hz hbig hvY
  go_enter Tryd.func51, Tryd.ntmps51
  go_wp2_with fail
  have hw1 : IntKind.i64.wrap ((m1 : Int) + 1 - 1) = (m1 : Int) := by rw [IntKind.wrap_i64]; omega
  have hw2 : IntKind.i64.wrap (m1 : Int) = (m1 : Int) := by rw [IntKind.wrap_i64]; omega
  have hw3 : (0 : Int) ≤ (m1 : Int) := by omega
  have hq0 : IntKind.u64.wrap (yt : Int) = (yt : Int) := by rw [IntKind.wrap_u64]; omega
  have hq1 : ((yt : Int) == 0) = false := by simp; omega
  have hq2 : ¬ yt = 0 := by omega
  have hq3 : ¬ (yt : Int) = 0 := by omega
  have hs1 : (m1 : Int) ≤ (cx : Int) := by omega
  have hs2 : ¬ m1 = cx := by omega
  have hs3 : (m1 : Int) ≤ (m1 : Int) + 1 + 1 := by omega
  have hs4 : (m1 : Int) + 1 + 1 ≤ (cx : Int) := by omega
  have hs5 : ¬ cx = m1 := by omega
  have hs6 : ¬ cx ≤ m1 := by omega
  have hs7 : (m1 : Int) < (m1 : Int) + 1 := by omega
  have hs8 : ((m1 : Int) == (cx : Int)) = false := by simp; omega
  have hs9 : m1 + 1 + 1 - m1 = 2 := by omega
  go_region_held3 (fun W => W.cell? ⟨by_, oy + m1, none⟩ = some (.int .u32 yt)) (first | (show World.cell? _ _ = _; assumption))
    (first | (go_at_call 43; refine Hword.out.mono ?_; rintro e w5 ⟨rfl, hb5⟩; have hk1 : w5.cell? ⟨by_, oy + m1, none⟩ = some (.int .u32 yt) := (hb5.cell (p := ⟨by_, oy + m1, none⟩) hby).trans hcyt; have HB5 := Lib.hid hb5; clear hb5))
  have Hgb := HgB.out
  clear hw1 hw2 hw3 hq0 hq1 hq2 hq3 hs1 hs2 hs3 hs4 hs5 hs6 hs7 hs8 hs9 hcyt Hword
  go_wp2_with fail
  have HK5 : Hid (Keeps w.heap.size bx w w5) := (Keeps.refl _ _ _).below (below_of_drew HB5.out)
  have Hr5 : Hid (RowAt w5 bx t (arr R)) := Hrow.out.below (below_of_drew HB5.out) hbx
  clear hk1 hmin hyt
  go_loopw [7, 8, 31] (fun c b i wr => ∃ k : Nat, k ≤ m1 + 1 ∧ i = .int .i64 k ∧ c = .int .u64 ((toSub g0 o Y R k).1 : Nat) ∧ b = .int .u32 ((toSub g0 o Y R k).2.1 : Nat) ∧ RowAt wr bx t (arr (toSub g0 o Y R k).2.2) ∧ Keeps w.heap.size bx w wr)
    (fun _ _ i _ => m1 + 1 - (intOf i).toNat)
  case atStart => exact ⟨0, Nat.zero_le _, rfl, rfl, rfl, Hr5.out, HK5.out⟩
  case round =>
    obtain ⟨k, hk, rfl, rfl, rfl, hr, hK⟩ := hrel
    obtain ⟨b1, b2, b3⟩ := toSub_bounds (o := o) Hgb hdY hdR k
    have hl := toSub_length g0 o Y R k
    rw [hR] at hl
    by_cases hkm : k < m1 + 1
    · have hcyk := (hK.cell (p := ⟨by_, oy + k, none⟩) hby hne).trans (Hcy.out k hkm)
      have hyk := hdY.getD k
      have hxk := b3.getD (o + k)
      have hcx0 := (hr.cell (o + k)).trans (arr_get _ (o + k) (by rw [hl]; omega))
      have hfx := hr.frozen (o + k)
      have hs1 : (toSub g0 o Y R (k + 1)).1 = ((toSub g0 o Y R k).1 + g0 * Y[k]?.getD 0) / B32 := rfl
      have hs2 : (toSub g0 o Y R (k + 1)).2.1 = subHi ((toSub g0 o Y R k).2.2[o + k]?.getD 0) (((toSub g0 o Y R k).1 + g0 * Y[k]?.getD 0) % B32) (toSub g0 o Y R k).2.1 := rfl
      have hs3 : (toSub g0 o Y R (k + 1)).2.2 = (toSub g0 o Y R k).2.2.set (o + k) (subLo ((toSub g0 o Y R k).2.2[o + k]?.getD 0) (((toSub g0 o Y R k).1 + g0 * Y[k]?.getD 0) % B32) (toSub g0 o Y R k).2.1) := rfl
      generalize (toSub g0 o Y R k).2.2[o + k]?.getD 0 = x at *
      generalize Y[k]?.getD 0 = y at *
      generalize toSub g0 o Y R k = st at *
      obtain ⟨c, b, Z⟩ := st
      dsimp only at *
      obtain ⟨hm0, hm1⟩ := mul_boundI Hgb hyk
      obtain ⟨hc1, hc2⟩ := sub_cast c g0 y
      have Hsub := Lib.hid (sub32_calls x ((c + g0 * y) % B32) b hxk (Nat.mod_lt _ B32_pos) b2 wr)
      have Hs1 := Lib.hid hs1
      have Hs2 := Lib.hid hs2
      have Hs3 := Lib.hid hs3
      have Hr := Lib.hid hr
      have hcb : c < 4294967296 := b1
      have hyb : y < 4294967296 := hyk
      have hgb : g0 < 4294967296 := Hgb
      generalize (c + g0 * y) % B32 = tm at *
      generalize (c + g0 * y) / B32 = td at *
      have Hc1 := Lib.hid hc1
      have Hc2 := Lib.hid hc2
      clear hs1 hs2 hs3 hr b1 b2 b3 hl hyk hxk hc1 hc2
      go_wp2_with fail
      rw [Hc1.out]
      refine Hsub.out.mono ?_
      rintro e w6 ⟨rfl, rfl⟩
      go_wp2
      go_roundw
      case rel =>
        rw [Hc2.out]
        exact ⟨k + 1, by omega, by rw [Int.natCast_add]; rfl, by rw [Hs1.out], by rw [Hs2.out], by rw [Hs3.out, ← arr_set]; exact Hr.out.set (o + k) _, hK.setCell (p := ⟨bx, o + k, none⟩) (.inl rfl) _⟩
      case measure => show m1 + 1 - ((k : Int) + 1).toNat < m1 + 1 - ((k : Int)).toNat; omega
    · obtain rfl : k = m1 + 1 := by omega
      have hxk := b3.getD (o + (m1 + 1))
      have hcx0 := (hr.cell (o + (m1 + 1))).trans (arr_get _ (o + (m1 + 1)) (by rw [hl]; omega))
      have hfx := hr.frozen (o + (m1 + 1))
      have hB : subB g0 o Y R (m1 + 1) = subHi ((toSub g0 o Y R (m1 + 1)).2.2[o + (m1 + 1)]?.getD 0) (toSub g0 o Y R (m1 + 1)).1 (toSub g0 o Y R (m1 + 1)).2.1 := rfl
      have hRs : subR g0 o Y R (m1 + 1) = (toSub g0 o Y R (m1 + 1)).2.2.set (o + (m1 + 1)) (subLo ((toSub g0 o Y R (m1 + 1)).2.2[o + (m1 + 1)]?.getD 0) (toSub g0 o Y R (m1 + 1)).1 (toSub g0 o Y R (m1 + 1)).2.1) := rfl
      generalize (toSub g0 o Y R (m1 + 1)).2.2[o + (m1 + 1)]?.getD 0 = x at *
      generalize toSub g0 o Y R (m1 + 1) = st at *
      obtain ⟨c, b, Z⟩ := st
      dsimp only at *
      have Hsub := Lib.hid (sub32_calls x c b hxk b1 b2 wr)
      have HB := Lib.hid hB
      have HRs := Lib.hid hRs
      have Hr := Lib.hid hr
      have hcb : c < 4294967296 := b1
      generalize subB g0 o Y R (m1 + 1) = bo at *
      generalize subR g0 o Y R (m1 + 1) = Zo at *
      clear hB hRs hr b1 b2 b3 hl hxk
      go_wp2_with fail
      refine Hsub.out.mono ?_
      rintro e w6 ⟨rfl, rfl⟩
      go_wp2
      rw [← HB.out]
      have Hr6 : Hid (RowAt (wr.setCell ⟨bx, o + (m1 + 1), none⟩ (.int .u32 (subLo x c b : Nat))) bx t (arr Zo)) := by rw [HRs.out, ← arr_set]; exact Hr.out.set _ _
      have HK6 : Hid (Keeps w.heap.size bx w (wr.setCell ⟨bx, o + (m1 + 1), none⟩ (.int .u32 (subLo x c b : Nat)))) := hK.setCell (p := ⟨bx, o + (m1 + 1), none⟩) (.inl rfl) _
      generalize wr.setCell ⟨bx, o + (m1 + 1), none⟩ (.int .u32 (subLo x c b : Nat)) = W6 at *
      clear hcx0 hfx hK Hr HRs hcb
      go_loopw [6, 8] (fun gv bv wr => ∃ g b Z, gv = .int .u64 (g : Nat) ∧ bv = .int .u32 (b : Nat) ∧ Out o Y R g b Z ∧ RowAt wr bx t (arr Z) ∧ Keeps w.heap.size bx w wr)
        (fun gv _ _ => (intOf gv).toNat)
      case atStart => exact ⟨g0, bo, Zo, rfl, rfl, Hstart.out, Hr6.out, HK6.out⟩
      case round =>
        clear HK6 Hr6 HK5 Hr5 HB5
        obtain ⟨g, b, Z, rfl, rfl, ho2, hr, hK⟩ := hrel
        obtain ⟨wo, hwo⟩ : ∃ wo : World, wo = wr := ⟨_, rfl⟩
        rw [← hwo] at hr hK ⊢
        clear hwo wr
        have hgB : g < 4294967296 := ho2.hg
        have hb1 := ho2.hb
        by_cases hb0 : b = 0
        · subst hb0
          have Hout := Lib.hid ho2
          have Hr := Lib.hid hr
          have HK := Lib.hid hK
          clear ho2 hr hK hb1
          go_wp2
          go_ret
          exact ⟨g, Z, rfl, Hout.out, Hr.out, HK.out⟩
        · obtain rfl : b = 1 := by omega
          obtain ⟨hg1, hst⟩ := Hstep.out g Z ho2
          rw [hY] at hst
          have hdZ := ho2.digits
          have hlZ := ho2.len
          rw [hR] at hlZ
          have Hst := Lib.hid hst
          have HdZ := Lib.hid hdZ
          have HlZ := Lib.hid hlZ
          obtain ⟨g1, rfl⟩ : ∃ g1, g = g1 + 1 := ⟨g - 1, by omega⟩
          rw [Nat.add_sub_cancel] at Hst
          have hg1B : (g1 : Int) ≤ 4294967295 := by omega
          have hgm : ((g1 + 1 : Nat) : Int) - 1 = (g1 : Int) := by omega
          have Hr := Lib.hid hr
          have HK := Lib.hid hK
          have Hgm := Lib.hid hgm
          clear ho2 hst hdZ hlZ hr hK hb1 hb0 hg1 hgm
          rw [show ((1 : Nat) : Int) = 1 from rfl, show ((g1 + 1 : Nat) : Int) = (g1 : Int) + 1 from rfl]
          go_wp2_with fail
          go_loopw [11, 79] (fun ov i wr => ∃ k : Nat, k ≤ m1 + 1 ∧ i = .int .i64 k ∧ ov = .int .u32 ((toAdd o Y Z k).1 : Nat) ∧ RowAt wr bx t (arr (toAdd o Y Z k).2) ∧ Keeps w.heap.size bx w wr)
            (fun _ i _ => m1 + 1 - (intOf i).toNat)
          case atStart => exact ⟨0, Nat.zero_le _, rfl, rfl, Hr.out, HK.out⟩
          case round =>
            obtain ⟨k, hk, rfl, rfl, hr, hK⟩ := hrel
            obtain ⟨b1, b2⟩ := toAdd_bounds (o := o) hdY HdZ.out k
            have hl := toAdd_length o Y Z k
            rw [HlZ.out] at hl
            by_cases hkm : k < m1 + 1
            · have hcyk := (hK.cell (p := ⟨by_, oy + k, none⟩) hby hne).trans (Hcy.out k hkm)
              have hyk := hdY.getD k
              have hxk := b2.getD (o + k)
              have hcx0 := (hr.cell (o + k)).trans (arr_get _ (o + k) (by rw [hl]; omega))
              have hfx := hr.frozen (o + k)
              have hs1 : (toAdd o Y Z (k + 1)).1 = addHi ((toAdd o Y Z k).2[o + k]?.getD 0) (Y[k]?.getD 0) (toAdd o Y Z k).1 := rfl
              have hs2 : (toAdd o Y Z (k + 1)).2 = (toAdd o Y Z k).2.set (o + k) (addLo ((toAdd o Y Z k).2[o + k]?.getD 0) (Y[k]?.getD 0) (toAdd o Y Z k).1) := rfl
              generalize (toAdd o Y Z k).2[o + k]?.getD 0 = x at *
              generalize Y[k]?.getD 0 = y at *
              generalize toAdd o Y Z k = st at *
              obtain ⟨c, Zk⟩ := st
              dsimp only at *
              have Hadd := Lib.hid (add32_calls x y c hxk hyk b1 wr)
              have Hs1 := Lib.hid hs1
              have Hs2 := Lib.hid hs2
              have Hr2 := Lib.hid hr
              clear hs1 hs2 hr b1 b2 hl hyk hxk
              go_wp2_with fail
              refine Hadd.out.mono ?_
              rintro e w6 ⟨rfl, rfl⟩
              go_wp2
              go_roundw
              case rel => exact ⟨k + 1, by omega, by rw [Int.natCast_add]; rfl, by rw [Hs1.out], by rw [Hs2.out, ← arr_set]; exact Hr2.out.set (o + k) _, hK.setCell (p := ⟨bx, o + k, none⟩) (.inl rfl) _⟩
              case measure => show m1 + 1 - ((k : Int) + 1).toNat < m1 + 1 - ((k : Int)).toNat; omega
            · obtain rfl : k = m1 + 1 := by omega
              have hxk := b2.getD (o + (m1 + 1))
              have hcx0 := (hr.cell (o + (m1 + 1))).trans (arr_get _ (o + (m1 + 1)) (by rw [hl]; omega))
              have hfx := hr.frozen (o + (m1 + 1))
              have hB : addB o Y Z (m1 + 1) = addHi ((toAdd o Y Z (m1 + 1)).2[o + (m1 + 1)]?.getD 0) 0 (toAdd o Y Z (m1 + 1)).1 := rfl
              have hRs : addR o Y Z (m1 + 1) = (toAdd o Y Z (m1 + 1)).2.set (o + (m1 + 1)) (addLo ((toAdd o Y Z (m1 + 1)).2[o + (m1 + 1)]?.getD 0) 0 (toAdd o Y Z (m1 + 1)).1) := rfl
              have hov : addB o Y Z (m1 + 1) ≤ 1 := addB_le hdY HdZ.out _
              generalize (toAdd o Y Z (m1 + 1)).2[o + (m1 + 1)]?.getD 0 = x at *
              generalize toAdd o Y Z (m1 + 1) = st at *
              obtain ⟨c, Zk⟩ := st
              dsimp only at *
              have hadd : Calls Tryd.prog 67 #[.int .u32 x, .int .u32 0, .int .u32 c] wr _ := add32_calls x 0 c hxk B32_pos b1 wr
              rw [← hB] at hadd
              have Hadd := Lib.hid hadd
              have HB := Lib.hid hB
              have HRs := Lib.hid hRs
              have Hr2 := Lib.hid hr
              generalize addB o Y Z (m1 + 1) = ov at *
              generalize addR o Y Z (m1 + 1) = Zo at *
              clear hB hRs hr b1 b2 hl hxk hadd
              go_wp2_with fail
              refine Hadd.out.mono ?_
              rintro e w6 ⟨rfl, rfl⟩
              go_wp2
              go_roundw
              case rel => exact ⟨g1, 1 - ov, Zo, by first | rfl | rw [Hgm.out], by rw [Int.ofNat_sub hov]; rfl, Hst.out, by rw [HRs.out, ← arr_set]; exact Hr2.out.set _ _, hK.setCell (p := ⟨bx, o + (m1 + 1), none⟩) (.inl rfl) _⟩
              case measure => show ((g1 : Int)).toNat < (((g1 + 1 : Nat) : Int)).toNat; omega

end Go.Proofs.YtcmpgboifcemmaaDoor
