/- Layer 1: Of, Int. -/
import Derived.Test.YtcmpgboifcemmaaDoorNum11
import Derived.Test.YtcmpgboifcemmaaDoorNum2
import Derived.Test.YtcmpgboifcemmaaDoorNum4
import Derived.Deep.DeepFit
set_option linter.all false
namespace Go.Proofs.YtcmpgboifcemmaaDoor
open Go Go.RowKit Go.Shelf

/-- A right number of its own is handed back. -/
def ZPost1 (w : World) (z : Int) (e : Ending) (w' : World) : Prop := ∃ s, e = .returned (.agg #[.bool (decide (z < 0)), s]) ∧ U32N w.heap.size w'.heap.size w' s (digs z.natAbs) ∧ Below w.heap.size w w'

def intRes (z : Int) : Value := if -9223372036854775808 ≤ z ∧ z ≤ 9223372036854775807 then .tuple #[.int .i64 z, .bool true] else .tuple #[.int .i64 0, .bool false]
theorem znum_slice' {B : Nat} {w : World} {b : Bool} {s : Value} {z : Int} (h : ZNum B w (.agg #[.bool b, s]) z) : U32s B w s (digs z.natAbs) := by
  obtain ⟨⟨s', e, hu⟩, -⟩ := h
  cases e
  exact hu

theorem pow64 : (18446744073709551616 : Nat) < B32 ^ 64 := by decide

theorem of_wrap {n : Int} (h : n < 0) (h1 : -9223372036854775808 ≤ n) : IntKind.u64.wrap (-IntKind.u64.wrap n) = ((n.natAbs : Nat) : Int) := by
  rw [IntKind.wrap_u64, IntKind.wrap_u64]; omega
theorem of_wrap0 {n : Int} (h : 0 ≤ n) (h2 : n ≤ 9223372036854775807) : IntKind.u64.wrap n = ((n.natAbs : Nat) : Int) := by
  rw [IntKind.wrap_u64]; omega

theorem split2_val {n : Nat} (h : n < 18446744073709551616) : strip ((split2 n).take 2) = digs n := by
  have e : (split2 n).take 2 = [n % B32, n / B32] := rfl
  rw [e, strip_digs]
  · congr 1
    simp only [val]
    have := Nat.mod_add_div n B32
    omega
  · refine Digits.cons.2 ⟨Nat.mod_lt _ B32_pos, Digits.cons.2 ⟨?_, Digits.nil⟩⟩
    unfold B32; omega

set_option maxRecDepth 100000 in
set_option maxHeartbeats 2000000 in
theorem of_calls (n : Int) (h1 : -9223372036854775808 ≤ n) (h2 : n ≤ 9223372036854775807) (w : World) :
    Calls Tryd.prog 19 #[.int .i64 n] w (ZPost1 w n) := by
  obtain ⟨a, ha⟩ : ∃ a, a = n.natAbs := ⟨_, rfl⟩
  have hal : a < 18446744073709551616 := by omega
  have ha64 : n.natAbs < B32 ^ 64 := by have := pow64; omega
  have Hval := Lib.hid (split2_val hal)
  have hrs := res_of (decide (n < 0)) a n ha.symm (fun _ => rfl)
  have e1 : zneg n = decide (n < 0) := by unfold zneg; rw [if_pos ha64]
  have e2 : zdigs n = digs n.natAbs := by unfold zdigs; rw [if_pos ha64]
  have e3 : zok n = true := by unfold zok; simp [ha64]
  rw [e1, e2, e3] at hrs
  have Hrs := Lib.hid hrs
  have Hal := Lib.hid hal
  have H12 := Lib.hid (And.intro h1 h2)
  have Ha := Lib.hid ha
  clear e1 e2 e3 hrs ha64 hal h1 h2 ha
  by_cases hn : n < 0
  · go_enter Tryd.func19, Tryd.ntmps19
    go_wp2_with fail
    rw [of_wrap hn H12.out.1, ← Ha.out]
    refine (split_calls a Hal.out _).mono ?_
    rintro e w1 ⟨rfl, hb1⟩
    have Hr1 := Lib.hid ((RowAt.new w 26 (numCells false none 0 0)).below hb1 (by simp [numCells]))
    have hz1 := hb1.size
    rw [World.size_alloc] at hz1
    obtain ⟨W4, hW4⟩ : ∃ W4, W4 = (w1.alloc (.cells Tryd.zeroCells52 52)).setRow w1.heap.size (arr (split2 a)) := ⟨_, rfl⟩
    have Hz4 : Hid (W4.heap.size = w1.heap.size + 1) := by show W4.heap.size = _; rw [hW4]; simp
    have HB4 : Hid (Below w.heap.size w W4) := by rw [hW4]; exact below_setRow2 ((((Below.refl _ w).alloc (Nat.le_refl _) _).trans (hb1.mono (by simp))).alloc (by omega) _) (by omega) _
    have Hr4 : Hid (RowAt W4 w1.heap.size 52 (arr (split2 a))) := by rw [hW4]; exact (RowAt.new w1 _ _).setRow _
    have Hrr4 : Hid (RowAt W4 w.heap.size 26 (numCells false none 0 0)) := by rw [hW4]; exact (Hr1.out.alloc _).setRowOther _ (by omega)
    have hnum := number_calls (decide (n < 0)) _ _ W4 (u32s_row (B := W4.heap.size) (w := W4) (cap := 65) (L := 2) Hr4.out (by rw [Hz4.out]; omega) (by rw [split2_length]; decide) (by rw [split2_length]; decide))
    rw [Hval.out, Hrs.out.1, Hrs.out.2.1, Hrs.out.2.2] at hnum
    rw [show decide (n < 0) = true by simp; omega] at hnum
    have Hnum := Lib.hid hnum
    have Hnew := Lib.hid (RowAt.new w1 52 Tryd.zeroCells52)
    have HW4 := Lib.hid hW4
    clear hb1 hW4 hnum
    go_wp2_with (refine store_row rfl (.tmp 4) (.tmp 14) rfl w1.heap.size rfl (split2 a) (split2_length a) rfl 52 Tryd.zeroCells52 Hnew.out (by kernel_rfl) ?_; rw [← HW4.out])
    go_fit Hnum.out
    rintro e w5 ⟨s5, rfl, hu5, hb5⟩
    have hU5 := hu5
    obtain ⟨p5, c5, rfl, -, -⟩ := hU5
    have hr5 := Hrr4.out.below hb5 (by rw [Hz4.out]; omega)
    obtain ⟨W6, hW6⟩ : ∃ W6, W6 = (w5.alloc (.cells #[.bool false, .slice none 0 0] 26)).setRow w5.heap.size (numCells true p5 (digs n.natAbs).length c5) := ⟨_, rfl⟩
    have hB6 : Below W4.heap.size W4 W6 := by rw [hW6]; exact below_setRow2 (hb5.alloc hb5.size _) hb5.size _
    have hu6 : U32N W4.heap.size W6.heap.size W6 (.slice p5 (digs n.natAbs).length c5) (digs n.natAbs) := by
      have hs6 : W6.heap.size = w5.heap.size + 1 := by rw [hW6]; simp
      obtain ⟨p, cap, e, hl, hc⟩ := hu5
      cases e
      refine ⟨_, _, rfl, hl, fun h0 => ?_⟩
      obtain ⟨b, off, rfl, hlo, hlt, hcs⟩ := hc h0
      refine ⟨b, off, rfl, hlo, by omega, fun j hj => ?_⟩
      rw [hW6, cell_setRow_other _ _ _ _ (by show b ≠ w5.heap.size; omega), World.cell?_alloc_past _ _ _ hlt]
      exact hcs j hj
    have Hr6 : Hid (RowAt W6 w.heap.size 26 (numCells false none 0 0)) := by rw [hW6]; exact (hr5.alloc _).setRowOther _ (by have := hr5.lt; omega)
    have Hr7 : Hid (RowAt W6 w5.heap.size 26 (numCells true p5 (digs n.natAbs).length c5)) := by rw [hW6]; exact (RowAt.new w5 _ _).setRow _
    have Hfin := Lib.hid (finNum (g := w.heap.size) HB4.out (Nat.le_refl _) (by rw [Hz4.out]; omega) hu6 hB6 (turned_setRow W6 _ (numCells true p5 (digs n.natAbs).length c5)))
    have Hnew5 := Lib.hid (RowAt.new w5 26 (numCells false none 0 0))
    have HW6 := Lib.hid hW6
    have Hneg : Hid (decide (n < 0) = true) := by show decide (n < 0) = _; simp; omega
    clear hu5 hb5 hr5 hB6 hu6 hW6
    go_wp2_with (first
      | (refine store_num rfl (.tmp 5) (.tmp 20) rfl w5.heap.size rfl _ _ _ _ rfl _ _ Hnew5.out rfl ?_; rw [← HW6.out])
      | (refine load_num rfl (.tmp 5) rfl w5.heap.size rfl _ _ _ _ _ Hr7.out ?_)
      | (refine store_num rfl (.tmp 2) (.tmp 22) rfl w.heap.size rfl _ _ _ _ rfl _ _ Hr6.out rfl ?_))
    exact ret_num1 rfl w.heap.size rfl _ _ _ _ _ (Hr6.out.setRow _) ⟨_, by rw [Hneg.out], Hfin.out.1, Hfin.out.2⟩
  · have hn0 : 0 ≤ n := by omega
    have hnd : decide (n < 0) = false := by simp; omega
    go_enter Tryd.func19, Tryd.ntmps19
    go_wp2_with fail
    rw [of_wrap0 hn0 H12.out.2, ← Ha.out]
    refine (split_calls a Hal.out _).mono ?_
    rintro e w1 ⟨rfl, hb1⟩
    have Hr1 := Lib.hid ((RowAt.new w 26 (numCells false none 0 0)).below hb1 (by simp [numCells]))
    have hz1 := hb1.size
    rw [World.size_alloc] at hz1
    obtain ⟨W4, hW4⟩ : ∃ W4, W4 = (w1.alloc (.cells Tryd.zeroCells52 52)).setRow w1.heap.size (arr (split2 a)) := ⟨_, rfl⟩
    have Hz4 : Hid (W4.heap.size = w1.heap.size + 1) := by show W4.heap.size = _; rw [hW4]; simp
    have HB4 : Hid (Below w.heap.size w W4) := by rw [hW4]; exact below_setRow2 ((((Below.refl _ w).alloc (Nat.le_refl _) _).trans (hb1.mono (by simp))).alloc (by omega) _) (by omega) _
    have Hr4 : Hid (RowAt W4 w1.heap.size 52 (arr (split2 a))) := by rw [hW4]; exact (RowAt.new w1 _ _).setRow _
    have Hrr4 : Hid (RowAt W4 w.heap.size 26 (numCells false none 0 0)) := by rw [hW4]; exact (Hr1.out.alloc _).setRowOther _ (by omega)
    have hnum := number_calls (decide (n < 0)) _ _ W4 (u32s_row (B := W4.heap.size) (w := W4) (cap := 65) (L := 2) Hr4.out (by rw [Hz4.out]; omega) (by rw [split2_length]; decide) (by rw [split2_length]; decide))
    rw [Hval.out, Hrs.out.1, Hrs.out.2.1, Hrs.out.2.2] at hnum
    rw [hnd] at hnum
    have Hnum := Lib.hid hnum
    have Hnew := Lib.hid (RowAt.new w1 52 Tryd.zeroCells52)
    have HW4 := Lib.hid hW4
    clear hb1 hW4 hnum
    go_wp2_with (refine store_row rfl (.tmp 4) (.tmp 14) rfl w1.heap.size rfl (split2 a) (split2_length a) rfl 52 Tryd.zeroCells52 Hnew.out (by kernel_rfl) ?_; rw [← HW4.out])
    go_fit Hnum.out
    rintro e w5 ⟨s5, rfl, hu5, hb5⟩
    have hU5 := hu5
    obtain ⟨p5, c5, rfl, -, -⟩ := hU5
    have hr5 := Hrr4.out.below hb5 (by rw [Hz4.out]; omega)
    obtain ⟨W6, hW6⟩ : ∃ W6, W6 = (w5.alloc (.cells #[.bool false, .slice none 0 0] 26)).setRow w5.heap.size (numCells false p5 (digs n.natAbs).length c5) := ⟨_, rfl⟩
    have hB6 : Below W4.heap.size W4 W6 := by rw [hW6]; exact below_setRow2 (hb5.alloc hb5.size _) hb5.size _
    have hu6 : U32N W4.heap.size W6.heap.size W6 (.slice p5 (digs n.natAbs).length c5) (digs n.natAbs) := by
      have hs6 : W6.heap.size = w5.heap.size + 1 := by rw [hW6]; simp
      obtain ⟨p, cap, e, hl, hc⟩ := hu5
      cases e
      refine ⟨_, _, rfl, hl, fun h0 => ?_⟩
      obtain ⟨b, off, rfl, hlo, hlt, hcs⟩ := hc h0
      refine ⟨b, off, rfl, hlo, by omega, fun j hj => ?_⟩
      rw [hW6, cell_setRow_other _ _ _ _ (by show b ≠ w5.heap.size; omega), World.cell?_alloc_past _ _ _ hlt]
      exact hcs j hj
    have Hr6 : Hid (RowAt W6 w.heap.size 26 (numCells false none 0 0)) := by rw [hW6]; exact (hr5.alloc _).setRowOther _ (by have := hr5.lt; omega)
    have Hr7 : Hid (RowAt W6 w5.heap.size 26 (numCells false p5 (digs n.natAbs).length c5)) := by rw [hW6]; exact (RowAt.new w5 _ _).setRow _
    have Hfin := Lib.hid (finNum (g := w.heap.size) HB4.out (Nat.le_refl _) (by rw [Hz4.out]; omega) hu6 hB6 (turned_setRow W6 _ (numCells false p5 (digs n.natAbs).length c5)))
    have Hnew5 := Lib.hid (RowAt.new w5 26 (numCells false none 0 0))
    have HW6 := Lib.hid hW6
    have Hneg := Lib.hid hnd
    clear hu5 hb5 hr5 hB6 hu6 hW6
    go_wp2_with (first
      | (refine store_num rfl (.tmp 5) (.tmp 20) rfl w5.heap.size rfl _ _ _ _ rfl _ _ Hnew5.out rfl ?_; rw [← HW6.out])
      | (refine load_num rfl (.tmp 5) rfl w5.heap.size rfl _ _ _ _ _ Hr7.out ?_)
      | (refine store_num rfl (.tmp 2) (.tmp 22) rfl w.heap.size rfl _ _ _ _ rfl _ _ Hr6.out rfl ?_))
    exact ret_num1 rfl w.heap.size rfl _ _ _ _ _ (Hr6.out.setRow _) ⟨_, by rw [Hneg.out], Hfin.out.1, Hfin.out.2⟩

set_option maxRecDepth 100000 in
set_option maxHeartbeats 2000000 in
theorem int_calls (v : Value) (z : Int) (w : World) (hv : ZNum w.heap.size w v z) :
    Calls Tryd.prog 18 #[v] w fun e w' => e = .returned (intRes z) ∧ Below w.heap.size w w' := by
  obtain ⟨p, c, rfl⟩ := hv.parts
  generalize hna : decide (z < 0) = na at *
  obtain ⟨W3, hW3⟩ : ∃ W3, W3 = w.alloc (.cells #[.bool na, .slice p (digs z.natAbs).length c] 26) := ⟨_, rfl⟩
  have HB3 : Hid (Below w.heap.size w W3) := by rw [hW3]; exact (Below.refl _ w).alloc (Nat.le_refl _) _
  have Hz3 : Hid (W3.heap.size = w.heap.size + 1) := by show W3.heap.size = _; rw [hW3]; simp
  have Hra : Hid (RowAt W3 w.heap.size 26 (numCells na p (digs z.natAbs).length c)) := by rw [hW3]; exact RowAt.new w _ _
  have HA := Lib.hid ((hv.below HB3.out).mono (by rw [Hz3.out]; omega : w.heap.size ≤ W3.heap.size))
  have HW3 := Lib.hid hW3
  have Hna := Lib.hid hna
  have hn64 := digs_len64 hv.2
  obtain ⟨n, hn⟩ : ∃ n, n = (digs z.natAbs).length := ⟨_, rfl⟩
  rw [← hn] at HW3 Hra HA hn64 ⊢
  have Hn := Lib.hid hn
  clear hW3 hv hna hn
  go_enter Tryd.func18, Tryd.ntmps18
  go_wp2_with fail
  rw [← HW3.out]
  refine (right_calls_z _ z W3 HA.out).mono ?_
  rintro e w1 ⟨rfl, hb1⟩
  have Hra1 := Lib.hid (Hra.out.below hb1 (by rw [Hz3.out]; omega))
  have HA1 := Lib.hid ((HA.out.below hb1).mono hb1.size)
  have HB1 := Lib.hid (HB3.out.trans (hb1.mono (by rw [Hz3.out]; omega : w.heap.size ≤ W3.heap.size)))
  have hz1 : w.heap.size + 1 ≤ w1.heap.size := by rw [← Hz3.out]; exact hb1.size
  have h10 := Hra1.out.num0
  have h11 := Hra1.out.num1
  clear hb1
  by_cases hbig : 2 < n
  · have Hr : Hid (intRes z = .tuple #[.int .i64 0, .bool false]) := by
      show intRes z = _
      unfold intRes
      rw [if_neg]
      intro h
      have hle : (digs z.natAbs).length ≤ 2 := by rw [digs_len]; show _ < B32 ^ 2; unfold B32; omega
      have := Hn.out
      omega
    go_wp2
    go_ret2
    exact ⟨by rw [Hr.out]; rfl, HB1.out⟩
  · have hn2 : n ≤ 2 := by omega
    have hword := word_calls _ (digs z.natAbs) w1 (by have := znum_slice' HA1.out; rw [Hn.out] at this; rwa [← Hn.out] at this) (digs_digits _) (by rw [← Hn.out]; exact hn2)
    rw [val_digs] at hword
    have hlt : z.natAbs < B32 ^ 2 := digs_len.1 (by rw [← Hn.out]; exact hn2)
    obtain ⟨a, ha⟩ : ∃ a, a = z.natAbs := ⟨_, rfl⟩
    rw [← ha] at hword hlt
    have Hword := Lib.hid hword
    have Ha := Lib.hid ha
    have Hlt : Hid (a < 18446744073709551616) := hlt
    clear hword hlt ha hbig
    go_wp2_with fail
    refine Hword.out.mono ?_
    rintro e w2 ⟨rfl, hb2⟩
    have Hra2 := Hra1.out.below hb2 (by omega)
    have h20 := Hra2.num0
    have HB2 := Lib.hid (HB1.out.trans (hb2.mono (by omega : w.heap.size ≤ w1.heap.size)))
    clear Hra2 hb2
    by_cases hz : z < 0
    · obtain rfl : na = true := by rw [← Hna.out]; simp [hz]
      by_cases hin : -9223372036854775808 ≤ z
      · have Hr : Hid (intRes z = .tuple #[.int .i64 (wrap64 (-wrap64 (a : Int))), .bool true]) := by
          show intRes z = _
          have e : wrap64 (-wrap64 (a : Int)) = z := by have := Ha.out; have := Hlt.out; unfold wrap64; omega
          unfold intRes
          rw [if_pos ⟨hin, by omega⟩, e]
        have hm0 : wrap64 (-wrap64 (a : Int)) < 0 := by have := Ha.out; have := Hlt.out; unfold wrap64; omega
        have hmd : decide (wrap64 (-wrap64 (a : Int)) < 0) = true := by simp; omega
        clear hin hz
        go_wp2
        go_ret2
        exact ⟨by rw [Hr.out]; rfl, HB2.out⟩
      · have Hr : Hid (intRes z = .tuple #[.int .i64 0, .bool false]) := by
          show intRes z = _
          unfold intRes
          rw [if_neg (by omega)]
        have hm0 : 0 ≤ wrap64 (-wrap64 (a : Int)) := by have := Ha.out; have := Hlt.out; unfold wrap64; omega
        have hmd : decide (wrap64 (-wrap64 (a : Int)) < 0) = false := by simp; omega
        clear hin hz
        go_wp2
        go_ret2
        exact ⟨by rw [Hr.out]; rfl, HB2.out⟩
    · obtain rfl : na = false := by rw [← Hna.out]; simp; omega
      by_cases hin : z ≤ 9223372036854775807
      · have Hr : Hid (intRes z = .tuple #[.int .i64 (wrap64 (a : Int)), .bool true]) := by
          show intRes z = _
          have e : wrap64 (a : Int) = z := by have := Ha.out; have := Hlt.out; unfold wrap64; omega
          unfold intRes
          rw [if_pos ⟨by omega, hin⟩, e]
        have hm0 : 0 ≤ wrap64 (a : Int) := by have := Ha.out; have := Hlt.out; unfold wrap64; omega
        have hmd : decide (wrap64 (a : Int) < 0) = false := by simp; omega
        clear hin hz
        go_wp2
        go_ret2
        exact ⟨by rw [Hr.out]; rfl, HB2.out⟩
      · have Hr : Hid (intRes z = .tuple #[.int .i64 0, .bool false]) := by
          show intRes z = _
          unfold intRes
          rw [if_neg (by omega)]
        have hm0 : wrap64 (a : Int) < 0 := by have := Ha.out; have := Hlt.out; unfold wrap64; omega
        have hmd : decide (wrap64 (a : Int) < 0) = true := by simp; omega
        clear hin hz
        go_wp2
        go_ret2
        exact ⟨by rw [Hr.out]; rfl, HB2.out⟩

end Go.Proofs.YtcmpgboifcemmaaDoor
