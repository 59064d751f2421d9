/- The reference of layer 1: compare and Same, at equal numbers; etchantlaw01.is. -/
import Derived.Test.YtcmpgboifcemmaaDoorNum28
import Derived.Test.YtcmpgboifcemmaaDoorNum14
import Derived.Deep.QuietTactic
import Derived.BigQuiet
set_option linter.all false
namespace Go.Proofs.YtcmpgboifcemmaaDoor
open Go Go.RowKit Go.Shelf

/-- w' comes after w: nothing that was there has changed. -/
def Ext (w w' : World) : Prop := Below w.heap.size w w'
theorem Ext.refl (w : World) : Ext w w := Below.refl _ w
theorem Ext.trans {a b c : World} (h : Ext a b) (k : Ext b c) : Ext a c := Below.trans h (Below.mono k (Below.size h))
theorem Ext.alloc (w : World) (o : Obj) : Ext w (w.alloc o) := (Below.refl _ w).alloc (Nat.le_refl _) o
theorem Ext.drew (w : World) : Ext w w.drew := (Below.refl _ w).drew
theorem Ext.drewN (w : World) (k : Nat) : Ext w (w.drewN k) := ⟨rfl, rfl, rfl, Nat.le_refl _, fun _ _ => rfl⟩
theorem Ext.num {w w' : World} {v : Value} {z : Int} (h : Ext w w') (hz : ZNum w.heap.size w v z) : ZNum w'.heap.size w' v z := (ZNum.below hz h).mono (Below.size h)
theorem Ext.row {w w' : World} {g : Nat} {t : TypeId} {cs : Array Value} (h : Ext w w') (hr : RowAt w g t cs) : RowAt w' g t cs := RowAt.below hr h hr.lt
theorem Ext.tab {w w' : World} (h : Ext w w') (ht : Tab w) : Tab w' := Tab.below ht h
theorem Ext.u32s {w w' : World} {v : Value} {ds : List Nat} (h : Ext w w') (hu : U32s w.heap.size w v ds) : U32s w'.heap.size w' v ds := (U32s.below hu h).mono (Below.size h)

set_option maxRecDepth 100000 in
set_option maxHeartbeats 2000000 in
theorem compare_same (v u : Value) (xs : List Nat) (w : World) (hx : U32s w.heap.size w v xs) (hy : U32s w.heap.size w u xs) :
    Calls Tryd.prog 38 #[v, u] w fun e w' => e = .returned (.int .i64 0) ∧ Ext w w' := by
  obtain ⟨p, cap, rfl, hl, hc⟩ := hx
  obtain ⟨q, cap2, rfl, -, hc2⟩ := hy
  have hlm := digs_lt_maxLen hl
  have Hc := Lib.hid hc
  have Hc2 := Lib.hid hc2
  generalize hn : xs.length = n at *
  have Hn := Lib.hid hn
  clear hc hc2 hn hl
  go_enter Tryd.func38, Tryd.ntmps38
  go_wp2
  go_loopw [5] (fun i wr => ∃ k : Nat, k ≤ n ∧ i = .int .i64 ((k : Int) - 1) ∧ Ext w wr) (fun i _ => (intOf i + 1).toNat)
  case atStart => exact ⟨n, Nat.le_refl _, rfl, Ext.refl _⟩
  case round =>
    obtain ⟨k, hk, rfl, hB⟩ := hrel
    by_cases h0 : k = 0
    · subst h0
      have HB := Lib.hid hB
      clear hB
      go_wp2
      go_ret
      exact ⟨rfl, HB.out⟩
    · obtain ⟨j, rfl⟩ : ∃ j, k = j + 1 := ⟨k - 1, by omega⟩
      have hj : ((j + 1 : Nat) : Int) - 1 = (j : Int) := by omega
      rw [hj]
      obtain ⟨b, off, rfl, hb, hcs⟩ := Hc.out (by omega)
      obtain ⟨b2, off2, rfl, hb2, hcs2⟩ := Hc2.out (by omega)
      have h1 := (Below.cell hB (p := ⟨b, off + j, none⟩) hb).trans (hcs j (by omega))
      have h2 := (Below.cell hB (p := ⟨b2, off2 + j, none⟩) hb2).trans (hcs2 j (by omega))
      have hjI : (j : Int) < (n : Int) := by omega
      have hj0 : (0 : Int) ≤ (j : Int) := by omega
      have HB := Lib.hid hB
      generalize xs[j]?.getD 0 = d at *
      clear hcs hcs2 hB h0
      have hdd : ¬ ((d : Int) < (d : Int)) := by omega
      go_wp2
      go_quiet (fail)
      go_wp2
      go_quiet (fail)
      go_wp2
      go_roundw
      case rel => exact ⟨j, by omega, by congr 1, HB.out.trans (Ext.drewN _ _)⟩
      case measure => simp [intOf]

set_option maxRecDepth 100000 in
set_option maxHeartbeats 2000000 in
theorem same_calls (va vb : Value) (z : Int) (w : World) (ha : ZNum w.heap.size w va z) (hb : ZNum w.heap.size w vb z) :
    Calls Tryd.prog 15 #[va, vb] w fun e w' => e = .returned (.bool true) ∧ Ext w w' := by
  obtain ⟨p, c, rfl⟩ := ha.parts
  obtain ⟨q, c2, rfl⟩ := hb.parts
  have hua := znum_slice ha
  have hub := znum_slice hb
  generalize decide (z < 0) = na at *
  generalize digs z.natAbs = xs at *
  generalize hn : xs.length = n at *
  have hx : Ext w ((w.alloc (.cells #[.bool na, .slice p n c] 26)).alloc (.cells #[.bool na, .slice q n c2] 26)) := (Ext.alloc _ _).trans (Ext.alloc _ _)
  have HC := Lib.hid (compare_same _ _ xs _ (hx.u32s hua) (hx.u32s hub))
  have Hx := Lib.hid hx
  have hbb : (na == na) = true := by simp
  clear ha hb hua hub hx hn
  go_enter Tryd.func15, Tryd.ntmps15
  go_wp2_with fail
  refine HC.out.mono ?_
  rintro e w1 ⟨rfl, h1⟩
  have H1 := Lib.hid h1
  clear h1
  go_wp2
  go_ret
  exact ⟨rfl, Hx.out.trans H1.out⟩

set_option maxRecDepth 100000 in
set_option maxHeartbeats 2000000 in
theorem is_calls (va s : Value) (neg : Bool) (z : Int) (w : World) (ha : ZNum w.heap.size w va z) (hs : U32s w.heap.size w s (digs z.natAbs)) (hneg : neg = decide (z < 0)) :
    Calls Tryd.prog 25 #[va, .bool true, .bool neg, s] w fun e w' => e = .returned (.bool true) ∧ Ext w w' := by
  obtain ⟨p, c, rfl⟩ := ha.parts
  obtain ⟨q, c2, rfl, -, -⟩ := id hs
  have hlim := ha.2
  obtain ⟨W1, hW1⟩ : ∃ W1, W1 = w.alloc (.cells #[.bool (decide (z < 0)), .slice p (digs z.natAbs).length c] 26) := ⟨_, rfl⟩
  have hx : Ext w W1 := by rw [hW1]; exact Ext.alloc _ _
  have hvb : ZNum W1.heap.size W1 (.agg #[.bool neg, .slice q (digs z.natAbs).length c2]) z := by subst hneg; exact ⟨⟨_, rfl, hx.u32s hs⟩, hlim⟩
  have HC := Lib.hid (same_calls _ _ z W1 (hx.num ha) hvb)
  have Hx := Lib.hid hx
  have HW1 := Lib.hid hW1
  clear ha hs hlim hx hvb hW1 hneg
  generalize decide (z < 0) = na at *
  generalize (digs z.natAbs).length = n at *
  go_enter Tryd.func25, Tryd.ntmps25
  go_wp2_with fail
  rw [← HW1.out]
  refine HC.out.mono ?_
  rintro e w1 ⟨rfl, h1⟩
  have H1 := Lib.hid h1
  clear h1
  go_wp2
  go_ret
  exact ⟨rfl, Hx.out.trans H1.out⟩

end Go.Proofs.YtcmpgboifcemmaaDoor
