/- The reference of layer 1: Made, the number that a list of ints makes. -/
import Derived.Test.YtcmpgboifcemmaaDoorRef3
import Derived.WalkKit
set_option linter.all false
namespace Go.Proofs.YtcmpgboifcemmaaDoor
open Go Go.RowKit Go.Shelf

/-- The slice value v reads as the ints zs, which lie below block B. -/
def I64s (B : Nat) (w : World) (v : Value) (zs : List Int) : Prop :=
  ∃ (p : Option Addr) (cap : Nat), v = .slice p zs.length cap ∧ zs.length ≤ maxLen ∧ (0 < zs.length → ∃ b off, p = some ⟨b, off, none⟩ ∧ b < B ∧ ∀ j, j < zs.length → w.cell? ⟨b, off + j, none⟩ = some (.int .i64 (zs[j]?.getD 0)))
theorem I64s.below {B : Nat} {w w' : World} {v : Value} {zs : List Int} (h : I64s B w v zs) (hb : Below B w w') : I64s B w' v zs := by
  obtain ⟨p, cap, rfl, hl, hc⟩ := h
  refine ⟨p, cap, rfl, hl, fun h0 => ?_⟩
  obtain ⟨b, off, rfl, hB, hc⟩ := hc h0
  exact ⟨b, off, rfl, hB, fun j hj => (hb.cell (p := ⟨b, off + j, none⟩) hB).trans (hc j hj)⟩
theorem I64s.mono {B B' : Nat} {w : World} {v : Value} {zs : List Int} (h : I64s B w v zs) (hb : B ≤ B') : I64s B' w v zs := by
  obtain ⟨p, cap, rfl, hl, hc⟩ := h
  refine ⟨p, cap, rfl, hl, fun h0 => ?_⟩
  obtain ⟨b, off, rfl, hB, hc⟩ := hc h0
  exact ⟨b, off, rfl, by omega, hc⟩
theorem Ext.i64s {w w' : World} {v : Value} {zs : List Int} (h : Ext w w') (hu : I64s w.heap.size w v zs) : I64s w'.heap.size w' v zs := (I64s.below hu h).mono (Below.size h)

/-- The digits that a list of ints makes. -/
def madeDs (zs : List Int) : List Nat := ((zs.drop 1).take 6).map fun z => (z % 4294967296).toNat
def madeNeg (zs : List Int) : Bool := decide (0 < zs.length) && ((zs[0]?.getD 0).tmod 2 != 0)
/-- The number that a list of ints makes. -/
def madeOf (zs : List Int) : Int := madeZ (madeNeg zs) (val (madeDs zs))
theorem madeDs_digits (zs : List Int) : Digits (madeDs zs) := fun d hd => by
  obtain ⟨z, -, rfl⟩ := List.mem_map.1 hd
  unfold B32; omega
theorem madeDs_length (zs : List Int) : (madeDs zs).length ≤ 6 := by
  unfold madeDs; rw [List.length_map, List.length_take]; omega
theorem madeDs_lt (zs : List Int) : val (madeDs zs) < B32 ^ 6 := Nat.lt_of_lt_of_le (val_lt (madeDs_digits zs)) (Nat.pow_le_pow_right B32_pos (madeDs_length zs))
theorem madeOf_lt (zs : List Int) : (madeOf zs).natAbs < B32 ^ 6 := by rw [madeOf, madeZ_abs]; exact madeDs_lt zs
theorem madeDs_take {zs : List Int} {j : Nat} (h : ¬ (j + 1 < zs.length ∧ j + 1 < 7)) : (madeDs zs).take j = madeDs zs := by
  refine List.take_of_length_le ?_
  unfold madeDs; rw [List.length_map, List.length_take, List.length_drop]; omega
theorem madeDs_succ {zs : List Int} {j : Nat} (h1 : j + 1 < zs.length) (h2 : j + 1 < 7) : (madeDs zs).take (j + 1) = (madeDs zs).take j ++ [((zs[j + 1]?.getD 0) % 4294967296).toNat] ∧ ((madeDs zs).take j).length = j := by
  have hl : j < (madeDs zs).length := by unfold madeDs; rw [List.length_map, List.length_take, List.length_drop]; omega
  refine ⟨?_, by rw [List.length_take]; omega⟩
  rw [List.take_add_one, List.getElem?_eq_getElem hl]
  congr 1
  have e : (madeDs zs)[j]? = some (((zs[j + 1]?.getD 0) % 4294967296).toNat) := by
    unfold madeDs
    rw [List.getElem?_map, List.getElem?_take_of_lt (by omega), List.getElem?_drop, Nat.add_comm 1 j, List.getElem?_eq_getElem h1]
    rfl
  rw [List.getElem?_eq_getElem hl] at e
  rw [Option.some.inj e]
  rfl

theorem own_step {wr w1 : World} {base j : Nat} {d : Nat} {o : Obj} {v v' : Value} {ds : List Nat} (ho : Owns wr base v ds) (hj : ds.length = j) (hbase : base ≤ wr.heap.size)
    (h : w1.ownsRow base 48 1 v' (j + 1) (u32l ds ++ [.int .u32 (d : Int)])) (hg : (wr.alloc o).grownBy w1 v.ownBlock) : Owns w1 base v' (ds ++ [d]) ∧ Below base wr w1 ∧ wr.heap.size ≤ w1.heap.size := by
  subst hj
  refine ⟨?_, ?_, ?_⟩
  · show w1.ownsRow base 48 1 v' (ds ++ [d]).length (u32l (ds ++ [d]))
    rw [← u32l_append, List.length_append]; exact h
  · exact Below.grown ((Below.refl _ _).alloc hbase o) hg (by simp; omega) (fun k hk => (World.ownsRow.lt ho k hk).1)
  · exact Nat.le_trans (by simp) hg.size

theorem made_tail {w wr w1 : World} {o : Obj} {z : Int} {neg : Bool} {p1 : Option Addr} {n1 c1 : Nat} {cs cs2 : Array Value} (hz : ZNum w1.heap.size w1 (.agg #[.bool neg, .slice p1 n1 c1]) z) (hx : Ext wr w1) (hr : RowAt wr w.heap.size 26 (numCells false none 0 0)) (hB : Ext w wr) :
    Gives1 w z neg (.returned (.agg #[.bool neg, .slice p1 n1 c1])) (((w1.alloc o).setRow w1.heap.size cs).setRow w.heap.size cs2) := by
  have hlt := (hx.row hr).lt
  have hx2 : Ext w1 ((w1.alloc o).setRow w1.heap.size cs) := ext_setRow (Ext.alloc w1 o) (Nat.le_refl _) _
  refine ⟨p1, n1, c1, rfl, ?_, ext_setRow ((hB.trans hx).trans hx2) (Nat.le_refl _) _⟩
  rw [setRow_size]
  exact (hx2.num hz).setNum ((hx2.row (hx.row hr))) cs2

set_option maxRecDepth 100000 in
set_option maxHeartbeats 4000000 in
theorem makes_calls (v : Value) (zs : List Int) (w : World) (hv : I64s w.heap.size w v zs) :
    Calls Tryd.prog 10 #[v] w (Gives1 w (madeOf zs) (decide (madeOf zs < 0))) := by
  obtain ⟨p, cap, rfl, hl, hc⟩ := hv
  have hlm := digs_lt_maxLen hl
  have Hc := Lib.hid hc
  obtain ⟨n, hn⟩ : ∃ n, n = zs.length := ⟨_, rfl⟩
  rw [← hn] at hlm ⊢
  have Hn := Lib.hid hn
  obtain ⟨i0, hi, hz0, hz1, hz2⟩ := info_parts info_u32
  clear hc hl hn
  go_enter Tryd.func10, Tryd.ntmps10
  go_wp2
  go_loopw [3, 4] (fun v i wr => ∃ j : Nat, i = .int .i64 ((j : Int) + 1) ∧ j ≤ 6 ∧ (j + 1 ≤ n ∨ j = 0) ∧ Owns wr (w.heap.size + 1) v ((madeDs zs).take j) ∧ RowAt wr w.heap.size 26 (numCells false none 0 0) ∧ Ext w wr) (fun _ i _ => 7 - (intOf i).toNat)
  case atStart => exact ⟨0, rfl, by omega, .inr rfl, Owns.nil _ _, RowAt.new' _ _ rfl, Ext.alloc _ _⟩
  case round =>
    obtain ⟨j, rfl, hj6, hjn, ho, hr, hB⟩ := hrel
    have Hr := Lib.hid hr
    have HB := Lib.hid hB
    have hlt := hr.lt
    have hsz := Below.size hB
    obtain ⟨pv, cv, rfl, hcv⟩ := ho.shape
    by_cases hgo : j + 1 < n ∧ j + 1 < 7
    · have hs := madeDs_succ (zs := zs) (j := j) (by rw [← Hn.out]; exact hgo.1) hgo.2
      rw [hs.2] at hcv
      have hlen : ((madeDs zs).take j).length = j := hs.2
      obtain ⟨b, off, rfl, hb, hcs⟩ := Hc.out (by rw [← Hn.out]; omega)
      have h1 := (Below.cell hB (p := ⟨b, off + (j + 1), none⟩) hb).trans (hcs (j + 1) (by rw [← Hn.out]; exact hgo.1))
      obtain ⟨z, hz⟩ : ∃ z, z = zs[j + 1]?.getD 0 := ⟨_, rfl⟩
      rw [← hz] at h1
      have hg1 : (j : Int) + 1 < (n : Int) := by omega
      have hg2 : (j : Int) + 1 < 7 := by omega
      have hg0 : (0 : Int) ≤ (j : Int) + 1 := by omega
      have hgn : ((j : Int) + 1).toNat = j + 1 := by omega
      obtain ⟨d, hd⟩ : ∃ d : Nat, d = (z % 4294967296).toNat := ⟨_, rfl⟩
      have hzd : IntKind.u32.wrap z = (d : Int) := by rw [IntKind.wrap_u32, hd]; omega
      rw [← hz, ← hd] at hs
      have Hs := Lib.hid hs
      have Hlen := Lib.hid hlen
      have hown : ∀ o, (wr.alloc o).ownsRow (w.heap.size + 1) 48 1 (.slice pv j cv) j (u32l ((madeDs zs).take j)) := fun o => by
        have h := ho.alloc o
        unfold Owns at h
        rw [hlen] at h; exact h
      have Hown := Lib.hid hown
      rw [hlen] at ho ⊢
      have Ho := Lib.hid ho
      clear hcs ho hr hB hs hz hd hown hlen
      go_wp2_with (at_builtin; refine wpList_append_own _ rfl (.tmp 17) (.tmp 23) 24 rfl (w.heap.size + 1) 48 i0 (.int .u32 0) 1 4 Tryd.underlying24 hi hz0 hz1 hz2 rfl (by decide) _ _ _ rfl (Hown.out _) ⟨wr.heap.size, 0, none⟩ 1 1 [.int .u32 (d : Int)] rfl rfl (cell_one_own _ _ _) (by intro u hu; simp at hu; subst hu; rfl) (by unfold maxLen; omega) (by omega) (by simp; omega) ?_; intro v' w1 hown' hgrow _; obtain ⟨ho1, hb1, hs1⟩ := own_step Ho.out Hlen.out (by omega) hown' hgrow; have Ho1 := Lib.hid ho1; have Hb1 := Lib.hid hb1; clear hown' hgrow ho1 hb1)
      have Hr1 := Lib.hid (Hr.out.below Hb1.out (by omega))
      have HB1 : Hid (Ext w w1) := Below.trans HB.out (Hb1.out.mono (Nat.le_succ _))
      go_wp2
      go_roundw
      case rel => exact ⟨j + 1, by go_num, by omega, .inl (by omega), by rw [Hs.out.1]; exact Ho1.out, Hr1.out, HB1.out⟩
      case measure => simp [intOf]; omega
    · have hs := madeDs_take (zs := zs) (j := j) (by rw [← Hn.out]; exact hgo)
      have hcapn : (madeDs zs).length ≤ cv := by rw [← hs]; exact hcv
      rw [hs] at ho ⊢
      have Hm := fun nb => made_gives nb pv cv (madeDs zs) wr (ho.u32s (Nat.le_trans (madeDs_length zs) (by decide))) (.inr hcapn) (madeDs_digits zs) (Nat.lt_of_lt_of_le (madeDs_lt zs) (Nat.pow_le_pow_right B32_pos (by decide)))
      obtain ⟨nb, hnb⟩ : ∃ nb, nb = madeNeg zs := ⟨_, rfl⟩
      have Hm1 : Hid (Calls Tryd.prog 26 #[.bool nb, .slice pv (madeDs zs).length cv] wr (Gives wr (madeOf zs) (decide (madeOf zs < 0)))) := by
        rw [hnb]; exact Hm _
      obtain ⟨L, hL⟩ : ∃ L, L = (madeDs zs).length := ⟨_, rfl⟩
      rw [← hL] at Hm1 ⊢
      have Hfin : ∀ {w1 : World} {p1 : Option Addr} {n1 c1 : Nat} (g : Nat) (cs : Array Value), Ext wr w1 → ZNum w1.heap.size w1 (.agg #[.bool (decide (madeOf zs < 0)), .slice p1 n1 c1]) (madeOf zs) → True := fun _ _ _ _ => trivial
      have hgo1 : ¬ ((j : Int) + 1 < (n : Int) ∧ (j : Int) + 1 < 7) := by omega
      have Hnb := Lib.hid hnb
      clear ho hs hcv hcapn Hm hL hnb hgo Hfin
      by_cases hn0 : n = 0
      · have e : nb = false := by rw [Hnb.out, madeNeg, ← Hn.out, hn0]; rfl
        subst hn0
        subst e
        have hj0 : ¬ (j : Int) + 1 < 0 := by omega
        clear hgo1
        go_wp2_with fail
        refine Hm1.out.mono ?_
        rintro e w1 ⟨p1, n1, c1, rfl, hz, hx⟩
        have Hz := Lib.hid hz
        have Hx := Lib.hid hx
        have hs1 := Below.size hx
        clear hx hz
        go_wp2_with (first | (refine store_num rfl (.tmp 5) (.tmp 38) rfl w1.heap.size rfl _ _ _ _ rfl _ _ (RowAt.new' _ _ rfl) rfl ?_) | (refine load_num rfl (.tmp 5) rfl w1.heap.size rfl _ _ _ _ _ ((RowAt.new' _ _ rfl).setRow _) ?_) | (refine store_num rfl (.tmp 2) (.tmp 40) rfl w.heap.size rfl _ _ _ _ rfl _ _ (((Hx.out.row Hr.out).alloc _).setRowOther _ (by omega)) rfl ?_))
        exact ret_num1 rfl w.heap.size rfl _ _ _ _ _ ((((Hx.out.row Hr.out).alloc _).setRowOther _ (by omega)).setRow _) (made_tail Hz.out Hx.out Hr.out HB.out)
      · obtain ⟨b, off, rfl, hb, hcs⟩ := Hc.out (by rw [← Hn.out]; omega)
        have h1 := (Below.cell HB.out (p := ⟨b, off, none⟩) hb).trans (hcs 0 (by rw [← Hn.out]; omega))
        have hnp : (0 : Int) < (n : Int) := by omega
        obtain ⟨z, hz⟩ : ∃ z, z = zs[0]?.getD 0 := ⟨_, rfl⟩
        rw [← hz] at h1
        have e : nb = (z.tmod 2 != 0) := by rw [Hnb.out, madeNeg, ← Hn.out, ← hz]; simp; omega
        subst e
        by_cases hj1 : (j : Int) + 1 < (n : Int)
        · have hj7 : ¬ (j : Int) + 1 < 7 := fun h => hgo1 ⟨hj1, h⟩
          clear hcs hz hgo1
          go_wp2_with fail
          refine Hm1.out.mono ?_
          rintro e w1 ⟨p1, n1, c1, rfl, hz, hx⟩
          have Hz := Lib.hid hz
          have Hx := Lib.hid hx
          have hs1 := Below.size hx
          clear hx hz
          go_wp2_with (first | (refine store_num rfl (.tmp 5) (.tmp 38) rfl w1.heap.size rfl _ _ _ _ rfl _ _ (RowAt.new' _ _ rfl) rfl ?_) | (refine load_num rfl (.tmp 5) rfl w1.heap.size rfl _ _ _ _ _ ((RowAt.new' _ _ rfl).setRow _) ?_) | (refine store_num rfl (.tmp 2) (.tmp 40) rfl w.heap.size rfl _ _ _ _ rfl _ _ (((Hx.out.row Hr.out).alloc _).setRowOther _ (by omega)) rfl ?_))
          exact ret_num1 rfl w.heap.size rfl _ _ _ _ _ ((((Hx.out.row Hr.out).alloc _).setRowOther _ (by omega)).setRow _) (made_tail Hz.out Hx.out Hr.out HB.out)
        · clear hcs hz hgo1
          go_wp2_with fail
          refine Hm1.out.mono ?_
          rintro e w1 ⟨p1, n1, c1, rfl, hz, hx⟩
          have Hz := Lib.hid hz
          have Hx := Lib.hid hx
          have hs1 := Below.size hx
          clear hx hz
          go_wp2_with (first | (refine store_num rfl (.tmp 5) (.tmp 38) rfl w1.heap.size rfl _ _ _ _ rfl _ _ (RowAt.new' _ _ rfl) rfl ?_) | (refine load_num rfl (.tmp 5) rfl w1.heap.size rfl _ _ _ _ _ ((RowAt.new' _ _ rfl).setRow _) ?_) | (refine store_num rfl (.tmp 2) (.tmp 40) rfl w.heap.size rfl _ _ _ _ rfl _ _ (((Hx.out.row Hr.out).alloc _).setRowOther _ (by omega)) rfl ?_))
          exact ret_num1 rfl w.heap.size rfl _ _ _ _ _ ((((Hx.out.row Hr.out).alloc _).setRowOther _ (by omega)).setRow _) (made_tail Hz.out Hx.out Hr.out HB.out)

end Go.Proofs.YtcmpgboifcemmaaDoor
