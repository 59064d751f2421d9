/- Texts that belong together. -/
import Derived.Test.YtegjcikofmphjaaGreatDoorQBase
import Derived.StillTailTactics
import Derived.Lib.MinMax
import Derived.Deep.RegionWith
import Derived.BigRegion
import Derived.Deep.DeepMust
import Derived.Deep.RegionHeld3
import Derived.Deep.DeepFit
set_option linter.all false
/- Texts that belong together. -/
/- Layer 1: combine, sum, difference. -/
namespace Go.Proofs.YtegjcikofmphjaaGreatDoor
open Go Go.RowKit Go.Shelf
section
variable (lo hi : Nat → Nat → Nat → Nat) (xs ys : List Nat)
def carryTo : Nat → Nat
  | 0 => 0
  | k + 1 => hi (xs[k]?.getD 0) (ys[k]?.getD 0) (carryTo k)
def digitAt (k : Nat) : Nat := lo (xs[k]?.getD 0) (ys[k]?.getD 0) (carryTo hi xs ys k)
def rowTo : Nat → List Nat
  | 0 => List.replicate 65 0
  | k + 1 => (rowTo k).set k (digitAt lo hi xs ys k)
def combRow : List Nat := (rowTo lo hi xs ys xs.length).set xs.length (carryTo hi xs ys xs.length)
theorem rowTo_length (k : Nat) : (rowTo lo hi xs ys k).length = 65 := by
  induction k with
  | zero => simp [rowTo]
  | succ k ih => simp [rowTo, ih]
theorem combRow_length : (combRow lo hi xs ys).length = 65 := by simp [combRow, rowTo_length]
end
set_option maxRecDepth 100000 in
set_option maxHeartbeats 2000000 in
theorem combine_calls (J : Nat) (eg : ∀ args w, (callFunc J args).run Tryz.prog w = .ok (.enter J args) w) (lo hi : Nat → Nat → Nat → Nat)
    (hj : ∀ (x y c : Nat) (W : World), x < B32 → y < B32 → c ≤ 1 → Calls Tryz.prog J #[.int .u32 x, .int .u32 y, .int .u32 c] W fun e w' => e = .returned (.agg #[.int .u32 (lo x y c : Nat), .int .u32 (hi x y c : Nat)]) ∧ Below W.heap.size W w')
    (hhi : ∀ x y c, x < B32 → y < B32 → c ≤ 1 → hi x y c ≤ 1)
    (v u : Value) (xs ys : List Nat) (w : World) (hx : U32s w.heap.size w v xs) (hy : U32s w.heap.size w u ys) (hdx : Digits xs) (hdy : Digits ys) (h64 : xs.length ≤ 64) :
    Calls Tryz.prog 112 #[v, u, .func (.func J) #[] #[]] w fun e w' => e = .returned (.agg (arr (combRow lo hi xs ys))) ∧ Below w.heap.size w w' := by
  obtain ⟨p, cap, rfl, hl, hc⟩ := hx
  obtain ⟨q, cap2, rfl, hl2, hc2⟩ := hy
  have hlm2 := digs_lt_maxLen hl2
  have hcarry : ∀ k, carryTo hi xs ys k ≤ 1 := fun k => by
    induction k with
    | zero => simp [carryTo]
    | succ k ih => exact hhi _ _ _ (hdx.getD k) (hdy.getD k) ih
  have HC := Lib.hid hcarry
  have HJ := Lib.hid hj
  have Hc := Lib.hid hc
  have Hc2 := Lib.hid hc2
  obtain ⟨n, hn⟩ : ∃ n, n = xs.length := ⟨_, rfl⟩
  obtain ⟨m, hm⟩ : ∃ m, m = ys.length := ⟨_, rfl⟩
  rw [← hn] at h64
  rw [← hm] at hlm2
  have Hn := Lib.hid hn
  have Hm := Lib.hid hm
  rw [← hn, ← hm]
  clear hcarry hj hc hc2 hl hl2 hhi hn hm
  go_enter Tryz.func112, Tryz.ntmps112
  go_wp2
  go_loopw [8, 15] (fun c i wr => ∃ k : Nat, k ≤ n ∧ i = .int .i64 k ∧ c = .int .u32 (carryTo hi xs ys k : Nat) ∧ RowAt wr w.heap.size 89 Tryz.zeroCells89 ∧ RowAt wr (w.heap.size + 1) 89 (arr (rowTo lo hi xs ys k)) ∧ Below w.heap.size w wr)
    (fun _ i _ => n - (intOf i).toNat)
  case atStart => exact ⟨0, Nat.zero_le _, rfl, rfl, (RowAt.new w _ _).alloc _, by rw [rowTo, ← zero_row]; exact RowAt.new' _ _ (by simp), ((Below.refl _ w).alloc (Nat.le_refl _) _).alloc (by simp) _⟩
  case round =>
    obtain ⟨k, hk, rfl, rfl, hr6, hr7, hB⟩ := hrel
    by_cases hlt : k < n
    · obtain ⟨b, off, rfl, hbB, hcs⟩ := Hc.out (by rw [← Hn.out]; exact Nat.lt_of_le_of_lt (Nat.zero_le _) hlt)
      have hcx := (hB.cell (p := ⟨b, off + k, none⟩) hbB).trans (hcs k (by rw [← Hn.out]; exact hlt))
      clear hcs
      have hxk := hdx.getD k
      have hyk := hdy.getD k
      have hck := HC.out k
      have hs1 : carryTo hi xs ys (k + 1) = hi (xs[k]?.getD 0) (ys[k]?.getD 0) (carryTo hi xs ys k) := rfl
      have hs2 : rowTo lo hi xs ys (k + 1) = (rowTo lo hi xs ys k).set k (lo (xs[k]?.getD 0) (ys[k]?.getD 0) (carryTo hi xs ys k)) := rfl
      have hrl := rowTo_length lo hi xs ys k
      have hyz : ¬ k < m → ys[k]?.getD 0 = 0 := fun h => by rw [List.getElem?_eq_none (by rw [← Hm.out]; omega)]; rfl
      have hyc : k < m → ∃ b2 off2, q = some ⟨b2, off2, none⟩ ∧ wr.cell? ⟨b2, off2 + k, none⟩ = some (.int .u32 (ys[k]?.getD 0 : Nat)) := fun h => by
        obtain ⟨b2, off2, rfl, hb2, hcs⟩ := Hc2.out (by rw [← Hm.out]; exact Nat.lt_of_le_of_lt (Nat.zero_le _) h)
        exact ⟨b2, off2, rfl, (hB.cell (p := ⟨b2, off2 + k, none⟩) hb2).trans (hcs k (by rw [← Hm.out]; exact h))⟩
      generalize xs[k]?.getD 0 = x at *
      generalize ys[k]?.getD 0 = y at *
      generalize carryTo hi xs ys k = c at *
      generalize rowTo lo hi xs ys k = row at *
      have Hs1 := Lib.hid hs1
      have Hs2 := Lib.hid hs2
      have Hrl := Lib.hid hrl
      clear hs1 hs2 hrl
      have hsz := hr7.lt
      by_cases hkm : k < m
      · obtain ⟨b2, off2, rfl, hcy⟩ := hyc hkm
        have HX := Lib.hid (And.intro hxk (And.intro hyk hck))
        clear hyc hyz hxk hyk hck
        go_wp2_with fail
        refine (HJ.out x y c _ HX.out.1 HX.out.2.1 HX.out.2.2).mono ?_
        rintro e w1 ⟨rfl, hb1⟩
        have hr71 := hr7.below hb1 hsz
        have hc70 := (hr71.cell k).trans (arr_get row k (by rw [Hrl.out]; omega))
        have hk65 : (k : Int) < 65 := by omega
        have hf70 := hr71.frozen k
        have hsz1 := Nat.lt_of_lt_of_le hsz hb1.size
        have Hr61 := Lib.hid (hr6.below hb1 hr6.lt)
        have Hr71 := Lib.hid hr71
        clear hr71
        go_wp2
        go_region
        all_goals go_wp2
        all_goals go_roundw
        case rel => exact ⟨k + 1, by omega, by simp, by rw [Hs1.out], ((Hr61.out.setOther _ _ (by simp)).alloc _).drew, by rw [Hs2.out, ← arr_set]; exact ((Hr71.out.set k _).alloc _).drew, (((hB.trans (hb1.mono hB.size)).setCell (p := ⟨w.heap.size + 1, k, none⟩) (Nat.le_succ _) _).alloc (by simp [World.setCell]; have := hb1.size; have := hB.size; omega) _).drew⟩
        case measure => simp [intOf]; omega
      · obtain rfl : y = 0 := hyz hkm
        have HX := Lib.hid (And.intro hxk (And.intro hyk hck))
        clear hyc hyz hxk hyk hck
        have hcall : Calls Tryz.prog J #[.int .u32 x, .int .u32 0, .int .u32 c] wr _ := HJ.out x 0 c wr HX.out.1 HX.out.2.1 HX.out.2.2
        have Hcall := Lib.hid hcall
        clear hcall
        go_wp2_with fail
        refine Hcall.out.mono ?_
        rintro e w1 ⟨rfl, hb1⟩
        have hr71 := hr7.below hb1 hsz
        have hc70 := (hr71.cell k).trans (arr_get row k (by rw [Hrl.out]; omega))
        have hk65 : (k : Int) < 65 := by omega
        have hf70 := hr71.frozen k
        have hsz1 := Nat.lt_of_lt_of_le hsz hb1.size
        have Hr61 := Lib.hid (hr6.below hb1 hr6.lt)
        have Hr71 := Lib.hid hr71
        clear hr71
        go_wp2
        go_region
        all_goals go_wp2
        all_goals go_roundw
        case rel => exact ⟨k + 1, by omega, by simp, by rw [Hs1.out], ((Hr61.out.setOther _ _ (by simp)).alloc _).drew, by rw [Hs2.out, ← arr_set]; exact ((Hr71.out.set k _).alloc _).drew, (((hB.trans (hb1.mono hB.size)).setCell (p := ⟨w.heap.size + 1, k, none⟩) (Nat.le_succ _) _).alloc (by simp [World.setCell]; have := hb1.size; have := hB.size; omega) _).drew⟩
        case measure => simp [intOf]; omega
    · obtain rfl : k = n := by omega
      have hsz := hr7.lt
      have hrl := rowTo_length lo hi xs ys k
      have hcb : combRow lo hi xs ys = (rowTo lo hi xs ys k).set k (carryTo hi xs ys k) := by unfold combRow; rw [← Hn.out]
      have hcl := combRow_length lo hi xs ys
      have hc7 := (hr7.cell k).trans (arr_get _ k (by rw [hrl]; omega))
      have hf7 := hr7.frozen k
      have hk65 : (k : Int) < 65 := by omega
      have Hrow := Lib.hid (show RowAt (wr.setCell ⟨w.heap.size + 1, k, none⟩ (.int .u32 (carryTo hi xs ys k : Nat))) (w.heap.size + 1) 89 (arr (combRow lo hi xs ys)) by rw [hcb, ← arr_set]; exact hr7.set k _)
      have Hr6 := Lib.hid (hr6.setOther ⟨w.heap.size + 1, k, none⟩ (.int .u32 (carryTo hi xs ys k : Nat)) (by simp))
      have Hcl := Lib.hid hcl
      generalize carryTo hi xs ys k = c at *
      generalize rowTo lo hi xs ys k = row at *
      generalize hres : combRow lo hi xs ys = res at *
      have Hres := Lib.hid hres
      clear hres hrl hcb hcl hr6 hr7
      go_wp2_with (first
        | (refine load_row rfl (.tmp 7) rfl (w.heap.size + 1) rfl res Hcl.out 89 Hrow.out ?_)
        | (refine store_row rfl (.tmp 6) (.tmp 44) rfl w.heap.size rfl res Hcl.out rfl 89 Tryz.zeroCells89 Hr6.out (by kernel_rfl) ?_))
      refine ret_row rfl w.heap.size rfl res Hcl.out 89 (Hr6.out.setRow _) ⟨by rw [Hres.out], below_setRow2 (hB.setCell (p := ⟨w.heap.size + 1, k, none⟩) (Nat.le_succ _) _) (Nat.le_refl _) _⟩
set_option maxHeartbeats 1000000 in
theorem difference_calls (v u : Value) (xs ys : List Nat) (w : World) (hx : U32s w.heap.size w v xs) (hy : U32s w.heap.size w u ys) (hdx : Digits xs) (hdy : Digits ys) (h64 : xs.length ≤ 64) :
    Calls Tryz.prog 92 #[v, u] w fun e w' => e = .returned (.agg (arr (combRow subLo subHi xs ys))) ∧ Below w.heap.size w w' := by
  have hcall := combine_calls 114 (enters_of Tryz.func114 (by kernel_rfl) rfl) subLo subHi (fun x y c W h1 h2 h3 => difference1_calls x y c h1 h2 h3 W) (fun x y c _ _ _ => by unfold subHi; split <;> omega) v u xs ys (w.alloc (.cells Tryz.zeroCells89 89))
    ((hx.below ((Below.refl _ w).alloc (Nat.le_refl _) _)).mono (by simp)) ((hy.below ((Below.refl _ w).alloc (Nat.le_refl _) _)).mono (by simp)) hdx hdy h64
  have hcl := combRow_length subLo subHi xs ys
  have Hcall := Lib.hid hcall
  have Hcl := Lib.hid hcl
  generalize hres : combRow subLo subHi xs ys = res at *
  have Hres := Lib.hid hres
  have Hx := Lib.hid hx
  have Hy := Lib.hid hy
  clear hcall hcl hres hx hy
  go_enter Tryz.func92, Tryz.ntmps92
  go_wp2_with fail
  refine Hcall.out.mono ?_
  rintro e w1 ⟨rfl, hb1⟩
  have Hr := Lib.hid ((RowAt.new w 89 Tryz.zeroCells89).below hb1 (by simp))
  go_wp2_with (refine store_row rfl (.tmp 4) (.tmp 7) rfl w.heap.size rfl res Hcl.out rfl 89 Tryz.zeroCells89 Hr.out (by kernel_rfl) ?_)
  refine ret_row rfl w.heap.size rfl res Hcl.out 89 (Hr.out.setRow _) ⟨rfl, below_setRow2 (((Below.refl _ w).alloc (Nat.le_refl _) _).trans (hb1.mono (by simp))) (Nat.le_refl _) _⟩
def sumRow (xs ys : List Nat) : List Nat := if xs.length < ys.length then combRow addLo addHi ys xs else combRow addLo addHi xs ys
theorem sumRow_length (xs ys : List Nat) : (sumRow xs ys).length = 65 := by unfold sumRow; split <;> exact combRow_length _ _ _ _
theorem sumComb (v u : Value) (xs ys : List Nat) (w : World) (hx : U32s w.heap.size w v xs) (hy : U32s w.heap.size w u ys) (hdx : Digits xs) (hdy : Digits ys) (h64 : xs.length ≤ 64) :
    Calls Tryz.prog 112 #[v, u, .func (.func 113) #[] #[]] (w.alloc (.cells Tryz.zeroCells89 89)) fun e w' => e = .returned (.agg (arr (combRow addLo addHi xs ys))) ∧ Below (w.alloc (.cells Tryz.zeroCells89 89)).heap.size (w.alloc (.cells Tryz.zeroCells89 89)) w' :=
  combine_calls 113 (enters_of Tryz.func113 (by kernel_rfl) rfl) addLo addHi (fun x y c W h1 h2 h3 => sum1_calls x y c h1 h2 h3 W) (fun x y c h1 h2 h3 => by unfold addHi B32 at *; omega) v u xs ys (w.alloc (.cells Tryz.zeroCells89 89))
    ((hx.below ((Below.refl _ w).alloc (Nat.le_refl _) _)).mono (by simp)) ((hy.below ((Below.refl _ w).alloc (Nat.le_refl _) _)).mono (by simp)) hdx hdy h64
set_option maxHeartbeats 1000000 in
theorem sum_calls (v u : Value) (xs ys : List Nat) (w : World) (hx : U32s w.heap.size w v xs) (hy : U32s w.heap.size w u ys) (hdx : Digits xs) (hdy : Digits ys) (h64 : xs.length ≤ 64) (h64y : ys.length ≤ 64) :
    Calls Tryz.prog 91 #[v, u] w fun e w' => e = .returned (.agg (arr (sumRow xs ys))) ∧ Below w.heap.size w w' := by
  have hcl := sumRow_length xs ys
  by_cases hlt : xs.length < ys.length
  · have hcall := sumComb u v ys xs w hy hx hdy hdx h64y
    have hres : combRow addLo addHi ys xs = sumRow xs ys := by unfold sumRow; rw [if_pos hlt]
    rw [hres] at hcall
    generalize sumRow xs ys = res at *
    obtain ⟨p, cap, rfl, -, -⟩ := hx
    obtain ⟨q, cap2, rfl, -, -⟩ := hy
    have Hcall := Lib.hid hcall
    have Hcl := Lib.hid hcl
    clear hcall hcl hres
    go_enter Tryz.func91, Tryz.ntmps91
    go_wp2_with fail
    refine Hcall.out.mono ?_
    rintro e w1 ⟨rfl, hb1⟩
    have Hr := Lib.hid ((RowAt.new w 89 Tryz.zeroCells89).below hb1 (by simp))
    go_wp2_with (refine store_row rfl (.tmp 4) (.tmp 14) rfl w.heap.size rfl res Hcl.out rfl 89 Tryz.zeroCells89 Hr.out (by kernel_rfl) ?_)
    refine ret_row rfl w.heap.size rfl res Hcl.out 89 (Hr.out.setRow _) ⟨rfl, below_setRow2 (((Below.refl _ w).alloc (Nat.le_refl _) _).trans (hb1.mono (by simp))) (Nat.le_refl _) _⟩
  · have hcall := sumComb v u xs ys w hx hy hdx hdy h64
    have hres : combRow addLo addHi xs ys = sumRow xs ys := by unfold sumRow; rw [if_neg hlt]
    rw [hres] at hcall
    generalize sumRow xs ys = res at *
    obtain ⟨p, cap, rfl, -, -⟩ := hx
    obtain ⟨q, cap2, rfl, -, -⟩ := hy
    have Hcall := Lib.hid hcall
    have Hcl := Lib.hid hcl
    have hge : ys.length ≤ xs.length := by omega
    clear hcall hcl hres hlt
    go_enter Tryz.func91, Tryz.ntmps91
    go_wp2_with fail
    refine Hcall.out.mono ?_
    rintro e w1 ⟨rfl, hb1⟩
    have Hr := Lib.hid ((RowAt.new w 89 Tryz.zeroCells89).below hb1 (by simp))
    go_wp2_with (refine store_row rfl (.tmp 4) (.tmp 14) rfl w.heap.size rfl res Hcl.out rfl 89 Tryz.zeroCells89 Hr.out (by kernel_rfl) ?_)
    refine ret_row rfl w.heap.size rfl res Hcl.out 89 (Hr.out.setRow _) ⟨rfl, below_setRow2 (((Below.refl _ w).alloc (Nat.le_refl _) _).trans (hb1.mono (by simp))) (Nat.le_refl _) _⟩
end Go.Proofs.YtegjcikofmphjaaGreatDoor
/- Layer 1: number. -/
namespace Go.Proofs.YtegjcikofmphjaaGreatDoor
open Go Go.RowKit Go.Shelf
def NumV (B : Nat) (w : World) (v : Value) (neg : Bool) (ds : List Nat) : Prop := ∃ s, v = .agg #[.bool neg, s] ∧ U32s B w s ds
theorem NumV.below {B : Nat} {w w' : World} {v : Value} {neg : Bool} {ds : List Nat} (h : NumV B w v neg ds) (hb : Below B w w') : NumV B w' v neg ds := by
  obtain ⟨s, rfl, hs⟩ := h; exact ⟨s, rfl, hs.below hb⟩
theorem NumV.mono {B B' : Nat} {w : World} {v : Value} {neg : Bool} {ds : List Nat} (h : NumV B w v neg ds) (hb : B ≤ B') : NumV B' w v neg ds := by
  obtain ⟨s, rfl, hs⟩ := h; exact ⟨s, rfl, hs.mono hb⟩
theorem u32s_nil (B : Nat) (w : World) : U32s B w (.slice none 0 0) [] := ⟨none, 0, rfl, Nat.zero_le _, fun h => by cases h⟩
def U32N (lo B : Nat) (w : World) (v : Value) (ds : List Nat) : Prop :=
  ∃ (p : Option Addr) (cap : Nat), v = .slice p ds.length cap ∧ ds.length ≤ maxLen ∧ (0 < ds.length → ∃ b off, p = some ⟨b, off, none⟩ ∧ lo ≤ b ∧ b < B ∧ ∀ j, j < ds.length → w.cell? ⟨b, off + j, none⟩ = some (.int .u32 ((ds[j]?.getD 0 : Nat) : Int)))
theorem U32N.u32s {lo B : Nat} {w : World} {v : Value} {ds : List Nat} (h : U32N lo B w v ds) : U32s B w v ds := by
  obtain ⟨p, cap, rfl, hl, hc⟩ := h
  refine ⟨p, cap, rfl, hl, fun h0 => ?_⟩
  obtain ⟨b, off, rfl, _, hB, hc⟩ := hc h0
  exact ⟨b, off, rfl, hB, hc⟩
theorem u32n_nil (lo B : Nat) (w : World) : U32N lo B w (.slice none 0 0) [] := ⟨none, 0, rfl, Nat.zero_le _, fun h => by cases h⟩
def NumPost (w : World) (neg : Bool) (ds : List Nat) (ok : Bool) (e : Ending) (w' : World) : Prop :=
  ∃ s, e = .returned (.tuple #[.agg #[.bool neg, s], .bool ok]) ∧ U32N w.heap.size w'.heap.size w' s ds ∧ Below w.heap.size w w'
structure Turned (g : Nat) (w w' : World) : Prop where
  size : w'.heap.size = w.heap.size
  os : w'.os = w.os
  tape : w'.tape = w.tape
  output : w'.output = w.output
  block : ∀ k, k ≠ g → w'.heap[k]? = w.heap[k]?
theorem turned_setRow (w : World) (g : Nat) (cs : Array Value) : Turned g w (w.setRow g cs) := ⟨by simp, rfl, rfl, rfl, fun k hk => setRow_other w g k cs hk⟩
theorem turned_set2 (w : World) (g : Nat) (u v : Value) : Turned g w ((w.setCell ⟨g, 0, none⟩ u).setCell ⟨g, 1, none⟩ v) :=
  ⟨by simp [World.setCell], rfl, rfl, rfl, fun k hk => (heap_setCell_other _ ⟨g, 1, none⟩ k v hk).trans (heap_setCell_other _ ⟨g, 0, none⟩ k u hk)⟩
theorem finNum {w W w5 w6 : World} {g : Nat} {s : Value} {ds : List Nat} (hB : Below w.heap.size w W) (hg : w.heap.size ≤ g) (hgW : g < W.heap.size) (hu : U32N W.heap.size w5.heap.size w5 s ds) (hb5 : Below W.heap.size W w5) (ht : Turned g w5 w6) :
    U32N w.heap.size w6.heap.size w6 s ds ∧ Below w.heap.size w w6 := by
  have h1 := hB.trans (hb5.mono hB.size)
  refine ⟨?_, ⟨ht.os.trans h1.os, ht.tape.trans h1.tape, ht.output.trans h1.output, by rw [ht.size]; exact h1.size, fun k hk => (ht.block k (by omega)).trans (h1.block k hk)⟩⟩
  obtain ⟨p, cap, rfl, hl, hc⟩ := hu
  refine ⟨p, cap, rfl, hl, fun h0 => ?_⟩
  obtain ⟨b, off, rfl, hlo, hlt, hcs⟩ := hc h0
  have := hB.size
  exact ⟨b, off, rfl, by omega, by rw [ht.size]; exact hlt, fun j hj => (World.cell?_of_block (ht.block b (by omega))).trans (hcs j hj)⟩
def resNeg (neg : Bool) (ds : List Nat) : Bool := if ds = [] ∨ 64 < ds.length then false else neg
def resDs (ds : List Nat) : List Nat := if 64 < ds.length then [] else ds
def resOk (ds : List Nat) : Bool := decide (ds.length ≤ 64)
set_option maxRecDepth 100000 in
set_option maxHeartbeats 2000000 in
theorem number_calls (neg : Bool) (v : Value) (ds : List Nat) (w : World) (hu : U32s w.heap.size w v ds) :
    Calls Tryz.prog 67 #[.bool neg, v] w (NumPost w (resNeg neg (strip ds)) (resDs (strip ds)) (resOk (strip ds))) := by
  have hlen := length_calls v ds (w.alloc (.cells #[.bool false, .slice none 0 0] 25)) ((hu.below ((Below.refl _ w).alloc (Nat.le_refl _) _)).mono (by simp))
  have hst := strip_length_le ds
  have htk := strip_take ds
  generalize hsd : strip ds = sd at *
  obtain ⟨p, cap, rfl, hl, hc⟩ := hu
  have hlm := digs_lt_maxLen hl
  have Hlen := Lib.hid hlen
  have Hsd := Lib.hid hsd
  have Htk := Lib.hid htk
  clear hlen hsd hl htk
  by_cases h0 : sd.length = 0
  · obtain rfl : sd = [] := List.eq_nil_of_length_eq_zero h0
    clear hc h0
    go_enter Tryz.func67, Tryz.ntmps67
    go_wp2_with fail
    refine Hlen.out.mono ?_
    rintro e w1 ⟨rfl, hb1⟩
    have Hr := Lib.hid ((RowAt.new w 25 #[.bool false, .slice none 0 0]).below hb1 (by simp))
    go_wp2_with (refine store_num rfl (.tmp 4) (.tmp 12) rfl w.heap.size rfl false none 0 0 rfl _ _ Hr.out rfl ?_)
    refine ret_num rfl w.heap.size rfl true rfl false none 0 0 _ (Hr.out.setRow _) ⟨_, rfl, u32n_nil _ _ _, below_setRow2 (((Below.refl _ w).alloc (Nat.le_refl _) _).trans (hb1.mono (by simp))) (Nat.le_refl _) _⟩
  · by_cases h64 : 64 < sd.length
    · have hne : sd ≠ [] := by intro e; simp [e] at h0
      have hgt : ((sd.length : Int) == 0) = false := by simp; omega
      have e1 : resNeg neg sd = false := by simp [resNeg, h64]
      have e2 : resDs sd = [] := by simp [resDs, h64]
      have e3 : resOk sd = false := by simp [resOk, h64]
      rw [e1, e2, e3]
      clear hc e1 e2 e3 hne h0
      go_enter Tryz.func67, Tryz.ntmps67
      go_wp2_with fail
      refine Hlen.out.mono ?_
      rintro e w1 ⟨rfl, hb1⟩
      have Hr := Lib.hid ((RowAt.new w 25 #[.bool false, .slice none 0 0]).below hb1 (by simp))
      go_wp2_with (refine store_num rfl (.tmp 4) (.tmp 15) rfl w.heap.size rfl false none 0 0 rfl _ _ Hr.out rfl ?_)
      refine ret_num rfl w.heap.size rfl false rfl false none 0 0 _ (Hr.out.setRow _) ⟨_, rfl, u32n_nil _ _ _, below_setRow2 (((Below.refl _ w).alloc (Nat.le_refl _) _).trans (hb1.mono (by simp))) (Nat.le_refl _) _⟩
    · have hne : sd ≠ [] := by intro e; simp [e] at h0
      have hgt : ((sd.length : Int) == 0) = false := by simp; omega
      have e1 : resNeg neg sd = neg := by simp [resNeg, h64, hne]
      have e2 : resDs sd = sd := by simp [resDs, h64]
      have e3 : resOk sd = true := by simp [resOk]; omega
      rw [e1, e2, e3]
      obtain ⟨b, off, rfl, hb, hcs⟩ := hc (by omega)
      obtain ⟨n, hn⟩ : ∃ n, n = sd.length := ⟨_, rfl⟩
      have Hcs : Hid (∀ j, j < n → w.cell? ⟨b, off + j, none⟩ = some (.int .u32 ((sd[j]?.getD 0 : Nat) : Int))) := fun j hj => by
        rw [hcs j (by omega), ← Htk.out, List.getElem?_take_of_lt (by omega)]
      rw [← hn] at Hlen hgt h64 hst
      have Hn := Lib.hid hn
      have h0n : 0 < n := by omega
      have h64n : n ≤ 64 := by omega
      clear hcs e1 e2 e3 hne h0 hn h64
      go_enter Tryz.func67, Tryz.ntmps67
      go_wp2_with fail
      refine Hlen.out.mono ?_
      rintro e w1 ⟨rfl, hb1⟩
      have Hr := Lib.hid ((RowAt.new w 25 #[.bool false, .slice none 0 0]).below hb1 (by simp))
      have hsz := hb1.size
      simp only [World.size_alloc] at hsz
      have Hcw : Hid (∀ j, j < n → (w1.alloc (.cells (arr (List.replicate n 0)) 87)).cell? ((⟨b, off, none⟩ : Addr).add j) = some (.int .u32 ((sd[j]?.getD 0 : Nat) : Int))) := fun j hj => by
        rw [Addr.add_mid, World.cell?_alloc_past _ _ _ (by omega)]
        have h1 : (w.alloc (.cells #[.bool false, .slice none 0 0] 25)).cell? ⟨b, off + j, none⟩ = w.cell? ⟨b, off + j, none⟩ := World.cell?_alloc_past _ _ _ hb
        exact (hb1.cell (p := ⟨b, off + j, none⟩) (by simp; omega)).trans (h1.trans (Hcs.out j hj))
      have Hnew := Lib.hid (RowAt.new w1 87 (arr (List.replicate n 0)))
      have Hr2 := Lib.hid (((Hr.out.alloc (.cells (arr (List.replicate n 0)) 87)).setRowOther (k := w1.heap.size) (arr sd) (by omega)))
      have Hn2 := Lib.hid (Hnew.out.setRow (arr sd))
      go_wp2_with (first
        | (refine make_row rfl (.tmp 16) (.tmp 16) rfl n rfl rfl (by omega) ?_)
        | (refine copy_row rfl (.tmp 18) (.tmp 19) rfl w1.heap.size n (List.replicate n 0) sd ⟨b, off, none⟩ ds.length cap rfl rfl Hnew.out (by simp) Hn.out.symm hst Hcw.out ?_)
        | (refine store_num rfl (.tmp 4) (.tmp 23) rfl w.heap.size rfl neg (some ⟨w1.heap.size, 0, none⟩) n n rfl _ _ Hr2.out rfl ?_))
      refine ret_num rfl w.heap.size rfl true rfl neg (some ⟨w1.heap.size, 0, none⟩) n n _ (Hr2.out.setRow _) ⟨_, rfl, ?_, ?_⟩
      · have h3 := Hn2.out.setRowOther (k := w.heap.size) (numCells neg (some ⟨w1.heap.size, 0, none⟩) n n) (by omega)
        refine ⟨_, n, by rw [← Hn.out], by rw [← Hn.out]; unfold maxLen; omega, fun _ => ⟨w1.heap.size, 0, rfl, by omega, by simp, fun j hj => ?_⟩⟩
        rw [Nat.zero_add, h3.cell j, arr_get sd j hj]
      · exact below_setRow2 (below_setRow2 ((((Below.refl _ w).alloc (Nat.le_refl _) _).trans (hb1.mono (by simp))).alloc (by omega) _) (by omega) _) (Nat.le_refl _) _
end Go.Proofs.YtegjcikofmphjaaGreatDoor
/- Layer 1: product. -/
namespace Go.Proofs.YtegjcikofmphjaaGreatDoor
open Go Go.RowKit Go.Shelf
section
variable (p i : Nat) (ys : List Nat)
def lineTo (row : List Nat) : Nat → Nat × List Nat
  | 0 => (0, row)
  | k + 1 => (((lineTo row k).1 + (p * ys[k]?.getD 0 + (lineTo row k).2[i + k]?.getD 0)) / B32, (lineTo row k).2.set (i + k) (((lineTo row k).1 + (p * ys[k]?.getD 0 + (lineTo row k).2[i + k]?.getD 0)) % B32))
def line (row : List Nat) : List Nat := (lineTo p i ys row ys.length).2.set (i + ys.length) (lineTo p i ys row ys.length).1
end
def prodTo (xs ys : List Nat) : Nat → List Nat
  | 0 => List.replicate 65 0
  | i + 1 => line (xs[i]?.getD 0) i ys (prodTo xs ys i)
def prodRow (xs ys : List Nat) : List Nat := prodTo xs ys xs.length
theorem lineTo_length (p i : Nat) (ys row : List Nat) (k : Nat) : (lineTo p i ys row k).2.length = row.length := by
  induction k with
  | zero => rfl
  | succ k ih => simp [lineTo, ih]
theorem line_length (p i : Nat) (ys row : List Nat) : (line p i ys row).length = row.length := by simp [line, lineTo_length]
theorem prodTo_length (xs ys : List Nat) (k : Nat) : (prodTo xs ys k).length = 65 := by
  induction k with
  | zero => simp [prodTo]
  | succ k ih => rw [prodTo, line_length, ih]
theorem prodRow_length (xs ys : List Nat) : (prodRow xs ys).length = 65 := prodTo_length _ _ _
theorem Digits.set {ds : List Nat} (h : Digits ds) (i : Nat) {d : Nat} (hd : d < B32) : Digits (ds.set i d) := fun e he => by
  rcases List.mem_or_eq_of_mem_set he with h1 | rfl
  · exact h e h1
  · exact hd
theorem digits_replicate (n : Nat) : Digits (List.replicate n 0) := fun d hd => by rw [List.eq_of_mem_replicate hd]; exact B32_pos
theorem mul_bound {p q : Nat} (hp : p < B32) (hq : q < B32) : p * q ≤ 18446744065119617025 := by
  unfold B32 at *
  exact Nat.le_trans (Nat.mul_le_mul (Nat.le_of_lt_succ hp) (Nat.le_of_lt_succ hq)) (by decide)
theorem lineTo_bounds {p i : Nat} {ys row : List Nat} (hp : p < B32) (hy : Digits ys) (hr : Digits row) (k : Nat) : (lineTo p i ys row k).1 < B32 ∧ Digits (lineTo p i ys row k).2 := by
  induction k with
  | zero => exact ⟨B32_pos, hr⟩
  | succ k ih =>
    obtain ⟨h1, h2⟩ := ih
    have h3 := mul_bound hp (hy.getD k)
    have h4 := h2.getD (i + k)
    refine ⟨?_, h2.set _ (Nat.mod_lt _ B32_pos)⟩
    show (_ / B32) < B32
    unfold B32 at *
    omega
theorem line_digits {p i : Nat} {ys row : List Nat} (hp : p < B32) (hy : Digits ys) (hr : Digits row) : Digits (line p i ys row) :=
  (lineTo_bounds hp hy hr _).2.set _ (lineTo_bounds hp hy hr _).1
theorem prodTo_digits {xs ys : List Nat} (hx : Digits xs) (hy : Digits ys) (k : Nat) : Digits (prodTo xs ys k) := by
  induction k with
  | zero => exact digits_replicate _
  | succ k ih => exact line_digits (hx.getD k) hy ih
theorem prod_cast (c x y r : Nat) : ((c : Int) + ((x : Int) * (y : Int) + (r : Int))) / 4294967296 = (((c + (x * y + r)) / B32 : Nat) : Int) ∧
    ((c : Int) + ((x : Int) * (y : Int) + (r : Int))) % 4294967296 = (((c + (x * y + r)) % B32 : Nat) : Int) := by
  unfold B32
  rw [← Int.natCast_mul]
  generalize x * y = t
  omega
set_option maxRecDepth 100000 in
set_option maxHeartbeats 4000000 in
theorem product_calls (v u : Value) (xs ys : List Nat) (w : World) (hx : U32s w.heap.size w v xs) (hy : U32s w.heap.size w u ys) (hdx : Digits xs) (hdy : Digits ys) (h65 : xs.length + ys.length ≤ 65) :
    Calls Tryz.prog 125 #[v, u] w fun e w' => e = .returned (.agg (arr (prodRow xs ys))) ∧ Below w.heap.size w w' := by
  obtain ⟨p, cap, rfl, hl, hc⟩ := hx
  obtain ⟨q, cap2, rfl, hl2, hc2⟩ := hy
  have Hc := Lib.hid hc
  have Hc2 := Lib.hid hc2
  obtain ⟨n, hn⟩ : ∃ n, n = xs.length := ⟨_, rfl⟩
  obtain ⟨m, hm⟩ : ∃ m, m = ys.length := ⟨_, rfl⟩
  rw [← hn, ← hm] at h65
  have Hn := Lib.hid hn
  have Hm := Lib.hid hm
  rw [← hn, ← hm]
  have hln : ∀ i, prodTo xs ys (i + 1) = (lineTo (xs[i]?.getD 0) i ys (prodTo xs ys i) m).2.set (i + m) (lineTo (xs[i]?.getD 0) i ys (prodTo xs ys i) m).1 := fun i => by rw [hm]; rfl
  have Hln := Lib.hid hln
  clear hc hc2 hl hl2 hn hm hln
  go_enter Tryz.func125, Tryz.ntmps125
  go_wp2
  go_loopw [13] (fun i wr => ∃ k : Nat, k ≤ n ∧ i = .int .i64 k ∧ RowAt wr w.heap.size 89 Tryz.zeroCells89 ∧ RowAt wr (w.heap.size + 1) 89 (arr (prodTo xs ys k)) ∧ Below w.heap.size w wr)
    (fun i _ => n - (intOf i).toNat)
  case atStart => exact ⟨0, Nat.zero_le _, rfl, (RowAt.new w _ _).alloc _, by rw [prodTo, ← zero_row]; exact RowAt.new' _ _ (by simp), ((Below.refl _ w).alloc (Nat.le_refl _) _).alloc (by simp) _⟩
  case round =>
    obtain ⟨i, hi, rfl, hr4, hr5, hB⟩ := hrel
    obtain ⟨wo, hwo⟩ : ∃ wo : World, wo = wr := ⟨_, rfl⟩
    rw [← hwo] at hr4 hr5 hB ⊢
    clear hwo wr
    by_cases hlt : i < n
    · obtain ⟨b, off, rfl, hbB, hcs⟩ := Hc.out (by rw [← Hn.out]; exact Nat.lt_of_le_of_lt (Nat.zero_le _) hlt)
      have hcx := (hB.cell (p := ⟨b, off + i, none⟩) hbB).trans (hcs i (by rw [← Hn.out]; exact hlt))
      clear hcs
      have Hl := Lib.hid (Hln.out i)
      have hp := hdx.getD i
      have HD := Lib.hid (prodTo_digits hdx hdy i)
      have Hlen := Lib.hid (prodTo_length xs ys i)
      generalize xs[i]?.getD 0 = x at *
      have Hp := Lib.hid hp
      clear hp
      go_wp2
      go_loopw [8, 20] (fun c j wr => ∃ k : Nat, k ≤ m ∧ j = .int .i64 k ∧ c = .int .u64 ((lineTo x i ys (prodTo xs ys i) k).1 : Nat) ∧ RowAt wr w.heap.size 89 Tryz.zeroCells89 ∧ RowAt wr (w.heap.size + 1) 89 (arr (lineTo x i ys (prodTo xs ys i) k).2) ∧ Below w.heap.size w wr)
        (fun _ j _ => m - (intOf j).toNat)
      case atStart => exact ⟨0, Nat.zero_le _, rfl, rfl, hr4, hr5, hB⟩
      case round =>
        clear hr4 hr5 hB hcx
        obtain ⟨k, hk, rfl, rfl, hr4, hr5, hB⟩ := hrel
        obtain ⟨hb1, hb2⟩ := lineTo_bounds (i := i) Hp.out hdy HD.out k
        have hll := lineTo_length x i ys (prodTo xs ys i) k
        rw [Hlen.out] at hll
        by_cases hkm : k < m
        · obtain ⟨b2, off2, rfl, hbB2, hcs2⟩ := Hc2.out (by rw [← Hm.out]; exact Nat.lt_of_le_of_lt (Nat.zero_le _) hkm)
          have hcy := (hB.cell (p := ⟨b2, off2 + k, none⟩) hbB2).trans (hcs2 k (by rw [← Hm.out]; exact hkm))
          clear hcs2
          have hyk := hdy.getD k
          have hmul := mul_bound Hp.out hyk
          have hrk := hb2.getD (i + k)
          have hcr := (hr5.cell (i + k)).trans (arr_get _ (i + k) (by rw [hll]; omega))
          have hfr := hr5.frozen (i + k)
          have hs1 : (lineTo x i ys (prodTo xs ys i) (k + 1)).1 = ((lineTo x i ys (prodTo xs ys i) k).1 + (x * ys[k]?.getD 0 + (lineTo x i ys (prodTo xs ys i) k).2[i + k]?.getD 0)) / B32 := rfl
          have hs2 : (lineTo x i ys (prodTo xs ys i) (k + 1)).2 = (lineTo x i ys (prodTo xs ys i) k).2.set (i + k) (((lineTo x i ys (prodTo xs ys i) k).1 + (x * ys[k]?.getD 0 + (lineTo x i ys (prodTo xs ys i) k).2[i + k]?.getD 0)) % B32) := rfl
          generalize (lineTo x i ys (prodTo xs ys i) k).2[i + k]?.getD 0 = r at *
          generalize ys[k]?.getD 0 = y at *
          generalize lineTo x i ys (prodTo xs ys i) k = st at *
          obtain ⟨c, row⟩ := st
          dsimp only at *
          have Hs1 := Lib.hid hs1
          have Hs2 := Lib.hid hs2
          have Hr4 := Lib.hid hr4
          have Hr5 := Lib.hid hr5
          have Hll := Lib.hid hll
          have hx' := Hp.out
          have hik : (i : Int) + (k : Int) < 65 := by omega
          unfold B32 at hx' hyk hrk hb1
          have hmul' : (x : Int) * (y : Int) ≤ 18446744065119617025 := by rw [← Int.natCast_mul]; generalize x * y = t at hmul; clear hs1 hs2 Hs1 Hs2; omega
          have hmul0 : 0 ≤ (x : Int) * (y : Int) := Int.mul_nonneg (by omega) (by omega)
          clear hs1 hs2 hr4 hr5 hll hb2 hmul
          go_wp2
          go_roundw
          case rel =>
            rw [(prod_cast c x y r).1, (prod_cast c x y r).2]
            exact ⟨k + 1, by omega, by rw [Int.natCast_add]; rfl, by rw [Hs1.out], Hr4.out.setOther _ _ (by simp), by rw [Hs2.out, ← arr_set]; exact Hr5.out.set (i + k) _, hB.setCell (p := ⟨w.heap.size + 1, i + k, none⟩) (Nat.le_succ _) _⟩
          case measure => show m - ((k : Int) + 1).toNat < m - ((k : Int)).toNat; omega
        · obtain rfl : k = m := by omega
          have Hl2 := Lib.hid (show prodTo xs ys (i + 1) = (lineTo x i ys (prodTo xs ys i) k).2.set (i + k) (lineTo x i ys (prodTo xs ys i) k).1 from Hl.out)
          have hcr := (hr5.cell (i + k)).trans (arr_get _ (i + k) (by rw [hll]; omega))
          have hfr := hr5.frozen (i + k)
          generalize lineTo x i ys (prodTo xs ys i) k = st at *
          obtain ⟨c, row⟩ := st
          dsimp only at *
          have Hr4 := Lib.hid hr4
          have Hr5 := Lib.hid hr5
          have hik : (i : Int) + (k : Int) < 65 := by omega
          unfold B32 at hb1
          clear hr4 hr5 hll hb2
          go_wp2
          go_roundw
          case rel => exact ⟨i + 1, by omega, by rw [Int.natCast_add]; rfl, Hr4.out.setOther _ _ (by simp), by rw [Hl2.out, ← arr_set]; exact Hr5.out.set (i + k) _, hB.setCell (p := ⟨w.heap.size + 1, i + k, none⟩) (Nat.le_succ _) _⟩
          case measure => show n - ((i : Int) + 1).toNat < n - ((i : Int)).toNat; omega
    · obtain rfl : i = n := by omega
      have Hres := Lib.hid (show prodTo xs ys i = prodRow xs ys by rw [Hn.out]; rfl)
      have Hcl := Lib.hid (prodRow_length xs ys)
      rw [Hres.out] at hr5
      have Hr5 := Lib.hid hr5
      have Hr4 := Lib.hid hr4
      generalize hg : prodRow xs ys = res at *
      have Hg := Lib.hid hg
      clear hr4 hr5 hg
      go_wp2_with (first
        | (refine load_row rfl (.tmp 5) rfl (w.heap.size + 1) rfl res Hcl.out 89 Hr5.out ?_)
        | (refine store_row rfl (.tmp 4) (.tmp 56) rfl w.heap.size rfl res Hcl.out rfl 89 Tryz.zeroCells89 Hr4.out (by kernel_rfl) ?_))
      refine ret_row rfl w.heap.size rfl res Hcl.out 89 (Hr4.out.setRow _) ⟨by rw [Hg.out], below_setRow2 hB (Nat.le_refl _) _⟩
end Go.Proofs.YtegjcikofmphjaaGreatDoor
/- Layer 1: signedSum. -/
namespace Go.Proofs.YtegjcikofmphjaaGreatDoor
open Go Go.RowKit Go.Shelf
theorem u32s_row {B : Nat} {w : World} {g L cap : Nat} {t : TypeId} {xs : List Nat} (hg : RowAt w g t (arr xs)) (hB : g < B) (hL : L ≤ xs.length) (hm : xs.length ≤ maxLen) : U32s B w (.slice (some ⟨g, 0, none⟩) L cap) (xs.take L) := by
  have e : (xs.take L).length = L := by simp; omega
  refine ⟨some ⟨g, 0, none⟩, cap, by rw [e], by rw [e]; omega, fun _ => ⟨g, 0, rfl, hB, fun j hj => ?_⟩⟩
  rw [e] at hj
  rw [Nat.zero_add, hg.cell j, arr_get xs j (by omega), List.getElem?_take_of_lt hj]
set_option maxRecDepth 100000 in
set_option maxHeartbeats 2000000 in
theorem signedSum_same (va vb : Value) (na nb : Bool) (xs ys : List Nat) (w : World) (ha : NumV w.heap.size w va na xs) (hb : NumV w.heap.size w vb nb ys) (hdx : Digits xs) (hdy : Digits ys) (hx : xs.length ≤ 64) (hy : ys.length ≤ 64) :
    Calls Tryz.prog 107 #[va, vb, .bool na] w (NumPost w (resNeg na (strip ((sumRow xs ys).take (max xs.length ys.length + 1)))) (resDs (strip ((sumRow xs ys).take (max xs.length ys.length + 1)))) (resOk (strip ((sumRow xs ys).take (max xs.length ys.length + 1))))) := by
  obtain ⟨sa, rfl, hua⟩ := ha
  obtain ⟨sb, rfl, hub⟩ := hb
  obtain ⟨p, cap, rfl, hl, hc⟩ := id hua
  obtain ⟨q, cap2, rfl, hl2, hc2⟩ := id hub
  clear hc hc2
  obtain ⟨W3, hW3⟩ : ∃ W3, W3 = ((w.alloc (.cells #[.bool na, .slice p xs.length cap] 25)).alloc (.cells #[.bool nb, .slice q ys.length cap2] 25)).alloc (.cells #[.bool false, .slice none 0 0] 25) := ⟨_, rfl⟩
  have hB3 : Below w.heap.size w W3 := by rw [hW3]; exact (((Below.refl _ w).alloc (Nat.le_refl _) _).alloc (by simp) _).alloc (by simp; omega) _
  have hz3 : W3.heap.size = w.heap.size + 3 := by rw [hW3]; simp
  have hsum := sum_calls _ _ xs ys W3 ((hua.below hB3).mono (by omega)) ((hub.below hB3).mono (by omega)) hdx hdy hx hy
  have hsl := sumRow_length xs ys
  generalize sumRow xs ys = row at *
  obtain ⟨M, hM⟩ : ∃ M, M = max xs.length ys.length := ⟨_, rfl⟩
  have hmaxI : max (xs.length : Int) (ys.length : Int) = (M : Int) := by rw [hM]; omega
  have hM64 : M ≤ 64 := by omega
  rw [← hM]
  clear hM
  have Hsum := Lib.hid hsum
  have Hsl := Lib.hid hsl
  have HB3 := Lib.hid hB3
  have Hz3 := Lib.hid hz3
  have Hra : Hid (RowAt W3 w.heap.size 25 (numCells na p xs.length cap)) := by rw [hW3]; exact ((RowAt.new w _ _).alloc _).alloc _
  have Hrb : Hid (RowAt W3 (w.heap.size + 1) 25 (numCells nb q ys.length cap2)) := by rw [hW3]; exact (RowAt.new' _ _ (by simp)).alloc _
  have Hrr : Hid (RowAt W3 (w.heap.size + 1 + 1) 25 (numCells false none 0 0)) := by rw [hW3]; exact RowAt.new' _ _ (by simp)
  have HW3 := Lib.hid hW3
  clear hsum hsl hB3 hz3 hua hub hdx hdy hW3
  go_enter Tryz.func107, Tryz.ntmps107
  go_wp2_with fail
  rw [← HW3.out]
  refine Hsum.out.mono ?_
  rintro e w1 ⟨rfl, hb1⟩
  have hz1 := hb1.size
  rw [Hz3.out] at hz1
  obtain ⟨W4, hW4⟩ : ∃ W4, W4 = (w1.alloc (.cells Tryz.zeroCells89 89)).setRow w1.heap.size (arr row) := ⟨_, rfl⟩
  have Hz4 : Hid (W4.heap.size = w1.heap.size + 1) := by show W4.heap.size = _; rw [hW4]; simp
  have HB4 : Hid (Below w.heap.size w W4) := by rw [hW4]; exact below_setRow2 ((HB3.out.trans (hb1.mono (by rw [Hz3.out]; omega))).alloc (by omega) _) (by omega) _
  have Hr4 : Hid (RowAt W4 w1.heap.size 89 (arr row)) := by rw [hW4]; exact (RowAt.new w1 _ _).setRow _
  have hra4 : RowAt W4 w.heap.size 25 (numCells na p xs.length cap) := by rw [hW4]; exact ((Hra.out.below hb1 (by rw [Hz3.out]; omega)).alloc _).setRowOther _ (by omega)
  have hrb4 : RowAt W4 (w.heap.size + 1) 25 (numCells nb q ys.length cap2) := by rw [hW4]; exact ((Hrb.out.below hb1 (by rw [Hz3.out]; omega)).alloc _).setRowOther _ (by omega)
  have Hrr4 : Hid (RowAt W4 (w.heap.size + 1 + 1) 25 (numCells false none 0 0)) := by rw [hW4]; exact ((Hrr.out.below hb1 (by rw [Hz3.out]; omega)).alloc _).setRowOther _ (by omega)
  have hca0 := hra4.cell 0
  have hca1 := hra4.cell 1
  have hcb1 := hrb4.cell 1
  simp only [numCells] at hca0 hca1 hcb1
  have Hnew := Lib.hid (RowAt.new w1 89 Tryz.zeroCells89)
  have HW4 := Lib.hid hW4
  have hnum := number_calls na _ _ W4.drew (u32s_row (B := W4.drew.heap.size) (w := W4.drew) (cap := 65) (L := M + 1) Hr4.out (by show _ < W4.heap.size; rw [Hz4.out]; omega) (by rw [Hsl.out]; omega) (by rw [Hsl.out]; decide))
  have Hnum := Lib.hid hnum
  clear hW4 hra4 hrb4 hnum
  go_wp2_with (refine store_row rfl (.tmp 8) (.tmp 19) rfl w1.heap.size rfl row Hsl.out rfl 89 Tryz.zeroCells89 Hnew.out (by kernel_rfl) ?_; rw [← HW4.out])
  have hw1 : IntKind.i64.wrap ((M : Int) + 1) = (M : Int) + 1 := by rw [IntKind.wrap_i64]; omega
  have hw2 : (0 : Int) ≤ (M : Int) + 1 := by omega
  have hw3 : (M : Int) + 1 ≤ 65 := by omega
  have hw4 : ((M : Int) + 1).toNat = M + 1 := by omega
  go_region_held3 (fun W => W.cell? ⟨w.heap.size, 0, none⟩ = some (.bool na) ∧ W.cell? ⟨w.heap.size, 1, none⟩ = some (.slice p xs.length cap) ∧ W.cell? ⟨w.heap.size + 1, 1, none⟩ = some (.slice q ys.length cap2)) (first | exact ⟨by assumption, by assumption, by assumption⟩ | exact ⟨cell_set2 _ _ _ _ _ _ _ _ (by assumption) (by show w.heap.size ≠ _; omega), cell_set2 _ _ _ _ _ _ _ _ (by assumption) (by show w.heap.size ≠ _; omega), cell_set2 _ _ _ _ _ _ _ _ (by assumption) (by show w.heap.size + 1 ≠ _; omega)⟩)
    (first | (go_at_call 67; refine Hnum.out.mono ?_; rintro e w5 ⟨s5, rfl, hu5, hb5⟩; have hU5 := hu5; obtain ⟨p5, c5, rfl, -, -⟩ := hU5; have hr5 := (RowAt.drew Hrr4.out).below hb5 (by show _ < W4.heap.size; rw [Hz4.out]; omega); have hr50 := hr5.cell 0; have hr51 := hr5.cell 1; have hf50 := hr5.frozen 0; have hf51 := hr5.frozen 1; simp only [numCells] at hr50 hr51; have HR5 := Lib.hid hr5; have HU5 := Lib.hid hu5; have HB5 := Lib.hid hb5; have hk1 : w5.cell? ⟨w.heap.size, 0, none⟩ = some (.bool na) := (hb5.cell (p := ⟨w.heap.size, 0, none⟩) (by show _ < W4.heap.size; rw [Hz4.out]; show w.heap.size < _; omega)).trans hca0; have hk2 : w5.cell? ⟨w.heap.size, 1, none⟩ = some (.slice p xs.length cap) := (hb5.cell (p := ⟨w.heap.size, 1, none⟩) (by show _ < W4.heap.size; rw [Hz4.out]; show w.heap.size < _; omega)).trans hca1; have hk3 : w5.cell? ⟨w.heap.size + 1, 1, none⟩ = some (.slice q ys.length cap2) := (hb5.cell (p := ⟨w.heap.size + 1, 1, none⟩) (by show _ < W4.heap.size; rw [Hz4.out]; show w.heap.size + 1 < _; omega)).trans hcb1; clear hr5 hu5 hb5))
  go_wp2
  have hfin := finNum (g := w.heap.size + 1 + 1) (Below.drew HB4.out) (by omega) (by show _ < W4.heap.size; rw [Hz4.out]; omega) HU5.out HB5.out (turned_set2 w5 _ (.bool (resNeg na (strip (List.take (M + 1) row)))) (.slice p5 (resDs (strip (List.take (M + 1) row))).length c5))
  exact ret_num rfl (w.heap.size + 1 + 1) rfl _ rfl _ _ _ _ _ (numCells_set HR5.out rfl _ _ _ _) ⟨_, rfl, hfin.1, hfin.2⟩
end Go.Proofs.YtegjcikofmphjaaGreatDoor
/- Layer 1: signedSum, numbers of different signs. -/
namespace Go.Proofs.YtegjcikofmphjaaGreatDoor
open Go Go.RowKit Go.Shelf
set_option maxRecDepth 100000 in
set_option maxHeartbeats 2000000 in
theorem signedSum_less (va vb : Value) (na nb neg : Bool) (hneg : na ≠ neg) (xs ys : List Nat) (w : World) (ha : NumV w.heap.size w va na xs) (hb : NumV w.heap.size w vb nb ys) (hdx : Digits xs) (hdy : Digits ys) (hx : xs.length ≤ 64) (hy : ys.length ≤ 64) (hcmp : cmpL xs ys < 0) :
    Calls Tryz.prog 107 #[va, vb, .bool neg] w (NumPost w (resNeg neg (strip ((combRow subLo subHi ys xs).take ys.length))) (resDs (strip ((combRow subLo subHi ys xs).take ys.length))) (resOk (strip ((combRow subLo subHi ys xs).take ys.length)))) := by
  obtain ⟨sa, rfl, hua⟩ := ha
  obtain ⟨sb, rfl, hub⟩ := hb
  obtain ⟨p, cap, rfl, hl, hc⟩ := id hua
  obtain ⟨q, cap2, rfl, hl2, hc2⟩ := id hub
  clear hc hc2
  have hnn : (na == neg) = false := by simp [hneg]
  obtain ⟨W3, hW3⟩ : ∃ W3, W3 = ((w.alloc (.cells #[.bool na, .slice p xs.length cap] 25)).alloc (.cells #[.bool nb, .slice q ys.length cap2] 25)).alloc (.cells #[.bool false, .slice none 0 0] 25) := ⟨_, rfl⟩
  have hB3 : Below w.heap.size w W3 := by rw [hW3]; exact (((Below.refl _ w).alloc (Nat.le_refl _) _).alloc (by simp) _).alloc (by simp; omega) _
  have hz3 : W3.heap.size = w.heap.size + 3 := by rw [hW3]; simp
  have hua3 : U32s W3.heap.size W3 (.slice p xs.length cap) xs := (hua.below hB3).mono (by omega)
  have hub3 : U32s W3.heap.size W3 (.slice q ys.length cap2) ys := (hub.below hB3).mono (by omega)
  have Hord := Lib.hid (order_calls _ _ xs ys W3 hua3 hub3 hdx hdy)
  have Hdif : Hid (∀ w1, Below W3.heap.size W3 w1 → Calls Tryz.prog 92 #[.slice q ys.length cap2, .slice p xs.length cap] w1 fun e w' => e = .returned (.agg (arr (combRow subLo subHi ys xs))) ∧ Below w1.heap.size w1 w') := fun w1 hb => difference_calls _ _ ys xs w1 ((hub3.below hb).mono hb.size) ((hua3.below hb).mono hb.size) hdy hdx hy
  have hsl := combRow_length subLo subHi ys xs
  generalize combRow subLo subHi ys xs = row at *
  obtain ⟨M, hM⟩ : ∃ M, M = ys.length := ⟨_, rfl⟩
  have hM64 : M ≤ 64 := by omega
  have hMl : (ys.length : Int) = (M : Int) := by omega
  have Hsl := Lib.hid hsl
  have HB3 := Lib.hid hB3
  have Hz3 := Lib.hid hz3
  have Hra : Hid (RowAt W3 w.heap.size 25 (numCells na p xs.length cap)) := by rw [hW3]; exact ((RowAt.new w _ _).alloc _).alloc _
  have Hrb : Hid (RowAt W3 (w.heap.size + 1) 25 (numCells nb q ys.length cap2)) := by rw [hW3]; exact (RowAt.new' _ _ (by simp)).alloc _
  have Hrr : Hid (RowAt W3 (w.heap.size + 1 + 1) 25 (numCells false none 0 0)) := by rw [hW3]; exact RowAt.new' _ _ (by simp)
  have HW3 := Lib.hid hW3
  have HM := Lib.hid hM
  clear hsl hB3 hz3 hua hub hdx hdy hW3 hneg hua3 hub3 hM hMl
  go_enter Tryz.func107, Tryz.ntmps107
  go_wp2_with fail
  rw [← HW3.out]
  refine Hord.out.mono ?_
  rintro e w1 ⟨rfl, hb1⟩
  have hra1 := Hra.out.below hb1 (by rw [Hz3.out]; omega)
  have hrb1 := Hrb.out.below hb1 (by rw [Hz3.out]; omega)
  have hca1 := hra1.cell 1
  have hcb1 := hrb1.cell 1
  simp only [numCells] at hca1 hcb1
  have Hra1 := Lib.hid hra1
  have Hrb1 := Lib.hid hrb1
  have Hb1 := Lib.hid hb1
  clear hra1 hrb1 hb1
  go_wp2_with fail
  refine (Hdif.out w1 Hb1.out).mono ?_
  rintro e w2 ⟨rfl, hb2⟩
  have hb12 : Below W3.heap.size W3 w2 := Hb1.out.trans (hb2.mono Hb1.out.size)
  have hz2 := hb12.size
  rw [Hz3.out] at hz2
  obtain ⟨W4, hW4⟩ : ∃ W4, W4 = (w2.alloc (.cells Tryz.zeroCells89 89)).setRow w2.heap.size (arr row) := ⟨_, rfl⟩
  have Hz4 : Hid (W4.heap.size = w2.heap.size + 1) := by show W4.heap.size = _; rw [hW4]; simp
  have HB4 : Hid (Below w.heap.size w W4) := by rw [hW4]; exact below_setRow2 ((HB3.out.trans (hb12.mono (by rw [Hz3.out]; omega))).alloc (by omega) _) (by omega) _
  have Hr4 : Hid (RowAt W4 w2.heap.size 89 (arr row)) := by rw [hW4]; exact (RowAt.new w2 _ _).setRow _
  have hra4 : RowAt W4 w.heap.size 25 (numCells na p xs.length cap) := by rw [hW4]; exact ((Hra.out.below hb12 (by rw [Hz3.out]; omega)).alloc _).setRowOther _ (by omega)
  have hrb4 : RowAt W4 (w.heap.size + 1) 25 (numCells nb q ys.length cap2) := by rw [hW4]; exact ((Hrb.out.below hb12 (by rw [Hz3.out]; omega)).alloc _).setRowOther _ (by omega)
  have Hrr4 : Hid (RowAt W4 (w.heap.size + 1 + 1) 25 (numCells false none 0 0)) := by rw [hW4]; exact ((Hrr.out.below hb12 (by rw [Hz3.out]; omega)).alloc _).setRowOther _ (by omega)
  have hca40 := hra4.cell 0
  have hca41 := hra4.cell 1
  have hcb41 := hrb4.cell 1
  simp only [numCells] at hca40 hca41 hcb41
  have Hnew := Lib.hid (RowAt.new w2 89 Tryz.zeroCells89)
  have HW4 := Lib.hid hW4
  have Hnum := Lib.hid (number_calls neg _ _ W4 (u32s_row (B := W4.heap.size) (w := W4) (cap := 65) (L := ys.length) Hr4.out (by show _ < W4.heap.size; rw [Hz4.out]; omega) (by rw [Hsl.out, ← HM.out]; omega) (by rw [Hsl.out]; decide)))
  have hw5 : (ys.length : Int) ≤ 65 := by rw [← HM.out]; omega
  clear hW4 hra4 hrb4 hb12 hb2
  go_wp2_with (refine store_row rfl (.tmp 9) (.tmp 44) rfl w2.heap.size rfl row Hsl.out rfl 89 Tryz.zeroCells89 Hnew.out (by kernel_rfl) ?_; rw [← HW4.out])
  refine Hnum.out.mono ?_
  rintro e w5 ⟨s5, rfl, hu5, hb5⟩
  have hU5 := hu5
  obtain ⟨p5, c5, rfl, -, -⟩ := hU5
  have HR5 := Lib.hid (Hrr4.out.below hb5 (by rw [Hz4.out]; omega))
  have hfin := finNum (g := w.heap.size + 1 + 1) HB4.out (by omega) (by rw [Hz4.out]; omega) hu5 hb5 (turned_setRow w5 _ (numCells (resNeg neg (strip (List.take ys.length row))) p5 (resDs (strip (List.take ys.length row))).length c5))
  have Hfin := Lib.hid hfin
  clear hu5 hb5 hfin
  go_wp2_with (refine store_num rfl (.tmp 6) (.tmp 51) rfl (w.heap.size + 1 + 1) rfl _ _ _ _ rfl _ _ HR5.out rfl ?_)
  exact ret_num rfl (w.heap.size + 1 + 1) rfl _ rfl _ _ _ _ _ (HR5.out.setRow _) ⟨_, rfl, Hfin.out.1, Hfin.out.2⟩
set_option maxRecDepth 100000 in
set_option maxHeartbeats 2000000 in
theorem signedSum_more (va vb : Value) (na nb neg : Bool) (hneg : na ≠ neg) (xs ys : List Nat) (w : World) (ha : NumV w.heap.size w va na xs) (hb : NumV w.heap.size w vb nb ys) (hdx : Digits xs) (hdy : Digits ys) (hx : xs.length ≤ 64) (hy : ys.length ≤ 64) (hcmp : ¬ cmpL xs ys < 0) :
    Calls Tryz.prog 107 #[va, vb, .bool neg] w (NumPost w (resNeg na (strip ((combRow subLo subHi xs ys).take xs.length))) (resDs (strip ((combRow subLo subHi xs ys).take xs.length))) (resOk (strip ((combRow subLo subHi xs ys).take xs.length)))) := by
  obtain ⟨sa, rfl, hua⟩ := ha
  obtain ⟨sb, rfl, hub⟩ := hb
  obtain ⟨p, cap, rfl, hl, hc⟩ := id hua
  obtain ⟨q, cap2, rfl, hl2, hc2⟩ := id hub
  clear hc hc2
  have hnn : (na == neg) = false := by simp [hneg]
  obtain ⟨W3, hW3⟩ : ∃ W3, W3 = ((w.alloc (.cells #[.bool na, .slice p xs.length cap] 25)).alloc (.cells #[.bool nb, .slice q ys.length cap2] 25)).alloc (.cells #[.bool false, .slice none 0 0] 25) := ⟨_, rfl⟩
  have hB3 : Below w.heap.size w W3 := by rw [hW3]; exact (((Below.refl _ w).alloc (Nat.le_refl _) _).alloc (by simp) _).alloc (by simp; omega) _
  have hz3 : W3.heap.size = w.heap.size + 3 := by rw [hW3]; simp
  have hua3 : U32s W3.heap.size W3 (.slice p xs.length cap) xs := (hua.below hB3).mono (by omega)
  have hub3 : U32s W3.heap.size W3 (.slice q ys.length cap2) ys := (hub.below hB3).mono (by omega)
  have Hord := Lib.hid (order_calls _ _ xs ys W3 hua3 hub3 hdx hdy)
  have Hdif : Hid (∀ w1, Below W3.heap.size W3 w1 → Calls Tryz.prog 92 #[.slice p xs.length cap, .slice q ys.length cap2] w1 fun e w' => e = .returned (.agg (arr (combRow subLo subHi xs ys))) ∧ Below w1.heap.size w1 w') := fun w1 hb => difference_calls _ _ xs ys w1 ((hua3.below hb).mono hb.size) ((hub3.below hb).mono hb.size) hdx hdy hx
  have hsl := combRow_length subLo subHi xs ys
  generalize combRow subLo subHi xs ys = row at *
  obtain ⟨M, hM⟩ : ∃ M, M = xs.length := ⟨_, rfl⟩
  have hM64 : M ≤ 64 := by omega
  have hMl : (xs.length : Int) = (M : Int) := by omega
  have Hsl := Lib.hid hsl
  have HB3 := Lib.hid hB3
  have Hz3 := Lib.hid hz3
  have Hra : Hid (RowAt W3 w.heap.size 25 (numCells na p xs.length cap)) := by rw [hW3]; exact ((RowAt.new w _ _).alloc _).alloc _
  have Hrb : Hid (RowAt W3 (w.heap.size + 1) 25 (numCells nb q ys.length cap2)) := by rw [hW3]; exact (RowAt.new' _ _ (by simp)).alloc _
  have Hrr : Hid (RowAt W3 (w.heap.size + 1 + 1) 25 (numCells false none 0 0)) := by rw [hW3]; exact RowAt.new' _ _ (by simp)
  have HW3 := Lib.hid hW3
  have HM := Lib.hid hM
  clear hsl hB3 hz3 hua hub hdx hdy hW3 hneg hua3 hub3 hM hMl
  go_enter Tryz.func107, Tryz.ntmps107
  go_wp2_with fail
  rw [← HW3.out]
  refine Hord.out.mono ?_
  rintro e w1 ⟨rfl, hb1⟩
  have hra1 := Hra.out.below hb1 (by rw [Hz3.out]; omega)
  have hrb1 := Hrb.out.below hb1 (by rw [Hz3.out]; omega)
  have hca1 := hra1.cell 1
  have hcb1 := hrb1.cell 1
  simp only [numCells] at hca1 hcb1
  have Hra1 := Lib.hid hra1
  have Hrb1 := Lib.hid hrb1
  have Hb1 := Lib.hid hb1
  clear hra1 hrb1 hb1
  go_wp2_with fail
  refine (Hdif.out w1 Hb1.out).mono ?_
  rintro e w2 ⟨rfl, hb2⟩
  have hb12 : Below W3.heap.size W3 w2 := Hb1.out.trans (hb2.mono Hb1.out.size)
  have hz2 := hb12.size
  rw [Hz3.out] at hz2
  obtain ⟨W4, hW4⟩ : ∃ W4, W4 = (w2.alloc (.cells Tryz.zeroCells89 89)).setRow w2.heap.size (arr row) := ⟨_, rfl⟩
  have Hz4 : Hid (W4.heap.size = w2.heap.size + 1) := by show W4.heap.size = _; rw [hW4]; simp
  have HB4 : Hid (Below w.heap.size w W4) := by rw [hW4]; exact below_setRow2 ((HB3.out.trans (hb12.mono (by rw [Hz3.out]; omega))).alloc (by omega) _) (by omega) _
  have Hr4 : Hid (RowAt W4 w2.heap.size 89 (arr row)) := by rw [hW4]; exact (RowAt.new w2 _ _).setRow _
  have hra4 : RowAt W4 w.heap.size 25 (numCells na p xs.length cap) := by rw [hW4]; exact ((Hra.out.below hb12 (by rw [Hz3.out]; omega)).alloc _).setRowOther _ (by omega)
  have hrb4 : RowAt W4 (w.heap.size + 1) 25 (numCells nb q ys.length cap2) := by rw [hW4]; exact ((Hrb.out.below hb12 (by rw [Hz3.out]; omega)).alloc _).setRowOther _ (by omega)
  have Hrr4 : Hid (RowAt W4 (w.heap.size + 1 + 1) 25 (numCells false none 0 0)) := by rw [hW4]; exact ((Hrr.out.below hb12 (by rw [Hz3.out]; omega)).alloc _).setRowOther _ (by omega)
  have hca40 := hra4.cell 0
  have hca41 := hra4.cell 1
  have hcb41 := hrb4.cell 1
  simp only [numCells] at hca40 hca41 hcb41
  have Hnew := Lib.hid (RowAt.new w2 89 Tryz.zeroCells89)
  have HW4 := Lib.hid hW4
  have Hnum := Lib.hid (number_calls na _ _ W4.drew (u32s_row (B := W4.drew.heap.size) (w := W4.drew) (cap := 65) (L := xs.length) Hr4.out (by show _ < W4.heap.size; rw [Hz4.out]; omega) (by rw [Hsl.out, ← HM.out]; omega) (by rw [Hsl.out]; decide)))
  have hw5 : (xs.length : Int) ≤ 65 := by rw [← HM.out]; omega
  clear hW4 hra4 hrb4 hb12 hb2
  go_wp2_with (refine store_row rfl (.tmp 10) (.tmp 57) rfl w2.heap.size rfl row Hsl.out rfl 89 Tryz.zeroCells89 Hnew.out (by kernel_rfl) ?_; rw [← HW4.out])
  go_region_held3 (fun W => W.cell? ⟨w.heap.size, 0, none⟩ = some (.bool na) ∧ W.cell? ⟨w.heap.size, 1, none⟩ = some (.slice p xs.length cap)) (first | exact ⟨by assumption, by assumption⟩ | exact ⟨cell_set2 _ _ _ _ _ _ _ _ (by assumption) (by show w.heap.size ≠ _; omega), cell_set2 _ _ _ _ _ _ _ _ (by assumption) (by show w.heap.size ≠ _; omega)⟩)
    (first | (go_at_call 67; refine Hnum.out.mono ?_; rintro e w5 ⟨s5, rfl, hu5, hb5⟩; have hU5 := hu5; obtain ⟨p5, c5, rfl, -, -⟩ := hU5; have hr5 := (RowAt.drew Hrr4.out).below hb5 (by show _ < W4.heap.size; rw [Hz4.out]; omega); have hr50 := hr5.cell 0; have hr51 := hr5.cell 1; have hf50 := hr5.frozen 0; have hf51 := hr5.frozen 1; simp only [numCells] at hr50 hr51; have HR5 := Lib.hid hr5; have HU5 := Lib.hid hu5; have HB5 := Lib.hid hb5; have hk1 : w5.cell? ⟨w.heap.size, 0, none⟩ = some (.bool na) := (hb5.cell (p := ⟨w.heap.size, 0, none⟩) (by show _ < W4.heap.size; rw [Hz4.out]; show w.heap.size < _; omega)).trans hca40; have hk2 : w5.cell? ⟨w.heap.size, 1, none⟩ = some (.slice p xs.length cap) := (hb5.cell (p := ⟨w.heap.size, 1, none⟩) (by show _ < W4.heap.size; rw [Hz4.out]; show w.heap.size < _; omega)).trans hca41; clear hr5 hu5 hb5))
  go_wp2
  have hfin := finNum (g := w.heap.size + 1 + 1) (Below.drew HB4.out) (by omega) (by show _ < W4.heap.size; rw [Hz4.out]; omega) HU5.out HB5.out (turned_set2 w5 _ (.bool (resNeg na (strip (List.take xs.length row)))) (.slice p5 (resDs (strip (List.take xs.length row))).length c5))
  exact ret_num rfl (w.heap.size + 1 + 1) rfl _ rfl _ _ _ _ _ (numCells_set HR5.out rfl _ _ _ _) ⟨_, rfl, hfin.1, hfin.2⟩
end Go.Proofs.YtegjcikofmphjaaGreatDoor
/- Plain mathematics of layer 1: what the rows of sums, differences and products stand for. -/
namespace Go.Proofs.YtegjcikofmphjaaGreatDoor
/-! ### The digits of a number -/
def digsN : Nat → Nat → List Nat
  | 0, _ => []
  | f + 1, n => n % B32 :: digsN f (n / B32)
def digs (n : Nat) : List Nat := strip (digsN n n)
theorem digsN_digits (f n : Nat) : Digits (digsN f n) := by
  induction f generalizing n with
  | zero => exact Digits.nil
  | succ f ih => exact Digits.cons.2 ⟨Nat.mod_lt _ B32_pos, ih _⟩
theorem digsN_val (f n : Nat) (h : n < B32 ^ f) : val (digsN f n) = n := by
  induction f generalizing n with
  | zero => simp at h; subst h; rfl
  | succ f ih =>
    rw [digsN, val_cons, ih _ (by rw [Nat.pow_succ, Nat.mul_comm] at h; exact Nat.div_lt_of_lt_mul h)]
    exact Nat.mod_add_div n B32
theorem lt_pow_self (n : Nat) : n < B32 ^ n := Nat.lt_pow_self (by decide)
theorem norm_digs (n : Nat) : Norm (digs n) := norm_strip (digsN_digits n n)
theorem val_digs (n : Nat) : val (digs n) = n := by rw [digs, val_strip, digsN_val _ _ (lt_pow_self n)]
theorem digs_val {ds : List Nat} (h : Norm ds) : digs (val ds) = ds := norm_ext (norm_digs _) h (val_digs _)
theorem strip_digs {ds : List Nat} (h : Digits ds) : strip ds = digs (val ds) := norm_ext (norm_strip h) (norm_digs _) (by rw [val_strip, val_digs])
theorem digs_zero : digs 0 = [] := rfl
theorem digs_nil_iff {n : Nat} : digs n = [] ↔ n = 0 := ⟨fun h => by have := val_digs n; rw [h] at this; exact this.symm, fun h => by subst h; rfl⟩
theorem digs_len {n k : Nat} : (digs n).length ≤ k ↔ n < B32 ^ k := by
  constructor
  · intro h
    have := val_lt (norm_digs n).1
    rw [val_digs] at this
    exact Nat.lt_of_lt_of_le this (Nat.pow_le_pow_right B32_pos h)
  · intro h
    apply Nat.le_of_not_lt
    intro hlt
    have h1 := val_ge_of_noZero (norm_digs n).2 (by intro e; rw [e] at hlt; simp at hlt)
    rw [val_digs] at h1
    have := Nat.pow_le_pow_right B32_pos (show k ≤ (digs n).length - 1 by omega)
    omega
theorem digs_digits (n : Nat) : Digits (digs n) := (norm_digs n).1
/-! ### Places in a list -/
theorem getD_of_ge {ds : List Nat} {k : Nat} (h : ds.length ≤ k) : ds[k]?.getD 0 = 0 := by rw [List.getElem?_eq_none h]; rfl
theorem val_snoc (a : List Nat) (d : Nat) : val (a ++ [d]) = val a + B32 ^ a.length * d := by rw [val_append]; simp [val]
theorem val_take_succ (ds : List Nat) (k : Nat) : val (ds.take (k + 1)) = val (ds.take k) + B32 ^ k * ds[k]?.getD 0 := by
  by_cases h : k < ds.length
  · rw [List.take_succ_eq_append_getElem h, val_snoc]
    simp [h, Nat.le_of_lt h]
  · rw [List.take_of_length_le (by omega), List.take_of_length_le (by omega), getD_of_ge (by omega)]; simp
theorem val_take_all {ds : List Nat} {k : Nat} (h : ds.length ≤ k) : val (ds.take k) = val ds := by rw [List.take_of_length_le h]
theorem take_set_succ {l : List Nat} {k d : Nat} (h : k < l.length) : (l.set k d).take (k + 1) = l.take k ++ [d] := by
  rw [List.take_succ_eq_append_getElem (by simpa using h)]
  simp [List.take_set]
  rw [List.set_eq_of_length_le (by simp; omega)]
theorem take_set_same {l : List Nat} {k d : Nat} : (l.set k d).take k = l.take k := by
  rw [List.take_set, List.set_eq_of_length_le (by simp; omega)]
theorem val_set {l : List Nat} {j : Nat} (d : Nat) (h : j < l.length) : val (l.set j d) + B32 ^ j * l[j]?.getD 0 = val l + B32 ^ j * d := by
  induction l generalizing j with
  | nil => simp at h
  | cons x l ih =>
    cases j with
    | zero => simp [val_cons]; omega
    | succ j =>
      have := ih (j := j) (by simpa using h)
      simp only [List.set_cons_succ, val_cons, List.getElem?_cons_succ, Nat.pow_succ]
      have h2 := congrArg (B32 * ·) this
      simp only [Nat.mul_add] at h2
      rw [Nat.mul_comm (B32 ^ j) B32, Nat.mul_assoc, Nat.mul_assoc]
      omega
/-! ### Sums -/
theorem add_step (x y c : Nat) : addLo x y c + B32 * addHi x y c = x + y + c := Nat.mod_add_div _ _
theorem rowTo_take (lo hi : Nat → Nat → Nat → Nat) (xs ys : List Nat) (k : Nat) (h : k < 65) : (rowTo lo hi xs ys (k + 1)).take (k + 1) = (rowTo lo hi xs ys k).take k ++ [digitAt lo hi xs ys k] :=
  take_set_succ (by rw [rowTo_length]; exact h)
theorem sum_inv (xs ys : List Nat) (k : Nat) (h : k ≤ 64) : val ((rowTo addLo addHi xs ys k).take k) + B32 ^ k * carryTo addHi xs ys k = val (xs.take k) + val (ys.take k) := by
  induction k with
  | zero => simp [val, carryTo]
  | succ k ih =>
    have ih := ih (by omega)
    rw [rowTo_take _ _ _ _ _ (by omega), val_snoc, val_take_succ, val_take_succ]
    have hl : ((rowTo addLo addHi xs ys k).take k).length = k := by rw [List.length_take, rowTo_length]; omega
    rw [hl]
    have hs := add_step (xs[k]?.getD 0) (ys[k]?.getD 0) (carryTo addHi xs ys k)
    have h2 := congrArg (B32 ^ k * ·) hs
    simp only [Nat.mul_add] at h2
    rw [← Nat.mul_assoc] at h2
    show _ + B32 ^ k * addLo (xs[k]?.getD 0) (ys[k]?.getD 0) (carryTo addHi xs ys k) + B32 ^ (k + 1) * addHi (xs[k]?.getD 0) (ys[k]?.getD 0) (carryTo addHi xs ys k) = _
    rw [Nat.pow_succ]
    omega
theorem sum_comb (xs ys : List Nat) (hl : ys.length ≤ xs.length) (h : xs.length ≤ 64) : val ((combRow addLo addHi xs ys).take (xs.length + 1)) = val xs + val ys := by
  have e : (combRow addLo addHi xs ys).take (xs.length + 1) = (rowTo addLo addHi xs ys xs.length).take xs.length ++ [carryTo addHi xs ys xs.length] := take_set_succ (by rw [rowTo_length]; omega)
  rw [e, val_snoc, List.length_take, rowTo_length, show min xs.length 65 = xs.length by omega, sum_inv xs ys _ h, val_take_all (Nat.le_refl _), val_take_all hl]
theorem sum_val (xs ys : List Nat) (hx : xs.length ≤ 64) (hy : ys.length ≤ 64) : val ((sumRow xs ys).take (max xs.length ys.length + 1)) = val xs + val ys := by
  unfold sumRow
  split
  · rename_i h
    rw [show max xs.length ys.length = ys.length by omega, sum_comb ys xs (by omega) hy, Nat.add_comm]
  · rename_i h
    rw [show max xs.length ys.length = xs.length by omega, sum_comb xs ys (by omega) hx]
theorem carry_le {xs ys : List Nat} (hx : Digits xs) (hy : Digits ys) (k : Nat) : carryTo addHi xs ys k ≤ 1 := by
  induction k with
  | zero => simp [carryTo]
  | succ k ih =>
    have h1 := hx.getD k
    have h2 := hy.getD k
    show addHi _ _ _ ≤ 1
    unfold addHi B32 at *
    omega
theorem row_digits {lo hi : Nat → Nat → Nat → Nat} (hlo : ∀ x y c, lo x y c < B32) (xs ys : List Nat) (k : Nat) : Digits (rowTo lo hi xs ys k) := by
  induction k with
  | zero => exact digits_replicate _
  | succ k ih => exact ih.set _ (hlo _ _ _)
theorem addLo_lt (x y c : Nat) : addLo x y c < B32 := Nat.mod_lt _ B32_pos
theorem subLo_lt (x y c : Nat) : subLo x y c < B32 := Nat.mod_lt _ B32_pos
theorem sum_digits {xs ys : List Nat} (hx : Digits xs) (hy : Digits ys) : Digits (sumRow xs ys) := by
  unfold sumRow
  split
  · exact (row_digits addLo_lt _ _ _).set _ (Nat.lt_of_le_of_lt (carry_le hy hx _) (by decide))
  · exact (row_digits addLo_lt _ _ _).set _ (Nat.lt_of_le_of_lt (carry_le hx hy _) (by decide))
/-! ### Differences -/
theorem sub_step {x y c : Nat} (hx : x < B32) (hy : y < B32) (hc : c ≤ 1) : subLo x y c + y + c = x + B32 * subHi x y c := by
  unfold subLo subHi B32 at *
  split <;> omega
theorem borrow_le (xs ys : List Nat) (k : Nat) : carryTo subHi xs ys k ≤ 1 := by
  cases k with
  | zero => simp [carryTo]
  | succ k => show subHi _ _ _ ≤ 1; unfold subHi; split <;> omega
theorem dif_inv {xs ys : List Nat} (hx : Digits xs) (hy : Digits ys) (k : Nat) (h : k ≤ 64) : val ((rowTo subLo subHi xs ys k).take k) + val (ys.take k) = val (xs.take k) + B32 ^ k * carryTo subHi xs ys k := by
  induction k with
  | zero => simp [val, carryTo]
  | succ k ih =>
    have ih := ih (by omega)
    rw [rowTo_take _ _ _ _ _ (by omega), val_snoc, val_take_succ, val_take_succ]
    have hl : ((rowTo subLo subHi xs ys k).take k).length = k := by rw [List.length_take, rowTo_length]; omega
    rw [hl]
    have hs := sub_step (hx.getD k) (hy.getD k) (borrow_le xs ys k)
    have h2 := congrArg (B32 ^ k * ·) hs
    simp only [Nat.mul_add] at h2
    rw [← Nat.mul_assoc] at h2
    show _ + B32 ^ k * subLo (xs[k]?.getD 0) (ys[k]?.getD 0) (carryTo subHi xs ys k) + (_ + _) = _ + _ + B32 ^ (k + 1) * subHi (xs[k]?.getD 0) (ys[k]?.getD 0) (carryTo subHi xs ys k)
    rw [Nat.pow_succ]
    omega
theorem dif_val {xs ys : List Nat} (hx : Digits xs) (hy : Digits ys) (hl : ys.length ≤ xs.length) (h : xs.length ≤ 64) (hle : val ys ≤ val xs) : val ((combRow subLo subHi xs ys).take xs.length) = val xs - val ys := by
  have e : (combRow subLo subHi xs ys).take xs.length = (rowTo subLo subHi xs ys xs.length).take xs.length := take_set_same
  have hi := dif_inv hx hy xs.length h
  rw [val_take_all hl, val_take_all (Nat.le_refl _)] at hi
  have hd : Digits ((rowTo subLo subHi xs ys xs.length).take xs.length) := (row_digits subLo_lt _ _ _).take _
  have hlt := val_lt hd
  rw [List.length_take, rowTo_length, show min xs.length 65 = xs.length by omega] at hlt
  have hb : carryTo subHi xs ys xs.length = 0 := by
    have h1 := borrow_le xs ys xs.length
    rcases Nat.lt_or_ge (carryTo subHi xs ys xs.length) 1 with h2 | h2
    · omega
    · have : carryTo subHi xs ys xs.length = 1 := by omega
      rw [this, Nat.mul_one] at hi
      omega
  rw [hb, Nat.mul_zero] at hi
  rw [e]; omega
theorem dif_digits (xs ys : List Nat) : Digits (combRow subLo subHi xs ys) := (row_digits subLo_lt _ _ _).set _ (Nat.lt_of_le_of_lt (borrow_le xs ys _) (by decide))
theorem len_le_of_val {xs ys : List Nat} (hx : Norm xs) (hy : Norm ys) (h : val ys ≤ val xs) : ys.length ≤ xs.length := by
  rw [← digs_val hx, ← digs_val hy, digs_len]
  have := val_lt hx.1
  rw [← digs_val hx, val_digs] at this
  omega
/-! ### Products -/
theorem lineTo_get {p i : Nat} {ys row : List Nat} (k j : Nat) (hj : i + k ≤ j) : (lineTo p i ys row k).2[j]? = row[j]? := by
  induction k with
  | zero => rfl
  | succ k ih =>
    show ((lineTo p i ys row k).2.set (i + k) _)[j]? = _
    rw [List.getElem?_set_ne (by omega), ih (by omega)]
theorem lineTo_val {p i : Nat} {ys row : List Nat} (k : Nat) (hk : i + k ≤ row.length) : val (lineTo p i ys row k).2 + B32 ^ (i + k) * (lineTo p i ys row k).1 = val row + B32 ^ i * (p * val (ys.take k)) := by
  induction k with
  | zero => simp [lineTo, val]
  | succ k ih =>
    have ih := ih (by omega)
    have hl : i + k < (lineTo p i ys row k).2.length := by rw [lineTo_length]; omega
    have hset := val_set (((lineTo p i ys row k).1 + (p * ys[k]?.getD 0 + (lineTo p i ys row k).2[i + k]?.getD 0)) % B32) hl
    have hdm := Nat.mod_add_div ((lineTo p i ys row k).1 + (p * ys[k]?.getD 0 + (lineTo p i ys row k).2[i + k]?.getD 0)) B32
    show val ((lineTo p i ys row k).2.set (i + k) _) + B32 ^ (i + (k + 1)) * (_ / B32) = _
    rw [val_take_succ]
    obtain ⟨t, ht⟩ : ∃ t, t = (lineTo p i ys row k).1 + (p * ys[k]?.getD 0 + (lineTo p i ys row k).2[i + k]?.getD 0) := ⟨_, rfl⟩
    rw [← ht] at hset hdm ⊢
    have e1 := congrArg (B32 ^ (i + k) * ·) hdm
    have e2 := congrArg (B32 ^ (i + k) * ·) ht
    simp only [Nat.mul_add] at e1 e2
    have e3 : B32 ^ (i + (k + 1)) * (t / B32) = B32 ^ (i + k) * (B32 * (t / B32)) := by rw [← Nat.add_assoc, Nat.pow_succ, Nat.mul_assoc]
    have e4 : B32 ^ i * (p * (val (ys.take k) + B32 ^ k * ys[k]?.getD 0)) = B32 ^ i * (p * val (ys.take k)) + B32 ^ (i + k) * (p * ys[k]?.getD 0) := by
      rw [Nat.mul_add, Nat.mul_add, Nat.pow_add, Nat.mul_left_comm p, Nat.mul_assoc]
    rw [e3, e4]
    omega
theorem line_val {p i : Nat} {ys row : List Nat} (hk : i + ys.length < row.length) (hz : row[i + ys.length]?.getD 0 = 0) : val (line p i ys row) = val row + B32 ^ i * (p * val ys) := by
  have h1 := lineTo_val (p := p) (i := i) (ys := ys) (row := row) ys.length (by omega)
  have h2 := val_set (lineTo p i ys row ys.length).1 (l := (lineTo p i ys row ys.length).2) (j := i + ys.length) (by rw [lineTo_length]; exact hk)
  rw [lineTo_get _ _ (Nat.le_refl _), hz, Nat.mul_zero, Nat.add_zero] at h2
  unfold line
  rw [h2, h1, List.take_of_length_le (Nat.le_refl _)]
theorem line_zero {p i : Nat} {ys row : List Nat} (j : Nat) (hj : i + ys.length < j) : (line p i ys row)[j]? = row[j]? := by
  unfold line
  rw [List.getElem?_set_ne (by omega), lineTo_get _ _ (by omega)]
theorem prodTo_zero (xs ys : List Nat) (k j : Nat) (hj : k + ys.length ≤ j) : (prodTo xs ys k)[j]?.getD 0 = 0 := by
  induction k with
  | zero =>
    show (List.replicate 65 0)[j]?.getD 0 = 0
    rw [List.getElem?_replicate]; split <;> rfl
  | succ k ih =>
    show (line _ k ys (prodTo xs ys k))[j]?.getD 0 = 0
    rw [line_zero j (by omega), ih (by omega)]
theorem val_zeros (n : Nat) : val (List.replicate n 0) = 0 := val_zero_of_all fun d hd => List.eq_of_mem_replicate hd
theorem prodTo_val (xs ys : List Nat) (k : Nat) (hk : k ≤ xs.length) (h : xs.length + ys.length ≤ 65) : val (prodTo xs ys k) = val (xs.take k) * val ys := by
  induction k with
  | zero => simp [prodTo, val_zeros, val]
  | succ k ih =>
    show val (line _ k ys (prodTo xs ys k)) = _
    rw [line_val (by rw [prodTo_length]; omega) (prodTo_zero _ _ _ _ (Nat.le_refl _)), ih (by omega), val_take_succ, Nat.add_mul, Nat.mul_assoc]
theorem prod_val (xs ys : List Nat) (h : xs.length + ys.length ≤ 65) : val (prodRow xs ys) = val xs * val ys := by
  rw [prodRow, prodTo_val _ _ _ (Nat.le_refl _) h, val_take_all (Nat.le_refl _)]
theorem prod_digits {xs ys : List Nat} (hx : Digits xs) (hy : Digits ys) : Digits (prodRow xs ys) := prodTo_digits hx hy _
theorem val_take_of_zero {ds : List Nat} {n : Nat} (hz : ∀ j, n ≤ j → ds[j]?.getD 0 = 0) : val (ds.take n) = val ds := by
  by_cases hn : n ≤ ds.length
  · have h1 := val_take_drop ds hn
    have h2 : val (ds.drop n) = 0 := val_zero_of_all fun d hd => by
      obtain ⟨i, hi, rfl⟩ := List.getElem_of_mem hd
      have hi' : n + i < ds.length := by simp at hi; omega
      have := hz (n + i) (by omega)
      simpa [hi'] using this
    rw [h2, Nat.mul_zero] at h1
    omega
  · exact val_take_all (by omega)
theorem prod_take (xs ys : List Nat) (h : xs.length + ys.length ≤ 65) : val ((prodRow xs ys).take (xs.length + ys.length)) = val xs * val ys := by
  rw [val_take_of_zero (ds := prodRow xs ys) (fun j hj => prodTo_zero xs ys xs.length j hj), prod_val xs ys h]
/-! ### Numbers with a sign -/
def zok (z : Int) : Bool := decide (z.natAbs < B32 ^ 64)
def zneg (z : Int) : Bool := if z.natAbs < B32 ^ 64 then decide (z < 0) else false
def zdigs (z : Int) : List Nat := if z.natAbs < B32 ^ 64 then digs z.natAbs else []
theorem res_of (neg : Bool) (n : Nat) (z : Int) (hn : z.natAbs = n) (hz : n ≠ 0 → neg = decide (z < 0)) :
    resNeg neg (digs n) = zneg z ∧ resDs (digs n) = zdigs z ∧ resOk (digs n) = zok z := by
  have hl : (64 < (digs n).length) ↔ ¬ n < B32 ^ 64 := by rw [← digs_len]; omega
  unfold resNeg resDs resOk zneg zdigs zok
  rw [hn]
  by_cases h : n < B32 ^ 64
  · have h64 : ¬ 64 < (digs n).length := by rw [hl]; simpa using h
    rw [if_pos h, if_pos h, if_neg h64]
    refine ⟨?_, rfl, by simp [h]; exact digs_len.2 h⟩
    by_cases h0 : n = 0
    · subst h0
      have : z = 0 := by omega
      subst this
      rfl
    · rw [if_neg (by rw [digs_nil_iff]; omega)]
      exact hz h0
  · have h64 : 64 < (digs n).length := hl.2 h
    rw [if_neg h, if_neg h, if_pos h64, if_pos (Or.inr h64)]
    refine ⟨rfl, rfl, by simp [h]; exact h64⟩
end Go.Proofs.YtegjcikofmphjaaGreatDoor
/- Layer 1: Add, Sub, at numbers that are right. -/
namespace Go.Proofs.YtegjcikofmphjaaGreatDoor
open Go Go.RowKit Go.Shelf
def ZNum (B : Nat) (w : World) (v : Value) (z : Int) : Prop := NumV B w v (decide (z < 0)) (digs z.natAbs) ∧ z.natAbs < B32 ^ 64
theorem ZNum.below {B : Nat} {w w' : World} {v : Value} {z : Int} (h : ZNum B w v z) (hb : Below B w w') : ZNum B w' v z := ⟨h.1.below hb, h.2⟩
theorem ZNum.mono {B B' : Nat} {w : World} {v : Value} {z : Int} (h : ZNum B w v z) (hb : B ≤ B') : ZNum B' w v z := ⟨h.1.mono hb, h.2⟩
def ZPost (w : World) (z : Int) (e : Ending) (w' : World) : Prop := NumPost w (zneg z) (zdigs z) (zok z) e w'
theorem digs_len64 {n : Nat} (h : n < B32 ^ 64) : (digs n).length ≤ 64 := digs_len.2 h
theorem right_z {n : Nat} (neg : Bool) (h : n < B32 ^ 64) (hn : n = 0 → neg = false) : rightB neg (digs n) = true := by
  unfold rightB
  by_cases h0 : n = 0
  · subst h0; simp [digs_zero, hn rfl]
  · have hne : digs n ≠ [] := by rw [Ne, digs_nil_iff]; exact h0
    have hl : 0 < (digs n).length := List.length_pos_iff.2 hne
    rw [if_neg (by omega)]
    have := (noZero_last hl).1 (norm_digs n).2
    simp [digs_len64 h, this]
theorem signedSum_z (va vb : Value) (za zb : Int) (neg : Bool) (zz : Int) (w : World) (ha : ZNum w.heap.size w va za) (hb : ZNum w.heap.size w vb zb)
    (hz : zz.natAbs = zb.natAbs) (hs : zb ≠ 0 → neg = decide (zz < 0)) :
    Calls Tryz.prog 107 #[va, vb, .bool neg] w (ZPost w (za + zz)) := by
  obtain ⟨ha1, ha2⟩ := ha
  obtain ⟨hb1, hb2⟩ := hb
  have hx := digs_len64 ha2
  have hy := digs_len64 hb2
  by_cases hn : decide (za < 0) = neg
  · have hc := signedSum_same va vb (decide (za < 0)) _ _ _ w ha1 hb1 (digs_digits _) (digs_digits _) hx hy
    rw [strip_digs ((sum_digits (digs_digits _) (digs_digits _)).take _), sum_val _ _ hx hy, val_digs, val_digs] at hc
    subst hn
    have hr := res_of (decide (za < 0)) (za.natAbs + zb.natAbs) (za + zz) (by
        by_cases h0 : zb = 0
        · subst h0; omega
        · have := hs h0
          by_cases h1 : za < 0 <;> simp [h1] at this <;> omega) (fun h => by
        by_cases h0 : zb = 0
        · subst h0; have : zz = 0 := by omega
          subst this; simp
        · have := hs h0
          by_cases h1 : za < 0 <;> simp [h1] at this ⊢ <;> omega)
    rw [hr.1, hr.2.1, hr.2.2] at hc
    exact hc
  · have hcm : cmpL (digs za.natAbs) (digs zb.natAbs) = sgn za.natAbs zb.natAbs := by rw [cmpL_norm (norm_digs _) (norm_digs _), val_digs, val_digs]
    by_cases hlt : za.natAbs < zb.natAbs
    · have hc := signedSum_less va vb _ _ neg hn _ _ w ha1 hb1 (digs_digits _) (digs_digits _) hx hy (by rw [hcm, sgn_neg_iff]; exact hlt)
      rw [strip_digs ((dif_digits _ _).take _), dif_val (digs_digits _) (digs_digits _) (len_le_of_val (norm_digs _) (norm_digs _) (by rw [val_digs, val_digs]; omega)) hy (by rw [val_digs, val_digs]; omega), val_digs, val_digs] at hc
      have h0 : zb ≠ 0 := by omega
      have hsn := hs h0
      subst hsn
      have hr := res_of (decide (zz < 0)) (zb.natAbs - za.natAbs) (za + zz) (by
        by_cases h1 : za < 0 <;> by_cases h2 : zz < 0 <;> simp [h1, h2] at hn <;> omega) (fun h => by
        by_cases h1 : za < 0 <;> by_cases h2 : zz < 0 <;> simp [h1, h2] at hn ⊢ <;> omega)
      rw [hr.1, hr.2.1, hr.2.2] at hc
      exact hc
    · have hc := signedSum_more va vb _ _ neg hn _ _ w ha1 hb1 (digs_digits _) (digs_digits _) hx hy (by rw [hcm, sgn_neg_iff]; exact hlt)
      rw [strip_digs ((dif_digits _ _).take _), dif_val (digs_digits _) (digs_digits _) (len_le_of_val (norm_digs _) (norm_digs _) (by rw [val_digs, val_digs]; omega)) hx (by rw [val_digs, val_digs]; omega), val_digs, val_digs] at hc
      have hr := res_of (decide (za < 0)) (za.natAbs - zb.natAbs) (za + zz) (by
        by_cases h0 : zb = 0
        · subst h0; omega
        · have hsn := hs h0
          subst hsn
          by_cases h1 : za < 0 <;> by_cases h2 : zz < 0 <;> simp [h1, h2] at hn <;> omega) (fun h => by
        by_cases h0 : zb = 0
        · subst h0; have : zz = 0 := by omega
          subst this; simp
        · have hsn := hs h0
          subst hsn
          by_cases h1 : za < 0 <;> by_cases h2 : zz < 0 <;> simp [h1, h2] at hn ⊢ <;> omega)
      rw [hr.1, hr.2.1, hr.2.2] at hc
      exact hc
theorem right_calls_z (v : Value) (z : Int) (w : World) (h : ZNum w.heap.size w v z) :
    Calls Tryz.prog 65 #[v] w fun e w' => e = .returned (.bool true) ∧ Below w.heap.size w w' := by
  obtain ⟨⟨s, rfl, hu⟩, hz⟩ := h
  have := right_calls (decide (z < 0)) s _ w hu
  rwa [right_z _ hz (fun h0 => by simp; omega)] at this
end Go.Proofs.YtegjcikofmphjaaGreatDoor
/- Layer 1: Add, Sub, Mul, Cmp, at numbers that are right. -/
namespace Go.Proofs.YtegjcikofmphjaaGreatDoor
open Go Go.RowKit Go.Shelf
theorem ZNum.parts {B : Nat} {w : World} {v : Value} {z : Int} (h : ZNum B w v z) : ∃ p c, v = .agg #[.bool (decide (z < 0)), .slice p (digs z.natAbs).length c] := by
  obtain ⟨⟨s, rfl, p, c, rfl, -, -⟩, -⟩ := h
  exact ⟨p, c, rfl⟩
set_option maxRecDepth 100000 in
set_option maxHeartbeats 2000000 in
theorem add_calls (va vb : Value) (za zb : Int) (w : World) (ha : ZNum w.heap.size w va za) (hb : ZNum w.heap.size w vb zb) :
    Calls Tryz.prog 86 #[va, vb] w (ZPost w (za + zb)) := by
  obtain ⟨p, c, rfl⟩ := ha.parts
  obtain ⟨q, c2, rfl⟩ := hb.parts
  generalize hna : decide (za < 0) = na at *
  generalize hnb : decide (zb < 0) = nb at *
  generalize hn : (digs za.natAbs).length = n at *
  generalize hm : (digs zb.natAbs).length = m at *
  obtain ⟨W3, hW3⟩ : ∃ W3, W3 = ((w.alloc (.cells #[.bool na, .slice p n c] 25)).alloc (.cells #[.bool nb, .slice q m c2] 25)).alloc (.cells #[.bool false, .slice none 0 0] 25) := ⟨_, rfl⟩
  have HB3 : Hid (Below w.heap.size w W3) := by rw [hW3]; exact (((Below.refl _ w).alloc (Nat.le_refl _) _).alloc (by simp) _).alloc (by simp; omega) _
  have Hz3 : Hid (W3.heap.size = w.heap.size + 3) := by show W3.heap.size = _; rw [hW3]; simp
  have Hra : Hid (RowAt W3 w.heap.size 25 (numCells na p n c)) := by rw [hW3]; exact ((RowAt.new w _ _).alloc _).alloc _
  have Hrb : Hid (RowAt W3 (w.heap.size + 1) 25 (numCells nb q m c2)) := by rw [hW3]; exact (RowAt.new' _ _ (by simp)).alloc _
  have Hrr : Hid (RowAt W3 (w.heap.size + 1 + 1) 25 (numCells false none 0 0)) := by rw [hW3]; exact RowAt.new' _ _ (by simp)
  have HA := Lib.hid ((ha.below HB3.out).mono (by rw [Hz3.out]; omega : w.heap.size ≤ W3.heap.size))
  have HBn := Lib.hid ((hb.below HB3.out).mono (by rw [Hz3.out]; omega : w.heap.size ≤ W3.heap.size))
  have HW3 := Lib.hid hW3
  have Hnb := Lib.hid hnb
  clear hW3 ha hb hna hnb hn hm
  go_enter Tryz.func86, Tryz.ntmps86
  go_wp2_with fail
  rw [← HW3.out]
  refine (right_calls_z _ za W3 HA.out).mono ?_
  rintro e w1 ⟨rfl, hb1⟩
  have Hra1 := Lib.hid (Hra.out.below hb1 (by rw [Hz3.out]; omega))
  have Hrb1 := Lib.hid (Hrb.out.below hb1 (by rw [Hz3.out]; omega))
  have Hrr1 := Lib.hid (Hrr.out.below hb1 (by rw [Hz3.out]; omega))
  have HA1 := Lib.hid ((HA.out.below hb1).mono hb1.size)
  have HBn1 := Lib.hid ((HBn.out.below hb1).mono hb1.size)
  have HB1 := Lib.hid (HB3.out.trans (hb1.mono (by rw [Hz3.out]; omega : w.heap.size ≤ W3.heap.size)))
  have hz1 : w.heap.size + 3 ≤ w1.heap.size := by rw [← Hz3.out]; exact hb1.size
  have h10 := Hrb1.out.num0
  have h11 := Hrb1.out.num1
  clear hb1
  go_wp2_with fail
  refine (right_calls_z _ zb w1 HBn1.out).mono ?_
  rintro e w2 ⟨rfl, hb2⟩
  have Hra2 := Lib.hid (Hra1.out.below hb2 (by omega))
  have Hrb2 := Lib.hid (Hrb1.out.below hb2 (by omega))
  have Hrr2 := Lib.hid (Hrr1.out.below hb2 (by omega))
  have HA2 := Lib.hid ((HA1.out.below hb2).mono hb2.size)
  have HBn2 := Lib.hid ((HBn1.out.below hb2).mono hb2.size)
  have HB2 := Lib.hid (HB1.out.trans (hb2.mono (by omega : w.heap.size ≤ w1.heap.size)))
  have hz2 : w.heap.size + 3 ≤ w2.heap.size := Nat.le_trans hz1 hb2.size
  have h20 := Hrb2.out.num0
  have h21 := Hrb2.out.num1
  have h22 := Hra2.out.num0
  have h23 := Hra2.out.num1
  clear hb2 h10 h11 hz1
  go_wp2_with fail
  refine (signedSum_z _ _ za zb nb zb w2 HA2.out HBn2.out rfl (fun _ => Hnb.out.symm)).mono ?_
  rintro e w3 ⟨s3, rfl, hu3, hb3⟩
  have hU3 := hu3
  obtain ⟨p3, c3, rfl, -, -⟩ := hU3
  have HR3 := Lib.hid (Hrr2.out.below hb3 (by omega))
  have Hfin := Lib.hid (finNum (g := w.heap.size + 1 + 1) HB2.out (by omega) (by omega) hu3 hb3 (turned_setRow w3 _ (numCells (zneg (za + zb)) p3 (zdigs (za + zb)).length c3)))
  clear hu3 hb3
  go_wp2_with (refine store_num rfl (.tmp 4) (.tmp 20) rfl (w.heap.size + 1 + 1) rfl _ _ _ _ rfl _ _ HR3.out rfl ?_)
  exact ret_num rfl (w.heap.size + 1 + 1) rfl _ rfl _ _ _ _ _ (HR3.out.setRow _) ⟨_, rfl, Hfin.out.1, Hfin.out.2⟩
set_option maxRecDepth 100000 in
set_option maxHeartbeats 2000000 in
theorem sub_calls (va vb : Value) (za zb : Int) (w : World) (ha : ZNum w.heap.size w va za) (hb : ZNum w.heap.size w vb zb) :
    Calls Tryz.prog 85 #[va, vb] w (ZPost w (za + -zb)) := by
  obtain ⟨p, c, rfl⟩ := ha.parts
  obtain ⟨q, c2, rfl⟩ := hb.parts
  generalize hna : decide (za < 0) = na at *
  generalize hnb : decide (zb < 0) = nb at *
  generalize hn : (digs za.natAbs).length = n at *
  generalize hm : (digs zb.natAbs).length = m at *
  obtain ⟨W3, hW3⟩ : ∃ W3, W3 = ((w.alloc (.cells #[.bool na, .slice p n c] 25)).alloc (.cells #[.bool nb, .slice q m c2] 25)).alloc (.cells #[.bool false, .slice none 0 0] 25) := ⟨_, rfl⟩
  have HB3 : Hid (Below w.heap.size w W3) := by rw [hW3]; exact (((Below.refl _ w).alloc (Nat.le_refl _) _).alloc (by simp) _).alloc (by simp; omega) _
  have Hz3 : Hid (W3.heap.size = w.heap.size + 3) := by show W3.heap.size = _; rw [hW3]; simp
  have Hra : Hid (RowAt W3 w.heap.size 25 (numCells na p n c)) := by rw [hW3]; exact ((RowAt.new w _ _).alloc _).alloc _
  have Hrb : Hid (RowAt W3 (w.heap.size + 1) 25 (numCells nb q m c2)) := by rw [hW3]; exact (RowAt.new' _ _ (by simp)).alloc _
  have Hrr : Hid (RowAt W3 (w.heap.size + 1 + 1) 25 (numCells false none 0 0)) := by rw [hW3]; exact RowAt.new' _ _ (by simp)
  have HA := Lib.hid ((ha.below HB3.out).mono (by rw [Hz3.out]; omega : w.heap.size ≤ W3.heap.size))
  have HBn := Lib.hid ((hb.below HB3.out).mono (by rw [Hz3.out]; omega : w.heap.size ≤ W3.heap.size))
  have HW3 := Lib.hid hW3
  have Hnb := Lib.hid hnb
  clear hW3 ha hb hna hnb hn hm
  go_enter Tryz.func85, Tryz.ntmps85
  go_wp2_with fail
  rw [← HW3.out]
  refine (right_calls_z _ za W3 HA.out).mono ?_
  rintro e w1 ⟨rfl, hb1⟩
  have Hra1 := Lib.hid (Hra.out.below hb1 (by rw [Hz3.out]; omega))
  have Hrb1 := Lib.hid (Hrb.out.below hb1 (by rw [Hz3.out]; omega))
  have Hrr1 := Lib.hid (Hrr.out.below hb1 (by rw [Hz3.out]; omega))
  have HA1 := Lib.hid ((HA.out.below hb1).mono hb1.size)
  have HBn1 := Lib.hid ((HBn.out.below hb1).mono hb1.size)
  have HB1 := Lib.hid (HB3.out.trans (hb1.mono (by rw [Hz3.out]; omega : w.heap.size ≤ W3.heap.size)))
  have hz1 : w.heap.size + 3 ≤ w1.heap.size := by rw [← Hz3.out]; exact hb1.size
  have h10 := Hrb1.out.num0
  have h11 := Hrb1.out.num1
  clear hb1
  go_wp2_with fail
  refine (right_calls_z _ zb w1 HBn1.out).mono ?_
  rintro e w2 ⟨rfl, hb2⟩
  have Hra2 := Lib.hid (Hra1.out.below hb2 (by omega))
  have Hrb2 := Lib.hid (Hrb1.out.below hb2 (by omega))
  have Hrr2 := Lib.hid (Hrr1.out.below hb2 (by omega))
  have HA2 := Lib.hid ((HA1.out.below hb2).mono hb2.size)
  have HBn2 := Lib.hid ((HBn1.out.below hb2).mono hb2.size)
  have HB2 := Lib.hid (HB1.out.trans (hb2.mono (by omega : w.heap.size ≤ w1.heap.size)))
  have hz2 : w.heap.size + 3 ≤ w2.heap.size := Nat.le_trans hz1 hb2.size
  have h20 := Hrb2.out.num0
  have h21 := Hrb2.out.num1
  have h22 := Hra2.out.num0
  have h23 := Hra2.out.num1
  clear hb2 h10 h11 hz1
  go_wp2_with fail
  refine (signedSum_z _ _ za zb (!nb) (-zb) w2 HA2.out HBn2.out (by omega) (fun h => by rw [← Hnb.out]; by_cases h1 : zb < 0 <;> simp [h1] <;> omega)).mono ?_
  rintro e w3 ⟨s3, rfl, hu3, hb3⟩
  have hU3 := hu3
  obtain ⟨p3, c3, rfl, -, -⟩ := hU3
  have HR3 := Lib.hid (Hrr2.out.below hb3 (by omega))
  have Hfin := Lib.hid (finNum (g := w.heap.size + 1 + 1) HB2.out (by omega) (by omega) hu3 hb3 (turned_setRow w3 _ (numCells (zneg (za + (-zb))) p3 (zdigs (za + (-zb))).length c3)))
  clear hu3 hb3
  go_wp2_with (refine store_num rfl (.tmp 4) (.tmp 21) rfl (w.heap.size + 1 + 1) rfl _ _ _ _ rfl _ _ HR3.out rfl ?_)
  exact ret_num rfl (w.heap.size + 1 + 1) rfl _ rfl _ _ _ _ _ (HR3.out.setRow _) ⟨_, rfl, Hfin.out.1, Hfin.out.2⟩
end Go.Proofs.YtegjcikofmphjaaGreatDoor
/- Layer 1: Mul at numbers that are right. -/
namespace Go.Proofs.YtegjcikofmphjaaGreatDoor
open Go Go.RowKit Go.Shelf
theorem mul_natAbs_lt {za zb : Int} (ha : za.natAbs < B32 ^ 64) (hb : zb.natAbs < B32 ^ 64) (h : 65 < (digs za.natAbs).length + (digs zb.natAbs).length) : ¬ (za * zb).natAbs < B32 ^ 64 := by
  have h1 := digs_len64 ha
  have h2 := digs_len64 hb
  have ga := val_ge_of_noZero (norm_digs za.natAbs).2 (by intro e; rw [e] at h; simp at h; omega)
  have gb := val_ge_of_noZero (norm_digs zb.natAbs).2 (by intro e; rw [e] at h; simp at h; omega)
  rw [val_digs] at ga gb
  rw [Int.natAbs_mul]
  have hm := Nat.mul_le_mul ga gb
  rw [← Nat.pow_add] at hm
  have hp := Nat.pow_le_pow_right B32_pos (show 64 ≤ (digs za.natAbs).length - 1 + ((digs zb.natAbs).length - 1) by omega)
  omega
theorem zneg_big {z : Int} (h : ¬ z.natAbs < B32 ^ 64) : zneg z = false ∧ zdigs z = [] ∧ zok z = false := by
  unfold zneg zdigs zok; rw [if_neg h, if_neg h]; exact ⟨rfl, rfl, by simp [h]⟩
set_option maxRecDepth 100000 in
set_option maxHeartbeats 2000000 in
theorem mul_calls (va vb : Value) (za zb : Int) (w : World) (ha : ZNum w.heap.size w va za) (hb : ZNum w.heap.size w vb zb) :
    Calls Tryz.prog 106 #[va, vb] w (ZPost w (za * zb)) := by
  obtain ⟨p, c, rfl⟩ := ha.parts
  obtain ⟨q, c2, rfl⟩ := hb.parts
  generalize hna : decide (za < 0) = na at *
  generalize hnb : decide (zb < 0) = nb at *
  generalize hn : (digs za.natAbs).length = n at *
  generalize hm : (digs zb.natAbs).length = m at *
  have Hcase : Hid ((65 < n + m → zneg (za * zb) = false ∧ zdigs (za * zb) = [] ∧ zok (za * zb) = false) ∧ n ≤ 64 ∧ m ≤ 64) := by
    rw [← hn, ← hm]
    exact ⟨fun h => zneg_big (mul_natAbs_lt ha.2 hb.2 h), digs_len64 ha.2, digs_len64 hb.2⟩
  obtain ⟨hn64, hm64⟩ := Hcase.out.2
  have Hn := Lib.hid hn
  have Hm := Lib.hid hm
  have Hna := Lib.hid hna
  obtain ⟨W3, hW3⟩ : ∃ W3, W3 = ((w.alloc (.cells #[.bool na, .slice p n c] 25)).alloc (.cells #[.bool nb, .slice q m c2] 25)).alloc (.cells #[.bool false, .slice none 0 0] 25) := ⟨_, rfl⟩
  have HB3 : Hid (Below w.heap.size w W3) := by rw [hW3]; exact (((Below.refl _ w).alloc (Nat.le_refl _) _).alloc (by simp) _).alloc (by simp; omega) _
  have Hz3 : Hid (W3.heap.size = w.heap.size + 3) := by show W3.heap.size = _; rw [hW3]; simp
  have Hra : Hid (RowAt W3 w.heap.size 25 (numCells na p n c)) := by rw [hW3]; exact ((RowAt.new w _ _).alloc _).alloc _
  have Hrb : Hid (RowAt W3 (w.heap.size + 1) 25 (numCells nb q m c2)) := by rw [hW3]; exact (RowAt.new' _ _ (by simp)).alloc _
  have Hrr : Hid (RowAt W3 (w.heap.size + 1 + 1) 25 (numCells false none 0 0)) := by rw [hW3]; exact RowAt.new' _ _ (by simp)
  have HA := Lib.hid ((ha.below HB3.out).mono (by rw [Hz3.out]; omega : w.heap.size ≤ W3.heap.size))
  have HBn := Lib.hid ((hb.below HB3.out).mono (by rw [Hz3.out]; omega : w.heap.size ≤ W3.heap.size))
  have HW3 := Lib.hid hW3
  have Hnb := Lib.hid hnb
  clear hW3 ha hb hna hnb hn hm
  go_enter Tryz.func106, Tryz.ntmps106
  go_wp2_with fail
  rw [← HW3.out]
  refine (right_calls_z _ za W3 HA.out).mono ?_
  rintro e w1 ⟨rfl, hb1⟩
  have Hra1 := Lib.hid (Hra.out.below hb1 (by rw [Hz3.out]; omega))
  have Hrb1 := Lib.hid (Hrb.out.below hb1 (by rw [Hz3.out]; omega))
  have Hrr1 := Lib.hid (Hrr.out.below hb1 (by rw [Hz3.out]; omega))
  have HA1 := Lib.hid ((HA.out.below hb1).mono hb1.size)
  have HBn1 := Lib.hid ((HBn.out.below hb1).mono hb1.size)
  have HB1 := Lib.hid (HB3.out.trans (hb1.mono (by rw [Hz3.out]; omega : w.heap.size ≤ W3.heap.size)))
  have hz1 : w.heap.size + 3 ≤ w1.heap.size := by rw [← Hz3.out]; exact hb1.size
  have h10 := Hrb1.out.num0
  have h11 := Hrb1.out.num1
  clear hb1
  go_wp2_with fail
  refine (right_calls_z _ zb w1 HBn1.out).mono ?_
  rintro e w2 ⟨rfl, hb2⟩
  have Hra2 := Lib.hid (Hra1.out.below hb2 (by omega))
  have Hrb2 := Lib.hid (Hrb1.out.below hb2 (by omega))
  have Hrr2 := Lib.hid (Hrr1.out.below hb2 (by omega))
  have HA2 := Lib.hid ((HA1.out.below hb2).mono hb2.size)
  have HBn2 := Lib.hid ((HBn1.out.below hb2).mono hb2.size)
  have HB2 := Lib.hid (HB1.out.trans (hb2.mono (by omega : w.heap.size ≤ w1.heap.size)))
  have hz2 : w.heap.size + 3 ≤ w2.heap.size := Nat.le_trans hz1 hb2.size
  have h20 := Hrb2.out.num0
  have h21 := Hrb2.out.num1
  have h22 := Hra2.out.num0
  have h23 := Hra2.out.num1
  clear hb2 h10 h11 hz1
  by_cases hbig : 65 < n + m
  · obtain ⟨e1, e2, e3⟩ := Hcase.out.1 hbig
    have HE := Lib.hid (And.intro e1 (And.intro e2 e3))
    have hbigI : (65 : Int) < (n : Int) + (m : Int) := by omega
    have Hfin := Lib.hid ((Below.trans HB2.out (below_setRow2 (Below.refl _ w2) (by omega : w.heap.size ≤ w.heap.size + 1 + 1) (numCells false none 0 0))))
    clear e1 e2 e3 hbig
    go_wp2_with (refine store_num rfl (.tmp 4) (.tmp 24) rfl (w.heap.size + 1 + 1) rfl false none 0 0 rfl _ _ Hrr2.out rfl ?_)
    exact ret_num rfl (w.heap.size + 1 + 1) rfl _ rfl _ _ _ _ _ (Hrr2.out.setRow _) ⟨_, by rw [HE.out.1, HE.out.2.2], by rw [HE.out.2.1]; exact u32n_nil _ _ _, Hfin.out⟩
  · have hsmall : ¬ (65 : Int) < (n : Int) + (m : Int) := by omega
    have hnm : n + m ≤ 65 := by omega
    have hua2 : U32s w2.heap.size w2 (.slice p n c) (digs za.natAbs) := by
      obtain ⟨⟨s, e, hu⟩, -⟩ := HA2.out; cases e; exact hu
    have hub2 : U32s w2.heap.size w2 (.slice q m c2) (digs zb.natAbs) := by
      obtain ⟨⟨s, e, hu⟩, -⟩ := HBn2.out; cases e; exact hu
    have Hprod := Lib.hid (product_calls _ _ _ _ w2 hua2 hub2 (digs_digits _) (digs_digits _) (by rw [Hn.out, Hm.out]; exact hnm))
    have Hsl := Lib.hid (prodRow_length (digs za.natAbs) (digs zb.natAbs))
    have Hres : Hid (strip ((prodRow (digs za.natAbs) (digs zb.natAbs)).take (n + m)) = digs (za.natAbs * zb.natAbs)) := by
      show _ = _
      rw [strip_digs ((prod_digits (digs_digits _) (digs_digits _)).take _), ← Hn.out, ← Hm.out, prod_take _ _ (by rw [Hn.out, Hm.out]; exact hnm), val_digs, val_digs]
    have hrs := res_of (na != nb) (za.natAbs * zb.natAbs) (za * zb) (Int.natAbs_mul _ _) (fun h => by
      rw [← Hna.out, ← Hnb.out]
      have h1 : za ≠ 0 := by intro e; subst e; simp at h
      have h2 : zb ≠ 0 := by intro e; subst e; simp at h
      by_cases h3 : za < 0 <;> by_cases h4 : zb < 0 <;> simp only [h3, h4, decide_true, decide_false, bne_self_eq_false, Bool.true_bne, Bool.false_bne, Bool.not_false]
      · have := Int.mul_pos_of_neg_of_neg h3 h4; simp; omega
      · have := Int.mul_neg_of_neg_of_pos h3 (by omega : 0 < zb); simp; omega
      · have := Int.mul_neg_of_pos_of_neg (by omega : 0 < za) h4; simp; omega
      · have := Int.mul_pos (by omega : 0 < za) (by omega : 0 < zb); simp; omega)
    have Hrs := Lib.hid hrs
    generalize prodRow (digs za.natAbs) (digs zb.natAbs) = row at *
    clear hua2 hub2 hbig hrs
    go_wp2_with fail
    refine Hprod.out.mono ?_
    rintro e w3 ⟨rfl, hb3⟩
    have hz3 : w.heap.size + 3 ≤ w3.heap.size := Nat.le_trans hz2 hb3.size
    obtain ⟨W4, hW4⟩ : ∃ W4, W4 = (w3.alloc (.cells Tryz.zeroCells89 89)).setRow w3.heap.size (arr row) := ⟨_, rfl⟩
    have Hz4 : Hid (W4.heap.size = w3.heap.size + 1) := by show W4.heap.size = _; rw [hW4]; simp
    have HB4 : Hid (Below w.heap.size w W4) := by rw [hW4]; exact below_setRow2 ((HB2.out.trans (hb3.mono (by omega))).alloc (by omega) _) (by omega) _
    have Hr4 : Hid (RowAt W4 w3.heap.size 89 (arr row)) := by rw [hW4]; exact (RowAt.new w3 _ _).setRow _
    have hra4 : RowAt W4 w.heap.size 25 (numCells na p n c) := by rw [hW4]; exact ((Hra2.out.below hb3 (by omega)).alloc _).setRowOther _ (by omega)
    have hrb4 : RowAt W4 (w.heap.size + 1) 25 (numCells nb q m c2) := by rw [hW4]; exact ((Hrb2.out.below hb3 (by omega)).alloc _).setRowOther _ (by omega)
    have Hrr4 : Hid (RowAt W4 (w.heap.size + 1 + 1) 25 (numCells false none 0 0)) := by rw [hW4]; exact ((Hrr2.out.below hb3 (by omega)).alloc _).setRowOther _ (by omega)
    have h40 := hra4.num0
    have h41 := hra4.num1
    have h42 := hrb4.num0
    have h43 := hrb4.num1
    have Hnew := Lib.hid (RowAt.new w3 89 Tryz.zeroCells89)
    have HW4 := Lib.hid hW4
    have hnum := number_calls (na != nb) _ _ W4.drew (u32s_row (B := W4.drew.heap.size) (w := W4.drew) (cap := 65) (L := n + m) Hr4.out (by show _ < W4.heap.size; rw [Hz4.out]; omega) (by rw [Hsl.out]; omega) (by rw [Hsl.out]; decide))
    rw [Hres.out, Hrs.out.1, Hrs.out.2.1, Hrs.out.2.2] at hnum
    have Hnum := Lib.hid hnum
    have hw5 : (n : Int) + (m : Int) ≤ 65 := by omega
    have hw6 : IntKind.i64.wrap ((n : Int) + (m : Int)) = (n : Int) + (m : Int) := by rw [IntKind.wrap_i64]; omega
    have hw7 : (0 : Int) ≤ (n : Int) + (m : Int) := by omega
    have hw8 : ((n : Int) + (m : Int)).toNat = n + m := by omega
    clear hW4 hra4 hrb4 hb3 hnum h20 h21 h22 h23
    go_wp2_with (refine store_row rfl (.tmp 6) (.tmp 29) rfl w3.heap.size rfl row Hsl.out rfl 89 Tryz.zeroCells89 Hnew.out (by kernel_rfl) ?_; rw [← HW4.out])
    go_region_held3 (fun W => W.cell? ⟨w.heap.size, 0, none⟩ = some (.bool na) ∧ W.cell? ⟨w.heap.size, 1, none⟩ = some (.slice p n c) ∧ W.cell? ⟨w.heap.size + 1, 0, none⟩ = some (.bool nb) ∧ W.cell? ⟨w.heap.size + 1, 1, none⟩ = some (.slice q m c2)) (first | exact ⟨by assumption, by assumption, by assumption, by assumption⟩ | exact ⟨cell_set2 _ _ _ _ _ _ _ _ (by assumption) (by show w.heap.size ≠ _; omega), cell_set2 _ _ _ _ _ _ _ _ (by assumption) (by show w.heap.size ≠ _; omega), cell_set2 _ _ _ _ _ _ _ _ (by assumption) (by show w.heap.size + 1 ≠ _; omega), cell_set2 _ _ _ _ _ _ _ _ (by assumption) (by show w.heap.size + 1 ≠ _; omega)⟩)
      (first | (go_at_call 67; refine Hnum.out.mono ?_; rintro e w5 ⟨s5, rfl, hu5, hb5⟩; have hU5 := hu5; obtain ⟨p5, c5, rfl, -, -⟩ := hU5; have hr5 := (RowAt.drew Hrr4.out).below hb5 (by show _ < W4.heap.size; rw [Hz4.out]; omega); have hr50 := hr5.num0; have hr51 := hr5.num1; have hf50 := hr5.frozen 0; have hf51 := hr5.frozen 1; have HR5 := Lib.hid hr5; have HU5 := Lib.hid hu5; have HB5 := Lib.hid hb5; have hk1 : w5.cell? ⟨w.heap.size, 0, none⟩ = some (.bool na) := (hb5.cell (p := ⟨w.heap.size, 0, none⟩) (by show _ < W4.heap.size; rw [Hz4.out]; show w.heap.size < _; omega)).trans h40; have hk2 : w5.cell? ⟨w.heap.size, 1, none⟩ = some (.slice p n c) := (hb5.cell (p := ⟨w.heap.size, 1, none⟩) (by show _ < W4.heap.size; rw [Hz4.out]; show w.heap.size < _; omega)).trans h41; have hk3 : w5.cell? ⟨w.heap.size + 1, 0, none⟩ = some (.bool nb) := (hb5.cell (p := ⟨w.heap.size + 1, 0, none⟩) (by show _ < W4.heap.size; rw [Hz4.out]; show w.heap.size + 1 < _; omega)).trans h42; have hk4 : w5.cell? ⟨w.heap.size + 1, 1, none⟩ = some (.slice q m c2) := (hb5.cell (p := ⟨w.heap.size + 1, 1, none⟩) (by show _ < W4.heap.size; rw [Hz4.out]; show w.heap.size + 1 < _; omega)).trans h43; clear hr5 hu5 hb5))
    go_wp2
    have hfin := finNum (g := w.heap.size + 1 + 1) (Below.drew HB4.out) (by omega) (by show _ < W4.heap.size; rw [Hz4.out]; omega) HU5.out HB5.out (turned_set2 w5 _ (.bool (zneg (za * zb))) (.slice p5 (zdigs (za * zb)).length c5))
    exact ret_num rfl (w.heap.size + 1 + 1) rfl _ rfl _ _ _ _ _ (numCells_set HR5.out rfl _ _ _ _) ⟨_, rfl, hfin.1, hfin.2⟩
end Go.Proofs.YtegjcikofmphjaaGreatDoor
/- Layer 1: Cmp, Int, Of. -/
namespace Go.Proofs.YtegjcikofmphjaaGreatDoor
open Go Go.RowKit Go.Shelf
def zcmp (a b : Int) : Int := if a < b then -1 else if b < a then 1 else 0
theorem zcmp_of {a b : Int} (ha : a.natAbs < B32 ^ 64) (hb : b.natAbs < B32 ^ 64) :
    (a < 0 → b < 0 → cmpL (digs b.natAbs) (digs a.natAbs) = zcmp a b) ∧ (a < 0 → ¬ b < 0 → zcmp a b = -1) ∧ (¬ a < 0 → b < 0 → zcmp a b = 1) ∧ (¬ a < 0 → ¬ b < 0 → cmpL (digs a.natAbs) (digs b.natAbs) = zcmp a b) := by
  rw [cmpL_norm (norm_digs _) (norm_digs _), cmpL_norm (norm_digs _) (norm_digs _), val_digs, val_digs]
  unfold zcmp sgn
  refine ⟨fun h1 h2 => ?_, fun h1 h2 => ?_, fun h1 h2 => ?_, fun h1 h2 => ?_⟩ <;> (repeat' split) <;> omega
theorem znum_slice {B : Nat} {w : World} {b : Bool} {s : Value} {z : Int} (h : ZNum B w (.agg #[.bool b, s]) z) : U32s B w s (digs z.natAbs) := by
  obtain ⟨⟨s', e, hu⟩, -⟩ := h
  cases e
  exact hu
set_option maxRecDepth 100000 in
set_option maxHeartbeats 2000000 in
theorem cmp_nn (va vb : Value) (za zb : Int) (w : World) (ha : ZNum w.heap.size w va za) (hb : ZNum w.heap.size w vb zb) (hca : za < 0) (hcb : zb < 0) :
    Calls Tryz.prog 69 #[va, vb] w fun e w' => e = .returned (.int .i64 (zcmp za zb)) ∧ Below w.heap.size w w' := by
  have hz := zcmp_of ha.2 hb.2
  obtain ⟨p, c, rfl⟩ := ha.parts
  obtain ⟨q, c2, rfl⟩ := hb.parts
  rw [show decide (za < 0) = true by simp; omega] at *
  rw [show decide (zb < 0) = true by simp; omega] at *
  have hz := hz.1 hca hcb
  have Hz := Lib.hid hz
  clear hz hca hcb
  obtain ⟨W3, hW3⟩ : ∃ W3, W3 = (w.alloc (.cells #[.bool true, .slice p (digs za.natAbs).length c] 25)).alloc (.cells #[.bool true, .slice q (digs zb.natAbs).length c2] 25) := ⟨_, rfl⟩
  have HB3 : Hid (Below w.heap.size w W3) := by rw [hW3]; exact ((Below.refl _ w).alloc (Nat.le_refl _) _).alloc (by simp) _
  have Hz3 : Hid (W3.heap.size = w.heap.size + 2) := by show W3.heap.size = _; rw [hW3]; simp
  have Hra : Hid (RowAt W3 w.heap.size 25 (numCells true p (digs za.natAbs).length c)) := by rw [hW3]; exact (RowAt.new w _ _).alloc _
  have Hrb : Hid (RowAt W3 (w.heap.size + 1) 25 (numCells true q (digs zb.natAbs).length c2)) := by rw [hW3]; exact RowAt.new' _ _ (by simp)
  have HA := Lib.hid ((ha.below HB3.out).mono (by rw [Hz3.out]; omega : w.heap.size ≤ W3.heap.size))
  have HBn := Lib.hid ((hb.below HB3.out).mono (by rw [Hz3.out]; omega : w.heap.size ≤ W3.heap.size))
  have HW3 := Lib.hid hW3
  generalize (digs za.natAbs).length = n at *
  generalize (digs zb.natAbs).length = m at *
  clear hW3 ha hb
  go_enter Tryz.func69, Tryz.ntmps69
  go_wp2_with fail
  rw [← HW3.out]
  refine (right_calls_z _ za W3 HA.out).mono ?_
  rintro e w1 ⟨rfl, hb1⟩
  have Hra1 := Lib.hid (Hra.out.below hb1 (by rw [Hz3.out]; omega))
  have Hrb1 := Lib.hid (Hrb.out.below hb1 (by rw [Hz3.out]; omega))
  have HA1 := Lib.hid ((HA.out.below hb1).mono hb1.size)
  have HBn1 := Lib.hid ((HBn.out.below hb1).mono hb1.size)
  have HB1 := Lib.hid (HB3.out.trans (hb1.mono (by rw [Hz3.out]; omega : w.heap.size ≤ W3.heap.size)))
  have hz1 : w.heap.size + 2 ≤ w1.heap.size := by rw [← Hz3.out]; exact hb1.size
  have h10 := Hrb1.out.num0
  have h11 := Hrb1.out.num1
  clear hb1
  go_wp2_with fail
  refine (right_calls_z _ zb w1 HBn1.out).mono ?_
  rintro e w2 ⟨rfl, hb2⟩
  have Hra2 := Lib.hid (Hra1.out.below hb2 (by omega))
  have Hrb2 := Lib.hid (Hrb1.out.below hb2 (by omega))
  have HA2 := Lib.hid ((HA1.out.below hb2).mono hb2.size)
  have HBn2 := Lib.hid ((HBn1.out.below hb2).mono hb2.size)
  have HB2 := Lib.hid (HB1.out.trans (hb2.mono (by omega : w.heap.size ≤ w1.heap.size)))
  have hz2 : w.heap.size + 2 ≤ w2.heap.size := Nat.le_trans hz1 hb2.size
  have h20 := Hrb2.out.num0
  have h21 := Hrb2.out.num1
  have h22 := Hra2.out.num0
  have h23 := Hra2.out.num1
  clear hb2 h10 h11 hz1
  have hcall := order_calls _ _ (digs zb.natAbs) (digs za.natAbs) w2 (znum_slice HBn2.out) (znum_slice HA2.out) (digs_digits _) (digs_digits _)
  rw [Hz.out] at hcall
  have Hcall := Lib.hid hcall
  clear hcall
  go_wp2_with fail
  refine Hcall.out.mono ?_
  rintro e w3 ⟨rfl, hb3⟩
  go_wp2
  go_ret
  exact ⟨rfl, HB2.out.trans (hb3.mono (by omega))⟩
set_option maxRecDepth 100000 in
set_option maxHeartbeats 2000000 in
theorem cmp_np (va vb : Value) (za zb : Int) (w : World) (ha : ZNum w.heap.size w va za) (hb : ZNum w.heap.size w vb zb) (hca : za < 0) (hcb : ¬ zb < 0) :
    Calls Tryz.prog 69 #[va, vb] w fun e w' => e = .returned (.int .i64 (zcmp za zb)) ∧ Below w.heap.size w w' := by
  have hz := zcmp_of ha.2 hb.2
  obtain ⟨p, c, rfl⟩ := ha.parts
  obtain ⟨q, c2, rfl⟩ := hb.parts
  rw [show decide (za < 0) = true by simp; omega] at *
  rw [show decide (zb < 0) = false by simp; omega] at *
  have hz := hz.2.1 hca hcb
  have Hz := Lib.hid hz
  clear hz hca hcb
  obtain ⟨W3, hW3⟩ : ∃ W3, W3 = (w.alloc (.cells #[.bool true, .slice p (digs za.natAbs).length c] 25)).alloc (.cells #[.bool false, .slice q (digs zb.natAbs).length c2] 25) := ⟨_, rfl⟩
  have HB3 : Hid (Below w.heap.size w W3) := by rw [hW3]; exact ((Below.refl _ w).alloc (Nat.le_refl _) _).alloc (by simp) _
  have Hz3 : Hid (W3.heap.size = w.heap.size + 2) := by show W3.heap.size = _; rw [hW3]; simp
  have Hra : Hid (RowAt W3 w.heap.size 25 (numCells true p (digs za.natAbs).length c)) := by rw [hW3]; exact (RowAt.new w _ _).alloc _
  have Hrb : Hid (RowAt W3 (w.heap.size + 1) 25 (numCells false q (digs zb.natAbs).length c2)) := by rw [hW3]; exact RowAt.new' _ _ (by simp)
  have HA := Lib.hid ((ha.below HB3.out).mono (by rw [Hz3.out]; omega : w.heap.size ≤ W3.heap.size))
  have HBn := Lib.hid ((hb.below HB3.out).mono (by rw [Hz3.out]; omega : w.heap.size ≤ W3.heap.size))
  have HW3 := Lib.hid hW3
  generalize (digs za.natAbs).length = n at *
  generalize (digs zb.natAbs).length = m at *
  clear hW3 ha hb
  go_enter Tryz.func69, Tryz.ntmps69
  go_wp2_with fail
  rw [← HW3.out]
  refine (right_calls_z _ za W3 HA.out).mono ?_
  rintro e w1 ⟨rfl, hb1⟩
  have Hra1 := Lib.hid (Hra.out.below hb1 (by rw [Hz3.out]; omega))
  have Hrb1 := Lib.hid (Hrb.out.below hb1 (by rw [Hz3.out]; omega))
  have HA1 := Lib.hid ((HA.out.below hb1).mono hb1.size)
  have HBn1 := Lib.hid ((HBn.out.below hb1).mono hb1.size)
  have HB1 := Lib.hid (HB3.out.trans (hb1.mono (by rw [Hz3.out]; omega : w.heap.size ≤ W3.heap.size)))
  have hz1 : w.heap.size + 2 ≤ w1.heap.size := by rw [← Hz3.out]; exact hb1.size
  have h10 := Hrb1.out.num0
  have h11 := Hrb1.out.num1
  clear hb1
  go_wp2_with fail
  refine (right_calls_z _ zb w1 HBn1.out).mono ?_
  rintro e w2 ⟨rfl, hb2⟩
  have Hra2 := Lib.hid (Hra1.out.below hb2 (by omega))
  have Hrb2 := Lib.hid (Hrb1.out.below hb2 (by omega))
  have HA2 := Lib.hid ((HA1.out.below hb2).mono hb2.size)
  have HBn2 := Lib.hid ((HBn1.out.below hb2).mono hb2.size)
  have HB2 := Lib.hid (HB1.out.trans (hb2.mono (by omega : w.heap.size ≤ w1.heap.size)))
  have hz2 : w.heap.size + 2 ≤ w2.heap.size := Nat.le_trans hz1 hb2.size
  have h20 := Hrb2.out.num0
  have h21 := Hrb2.out.num1
  have h22 := Hra2.out.num0
  have h23 := Hra2.out.num1
  clear hb2 h10 h11 hz1
  go_wp2
  go_ret
  exact ⟨by rw [Hz.out]; rfl, HB2.out⟩
set_option maxRecDepth 100000 in
set_option maxHeartbeats 2000000 in
theorem cmp_pn (va vb : Value) (za zb : Int) (w : World) (ha : ZNum w.heap.size w va za) (hb : ZNum w.heap.size w vb zb) (hca : ¬ za < 0) (hcb : zb < 0) :
    Calls Tryz.prog 69 #[va, vb] w fun e w' => e = .returned (.int .i64 (zcmp za zb)) ∧ Below w.heap.size w w' := by
  have hz := zcmp_of ha.2 hb.2
  obtain ⟨p, c, rfl⟩ := ha.parts
  obtain ⟨q, c2, rfl⟩ := hb.parts
  rw [show decide (za < 0) = false by simp; omega] at *
  rw [show decide (zb < 0) = true by simp; omega] at *
  have hz := hz.2.2.1 hca hcb
  have Hz := Lib.hid hz
  clear hz hca hcb
  obtain ⟨W3, hW3⟩ : ∃ W3, W3 = (w.alloc (.cells #[.bool false, .slice p (digs za.natAbs).length c] 25)).alloc (.cells #[.bool true, .slice q (digs zb.natAbs).length c2] 25) := ⟨_, rfl⟩
  have HB3 : Hid (Below w.heap.size w W3) := by rw [hW3]; exact ((Below.refl _ w).alloc (Nat.le_refl _) _).alloc (by simp) _
  have Hz3 : Hid (W3.heap.size = w.heap.size + 2) := by show W3.heap.size = _; rw [hW3]; simp
  have Hra : Hid (RowAt W3 w.heap.size 25 (numCells false p (digs za.natAbs).length c)) := by rw [hW3]; exact (RowAt.new w _ _).alloc _
  have Hrb : Hid (RowAt W3 (w.heap.size + 1) 25 (numCells true q (digs zb.natAbs).length c2)) := by rw [hW3]; exact RowAt.new' _ _ (by simp)
  have HA := Lib.hid ((ha.below HB3.out).mono (by rw [Hz3.out]; omega : w.heap.size ≤ W3.heap.size))
  have HBn := Lib.hid ((hb.below HB3.out).mono (by rw [Hz3.out]; omega : w.heap.size ≤ W3.heap.size))
  have HW3 := Lib.hid hW3
  generalize (digs za.natAbs).length = n at *
  generalize (digs zb.natAbs).length = m at *
  clear hW3 ha hb
  go_enter Tryz.func69, Tryz.ntmps69
  go_wp2_with fail
  rw [← HW3.out]
  refine (right_calls_z _ za W3 HA.out).mono ?_
  rintro e w1 ⟨rfl, hb1⟩
  have Hra1 := Lib.hid (Hra.out.below hb1 (by rw [Hz3.out]; omega))
  have Hrb1 := Lib.hid (Hrb.out.below hb1 (by rw [Hz3.out]; omega))
  have HA1 := Lib.hid ((HA.out.below hb1).mono hb1.size)
  have HBn1 := Lib.hid ((HBn.out.below hb1).mono hb1.size)
  have HB1 := Lib.hid (HB3.out.trans (hb1.mono (by rw [Hz3.out]; omega : w.heap.size ≤ W3.heap.size)))
  have hz1 : w.heap.size + 2 ≤ w1.heap.size := by rw [← Hz3.out]; exact hb1.size
  have h10 := Hrb1.out.num0
  have h11 := Hrb1.out.num1
  clear hb1
  go_wp2_with fail
  refine (right_calls_z _ zb w1 HBn1.out).mono ?_
  rintro e w2 ⟨rfl, hb2⟩
  have Hra2 := Lib.hid (Hra1.out.below hb2 (by omega))
  have Hrb2 := Lib.hid (Hrb1.out.below hb2 (by omega))
  have HA2 := Lib.hid ((HA1.out.below hb2).mono hb2.size)
  have HBn2 := Lib.hid ((HBn1.out.below hb2).mono hb2.size)
  have HB2 := Lib.hid (HB1.out.trans (hb2.mono (by omega : w.heap.size ≤ w1.heap.size)))
  have hz2 : w.heap.size + 2 ≤ w2.heap.size := Nat.le_trans hz1 hb2.size
  have h20 := Hrb2.out.num0
  have h21 := Hrb2.out.num1
  have h22 := Hra2.out.num0
  have h23 := Hra2.out.num1
  clear hb2 h10 h11 hz1
  go_wp2
  go_ret
  exact ⟨by rw [Hz.out]; rfl, HB2.out⟩
set_option maxRecDepth 100000 in
set_option maxHeartbeats 2000000 in
theorem cmp_pp (va vb : Value) (za zb : Int) (w : World) (ha : ZNum w.heap.size w va za) (hb : ZNum w.heap.size w vb zb) (hca : ¬ za < 0) (hcb : ¬ zb < 0) :
    Calls Tryz.prog 69 #[va, vb] w fun e w' => e = .returned (.int .i64 (zcmp za zb)) ∧ Below w.heap.size w w' := by
  have hz := zcmp_of ha.2 hb.2
  obtain ⟨p, c, rfl⟩ := ha.parts
  obtain ⟨q, c2, rfl⟩ := hb.parts
  rw [show decide (za < 0) = false by simp; omega] at *
  rw [show decide (zb < 0) = false by simp; omega] at *
  have hz := hz.2.2.2 hca hcb
  have Hz := Lib.hid hz
  clear hz hca hcb
  obtain ⟨W3, hW3⟩ : ∃ W3, W3 = (w.alloc (.cells #[.bool false, .slice p (digs za.natAbs).length c] 25)).alloc (.cells #[.bool false, .slice q (digs zb.natAbs).length c2] 25) := ⟨_, rfl⟩
  have HB3 : Hid (Below w.heap.size w W3) := by rw [hW3]; exact ((Below.refl _ w).alloc (Nat.le_refl _) _).alloc (by simp) _
  have Hz3 : Hid (W3.heap.size = w.heap.size + 2) := by show W3.heap.size = _; rw [hW3]; simp
  have Hra : Hid (RowAt W3 w.heap.size 25 (numCells false p (digs za.natAbs).length c)) := by rw [hW3]; exact (RowAt.new w _ _).alloc _
  have Hrb : Hid (RowAt W3 (w.heap.size + 1) 25 (numCells false q (digs zb.natAbs).length c2)) := by rw [hW3]; exact RowAt.new' _ _ (by simp)
  have HA := Lib.hid ((ha.below HB3.out).mono (by rw [Hz3.out]; omega : w.heap.size ≤ W3.heap.size))
  have HBn := Lib.hid ((hb.below HB3.out).mono (by rw [Hz3.out]; omega : w.heap.size ≤ W3.heap.size))
  have HW3 := Lib.hid hW3
  generalize (digs za.natAbs).length = n at *
  generalize (digs zb.natAbs).length = m at *
  clear hW3 ha hb
  go_enter Tryz.func69, Tryz.ntmps69
  go_wp2_with fail
  rw [← HW3.out]
  refine (right_calls_z _ za W3 HA.out).mono ?_
  rintro e w1 ⟨rfl, hb1⟩
  have Hra1 := Lib.hid (Hra.out.below hb1 (by rw [Hz3.out]; omega))
  have Hrb1 := Lib.hid (Hrb.out.below hb1 (by rw [Hz3.out]; omega))
  have HA1 := Lib.hid ((HA.out.below hb1).mono hb1.size)
  have HBn1 := Lib.hid ((HBn.out.below hb1).mono hb1.size)
  have HB1 := Lib.hid (HB3.out.trans (hb1.mono (by rw [Hz3.out]; omega : w.heap.size ≤ W3.heap.size)))
  have hz1 : w.heap.size + 2 ≤ w1.heap.size := by rw [← Hz3.out]; exact hb1.size
  have h10 := Hrb1.out.num0
  have h11 := Hrb1.out.num1
  clear hb1
  go_wp2_with fail
  refine (right_calls_z _ zb w1 HBn1.out).mono ?_
  rintro e w2 ⟨rfl, hb2⟩
  have Hra2 := Lib.hid (Hra1.out.below hb2 (by omega))
  have Hrb2 := Lib.hid (Hrb1.out.below hb2 (by omega))
  have HA2 := Lib.hid ((HA1.out.below hb2).mono hb2.size)
  have HBn2 := Lib.hid ((HBn1.out.below hb2).mono hb2.size)
  have HB2 := Lib.hid (HB1.out.trans (hb2.mono (by omega : w.heap.size ≤ w1.heap.size)))
  have hz2 : w.heap.size + 2 ≤ w2.heap.size := Nat.le_trans hz1 hb2.size
  have h20 := Hrb2.out.num0
  have h21 := Hrb2.out.num1
  have h22 := Hra2.out.num0
  have h23 := Hra2.out.num1
  clear hb2 h10 h11 hz1
  have hcall := order_calls _ _ (digs za.natAbs) (digs zb.natAbs) w2 (znum_slice HA2.out) (znum_slice HBn2.out) (digs_digits _) (digs_digits _)
  rw [Hz.out] at hcall
  have Hcall := Lib.hid hcall
  clear hcall
  go_wp2_with fail
  refine Hcall.out.mono ?_
  rintro e w3 ⟨rfl, hb3⟩
  go_wp2
  go_ret
  exact ⟨rfl, HB2.out.trans (hb3.mono (by omega))⟩
theorem cmp_calls (va vb : Value) (za zb : Int) (w : World) (ha : ZNum w.heap.size w va za) (hb : ZNum w.heap.size w vb zb) :
    Calls Tryz.prog 69 #[va, vb] w fun e w' => e = .returned (.int .i64 (zcmp za zb)) ∧ Below w.heap.size w w' := by
  by_cases h1 : za < 0 <;> by_cases h2 : zb < 0
  · exact cmp_nn va vb za zb w ha hb h1 h2
  · exact cmp_np va vb za zb w ha hb h1 h2
  · exact cmp_pn va vb za zb w ha hb h1 h2
  · exact cmp_pp va vb za zb w ha hb h1 h2
end Go.Proofs.YtegjcikofmphjaaGreatDoor
/- Layer 1: Of, Int. -/
namespace Go.Proofs.YtegjcikofmphjaaGreatDoor
open Go Go.RowKit Go.Shelf
def ZPost1 (w : World) (z : Int) (e : Ending) (w' : World) : Prop := ∃ s, e = .returned (.agg #[.bool (decide (z < 0)), s]) ∧ U32N w.heap.size w'.heap.size w' s (digs z.natAbs) ∧ Below w.heap.size w w'
theorem pow64 : (18446744073709551616 : Nat) < B32 ^ 64 := by decide
theorem of_wrap {n : Int} (h : n < 0) (h1 : -9223372036854775808 ≤ n) : IntKind.u64.wrap (-IntKind.u64.wrap n) = ((n.natAbs : Nat) : Int) := by
  rw [IntKind.wrap_u64, IntKind.wrap_u64]; omega
theorem of_wrap0 {n : Int} (h : 0 ≤ n) (h2 : n ≤ 9223372036854775807) : IntKind.u64.wrap n = ((n.natAbs : Nat) : Int) := by
  rw [IntKind.wrap_u64]; omega
theorem split2_val {n : Nat} (h : n < 18446744073709551616) : strip ((split2 n).take 2) = digs n := by
  have e : (split2 n).take 2 = [n % B32, n / B32] := rfl
  rw [e, strip_digs]
  · congr 1
    simp only [val]
    have := Nat.mod_add_div n B32
    omega
  · refine Digits.cons.2 ⟨Nat.mod_lt _ B32_pos, Digits.cons.2 ⟨?_, Digits.nil⟩⟩
    unfold B32; omega
set_option maxRecDepth 100000 in
set_option maxHeartbeats 2000000 in
theorem of_calls (n : Int) (h1 : -9223372036854775808 ≤ n) (h2 : n ≤ 9223372036854775807) (w : World) :
    Calls Tryz.prog 36 #[.int .i64 n] w (ZPost1 w n) := by
  obtain ⟨a, ha⟩ : ∃ a, a = n.natAbs := ⟨_, rfl⟩
  have hal : a < 18446744073709551616 := by omega
  have ha64 : n.natAbs < B32 ^ 64 := by have := pow64; omega
  have Hval := Lib.hid (split2_val hal)
  have hrs := res_of (decide (n < 0)) a n ha.symm (fun _ => rfl)
  have e1 : zneg n = decide (n < 0) := by unfold zneg; rw [if_pos ha64]
  have e2 : zdigs n = digs n.natAbs := by unfold zdigs; rw [if_pos ha64]
  have e3 : zok n = true := by unfold zok; simp [ha64]
  rw [e1, e2, e3] at hrs
  have Hrs := Lib.hid hrs
  have Hal := Lib.hid hal
  have H12 := Lib.hid (And.intro h1 h2)
  have Ha := Lib.hid ha
  clear e1 e2 e3 hrs ha64 hal h1 h2 ha
  by_cases hn : n < 0
  · go_enter Tryz.func36, Tryz.ntmps36
    go_wp2_with fail
    rw [of_wrap hn H12.out.1, ← Ha.out]
    refine (split_calls a Hal.out _).mono ?_
    rintro e w1 ⟨rfl, hb1⟩
    have Hr1 := Lib.hid ((RowAt.new w 25 (numCells false none 0 0)).below hb1 (by simp [numCells]))
    have hz1 := hb1.size
    rw [World.size_alloc] at hz1
    obtain ⟨W4, hW4⟩ : ∃ W4, W4 = (w1.alloc (.cells Tryz.zeroCells89 89)).setRow w1.heap.size (arr (split2 a)) := ⟨_, rfl⟩
    have Hz4 : Hid (W4.heap.size = w1.heap.size + 1) := by show W4.heap.size = _; rw [hW4]; simp
    have HB4 : Hid (Below w.heap.size w W4) := by rw [hW4]; exact below_setRow2 ((((Below.refl _ w).alloc (Nat.le_refl _) _).trans (hb1.mono (by simp))).alloc (by omega) _) (by omega) _
    have Hr4 : Hid (RowAt W4 w1.heap.size 89 (arr (split2 a))) := by rw [hW4]; exact (RowAt.new w1 _ _).setRow _
    have Hrr4 : Hid (RowAt W4 w.heap.size 25 (numCells false none 0 0)) := by rw [hW4]; exact (Hr1.out.alloc _).setRowOther _ (by omega)
    have hnum := number_calls (decide (n < 0)) _ _ W4 (u32s_row (B := W4.heap.size) (w := W4) (cap := 65) (L := 2) Hr4.out (by rw [Hz4.out]; omega) (by rw [split2_length]; decide) (by rw [split2_length]; decide))
    rw [Hval.out, Hrs.out.1, Hrs.out.2.1, Hrs.out.2.2] at hnum
    rw [show decide (n < 0) = true by simp; omega] at hnum
    have Hnum := Lib.hid hnum
    have Hnew := Lib.hid (RowAt.new w1 89 Tryz.zeroCells89)
    have HW4 := Lib.hid hW4
    clear hb1 hW4 hnum
    go_wp2_with (refine store_row rfl (.tmp 4) (.tmp 14) rfl w1.heap.size rfl (split2 a) (split2_length a) rfl 89 Tryz.zeroCells89 Hnew.out (by kernel_rfl) ?_; rw [← HW4.out])
    go_fit Hnum.out
    rintro e w5 ⟨s5, rfl, hu5, hb5⟩
    have hU5 := hu5
    obtain ⟨p5, c5, rfl, -, -⟩ := hU5
    have hr5 := Hrr4.out.below hb5 (by rw [Hz4.out]; omega)
    obtain ⟨W6, hW6⟩ : ∃ W6, W6 = (w5.alloc (.cells #[.bool false, .slice none 0 0] 25)).setRow w5.heap.size (numCells true p5 (digs n.natAbs).length c5) := ⟨_, rfl⟩
    have hB6 : Below W4.heap.size W4 W6 := by rw [hW6]; exact below_setRow2 (hb5.alloc hb5.size _) hb5.size _
    have hu6 : U32N W4.heap.size W6.heap.size W6 (.slice p5 (digs n.natAbs).length c5) (digs n.natAbs) := by
      have hs6 : W6.heap.size = w5.heap.size + 1 := by rw [hW6]; simp
      obtain ⟨p, cap, e, hl, hc⟩ := hu5
      cases e
      refine ⟨_, _, rfl, hl, fun h0 => ?_⟩
      obtain ⟨b, off, rfl, hlo, hlt, hcs⟩ := hc h0
      refine ⟨b, off, rfl, hlo, by omega, fun j hj => ?_⟩
      rw [hW6, cell_setRow_other _ _ _ _ (by show b ≠ w5.heap.size; omega), World.cell?_alloc_past _ _ _ hlt]
      exact hcs j hj
    have Hr6 : Hid (RowAt W6 w.heap.size 25 (numCells false none 0 0)) := by rw [hW6]; exact (hr5.alloc _).setRowOther _ (by have := hr5.lt; omega)
    have Hr7 : Hid (RowAt W6 w5.heap.size 25 (numCells true p5 (digs n.natAbs).length c5)) := by rw [hW6]; exact (RowAt.new w5 _ _).setRow _
    have Hfin := Lib.hid (finNum (g := w.heap.size) HB4.out (Nat.le_refl _) (by rw [Hz4.out]; omega) hu6 hB6 (turned_setRow W6 _ (numCells true p5 (digs n.natAbs).length c5)))
    have Hnew5 := Lib.hid (RowAt.new w5 25 (numCells false none 0 0))
    have HW6 := Lib.hid hW6
    have Hneg : Hid (decide (n < 0) = true) := by show decide (n < 0) = _; simp; omega
    clear hu5 hb5 hr5 hB6 hu6 hW6
    go_wp2_with (first
      | (refine store_num rfl (.tmp 5) (.tmp 20) rfl w5.heap.size rfl _ _ _ _ rfl _ _ Hnew5.out rfl ?_; rw [← HW6.out])
      | (refine load_num rfl (.tmp 5) rfl w5.heap.size rfl _ _ _ _ _ Hr7.out ?_)
      | (refine store_num rfl (.tmp 2) (.tmp 22) rfl w.heap.size rfl _ _ _ _ rfl _ _ Hr6.out rfl ?_))
    exact ret_num1 rfl w.heap.size rfl _ _ _ _ _ (Hr6.out.setRow _) ⟨_, by rw [Hneg.out], Hfin.out.1, Hfin.out.2⟩
  · have hn0 : 0 ≤ n := by omega
    have hnd : decide (n < 0) = false := by simp; omega
    go_enter Tryz.func36, Tryz.ntmps36
    go_wp2_with fail
    rw [of_wrap0 hn0 H12.out.2, ← Ha.out]
    refine (split_calls a Hal.out _).mono ?_
    rintro e w1 ⟨rfl, hb1⟩
    have Hr1 := Lib.hid ((RowAt.new w 25 (numCells false none 0 0)).below hb1 (by simp [numCells]))
    have hz1 := hb1.size
    rw [World.size_alloc] at hz1
    obtain ⟨W4, hW4⟩ : ∃ W4, W4 = (w1.alloc (.cells Tryz.zeroCells89 89)).setRow w1.heap.size (arr (split2 a)) := ⟨_, rfl⟩
    have Hz4 : Hid (W4.heap.size = w1.heap.size + 1) := by show W4.heap.size = _; rw [hW4]; simp
    have HB4 : Hid (Below w.heap.size w W4) := by rw [hW4]; exact below_setRow2 ((((Below.refl _ w).alloc (Nat.le_refl _) _).trans (hb1.mono (by simp))).alloc (by omega) _) (by omega) _
    have Hr4 : Hid (RowAt W4 w1.heap.size 89 (arr (split2 a))) := by rw [hW4]; exact (RowAt.new w1 _ _).setRow _
    have Hrr4 : Hid (RowAt W4 w.heap.size 25 (numCells false none 0 0)) := by rw [hW4]; exact (Hr1.out.alloc _).setRowOther _ (by omega)
    have hnum := number_calls (decide (n < 0)) _ _ W4 (u32s_row (B := W4.heap.size) (w := W4) (cap := 65) (L := 2) Hr4.out (by rw [Hz4.out]; omega) (by rw [split2_length]; decide) (by rw [split2_length]; decide))
    rw [Hval.out, Hrs.out.1, Hrs.out.2.1, Hrs.out.2.2] at hnum
    rw [hnd] at hnum
    have Hnum := Lib.hid hnum
    have Hnew := Lib.hid (RowAt.new w1 89 Tryz.zeroCells89)
    have HW4 := Lib.hid hW4
    clear hb1 hW4 hnum
    go_wp2_with (refine store_row rfl (.tmp 4) (.tmp 14) rfl w1.heap.size rfl (split2 a) (split2_length a) rfl 89 Tryz.zeroCells89 Hnew.out (by kernel_rfl) ?_; rw [← HW4.out])
    go_fit Hnum.out
    rintro e w5 ⟨s5, rfl, hu5, hb5⟩
    have hU5 := hu5
    obtain ⟨p5, c5, rfl, -, -⟩ := hU5
    have hr5 := Hrr4.out.below hb5 (by rw [Hz4.out]; omega)
    obtain ⟨W6, hW6⟩ : ∃ W6, W6 = (w5.alloc (.cells #[.bool false, .slice none 0 0] 25)).setRow w5.heap.size (numCells false p5 (digs n.natAbs).length c5) := ⟨_, rfl⟩
    have hB6 : Below W4.heap.size W4 W6 := by rw [hW6]; exact below_setRow2 (hb5.alloc hb5.size _) hb5.size _
    have hu6 : U32N W4.heap.size W6.heap.size W6 (.slice p5 (digs n.natAbs).length c5) (digs n.natAbs) := by
      have hs6 : W6.heap.size = w5.heap.size + 1 := by rw [hW6]; simp
      obtain ⟨p, cap, e, hl, hc⟩ := hu5
      cases e
      refine ⟨_, _, rfl, hl, fun h0 => ?_⟩
      obtain ⟨b, off, rfl, hlo, hlt, hcs⟩ := hc h0
      refine ⟨b, off, rfl, hlo, by omega, fun j hj => ?_⟩
      rw [hW6, cell_setRow_other _ _ _ _ (by show b ≠ w5.heap.size; omega), World.cell?_alloc_past _ _ _ hlt]
      exact hcs j hj
    have Hr6 : Hid (RowAt W6 w.heap.size 25 (numCells false none 0 0)) := by rw [hW6]; exact (hr5.alloc _).setRowOther _ (by have := hr5.lt; omega)
    have Hr7 : Hid (RowAt W6 w5.heap.size 25 (numCells false p5 (digs n.natAbs).length c5)) := by rw [hW6]; exact (RowAt.new w5 _ _).setRow _
    have Hfin := Lib.hid (finNum (g := w.heap.size) HB4.out (Nat.le_refl _) (by rw [Hz4.out]; omega) hu6 hB6 (turned_setRow W6 _ (numCells false p5 (digs n.natAbs).length c5)))
    have Hnew5 := Lib.hid (RowAt.new w5 25 (numCells false none 0 0))
    have HW6 := Lib.hid hW6
    have Hneg := Lib.hid hnd
    clear hu5 hb5 hr5 hB6 hu6 hW6
    go_wp2_with (first
      | (refine store_num rfl (.tmp 5) (.tmp 20) rfl w5.heap.size rfl _ _ _ _ rfl _ _ Hnew5.out rfl ?_; rw [← HW6.out])
      | (refine load_num rfl (.tmp 5) rfl w5.heap.size rfl _ _ _ _ _ Hr7.out ?_)
      | (refine store_num rfl (.tmp 2) (.tmp 22) rfl w.heap.size rfl _ _ _ _ rfl _ _ Hr6.out rfl ?_))
    exact ret_num1 rfl w.heap.size rfl _ _ _ _ _ (Hr6.out.setRow _) ⟨_, by rw [Hneg.out], Hfin.out.1, Hfin.out.2⟩
end Go.Proofs.YtegjcikofmphjaaGreatDoor

