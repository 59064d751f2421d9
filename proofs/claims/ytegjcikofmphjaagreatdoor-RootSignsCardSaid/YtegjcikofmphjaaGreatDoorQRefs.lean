/- Texts that belong together. -/
import Derived.Test.YtegjcikofmphjaaGreatDoorQNum28
import Derived.Test.YtegjcikofmphjaaGreatDoorQZs
import Derived.Deep.QuietTactic
import Derived.BigQuiet
import Derived.WalkKit
set_option linter.all false
/- Texts that belong together. -/
namespace Go.Proofs.YtegjcikofmphjaaGreatDoor
open Go Go.RowKit Go.Shelf
def Ext (w w' : World) : Prop := Below w.heap.size w w'
theorem Ext.refl (w : World) : Ext w w := Below.refl _ w
theorem Ext.trans {a b c : World} (h : Ext a b) (k : Ext b c) : Ext a c := Below.trans h (Below.mono k (Below.size h))
theorem Ext.alloc (w : World) (o : Obj) : Ext w (w.alloc o) := (Below.refl _ w).alloc (Nat.le_refl _) o
theorem Ext.drew (w : World) : Ext w w.drew := (Below.refl _ w).drew
theorem Ext.drewN (w : World) (k : Nat) : Ext w (w.drewN k) := ⟨rfl, rfl, rfl, Nat.le_refl _, fun _ _ => rfl⟩
theorem Ext.num {w w' : World} {v : Value} {z : Int} (h : Ext w w') (hz : ZNum w.heap.size w v z) : ZNum w'.heap.size w' v z := (ZNum.below hz h).mono (Below.size h)
theorem Ext.row {w w' : World} {g : Nat} {t : TypeId} {cs : Array Value} (h : Ext w w') (hr : RowAt w g t cs) : RowAt w' g t cs := RowAt.below hr h hr.lt
theorem Ext.tab {w w' : World} (h : Ext w w') (ht : Tab w) : Tab w' := Tab.below ht h
theorem Ext.u32s {w w' : World} {v : Value} {ds : List Nat} (h : Ext w w') (hu : U32s w.heap.size w v ds) : U32s w'.heap.size w' v ds := (U32s.below hu h).mono (Below.size h)
set_option maxRecDepth 100000 in
set_option maxHeartbeats 2000000 in
theorem compare_same (v u : Value) (xs : List Nat) (w : World) (hx : U32s w.heap.size w v xs) (hy : U32s w.heap.size w u xs) :
    Calls Tryz.prog 70 #[v, u] w fun e w' => e = .returned (.int .i64 0) ∧ Ext w w' := by
  obtain ⟨p, cap, rfl, hl, hc⟩ := hx
  obtain ⟨q, cap2, rfl, -, hc2⟩ := hy
  have hlm := digs_lt_maxLen hl
  have Hc := Lib.hid hc
  have Hc2 := Lib.hid hc2
  generalize hn : xs.length = n at *
  have Hn := Lib.hid hn
  clear hc hc2 hn hl
  go_enter Tryz.func70, Tryz.ntmps70
  go_wp2
  go_loopw [5] (fun i wr => ∃ k : Nat, k ≤ n ∧ i = .int .i64 ((k : Int) - 1) ∧ Ext w wr) (fun i _ => (intOf i + 1).toNat)
  case atStart => exact ⟨n, Nat.le_refl _, rfl, Ext.refl _⟩
  case round =>
    obtain ⟨k, hk, rfl, hB⟩ := hrel
    by_cases h0 : k = 0
    · subst h0
      have HB := Lib.hid hB
      clear hB
      go_wp2
      go_ret
      exact ⟨rfl, HB.out⟩
    · obtain ⟨j, rfl⟩ : ∃ j, k = j + 1 := ⟨k - 1, by omega⟩
      have hj : ((j + 1 : Nat) : Int) - 1 = (j : Int) := by omega
      rw [hj]
      obtain ⟨b, off, rfl, hb, hcs⟩ := Hc.out (by omega)
      obtain ⟨b2, off2, rfl, hb2, hcs2⟩ := Hc2.out (by omega)
      have h1 := (Below.cell hB (p := ⟨b, off + j, none⟩) hb).trans (hcs j (by omega))
      have h2 := (Below.cell hB (p := ⟨b2, off2 + j, none⟩) hb2).trans (hcs2 j (by omega))
      have hjI : (j : Int) < (n : Int) := by omega
      have hj0 : (0 : Int) ≤ (j : Int) := by omega
      have HB := Lib.hid hB
      generalize xs[j]?.getD 0 = d at *
      clear hcs hcs2 hB h0
      have hdd : ¬ ((d : Int) < (d : Int)) := by omega
      go_wp2
      go_quiet (fail)
      go_wp2
      go_quiet (fail)
      go_wp2
      go_roundw
      case rel => exact ⟨j, by omega, by congr 1, HB.out.trans (Ext.drewN _ _)⟩
      case measure => simp [intOf]
set_option maxRecDepth 100000 in
set_option maxHeartbeats 2000000 in
theorem same_calls (va vb : Value) (z : Int) (w : World) (ha : ZNum w.heap.size w va z) (hb : ZNum w.heap.size w vb z) :
    Calls Tryz.prog 45 #[va, vb] w fun e w' => e = .returned (.bool true) ∧ Ext w w' := by
  obtain ⟨p, c, rfl⟩ := ha.parts
  obtain ⟨q, c2, rfl⟩ := hb.parts
  have hua := znum_slice ha
  have hub := znum_slice hb
  generalize decide (z < 0) = na at *
  generalize digs z.natAbs = xs at *
  generalize hn : xs.length = n at *
  have hx : Ext w ((w.alloc (.cells #[.bool na, .slice p n c] 25)).alloc (.cells #[.bool na, .slice q n c2] 25)) := (Ext.alloc _ _).trans (Ext.alloc _ _)
  have HC := Lib.hid (compare_same _ _ xs _ (hx.u32s hua) (hx.u32s hub))
  have Hx := Lib.hid hx
  have hbb : (na == na) = true := by simp
  clear ha hb hua hub hx hn
  go_enter Tryz.func45, Tryz.ntmps45
  go_wp2_with fail
  refine HC.out.mono ?_
  rintro e w1 ⟨rfl, h1⟩
  have H1 := Lib.hid h1
  clear h1
  go_wp2
  go_ret
  exact ⟨rfl, Hx.out.trans H1.out⟩
end Go.Proofs.YtegjcikofmphjaaGreatDoor
/- What straight lines of calls lean on: contracts of num in one form. -/
namespace Go.Proofs.YtegjcikofmphjaaGreatDoor
open Go Go.RowKit Go.Shelf
def Gives (w : World) (z : Int) (neg : Bool) (e : Ending) (w' : World) : Prop :=
  ∃ p n c, e = .returned (.tuple #[.agg #[.bool neg, .slice p n c], .bool true]) ∧ ZNum w'.heap.size w' (.agg #[.bool neg, .slice p n c]) z ∧ Ext w w'
def Gives1 (w : World) (z : Int) (neg : Bool) (e : Ending) (w' : World) : Prop :=
  ∃ p n c, e = .returned (.agg #[.bool neg, .slice p n c]) ∧ ZNum w'.heap.size w' (.agg #[.bool neg, .slice p n c]) z ∧ Ext w w'
section
variable {w w' : World} {va vb v : Value} {za zb z : Int} {neg : Bool}
theorem ZPost.gives {e : Ending} (h : ZPost w z e w') (hn : decide (z < 0) = neg) (hl : z.natAbs < B32 ^ 64) : Gives w z neg e w' := by
  subst hn
  obtain ⟨s, rfl, hu, hb⟩ := h
  unfold zneg zdigs zok at *
  rw [if_pos hl] at hu ⊢
  have hu' := hu
  obtain ⟨p, c, rfl, -, -⟩ := hu'
  exact ⟨p, _, c, by simp [hl], ⟨⟨_, rfl, hu.u32s⟩, hl⟩, hb⟩
theorem add_gives (ha : ZNum w.heap.size w va za) (hb : ZNum w.heap.size w vb zb) (hz : za + zb = z) (hn : decide (z < 0) = neg) (hl : z.natAbs < B32 ^ 64) : Calls Tryz.prog 86 #[va, vb] w (Gives w z neg) := by
  subst hz; exact (add_calls va vb za zb w ha hb).mono fun _ _ h => ZPost.gives h hn hl
theorem sub_gives (ha : ZNum w.heap.size w va za) (hb : ZNum w.heap.size w vb zb) (hz : za - zb = z) (hn : decide (z < 0) = neg) (hl : z.natAbs < B32 ^ 64) : Calls Tryz.prog 85 #[va, vb] w (Gives w z neg) := by
  subst hz; exact (sub_calls va vb za zb w ha hb).mono fun _ _ h => ZPost.gives h hn hl
theorem mul_gives (ha : ZNum w.heap.size w va za) (hb : ZNum w.heap.size w vb zb) (hz : za * zb = z) (hn : decide (z < 0) = neg) (hl : z.natAbs < B32 ^ 64) : Calls Tryz.prog 106 #[va, vb] w (Gives w z neg) := by
  subst hz; exact (mul_calls va vb za zb w ha hb).mono fun _ _ h => ZPost.gives h hn hl
theorem gcd_lim {a b : Nat} (ha : a < B32 ^ 64) (hb : b < B32 ^ 64) : Nat.gcd a b < B32 ^ 64 := by
  rcases Nat.eq_zero_or_pos b with e | e
  · subst e; rw [Nat.gcd_zero_right]; exact ha
  · exact Nat.lt_of_le_of_lt (Nat.le_of_dvd e (Nat.gcd_dvd_right a b)) hb
theorem gcd_gives (ha : ZNum w.heap.size w va za) (hb : ZNum w.heap.size w vb zb) (hz : ((Nat.gcd za.natAbs zb.natAbs : Nat) : Int) = z) : Calls Tryz.prog 48 #[va, vb] w (Gives w z false) := by
  subst hz; exact (gcd_calls va vb za zb w ha hb).mono fun _ _ h => ZPost.gives h (by simp) (by rw [Int.natAbs_natCast]; exact gcd_lim ha.2 hb.2)
theorem of_gives (z : Int) (h1 : -9223372036854775808 ≤ z) (h2 : z ≤ 9223372036854775807) (hn : decide (z < 0) = neg) (w : World) : Calls Tryz.prog 36 #[.int .i64 z] w (Gives1 w z neg) :=
  (of_calls z h1 h2 w).mono fun e w' h => by
    subst hn
    obtain ⟨s, rfl, hu, hb⟩ := h
    have hu' := hu
    obtain ⟨p, c, rfl, -, -⟩ := hu'
    exact ⟨p, _, c, rfl, ⟨⟨_, rfl, hu.u32s⟩, by have := pow64; omega⟩, hb⟩
end
def Gives2 (w : World) (q r : Int) (nq nr : Bool) (ok : Bool) (e : Ending) (w' : World) : Prop :=
  ∃ p n c p2 n2 c2, e = .returned (.tuple #[.agg #[.bool nq, .slice p n c], .agg #[.bool nr, .slice p2 n2 c2], .bool ok]) ∧ ZNum w'.heap.size w' (.agg #[.bool nq, .slice p n c]) q ∧ ZNum w'.heap.size w' (.agg #[.bool nr, .slice p2 n2 c2]) r ∧ Ext w w'
theorem DivPost.gives {w w' : World} {q r : Int} {ok nq nr : Bool} {e : Ending} (h : DivPost w q r ok e w') (hnq : decide (q < 0) = nq) (hnr : decide (r < 0) = nr) (h1 : q.natAbs < B32 ^ 64) (h2 : r.natAbs < B32 ^ 64) : Gives2 w q r nq nr ok e w' := by
  subst hnq hnr
  obtain ⟨s, t, rfl, hs, ht, hb⟩ := h
  have hs' := hs
  have ht' := ht
  obtain ⟨p, c, rfl, -, -⟩ := hs'
  obtain ⟨p2, c2, rfl, -, -⟩ := ht'
  exact ⟨p, _, c, p2, _, c2, rfl, ⟨⟨_, rfl, hs.u32s⟩, h1⟩, ⟨⟨_, rfl, ht.u32s⟩, h2⟩, hb⟩
theorem div_gives {va vb : Value} {za zb q r : Int} {nq nr : Bool} {w : World} (ha : ZNum w.heap.size w va za) (hb : ZNum w.heap.size w vb zb) (h : 0 < zb) (hq : za / zb = q) (hr : za % zb = r) (hnq : decide (q < 0) = nq) (hnr : decide (r < 0) = nr) : Calls Tryz.prog 68 #[va, vb] w (Gives2 w q r nq nr true) := by
  subst hq hr
  exact (div_ok va vb za zb w ha hb h).mono fun _ _ h' => DivPost.gives h' hnq hnr (div_lim ha.2 hb.2 h).1 (div_lim ha.2 hb.2 h).2.1
theorem u32s_arr {B : Nat} {w : World} {g cap : Nat} {t : TypeId} {xs : List Nat} (hg : RowAt w g t (arr xs)) (hB : g < B) (hm : xs.length ≤ maxLen) : U32s B w (.slice (some ⟨g, 0, none⟩) xs.length cap) xs := by
  have := u32s_row (L := xs.length) (cap := cap) hg hB (Nat.le_refl _) hm
  rwa [List.take_of_length_le (Nat.le_refl _)] at this
end Go.Proofs.YtegjcikofmphjaaGreatDoor
/- The reference of layer 1: trim. -/
namespace Go.Proofs.YtegjcikofmphjaaGreatDoor
open Go Go.RowKit Go.Shelf
theorem strip_all_above {ds : List Nat} {k : Nat} (hk : k ≤ ds.length) (hz : ∀ j, k ≤ j → j < ds.length → ds[j]?.getD 0 = 0) : (strip ds).length ≤ k := by
  have e : ds = ds.take k ++ ds.drop k := (List.take_append_drop k ds).symm
  have hz' : ∀ d ∈ ds.drop k, d = 0 := fun d hd => by
    obtain ⟨j, hj⟩ := List.getElem?_of_mem hd
    rw [List.getElem?_drop] at hj
    have hlt := (List.getElem?_eq_some_iff.1 hj).1
    have := hz (k + j) (by omega) hlt
    rw [hj] at this; exact this
  rw [e, strip_append_zero hz']
  exact Nat.le_trans (strip_length_le _) (by rw [List.length_take]; omega)
set_option maxRecDepth 100000 in
set_option maxHeartbeats 2000000 in
theorem trim_calls (p : Option Addr) (cap : Nat) (ds : List Nat) (w : World) (hu : U32s w.heap.size w (.slice p ds.length cap) ds) (hcap : (strip ds).length = ds.length ∨ ds.length ≤ cap) :
    Calls Tryz.prog 81 #[.slice p ds.length cap] w fun e w' => e = .returned (.slice p (strip ds).length cap) ∧ Ext w w' := by
  obtain ⟨p', cap', he, hl, hc⟩ := hu
  cases he
  have hlm := digs_lt_maxLen hl
  have Hc := Lib.hid hc
  have Hcap := Lib.hid hcap
  obtain ⟨n, hn⟩ : ∃ n, n = ds.length := ⟨_, rfl⟩
  rw [← hn] at hlm ⊢
  have Hn := Lib.hid hn
  clear hc hcap hl hn
  go_enter Tryz.func81, Tryz.ntmps81
  go_wp2
  go_loopw [0] (fun i wr => ∃ k : Nat, k ≤ n ∧ i = .slice p k cap ∧ (∀ j, k ≤ j → j < n → ds[j]?.getD 0 = 0) ∧ Ext w wr) (fun i _ => match i with | .slice _ k _ => k | _ => 0)
  case atStart => exact ⟨n, Nat.le_refl _, rfl, fun j a b => by omega, Ext.refl _⟩
  case round =>
    obtain ⟨k, hk, rfl, hz, hB⟩ := hrel
    by_cases h0 : k = 0
    · subst h0
      have HB := Lib.hid hB
      have hs : (strip ds).length = 0 := by
        have := strip_length_zero (ds := ds) (fun j hj => hz j (Nat.zero_le _) (by rw [Hn.out]; exact hj))
        rw [this]; rfl
      have Hs := Lib.hid hs
      clear hB hz hs
      go_wp2
      go_ret
      exact ⟨by rw [Hs.out]; rfl, HB.out⟩
    · obtain ⟨j, rfl⟩ : ∃ j, k = j + 1 := ⟨k - 1, by omega⟩
      have hnl := Hn.out
      obtain ⟨b, off, rfl, hb, hcs⟩ := Hc.out (by omega)
      have h1 := (Below.cell hB (p := ⟨b, off + j, none⟩) hb).trans (hcs j (by omega))
      have hd0 : ds[j]?.getD 0 = 0 ∨ ds[j]?.getD 0 ≠ 0 := Nat.eq_zero_or_pos _ |>.imp id (by omega)
      have Hz := Lib.hid hz
      have HB := Lib.hid hB
      rcases hd0 with hd | hd
      · rw [hd] at h1
        have hc2 : j + 1 ≤ cap := by
          rcases Hcap.out with h | h
          · have hz2 : ∀ i, j ≤ i → i < ds.length → ds[i]?.getD 0 = 0 := fun i a b => by
              by_cases e : i = j
              · subst e; exact hd
              · exact hz i (by omega) (by omega)
            have := strip_all_above (ds := ds) (k := j) (by omega) hz2
            omega
          · omega
        have Hd := Lib.hid hd
        clear hcs hB hz hd hnl
        go_wp2
        go_roundw
        case rel =>
          refine ⟨j, by omega, by congr 1, fun i a b => ?_, HB.out⟩
          by_cases e : i = j
          · subst e; exact Hd.out
          · exact Hz.out i (by omega) b
        case measure => simp
      · have hs : (strip ds).length = j + 1 := strip_length_of (by omega) hd (fun i a b => hz i (by omega) (by omega))
        have hdn : ((ds[j]?.getD 0 : Nat) : Int) ≠ 0 := by omega
        have Hs := Lib.hid hs
        generalize ds[j]?.getD 0 = d at *
        clear hcs hB hz hnl hs
        go_wp2
        go_ret
        exact ⟨by rw [Hs.out]; rfl, HB.out⟩
end Go.Proofs.YtegjcikofmphjaaGreatDoor
/- The reference of layer 1: made. -/
namespace Go.Proofs.YtegjcikofmphjaaGreatDoor
open Go Go.RowKit Go.Shelf
def u32l (ds : List Nat) : List Value := ds.map fun (d : Nat) => Value.int .u32 (d : Int)
theorem u32l_length (ds : List Nat) : (u32l ds).length = ds.length := by simp [u32l]
theorem u32l_append (a b : List Nat) : u32l a ++ u32l b = u32l (a ++ b) := by simp [u32l]
theorem u32l_get {ds : List Nat} {j : Nat} (h : j < ds.length) : (u32l ds)[j]? = some (.int .u32 ((ds[j]?.getD 0 : Nat) : Int)) := by simp [u32l, h]
theorem u32l_one (ds : List Nat) : ∀ u ∈ u32l ds, u.oneCell' = true := fun u hu => by
  obtain ⟨d, -, rfl⟩ := List.mem_map.1 hu; rfl
def Owns (w : World) (base : Nat) (v : Value) (ds : List Nat) : Prop := w.ownsRow base 87 1 v ds.length (u32l ds)
theorem Owns.u32s {w : World} {base : Nat} {v : Value} {ds : List Nat} (h : Owns w base v ds) (hm : ds.length ≤ maxLen) : U32s w.heap.size w v ds := by
  obtain ⟨hl, ⟨rfl, h0⟩ | ⟨g, cap, cur, rfl, hb, hc, hn, hcm, hcs, hx⟩⟩ := id h
  · obtain rfl : ds = [] := List.length_eq_zero_iff.1 h0
    exact ⟨none, 0, rfl, hm, fun hh => absurd hh (by simp)⟩
  · refine ⟨some ⟨g, 0, none⟩, cap, rfl, hm, fun _ => ⟨g, 0, rfl, (Array.getElem?_eq_some_iff.1 hc).1, fun j hj => ?_⟩⟩
    have := World.ownsRow.cellAt h j (by omega)
    rw [Nat.zero_add, this, u32l_get hj]
theorem Owns.shape {w : World} {base : Nat} {v : Value} {ds : List Nat} (h : Owns w base v ds) : ∃ p cap, v = .slice p ds.length cap ∧ ds.length ≤ cap := by
  obtain ⟨hl, ⟨rfl, h0⟩ | ⟨g, cap, cur, rfl, hb, hc, hn, hcm, hcs, hx⟩⟩ := h
  · exact ⟨none, 0, by rw [h0], by omega⟩
  · exact ⟨_, cap, rfl, hn⟩
theorem Owns.nil (w : World) (base : Nat) : Owns w base (.slice none 0 0) [] := World.ownsRow_nil _ _ _ _
theorem Owns.alloc {w : World} {base : Nat} {v : Value} {ds : List Nat} (h : Owns w base v ds) (o : Obj) : Owns (w.alloc o) base v ds := World.ownsRow.alloc h o
theorem Ext.grown {w w1 w2 : World} {base : Nat} {v : Value} {ds : List Nat} (h : Ext w w1) (hg : w1.grownBy w2 v.ownBlock) (ho : Owns w1 base v ds) (hb : w.heap.size ≤ base) : Ext w w2 :=
  Below.grown h hg (Below.size h) (fun k hk => Nat.le_trans hb (World.ownsRow.lt ho k hk).1)
theorem cell_one_own (w : World) (v : Value) (t : TypeId) : ∀ (j : Nat) (u : Value), [v][j]? = some u → (w.alloc (.cells #[v] t)).cell? (Addr.add ⟨w.heap.size, 0, none⟩ j) = some u := fun j u hj => by
  match j, hj with
  | 0, hj =>
    simp at hj; subst hj
    rw [show Addr.add ⟨w.heap.size, 0, none⟩ 0 = ⟨w.heap.size, 0, none⟩ by simp [Addr.add]]
    exact (RowAt.new w t #[v]).cell 0
theorem U32s.setNum {B : Nat} {w : World} {v : Value} {ds : List Nat} {g : Nat} {t : TypeId} {neg : Bool} {p : Option Addr} {n c : Nat} (h : U32s B w v ds) (hr : RowAt w g t (numCells neg p n c)) (cs : Array Value) : U32s B (w.setRow g cs) v ds := by
  obtain ⟨q, cap, rfl, hl, hc⟩ := h
  refine ⟨q, cap, rfl, hl, fun h0 => ?_⟩
  obtain ⟨b, off, rfl, hb, hcs⟩ := hc h0
  have hne : b ≠ g := fun e => by
    subst e
    have h1 := hcs 0 h0
    rw [hr.cell] at h1
    rcases off with _ | _ | k
    · cases h1
    · cases h1
    · rw [Nat.add_zero] at h1; cases h1
  exact ⟨b, off, rfl, hb, fun j hj => (World.cell?_of_block (setRow_other w g b cs hne)).trans (hcs j hj)⟩
theorem ZNum.setNum {B : Nat} {w : World} {v : Value} {z : Int} {g : Nat} {t : TypeId} {neg : Bool} {p : Option Addr} {n c : Nat} (h : ZNum B w v z) (hr : RowAt w g t (numCells neg p n c)) (cs : Array Value) : ZNum B (w.setRow g cs) v z := by
  obtain ⟨⟨s, rfl, hu⟩, hl⟩ := h
  exact ⟨⟨s, rfl, hu.setNum hr cs⟩, hl⟩
theorem setRow_size (w : World) (g : Nat) (cs : Array Value) : (w.setRow g cs).heap.size = w.heap.size := by simp [World.setRow]
def madeZ (neg : Bool) (n : Nat) : Int := if neg then -(n : Int) else n
theorem madeZ_abs (neg : Bool) (n : Nat) : (madeZ neg n).natAbs = n := by unfold madeZ; split <;> omega
theorem madeZ_neg {neg : Bool} {n : Nat} (h : n ≠ 0) : decide (madeZ neg n < 0) = neg := by
  unfold madeZ
  cases neg <;> simp <;> omega
theorem ext_grown {w1 w2 : World} {o : Obj} (hg : (w1.alloc o).grownBy w2 (some w1.heap.size)) : Ext w1 w2 :=
  Below.grown (Ext.alloc w1 o) hg (by simp) (fun k hk => by cases hk; exact Nat.le_refl _)
theorem ext_setRow {w W : World} (h : Ext w W) {g : Nat} (hg : w.heap.size ≤ g) (cs : Array Value) : Ext w (W.setRow g cs) := below_setRow2 h hg cs
theorem made_own {w1 w2 : World} {o : Obj} {n : Nat} {ds : List Nat} {news : List Value} {v' : Value} (hn : news.length = n) (hnews : news = u32l ds)
    (h : w2.ownsRow w1.heap.size 87 1 v' (0 + n) ([] ++ news)) (hg : (w1.alloc o).grownBy w2 (some w1.heap.size)) :
    ∃ p c, v' = .slice p n c ∧ (∀ g, g < w1.heap.size → ∀ cs, U32s (w2.setRow g cs).heap.size (w2.setRow g cs) (.slice p n c) ds) ∧ Ext w1 w2 := by
  subst hnews
  obtain rfl : ds.length = n := by rw [← hn, u32l_length]
  rw [Nat.zero_add, List.nil_append] at h
  have ho : Owns w2 w1.heap.size v' ds := h
  obtain ⟨p, c, rfl, hc⟩ := ho.shape
  refine ⟨p, c, rfl, fun g hgg cs => ?_, ext_grown hg⟩
  have ho2 : Owns (w2.setRow g cs) w1.heap.size (.slice p ds.length c) ds := by
    obtain ⟨hl, hh | ⟨k, cap, cur, he, hb, hcc, hrest⟩⟩ := ho
    · exact ⟨hl, .inl hh⟩
    · exact ⟨hl, .inr ⟨k, cap, cur, he, hb, (setRow_other w2 g k cs (by omega)).trans hcc, hrest⟩⟩
  refine ho2.u32s ?_
  obtain ⟨hl, ⟨-, h0⟩ | ⟨k, cap, cur, he, hb, hcc, hle, hm, -⟩⟩ := ho
  · omega
  · omega
set_option maxRecDepth 100000 in
set_option maxHeartbeats 4000000 in
theorem made_gives (neg : Bool) (p : Option Addr) (cap : Nat) (ds : List Nat) (w : World) (hu : U32s w.heap.size w (.slice p ds.length cap) ds) (hcap : (strip ds).length = ds.length ∨ ds.length ≤ cap) (hd : Digits ds) (h64 : val ds < B32 ^ 64) :
    Calls Tryz.prog 64 #[.bool neg, .slice p ds.length cap] w (Gives w (madeZ neg (val ds)) (decide (madeZ neg (val ds) < 0))) := by
  have hsd := strip_digs hd
  have hlen : (strip ds).length ≤ 64 := by rw [hsd]; exact digs_len.2 h64
  obtain ⟨W1, hW1⟩ : ∃ W1, W1 = w.alloc (.cells #[.bool false, .slice none 0 0] 25) := ⟨_, rfl⟩
  have hx1 : Ext w W1 := by rw [hW1]; exact Ext.alloc _ _
  have hr1 : RowAt W1 w.heap.size 25 (numCells false none 0 0) := by rw [hW1]; exact RowAt.new' _ _ (by simp)
  have HC := Lib.hid (trim_calls p cap ds W1 (hx1.u32s hu) hcap)
  have Hx1 := Lib.hid hx1
  have Hr1 := Lib.hid hr1
  have HW1 := Lib.hid hW1
  have Hu := Lib.hid hu
  have Hsd := Lib.hid hsd
  have H64 := Lib.hid h64
  have hwz : w.heap.size < W1.heap.size := hr1.lt
  obtain ⟨n, hn⟩ : ∃ n, n = (strip ds).length := ⟨_, rfl⟩
  rw [← hn] at hlen
  have HC' : Hid (Calls Tryz.prog 81 #[.slice p ds.length cap] W1 fun e w' => e = .returned (.slice p n cap) ∧ Ext W1 w') := by rw [hn]; exact HC.out
  have Hn := Lib.hid hn
  obtain ⟨i0, hi, hz0, hz1, hz2⟩ := info_parts info_u32
  clear hu hcap hd h64 hsd hx1 hr1 hW1 HC hn
  go_enter Tryz.func64, Tryz.ntmps64
  go_wp2_with fail
  rw [← HW1.out]
  refine HC'.out.mono ?_
  rintro e w1 ⟨rfl, hx⟩
  have Hx := Lib.hid (Hx1.out.trans hx)
  have Hr := Lib.hid (hx.row Hr1.out)
  have Hu1 := Lib.hid ((Hx1.out.trans hx).u32s Hu.out)
  have hsz := Below.size hx
  clear hx
  by_cases h0 : n = 0
  · subst h0
    go_wp2_with (refine store_num rfl (.tmp 4) (.tmp 15) rfl w.heap.size rfl _ _ _ _ rfl _ _ Hr.out rfl ?_)
    have hv0 : val ds = 0 := by rw [← val_digs (val ds), ← Hsd.out, List.length_eq_zero_iff.1 Hn.out.symm]; rfl
    refine ret_num rfl w.heap.size rfl _ rfl _ _ _ _ _ (Hr.out.setRow _) ⟨none, 0, 0, ?_, ?_, ext_setRow Hx.out (Nat.le_refl _) _⟩
    · rw [hv0]; cases neg <;> rfl
    · rw [hv0]
      refine ⟨⟨_, by cases neg <;> rfl, none, 0, by cases neg <;> rfl, by cases neg <;> decide, fun h => ?_⟩, by cases neg <;> decide⟩
      cases neg <;> exact absurd h (by decide)
  · have hlt : ¬ (64 : Int) < (n : Int) := by omega
    have hn0 : ¬ (n : Int) = 0 := by omega
    have hdn : n ≤ ds.length := by rw [Hn.out]; exact strip_length_le _
    obtain ⟨p', cap', he, -, hc⟩ := Hu1.out
    cases he
    obtain ⟨b, off, rfl, hb, hcs⟩ := hc (by omega)
    obtain ⟨news, hnews⟩ : ∃ news, news = u32l (strip ds) := ⟨_, rfl⟩
    have hnl : news.length = n := by rw [hnews, u32l_length, Hn.out]
    have Hc1 : Hid (∀ o (j : Nat) (u : Value), news[j]? = some u → (w1.alloc o).cell? (Addr.add ⟨b, off, none⟩ j) = some u) := fun o j u hj => by
      have hj' : j < n := by have := (List.getElem?_eq_some_iff.1 hj).1; omega
      have e1 : (w1.alloc o).cell? ⟨b, off + j, none⟩ = w1.cell? ⟨b, off + j, none⟩ := (Ext.alloc w1 o).cell (p := ⟨b, off + j, none⟩) hb
      rw [show Addr.add ⟨b, off, none⟩ j = ⟨b, off + j, none⟩ by simp [Addr.add], e1, hcs j (by omega), ← hj, hnews, u32l_get (by rw [← Hn.out]; exact hj'), ← strip_take, List.getElem?_take_of_lt (by rw [← Hn.out]; exact hj')]
    have Hc2 : Hid (∀ u ∈ news, u.oneCell' = true) := by rw [hnews]; exact u32l_one _
    have Hnews := Lib.hid hnews
    clear hcs hc hnews
    have hown : (w1.alloc (.cells #[] 87)).ownsRow w1.heap.size 87 1 (.slice (some ⟨w1.heap.size, 0, none⟩) 0 0) 0 [] := World.ownsRow_lit w1 #[] 0 (Nat.le_refl _) (by decide) rfl
    have Hown := Lib.hid hown
    clear hown
    have HL := Lib.hid hnl
    go_wp2_with (first | (at_builtin; refine wpList_append_own _ rfl (.tmp 17) (.tmp 18) 23 rfl w1.heap.size 87 i0 (.int .u32 0) 1 4 Tryz.underlying23 hi hz0 hz1 hz2 rfl (by decide) _ _ _ rfl Hown.out ⟨b, off, none⟩ n cap news rfl (by rw [hnl, Nat.mul_one]) (Hc1.out _) Hc2.out (by unfold maxLen; omega) (by omega) (by simp) ?_; intro v' w2 hown' hgrow _; obtain ⟨pv, cv, rfl, hu2, hx2⟩ := made_own HL.out Hnews.out hown' hgrow; have Hu2 := Lib.hid hu2; have Hx2 := Lib.hid hx2; have Hr2 := Lib.hid (hx2.row Hr.out); clear hown' hgrow hu2 hx2) | (refine store_num rfl (.tmp 4) (.tmp 20) rfl w.heap.size rfl neg pv n cv rfl _ _ Hr2.out rfl ?_))
    have hne : val ds ≠ 0 := fun e => by
      have h := Hn.out; rw [Hsd.out, e] at h; exact h0 h
    refine ret_num rfl w.heap.size rfl _ rfl _ _ _ _ _ (Hr2.out.setRow _) ⟨pv, n, cv, by rw [madeZ_neg hne], ?_, ext_setRow (Hx.out.trans Hx2.out) (Nat.le_refl _) _⟩
    have hx3 : Below (w2.setRow w.heap.size (numCells neg pv n cv)).heap.size (w2.setRow w.heap.size (numCells neg pv n cv)) (w2.setRow w.heap.size (numCells neg pv n cv)) := Below.refl _ _
    refine ⟨⟨.slice pv n cv, by rw [madeZ_neg hne], ?_⟩, by rw [madeZ_abs]; exact H64.out⟩
    rw [madeZ_abs, ← Hsd.out]
    exact Hu2.out _ (by have := Hr.out.lt; omega) _
end Go.Proofs.YtegjcikofmphjaaGreatDoor
/- The reference of layer 1: Made, the number that a list of ints makes. -/
namespace Go.Proofs.YtegjcikofmphjaaGreatDoor
open Go Go.RowKit Go.Shelf
def I64s (B : Nat) (w : World) (v : Value) (zs : List Int) : Prop :=
  ∃ (p : Option Addr) (cap : Nat), v = .slice p zs.length cap ∧ zs.length ≤ maxLen ∧ (0 < zs.length → ∃ b off, p = some ⟨b, off, none⟩ ∧ b < B ∧ ∀ j, j < zs.length → w.cell? ⟨b, off + j, none⟩ = some (.int .i64 (zs[j]?.getD 0)))
theorem I64s.below {B : Nat} {w w' : World} {v : Value} {zs : List Int} (h : I64s B w v zs) (hb : Below B w w') : I64s B w' v zs := by
  obtain ⟨p, cap, rfl, hl, hc⟩ := h
  refine ⟨p, cap, rfl, hl, fun h0 => ?_⟩
  obtain ⟨b, off, rfl, hB, hc⟩ := hc h0
  exact ⟨b, off, rfl, hB, fun j hj => (hb.cell (p := ⟨b, off + j, none⟩) hB).trans (hc j hj)⟩
theorem I64s.mono {B B' : Nat} {w : World} {v : Value} {zs : List Int} (h : I64s B w v zs) (hb : B ≤ B') : I64s B' w v zs := by
  obtain ⟨p, cap, rfl, hl, hc⟩ := h
  refine ⟨p, cap, rfl, hl, fun h0 => ?_⟩
  obtain ⟨b, off, rfl, hB, hc⟩ := hc h0
  exact ⟨b, off, rfl, by omega, hc⟩
theorem own_step {wr w1 : World} {base j : Nat} {d : Nat} {o : Obj} {v v' : Value} {ds : List Nat} (ho : Owns wr base v ds) (hj : ds.length = j) (hbase : base ≤ wr.heap.size)
    (h : w1.ownsRow base 87 1 v' (j + 1) (u32l ds ++ [.int .u32 (d : Int)])) (hg : (wr.alloc o).grownBy w1 v.ownBlock) : Owns w1 base v' (ds ++ [d]) ∧ Below base wr w1 ∧ wr.heap.size ≤ w1.heap.size := by
  subst hj
  refine ⟨?_, ?_, ?_⟩
  · show w1.ownsRow base 87 1 v' (ds ++ [d]).length (u32l (ds ++ [d]))
    rw [← u32l_append, List.length_append]; exact h
  · exact Below.grown ((Below.refl _ _).alloc hbase o) hg (by simp; omega) (fun k hk => (World.ownsRow.lt ho k hk).1)
  · exact Nat.le_trans (by simp) hg.size
theorem made_tail {w wr w1 : World} {o : Obj} {z : Int} {neg : Bool} {p1 : Option Addr} {n1 c1 : Nat} {cs cs2 : Array Value} (hz : ZNum w1.heap.size w1 (.agg #[.bool neg, .slice p1 n1 c1]) z) (hx : Ext wr w1) (hr : RowAt wr w.heap.size 25 (numCells false none 0 0)) (hB : Ext w wr) :
    Gives1 w z neg (.returned (.agg #[.bool neg, .slice p1 n1 c1])) (((w1.alloc o).setRow w1.heap.size cs).setRow w.heap.size cs2) := by
  have hlt := (hx.row hr).lt
  have hx2 : Ext w1 ((w1.alloc o).setRow w1.heap.size cs) := ext_setRow (Ext.alloc w1 o) (Nat.le_refl _) _
  refine ⟨p1, n1, c1, rfl, ?_, ext_setRow ((hB.trans hx).trans hx2) (Nat.le_refl _) _⟩
  rw [setRow_size]
  exact (hx2.num hz).setNum ((hx2.row (hx.row hr))) cs2
end Go.Proofs.YtegjcikofmphjaaGreatDoor

