/- Layer 1: number. -/
import Derived.Test.YtcmpgboifcemmaaDoorRow
set_option linter.all false
namespace Go.Proofs.YtcmpgboifcemmaaDoor
open Go Go.RowKit Go.Shelf

/-- The value v is a number with this sign and these digits, which lie below block B. -/
def NumV (B : Nat) (w : World) (v : Value) (neg : Bool) (ds : List Nat) : Prop := ∃ s, v = .agg #[.bool neg, s] ∧ U32s B w s ds
theorem NumV.below {B : Nat} {w w' : World} {v : Value} {neg : Bool} {ds : List Nat} (h : NumV B w v neg ds) (hb : Below B w w') : NumV B w' v neg ds := by
  obtain ⟨s, rfl, hs⟩ := h; exact ⟨s, rfl, hs.below hb⟩
theorem NumV.mono {B B' : Nat} {w : World} {v : Value} {neg : Bool} {ds : List Nat} (h : NumV B w v neg ds) (hb : B ≤ B') : NumV B' w v neg ds := by
  obtain ⟨s, rfl, hs⟩ := h; exact ⟨s, rfl, hs.mono hb⟩
theorem u32s_nil (B : Nat) (w : World) : U32s B w (.slice none 0 0) [] := ⟨none, 0, rfl, Nat.zero_le _, fun h => by cases h⟩
theorem numV_zero (B : Nat) (w : World) : NumV B w (.agg #[.bool false, .slice none 0 0]) false [] := ⟨_, rfl, u32s_nil B w⟩

/-- The slice value v reads as the digits ds, which lie in a block from lo on, below B. -/
def U32N (lo B : Nat) (w : World) (v : Value) (ds : List Nat) : Prop :=
  ∃ (p : Option Addr) (cap : Nat), v = .slice p ds.length cap ∧ ds.length ≤ maxLen ∧ (0 < ds.length → ∃ b off, p = some ⟨b, off, none⟩ ∧ lo ≤ b ∧ b < B ∧ ∀ j, j < ds.length → w.cell? ⟨b, off + j, none⟩ = some (.int .u32 ((ds[j]?.getD 0 : Nat) : Int)))
theorem U32N.u32s {lo B : Nat} {w : World} {v : Value} {ds : List Nat} (h : U32N lo B w v ds) : U32s B w v ds := by
  obtain ⟨p, cap, rfl, hl, hc⟩ := h
  refine ⟨p, cap, rfl, hl, fun h0 => ?_⟩
  obtain ⟨b, off, rfl, _, hB, hc⟩ := hc h0
  exact ⟨b, off, rfl, hB, hc⟩
theorem u32n_nil (lo B : Nat) (w : World) : U32N lo B w (.slice none 0 0) [] := ⟨none, 0, rfl, Nat.zero_le _, fun h => by cases h⟩

/-- What 'number' and all that return what it returns hand back: a number, with digits of its own, and a bool; nothing that was there has changed. -/
def NumPost (w : World) (neg : Bool) (ds : List Nat) (ok : Bool) (e : Ending) (w' : World) : Prop :=
  ∃ s, e = .returned (.tuple #[.agg #[.bool neg, s], .bool ok]) ∧ U32N w.heap.size w'.heap.size w' s ds ∧ Below w.heap.size w w'

/-- w' is w but for block g. -/
structure Turned (g : Nat) (w w' : World) : Prop where
  size : w'.heap.size = w.heap.size
  os : w'.os = w.os
  tape : w'.tape = w.tape
  output : w'.output = w.output
  block : ∀ k, k ≠ g → w'.heap[k]? = w.heap[k]?
theorem turned_setRow (w : World) (g : Nat) (cs : Array Value) : Turned g w (w.setRow g cs) := ⟨by simp, rfl, rfl, rfl, fun k hk => setRow_other w g k cs hk⟩
theorem turned_set2 (w : World) (g : Nat) (u v : Value) : Turned g w ((w.setCell ⟨g, 0, none⟩ u).setCell ⟨g, 1, none⟩ v) :=
  ⟨by simp [World.setCell], rfl, rfl, rfl, fun k hk => (heap_setCell_other _ ⟨g, 1, none⟩ k v hk).trans (heap_setCell_other _ ⟨g, 0, none⟩ k u hk)⟩

/-- What a callee has handed back is handed on, once it has been written into block g of one's own. -/
theorem finNum {w W w5 w6 : World} {g : Nat} {s : Value} {ds : List Nat} (hB : Below w.heap.size w W) (hg : w.heap.size ≤ g) (hgW : g < W.heap.size) (hu : U32N W.heap.size w5.heap.size w5 s ds) (hb5 : Below W.heap.size W w5) (ht : Turned g w5 w6) :
    U32N w.heap.size w6.heap.size w6 s ds ∧ Below w.heap.size w w6 := by
  have h1 := hB.trans (hb5.mono hB.size)
  refine ⟨?_, ⟨ht.os.trans h1.os, ht.tape.trans h1.tape, ht.output.trans h1.output, by rw [ht.size]; exact h1.size, fun k hk => (ht.block k (by omega)).trans (h1.block k hk)⟩⟩
  obtain ⟨p, cap, rfl, hl, hc⟩ := hu
  refine ⟨p, cap, rfl, hl, fun h0 => ?_⟩
  obtain ⟨b, off, rfl, hlo, hlt, hcs⟩ := hc h0
  have := hB.size
  exact ⟨b, off, rfl, by omega, by rw [ht.size]; exact hlt, fun j hj => (World.cell?_of_block (ht.block b (by omega))).trans (hcs j hj)⟩

def resNeg (neg : Bool) (ds : List Nat) : Bool := if ds = [] ∨ 64 < ds.length then false else neg
def resDs (ds : List Nat) : List Nat := if 64 < ds.length then [] else ds
def resOk (ds : List Nat) : Bool := decide (ds.length ≤ 64)

set_option maxRecDepth 100000 in
set_option maxHeartbeats 2000000 in
theorem number_calls (neg : Bool) (v : Value) (ds : List Nat) (w : World) (hu : U32s w.heap.size w v ds) :
    Calls Tryd.prog 31 #[.bool neg, v] w (NumPost w (resNeg neg (strip ds)) (resDs (strip ds)) (resOk (strip ds))) := by
  have hlen := length_calls v ds (w.alloc (.cells #[.bool false, .slice none 0 0] 26)) ((hu.below ((Below.refl _ w).alloc (Nat.le_refl _) _)).mono (by simp))
  have hst := strip_length_le ds
  have htk := strip_take ds
  generalize hsd : strip ds = sd at *
  obtain ⟨p, cap, rfl, hl, hc⟩ := hu
  have hlm := digs_lt_maxLen hl
  have Hlen := Lib.hid hlen
  have Hsd := Lib.hid hsd
  have Htk := Lib.hid htk
  clear hlen hsd hl htk
  by_cases h0 : sd.length = 0
  · obtain rfl : sd = [] := List.eq_nil_of_length_eq_zero h0
    clear hc h0
    go_enter Tryd.func31, Tryd.ntmps31
    go_wp2_with fail
    refine Hlen.out.mono ?_
    rintro e w1 ⟨rfl, hb1⟩
    have Hr := Lib.hid ((RowAt.new w 26 #[.bool false, .slice none 0 0]).below hb1 (by simp))
    go_wp2_with (refine store_num rfl (.tmp 4) (.tmp 12) rfl w.heap.size rfl false none 0 0 rfl _ _ Hr.out rfl ?_)
    refine ret_num rfl w.heap.size rfl true rfl false none 0 0 _ (Hr.out.setRow _) ⟨_, rfl, u32n_nil _ _ _, below_setRow2 (((Below.refl _ w).alloc (Nat.le_refl _) _).trans (hb1.mono (by simp))) (Nat.le_refl _) _⟩
  · by_cases h64 : 64 < sd.length
    · have hne : sd ≠ [] := by intro e; simp [e] at h0
      have hgt : ((sd.length : Int) == 0) = false := by simp; omega
      have e1 : resNeg neg sd = false := by simp [resNeg, h64]
      have e2 : resDs sd = [] := by simp [resDs, h64]
      have e3 : resOk sd = false := by simp [resOk, h64]
      rw [e1, e2, e3]
      clear hc e1 e2 e3 hne h0
      go_enter Tryd.func31, Tryd.ntmps31
      go_wp2_with fail
      refine Hlen.out.mono ?_
      rintro e w1 ⟨rfl, hb1⟩
      have Hr := Lib.hid ((RowAt.new w 26 #[.bool false, .slice none 0 0]).below hb1 (by simp))
      go_wp2_with (refine store_num rfl (.tmp 4) (.tmp 15) rfl w.heap.size rfl false none 0 0 rfl _ _ Hr.out rfl ?_)
      refine ret_num rfl w.heap.size rfl false rfl false none 0 0 _ (Hr.out.setRow _) ⟨_, rfl, u32n_nil _ _ _, below_setRow2 (((Below.refl _ w).alloc (Nat.le_refl _) _).trans (hb1.mono (by simp))) (Nat.le_refl _) _⟩
    · have hne : sd ≠ [] := by intro e; simp [e] at h0
      have hgt : ((sd.length : Int) == 0) = false := by simp; omega
      have e1 : resNeg neg sd = neg := by simp [resNeg, h64, hne]
      have e2 : resDs sd = sd := by simp [resDs, h64]
      have e3 : resOk sd = true := by simp [resOk]; omega
      rw [e1, e2, e3]
      obtain ⟨b, off, rfl, hb, hcs⟩ := hc (by omega)
      obtain ⟨n, hn⟩ : ∃ n, n = sd.length := ⟨_, rfl⟩
      have Hcs : Hid (∀ j, j < n → w.cell? ⟨b, off + j, none⟩ = some (.int .u32 ((sd[j]?.getD 0 : Nat) : Int))) := fun j hj => by
        rw [hcs j (by omega), ← Htk.out, List.getElem?_take_of_lt (by omega)]
      rw [← hn] at Hlen hgt h64 hst
      have Hn := Lib.hid hn
      have h0n : 0 < n := by omega
      have h64n : n ≤ 64 := by omega
      clear hcs e1 e2 e3 hne h0 hn h64
      go_enter Tryd.func31, Tryd.ntmps31
      go_wp2_with fail
      refine Hlen.out.mono ?_
      rintro e w1 ⟨rfl, hb1⟩
      have Hr := Lib.hid ((RowAt.new w 26 #[.bool false, .slice none 0 0]).below hb1 (by simp))
      have hsz := hb1.size
      simp only [World.size_alloc] at hsz
      have Hcw : Hid (∀ j, j < n → (w1.alloc (.cells (arr (List.replicate n 0)) 48)).cell? ((⟨b, off, none⟩ : Addr).add j) = some (.int .u32 ((sd[j]?.getD 0 : Nat) : Int))) := fun j hj => by
        rw [Addr.add_mid, World.cell?_alloc_past _ _ _ (by omega)]
        have h1 : (w.alloc (.cells #[.bool false, .slice none 0 0] 26)).cell? ⟨b, off + j, none⟩ = w.cell? ⟨b, off + j, none⟩ := World.cell?_alloc_past _ _ _ hb
        exact (hb1.cell (p := ⟨b, off + j, none⟩) (by simp; omega)).trans (h1.trans (Hcs.out j hj))
      have Hnew := Lib.hid (RowAt.new w1 48 (arr (List.replicate n 0)))
      have Hr2 := Lib.hid (((Hr.out.alloc (.cells (arr (List.replicate n 0)) 48)).setRowOther (k := w1.heap.size) (arr sd) (by omega)))
      have Hn2 := Lib.hid (Hnew.out.setRow (arr sd))
      go_wp2_with (first
        | (refine make_row rfl (.tmp 16) (.tmp 16) rfl n rfl rfl (by omega) ?_)
        | (refine copy_row rfl (.tmp 18) (.tmp 19) rfl w1.heap.size n (List.replicate n 0) sd ⟨b, off, none⟩ ds.length cap rfl rfl Hnew.out (by simp) Hn.out.symm hst Hcw.out ?_)
        | (refine store_num rfl (.tmp 4) (.tmp 23) rfl w.heap.size rfl neg (some ⟨w1.heap.size, 0, none⟩) n n rfl _ _ Hr2.out rfl ?_))
      refine ret_num rfl w.heap.size rfl true rfl neg (some ⟨w1.heap.size, 0, none⟩) n n _ (Hr2.out.setRow _) ⟨_, rfl, ?_, ?_⟩
      · have h3 := Hn2.out.setRowOther (k := w.heap.size) (numCells neg (some ⟨w1.heap.size, 0, none⟩) n n) (by omega)
        refine ⟨_, n, by rw [← Hn.out], by rw [← Hn.out]; unfold maxLen; omega, fun _ => ⟨w1.heap.size, 0, rfl, by omega, by simp, fun j hj => ?_⟩⟩
        rw [Nat.zero_add, h3.cell j, arr_get sd j hj]
      · exact below_setRow2 (below_setRow2 ((((Below.refl _ w).alloc (Nat.le_refl _) _).trans (hb1.mono (by simp))).alloc (by omega) _) (by omega) _) (Nat.le_refl _) _

end Go.Proofs.YtcmpgboifcemmaaDoor
