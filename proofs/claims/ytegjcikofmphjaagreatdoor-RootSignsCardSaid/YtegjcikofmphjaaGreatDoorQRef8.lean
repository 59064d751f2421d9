/- Texts that belong together. -/
import Derived.Test.YtegjcikofmphjaaGreatDoorQRef7
import Derived.StillTailTactics
import Derived.Lib.MinMax
set_option linter.all false
/- The reference of layer 1: half. -/
namespace Go.Proofs.YtegjcikofmphjaaGreatDoor
open Go Go.RowKit Go.Shelf
@[irreducible] def H31 : Nat := 2147483648
theorem H31_eq : H31 = 2147483648 := by unfold H31; rfl
def halfs : List Nat → List Nat
  | [] => []
  | d :: ds => (d / 2 + ds[0]?.getD 0 % 2 * H31) :: halfs ds
theorem halfs_length (xs : List Nat) : (halfs xs).length = xs.length := by
  induction xs with
  | nil => rfl
  | cons d ds ih => rw [halfs, List.length_cons, List.length_cons, ih]
theorem halfs_get (xs : List Nat) : ∀ k, k < xs.length → (halfs xs)[k]?.getD 0 = xs[k]?.getD 0 / 2 + xs[k + 1]?.getD 0 % 2 * H31 := by
  induction xs with
  | nil => intro k h; exact absurd h (by simp)
  | cons d ds ih =>
    intro k h
    cases k with
    | zero => rw [halfs, List.getElem?_cons_zero, List.getElem?_cons_zero, List.getElem?_cons_succ, Option.getD_some, Option.getD_some]
    | succ k =>
      rw [halfs, List.getElem?_cons_succ, List.getElem?_cons_succ, List.getElem?_cons_succ]
      exact ih k (by simpa using h)
theorem halfs_digits : ∀ {xs : List Nat}, Digits xs → Digits (halfs xs)
  | [], _ => Digits.nil
  | d :: ds, h => by
    rw [Digits.cons] at h
    have := halfs_digits h.2
    rw [halfs, Digits.cons]
    refine ⟨?_, this⟩
    have h1 := h.1
    rw [H31_eq]
    unfold B32 at h1 ⊢
    omega
theorem val_mod2 (xs : List Nat) : val xs % 2 = xs[0]?.getD 0 % 2 := by
  cases xs with
  | nil => rfl
  | cons d ds => rw [val_cons]; simp only [List.getElem?_cons_zero, Option.getD_some]; unfold B32; omega
theorem halfs_val : ∀ (xs : List Nat), val (halfs xs) = val xs / 2
  | [] => rfl
  | d :: ds => by
    have ih := halfs_val ds
    have h2 := val_mod2 ds
    rw [halfs, val_cons, val_cons, ih, ← h2, H31_eq]
    unfold B32
    omega
def halfTo (xs : List Nat) (k : Nat) : List Nat := (halfs xs).take k ++ xs.drop k
theorem halfTo_length {xs : List Nat} {k : Nat} (h : k ≤ xs.length) : (halfTo xs k).length = xs.length := by
  unfold halfTo; rw [List.length_append, List.length_take, List.length_drop, halfs_length]; omega
theorem halfTo_get {xs : List Nat} {k : Nat} (h : k < xs.length) : (halfTo xs k)[k]?.getD 0 = xs[k]?.getD 0 := by
  unfold halfTo
  rw [List.getElem?_append_right (by rw [List.length_take, halfs_length]; omega), List.length_take, halfs_length, List.getElem?_drop]
  congr 2
  omega
theorem halfTo_set {xs : List Nat} {k : Nat} (h : k < xs.length) : (halfTo xs k).set k ((halfs xs)[k]?.getD 0) = halfTo xs (k + 1) := by
  unfold halfTo
  have hl : ((halfs xs).take k).length = k := by rw [List.length_take, halfs_length]; omega
  rw [List.set_append_right _ _ (by omega), hl, Nat.sub_self, List.drop_eq_getElem_cons h, List.set_cons_zero, List.take_add_one, List.append_assoc]
  congr 1
  rw [List.getElem?_eq_getElem (by rw [halfs_length]; exact h)]
  rfl
theorem halfTo_all (xs : List Nat) : halfTo xs xs.length = halfs xs := by
  unfold halfTo; rw [List.drop_eq_nil_of_le (Nat.le_refl _), List.append_nil, List.take_of_length_le (by rw [halfs_length]; exact Nat.le_refl _)]
theorem halfTo_zero (xs : List Nat) : halfTo xs 0 = xs := by simp [halfTo]
theorem owns_stored {w : World} {base g n cap : Nat} {ds : List Nat} (h : w.ownsRow base 87 1 (.slice (some ⟨g, 0, none⟩) n cap) n (u32l ds)) (j d : Nat) : (w.setCell ⟨g, j, none⟩ (.int .u32 (d : Int))).ownsRow base 87 1 (.slice (some ⟨g, 0, none⟩) n cap) n (u32l (ds.set j d)) := by
  have h1 := (World.ownsRow.stored h j (.int .u32 (d : Int))).1
  have e : (u32l ds).set j (.int .u32 (d : Int)) = u32l (ds.set j d) := by simp [u32l, List.map_set]
  rwa [e] at h1
theorem owns_cell {w : World} {base g n cap : Nat} {ds : List Nat} (h : w.ownsRow base 87 1 (.slice (some ⟨g, 0, none⟩) n cap) n (u32l ds)) {j : Nat} (hj : j < n) : w.cell? ⟨g, j, none⟩ = some (.int .u32 ((ds[j]?.getD 0 : Nat) : Int)) := by
  have hl : ds.length = n := by have := h.1; rw [u32l_length] at this; omega
  rw [World.ownsRow.cellAt h j (by omega), u32l_get (by omega)]
theorem made_own2 {w1 w2 : World} {o : Obj} {n : Nat} {ds : List Nat} {news : List Value} {v' : Value} (hn : news.length = n) (hn0 : 0 < n) (hnews : news = u32l ds)
    (h : w2.ownsRow w1.heap.size 87 1 v' (0 + n) ([] ++ news)) (hg : (w1.alloc o).grownBy w2 (some w1.heap.size)) :
    ∃ g c, v' = .slice (some ⟨g, 0, none⟩) n c ∧ w1.heap.size ≤ g ∧ n ≤ c ∧ w2.ownsRow w1.heap.size 87 1 (.slice (some ⟨g, 0, none⟩) n c) n (u32l ds) ∧ Ext w1 w2 := by
  subst hnews
  rw [Nat.zero_add, List.nil_append] at h
  have hx := ext_grown hg
  obtain ⟨hl, ⟨-, h0⟩ | ⟨g, cap, cur, rfl, hb, hrest⟩⟩ := id h
  · omega
  · exact ⟨g, cap, rfl, hb, hrest.2.1, h, hx⟩
set_option maxRecDepth 100000 in
set_option maxHeartbeats 8000000 in
theorem half_calls (v : Value) (xs : List Nat) (w : World) (hx : U32s w.heap.size w v xs) (hdx : Digits xs) (hb0 : 0 < xs.length) (hbx : xs.length ≤ 1099511627776) :
    Calls Tryz.prog 71 #[v] w fun e w' => ∃ r, e = .returned r ∧ U32s w'.heap.size w' r (digs (val xs / 2)) ∧ Ext w w' ∧ NewS w.heap.size r := by
  obtain ⟨p, cap, rfl, hl, hc⟩ := hx
  obtain ⟨b, off, rfl, hb, hcs⟩ := hc hb0
  obtain ⟨n, hn⟩ : ∃ n, n = xs.length := ⟨_, rfl⟩
  rw [← hn] at hb0 hbx ⊢
  have Hn := Lib.hid hn
  have Hcs := Lib.hid hcs
  have Hdx := Lib.hid hdx
  have Hdone : Hid (val (halfTo xs n) = val xs / 2) := by rw [hn, halfTo_all]; exact halfs_val xs
  have Hdig : Hid (Digits (halfTo xs n)) := by rw [hn, halfTo_all]; exact halfs_digits hdx
  obtain ⟨i0, hi, hz0, hz1, hz2⟩ := info_parts info_u32
  have hnl : (u32l xs).length = n := by rw [u32l_length, hn]
  have Hc1 : Hid (∀ o (j : Nat) (u : Value), (u32l xs)[j]? = some u → (w.alloc o).cell? (Addr.add ⟨b, off, none⟩ j) = some u) := fun o j u hj => by
    have hj' : j < xs.length := by have := (List.getElem?_eq_some_iff.1 hj).1; rw [u32l_length] at this; exact this
    have e1 : (w.alloc o).cell? ⟨b, off + j, none⟩ = w.cell? ⟨b, off + j, none⟩ := (Ext.alloc w o).cell (p := ⟨b, off + j, none⟩) hb
    rw [show Addr.add ⟨b, off, none⟩ j = ⟨b, off + j, none⟩ by simp [Addr.add], e1, hcs j hj', ← hj, u32l_get hj']
  have Hown0 : Hid ((w.alloc (.cells #[] 87)).ownsRow w.heap.size 87 1 (.slice (some ⟨w.heap.size, 0, none⟩) 0 0) 0 []) := World.ownsRow_lit w #[] 0 (Nat.le_refl _) (by decide) rfl
  clear hcs hc hl hn hdx
  go_enter Tryz.func71, Tryz.ntmps71
  go_wp2_with (at_builtin; refine wpList_append_own _ rfl (.tmp 5) (.tmp 6) 23 rfl w.heap.size 87 i0 (.int .u32 0) 1 4 Tryz.underlying23 hi hz0 hz1 hz2 rfl (by decide) _ _ _ rfl Hown0.out ⟨b, off, none⟩ n cap (u32l xs) rfl (by rw [hnl, Nat.mul_one]) (Hc1.out _) (u32l_one _) (by unfold maxLen; omega) (by omega) (by simp) ?_; intro v' w2 hown' hgrow _; obtain ⟨g, c2, rfl, hge, hc2, ho2, hx2⟩ := made_own2 hnl hb0 rfl hown' hgrow; have Ho2 := Lib.hid ho2; have Hx2 := Lib.hid hx2; clear hown' hgrow ho2 hx2)
  go_wp2
  go_loopw [4] (fun i wr => ∃ k : Nat, i = .int .i64 (k : Int) ∧ k ≤ n ∧ wr.ownsRow w.heap.size 87 1 (.slice (some ⟨g, 0, none⟩) n c2) n (u32l (halfTo xs k)) ∧ Ext w wr) (fun i _ => n - (intOf i).toNat)
  case atStart => exact ⟨0, rfl, by omega, by rw [halfTo_zero]; exact Ho2.out, Hx2.out⟩
  case round =>
    obtain ⟨k, rfl, hk, ho, hB⟩ := hrel
    have Ho := Lib.hid ho
    have HB := Lib.hid hB
    by_cases h1 : k < n
    · have hcg := owns_cell ho h1
      have hfg := World.ownsRow.frozenAt ho k
      rw [halfTo_get (by rw [← Hn.out]; exact h1)] at hcg
      obtain ⟨x, hx⟩ : ∃ x, x = xs[k]?.getD 0 := ⟨_, rfl⟩
      rw [← hx] at hcg
      have hxB := Hdx.out.getD k
      rw [← hx] at hxB
      unfold B32 at hxB
      have hgk : (k : Int) < (n : Int) := by omega
      have hshr : (x : Int).fdiv (2 ^ min (Int.toNat 1) IntKind.u32.bits) = ((x / 2 : Nat) : Int) := by
        rw [show min (Int.toNat 1) IntKind.u32.bits = 1 from rfl, show (2 : Int) ^ 1 = 2 from rfl, Int.fdiv_eq_ediv_of_nonneg _ (by decide)]
        omega
      have Hx := Lib.hid hx
      clear ho hB hx
      by_cases h2 : k + 1 < n
      · have hg2 : (k : Int) + 1 < (n : Int) := by omega
        have hbl : k + 1 < xs.length := by rw [← Hn.out]; exact h2
        have hy1 := (Below.cell HB.out (p := ⟨b, off + (k + 1), none⟩) hb).trans (Hcs.out (k + 1) hbl)
        obtain ⟨y, hy⟩ : ∃ y, y = xs[k + 1]?.getD 0 := ⟨_, rfl⟩
        rw [← hy] at hy1
        have hyB := Hdx.out.getD (k + 1)
        rw [← hy] at hyB
        unfold B32 at hyB
        have Hy := Lib.hid hy
        have hown1 := owns_stored Ho.out k (x / 2)
        rw [show ((x / 2 : Nat) : Int) = (x : Int) / 2 by omega] at hown1
        obtain ⟨w1, hw1⟩ : ∃ w1, w1 = wr.setCell ⟨g, k, none⟩ (.int .u32 ((x : Int) / 2)) := ⟨_, rfl⟩
        rw [← hw1] at hown1
        have hc1 := owns_cell hown1 h1
        rw [List.getElem?_set_self (by rw [halfTo_length (by rw [← Hn.out]; omega), ← Hn.out]; exact h1), Option.getD_some, show ((x / 2 : Nat) : Int) = (x : Int) / 2 by omega] at hc1
        have hf1 := World.ownsRow.frozenAt hown1 k
        have hy2 : w1.cell? ⟨b, off + (k + 1), none⟩ = some (.int .u32 (y : Int)) := by
          rw [hw1, ← hy1]
          exact World.cell?_of_block (heap_setCell_other _ ⟨g, k, none⟩ b _ (by show b ≠ g; omega))
        have hx1 : Ext w w1 := by rw [hw1]; exact Below.setCell HB.out (p := ⟨g, k, none⟩) hge _
        have Hown1 := Lib.hid hown1
        have Hx1 := Lib.hid hx1
        have HW1 := Lib.hid hw1
        have hg3 : (k : Int) + 1 < (n : Int) := by omega
        clear hown1 hx1 hw1 hy hy1 hbl
        go_wp2
        rw [← HW1.out]
        clear hcg hfg
        have hc1' : w1.drew.cell? ⟨g, k, none⟩ = some (.int .u32 ((x : Int) / 2)) := hc1
        have hf1' : w1.drew.frozen? ⟨g, k, none⟩ = false := hf1
        have hy2' : w1.drew.cell? ⟨b, off + (k + 1), none⟩ = some (.int .u32 (y : Int)) := hy2
        have hwk : IntKind.i64.wrap ((k : Int) + 1) = (k : Int) + 1 := by rw [IntKind.wrap_i64]; omega
        have htk : ((k : Int) + 1).toNat = k + 1 := by omega
        have hk0 : (0 : Int) ≤ (k : Int) + 1 := by omega
        clear hc1 hf1 hy2
        obtain ⟨z, hz⟩ : ∃ z, z = x / 2 + y % 2 * H31 := ⟨_, rfl⟩
        have hor : bits .or .u32 ((x : Int) / 2) (IntKind.u32.wrap ((y : Int) * 2147483648)) = ((z : Nat) : Int) := by
          have h := back_or (b := 1) (d := x) (t := y % 2) (by decide) (by unfold B32; omega) (by omega)
          rw [show IntKind.u32.wrap ((y : Int) * 2147483648) = ((y % 2 * 2 ^ (32 - 1) : Nat) : Int) by rw [IntKind.wrap_u32]; omega]
          rw [show ((x : Int) / 2) = (x : Int) / 2 ^ 1 by rfl, h, hz, H31_eq]
        have hz2 : z = (halfs xs)[k]?.getD 0 := by rw [hz, halfs_get xs k (by rw [← Hn.out]; exact h1), ← Hx.out, ← Hy.out]
        have Hz2 := Lib.hid hz2
        clear hz hz2
        go_still_tail 13, (by kernel_rfl)
        change wpList _ _ _ _ _ w1.drew
        go_wp2
        go_roundw
        case rel =>
          refine ⟨k + 1, by go_num, by omega, ?_, ?_⟩
          · have h := owns_stored (World.ownsRow.drew Hown1.out) k z
            rw [List.set_set, Hz2.out, halfTo_set (by rw [← Hn.out]; exact h1)] at h
            rw [Hz2.out]
            exact h
          · exact Below.setCell (Below.drew Hx1.out) (p := ⟨g, k, none⟩) hge _
        case measure => simp [intOf]; omega
      · have hg2 : ¬ (k : Int) + 1 < (n : Int) := by omega
        go_wp2
        go_roundw
        case rel =>
          refine ⟨k + 1, by go_num, by omega, ?_, Below.setCell HB.out (p := ⟨g, k, none⟩) hge _⟩
          have h := owns_stored Ho.out k (x / 2)
          have hz : x / 2 = (halfs xs)[k]?.getD 0 := by rw [halfs_get xs k (by rw [← Hn.out]; exact h1), ← Hx.out, getD_of_ge (k := k + 1) (by have := Hn.out; omega)]; simp
          rw [← halfTo_set (by rw [← Hn.out]; exact h1), ← hz]
          rw [show ((x / 2 : Nat) : Int) = (x : Int) / 2 by omega] at h
          exact h
        case measure => simp [intOf]; omega
    · obtain rfl : k = n := by omega
      have hgk : ¬ (k : Int) < (k : Int) := by omega
      have HT := Lib.hid (trim_digs (by rw [halfTo_length (by rw [← Hn.out]; exact Nat.le_refl _), ← Hn.out]) (Owns.u32s (ds := halfTo xs k) (by unfold Owns; rw [halfTo_length (by rw [← Hn.out]; exact Nat.le_refl _), ← Hn.out]; exact ho) (by rw [halfTo_length (by rw [← Hn.out]; exact Nat.le_refl _), ← Hn.out]; unfold maxLen; omega)) (.inr hc2) Hdig.out)
      clear ho hB
      go_wp2_with fail
      refine HT.out.mono ?_
      rintro e w3 ⟨k2, rfl, -, -, hu3, hx3⟩
      have Hu3 := Lib.hid hu3
      have Hx3 := Lib.hid hx3
      clear hu3 hx3
      go_wp2
      go_ret
      exact ⟨_, rfl, by rw [← Hdone.out]; exact Hu3.out, HB.out.trans Hx3.out, fun b off m c e => by cases e; exact hge⟩
end Go.Proofs.YtegjcikofmphjaaGreatDoor

