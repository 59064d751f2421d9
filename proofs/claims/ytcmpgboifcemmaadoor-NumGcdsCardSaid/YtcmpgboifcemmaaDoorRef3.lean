/- The reference of layer 1: made. -/
import Derived.Test.YtcmpgboifcemmaaDoorRef2
import Derived.Test.YtcmpgboifcemmaaDoorLine
import Derived.WalkKit
set_option linter.all false
namespace Go.Proofs.YtcmpgboifcemmaaDoor
open Go Go.RowKit Go.Shelf

/-- The cells of digits, as a list. -/
def u32l (ds : List Nat) : List Value := ds.map fun (d : Nat) => Value.int .u32 (d : Int)
theorem u32l_length (ds : List Nat) : (u32l ds).length = ds.length := by simp [u32l]
theorem u32l_append (a b : List Nat) : u32l a ++ u32l b = u32l (a ++ b) := by simp [u32l]
theorem u32l_get {ds : List Nat} {j : Nat} (h : j < ds.length) : (u32l ds)[j]? = some (.int .u32 ((ds[j]?.getD 0 : Nat) : Int)) := by simp [u32l, h]
theorem u32l_one (ds : List Nat) : ∀ u ∈ u32l ds, u.oneCell' = true := fun u hu => by
  obtain ⟨d, -, rfl⟩ := List.mem_map.1 hu; rfl
/-- The slice v, which the call made itself, holds the digits ds. -/
def Owns (w : World) (base : Nat) (v : Value) (ds : List Nat) : Prop := w.ownsRow base 48 1 v ds.length (u32l ds)
theorem Owns.u32s {w : World} {base : Nat} {v : Value} {ds : List Nat} (h : Owns w base v ds) (hm : ds.length ≤ maxLen) : U32s w.heap.size w v ds := by
  obtain ⟨hl, ⟨rfl, h0⟩ | ⟨g, cap, cur, rfl, hb, hc, hn, hcm, hcs, hx⟩⟩ := id h
  · obtain rfl : ds = [] := List.length_eq_zero_iff.1 h0
    exact ⟨none, 0, rfl, hm, fun hh => absurd hh (by simp)⟩
  · refine ⟨some ⟨g, 0, none⟩, cap, rfl, hm, fun _ => ⟨g, 0, rfl, (Array.getElem?_eq_some_iff.1 hc).1, fun j hj => ?_⟩⟩
    have := World.ownsRow.cellAt h j (by omega)
    rw [Nat.zero_add, this, u32l_get hj]
theorem Owns.shape {w : World} {base : Nat} {v : Value} {ds : List Nat} (h : Owns w base v ds) : ∃ p cap, v = .slice p ds.length cap ∧ ds.length ≤ cap := by
  obtain ⟨hl, ⟨rfl, h0⟩ | ⟨g, cap, cur, rfl, hb, hc, hn, hcm, hcs, hx⟩⟩ := h
  · exact ⟨none, 0, by rw [h0], by omega⟩
  · exact ⟨_, cap, rfl, hn⟩
theorem Owns.nil (w : World) (base : Nat) : Owns w base (.slice none 0 0) [] := World.ownsRow_nil _ _ _ _
theorem Owns.alloc {w : World} {base : Nat} {v : Value} {ds : List Nat} (h : Owns w base v ds) (o : Obj) : Owns (w.alloc o) base v ds := World.ownsRow.alloc h o
theorem owns_base {w : World} {base base' : Nat} {v : Value} {ds : List Nat} (h : Owns w base v ds) (hb : base' ≤ base) : Owns w base' v ds := by
  obtain ⟨hl, ⟨rfl, h0⟩ | ⟨g, cap, cur, rfl, hbb, hc⟩⟩ := h
  · exact ⟨hl, .inl ⟨rfl, h0⟩⟩
  · exact ⟨hl, .inr ⟨g, cap, cur, rfl, by omega, hc⟩⟩
theorem Ext.grown {w w1 w2 : World} {base : Nat} {v : Value} {ds : List Nat} (h : Ext w w1) (hg : w1.grownBy w2 v.ownBlock) (ho : Owns w1 base v ds) (hb : w.heap.size ≤ base) : Ext w w2 :=
  Below.grown h hg (Below.size h) (fun k hk => Nat.le_trans hb (World.ownsRow.lt ho k hk).1)

theorem cell_one_own (w : World) (v : Value) (t : TypeId) : ∀ (j : Nat) (u : Value), [v][j]? = some u → (w.alloc (.cells #[v] t)).cell? (Addr.add ⟨w.heap.size, 0, none⟩ j) = some u := fun j u hj => by
  match j, hj with
  | 0, hj =>
    simp at hj; subst hj
    rw [show Addr.add ⟨w.heap.size, 0, none⟩ 0 = ⟨w.heap.size, 0, none⟩ by simp [Addr.add]]
    exact (RowAt.new w t #[v]).cell 0
theorem U32s.setNum {B : Nat} {w : World} {v : Value} {ds : List Nat} {g : Nat} {t : TypeId} {neg : Bool} {p : Option Addr} {n c : Nat} (h : U32s B w v ds) (hr : RowAt w g t (numCells neg p n c)) (cs : Array Value) : U32s B (w.setRow g cs) v ds := by
  obtain ⟨q, cap, rfl, hl, hc⟩ := h
  refine ⟨q, cap, rfl, hl, fun h0 => ?_⟩
  obtain ⟨b, off, rfl, hb, hcs⟩ := hc h0
  have hne : b ≠ g := fun e => by
    subst e
    have h1 := hcs 0 h0
    rw [hr.cell] at h1
    rcases off with _ | _ | k
    · cases h1
    · cases h1
    · rw [Nat.add_zero] at h1; cases h1
  exact ⟨b, off, rfl, hb, fun j hj => (World.cell?_of_block (setRow_other w g b cs hne)).trans (hcs j hj)⟩
theorem ZNum.setNum {B : Nat} {w : World} {v : Value} {z : Int} {g : Nat} {t : TypeId} {neg : Bool} {p : Option Addr} {n c : Nat} (h : ZNum B w v z) (hr : RowAt w g t (numCells neg p n c)) (cs : Array Value) : ZNum B (w.setRow g cs) v z := by
  obtain ⟨⟨s, rfl, hu⟩, hl⟩ := h
  exact ⟨⟨s, rfl, hu.setNum hr cs⟩, hl⟩
theorem setRow_size (w : World) (g : Nat) (cs : Array Value) : (w.setRow g cs).heap.size = w.heap.size := by simp [World.setRow]
/-- What made returns, where the number fits. -/
def madeZ (neg : Bool) (n : Nat) : Int := if neg then -(n : Int) else n
theorem madeZ_abs (neg : Bool) (n : Nat) : (madeZ neg n).natAbs = n := by unfold madeZ; split <;> omega
theorem madeZ_neg {neg : Bool} {n : Nat} (h : n ≠ 0) : decide (madeZ neg n < 0) = neg := by
  unfold madeZ
  cases neg <;> simp <;> omega
theorem ext_grown {w1 w2 : World} {o : Obj} (hg : (w1.alloc o).grownBy w2 (some w1.heap.size)) : Ext w1 w2 :=
  Below.grown (Ext.alloc w1 o) hg (by simp) (fun k hk => by cases hk; exact Nat.le_refl _)
theorem ext_setRow {w W : World} (h : Ext w W) {g : Nat} (hg : w.heap.size ≤ g) (cs : Array Value) : Ext w (W.setRow g cs) := below_setRow2 h hg cs

theorem made_own {w1 w2 : World} {o : Obj} {n : Nat} {ds : List Nat} {news : List Value} {v' : Value} (hn : news.length = n) (hnews : news = u32l ds)
    (h : w2.ownsRow w1.heap.size 48 1 v' (0 + n) ([] ++ news)) (hg : (w1.alloc o).grownBy w2 (some w1.heap.size)) :
    ∃ p c, v' = .slice p n c ∧ (∀ g, g < w1.heap.size → ∀ cs, U32s (w2.setRow g cs).heap.size (w2.setRow g cs) (.slice p n c) ds) ∧ Ext w1 w2 := by
  subst hnews
  obtain rfl : ds.length = n := by rw [← hn, u32l_length]
  rw [Nat.zero_add, List.nil_append] at h
  have ho : Owns w2 w1.heap.size v' ds := h
  obtain ⟨p, c, rfl, hc⟩ := ho.shape
  refine ⟨p, c, rfl, fun g hgg cs => ?_, ext_grown hg⟩
  have ho2 : Owns (w2.setRow g cs) w1.heap.size (.slice p ds.length c) ds := by
    obtain ⟨hl, hh | ⟨k, cap, cur, he, hb, hcc, hrest⟩⟩ := ho
    · exact ⟨hl, .inl hh⟩
    · exact ⟨hl, .inr ⟨k, cap, cur, he, hb, (setRow_other w2 g k cs (by omega)).trans hcc, hrest⟩⟩
  refine ho2.u32s ?_
  obtain ⟨hl, ⟨-, h0⟩ | ⟨k, cap, cur, he, hb, hcc, hle, hm, -⟩⟩ := ho
  · omega
  · omega

set_option maxRecDepth 100000 in
set_option maxHeartbeats 4000000 in
theorem made_gives (neg : Bool) (p : Option Addr) (cap : Nat) (ds : List Nat) (w : World) (hu : U32s w.heap.size w (.slice p ds.length cap) ds) (hcap : (strip ds).length = ds.length ∨ ds.length ≤ cap) (hd : Digits ds) (h64 : val ds < B32 ^ 64) :
    Calls Tryd.prog 26 #[.bool neg, .slice p ds.length cap] w (Gives w (madeZ neg (val ds)) (decide (madeZ neg (val ds) < 0))) := by
  have hsd := strip_digs hd
  have hlen : (strip ds).length ≤ 64 := by rw [hsd]; exact digs_len.2 h64
  obtain ⟨W1, hW1⟩ : ∃ W1, W1 = w.alloc (.cells #[.bool false, .slice none 0 0] 26) := ⟨_, rfl⟩
  have hx1 : Ext w W1 := by rw [hW1]; exact Ext.alloc _ _
  have hr1 : RowAt W1 w.heap.size 26 (numCells false none 0 0) := by rw [hW1]; exact RowAt.new' _ _ (by simp)
  have HC := Lib.hid (trim_calls p cap ds W1 (hx1.u32s hu) hcap)
  have Hx1 := Lib.hid hx1
  have Hr1 := Lib.hid hr1
  have HW1 := Lib.hid hW1
  have Hu := Lib.hid hu
  have Hsd := Lib.hid hsd
  have H64 := Lib.hid h64
  have hwz : w.heap.size < W1.heap.size := hr1.lt
  obtain ⟨n, hn⟩ : ∃ n, n = (strip ds).length := ⟨_, rfl⟩
  rw [← hn] at hlen
  have HC' : Hid (Calls Tryd.prog 42 #[.slice p ds.length cap] W1 fun e w' => e = .returned (.slice p n cap) ∧ Ext W1 w') := by rw [hn]; exact HC.out
  have Hn := Lib.hid hn
  obtain ⟨i0, hi, hz0, hz1, hz2⟩ := info_parts info_u32
  clear hu hcap hd h64 hsd hx1 hr1 hW1 HC hn
  go_enter Tryd.func26, Tryd.ntmps26
  go_wp2_with fail
  rw [← HW1.out]
  refine HC'.out.mono ?_
  rintro e w1 ⟨rfl, hx⟩
  have Hx := Lib.hid (Hx1.out.trans hx)
  have Hr := Lib.hid (hx.row Hr1.out)
  have Hu1 := Lib.hid ((Hx1.out.trans hx).u32s Hu.out)
  have hsz := Below.size hx
  clear hx
  by_cases h0 : n = 0
  · subst h0
    go_wp2_with (refine store_num rfl (.tmp 4) (.tmp 15) rfl w.heap.size rfl _ _ _ _ rfl _ _ Hr.out rfl ?_)
    have hv0 : val ds = 0 := by rw [← val_digs (val ds), ← Hsd.out, List.length_eq_zero_iff.1 Hn.out.symm]; rfl
    refine ret_num rfl w.heap.size rfl _ rfl _ _ _ _ _ (Hr.out.setRow _) ⟨none, 0, 0, ?_, ?_, ext_setRow Hx.out (Nat.le_refl _) _⟩
    · rw [hv0]; cases neg <;> rfl
    · rw [hv0]
      refine ⟨⟨_, by cases neg <;> rfl, none, 0, by cases neg <;> rfl, by cases neg <;> decide, fun h => ?_⟩, by cases neg <;> decide⟩
      cases neg <;> exact absurd h (by decide)
  · have hlt : ¬ (64 : Int) < (n : Int) := by omega
    have hn0 : ¬ (n : Int) = 0 := by omega
    have hdn : n ≤ ds.length := by rw [Hn.out]; exact strip_length_le _
    obtain ⟨p', cap', he, -, hc⟩ := Hu1.out
    cases he
    obtain ⟨b, off, rfl, hb, hcs⟩ := hc (by omega)
    obtain ⟨news, hnews⟩ : ∃ news, news = u32l (strip ds) := ⟨_, rfl⟩
    have hnl : news.length = n := by rw [hnews, u32l_length, Hn.out]
    have Hc1 : Hid (∀ o (j : Nat) (u : Value), news[j]? = some u → (w1.alloc o).cell? (Addr.add ⟨b, off, none⟩ j) = some u) := fun o j u hj => by
      have hj' : j < n := by have := (List.getElem?_eq_some_iff.1 hj).1; omega
      have e1 : (w1.alloc o).cell? ⟨b, off + j, none⟩ = w1.cell? ⟨b, off + j, none⟩ := (Ext.alloc w1 o).cell (p := ⟨b, off + j, none⟩) hb
      rw [show Addr.add ⟨b, off, none⟩ j = ⟨b, off + j, none⟩ by simp [Addr.add], e1, hcs j (by omega), ← hj, hnews, u32l_get (by rw [← Hn.out]; exact hj'), ← strip_take, List.getElem?_take_of_lt (by rw [← Hn.out]; exact hj')]
    have Hc2 : Hid (∀ u ∈ news, u.oneCell' = true) := by rw [hnews]; exact u32l_one _
    have Hnews := Lib.hid hnews
    clear hcs hc hnews
    have hown : (w1.alloc (.cells #[] 48)).ownsRow w1.heap.size 48 1 (.slice (some ⟨w1.heap.size, 0, none⟩) 0 0) 0 [] := World.ownsRow_lit w1 #[] 0 (Nat.le_refl _) (by decide) rfl
    have Hown := Lib.hid hown
    clear hown
    have HL := Lib.hid hnl
    go_wp2_with (first | (at_builtin; refine wpList_append_own _ rfl (.tmp 17) (.tmp 18) 24 rfl w1.heap.size 48 i0 (.int .u32 0) 1 4 Tryd.underlying24 hi hz0 hz1 hz2 rfl (by decide) _ _ _ rfl Hown.out ⟨b, off, none⟩ n cap news rfl (by rw [hnl, Nat.mul_one]) (Hc1.out _) Hc2.out (by unfold maxLen; omega) (by omega) (by simp) ?_; intro v' w2 hown' hgrow _; obtain ⟨pv, cv, rfl, hu2, hx2⟩ := made_own HL.out Hnews.out hown' hgrow; have Hu2 := Lib.hid hu2; have Hx2 := Lib.hid hx2; have Hr2 := Lib.hid (hx2.row Hr.out); clear hown' hgrow hu2 hx2) | (refine store_num rfl (.tmp 4) (.tmp 20) rfl w.heap.size rfl neg pv n cv rfl _ _ Hr2.out rfl ?_))
    have hne : val ds ≠ 0 := fun e => by
      have h := Hn.out; rw [Hsd.out, e] at h; exact h0 h
    refine ret_num rfl w.heap.size rfl _ rfl _ _ _ _ _ (Hr2.out.setRow _) ⟨pv, n, cv, by rw [madeZ_neg hne], ?_, ext_setRow (Hx.out.trans Hx2.out) (Nat.le_refl _) _⟩
    have hx3 : Below (w2.setRow w.heap.size (numCells neg pv n cv)).heap.size (w2.setRow w.heap.size (numCells neg pv n cv)) (w2.setRow w.heap.size (numCells neg pv n cv)) := Below.refl _ _
    refine ⟨⟨.slice pv n cv, by rw [madeZ_neg hne], ?_⟩, by rw [madeZ_abs]; exact H64.out⟩
    rw [madeZ_abs, ← Hsd.out]
    exact Hu2.out _ (by have := Hr.out.lt; omega) _

end Go.Proofs.YtcmpgboifcemmaaDoor
