/- Texts that belong together. -/
import Derived.Test.YtegjcikofmphjaaGreatDoorQNum15
import Derived.Test.YtegjcikofmphjaaGreatDoorQBase
import Derived.Test.YtegjcikofmphjaaGreatDoorQZs
import Derived.Deep.RegionHeld3
import Derived.Lib.MinMax
import Derived.Lib.EndianBits
set_option linter.all false
/- Texts that belong together. -/
/- Layer 1: takeOut. -/
namespace Go.Proofs.YtegjcikofmphjaaGreatDoor
open Go Go.RowKit Go.Shelf
structure Keeps (B g : Nat) (w w' : World) : Prop where
  os : w'.os = w.os
  tape : w'.tape = w.tape
  output : w'.output = w.output
  size : w.heap.size ≤ w'.heap.size
  block : ∀ k, k < B → k ≠ g → w'.heap[k]? = w.heap[k]?
theorem Keeps.refl (B g : Nat) (w : World) : Keeps B g w w := ⟨rfl, rfl, rfl, Nat.le_refl _, fun _ _ _ => rfl⟩
theorem Keeps.trans {B g : Nat} {a b c : World} (h : Keeps B g a b) (k : Keeps B g b c) : Keeps B g a c :=
  ⟨k.os.trans h.os, k.tape.trans h.tape, k.output.trans h.output, Nat.le_trans h.size k.size, fun i hi hg => (k.block i hi hg).trans (h.block i hi hg)⟩
theorem Keeps.below {B g : Nat} {a b c : World} (h : Keeps B g a b) (k : Below B b c) : Keeps B g a c :=
  ⟨k.os.trans h.os, k.tape.trans h.tape, k.output.trans h.output, Nat.le_trans h.size k.size, fun i hi hg => (k.block i hi).trans (h.block i hi hg)⟩
theorem Keeps.setCell {B g : Nat} {a w : World} (h : Keeps B g a w) {p : Addr} (hp : p.block = g ∨ B ≤ p.block) (u : Value) : Keeps B g a (w.setCell p u) :=
  ⟨h.os, h.tape, h.output, by simp [World.setCell]; exact h.size, fun k hk hg => (heap_setCell_other w p k u (by rcases hp with e | e <;> omega)).trans (h.block k hk hg)⟩
theorem Keeps.cell {B g : Nat} {w w' : World} (h : Keeps B g w w') {p : Addr} (hp : p.block < B) (hg : p.block ≠ g) : w'.cell? p = w.cell? p := World.cell?_of_block (h.block p.block hp hg)
theorem Keeps.row {B g : Nat} {w w' : World} (h : Keeps B g w w') {k : Nat} {t : TypeId} {cs : Array Value} (hr : RowAt w k t cs) (hp : k < B) (hg : k ≠ g) : RowAt w' k t cs := (h.block k hp hg).trans hr
theorem Keeps.mono {B B' g : Nat} {w w' : World} (h : Keeps B g w w') (hb : B' ≤ B) : Keeps B' g w w' := ⟨h.os, h.tape, h.output, h.size, fun k hk hg => h.block k (by omega) hg⟩
section
variable (g o : Nat) (Y R : List Nat)
def toSub : Nat → Nat × Nat × List Nat
  | 0 => (0, 0, R)
  | k + 1 =>
    (((toSub k).1 + g * Y[k]?.getD 0) / B32,
     subHi ((toSub k).2.2[o + k]?.getD 0) (((toSub k).1 + g * Y[k]?.getD 0) % B32) (toSub k).2.1,
     (toSub k).2.2.set (o + k) (subLo ((toSub k).2.2[o + k]?.getD 0) (((toSub k).1 + g * Y[k]?.getD 0) % B32) (toSub k).2.1))
def subB (m : Nat) : Nat := subHi ((toSub g o Y R m).2.2[o + m]?.getD 0) (toSub g o Y R m).1 (toSub g o Y R m).2.1
def subR (m : Nat) : List Nat := (toSub g o Y R m).2.2.set (o + m) (subLo ((toSub g o Y R m).2.2[o + m]?.getD 0) (toSub g o Y R m).1 (toSub g o Y R m).2.1)
def toAdd : Nat → Nat × List Nat
  | 0 => (0, R)
  | k + 1 =>
    (addHi ((toAdd k).2[o + k]?.getD 0) (Y[k]?.getD 0) (toAdd k).1,
     (toAdd k).2.set (o + k) (addLo ((toAdd k).2[o + k]?.getD 0) (Y[k]?.getD 0) (toAdd k).1))
def addB (m : Nat) : Nat := addHi ((toAdd o Y R m).2[o + m]?.getD 0) 0 (toAdd o Y R m).1
def addR (m : Nat) : List Nat := (toAdd o Y R m).2.set (o + m) (addLo ((toAdd o Y R m).2[o + m]?.getD 0) 0 (toAdd o Y R m).1)
end
theorem subHi_le (x y c : Nat) : subHi x y c ≤ 1 := by unfold subHi; split <;> omega
theorem addHi_le {x y c : Nat} (hx : x < B32) (hy : y < B32) (hc : c ≤ 1) : addHi x y c ≤ 1 := by unfold addHi B32 at *; omega
theorem toSub_length (g o : Nat) (Y R : List Nat) (k : Nat) : (toSub g o Y R k).2.2.length = R.length := by
  induction k with
  | zero => rfl
  | succ k ih => simp [toSub, ih]
theorem toSub_bounds {g o : Nat} {Y R : List Nat} (hg : g < B32) (hY : Digits Y) (hR : Digits R) (k : Nat) : (toSub g o Y R k).1 < B32 ∧ (toSub g o Y R k).2.1 ≤ 1 ∧ Digits (toSub g o Y R k).2.2 := by
  induction k with
  | zero => exact ⟨B32_pos, Nat.zero_le _, hR⟩
  | succ k ih =>
    obtain ⟨h1, h2, h3⟩ := ih
    have hm := mul_bound hg (hY.getD k)
    refine ⟨?_, subHi_le _ _ _, h3.set _ (subLo_lt _ _ _)⟩
    show (_ / B32) < B32
    unfold B32 at *
    omega
theorem toSub_get (g o : Nat) (Y R : List Nat) (k j : Nat) (hj : j < o ∨ o + k ≤ j) : (toSub g o Y R k).2.2[j]? = R[j]? := by
  induction k with
  | zero => rfl
  | succ k ih =>
    show ((toSub g o Y R k).2.2.set (o + k) _)[j]? = _
    rw [List.getElem?_set_ne (by omega), ih (by omega)]
theorem toSub_val {g o : Nat} {Y R : List Nat} (hg : g < B32) (hY : Digits Y) (hR : Digits R) (k : Nat) (hk : o + k ≤ R.length) :
    val (toSub g o Y R k).2.2 + B32 ^ o * (g * val (Y.take k)) = val R + B32 ^ (o + k) * ((toSub g o Y R k).1 + (toSub g o Y R k).2.1) := by
  induction k with
  | zero => simp [toSub, val]
  | succ k ih =>
    have ih := ih (by omega)
    obtain ⟨h1, h2, h3⟩ := toSub_bounds (o := o) hg hY hR k
    have hset := val_set (subLo ((toSub g o Y R k).2.2[o + k]?.getD 0) (((toSub g o Y R k).1 + g * Y[k]?.getD 0) % B32) (toSub g o Y R k).2.1) (l := (toSub g o Y R k).2.2) (j := o + k) (by rw [toSub_length]; omega)
    have hst := sub_step (h3.getD (o + k)) (Nat.mod_lt ((toSub g o Y R k).1 + g * Y[k]?.getD 0) B32_pos) h2
    have hdm := Nat.mod_add_div ((toSub g o Y R k).1 + g * Y[k]?.getD 0) B32
    show val ((toSub g o Y R k).2.2.set (o + k) _) + _ = _ + B32 ^ (o + (k + 1)) * ((_ / B32) + subHi _ _ _)
    rw [val_take_succ]
    generalize (toSub g o Y R k).2.2[o + k]?.getD 0 = r at *
    generalize (toSub g o Y R k).1 = c at *
    generalize (toSub g o Y R k).2.1 = b at *
    generalize subLo r ((c + g * Y[k]?.getD 0) % B32) b = lo at *
    generalize subHi r ((c + g * Y[k]?.getD 0) % B32) b = hi at *
    have e1 := congrArg (B32 ^ (o + k) * ·) hdm
    have e2 := congrArg (B32 ^ (o + k) * ·) hst
    simp only [Nat.mul_add] at e1 e2
    have e3 : B32 ^ (o + (k + 1)) * ((c + g * Y[k]?.getD 0) / B32 + hi) = B32 ^ (o + k) * (B32 * ((c + g * Y[k]?.getD 0) / B32)) + B32 ^ (o + k) * (B32 * hi) := by
      rw [← Nat.add_assoc, Nat.pow_succ, Nat.mul_assoc, Nat.mul_add, Nat.mul_add]
    have e4 : B32 ^ o * (g * (val (Y.take k) + B32 ^ k * Y[k]?.getD 0)) = B32 ^ o * (g * val (Y.take k)) + B32 ^ (o + k) * (g * Y[k]?.getD 0) := by
      rw [Nat.mul_add, Nat.mul_add, Nat.pow_add, Nat.mul_left_comm g, Nat.mul_assoc]
    rw [Nat.mul_add] at ih
    rw [e3, e4]
    omega
theorem subR_length (g o : Nat) (Y R : List Nat) (m : Nat) : (subR g o Y R m).length = R.length := by simp [subR, toSub_length]
theorem subR_digits {g o : Nat} {Y R : List Nat} (hg : g < B32) (hY : Digits Y) (hR : Digits R) (m : Nat) : Digits (subR g o Y R m) := (toSub_bounds hg hY hR m).2.2.set _ (subLo_lt _ _ _)
theorem subR_get (g o : Nat) (Y R : List Nat) (m j : Nat) (hj : j < o ∨ o + m < j) : (subR g o Y R m)[j]? = R[j]? := by
  unfold subR
  rw [List.getElem?_set_ne (show o + m ≠ j by omega)]
  exact toSub_get _ _ _ _ m j (by omega)
theorem subR_val {g o : Nat} {Y R : List Nat} (hg : g < B32) (hY : Digits Y) (hR : Digits R) (hk : o + Y.length < R.length) :
    val (subR g o Y R Y.length) + B32 ^ o * (g * val Y) = val R + B32 ^ (o + Y.length + 1) * subB g o Y R Y.length := by
  obtain ⟨h1, h2, h3⟩ := toSub_bounds (o := o) hg hY hR Y.length
  have hv := toSub_val (o := o) hg hY hR Y.length (by omega)
  rw [val_take_all (Nat.le_refl _)] at hv
  have hset := val_set (subLo ((toSub g o Y R Y.length).2.2[o + Y.length]?.getD 0) (toSub g o Y R Y.length).1 (toSub g o Y R Y.length).2.1) (l := (toSub g o Y R Y.length).2.2) (j := o + Y.length) (by rw [toSub_length]; omega)
  have hst := sub_step (h3.getD (o + Y.length)) h1 h2
  unfold subR subB
  generalize (toSub g o Y R Y.length).2.2[o + Y.length]?.getD 0 = r at *
  generalize (toSub g o Y R Y.length).1 = c at *
  generalize (toSub g o Y R Y.length).2.1 = b at *
  generalize subLo r c b = lo at *
  generalize subHi r c b = hi at *
  have e2 := congrArg (B32 ^ (o + Y.length) * ·) hst
  simp only [Nat.mul_add] at e2
  have e3 : B32 ^ (o + Y.length + 1) * hi = B32 ^ (o + Y.length) * (B32 * hi) := by rw [Nat.pow_succ, Nat.mul_assoc]
  rw [Nat.mul_add] at hv
  rw [e3]
  omega
theorem toAdd_length (o : Nat) (Y R : List Nat) (k : Nat) : (toAdd o Y R k).2.length = R.length := by
  induction k with
  | zero => rfl
  | succ k ih => simp [toAdd, ih]
theorem toAdd_bounds {o : Nat} {Y R : List Nat} (hY : Digits Y) (hR : Digits R) (k : Nat) : (toAdd o Y R k).1 ≤ 1 ∧ Digits (toAdd o Y R k).2 := by
  induction k with
  | zero => exact ⟨Nat.zero_le _, hR⟩
  | succ k ih => exact ⟨addHi_le (ih.2.getD _) (hY.getD _) ih.1, ih.2.set _ (addLo_lt _ _ _)⟩
theorem toAdd_get (o : Nat) (Y R : List Nat) (k j : Nat) (hj : j < o ∨ o + k ≤ j) : (toAdd o Y R k).2[j]? = R[j]? := by
  induction k with
  | zero => rfl
  | succ k ih =>
    show ((toAdd o Y R k).2.set (o + k) _)[j]? = _
    rw [List.getElem?_set_ne (by omega), ih (by omega)]
theorem toAdd_val {o : Nat} {Y R : List Nat} (hY : Digits Y) (hR : Digits R) (k : Nat) (hk : o + k ≤ R.length) :
    val (toAdd o Y R k).2 + B32 ^ (o + k) * (toAdd o Y R k).1 = val R + B32 ^ o * val (Y.take k) := by
  induction k with
  | zero => simp [toAdd, val]
  | succ k ih =>
    have ih := ih (by omega)
    have hset := val_set (addLo ((toAdd o Y R k).2[o + k]?.getD 0) (Y[k]?.getD 0) (toAdd o Y R k).1) (l := (toAdd o Y R k).2) (j := o + k) (by rw [toAdd_length]; omega)
    have hst := add_step ((toAdd o Y R k).2[o + k]?.getD 0) (Y[k]?.getD 0) (toAdd o Y R k).1
    show val ((toAdd o Y R k).2.set (o + k) _) + B32 ^ (o + (k + 1)) * addHi _ _ _ = _
    rw [val_take_succ]
    generalize (toAdd o Y R k).2[o + k]?.getD 0 = r at *
    generalize (toAdd o Y R k).1 = c at *
    generalize addLo r (Y[k]?.getD 0) c = lo at *
    generalize addHi r (Y[k]?.getD 0) c = hi at *
    have e2 := congrArg (B32 ^ (o + k) * ·) hst
    simp only [Nat.mul_add] at e2
    have e3 : B32 ^ (o + (k + 1)) * hi = B32 ^ (o + k) * (B32 * hi) := by rw [← Nat.add_assoc, Nat.pow_succ, Nat.mul_assoc]
    have e4 : B32 ^ o * (val (Y.take k) + B32 ^ k * Y[k]?.getD 0) = B32 ^ o * val (Y.take k) + B32 ^ (o + k) * Y[k]?.getD 0 := by
      rw [Nat.mul_add, Nat.pow_add, Nat.mul_assoc]
    rw [e3, e4]
    omega
theorem addR_length (o : Nat) (Y R : List Nat) (m : Nat) : (addR o Y R m).length = R.length := by simp [addR, toAdd_length]
theorem addR_digits {o : Nat} {Y R : List Nat} (hY : Digits Y) (hR : Digits R) (m : Nat) : Digits (addR o Y R m) := (toAdd_bounds hY hR m).2.set _ (addLo_lt _ _ _)
theorem addR_get (o : Nat) (Y R : List Nat) (m j : Nat) (hj : j < o ∨ o + m < j) : (addR o Y R m)[j]? = R[j]? := by
  unfold addR
  rw [List.getElem?_set_ne (show o + m ≠ j by omega)]
  exact toAdd_get _ _ _ m j (by omega)
theorem addB_le {o : Nat} {Y R : List Nat} (hY : Digits Y) (hR : Digits R) (m : Nat) : addB o Y R m ≤ 1 := addHi_le ((toAdd_bounds hY hR m).2.getD _) B32_pos (toAdd_bounds hY hR m).1
theorem addR_val {o : Nat} {Y R : List Nat} (hY : Digits Y) (hR : Digits R) (hk : o + Y.length < R.length) :
    val (addR o Y R Y.length) + B32 ^ (o + Y.length + 1) * addB o Y R Y.length = val R + B32 ^ o * val Y := by
  have hv := toAdd_val (o := o) hY hR Y.length (by omega)
  rw [val_take_all (Nat.le_refl _)] at hv
  have hset := val_set (addLo ((toAdd o Y R Y.length).2[o + Y.length]?.getD 0) 0 (toAdd o Y R Y.length).1) (l := (toAdd o Y R Y.length).2) (j := o + Y.length) (by rw [toAdd_length]; omega)
  have hst := add_step ((toAdd o Y R Y.length).2[o + Y.length]?.getD 0) 0 (toAdd o Y R Y.length).1
  unfold addR addB
  generalize (toAdd o Y R Y.length).2[o + Y.length]?.getD 0 = r at *
  generalize (toAdd o Y R Y.length).1 = c at *
  generalize addLo r 0 c = lo at *
  generalize addHi r 0 c = hi at *
  have e2 := congrArg (B32 ^ (o + Y.length) * ·) hst
  simp only [Nat.mul_add] at e2
  have e3 : B32 ^ (o + Y.length + 1) * hi = B32 ^ (o + Y.length) * (B32 * hi) := by rw [Nat.pow_succ, Nat.mul_assoc]
  rw [e3]
  omega
def guess0 (o : Nat) (Y R : List Nat) (m : Nat) : Nat := min ((R[o + m]?.getD 0 + B32 * R[o + m + 1]?.getD 0) / Y[m]?.getD 0) 4294967295
structure Out (o : Nat) (Y R : List Nat) (g b : Nat) (Z : List Nat) : Prop where
  hb : b ≤ 1
  hg : g < B32
  digits : Digits Z
  len : Z.length = R.length
  same : ∀ j, j < o ∨ o + Y.length < j → Z[j]? = R[j]?
  eq : val Z + B32 ^ o * (g * val Y) = val R + B32 ^ (o + Y.length + 1) * b
  big : val (R.drop o) / val Y ≤ g
theorem getD_congr {a b : List Nat} {j : Nat} (h : a[j]? = b[j]?) : a[j]?.getD 0 = b[j]?.getD 0 := by rw [h]
theorem take_congr {a b : List Nat} {o : Nat} (hl : a.length = b.length) (h : ∀ j, j < o → a[j]? = b[j]?) : a.take o = b.take o := by
  apply List.ext_getElem?
  intro j
  rw [List.getElem?_take, List.getElem?_take]
  split
  · exact h j ‹_›
  · rfl
theorem Out.seg {o g b : Nat} {Y R Z : List Nat} (h : Out o Y R g b Z) (hR : o + Y.length < R.length) (hz : ∀ j, o + Y.length < j → R[j]?.getD 0 = 0) :
    val (Z.drop o) + g * val Y = val (R.drop o) + B32 ^ (Y.length + 1) * b ∧ val (Z.drop o) < B32 ^ (Y.length + 1) := by
  constructor
  · have h1 := val_take_drop Z (s := o) (by rw [h.len]; omega)
    have h2 := val_take_drop R (s := o) (by omega)
    have h3 : Z.take o = R.take o := take_congr h.len (fun j hj => h.same j (.inl hj))
    have h4 := h.eq
    rw [h1, h2, h3, show o + Y.length + 1 = o + (Y.length + 1) by omega, Nat.pow_add, Nat.mul_assoc (B32 ^ o)] at h4
    have h5 : B32 ^ o * (val (Z.drop o) + g * val Y) = B32 ^ o * (val (R.drop o) + B32 ^ (Y.length + 1) * b) := by
      rw [Nat.mul_add, Nat.mul_add]; omega
    exact Nat.eq_of_mul_eq_mul_left (Nat.pow_pos B32_pos) h5
  · have hd : Digits ((Z.drop o).take (Y.length + 1)) := (h.digits.drop o).take _
    have h1 := val_lt hd
    rw [val_take_of_zero (ds := Z.drop o) (n := Y.length + 1) (fun j hj => by
      rw [List.getElem?_drop, getD_congr (h.same (o + j) (.inr (by omega)))]
      exact hz (o + j) (by omega))] at h1
    exact Nat.lt_of_lt_of_le h1 (Nat.pow_le_pow_right B32_pos (by simp; omega))
theorem Out.pos {o g : Nat} {Y R Z : List Nat} (h : Out o Y R g 1 Z) (hY : 0 < val Y) (hR : o + Y.length < R.length) (hz : ∀ j, o + Y.length < j → R[j]?.getD 0 = 0) : val (R.drop o) / val Y < g := by
  obtain ⟨h1, h2⟩ := h.seg hR hz
  rw [Nat.div_lt_iff_lt_mul hY]
  omega
theorem Out.step {o g : Nat} {Y R Z : List Nat} (h : Out o Y R g 1 Z) (hdY : Digits Y) (hY : 0 < val Y) (hR : o + Y.length < R.length) (hz : ∀ j, o + Y.length < j → R[j]?.getD 0 = 0) :
    Out o Y R (g - 1) (1 - addB o Y Z Y.length) (addR o Y Z Y.length) := by
  have hp := h.pos hY hR hz
  have hg1 : 1 ≤ g := Nat.lt_of_le_of_lt (Nat.zero_le _) hp
  have hv := addR_val (o := o) hdY h.digits (by rw [h.len]; exact hR)
  have ho := addB_le (o := o) hdY h.digits Y.length
  refine ⟨by omega, by have := h.hg; omega, addR_digits hdY h.digits _, by rw [addR_length, h.len], fun j hj => (addR_get _ _ _ _ _ hj).trans (h.same j hj), ?_, by omega⟩
  have he := h.eq
  rw [Nat.mul_one] at he
  have e1 : B32 ^ o * ((g - 1) * val Y) + B32 ^ o * val Y = B32 ^ o * (g * val Y) := by
    rw [← Nat.mul_add]; congr 1
    rw [Nat.sub_mul, Nat.one_mul]
    have : val Y ≤ g * val Y := Nat.le_mul_of_pos_left _ (by omega)
    omega
  generalize addB o Y Z Y.length = ov at *
  rcases Nat.lt_or_ge ov 1 with h1 | h1
  · have : ov = 0 := by omega
    subst this
    rw [Nat.mul_zero] at hv
    rw [Nat.sub_zero, Nat.mul_one]
    omega
  · have : ov = 1 := by omega
    subst this
    rw [Nat.mul_one] at hv
    rw [Nat.sub_self, Nat.mul_zero]
    omega
theorem Out.done {o g : Nat} {Y R Z : List Nat} (h : Out o Y R g 0 Z) (hY : 0 < val Y) (hR : o + Y.length < R.length) (hz : ∀ j, o + Y.length < j → R[j]?.getD 0 = 0) :
    g = val (R.drop o) / val Y ∧ val (Z.drop o) = val (R.drop o) % val Y := by
  obtain ⟨h1, -⟩ := h.seg hR hz
  rw [Nat.mul_zero, Nat.add_zero] at h1
  have h2 : g ≤ val (R.drop o) / val Y := by rw [Nat.le_div_iff_mul_le hY]; omega
  have h3 : g = val (R.drop o) / val Y := Nat.le_antisymm h2 h.big
  refine ⟨h3, ?_⟩
  have := Nat.mod_add_div (val (R.drop o)) (val Y)
  rw [← h3, Nat.mul_comm] at this
  omega
theorem out_start {o g : Nat} {Y R : List Nat} (hg : g < B32) (hdY : Digits Y) (hdR : Digits R) (hR : o + Y.length < R.length) (hbig : val (R.drop o) / val Y ≤ g) :
    Out o Y R g (subB g o Y R Y.length) (subR g o Y R Y.length) :=
  ⟨subHi_le _ _ _, hg, subR_digits hg hdY hdR _, subR_length _ _ _ _ _, fun j hj => subR_get _ _ _ _ _ _ hj, subR_val hg hdY hdR hR, hbig⟩
end Go.Proofs.YtegjcikofmphjaaGreatDoor
/- Layer 1: takeOut, walked. -/
namespace Go.Proofs.YtegjcikofmphjaaGreatDoor
open Go Go.RowKit Go.Shelf
theorem below_of_drew {B : Nat} {w w' : World} (h : Below B w.drew w') : Below B w w' := ⟨h.os, h.tape, h.output, h.size, h.block⟩
theorem sub_cast (c g y : Nat) : ((c : Int) + (g : Int) * (y : Int)) % 4294967296 = (((c + g * y) % B32 : Nat) : Int) ∧ ((c : Int) + (g : Int) * (y : Int)) / 4294967296 = (((c + g * y) / B32 : Nat) : Int) := by
  unfold B32
  rw [← Int.natCast_mul]
  generalize g * y = t
  omega
theorem mul_boundI {g y : Nat} (hg : g < B32) (hy : y < B32) : 0 ≤ (g : Int) * (y : Int) ∧ (g : Int) * (y : Int) ≤ 18446744065119617025 := by
  have := mul_bound hg hy
  rw [← Int.natCast_mul]
  generalize g * y = t at *
  omega
set_option maxRecDepth 100000 in
set_option maxHeartbeats 4000000 in
theorem takeOut_walk (bx o cx by_ oy cy m1 : Nat) (t : TypeId) (Y R : List Nat) (w : World) (hrow : RowAt w bx t (arr R)) (hdR : Digits R) (hdY : Digits Y) (hY : Y.length = m1 + 1) (hR : R.length = 65) (ho : o + m1 + 1 < 65)
    (hcx : m1 + 2 ≤ cx) (hcx2 : cx ≤ 65) (hby : by_ < w.heap.size) (hne : by_ ≠ bx) (hcy : ∀ j, j < m1 + 1 → w.cell? ⟨by_, oy + j, none⟩ = some (.int .u32 ((Y[j]?.getD 0 : Nat) : Int))) (htop : Y[m1]?.getD 0 ≠ 0) (hvY : 0 < val Y) (hz : ∀ j, o + Y.length < j → R[j]?.getD 0 = 0) (hbig : val (R.drop o) / val Y ≤ guess0 o Y R m1) :
    Calls Tryz.prog 111 #[.slice (some ⟨bx, o, none⟩) (m1 + 1 + 1) cx, .slice (some ⟨by_, oy, none⟩) (m1 + 1) cy] w fun e w' => ∃ g Z, e = .returned (.int .u32 (g : Nat)) ∧ Out o Y R g 0 Z ∧ RowAt w' bx t (arr Z) ∧ Keeps w.heap.size bx w w' := by
  have hstart : guess0 o Y R m1 < B32 → Out o Y R (guess0 o Y R m1) (subB (guess0 o Y R m1) o Y R Y.length) (subR (guess0 o Y R m1) o Y R Y.length) := fun hg => out_start hg hdY hdR (by omega) hbig
  have hstep : ∀ g Z, Out o Y R g 1 Z → 1 ≤ g ∧ Out o Y R (g - 1) (1 - addB o Y Z Y.length) (addR o Y Z Y.length) := fun g Z h => ⟨Nat.lt_of_le_of_lt (Nat.zero_le _) (h.pos hvY (by omega) hz), h.step hdY hvY (by omega) hz⟩
  rw [hY] at hstart
  have Hstep := Lib.hid hstep
  have hbx := hrow.lt
  have htl := hdY.getD m1
  have hword := word_calls (.slice (some ⟨bx, o + m1, none⟩) 2 (cx - m1)) [R[o + m1]?.getD 0, R[o + m1 + 1]?.getD 0] w.drew
    ⟨_, _, rfl, by show 2 ≤ maxLen; decide, fun _ => ⟨bx, o + m1, rfl, hbx, fun j hj => by
      rw [show w.drew.cell? ⟨bx, o + m1 + j, none⟩ = w.cell? ⟨bx, o + m1 + j, none⟩ from rfl, hrow.cell, arr_get R _ (by simp at hj; omega)]
      match j, hj with
      | 0, _ => rfl
      | 1, _ => rfl⟩⟩ (Digits.cons.2 ⟨hdR.getD _, Digits.cons.2 ⟨hdR.getD _, Digits.nil⟩⟩) (Nat.le_refl 2)
  have hval : val [R[o + m1]?.getD 0, R[o + m1 + 1]?.getD 0] = R[o + m1]?.getD 0 + B32 * R[o + m1 + 1]?.getD 0 := by simp [val]
  rw [hval] at hword
  have Hg0 : Hid (guess0 o Y R m1 = min ((R[o + m1]?.getD 0 + B32 * R[o + m1 + 1]?.getD 0) / Y[m1]?.getD 0) 4294967295) := rfl
  have hcyt := hcy m1 (by omega)
  have htop64 : R[o + m1]?.getD 0 + B32 * R[o + m1 + 1]?.getD 0 < 18446744073709551616 := by
    have h1 := hdR.getD (o + m1)
    have h2 := hdR.getD (o + m1 + 1)
    unfold B32 at *; omega
  generalize R[o + m1]?.getD 0 + B32 * R[o + m1 + 1]?.getD 0 = top at *
  generalize Y[m1]?.getD 0 = yt at *
  have htopl : (top : Int) / (yt : Int) < 18446744073709551616 ∧ 0 ≤ (top : Int) / (yt : Int) := by
    have h1 := Nat.div_le_self top yt
    have : ((top / yt : Nat) : Int) = (top : Int) / (yt : Int) := Int.natCast_ediv _ _
    rw [← this]
    generalize top / yt = z at *
    omega
  have hmin : min (IntKind.u64.wrap ((top : Int) / (yt : Int))) 4294967295 = ((guess0 o Y R m1 : Nat) : Int) := by
    rw [IntKind.wrap_u64, Int.emod_eq_of_lt htopl.2 htopl.1, Hg0.out]
    have : ((top / yt : Nat) : Int) = (top : Int) / (yt : Int) := Int.natCast_ediv _ _
    rw [← this]
    generalize top / yt = z at *
    omega
  have hgB : guess0 o Y R m1 < B32 := by rw [Hg0.out]; unfold B32; omega
  generalize guess0 o Y R m1 = g0 at *
  have hyt : 1 ≤ (yt : Int) := by omega
  have Hstart := Lib.hid (hstart hgB)
  have Hword := Lib.hid hword
  have Hrow := Lib.hid hrow
  have HgB := Lib.hid hgB
  have Hcy := Lib.hid hcy
  unfold B32 at htl
  clear hword hval hrow hgB hcy htop htopl htop64 hstart hstep hz hbig hvY
  go_enter Tryz.func111, Tryz.ntmps111
  go_wp2_with fail
  have hw1 : IntKind.i64.wrap ((m1 : Int) + 1 - 1) = (m1 : Int) := by rw [IntKind.wrap_i64]; omega
  have hw2 : IntKind.i64.wrap (m1 : Int) = (m1 : Int) := by rw [IntKind.wrap_i64]; omega
  have hw3 : (0 : Int) ≤ (m1 : Int) := by omega
  have hq0 : IntKind.u64.wrap (yt : Int) = (yt : Int) := by rw [IntKind.wrap_u64]; omega
  have hq1 : ((yt : Int) == 0) = false := by simp; omega
  have hq2 : ¬ yt = 0 := by omega
  have hq3 : ¬ (yt : Int) = 0 := by omega
  have hs1 : (m1 : Int) ≤ (cx : Int) := by omega
  have hs2 : ¬ m1 = cx := by omega
  have hs3 : (m1 : Int) ≤ (m1 : Int) + 1 + 1 := by omega
  have hs4 : (m1 : Int) + 1 + 1 ≤ (cx : Int) := by omega
  have hs5 : ¬ cx = m1 := by omega
  have hs6 : ¬ cx ≤ m1 := by omega
  have hs7 : (m1 : Int) < (m1 : Int) + 1 := by omega
  have hs8 : ((m1 : Int) == (cx : Int)) = false := by simp; omega
  have hs9 : m1 + 1 + 1 - m1 = 2 := by omega
  go_region_held3 (fun W => W.cell? ⟨by_, oy + m1, none⟩ = some (.int .u32 yt)) (first | (show World.cell? _ _ = _; assumption))
    (first | (go_at_call 96; refine Hword.out.mono ?_; rintro e w5 ⟨rfl, hb5⟩; have hk1 : w5.cell? ⟨by_, oy + m1, none⟩ = some (.int .u32 yt) := (hb5.cell (p := ⟨by_, oy + m1, none⟩) hby).trans hcyt; have HB5 := Lib.hid hb5; clear hb5))
  have Hgb := HgB.out
  clear hw1 hw2 hw3 hq0 hq1 hq2 hq3 hs1 hs2 hs3 hs4 hs5 hs6 hs7 hs8 hs9 hcyt Hword
  go_wp2_with fail
  have HK5 : Hid (Keeps w.heap.size bx w w5) := (Keeps.refl _ _ _).below (below_of_drew HB5.out)
  have Hr5 : Hid (RowAt w5 bx t (arr R)) := Hrow.out.below (below_of_drew HB5.out) hbx
  clear hk1 hmin hyt
  go_loopw [7, 8, 31] (fun c b i wr => ∃ k : Nat, k ≤ m1 + 1 ∧ i = .int .i64 k ∧ c = .int .u64 ((toSub g0 o Y R k).1 : Nat) ∧ b = .int .u32 ((toSub g0 o Y R k).2.1 : Nat) ∧ RowAt wr bx t (arr (toSub g0 o Y R k).2.2) ∧ Keeps w.heap.size bx w wr)
    (fun _ _ i _ => m1 + 1 - (intOf i).toNat)
  case atStart => exact ⟨0, Nat.zero_le _, rfl, rfl, rfl, Hr5.out, HK5.out⟩
  case round =>
    obtain ⟨k, hk, rfl, rfl, rfl, hr, hK⟩ := hrel
    obtain ⟨b1, b2, b3⟩ := toSub_bounds (o := o) Hgb hdY hdR k
    have hl := toSub_length g0 o Y R k
    rw [hR] at hl
    by_cases hkm : k < m1 + 1
    · have hcyk := (hK.cell (p := ⟨by_, oy + k, none⟩) hby hne).trans (Hcy.out k hkm)
      have hyk := hdY.getD k
      have hxk := b3.getD (o + k)
      have hcx0 := (hr.cell (o + k)).trans (arr_get _ (o + k) (by rw [hl]; omega))
      have hfx := hr.frozen (o + k)
      have hs1 : (toSub g0 o Y R (k + 1)).1 = ((toSub g0 o Y R k).1 + g0 * Y[k]?.getD 0) / B32 := rfl
      have hs2 : (toSub g0 o Y R (k + 1)).2.1 = subHi ((toSub g0 o Y R k).2.2[o + k]?.getD 0) (((toSub g0 o Y R k).1 + g0 * Y[k]?.getD 0) % B32) (toSub g0 o Y R k).2.1 := rfl
      have hs3 : (toSub g0 o Y R (k + 1)).2.2 = (toSub g0 o Y R k).2.2.set (o + k) (subLo ((toSub g0 o Y R k).2.2[o + k]?.getD 0) (((toSub g0 o Y R k).1 + g0 * Y[k]?.getD 0) % B32) (toSub g0 o Y R k).2.1) := rfl
      generalize (toSub g0 o Y R k).2.2[o + k]?.getD 0 = x at *
      generalize Y[k]?.getD 0 = y at *
      generalize toSub g0 o Y R k = st at *
      obtain ⟨c, b, Z⟩ := st
      dsimp only at *
      obtain ⟨hm0, hm1⟩ := mul_boundI Hgb hyk
      obtain ⟨hc1, hc2⟩ := sub_cast c g0 y
      have Hsub := Lib.hid (sub32_calls x ((c + g0 * y) % B32) b hxk (Nat.mod_lt _ B32_pos) b2 wr)
      have Hs1 := Lib.hid hs1
      have Hs2 := Lib.hid hs2
      have Hs3 := Lib.hid hs3
      have Hr := Lib.hid hr
      have hcb : c < 4294967296 := b1
      have hyb : y < 4294967296 := hyk
      have hgb : g0 < 4294967296 := Hgb
      generalize (c + g0 * y) % B32 = tm at *
      generalize (c + g0 * y) / B32 = td at *
      have Hc1 := Lib.hid hc1
      have Hc2 := Lib.hid hc2
      clear hs1 hs2 hs3 hr b1 b2 b3 hl hyk hxk hc1 hc2
      go_wp2_with fail
      rw [Hc1.out]
      refine Hsub.out.mono ?_
      rintro e w6 ⟨rfl, rfl⟩
      go_wp2
      go_roundw
      case rel =>
        rw [Hc2.out]
        exact ⟨k + 1, by omega, by rw [Int.natCast_add]; rfl, by rw [Hs1.out], by rw [Hs2.out], by rw [Hs3.out, ← arr_set]; exact Hr.out.set (o + k) _, hK.setCell (p := ⟨bx, o + k, none⟩) (.inl rfl) _⟩
      case measure => show m1 + 1 - ((k : Int) + 1).toNat < m1 + 1 - ((k : Int)).toNat; omega
    · obtain rfl : k = m1 + 1 := by omega
      have hxk := b3.getD (o + (m1 + 1))
      have hcx0 := (hr.cell (o + (m1 + 1))).trans (arr_get _ (o + (m1 + 1)) (by rw [hl]; omega))
      have hfx := hr.frozen (o + (m1 + 1))
      have hB : subB g0 o Y R (m1 + 1) = subHi ((toSub g0 o Y R (m1 + 1)).2.2[o + (m1 + 1)]?.getD 0) (toSub g0 o Y R (m1 + 1)).1 (toSub g0 o Y R (m1 + 1)).2.1 := rfl
      have hRs : subR g0 o Y R (m1 + 1) = (toSub g0 o Y R (m1 + 1)).2.2.set (o + (m1 + 1)) (subLo ((toSub g0 o Y R (m1 + 1)).2.2[o + (m1 + 1)]?.getD 0) (toSub g0 o Y R (m1 + 1)).1 (toSub g0 o Y R (m1 + 1)).2.1) := rfl
      generalize (toSub g0 o Y R (m1 + 1)).2.2[o + (m1 + 1)]?.getD 0 = x at *
      generalize toSub g0 o Y R (m1 + 1) = st at *
      obtain ⟨c, b, Z⟩ := st
      dsimp only at *
      have Hsub := Lib.hid (sub32_calls x c b hxk b1 b2 wr)
      have HB := Lib.hid hB
      have HRs := Lib.hid hRs
      have Hr := Lib.hid hr
      have hcb : c < 4294967296 := b1
      generalize subB g0 o Y R (m1 + 1) = bo at *
      generalize subR g0 o Y R (m1 + 1) = Zo at *
      clear hB hRs hr b1 b2 b3 hl hxk
      go_wp2_with fail
      refine Hsub.out.mono ?_
      rintro e w6 ⟨rfl, rfl⟩
      go_wp2
      rw [← HB.out]
      have Hr6 : Hid (RowAt (wr.setCell ⟨bx, o + (m1 + 1), none⟩ (.int .u32 (subLo x c b : Nat))) bx t (arr Zo)) := by rw [HRs.out, ← arr_set]; exact Hr.out.set _ _
      have HK6 : Hid (Keeps w.heap.size bx w (wr.setCell ⟨bx, o + (m1 + 1), none⟩ (.int .u32 (subLo x c b : Nat)))) := hK.setCell (p := ⟨bx, o + (m1 + 1), none⟩) (.inl rfl) _
      generalize wr.setCell ⟨bx, o + (m1 + 1), none⟩ (.int .u32 (subLo x c b : Nat)) = W6 at *
      clear hcx0 hfx hK Hr HRs hcb
      go_loopw [6, 8] (fun gv bv wr => ∃ g b Z, gv = .int .u64 (g : Nat) ∧ bv = .int .u32 (b : Nat) ∧ Out o Y R g b Z ∧ RowAt wr bx t (arr Z) ∧ Keeps w.heap.size bx w wr)
        (fun gv _ _ => (intOf gv).toNat)
      case atStart => exact ⟨g0, bo, Zo, rfl, rfl, Hstart.out, Hr6.out, HK6.out⟩
      case round =>
        clear HK6 Hr6 HK5 Hr5 HB5
        obtain ⟨g, b, Z, rfl, rfl, ho2, hr, hK⟩ := hrel
        obtain ⟨wo, hwo⟩ : ∃ wo : World, wo = wr := ⟨_, rfl⟩
        rw [← hwo] at hr hK ⊢
        clear hwo wr
        have hgB : g < 4294967296 := ho2.hg
        have hb1 := ho2.hb
        by_cases hb0 : b = 0
        · subst hb0
          have Hout := Lib.hid ho2
          have Hr := Lib.hid hr
          have HK := Lib.hid hK
          clear ho2 hr hK hb1
          go_wp2
          go_ret
          exact ⟨g, Z, rfl, Hout.out, Hr.out, HK.out⟩
        · obtain rfl : b = 1 := by omega
          obtain ⟨hg1, hst⟩ := Hstep.out g Z ho2
          rw [hY] at hst
          have hdZ := ho2.digits
          have hlZ := ho2.len
          rw [hR] at hlZ
          have Hst := Lib.hid hst
          have HdZ := Lib.hid hdZ
          have HlZ := Lib.hid hlZ
          obtain ⟨g1, rfl⟩ : ∃ g1, g = g1 + 1 := ⟨g - 1, by omega⟩
          rw [Nat.add_sub_cancel] at Hst
          have hg1B : (g1 : Int) ≤ 4294967295 := by omega
          have hgm : ((g1 + 1 : Nat) : Int) - 1 = (g1 : Int) := by omega
          have Hr := Lib.hid hr
          have HK := Lib.hid hK
          have Hgm := Lib.hid hgm
          clear ho2 hst hdZ hlZ hr hK hb1 hb0 hg1 hgm
          rw [show ((1 : Nat) : Int) = 1 from rfl, show ((g1 + 1 : Nat) : Int) = (g1 : Int) + 1 from rfl]
          go_wp2_with fail
          go_loopw [11, 79] (fun ov i wr => ∃ k : Nat, k ≤ m1 + 1 ∧ i = .int .i64 k ∧ ov = .int .u32 ((toAdd o Y Z k).1 : Nat) ∧ RowAt wr bx t (arr (toAdd o Y Z k).2) ∧ Keeps w.heap.size bx w wr)
            (fun _ i _ => m1 + 1 - (intOf i).toNat)
          case atStart => exact ⟨0, Nat.zero_le _, rfl, rfl, Hr.out, HK.out⟩
          case round =>
            obtain ⟨k, hk, rfl, rfl, hr, hK⟩ := hrel
            obtain ⟨b1, b2⟩ := toAdd_bounds (o := o) hdY HdZ.out k
            have hl := toAdd_length o Y Z k
            rw [HlZ.out] at hl
            by_cases hkm : k < m1 + 1
            · have hcyk := (hK.cell (p := ⟨by_, oy + k, none⟩) hby hne).trans (Hcy.out k hkm)
              have hyk := hdY.getD k
              have hxk := b2.getD (o + k)
              have hcx0 := (hr.cell (o + k)).trans (arr_get _ (o + k) (by rw [hl]; omega))
              have hfx := hr.frozen (o + k)
              have hs1 : (toAdd o Y Z (k + 1)).1 = addHi ((toAdd o Y Z k).2[o + k]?.getD 0) (Y[k]?.getD 0) (toAdd o Y Z k).1 := rfl
              have hs2 : (toAdd o Y Z (k + 1)).2 = (toAdd o Y Z k).2.set (o + k) (addLo ((toAdd o Y Z k).2[o + k]?.getD 0) (Y[k]?.getD 0) (toAdd o Y Z k).1) := rfl
              generalize (toAdd o Y Z k).2[o + k]?.getD 0 = x at *
              generalize Y[k]?.getD 0 = y at *
              generalize toAdd o Y Z k = st at *
              obtain ⟨c, Zk⟩ := st
              dsimp only at *
              have Hadd := Lib.hid (add32_calls x y c hxk hyk b1 wr)
              have Hs1 := Lib.hid hs1
              have Hs2 := Lib.hid hs2
              have Hr2 := Lib.hid hr
              clear hs1 hs2 hr b1 b2 hl hyk hxk
              go_wp2_with fail
              refine Hadd.out.mono ?_
              rintro e w6 ⟨rfl, rfl⟩
              go_wp2
              go_roundw
              case rel => exact ⟨k + 1, by omega, by rw [Int.natCast_add]; rfl, by rw [Hs1.out], by rw [Hs2.out, ← arr_set]; exact Hr2.out.set (o + k) _, hK.setCell (p := ⟨bx, o + k, none⟩) (.inl rfl) _⟩
              case measure => show m1 + 1 - ((k : Int) + 1).toNat < m1 + 1 - ((k : Int)).toNat; omega
            · obtain rfl : k = m1 + 1 := by omega
              have hxk := b2.getD (o + (m1 + 1))
              have hcx0 := (hr.cell (o + (m1 + 1))).trans (arr_get _ (o + (m1 + 1)) (by rw [hl]; omega))
              have hfx := hr.frozen (o + (m1 + 1))
              have hB : addB o Y Z (m1 + 1) = addHi ((toAdd o Y Z (m1 + 1)).2[o + (m1 + 1)]?.getD 0) 0 (toAdd o Y Z (m1 + 1)).1 := rfl
              have hRs : addR o Y Z (m1 + 1) = (toAdd o Y Z (m1 + 1)).2.set (o + (m1 + 1)) (addLo ((toAdd o Y Z (m1 + 1)).2[o + (m1 + 1)]?.getD 0) 0 (toAdd o Y Z (m1 + 1)).1) := rfl
              have hov : addB o Y Z (m1 + 1) ≤ 1 := addB_le hdY HdZ.out _
              generalize (toAdd o Y Z (m1 + 1)).2[o + (m1 + 1)]?.getD 0 = x at *
              generalize toAdd o Y Z (m1 + 1) = st at *
              obtain ⟨c, Zk⟩ := st
              dsimp only at *
              have hadd : Calls Tryz.prog 128 #[.int .u32 x, .int .u32 0, .int .u32 c] wr _ := add32_calls x 0 c hxk B32_pos b1 wr
              rw [← hB] at hadd
              have Hadd := Lib.hid hadd
              have HB := Lib.hid hB
              have HRs := Lib.hid hRs
              have Hr2 := Lib.hid hr
              generalize addB o Y Z (m1 + 1) = ov at *
              generalize addR o Y Z (m1 + 1) = Zo at *
              clear hB hRs hr b1 b2 hl hxk hadd
              go_wp2_with fail
              refine Hadd.out.mono ?_
              rintro e w6 ⟨rfl, rfl⟩
              go_wp2
              go_roundw
              case rel => exact ⟨g1, 1 - ov, Zo, by first | rfl | rw [Hgm.out], by rw [Int.ofNat_sub hov]; rfl, Hst.out, by rw [HRs.out, ← arr_set]; exact Hr2.out.set _ _, hK.setCell (p := ⟨bx, o + (m1 + 1), none⟩) (.inl rfl) _⟩
              case measure => show ((g1 : Int)).toNat < (((g1 + 1 : Nat) : Int)).toNat; omega
end Go.Proofs.YtegjcikofmphjaaGreatDoor
/- Layer 1: shifted; the first guess of takeOut is great enough. -/
namespace Go.Proofs.YtegjcikofmphjaaGreatDoor
open Go Go.RowKit Go.Shelf
section
variable (by_ : Nat) (xs : List Nat)
def shCarry : Nat → Nat
  | 0 => 0
  | k + 1 => xs[k]?.getD 0 / 2 ^ (32 - by_)
def shDigit (k : Nat) : Nat := xs[k]?.getD 0 * 2 ^ by_ % B32 + shCarry by_ xs k
def shTo : Nat → List Nat
  | 0 => List.replicate 65 0
  | k + 1 => (shTo k).set k (shDigit by_ xs k)
def shRow : List Nat := (shTo by_ xs xs.length).set xs.length (shCarry by_ xs xs.length)
end
theorem shTo_length (b : Nat) (xs : List Nat) (k : Nat) : (shTo b xs k).length = 65 := by
  induction k with
  | zero => simp [shTo]
  | succ k ih => simp [shTo, ih]
theorem shRow_length (b : Nat) (xs : List Nat) : (shRow b xs).length = 65 := by simp [shRow, shTo_length]
theorem pow_split {b : Nat} (hb : b ≤ 31) : 2 ^ b * 2 ^ (32 - b) = B32 := by
  rw [← Nat.pow_add, show b + (32 - b) = 32 by omega]; rfl
theorem shCarry_lt {b : Nat} (hb : b ≤ 31) {xs : List Nat} (hx : Digits xs) (k : Nat) : shCarry b xs k < 2 ^ b := by
  cases k with
  | zero => exact Nat.two_pow_pos _
  | succ k =>
    show _ / _ < _
    rw [Nat.div_lt_iff_lt_mul (Nat.two_pow_pos _), pow_split hb]
    exact hx.getD k
theorem sh_step {b : Nat} (hb : b ≤ 31) (x : Nat) : x * 2 ^ b % B32 + B32 * (x / 2 ^ (32 - b)) = x * 2 ^ b := by
  have h := pow_split hb
  have e : x / 2 ^ (32 - b) = x * 2 ^ b / B32 := by
    rw [← h, Nat.mul_comm (2 ^ b), Nat.mul_div_mul_right _ _ (Nat.two_pow_pos _)]
  rw [e, Nat.mod_add_div]
theorem shDigit_lt {b : Nat} (hb : b ≤ 31) {xs : List Nat} (hx : Digits xs) (k : Nat) : shDigit b xs k < B32 := by
  have h1 := shCarry_lt hb hx k
  have h2 : xs[k]?.getD 0 * 2 ^ b % B32 % 2 ^ b = 0 := by
    rw [← pow_split hb, Nat.mod_mul_right_mod, Nat.mul_mod_left]
  have h3 := Nat.mod_lt (xs[k]?.getD 0 * 2 ^ b) B32_pos
  unfold shDigit
  have h4 : xs[k]?.getD 0 * 2 ^ b % B32 = 2 ^ b * (xs[k]?.getD 0 * 2 ^ b % B32 / 2 ^ b) := by
    have := Nat.mod_add_div (xs[k]?.getD 0 * 2 ^ b % B32) (2 ^ b)
    omega
  rw [h4] at h3 ⊢
  generalize xs[k]?.getD 0 * 2 ^ b % B32 / 2 ^ b = z at *
  rw [← pow_split hb] at h3 ⊢
  have h5 : z < 2 ^ (32 - b) := Nat.lt_of_mul_lt_mul_left h3
  calc 2 ^ b * z + shCarry b xs k < 2 ^ b * z + 2 ^ b := by omega
    _ = 2 ^ b * (z + 1) := by rw [Nat.mul_add, Nat.mul_one]
    _ ≤ 2 ^ b * 2 ^ (32 - b) := Nat.mul_le_mul_left _ h5
theorem sh_inv {b : Nat} (hb : b ≤ 31) (xs : List Nat) (k : Nat) (hk : k ≤ 64) : val ((shTo b xs k).take k) + B32 ^ k * shCarry b xs k = val (xs.take k) * 2 ^ b := by
  induction k with
  | zero => simp [val, shCarry]
  | succ k ih =>
    have ih := ih (by omega)
    have e : (shTo b xs (k + 1)).take (k + 1) = (shTo b xs k).take k ++ [shDigit b xs k] := take_set_succ (by rw [shTo_length]; omega)
    rw [e, val_snoc, val_take_succ, List.length_take, shTo_length, show min k 65 = k by omega]
    have hs := congrArg (B32 ^ k * ·) (sh_step hb (xs[k]?.getD 0))
    simp only [Nat.mul_add] at hs
    show _ + B32 ^ k * (_ + shCarry b xs k) + B32 ^ (k + 1) * (xs[k]?.getD 0 / 2 ^ (32 - b)) = _
    rw [Nat.mul_add, Nat.add_mul, Nat.pow_succ, Nat.mul_assoc (B32 ^ k) B32, Nat.mul_assoc (B32 ^ k) (xs[k]?.getD 0)]
    omega
theorem shTo_zero (b : Nat) (xs : List Nat) (k j : Nat) (h : k ≤ j) : (shTo b xs k)[j]?.getD 0 = 0 := by
  induction k with
  | zero => show (List.replicate 65 0)[j]?.getD 0 = 0; rw [List.getElem?_replicate]; split <;> rfl
  | succ k ih =>
    show ((shTo b xs k).set k _)[j]?.getD 0 = 0
    rw [List.getElem?_set_ne (by omega)]
    exact ih (by omega)
theorem shRow_val {b : Nat} (hb : b ≤ 31) (xs : List Nat) (h : xs.length ≤ 64) : val (shRow b xs) = val xs * 2 ^ b := by
  have h1 := sh_inv hb xs xs.length h
  rw [val_take_all (Nat.le_refl _)] at h1
  have h2 := val_set (shCarry b xs xs.length) (l := shTo b xs xs.length) (j := xs.length) (by rw [shTo_length]; omega)
  rw [shTo_zero _ _ _ _ (Nat.le_refl _), Nat.mul_zero, Nat.add_zero] at h2
  rw [val_take_of_zero (ds := shTo b xs xs.length) (fun j hj => shTo_zero _ _ _ _ hj)] at h1
  unfold shRow
  omega
theorem shRow_digits {b : Nat} (hb : b ≤ 31) {xs : List Nat} (hx : Digits xs) : Digits (shRow b xs) := by
  refine Digits.set ?_ _ (Nat.lt_of_lt_of_le (shCarry_lt hb hx _) ?_)
  · have : ∀ k, Digits (shTo b xs k) := fun k => by
      induction k with
      | zero => exact digits_replicate _
      | succ k ih => exact ih.set _ (shDigit_lt hb hx k)
    exact this _
  · exact Nat.pow_le_pow_right (n := 2) (by decide) (by omega : b ≤ 32)
theorem sh_or {b : Nat} (hb : b ≤ 31) (x c : Nat) (hx : x < B32) (hc : c < 2 ^ b) :
    bits .or .u32 ((x : Int) * 2 ^ b % 4294967296) (c : Int) = ((x * 2 ^ b % B32 + c : Nat) : Int) := by
  have e1 : (x : Int) * 2 ^ b % 4294967296 = ((x * 2 ^ b % B32 : Nat) : Int) := by
    unfold B32
    rw [show (2 : Int) ^ b = ((2 ^ b : Nat) : Int) by simp, ← Int.natCast_mul]
    omega
  rw [e1]
  have h3 := Nat.mod_lt (x * 2 ^ b) B32_pos
  have h2 : x * 2 ^ b % B32 % 2 ^ b = 0 := by
    rw [← pow_split hb, Nat.mod_mul_right_mod, Nat.mul_mod_left]
  have hcB : c < B32 := Nat.lt_of_lt_of_le hc (Nat.pow_le_pow_right (n := 2) (by decide) (by omega : b ≤ 32))
  rw [bits_join .u32 32 (by decide) u32_keep b _ _ (by omega) (by exact_mod_cast h2) (by exact_mod_cast h3) (by omega) (by exact_mod_cast hc) (by exact_mod_cast hcB)]
  omega
theorem sh_shr (b : Nat) (x : Nat) : (x : Int) / 2 ^ (32 - b) = ((x / 2 ^ (32 - b) : Nat) : Int) := by
  rw [show (2 : Int) ^ (32 - b) = ((2 ^ (32 - b) : Nat) : Int) by simp]
  exact (Int.natCast_ediv _ _).symm
set_option maxRecDepth 100000 in
set_option maxHeartbeats 2000000 in
theorem shifted_calls (v : Value) (b : Nat) (hb : b ≤ 31) (xs : List Nat) (w : World) (hx : U32s w.heap.size w v xs) (hdx : Digits xs) (h64 : xs.length ≤ 64) :
    Calls Tryz.prog 110 #[v, .int .i64 b] w fun e w' => e = .returned (.agg (arr (shRow b xs))) ∧ Below w.heap.size w w' := by
  obtain ⟨p, cap, rfl, hl, hc⟩ := hx
  have Hc := Lib.hid hc
  obtain ⟨n, hn⟩ : ∃ n, n = xs.length := ⟨_, rfl⟩
  rw [← hn] at h64
  have Hn := Lib.hid hn
  rw [← hn]
  clear hc hl hn
  go_enter Tryz.func110, Tryz.ntmps110
  go_wp2
  go_loopw [6, 11] (fun c i wr => ∃ k : Nat, k ≤ n ∧ i = .int .i64 k ∧ c = .int .u32 (shCarry b xs k : Nat) ∧ RowAt wr w.heap.size 89 Tryz.zeroCells89 ∧ RowAt wr (w.heap.size + 1) 89 (arr (shTo b xs k)) ∧ Below w.heap.size w wr)
    (fun _ i _ => n - (intOf i).toNat)
  case atStart => exact ⟨0, Nat.zero_le _, rfl, rfl, (RowAt.new w _ _).alloc _, by rw [shTo, ← zero_row]; exact RowAt.new' _ _ (by simp), ((Below.refl _ w).alloc (Nat.le_refl _) _).alloc (by simp) _⟩
  case round =>
    obtain ⟨k, hk, rfl, rfl, hr4, hr5, hB⟩ := hrel
    have hsl := shTo_length b xs k
    by_cases hlt : k < n
    · obtain ⟨bb, off, rfl, hbB, hcs⟩ := Hc.out (by rw [← Hn.out]; exact Nat.lt_of_le_of_lt (Nat.zero_le _) hlt)
      have hcx := (hB.cell (p := ⟨bb, off + k, none⟩) hbB).trans (hcs k (by rw [← Hn.out]; exact hlt))
      have hcr := (hr5.cell k).trans (arr_get _ k (by rw [hsl]; omega))
      have hfr := hr5.frozen k
      have hk65 : (k : Int) < 65 := by omega
      have Ho := Lib.hid (sh_or hb (xs[k]?.getD 0) (shCarry b xs k) (hdx.getD k) (shCarry_lt hb hdx k))
      have Hs := Lib.hid (sh_shr b (xs[k]?.getD 0))
      have Hs1 : Hid (shCarry b xs (k + 1) = xs[k]?.getD 0 / 2 ^ (32 - b)) := rfl
      have Hs2 : Hid (shTo b xs (k + 1) = (shTo b xs k).set k (xs[k]?.getD 0 * 2 ^ b % B32 + shCarry b xs k)) := rfl
      have Hr4 := Lib.hid hr4
      have Hr5 := Lib.hid hr5
      generalize xs[k]?.getD 0 = x at *
      generalize shCarry b xs k = c at *
      generalize shTo b xs k = row at *
      clear hcs hsl hr4 hr5
      go_wp2
      go_roundw
      case rel =>
        rw [Ho.out, Hs.out]
        exact ⟨k + 1, by omega, by rw [Int.natCast_add]; rfl, by rw [Hs1.out], Hr4.out.setOther _ _ (by simp), by rw [Hs2.out, ← arr_set]; exact Hr5.out.set k _, hB.setCell (p := ⟨w.heap.size + 1, k, none⟩) (Nat.le_succ _) _⟩
      case measure => show n - ((k : Int) + 1).toNat < n - ((k : Int)).toNat; omega
    · obtain rfl : k = n := by omega
      have hcb : shRow b xs = (shTo b xs k).set k (shCarry b xs k) := by unfold shRow; rw [← Hn.out]
      have hcl := shRow_length b xs
      have hc7 := (hr5.cell k).trans (arr_get _ k (by rw [hsl]; omega))
      have hf7 := hr5.frozen k
      have hk65 : (k : Int) < 65 := by omega
      have Hrow := Lib.hid (show RowAt (wr.setCell ⟨w.heap.size + 1, k, none⟩ (.int .u32 (shCarry b xs k : Nat))) (w.heap.size + 1) 89 (arr (shRow b xs)) by rw [hcb, ← arr_set]; exact hr5.set k _)
      have Hr6 := Lib.hid (hr4.setOther ⟨w.heap.size + 1, k, none⟩ (.int .u32 (shCarry b xs k : Nat)) (by simp))
      have Hcl := Lib.hid hcl
      generalize shCarry b xs k = c at *
      generalize shTo b xs k = row at *
      generalize hres : shRow b xs = res at *
      have Hres := Lib.hid hres
      clear hres hsl hcb hcl hr4 hr5
      go_wp2_with (first
        | (refine load_row rfl (.tmp 5) rfl (w.heap.size + 1) rfl res Hcl.out 89 Hrow.out ?_)
        | (refine store_row rfl (.tmp 4) (.tmp 32) rfl w.heap.size rfl res Hcl.out rfl 89 Tryz.zeroCells89 Hr6.out (by kernel_rfl) ?_))
      refine ret_row rfl w.heap.size rfl res Hcl.out 89 (Hr6.out.setRow _) ⟨by rw [Hres.out], below_setRow2 (hB.setCell (p := ⟨w.heap.size + 1, k, none⟩) (Nat.le_succ _) _) (Nat.le_refl _) _⟩
end Go.Proofs.YtegjcikofmphjaaGreatDoor
/- Layer 1: takeOut, what it comes to. -/
namespace Go.Proofs.YtegjcikofmphjaaGreatDoor
open Go Go.RowKit Go.Shelf
theorem guess_big {o m1 : Nat} {Y R : List Nat} (hdR : Digits R) (hY : Y.length = m1 + 1) (hdY : Digits Y) (htop : Y[m1]?.getD 0 ≠ 0) (hR : o + Y.length < R.length) (hz : ∀ j, o + Y.length < j → R[j]?.getD 0 = 0)
    (hlt : val (R.drop o) < B32 * val Y) (hvY : 0 < val Y) : val (R.drop o) / val Y ≤ guess0 o Y R m1 := by
  have hq := Nat.div_mul_le_self (val (R.drop o)) (val Y)
  have hqB : val (R.drop o) / val Y < B32 := by rw [Nat.div_lt_iff_lt_mul hvY]; exact hlt
  have hV : Y[m1]?.getD 0 * B32 ^ m1 ≤ val Y := by
    have h1 := val_take_drop Y (s := m1) (by omega)
    have h2 := val_drop (ds := Y) (s := m1) (by omega)
    rw [List.drop_eq_nil_of_le (by omega : Y.length ≤ m1 + 1)] at h2
    rw [h2] at h1
    have e : Y[m1]?.getD 0 * B32 ^ m1 = B32 ^ m1 * Y[m1]?.getD 0 := Nat.mul_comm _ _
    rw [e, h1]
    simp only [val, Nat.mul_zero, Nat.add_zero]
    omega
  have hT : val (R.drop o) < (R[o + m1]?.getD 0 + B32 * R[o + m1 + 1]?.getD 0 + 1) * B32 ^ m1 := by
    have h1 := val_take_drop (R.drop o) (s := m1) (by simp; omega)
    have h2 := val_lt ((hdR.drop o).take m1)
    rw [List.length_take, List.length_drop, show min m1 (R.length - o) = m1 by omega] at h2
    have h3 : val ((R.drop o).drop m1) = R[o + m1]?.getD 0 + B32 * R[o + m1 + 1]?.getD 0 := by
      rw [List.drop_drop, val_drop (ds := R) (s := o + m1) (by omega), val_drop (ds := R) (s := o + m1 + 1) (by omega)]
      have h4 : val (R.drop (o + m1 + 1 + 1)) = 0 := val_zero_of_all fun d hd => by
        obtain ⟨i, hi, rfl⟩ := List.getElem_of_mem hd
        have hi' : o + m1 + 1 + 1 + i < R.length := by simp at hi; omega
        have := hz (o + m1 + 1 + 1 + i) (by omega)
        simpa [hi'] using this
      rw [h4]; simp
    rw [h3] at h1
    rw [Nat.add_mul _ 1, Nat.one_mul, Nat.mul_comm _ (B32 ^ m1)]
    omega
  unfold guess0
  generalize R[o + m1]?.getD 0 + B32 * R[o + m1 + 1]?.getD 0 = top at *
  generalize Y[m1]?.getD 0 = yt at *
  generalize val (R.drop o) / val Y = q at *
  have h1 : q * yt ≤ top := by
    apply Nat.le_of_lt_succ
    apply Nat.lt_of_mul_lt_mul_right (a := B32 ^ m1)
    calc q * yt * B32 ^ m1 = q * (yt * B32 ^ m1) := Nat.mul_assoc _ _ _
      _ ≤ q * val Y := Nat.mul_le_mul_left _ hV
      _ ≤ val (R.drop o) := hq
      _ < (top + 1) * B32 ^ m1 := hT
  have h2 : q ≤ top / yt := by rw [Nat.le_div_iff_mul_le (by omega)]; exact h1
  unfold B32 at hqB
  omega
theorem val_pos_of_top {Y : List Nat} {j : Nat} (hj : j < Y.length) (h : Y[j]?.getD 0 ≠ 0) : 0 < val Y := by
  have h1 := val_take_drop Y (s := j) (by omega)
  have h2 := val_drop (ds := Y) (s := j) hj
  have h3 : 0 < B32 ^ j * val (Y.drop j) := Nat.mul_pos (Nat.pow_pos B32_pos) (by omega)
  omega
theorem takeOut_calls (bx o cx by_ oy cy m1 : Nat) (t : TypeId) (Y R : List Nat) (w : World) (hrow : RowAt w bx t (arr R)) (hdR : Digits R) (hdY : Digits Y) (hY : Y.length = m1 + 1) (hR : R.length = 65) (ho : o + m1 + 1 < 65)
    (hcx : m1 + 2 ≤ cx) (hcx2 : cx ≤ 65) (hby : by_ < w.heap.size) (hne : by_ ≠ bx) (hcy : ∀ j, j < m1 + 1 → w.cell? ⟨by_, oy + j, none⟩ = some (.int .u32 ((Y[j]?.getD 0 : Nat) : Int))) (htop : Y[m1]?.getD 0 ≠ 0)
    (hz : ∀ j, o + Y.length < j → R[j]?.getD 0 = 0) (hlt : val (R.drop o) < B32 * val Y) :
    Calls Tryz.prog 111 #[.slice (some ⟨bx, o, none⟩) (m1 + 1 + 1) cx, .slice (some ⟨by_, oy, none⟩) (m1 + 1) cy] w fun e w' => e = .returned (.int .u32 (val (R.drop o) / val Y : Nat)) ∧
      (∃ Z, RowAt w' bx t (arr Z) ∧ Digits Z ∧ Z.length = 65 ∧ (∀ j, j < o ∨ o + Y.length < j → Z[j]? = R[j]?) ∧ val (Z.drop o) = val (R.drop o) % val Y) ∧ Keeps w.heap.size bx w w' := by
  have hvY := val_pos_of_top (Y := Y) (j := m1) (by omega) htop
  refine (takeOut_walk bx o cx by_ oy cy m1 t Y R w hrow hdR hdY hY hR ho hcx hcx2 hby hne hcy htop hvY hz (guess_big hdR hY hdY htop (by omega) hz hlt hvY)).mono ?_
  rintro e w' ⟨g, Z, rfl, hout, hr, hk⟩
  obtain ⟨h1, h2⟩ := hout.done hvY (by omega) hz
  exact ⟨by rw [h1], ⟨Z, hr, hout.digits, hout.len.trans hR, hout.same, h2⟩, hk⟩
end Go.Proofs.YtegjcikofmphjaaGreatDoor
/- Layer 1: the mathematics of long division, digit by digit. -/
namespace Go.Proofs.YtegjcikofmphjaaGreatDoor
open Go Go.RowKit
theorem digit_zero_above {R : List Nat} {s k : Nat} (h : val (R.drop s) < B32 ^ k) {j : Nat} (hj : s + k ≤ j) : R[j]?.getD 0 = 0 := by
  apply Classical.byContradiction
  intro hne
  have hl : j < R.length := by
    apply Classical.byContradiction
    intro hn
    exact hne (by simp [List.getElem?_eq_none (by omega : R.length ≤ j)])
  have h1 := val_take_drop (R.drop s) (s := j - s) (by simp; omega)
  rw [List.drop_drop, show s + (j - s) = j by omega, val_drop (ds := R) (s := j) hl] at h1
  have h2 : B32 ^ k ≤ B32 ^ (j - s) := Nat.pow_le_pow_right B32_pos (by omega)
  have h3 : B32 ^ (j - s) * 1 ≤ B32 ^ (j - s) * (R[j]?.getD 0 + B32 * val (R.drop (j + 1))) := Nat.mul_le_mul_left _ (by omega)
  omega
theorem div_step {R Z Q : List Nat} {o D : Nat} {v0 : Nat} (hR : R.length = 65) (hZ : Z.length = 65) (hQ : Q.length = 65) (ho : o < 65) (hsame : ∀ j, j < o → Z[j]? = R[j]?) (hmod : val (Z.drop o) = val (R.drop o) % D)
    (hinv : val R + D * B32 ^ (o + 1) * val (Q.drop (o + 1)) = v0) : val Z + D * B32 ^ o * val ((Q.set o (val (R.drop o) / D)).drop o) = v0 := by
  have h1 := val_take_drop R (s := o) (by omega)
  have h2 := val_take_drop Z (s := o) (by omega)
  have h3 : Z.take o = R.take o := take_congr (hZ.trans hR.symm) hsame
  have h4 : val ((Q.set o (val (R.drop o) / D)).drop o) = val (R.drop o) / D + B32 * val (Q.drop (o + 1)) := by
    rw [val_drop (ds := Q.set o (val (R.drop o) / D)) (s := o) (by simp; omega)]
    simp [hQ, ho, List.drop_set]
  have h5 := Nat.mod_add_div (val (R.drop o)) D
  rw [h4, ← hinv, h1, h2, h3, hmod, Nat.pow_succ]
  generalize val (R.drop o) = x at *
  generalize x / D = q at *
  generalize x % D = r at *
  generalize val (Q.drop (o + 1)) = y at *
  generalize B32 ^ o = P at *
  have e : D * (P * B32) * y = D * P * (B32 * y) := by simp only [Nat.mul_assoc]
  rw [e, Nat.mul_add (D * P), show D * P * q = P * (D * q) by rw [Nat.mul_comm D P, Nat.mul_assoc], ← h5, Nat.mul_add P]
  omega
theorem div_bound {R : List Nat} {o D : Nat} (hd : Digits R) (hR : R.length = 65) (ho : o < 65) (h : val (R.drop (o + 1)) < D) : val (R.drop o) < B32 * D := by
  rw [val_drop (ds := R) (s := o) (by omega)]
  have h1 := hd.getD o
  have h2 : B32 * val (R.drop (o + 1)) + B32 ≤ B32 * D := by
    rw [← Nat.mul_succ]; exact Nat.mul_le_mul_left _ h
  omega
theorem div_start {X D n m1 pl b top : Nat} {R : List Nat} (hR : R.length = 65) (hpl : pl = n - m1) (hpl65 : pl ≤ 65) (hX : X < B32 ^ n) (hv : val R = X * 2 ^ b) (htop : B32 ^ m1 ≤ top) (hD : D = top * 2 ^ b) : val (R.drop pl) < D := by
  have h1 := val_take_drop R (s := pl) (by omega)
  have h2 : 2 ^ b > 0 := Nat.two_pow_pos b
  have h3 : val R < B32 ^ n * 2 ^ b := by rw [hv]; exact Nat.mul_lt_mul_of_pos_right hX h2
  have h4 : B32 ^ n ≤ B32 ^ pl * B32 ^ m1 := by rw [← Nat.pow_add]; exact Nat.pow_le_pow_right B32_pos (by omega)
  apply Nat.lt_of_mul_lt_mul_left (a := B32 ^ pl)
  calc B32 ^ pl * val (R.drop pl) ≤ val R := by omega
    _ < B32 ^ n * 2 ^ b := h3
    _ ≤ B32 ^ pl * B32 ^ m1 * 2 ^ b := Nat.mul_le_mul_right _ h4
    _ = B32 ^ pl * (B32 ^ m1 * 2 ^ b) := Nat.mul_assoc _ _ _
    _ ≤ B32 ^ pl * D := by rw [hD]; exact Nat.mul_le_mul_left _ (Nat.mul_le_mul_right _ htop)
theorem div_done {x y q r b : Nat} (h : r + y * 2 ^ b * q = x * 2 ^ b) (hr : r < y * 2 ^ b) : q = x / y ∧ r = x % y * 2 ^ b := by
  have hb : 0 < 2 ^ b := Nat.two_pow_pos b
  have hy : 0 < y := Nat.pos_of_ne_zero fun e => by subst e; omega
  have e1 : x * 2 ^ b / (y * 2 ^ b) = q := by
    rw [← h, Nat.add_mul_div_left _ _ (by omega : 0 < y * 2 ^ b), Nat.div_eq_of_lt hr, Nat.zero_add]
  have e2 : x * 2 ^ b % (y * 2 ^ b) = r := by
    rw [← h, Nat.add_mul_mod_self_left, Nat.mod_eq_of_lt hr]
  rw [Nat.mul_div_mul_right _ _ hb] at e1
  rw [Nat.mul_mod_mul_right] at e2
  exact ⟨e1.symm, e2.symm⟩
theorem back_step {d t b B v : Nat} (hb : b ≤ 31) (hB : B = B32) : d + B * (2 ^ b * v + t) = 2 ^ b * (d / 2 ^ b + t * 2 ^ (32 - b) + B * v) + d % 2 ^ b := by
  have h := Nat.mod_add_div d (2 ^ b)
  have hp : 2 ^ b * 2 ^ (32 - b) = B := by rw [hB]; exact pow_split hb
  have e : 2 ^ b * (t * 2 ^ (32 - b)) = B * t := by rw [← hp]; simp only [Nat.mul_comm, Nat.mul_left_comm, Nat.mul_assoc]
  rw [Nat.mul_add B, Nat.mul_add (2 ^ b), Nat.mul_add (2 ^ b), e, Nat.mul_left_comm (2 ^ b) B v]
  omega
theorem back_val {R V : List Nat} {s b t d : Nat} (hb : b ≤ 31) (hV : V.length = 65) (hR : R.length = 65) (hs : s < 65) (hsame : V[s]? = R[s]?) (hd : d = V[s]?.getD 0) (h : val (R.drop (s + 1)) = 2 ^ b * val (V.drop (s + 1)) + t) :
    val (R.drop s) = 2 ^ b * val ((V.set s (d / 2 ^ b + t * 2 ^ (32 - b))).drop s) + d % 2 ^ b := by
  have h4 : val ((V.set s (d / 2 ^ b + t * 2 ^ (32 - b))).drop s) = d / 2 ^ b + t * 2 ^ (32 - b) + B32 * val (V.drop (s + 1)) := by
    rw [val_drop (ds := V.set s _) (s := s) (by simp; omega)]
    simp [hV, hs, List.drop_set]
  rw [h4, val_drop (ds := R) (s := s) (by omega), ← hsame, ← hd, h]
  exact back_step hb rfl
theorem drop_zero_of_lt {R : List Nat} {k : Nat} (h : val R < B32 ^ k) : val (R.drop k) = 0 := by
  by_cases hk : k ≤ R.length
  · have h1 := val_take_drop R hk
    apply Classical.byContradiction
    intro hne
    have h2 : B32 ^ k * 1 ≤ B32 ^ k * val (R.drop k) := Nat.mul_le_mul_left _ (by omega)
    omega
  · rw [List.drop_eq_nil_of_le (by omega)]; rfl
theorem val_ge_digit {R : List Nat} {j : Nat} (hl : j < R.length) (hne : R[j]?.getD 0 ≠ 0) : B32 ^ j ≤ val R := by
  apply Classical.byContradiction
  intro hn
  have h1 := drop_zero_of_lt (R := R) (k := j) (by omega)
  rw [val_drop hl] at h1
  omega
theorem shY_lt {b m1 : Nat} {ys : List Nat} (hb : b ≤ 31) (hd : Digits ys) (hl : ys.length = m1 + 1) (hm : ys[m1]?.getD 0 * 2 ^ b < B32) : val ys * 2 ^ b < B32 ^ (m1 + 1) := by
  have h1 := val_take_drop ys (s := m1) (by omega)
  have h2 := val_lt (hd.take m1)
  rw [List.length_take, show min m1 ys.length = m1 by omega] at h2
  rw [val_drop (by omega), List.drop_eq_nil_of_le (by omega : ys.length ≤ m1 + 1), val_nil, Nat.mul_zero, Nat.add_zero] at h1
  have hp := pow_split hb
  have h3 : ys[m1]?.getD 0 < 2 ^ (32 - b) := by
    rw [← hp, Nat.mul_comm] at hm
    exact Nat.lt_of_mul_lt_mul_left hm
  have h4 : val ys < B32 ^ m1 * (ys[m1]?.getD 0 + 1) := by rw [Nat.mul_add, Nat.mul_one]; omega
  calc val ys * 2 ^ b < B32 ^ m1 * (ys[m1]?.getD 0 + 1) * 2 ^ b := Nat.mul_lt_mul_of_pos_right h4 (Nat.two_pow_pos b)
    _ ≤ B32 ^ m1 * 2 ^ (32 - b) * 2 ^ b := Nat.mul_le_mul_right _ (Nat.mul_le_mul_left _ h3)
    _ = B32 ^ (m1 + 1) := by rw [Nat.mul_assoc, Nat.mul_comm (2 ^ (32 - b)), hp, Nat.pow_succ]
theorem top_ne_zero {Y : List Nat} {m1 : Nat} (hd : Digits Y) (hlt : val Y < B32 ^ (m1 + 1)) (hge : B32 ^ m1 ≤ val Y) (hl : m1 ≤ Y.length) : Y[m1]?.getD 0 ≠ 0 := fun h0 => by
  have h1 : val (Y.take m1) = val Y := val_take_of_zero fun j hj => by
    by_cases e : j = m1
    · subst e; exact h0
    · exact digit_zero_above (s := 0) (k := m1 + 1) (by simpa using hlt) (by omega)
  have h2 := val_lt (hd.take m1)
  rw [List.length_take, show min m1 Y.length = m1 by omega] at h2
  omega
theorem back_done {b V t m : Nat} (h : m * 2 ^ b = 2 ^ b * V + t) (ht : t < 2 ^ b) : V = m := by
  have h1 := congrArg (· / 2 ^ b) h
  simp only [Nat.mul_div_cancel _ (Nat.two_pow_pos b), Nat.mul_add_div (Nat.two_pow_pos b), Nat.div_eq_of_lt ht, Nat.add_zero] at h1
  exact h1.symm
theorem back_digit {b d t : Nat} (hb : b ≤ 31) (hd : d < B32) (ht : t < 2 ^ b) : d / 2 ^ b + t * 2 ^ (32 - b) < B32 := by
  have h := pow_split hb
  have h1 : d / 2 ^ b < 2 ^ (32 - b) := by rw [Nat.div_lt_iff_lt_mul (Nat.two_pow_pos b), Nat.mul_comm, h]; exact hd
  calc d / 2 ^ b + t * 2 ^ (32 - b) < 2 ^ (32 - b) + t * 2 ^ (32 - b) := by omega
    _ = (t + 1) * 2 ^ (32 - b) := by rw [Nat.add_mul, Nat.one_mul, Nat.add_comm]
    _ ≤ 2 ^ b * 2 ^ (32 - b) := Nat.mul_le_mul_right _ ht
    _ = B32 := h
theorem back_or {b d t : Nat} (hb : b ≤ 31) (hd : d < B32) (ht : t < 2 ^ b) : bits .or .u32 ((d : Int) / 2 ^ b) ((t * 2 ^ (32 - b) : Nat) : Int) = ((d / 2 ^ b + t * 2 ^ (32 - b) : Nat) : Int) := by
  have h := pow_split hb
  have hnd := back_digit hb hd ht
  have h1 : d / 2 ^ b < 2 ^ (32 - b) := by rw [Nat.div_lt_iff_lt_mul (Nat.two_pow_pos b), Nat.mul_comm, h]; exact hd
  have e : (d : Int) / 2 ^ b = ((d / 2 ^ b : Nat) : Int) := by
    rw [show (2 : Int) ^ b = ((2 ^ b : Nat) : Int) by simp]
    exact (Int.natCast_ediv _ _).symm
  have hm : t * 2 ^ (32 - b) % 2 ^ (32 - b) = 0 := Nat.mul_mod_left _ _
  rw [e]
  generalize d / 2 ^ b = y at *
  generalize t * 2 ^ (32 - b) = x at *
  unfold B32 at hnd
  rw [bits_join_low .u32 32 (by decide) u32_keep (32 - b) _ _ (by omega) (by exact_mod_cast h1) (by omega) (by omega) (by exact_mod_cast hm) (by omega)]
  omega
theorem back_carry {b : Nat} (hb : b ≤ 31) (d : Nat) : (d : Int) * 2 ^ (32 - b) % 4294967296 = ((d % 2 ^ b * 2 ^ (32 - b) : Nat) : Int) := by
  have h := pow_split hb
  unfold B32 at h
  have e : d * 2 ^ (32 - b) % 4294967296 = d % 2 ^ b * 2 ^ (32 - b) := by rw [← h, Nat.mul_mod_mul_right]
  rw [show (2 : Int) ^ (32 - b) = ((2 ^ (32 - b) : Nat) : Int) by simp, ← Int.natCast_mul, ← e]
  omega
end Go.Proofs.YtegjcikofmphjaaGreatDoor
/- Layer 1: mathematics of the greatest common divisor and of texts: rows of 65 digits. -/
namespace Go.Proofs.YtegjcikofmphjaaGreatDoor
theorem row_ext : ∀ {a b : List Nat}, a.length = b.length → Digits a → Digits b → val a = val b → a = b
  | [], [], _, _, _, _ => rfl
  | [], _ :: _, h, _, _, _ => by simp at h
  | _ :: _, [], h, _, _, _ => by simp at h
  | d :: a, e :: b, h, ha, hb, hv => by
    have h1 := (Digits.cons.1 ha).1
    have h2 := (Digits.cons.1 hb).1
    rw [val_cons, val_cons] at hv
    have e1 : d = e := by
      have := congrArg (· % B32) hv
      simpa [Nat.add_mul_mod_self_left, Nat.mod_eq_of_lt h1, Nat.mod_eq_of_lt h2] using this
    subst e1
    have e2 : val a = val b := Nat.eq_of_mul_eq_mul_left B32_pos (Nat.add_left_cancel hv)
    rw [row_ext (by simpa using h) (Digits.cons.1 ha).2 (Digits.cons.1 hb).2 e2]
def rowOf (n : Nat) : List Nat := digs n ++ List.replicate (65 - (digs n).length) 0
theorem rowOf_val (n : Nat) : val (rowOf n) = n := by rw [rowOf, val_append, val_zeros, val_digs]; simp
theorem rowOf_digits (n : Nat) : Digits (rowOf n) := (digs_digits n).append fun d hd => by rw [List.eq_of_mem_replicate hd]; exact B32_pos
theorem rowOf_length {n : Nat} (h : n < B32 ^ 65) : (rowOf n).length = 65 := by
  have := digs_len.2 h
  rw [rowOf]; simp; omega
theorem rowOf_eq {q : List Nat} (h : q.length = 65) (hd : Digits q) : q = rowOf (val q) :=
  row_ext (by rw [rowOf_length (by rw [← h]; exact val_lt hd), h]) hd (rowOf_digits _) (rowOf_val _).symm
theorem rowOf_lt {q : List Nat} (h : q.length = 65) (hd : Digits q) : val q < B32 ^ 65 := by rw [← h]; exact val_lt hd
theorem zero_of_val {ds : List Nat} (h : val ds = 0) (j : Nat) : ds[j]?.getD 0 = 0 := by
  apply Classical.byContradiction
  intro hne
  have hl : j < ds.length := by
    apply Classical.byContradiction
    intro hn
    rw [List.getElem?_eq_none (by omega)] at hne
    exact hne rfl
  have := val_ge_digit hl hne
  have := Nat.pow_pos (n := j) B32_pos
  omega
theorem cd_next {R : List Nat} {n : Nat} (hR : R.length = 65) (hn : n ≤ 65) (hv : val R < B32 ^ n) :
    (strip (R.take n)).length ≤ n ∧ (∀ j, (strip (R.take n)).length ≤ j → R[j]?.getD 0 = 0) ∧ (0 < (strip (R.take n)).length → R[(strip (R.take n)).length - 1]?.getD 0 ≠ 0) := by
  have h1 := strip_length_le (R.take n)
  have hlt : (R.take n).length = n := by simp; omega
  have h2 := strip_take (R.take n)
  have hvn : val (R.take n) = val R := val_take_of_zero fun j hj => digit_zero_above (s := 0) (k := n) (by simpa using hv) (by omega)
  have h3 : val (strip (R.take n)) = val R := by rw [val_strip, hvn]
  generalize hs : strip (R.take n) = s at *
  rw [hlt] at h1
  rw [List.take_take, Nat.min_eq_left h1] at h2
  refine ⟨h1, fun j hj => ?_, fun h0 => ?_⟩
  · have h4 := val_take_drop R (s := s.length) (by omega)
    rw [h2, h3] at h4
    have h5 : val (R.drop s.length) = 0 := by
      have := Nat.pow_pos (n := s.length) B32_pos
      rcases Nat.eq_zero_or_pos (val (R.drop s.length)) with e | e
      · exact e
      · have := Nat.mul_pos this e
        omega
    have := zero_of_val h5 (j - s.length)
    rwa [List.getElem?_drop, Nat.add_sub_cancel' hj] at this
  · have h4 : NoZero s := by rw [← hs]; exact strip_strip _
    have h5 := (noZero_last h0).1 h4
    rw [← h2] at h5
    have e : (List.take s.length R).length = s.length := by simp; omega
    rw [e, List.getElem?_take_of_lt (by omega)] at h5
    exact h5
theorem lt_of_zero {R : List Nat} {m : Nat} (hd : Digits R) (hm : m ≤ R.length) (hz : ∀ j, m ≤ j → R[j]?.getD 0 = 0) : val R < B32 ^ m := by
  rw [← val_take_of_zero hz]
  have := val_lt (hd.take m)
  rwa [List.length_take, Nat.min_eq_left hm] at this
theorem val_pos_of_digit {R : List Nat} {j : Nat} (h : R[j]?.getD 0 ≠ 0) : 0 < val R := by
  rcases Nat.eq_zero_or_pos (val R) with e | e
  · exact absurd (zero_of_val e j) h
  · exact e
theorem split2_digits {n : Nat} (h : n < 18446744073709551616) : Digits (n % B32 :: n / B32 :: List.replicate 63 0) := by
  refine Digits.cons.2 ⟨Nat.mod_lt _ B32_pos, Digits.cons.2 ⟨?_, fun d hd => by rw [List.eq_of_mem_replicate hd]; exact B32_pos⟩⟩
  rw [Nat.div_lt_iff_lt_mul B32_pos]; exact h
theorem split2_value (n : Nat) : val (n % B32 :: n / B32 :: List.replicate 63 0) = n := by
  rw [val_cons, val_cons, val_zeros, Nat.mul_zero, Nat.add_zero]; exact Nat.mod_add_div n B32
theorem gcd_le_left' {x y : Nat} (h : 0 < y) : Nat.gcd x y ≤ y := Nat.le_of_dvd h (Nat.gcd_dvd_right x y)
end Go.Proofs.YtegjcikofmphjaaGreatDoor

