/- Layer 1: takeOut. -/
import Derived.Test.YtcmpgboifcemmaaDoorNum15
import Derived.Test.YtcmpgboifcemmaaDoorNum2
import Derived.Test.YtcmpgboifcemmaaDoorNumMath2
import Derived.Deep.RegionHeld3
import Derived.Lib.MinMax
set_option linter.all false
namespace Go.Proofs.YtcmpgboifcemmaaDoor
open Go Go.RowKit Go.Shelf

/-- Below block number B, and but for block g, w' is as w was. -/
structure Keeps (B g : Nat) (w w' : World) : Prop where
  os : w'.os = w.os
  tape : w'.tape = w.tape
  output : w'.output = w.output
  size : w.heap.size ≤ w'.heap.size
  block : ∀ k, k < B → k ≠ g → w'.heap[k]? = w.heap[k]?
theorem Keeps.refl (B g : Nat) (w : World) : Keeps B g w w := ⟨rfl, rfl, rfl, Nat.le_refl _, fun _ _ _ => rfl⟩
theorem Keeps.trans {B g : Nat} {a b c : World} (h : Keeps B g a b) (k : Keeps B g b c) : Keeps B g a c :=
  ⟨k.os.trans h.os, k.tape.trans h.tape, k.output.trans h.output, Nat.le_trans h.size k.size, fun i hi hg => (k.block i hi hg).trans (h.block i hi hg)⟩
theorem Keeps.below {B g : Nat} {a b c : World} (h : Keeps B g a b) (k : Below B b c) : Keeps B g a c :=
  ⟨k.os.trans h.os, k.tape.trans h.tape, k.output.trans h.output, Nat.le_trans h.size k.size, fun i hi hg => (k.block i hi).trans (h.block i hi hg)⟩
theorem Keeps.setCell {B g : Nat} {a w : World} (h : Keeps B g a w) {p : Addr} (hp : p.block = g ∨ B ≤ p.block) (u : Value) : Keeps B g a (w.setCell p u) :=
  ⟨h.os, h.tape, h.output, by simp [World.setCell]; exact h.size, fun k hk hg => (heap_setCell_other w p k u (by rcases hp with e | e <;> omega)).trans (h.block k hk hg)⟩
theorem Keeps.cell {B g : Nat} {w w' : World} (h : Keeps B g w w') {p : Addr} (hp : p.block < B) (hg : p.block ≠ g) : w'.cell? p = w.cell? p := World.cell?_of_block (h.block p.block hp hg)
theorem Keeps.row {B g : Nat} {w w' : World} (h : Keeps B g w w') {k : Nat} {t : TypeId} {cs : Array Value} (hr : RowAt w k t cs) (hp : k < B) (hg : k ≠ g) : RowAt w' k t cs := (h.block k hp hg).trans hr
theorem Keeps.mono {B B' g : Nat} {w w' : World} (h : Keeps B g w w') (hb : B' ≤ B) : Keeps B' g w w' := ⟨h.os, h.tape, h.output, h.size, fun k hk hg => h.block k (by omega) hg⟩

section
variable (g o : Nat) (Y R : List Nat)
/-- g times Y is taken from the row R from place o on: what is carried, what is borrowed, and the row, after k digits. -/
def toSub : Nat → Nat × Nat × List Nat
  | 0 => (0, 0, R)
  | k + 1 =>
    (((toSub k).1 + g * Y[k]?.getD 0) / B32,
     subHi ((toSub k).2.2[o + k]?.getD 0) (((toSub k).1 + g * Y[k]?.getD 0) % B32) (toSub k).2.1,
     (toSub k).2.2.set (o + k) (subLo ((toSub k).2.2[o + k]?.getD 0) (((toSub k).1 + g * Y[k]?.getD 0) % B32) (toSub k).2.1))
def subB (m : Nat) : Nat := subHi ((toSub g o Y R m).2.2[o + m]?.getD 0) (toSub g o Y R m).1 (toSub g o Y R m).2.1
def subR (m : Nat) : List Nat := (toSub g o Y R m).2.2.set (o + m) (subLo ((toSub g o Y R m).2.2[o + m]?.getD 0) (toSub g o Y R m).1 (toSub g o Y R m).2.1)
/-- Y is added to the row R from place o on: what is carried, and the row, after k digits. -/
def toAdd : Nat → Nat × List Nat
  | 0 => (0, R)
  | k + 1 =>
    (addHi ((toAdd k).2[o + k]?.getD 0) (Y[k]?.getD 0) (toAdd k).1,
     (toAdd k).2.set (o + k) (addLo ((toAdd k).2[o + k]?.getD 0) (Y[k]?.getD 0) (toAdd k).1))
def addB (m : Nat) : Nat := addHi ((toAdd o Y R m).2[o + m]?.getD 0) 0 (toAdd o Y R m).1
def addR (m : Nat) : List Nat := (toAdd o Y R m).2.set (o + m) (addLo ((toAdd o Y R m).2[o + m]?.getD 0) 0 (toAdd o Y R m).1)
end

theorem subHi_le (x y c : Nat) : subHi x y c ≤ 1 := by unfold subHi; split <;> omega
theorem addHi_le {x y c : Nat} (hx : x < B32) (hy : y < B32) (hc : c ≤ 1) : addHi x y c ≤ 1 := by unfold addHi B32 at *; omega

theorem toSub_length (g o : Nat) (Y R : List Nat) (k : Nat) : (toSub g o Y R k).2.2.length = R.length := by
  induction k with
  | zero => rfl
  | succ k ih => simp [toSub, ih]
theorem toSub_bounds {g o : Nat} {Y R : List Nat} (hg : g < B32) (hY : Digits Y) (hR : Digits R) (k : Nat) : (toSub g o Y R k).1 < B32 ∧ (toSub g o Y R k).2.1 ≤ 1 ∧ Digits (toSub g o Y R k).2.2 := by
  induction k with
  | zero => exact ⟨B32_pos, Nat.zero_le _, hR⟩
  | succ k ih =>
    obtain ⟨h1, h2, h3⟩ := ih
    have hm := mul_bound hg (hY.getD k)
    refine ⟨?_, subHi_le _ _ _, h3.set _ (subLo_lt _ _ _)⟩
    show (_ / B32) < B32
    unfold B32 at *
    omega
theorem toSub_get (g o : Nat) (Y R : List Nat) (k j : Nat) (hj : j < o ∨ o + k ≤ j) : (toSub g o Y R k).2.2[j]? = R[j]? := by
  induction k with
  | zero => rfl
  | succ k ih =>
    show ((toSub g o Y R k).2.2.set (o + k) _)[j]? = _
    rw [List.getElem?_set_ne (by omega), ih (by omega)]
theorem toSub_val {g o : Nat} {Y R : List Nat} (hg : g < B32) (hY : Digits Y) (hR : Digits R) (k : Nat) (hk : o + k ≤ R.length) :
    val (toSub g o Y R k).2.2 + B32 ^ o * (g * val (Y.take k)) = val R + B32 ^ (o + k) * ((toSub g o Y R k).1 + (toSub g o Y R k).2.1) := by
  induction k with
  | zero => simp [toSub, val]
  | succ k ih =>
    have ih := ih (by omega)
    obtain ⟨h1, h2, h3⟩ := toSub_bounds (o := o) hg hY hR k
    have hset := val_set (subLo ((toSub g o Y R k).2.2[o + k]?.getD 0) (((toSub g o Y R k).1 + g * Y[k]?.getD 0) % B32) (toSub g o Y R k).2.1) (l := (toSub g o Y R k).2.2) (j := o + k) (by rw [toSub_length]; omega)
    have hst := sub_step (h3.getD (o + k)) (Nat.mod_lt ((toSub g o Y R k).1 + g * Y[k]?.getD 0) B32_pos) h2
    have hdm := Nat.mod_add_div ((toSub g o Y R k).1 + g * Y[k]?.getD 0) B32
    show val ((toSub g o Y R k).2.2.set (o + k) _) + _ = _ + B32 ^ (o + (k + 1)) * ((_ / B32) + subHi _ _ _)
    rw [val_take_succ]
    generalize (toSub g o Y R k).2.2[o + k]?.getD 0 = r at *
    generalize (toSub g o Y R k).1 = c at *
    generalize (toSub g o Y R k).2.1 = b at *
    generalize subLo r ((c + g * Y[k]?.getD 0) % B32) b = lo at *
    generalize subHi r ((c + g * Y[k]?.getD 0) % B32) b = hi at *
    have e1 := congrArg (B32 ^ (o + k) * ·) hdm
    have e2 := congrArg (B32 ^ (o + k) * ·) hst
    simp only [Nat.mul_add] at e1 e2
    have e3 : B32 ^ (o + (k + 1)) * ((c + g * Y[k]?.getD 0) / B32 + hi) = B32 ^ (o + k) * (B32 * ((c + g * Y[k]?.getD 0) / B32)) + B32 ^ (o + k) * (B32 * hi) := by
      rw [← Nat.add_assoc, Nat.pow_succ, Nat.mul_assoc, Nat.mul_add, Nat.mul_add]
    have e4 : B32 ^ o * (g * (val (Y.take k) + B32 ^ k * Y[k]?.getD 0)) = B32 ^ o * (g * val (Y.take k)) + B32 ^ (o + k) * (g * Y[k]?.getD 0) := by
      rw [Nat.mul_add, Nat.mul_add, Nat.pow_add, Nat.mul_left_comm g, Nat.mul_assoc]
    rw [Nat.mul_add] at ih
    rw [e3, e4]
    omega
theorem subR_length (g o : Nat) (Y R : List Nat) (m : Nat) : (subR g o Y R m).length = R.length := by simp [subR, toSub_length]
theorem subR_digits {g o : Nat} {Y R : List Nat} (hg : g < B32) (hY : Digits Y) (hR : Digits R) (m : Nat) : Digits (subR g o Y R m) := (toSub_bounds hg hY hR m).2.2.set _ (subLo_lt _ _ _)
theorem subR_get (g o : Nat) (Y R : List Nat) (m j : Nat) (hj : j < o ∨ o + m < j) : (subR g o Y R m)[j]? = R[j]? := by
  unfold subR
  rw [List.getElem?_set_ne (show o + m ≠ j by omega)]
  exact toSub_get _ _ _ _ m j (by omega)
theorem subR_val {g o : Nat} {Y R : List Nat} (hg : g < B32) (hY : Digits Y) (hR : Digits R) (hk : o + Y.length < R.length) :
    val (subR g o Y R Y.length) + B32 ^ o * (g * val Y) = val R + B32 ^ (o + Y.length + 1) * subB g o Y R Y.length := by
  obtain ⟨h1, h2, h3⟩ := toSub_bounds (o := o) hg hY hR Y.length
  have hv := toSub_val (o := o) hg hY hR Y.length (by omega)
  rw [val_take_all (Nat.le_refl _)] at hv
  have hset := val_set (subLo ((toSub g o Y R Y.length).2.2[o + Y.length]?.getD 0) (toSub g o Y R Y.length).1 (toSub g o Y R Y.length).2.1) (l := (toSub g o Y R Y.length).2.2) (j := o + Y.length) (by rw [toSub_length]; omega)
  have hst := sub_step (h3.getD (o + Y.length)) h1 h2
  unfold subR subB
  generalize (toSub g o Y R Y.length).2.2[o + Y.length]?.getD 0 = r at *
  generalize (toSub g o Y R Y.length).1 = c at *
  generalize (toSub g o Y R Y.length).2.1 = b at *
  generalize subLo r c b = lo at *
  generalize subHi r c b = hi at *
  have e2 := congrArg (B32 ^ (o + Y.length) * ·) hst
  simp only [Nat.mul_add] at e2
  have e3 : B32 ^ (o + Y.length + 1) * hi = B32 ^ (o + Y.length) * (B32 * hi) := by rw [Nat.pow_succ, Nat.mul_assoc]
  rw [Nat.mul_add] at hv
  rw [e3]
  omega

theorem toAdd_length (o : Nat) (Y R : List Nat) (k : Nat) : (toAdd o Y R k).2.length = R.length := by
  induction k with
  | zero => rfl
  | succ k ih => simp [toAdd, ih]
theorem toAdd_bounds {o : Nat} {Y R : List Nat} (hY : Digits Y) (hR : Digits R) (k : Nat) : (toAdd o Y R k).1 ≤ 1 ∧ Digits (toAdd o Y R k).2 := by
  induction k with
  | zero => exact ⟨Nat.zero_le _, hR⟩
  | succ k ih => exact ⟨addHi_le (ih.2.getD _) (hY.getD _) ih.1, ih.2.set _ (addLo_lt _ _ _)⟩
theorem toAdd_get (o : Nat) (Y R : List Nat) (k j : Nat) (hj : j < o ∨ o + k ≤ j) : (toAdd o Y R k).2[j]? = R[j]? := by
  induction k with
  | zero => rfl
  | succ k ih =>
    show ((toAdd o Y R k).2.set (o + k) _)[j]? = _
    rw [List.getElem?_set_ne (by omega), ih (by omega)]
theorem toAdd_val {o : Nat} {Y R : List Nat} (hY : Digits Y) (hR : Digits R) (k : Nat) (hk : o + k ≤ R.length) :
    val (toAdd o Y R k).2 + B32 ^ (o + k) * (toAdd o Y R k).1 = val R + B32 ^ o * val (Y.take k) := by
  induction k with
  | zero => simp [toAdd, val]
  | succ k ih =>
    have ih := ih (by omega)
    have hset := val_set (addLo ((toAdd o Y R k).2[o + k]?.getD 0) (Y[k]?.getD 0) (toAdd o Y R k).1) (l := (toAdd o Y R k).2) (j := o + k) (by rw [toAdd_length]; omega)
    have hst := add_step ((toAdd o Y R k).2[o + k]?.getD 0) (Y[k]?.getD 0) (toAdd o Y R k).1
    show val ((toAdd o Y R k).2.set (o + k) _) + B32 ^ (o + (k + 1)) * addHi _ _ _ = _
    rw [val_take_succ]
    generalize (toAdd o Y R k).2[o + k]?.getD 0 = r at *
    generalize (toAdd o Y R k).1 = c at *
    generalize addLo r (Y[k]?.getD 0) c = lo at *
    generalize addHi r (Y[k]?.getD 0) c = hi at *
    have e2 := congrArg (B32 ^ (o + k) * ·) hst
    simp only [Nat.mul_add] at e2
    have e3 : B32 ^ (o + (k + 1)) * hi = B32 ^ (o + k) * (B32 * hi) := by rw [← Nat.add_assoc, Nat.pow_succ, Nat.mul_assoc]
    have e4 : B32 ^ o * (val (Y.take k) + B32 ^ k * Y[k]?.getD 0) = B32 ^ o * val (Y.take k) + B32 ^ (o + k) * Y[k]?.getD 0 := by
      rw [Nat.mul_add, Nat.pow_add, Nat.mul_assoc]
    rw [e3, e4]
    omega
theorem addR_length (o : Nat) (Y R : List Nat) (m : Nat) : (addR o Y R m).length = R.length := by simp [addR, toAdd_length]
theorem addR_digits {o : Nat} {Y R : List Nat} (hY : Digits Y) (hR : Digits R) (m : Nat) : Digits (addR o Y R m) := (toAdd_bounds hY hR m).2.set _ (addLo_lt _ _ _)
theorem addR_get (o : Nat) (Y R : List Nat) (m j : Nat) (hj : j < o ∨ o + m < j) : (addR o Y R m)[j]? = R[j]? := by
  unfold addR
  rw [List.getElem?_set_ne (show o + m ≠ j by omega)]
  exact toAdd_get _ _ _ m j (by omega)
theorem addB_le {o : Nat} {Y R : List Nat} (hY : Digits Y) (hR : Digits R) (m : Nat) : addB o Y R m ≤ 1 := addHi_le ((toAdd_bounds hY hR m).2.getD _) B32_pos (toAdd_bounds hY hR m).1
theorem addR_val {o : Nat} {Y R : List Nat} (hY : Digits Y) (hR : Digits R) (hk : o + Y.length < R.length) :
    val (addR o Y R Y.length) + B32 ^ (o + Y.length + 1) * addB o Y R Y.length = val R + B32 ^ o * val Y := by
  have hv := toAdd_val (o := o) hY hR Y.length (by omega)
  rw [val_take_all (Nat.le_refl _)] at hv
  have hset := val_set (addLo ((toAdd o Y R Y.length).2[o + Y.length]?.getD 0) 0 (toAdd o Y R Y.length).1) (l := (toAdd o Y R Y.length).2) (j := o + Y.length) (by rw [toAdd_length]; omega)
  have hst := add_step ((toAdd o Y R Y.length).2[o + Y.length]?.getD 0) 0 (toAdd o Y R Y.length).1
  unfold addR addB
  generalize (toAdd o Y R Y.length).2[o + Y.length]?.getD 0 = r at *
  generalize (toAdd o Y R Y.length).1 = c at *
  generalize addLo r 0 c = lo at *
  generalize addHi r 0 c = hi at *
  have e2 := congrArg (B32 ^ (o + Y.length) * ·) hst
  simp only [Nat.mul_add] at e2
  have e3 : B32 ^ (o + Y.length + 1) * hi = B32 ^ (o + Y.length) * (B32 * hi) := by rw [Nat.pow_succ, Nat.mul_assoc]
  rw [e3]
  omega

/-- The first guess. -/
def guess0 (o : Nat) (Y R : List Nat) (m : Nat) : Nat := min ((R[o + m]?.getD 0 + B32 * R[o + m + 1]?.getD 0) / Y[m]?.getD 0) 4294967295

/-- What the second loop keeps: the guess, what is borrowed, the row. -/
structure Out (o : Nat) (Y R : List Nat) (g b : Nat) (Z : List Nat) : Prop where
  hb : b ≤ 1
  hg : g < B32
  digits : Digits Z
  len : Z.length = R.length
  same : ∀ j, j < o ∨ o + Y.length < j → Z[j]? = R[j]?
  eq : val Z + B32 ^ o * (g * val Y) = val R + B32 ^ (o + Y.length + 1) * b
  big : val (R.drop o) / val Y ≤ g

theorem getD_congr {a b : List Nat} {j : Nat} (h : a[j]? = b[j]?) : a[j]?.getD 0 = b[j]?.getD 0 := by rw [h]
theorem take_congr {a b : List Nat} {o : Nat} (hl : a.length = b.length) (h : ∀ j, j < o → a[j]? = b[j]?) : a.take o = b.take o := by
  apply List.ext_getElem?
  intro j
  rw [List.getElem?_take, List.getElem?_take]
  split
  · exact h j ‹_›
  · rfl

theorem Out.seg {o g b : Nat} {Y R Z : List Nat} (h : Out o Y R g b Z) (hR : o + Y.length < R.length) (hz : ∀ j, o + Y.length < j → R[j]?.getD 0 = 0) :
    val (Z.drop o) + g * val Y = val (R.drop o) + B32 ^ (Y.length + 1) * b ∧ val (Z.drop o) < B32 ^ (Y.length + 1) := by
  constructor
  · have h1 := val_take_drop Z (s := o) (by rw [h.len]; omega)
    have h2 := val_take_drop R (s := o) (by omega)
    have h3 : Z.take o = R.take o := take_congr h.len (fun j hj => h.same j (.inl hj))
    have h4 := h.eq
    rw [h1, h2, h3, show o + Y.length + 1 = o + (Y.length + 1) by omega, Nat.pow_add, Nat.mul_assoc (B32 ^ o)] at h4
    have h5 : B32 ^ o * (val (Z.drop o) + g * val Y) = B32 ^ o * (val (R.drop o) + B32 ^ (Y.length + 1) * b) := by
      rw [Nat.mul_add, Nat.mul_add]; omega
    exact Nat.eq_of_mul_eq_mul_left (Nat.pow_pos B32_pos) h5
  · have hd : Digits ((Z.drop o).take (Y.length + 1)) := (h.digits.drop o).take _
    have h1 := val_lt hd
    rw [val_take_of_zero (ds := Z.drop o) (n := Y.length + 1) (fun j hj => by
      rw [List.getElem?_drop, getD_congr (h.same (o + j) (.inr (by omega)))]
      exact hz (o + j) (by omega))] at h1
    exact Nat.lt_of_lt_of_le h1 (Nat.pow_le_pow_right B32_pos (by simp; omega))
theorem Out.pos {o g : Nat} {Y R Z : List Nat} (h : Out o Y R g 1 Z) (hY : 0 < val Y) (hR : o + Y.length < R.length) (hz : ∀ j, o + Y.length < j → R[j]?.getD 0 = 0) : val (R.drop o) / val Y < g := by
  obtain ⟨h1, h2⟩ := h.seg hR hz
  rw [Nat.div_lt_iff_lt_mul hY]
  omega
theorem Out.step {o g : Nat} {Y R Z : List Nat} (h : Out o Y R g 1 Z) (hdY : Digits Y) (hY : 0 < val Y) (hR : o + Y.length < R.length) (hz : ∀ j, o + Y.length < j → R[j]?.getD 0 = 0) :
    Out o Y R (g - 1) (1 - addB o Y Z Y.length) (addR o Y Z Y.length) := by
  have hp := h.pos hY hR hz
  have hg1 : 1 ≤ g := Nat.lt_of_le_of_lt (Nat.zero_le _) hp
  have hv := addR_val (o := o) hdY h.digits (by rw [h.len]; exact hR)
  have ho := addB_le (o := o) hdY h.digits Y.length
  refine ⟨by omega, by have := h.hg; omega, addR_digits hdY h.digits _, by rw [addR_length, h.len], fun j hj => (addR_get _ _ _ _ _ hj).trans (h.same j hj), ?_, by omega⟩
  have he := h.eq
  rw [Nat.mul_one] at he
  have e1 : B32 ^ o * ((g - 1) * val Y) + B32 ^ o * val Y = B32 ^ o * (g * val Y) := by
    rw [← Nat.mul_add]; congr 1
    rw [Nat.sub_mul, Nat.one_mul]
    have : val Y ≤ g * val Y := Nat.le_mul_of_pos_left _ (by omega)
    omega
  generalize addB o Y Z Y.length = ov at *
  rcases Nat.lt_or_ge ov 1 with h1 | h1
  · have : ov = 0 := by omega
    subst this
    rw [Nat.mul_zero] at hv
    rw [Nat.sub_zero, Nat.mul_one]
    omega
  · have : ov = 1 := by omega
    subst this
    rw [Nat.mul_one] at hv
    rw [Nat.sub_self, Nat.mul_zero]
    omega
theorem Out.done {o g : Nat} {Y R Z : List Nat} (h : Out o Y R g 0 Z) (hY : 0 < val Y) (hR : o + Y.length < R.length) (hz : ∀ j, o + Y.length < j → R[j]?.getD 0 = 0) :
    g = val (R.drop o) / val Y ∧ val (Z.drop o) = val (R.drop o) % val Y := by
  obtain ⟨h1, -⟩ := h.seg hR hz
  rw [Nat.mul_zero, Nat.add_zero] at h1
  have h2 : g ≤ val (R.drop o) / val Y := by rw [Nat.le_div_iff_mul_le hY]; omega
  have h3 : g = val (R.drop o) / val Y := Nat.le_antisymm h2 h.big
  refine ⟨h3, ?_⟩
  have := Nat.mod_add_div (val (R.drop o)) (val Y)
  rw [← h3, Nat.mul_comm] at this
  omega
theorem out_start {o g : Nat} {Y R : List Nat} (hg : g < B32) (hdY : Digits Y) (hdR : Digits R) (hR : o + Y.length < R.length) (hbig : val (R.drop o) / val Y ≤ g) :
    Out o Y R g (subB g o Y R Y.length) (subR g o Y R Y.length) :=
  ⟨subHi_le _ _ _, hg, subR_digits hg hdY hdR _, subR_length _ _ _ _ _, fun j hj => subR_get _ _ _ _ _ _ hj, subR_val hg hdY hdR hR, hbig⟩

end Go.Proofs.YtcmpgboifcemmaaDoor
