import Derived.Lib.EndianBits
import Derived.OrdersIn
import Derived.Deep.RegionHeld3
import Derived.Lib.MinMax
import Derived.BigRegionIn
import Derived.RegionIn
import Derived.Stop.RegionWithIn
import Derived.Test.YtgnogdncoljldaaGreatQP2
set_option linter.all false
namespace Go.Proofs.YtgnogdncoljldaaGreat
open Go Go.RowKit
theorem digit_zero_above {R : List Nat} {s k : Nat} (h : val (R.drop s) < B32 ^ k) {j : Nat} (hj : s + k ≤ j) : R[j]?.getD 0 = 0 := by
 apply Classical.byContradiction
 intro hne
 have hl : j < R.length := by
  apply Classical.byContradiction
  intro hn
  exact hne (by simp [List.getElem?_eq_none (by omega : R.length ≤ j)])
 have h1 := val_take_drop (R.drop s) (s := j - s) (by simp; omega)
 rw [List.drop_drop, show s + (j - s) = j by omega, val_drop (ds := R) (s := j) hl] at h1
 have h2 : B32 ^ k ≤ B32 ^ (j - s) := Nat.pow_le_pow_right B32_pos (by omega)
 have h3 : B32 ^ (j - s) * 1 ≤ B32 ^ (j - s) * (R[j]?.getD 0 + B32 * val (R.drop (j + 1))) := Nat.mul_le_mul_left _ (by omega)
 omega
theorem div_step {R Z Q : List Nat} {o D : Nat} {v0 : Nat} (hR : R.length = 65) (hZ : Z.length = 65) (hQ : Q.length = 65) (ho : o < 65) (hsame : ∀ j, j < o → Z[j]? = R[j]?) (hmod : val (Z.drop o) = val (R.drop o) % D)
  (hinv : val R + D * B32 ^ (o + 1) * val (Q.drop (o + 1)) = v0) : val Z + D * B32 ^ o * val ((Q.set o (val (R.drop o) / D)).drop o) = v0 := by
 have h1 := val_take_drop R (s := o) (by omega)
 have h2 := val_take_drop Z (s := o) (by omega)
 have h3 : Z.take o = R.take o := take_congr (hZ.trans hR.symm) hsame
 have h4 : val ((Q.set o (val (R.drop o) / D)).drop o) = val (R.drop o) / D + B32 * val (Q.drop (o + 1)) := by
  rw [val_drop (ds := Q.set o (val (R.drop o) / D)) (s := o) (by simp; omega)]
  simp [hQ, ho, List.drop_set]
 have h5 := Nat.mod_add_div (val (R.drop o)) D
 rw [h4, ← hinv, h1, h2, h3, hmod, Nat.pow_succ]
 generalize val (R.drop o) = x at *
 generalize x / D = q at *
 generalize x % D = r at *
 generalize val (Q.drop (o + 1)) = y at *
 generalize B32 ^ o = P at *
 have e : D * (P * B32) * y = D * P * (B32 * y) := by simp only [Nat.mul_assoc]
 rw [e, Nat.mul_add (D * P), show D * P * q = P * (D * q) by rw [Nat.mul_comm D P, Nat.mul_assoc], ← h5, Nat.mul_add P]
 omega
theorem div_bound {R : List Nat} {o D : Nat} (hd : Digits R) (hR : R.length = 65) (ho : o < 65) (h : val (R.drop (o + 1)) < D) : val (R.drop o) < B32 * D := by
 rw [val_drop (ds := R) (s := o) (by omega)]
 have h1 := hd.getD o
 have h2 : B32 * val (R.drop (o + 1)) + B32 ≤ B32 * D := by
  rw [← Nat.mul_succ]; exact Nat.mul_le_mul_left _ h
 omega
theorem div_start {X D n m1 pl b top : Nat} {R : List Nat} (hR : R.length = 65) (hpl : pl = n - m1) (hpl65 : pl ≤ 65) (hX : X < B32 ^ n) (hv : val R = X * 2 ^ b) (htop : B32 ^ m1 ≤ top) (hD : D = top * 2 ^ b) : val (R.drop pl) < D := by
 have h1 := val_take_drop R (s := pl) (by omega)
 have h2 : 2 ^ b > 0 := Nat.two_pow_pos b
 have h3 : val R < B32 ^ n * 2 ^ b := by rw [hv]; exact Nat.mul_lt_mul_of_pos_right hX h2
 have h4 : B32 ^ n ≤ B32 ^ pl * B32 ^ m1 := by rw [← Nat.pow_add]; exact Nat.pow_le_pow_right B32_pos (by omega)
 apply Nat.lt_of_mul_lt_mul_left (a := B32 ^ pl)
 calc B32 ^ pl * val (R.drop pl) ≤ val R := by omega
  _ < B32 ^ n * 2 ^ b := h3
  _ ≤ B32 ^ pl * B32 ^ m1 * 2 ^ b := Nat.mul_le_mul_right _ h4
  _ = B32 ^ pl * (B32 ^ m1 * 2 ^ b) := Nat.mul_assoc _ _ _
  _ ≤ B32 ^ pl * D := by rw [hD]; exact Nat.mul_le_mul_left _ (Nat.mul_le_mul_right _ htop)
theorem div_done {x y q r b : Nat} (h : r + y * 2 ^ b * q = x * 2 ^ b) (hr : r < y * 2 ^ b) : q = x / y ∧ r = x % y * 2 ^ b := by
 have hb : 0 < 2 ^ b := Nat.two_pow_pos b
 have hy : 0 < y := Nat.pos_of_ne_zero fun e => by subst e; omega
 have e1 : x * 2 ^ b / (y * 2 ^ b) = q := by
  rw [← h, Nat.add_mul_div_left _ _ (by omega : 0 < y * 2 ^ b), Nat.div_eq_of_lt hr, Nat.zero_add]
 have e2 : x * 2 ^ b % (y * 2 ^ b) = r := by
  rw [← h, Nat.add_mul_mod_self_left, Nat.mod_eq_of_lt hr]
 rw [Nat.mul_div_mul_right _ _ hb] at e1
 rw [Nat.mul_mod_mul_right] at e2
 exact ⟨e1.symm, e2.symm⟩
theorem back_step {d t b B v : Nat} (hb : b ≤ 31) (hB : B = B32) : d + B * (2 ^ b * v + t) = 2 ^ b * (d / 2 ^ b + t * 2 ^ (32 - b) + B * v) + d % 2 ^ b := by
 have h := Nat.mod_add_div d (2 ^ b)
 have hp : 2 ^ b * 2 ^ (32 - b) = B := by rw [hB]; exact pow_split hb
 have e : 2 ^ b * (t * 2 ^ (32 - b)) = B * t := by rw [← hp]; simp only [Nat.mul_comm, Nat.mul_left_comm, Nat.mul_assoc]
 rw [Nat.mul_add B, Nat.mul_add (2 ^ b), Nat.mul_add (2 ^ b), e, Nat.mul_left_comm (2 ^ b) B v]
 omega
theorem back_val {R V : List Nat} {s b t d : Nat} (hb : b ≤ 31) (hV : V.length = 65) (hR : R.length = 65) (hs : s < 65) (hsame : V[s]? = R[s]?) (hd : d = V[s]?.getD 0) (h : val (R.drop (s + 1)) = 2 ^ b * val (V.drop (s + 1)) + t) :
  val (R.drop s) = 2 ^ b * val ((V.set s (d / 2 ^ b + t * 2 ^ (32 - b))).drop s) + d % 2 ^ b := by
 have h4 : val ((V.set s (d / 2 ^ b + t * 2 ^ (32 - b))).drop s) = d / 2 ^ b + t * 2 ^ (32 - b) + B32 * val (V.drop (s + 1)) := by
  rw [val_drop (ds := V.set s _) (s := s) (by simp; omega)]
  simp [hV, hs, List.drop_set]
 rw [h4, val_drop (ds := R) (s := s) (by omega), ← hsame, ← hd, h]
 exact back_step hb rfl
theorem drop_zero_of_lt {R : List Nat} {k : Nat} (h : val R < B32 ^ k) : val (R.drop k) = 0 := by
 by_cases hk : k ≤ R.length
 ·have h1 := val_take_drop R hk
  apply Classical.byContradiction
  intro hne
  have h2 : B32 ^ k * 1 ≤ B32 ^ k * val (R.drop k) := Nat.mul_le_mul_left _ (by omega)
  omega
 ·rw [List.drop_eq_nil_of_le (by omega)]; rfl
theorem val_ge_digit {R : List Nat} {j : Nat} (hl : j < R.length) (hne : R[j]?.getD 0 ≠ 0) : B32 ^ j ≤ val R := by
 apply Classical.byContradiction
 intro hn
 have h1 := drop_zero_of_lt (R := R) (k := j) (by omega)
 rw [val_drop hl] at h1
 omega
theorem shY_lt {b m1 : Nat} {ys : List Nat} (hb : b ≤ 31) (hd : Digits ys) (hl : ys.length = m1 + 1) (hm : ys[m1]?.getD 0 * 2 ^ b < B32) : val ys * 2 ^ b < B32 ^ (m1 + 1) := by
 have h1 := val_take_drop ys (s := m1) (by omega)
 have h2 := val_lt (hd.take m1)
 rw [List.length_take, show min m1 ys.length = m1 by omega] at h2
 rw [val_drop (by omega), List.drop_eq_nil_of_le (by omega : ys.length ≤ m1 + 1), val_nil, Nat.mul_zero, Nat.add_zero] at h1
 have hp := pow_split hb
 have h3 : ys[m1]?.getD 0 < 2 ^ (32 - b) := by
  rw [← hp, Nat.mul_comm] at hm
  exact Nat.lt_of_mul_lt_mul_left hm
 have h4 : val ys < B32 ^ m1 * (ys[m1]?.getD 0 + 1) := by rw [Nat.mul_add, Nat.mul_one]; omega
 calc val ys * 2 ^ b < B32 ^ m1 * (ys[m1]?.getD 0 + 1) * 2 ^ b := Nat.mul_lt_mul_of_pos_right h4 (Nat.two_pow_pos b)
  _ ≤ B32 ^ m1 * 2 ^ (32 - b) * 2 ^ b := Nat.mul_le_mul_right _ (Nat.mul_le_mul_left _ h3)
  _ = B32 ^ (m1 + 1) := by rw [Nat.mul_assoc, Nat.mul_comm (2 ^ (32 - b)), hp, Nat.pow_succ]
theorem top_ne_zero {Y : List Nat} {m1 : Nat} (hd : Digits Y) (hlt : val Y < B32 ^ (m1 + 1)) (hge : B32 ^ m1 ≤ val Y) (hl : m1 ≤ Y.length) : Y[m1]?.getD 0 ≠ 0 := fun h0 => by
 have h1 : val (Y.take m1) = val Y := val_take_of_zero fun j hj => by
  by_cases e : j = m1
  ·subst e; exact h0
  ·exact digit_zero_above (s := 0) (k := m1 + 1) (by simpa using hlt) (by omega)
 have h2 := val_lt (hd.take m1)
 rw [List.length_take, show min m1 Y.length = m1 by omega] at h2
 omega
theorem back_done {b V t m : Nat} (h : m * 2 ^ b = 2 ^ b * V + t) (ht : t < 2 ^ b) : V = m := by
 have h1 := congrArg (· / 2 ^ b) h
 simp only [Nat.mul_div_cancel _ (Nat.two_pow_pos b), Nat.mul_add_div (Nat.two_pow_pos b), Nat.div_eq_of_lt ht, Nat.add_zero] at h1
 exact h1.symm
theorem back_digit {b d t : Nat} (hb : b ≤ 31) (hd : d < B32) (ht : t < 2 ^ b) : d / 2 ^ b + t * 2 ^ (32 - b) < B32 := by
 have h := pow_split hb
 have h1 : d / 2 ^ b < 2 ^ (32 - b) := by rw [Nat.div_lt_iff_lt_mul (Nat.two_pow_pos b), Nat.mul_comm, h]; exact hd
 calc d / 2 ^ b + t * 2 ^ (32 - b) < 2 ^ (32 - b) + t * 2 ^ (32 - b) := by omega
  _ = (t + 1) * 2 ^ (32 - b) := by rw [Nat.add_mul, Nat.one_mul, Nat.add_comm]
  _ ≤ 2 ^ b * 2 ^ (32 - b) := Nat.mul_le_mul_right _ ht
  _ = B32 := h
theorem back_or {b d t : Nat} (hb : b ≤ 31) (hd : d < B32) (ht : t < 2 ^ b) : bits .or .u32 ((d : Int) / 2 ^ b) ((t * 2 ^ (32 - b) : Nat) : Int) = ((d / 2 ^ b + t * 2 ^ (32 - b) : Nat) : Int) := by
 have h := pow_split hb
 have hnd := back_digit hb hd ht
 have h1 : d / 2 ^ b < 2 ^ (32 - b) := by rw [Nat.div_lt_iff_lt_mul (Nat.two_pow_pos b), Nat.mul_comm, h]; exact hd
 have e : (d : Int) / 2 ^ b = ((d / 2 ^ b : Nat) : Int) := by
  rw [show (2 : Int) ^ b = ((2 ^ b : Nat) : Int) by simp]
  exact (Int.natCast_ediv _ _).symm
 have hm : t * 2 ^ (32 - b) % 2 ^ (32 - b) = 0 := Nat.mul_mod_left _ _
 rw [e]
 generalize d / 2 ^ b = y at *
 generalize t * 2 ^ (32 - b) = x at *
 unfold B32 at hnd
 rw [bits_join_low .u32 32 (by decide) u32_keep (32 - b) _ _ (by omega) (by exact_mod_cast h1) (by omega) (by omega) (by exact_mod_cast hm) (by omega)]
 omega
theorem back_carry {b : Nat} (hb : b ≤ 31) (d : Nat) : (d : Int) * 2 ^ (32 - b) % 4294967296 = ((d % 2 ^ b * 2 ^ (32 - b) : Nat) : Int) := by
 have h := pow_split hb
 unfold B32 at h
 have e : d * 2 ^ (32 - b) % 4294967296 = d % 2 ^ b * 2 ^ (32 - b) := by rw [← h, Nat.mul_mod_mul_right]
 rw [show (2 : Int) ^ (32 - b) = ((2 ^ (32 - b) : Nat) : Int) by simp, ← Int.natCast_mul, ← e]
 omega
end Go.Proofs.YtgnogdncoljldaaGreat
namespace Go.Proofs.YtgnogdncoljldaaGreat
open Go Go.RowKit
def regionOk (ops : Array Oper) : Bool := (List.range ops.size).all fun i => match ops[i]? with
 | none => true
 | some o => o.guard.isNone && o.after.all fun e => !Region.binds .any e || decide (e.on < i)
theorem regionOk_spec {ops : Array Oper} (h : regionOk ops = true) {i : Nat} {o : Oper} (ho : ops[i]? = some o) : o.guard = none ∧ ∀ e ∈ o.after, Region.binds .any e = true → e.on < i := by
 have hi : i < ops.size := (Array.getElem?_eq_some_iff.1 ho).1
 have h1 := List.all_eq_true.1 h i (List.mem_range.2 hi)
 rw [ho] at h1
 simp only [Bool.and_eq_true, Option.isNone_iff_eq_none] at h1
 refine ⟨h1.1, fun e he hb => ?_⟩
 have := (Array.all_eq_true_iff_forall_mem.1 h1.2) e he
 simpa [hb] using this
def Done (listed : Array Bool) (j : Nat) : Prop := listed.getD j false = true
theorem done_set {listed : Array Bool} {i : Nat} (hi : i < listed.size) : Done (listed.setIfInBounds i true) = fun j => j = i ∨ Done listed j := by
 funext j
 apply propext
 unfold Done
 by_cases h : j = i
 ·subst h; simp [hi]
 ·have : i ≠ j := fun e => h e.symm
  simp [Array.getElem?_setIfInBounds, this, h]
theorem ready_mem {ops : Array Oper} {listed : Array Bool} {i : Nat} (h : i ∈ Region.ready .any ops listed) : ∃ o, ops[i]? = some o ∧ ¬ Done listed i ∧ listed.getD i true = false ∧ ∀ e ∈ o.after, Region.binds .any e = true → Done listed e.on := by
 unfold Region.ready at h
 rw [List.mem_filter] at h
 obtain ⟨h1, h2⟩ := h
 have hi : i < ops.size := List.mem_range.1 h1
 obtain ⟨o, ho⟩ : ∃ o, ops[i]? = some o := ⟨_, Array.getElem?_eq_getElem hi⟩
 rw [ho] at h2
 simp only [Bool.and_eq_true, Bool.not_eq_true', Option.map_some, Option.getD_some] at h2
 refine ⟨o, ho, ?_, h2.1, fun e he hb => ?_⟩
 ·unfold Done
  intro hd
  have h3 := h2.1
  by_cases hl : i < listed.size
  ·simp [hl] at h3 hd; rw [h3] at hd; cases hd
  ·simp [hl] at h3
 ·have := (Array.all_eq_true_iff_forall_mem.1 h2.2) e he
  simpa [hb, Done] using this
theorem ready_nil {ops : Array Oper} {listed : Array Bool} (hok : regionOk ops = true) (hs : listed.size = ops.size) (h : Region.ready .any ops listed = []) : ∀ i, i < ops.size → Done listed i := by
 intro i
 induction i using Nat.strongRecOn with
 | _ i ih =>
   intro hi
   obtain ⟨o, ho⟩ : ∃ o, ops[i]? = some o := ⟨_, Array.getElem?_eq_getElem hi⟩
   apply Classical.byContradiction
   intro hn
   have hmem : i ∈ Region.ready .any ops listed := by
    unfold Region.ready
    rw [List.mem_filter]
    refine ⟨List.mem_range.2 hi, ?_⟩
    rw [ho]
    simp only [Bool.and_eq_true, Bool.not_eq_true', Option.map_some, Option.getD_some]
    constructor
    ·unfold Done at hn
     have hl : i < listed.size := by omega
     simpa [hl] using hn
    ·refine Array.all_eq_true_iff_forall_mem.2 fun e he => ?_
     cases hb : Region.binds .any e with
     | false => simp
     | true =>
       have hlt := (regionOk_spec hok ho).2 e he hb
       have := ih e.on hlt (by omega)
       unfold Done at this
       rw [this]; simp
   rw [h] at hmem
   cases hmem
def left (listed : Array Bool) : Nat := (listed.toList.filter (· == false)).length
theorem left_set_aux : ∀ (l : List Bool) (i : Nat), l[i]? = some false → ((l.set i true).filter (· == false)).length + 1 = (l.filter (· == false)).length
 | [], i, h => by simp at h
 | b :: l, 0, h => by simp at h; subst h; simp
 | b :: l, i + 1, h => by
   have := left_set_aux l i (by simpa using h)
   cases b <;> simp at this ⊢ <;> omega
theorem left_set {listed : Array Bool} {i : Nat} (h : listed.getD i true = false) : left (listed.setIfInBounds i true) + 1 = left listed := by
 have hi : i < listed.size := by
  apply Classical.byContradiction
  intro hn
  simp [hn] at h
 unfold left
 rw [Array.toList_setIfInBounds]
 refine left_set_aux _ _ ?_
 simp [hi] at h
 simp [hi, h]
theorem wanted_of_none {o : Oper} (h : o.guard = none) (y : Nat → Option Bool) : Region.wanted o y = true := by simp [Region.wanted, h]
section
variable {P : Program} {ops : Array Oper} {Q : Exit → Act → World → Prop} (Inv : (Nat → Prop) → Act → World → Prop)
theorem wpAny_inv (hok : regionOk ops = true)
  (hstep : ∀ (i : Nat) (o : Oper) (D : Nat → Prop) (a : Act) (w : World), ops[i]? = some o → ¬ D i → (∀ e ∈ o.after, Region.binds .any e = true → D e.on) → Inv D a w → o.wp P a w (fun a' w' => Inv (fun j => j = i ∨ D j) a' w') Q)
  (hdone : ∀ (D : Nat → Prop) (a : Act) (w : World), (∀ i, i < ops.size → D i) → Inv D a w → Q .normal a w) :
  ∀ (fuel : Nat) (listed : Array Bool) (a : Act) (w : World), listed.size = ops.size → left listed ≤ fuel → Inv (Done listed) a w → wpAny P .any ops Q fuel listed a w
 | 0, listed, a, w, hs, hl, hi => by
   have hr : Region.ready .any ops listed = [] := by
    apply List.eq_nil_iff_forall_not_mem.2
    intro i hm
    obtain ⟨_, _, _, h3, _⟩ := ready_mem hm
    have := left_set h3
    omega
   exact ⟨hr, hdone _ a w (ready_nil hok hs hr) hi⟩
 | fuel + 1, listed, a, w, hs, hl, hi => by
   refine ⟨fun hr => hdone _ a w (ready_nil hok hs hr) hi, fun i hm => ?_⟩
   obtain ⟨o, ho, hn, h3, he⟩ := ready_mem hm
   have hil : i < listed.size := by rw [hs]; exact (Array.getElem?_eq_some_iff.1 ho).1
   unfold wpOp
   rw [ho]
   dsimp only
   rw [if_pos (wanted_of_none (regionOk_spec hok ho).1 _)]
   refine .inl (Oper.wp_mono (fun a' w' h => ?_) (hstep i o _ a w ho hn he hi))
   refine wpAny_inv hok hstep hdone fuel _ a' w' (by simpa using hs) (by have := left_set h3; omega) ?_
   rw [done_set hil]
   exact h
theorem wp_region_inv {id : Nat} {a : Act} {w : World} (hm : P.follows .mixedOrders = true) (hok : regionOk ops = true) (h0 : Inv (fun _ => False) a w.drew)
  (hstep : ∀ (i : Nat) (o : Oper) (D : Nat → Prop) (a : Act) (w : World), ops[i]? = some o → ¬ D i → (∀ e ∈ o.after, Region.binds .any e = true → D e.on) → Inv D a w → o.wp P a w (fun a' w' => Inv (fun j => j = i ∨ D j) a' w') Q)
  (hdone : ∀ (D : Nat → Prop) (a : Act) (w : World), (∀ i, i < ops.size → D i) → Inv D a w → Q .normal a w) : (Code.region id ops true).wp P Q a w := by
 refine wp_region_any hm (wpAny_inv Inv hok hstep hdone _ _ _ _ (by simp) ?_ ?_)
 ·exact Nat.le_trans (List.length_filter_le _ _) (by simp)
 ·have : Done (Array.replicate ops.size false) = fun _ => False := by
   funext j
   apply propext
   unfold Done
   by_cases h : j < ops.size <;> simp [h]
  rw [this]; exact h0
end
section
variable {F : Fence} {n : Nat} {P : Program} {ops : Array Oper} {Q : Exit → Act → World → Prop} (Inv : (Nat → Prop) → Act → World → Prop)
theorem wpAnyIn_inv (hok : regionOk ops = true)
  (hstep : ∀ (i : Nat) (o : Oper) (D : Nat → Prop) (a : Act) (w : World), ops[i]? = some o → ¬ D i → (∀ e ∈ o.after, Region.binds .any e = true → D e.on) → Inv D a w → o.wpIn F n P a w (fun a' w' => Inv (fun j => j = i ∨ D j) a' w') Q)
  (hdone : ∀ (D : Nat → Prop) (a : Act) (w : World), (∀ i, i < ops.size → D i) → Inv D a w → Q .normal a w) :
  ∀ (fuel : Nat) (listed : Array Bool) (a : Act) (w : World), listed.size = ops.size → left listed ≤ fuel → Inv (Done listed) a w → wpAnyIn F n P .any ops Q fuel listed a w
 | 0, listed, a, w, hs, hl, hi => by
   have hr : Region.ready .any ops listed = [] := by
    apply List.eq_nil_iff_forall_not_mem.2
    intro i hm
    obtain ⟨_, _, _, h3, _⟩ := ready_mem hm
    have := left_set h3
    omega
   exact ⟨hr, hdone _ a w (ready_nil hok hs hr) hi⟩
 | fuel + 1, listed, a, w, hs, hl, hi => by
   refine ⟨fun hr => hdone _ a w (ready_nil hok hs hr) hi, fun i hm => ?_⟩
   obtain ⟨o, ho, hn, h3, he⟩ := ready_mem hm
   have hil : i < listed.size := by rw [hs]; exact (Array.getElem?_eq_some_iff.1 ho).1
   unfold wpOpIn
   rw [ho]
   dsimp only
   rw [if_pos (wanted_of_none (regionOk_spec hok ho).1 _)]
   refine Oper.wpIn_mono (fun a' w' h => ?_) (hstep i o _ a w ho hn he hi)
   refine wpAnyIn_inv hok hstep hdone fuel _ a' w' (by simpa using hs) (by have := left_set h3; omega) ?_
   rw [done_set hil]
   exact h
theorem wpIn_region_inv {id : Nat} {a : Act} {w : World} (hm : P.follows .mixedOrders = true) (hok : regionOk ops = true) (h0 : Inv (fun _ => False) a w.drew)
  (hstep : ∀ (i : Nat) (o : Oper) (D : Nat → Prop) (a : Act) (w : World), ops[i]? = some o → ¬ D i → (∀ e ∈ o.after, Region.binds .any e = true → D e.on) → Inv D a w → o.wpIn F n P a w (fun a' w' => Inv (fun j => j = i ∨ D j) a' w') Q)
  (hdone : ∀ (D : Nat → Prop) (a : Act) (w : World), (∀ i, i < ops.size → D i) → Inv D a w → Q .normal a w) : (Code.region id ops true).wpIn F n P Q a w := by
 refine wpIn_region_any hm (wpAnyIn_inv Inv hok hstep hdone _ _ _ _ (by simp) ?_ ?_)
 ·exact Nat.le_trans (List.length_filter_le _ _) (by simp)
 ·have : Done (Array.replicate ops.size false) = fun _ => False := by
   funext j
   apply propext
   unfold Done
   by_cases h : j < ops.size <;> simp [h]
  rw [this]; exact h0
end
end Go.Proofs.YtgnogdncoljldaaGreat
namespace Go.Proofs.YtgnogdncoljldaaGreat
open Go Go.RowKit Go.Shelf
section
variable {o : Oper} {a : Act} {w : World} {K : Act → World → Prop} {Q : Exit → Act → World → Prop}
theorem wp_of_run {v : Value} {w' : World} (h : (execOp a.eval o).run Tryz.prog w = .ok (.value v) w') (hk : K (a.put o.dst v) w') : o.wp Tryz.prog a w K Q := by
 unfold Oper.wp; rw [h]; exact hk
theorem wp_of_skip {w' : World} (h : (execOp a.eval o).run Tryz.prog w = .ok .skip w') (hk : K (a.put o.dst undef) w') : o.wp Tryz.prog a w K Q := by
 unfold Oper.wp; rw [h]; exact hk
theorem wpr_of_run {l n : Nat} (hop : ∀ c, o.op ≠ .defer c) {v : Value} {w' : World} (h : (execOp a.eval o).run Tryz.prog w = .ok (.value v) w') (hk : K (a.put o.dst v) w') : o.wpIn (Fence.wide.inRound l) n Tryz.prog a w K Q := by
 refine ⟨fun _ _ => trivial, ?_⟩
 rw [show (Fence.wide.inRound l).round = some l from rfl, Oper.semAt_some l _ _ hop, h]; exact hk
theorem wpr_of_skip {l n : Nat} (hop : ∀ c, o.op ≠ .defer c) {w' : World} (h : (execOp a.eval o).run Tryz.prog w = .ok .skip w') (hk : K (a.put o.dst undef) w') : o.wpIn (Fence.wide.inRound l) n Tryz.prog a w K Q := by
 refine ⟨fun _ _ => trivial, ?_⟩
 rw [show (Fence.wide.inRound l).round = some l from rfl, Oper.semAt_some l _ _ hop, h]; exact hk
theorem wpr_of_call {l n : Nat} (hn : 1 ≤ n) (hop : ∀ c, o.op ≠ .defer c) {f : FuncId} {args : Array Value} (h : (execOp a.eval o).run Tryz.prog w = .ok (.enter f args) w) {v : Value} {R : World → Prop}
  (hc : Calls Tryz.prog f args w fun e w' => e = .returned v ∧ R w') (hk : ∀ w', R w' → K (a.put o.dst v) w') : o.wpIn (Fence.wide.inRound l) n Tryz.prog a w K Q := by
 refine ⟨fun _ _ => trivial, ?_⟩
 rw [show (Fence.wide.inRound l).round = some l from rfl, Oper.semAt_some l _ _ hop, h]
 refine ⟨fun _ => hn, (CallsIn.inRound l (callsIn_wide.2 hc)).mono ?_⟩
 rintro e w' ⟨rfl, hr⟩
 exact hk w' hr
theorem run_move (x : Operand) (ho : o.op = .move x) : (execOp a.eval o).run Tryz.prog w = .ok (.value (a.eval x)) w := by
 unfold execOp; rw [ho]; rfl
theorem run_load_slice (x : Operand) (ho : o.op = .load 34 x) (g : Nat) (hx : a.eval x = .pointer (some ⟨g, 0, none⟩)) (p : Option Addr) (n c : Nat) (hc : w.cell? ⟨g, 0, none⟩ = some (.slice p n c)) : (execOp a.eval o).run Tryz.prog w = .ok (.value (.slice p n c)) w := by
 unfold execOp
 simp only [ho, hx, Instr.loadAt, Instr.sureAddr, Sem.run_bind, Sem.run_pure, Result.andThen_ok]
 simp [hc, go_sem]
theorem run_len (x : Operand) (ts : Array TypeId) (ho : o.op = .call { callee := .builtin .len, args := #[x], argTypes := ts }) (hts : ts = #[34]) (p : Option Addr) (n c : Nat) (hx : a.eval x = .slice p n c) : (execOp a.eval o).run Tryz.prog w = .ok (.value (.int .i64 n)) w := by
 subst hts
 obtain ⟨dst, op, type, pos, after, guard⟩ := o
 obtain rfl : op = _ := ho
 have e : Array.map a.eval #[x] = #[.slice p n c] := by simp only [List.map_toArray, List.map_cons, List.map_nil, hx]
 rw [BigFrame.execOp_builtin, e]
 simp [go_sem]
theorem run_add (x y : Operand) (ho : o.op = .binOp .add 3 x y 3) (ht : o.type = 3) (u v : Int) (hx : a.eval x = .int .i64 u) (hy : a.eval y = .int .i64 v) (hr : IntKind.i64.wrap (u + v) = u + v) : (execOp a.eval o).run Tryz.prog w = .ok (.value (.int .i64 (u + v))) w := by
 unfold execOp
 simp only [ho, hx, hy, ht]
 simp [go_sem, hr]
theorem run_addN (x y : Operand) (ho : o.op = .binOp .add 3 x y 3) (ht : o.type = 3) (u v : Nat) (hx : a.eval x = .int .i64 u) (hy : a.eval y = .int .i64 v) (hr : u + v < 4611686018427387904) : (execOp a.eval o).run Tryz.prog w = .ok (.value (.int .i64 ((u + v : Nat) : Int))) w := by
 rw [run_add x y ho ht u v hx hy (by rw [IntKind.wrap_i64]; omega), Int.natCast_add]
theorem run_slice2 (x y z : Operand) (ho : o.op = .slice 155 x (some y) (some z) none) (g u v : Nat) (hx : a.eval x = .pointer (some ⟨g, 0, none⟩)) (hy : a.eval y = .int .i64 u) (hz : a.eval z = .int .i64 v) (huv : u ≤ v) (hv : v ≤ 65) (hu : u < 65) (d : Nat) (hd : v - u = d) : (execOp a.eval o).run Tryz.prog w = .ok (.value (.slice (some ⟨g, u, none⟩) d (65 - u))) w := by
 subst hd
 have h1 : (u : Int) ≤ (v : Int) := by omega
 have h2 : (v : Int) ≤ 65 := by omega
 have h3 : ¬ (65 = u) := by omega
 unfold execOp
 simp only [ho, hx, hy, hz, Option.map_some, Option.map_none]
 simp [go_sem, h1, h2, h3]
theorem run_slice1 (x z : Operand) (ho : o.op = .slice 155 x none (some z) none) (g v : Nat) (hx : a.eval x = .pointer (some ⟨g, 0, none⟩)) (hz : a.eval z = .int .i64 v) (hv : v ≤ 65) : (execOp a.eval o).run Tryz.prog w = .ok (.value (.slice (some ⟨g, 0, none⟩) v 65)) w := by
 have h2 : (v : Int) ≤ 65 := by omega
 unfold execOp
 simp only [ho, hx, hz, Option.map_some, Option.map_none]
 simp [go_sem, h2]
theorem run_index (x y : Operand) (ho : o.op = .indexAddr 155 x y) (g u : Nat) (hx : a.eval x = .pointer (some ⟨g, 0, none⟩)) (hy : a.eval y = .int .i64 u) (hu : u < 65) : (execOp a.eval o).run Tryz.prog w = .ok (.value (.pointer (some ⟨g, u, none⟩))) w := by
 have h2 : (u : Int) < 65 := by omega
 unfold execOp
 simp only [ho, hx, hy]
 simp [go_sem, h2]
theorem run_store_u32 (x y : Operand) (ho : o.op = .store 118 x y) (g u : Nat) (d old : Nat) (hx : a.eval x = .pointer (some ⟨g, u, none⟩)) (hy : a.eval y = .int .u32 d) (hc : w.cell? ⟨g, u, none⟩ = some (.int .u32 old)) (hf : w.frozen? ⟨g, u, none⟩ = false) :
  (execOp a.eval o).run Tryz.prog w = .ok .skip (w.setCell ⟨g, u, none⟩ (.int .u32 d)) := by
 unfold execOp
 simp only [ho, hx, hy]
 simp [go_sem, hc, hf]
theorem run_enter2 (f : FuncId) (x y : Operand) (ts : Array TypeId) (ho : o.op = .call { callee := .value (.func f), args := #[x, y], argTypes := ts }) (u1 u2 : Value) (h1 : a.eval x = u1) (h2 : a.eval y = u2) (hf : ∀ args w, (callFunc f args).run Tryz.prog w = .ok (.enter f args) w) :
  (execOp a.eval o).run Tryz.prog w = .ok (.enter f #[u1, u2]) w := by
 have ef : a.eval (.func f) = .func (.func f) #[] #[] := rfl
 have hm : Array.map a.eval #[x, y] = #[u1, u2] := by rw [← h1, ← h2]; simp
 unfold execOp
 simp only [ho, resolve, Deferred.ofValue, invoke, ef, hm]
 simp [hf]
theorem run_load_row (x : Operand) (ho : o.op = .load 155 x) (g : Nat) (hx : a.eval x = .pointer (some ⟨g, 0, none⟩)) (xs : List Nat) (hxs : xs.length = 65) (t : TypeId) (hg : RowAt w g t (arr xs)) : (execOp a.eval o).run Tryz.prog w = .ok (.value (.agg (arr xs))) w := by
 unfold execOp
 simp only [ho, hx, Instr.loadAt, Instr.sureAddr, Sem.run_bind, Sem.run_pure, Result.andThen_ok, run_loadVar_row w g t 155 (arr xs) (0, 0) _ hg Tryz.underlying155 rfl (by rw [row_info, arr_size, hxs])]
theorem ent_takeOut (args : Array Value) (w : World) : (callFunc 194 args).run Tryz.prog w = .ok (.enter 194 args) w := enters_of Tryz.func194 (by kernel_rfl) rfl args w
end
theorem results_two_rows {fn : Func} {p q : Tmp} (h : fn.results = #[.cell p 155, .cell q 155]) (tmps : Array Value) (w : World) (g k : Nat) (t s : TypeId) (xs ys : List Nat) (hx : xs.length = 65) (hy : ys.length = 65)
  (hp : tmps.getD p undef = .pointer (some ⟨g, 0, none⟩)) (hq : tmps.getD q undef = .pointer (some ⟨k, 0, none⟩)) (hg : RowAt w g t (arr xs)) (hk : RowAt w k s (arr ys)) :
  (results fn tmps).run Tryz.prog w = .ok (.tuple #[.agg (arr xs), .agg (arr ys)]) w := by
 have hp' : tmps[p]?.getD undef = .pointer (some ⟨g, 0, none⟩) := by simpa using hp
 have hq' : tmps[q]?.getD undef = .pointer (some ⟨k, 0, none⟩) := by simpa using hq
 have h1 := run_loadVar_row (P := Tryz.prog) w g t 155 (arr xs) (0, 0) _ hg Tryz.underlying155 rfl (by rw [row_info, arr_size, hx])
 have h2 := run_loadVar_row (P := Tryz.prog) w k s 155 (arr ys) (0, 0) _ hk Tryz.underlying155 rfl (by rw [row_info, arr_size, hy])
 simp [results, h, hp', hq', asAddr, h1, h2]
theorem endM2 {F : Fence} {n : Nat} {P : Program} {fn : Func} {R : Ending → World → Prop} {tmps : Array Value} {W : World} {D E : Nat} {v : Value}
  (hD : W.heap[D]? = some (.deferred (some []))) (hE : (W.putObj D (.deferred none)).heap[E]? = some (.deferred (some [])))
  (hr : (results fn tmps).run P ((W.putObj D (.deferred none)).putObj E (.deferred none)) = .ok v ((W.putObj D (.deferred none)).putObj E (.deferred none)))
  (hR : R (.returned v) ((W.putObj D (.deferred none)).putObj E (.deferred none))) :
  bodyPostM F n P fn R .ret { tmps, defers := [{ target := .collected D, args := #[] }, { target := .collected E, args := #[] }] } W :=
 ⟨by simp, .inl ⟨_, _, rfl, run_takeDeferred hD, ⟨by simp, .inl ⟨_, _, rfl, run_takeDeferred hE, ⟨v, hr, hR⟩⟩⟩⟩⟩
end Go.Proofs.YtgnogdncoljldaaGreat
namespace Go.Proofs.YtgnogdncoljldaaGreat
open Go Go.RowKit Go.Shelf
attribute [local go_sem] Oper.semAt_some
section
variable {o : Oper} {a : Act} {w : World} {K : Act → World → Prop} {Q : Exit → Act → World → Prop}
theorem wp_load_int (x : Operand) (ho : o.op = .load 3 x) (g : Nat) (hx : a.eval x = .pointer (some ⟨g, 0, none⟩)) (v : Int) (hc : w.cell? ⟨g, 0, none⟩ = some (.int .i64 v)) (hk : K (a.put o.dst (.int .i64 v)) w) : o.wp Tryz.prog a w K Q := by
 unfold Oper.wp execOp
 simp only [ho, hx, Instr.loadAt, Instr.sureAddr, Sem.run_bind, Sem.run_pure, Result.andThen_ok]
 simp [hc, go_sem]
 exact hk
theorem wp_load_slice (x : Operand) (ho : o.op = .load 34 x) (g : Nat) (hx : a.eval x = .pointer (some ⟨g, 0, none⟩)) (p : Option Addr) (n c : Nat) (hc : w.cell? ⟨g, 0, none⟩ = some (.slice p n c)) (hk : K (a.put o.dst (.slice p n c)) w) : o.wp Tryz.prog a w K Q := by
 unfold Oper.wp execOp
 simp only [ho, hx, Instr.loadAt, Instr.sureAddr, Sem.run_bind, Sem.run_pure, Result.andThen_ok]
 simp [hc, go_sem]
 exact hk
theorem wp_alloc_row (ho : o.op = .alloc 155) (hk : K (a.put o.dst (.pointer (some ⟨w.heap.size, 0, none⟩))) (w.alloc (.cells Tryz.zeroCells155 155))) : o.wp Tryz.prog a w K Q := by
 unfold Oper.wp execOp
 simp [ho, go_sem]
 exact hk
theorem wp_call_shifted (x y : Operand) (ts : Array TypeId) (ho : o.op = .call { callee := .value (.func 193), args := #[x, y], argTypes := ts }) (u1 u2 : Value) (h1 : a.eval x = u1) (h2 : a.eval y = u2) (v : Value) {R : World → Prop}
  (h : Calls Tryz.prog 193 #[u1, u2] w fun e w' => e = .returned v ∧ R w') (hk : ∀ w', R w' → K (a.put o.dst v) w') : o.wp Tryz.prog a w K Q := by
 have ef : a.eval (.func 193) = .func (.func 193) #[] #[] := rfl
 have hm : Array.map a.eval #[x, y] = #[u1, u2] := by rw [← h1, ← h2]; simp
 unfold Oper.wp execOp
 simp only [ho, resolve, Deferred.ofValue, invoke, ef, hm]
 simp [callFunc, Tryz.func193, go_sem]
 refine h.mono ?_
 rintro e w' ⟨rfl, hr⟩
 exact hk w' hr
end
def Slot (D6 D8 : Prop) (lo : Nat) (v : Value) (row : Array Value) (w : World) : Prop := D6 → ∃ g cs, v = .pointer (some ⟨g, 0, none⟩) ∧ lo ≤ g ∧ cs.size = 65 ∧ RowAt w g 155 cs ∧ (D8 → cs = row)
theorem Slot.move {D6 D8 D6' D8' : Prop} {lo : Nat} {v : Value} {row : Array Value} {w w' : World} (h : Slot D6 D8 lo v row w) (h6 : D6' → D6) (h8 : D8' → D8) (hw : ∀ g cs, v = .pointer (some ⟨g, 0, none⟩) → RowAt w g 155 cs → RowAt w' g 155 cs) : Slot D6' D8' lo v row w' := fun h6' => by
 obtain ⟨g, cs, h1, h2, h3, h4, h5⟩ := h (h6 h6')
 exact ⟨g, cs, h1, h2, h3, hw g cs h1 h4, fun h => h5 (h8 h)⟩
def Pick (D : Nat → Prop) (W4 : World) (X Y bv : Value) (sx sy : Array Value) (v22 v23 v24 v25 v26 v27 v7 v8 : Value) (w : World) : Prop :=
 Below W4.heap.size W4 w ∧ (D 0 → v22 = X) ∧ (D 1 → v23 = bv) ∧ (D 2 → v24 = .agg sx) ∧ (D 3 → v25 = Y) ∧ (D 4 → v26 = bv) ∧ (D 5 → v27 = .agg sy) ∧
  Slot (D 6) (D 8) W4.heap.size v7 sx w ∧ Slot (D 7) (D 9) W4.heap.size v8 sy w ∧ (D 6 → D 7 → v7 ≠ v8) ∧ (D 8 → D 6) ∧ (D 9 → D 7)
abbrev And' (i : Nat) (D : Nat → Prop) : Nat → Prop := fun j => j = i ∨ D j
section
variable {D : Nat → Prop} {W4 : World} {X Y bv : Value} {sx sy : Array Value} {v22 v23 v24 v25 v26 v27 v7 v8 : Value} {w w' : World}
theorem Pick.s0 (h : Pick D W4 X Y bv sx sy v22 v23 v24 v25 v26 v27 v7 v8 w) : Pick (And' 0 D) W4 X Y bv sx sy X v23 v24 v25 v26 v27 v7 v8 w := by
 simpa [Pick, And'] using ⟨h.1, h.2.2⟩
theorem Pick.s1 (h : Pick D W4 X Y bv sx sy v22 v23 v24 v25 v26 v27 v7 v8 w) : Pick (And' 1 D) W4 X Y bv sx sy v22 bv v24 v25 v26 v27 v7 v8 w := by
 simpa [Pick, And'] using ⟨h.1, h.2.1, h.2.2.2⟩
theorem Pick.s3 (h : Pick D W4 X Y bv sx sy v22 v23 v24 v25 v26 v27 v7 v8 w) : Pick (And' 3 D) W4 X Y bv sx sy v22 v23 v24 Y v26 v27 v7 v8 w := by
 simpa [Pick, And'] using ⟨h.1, h.2.1, h.2.2.1, h.2.2.2.1, h.2.2.2.2.2⟩
theorem Pick.s4 (h : Pick D W4 X Y bv sx sy v22 v23 v24 v25 v26 v27 v7 v8 w) : Pick (And' 4 D) W4 X Y bv sx sy v22 v23 v24 v25 bv v27 v7 v8 w := by
 simpa [Pick, And'] using ⟨h.1, h.2.1, h.2.2.1, h.2.2.2.1, h.2.2.2.2.1, h.2.2.2.2.2.2⟩
theorem Pick.world (h : Pick D W4 X Y bv sx sy v22 v23 v24 v25 v26 v27 v7 v8 w) (hb : Below w.heap.size w w') : Pick D W4 X Y bv sx sy v22 v23 v24 v25 v26 v27 v7 v8 w' := by
 obtain ⟨h1, h2, h3, h4, h5, h6, h7, h8, h9, h10⟩ := h
 exact ⟨h1.trans (hb.mono h1.size), h2, h3, h4, h5, h6, h7, h8.move id id (fun g cs _ h => h.below hb h.lt), h9.move id id (fun g cs _ h => h.below hb h.lt), h10⟩
theorem Pick.s2 (h : Pick D W4 X Y bv sx sy v22 v23 v24 v25 v26 v27 v7 v8 w) (hb : Below w.heap.size w w') : Pick (And' 2 D) W4 X Y bv sx sy v22 v23 (.agg sx) v25 v26 v27 v7 v8 w' := by
 have h := h.world hb
 simpa [Pick, And'] using ⟨h.1, h.2.1, h.2.2.1, h.2.2.2.2⟩
theorem Pick.s5 (h : Pick D W4 X Y bv sx sy v22 v23 v24 v25 v26 v27 v7 v8 w) (hb : Below w.heap.size w w') : Pick (And' 5 D) W4 X Y bv sx sy v22 v23 v24 v25 v26 (.agg sy) v7 v8 w' := by
 have h := h.world hb
 simpa [Pick, And'] using ⟨h.1, h.2.1, h.2.2.1, h.2.2.2.1, h.2.2.2.2.1, h.2.2.2.2.2.1, h.2.2.2.2.2.2.2⟩
theorem Pick.s6 (h : Pick D W4 X Y bv sx sy v22 v23 v24 v25 v26 v27 v7 v8 w) (hn : ¬ D 6) : Pick (And' 6 D) W4 X Y bv sx sy v22 v23 v24 v25 v26 v27 (.pointer (some ⟨w.heap.size, 0, none⟩)) v8 (w.alloc (.cells Tryz.zeroCells155 155)) := by
 obtain ⟨h1, h2, h3, h4, h5, h6, h7, h8, h9, h10, h11, h12⟩ := h
 refine ⟨h1.alloc h1.size _, by simpa [And'] using h2, by simpa [And'] using h3, by simpa [And'] using h4, by simpa [And'] using h5, by simpa [And'] using h6, by simpa [And'] using h7,
  fun _ => ⟨_, _, rfl, h1.size, by kernel_rfl, RowAt.new _ _ _, fun h => ?_⟩, h9.move (by simp [And']) (by simp [And']) (fun g cs _ h => h.alloc _), fun _ hd he => ?_, fun _ => .inl rfl, by simpa [And'] using h12⟩
 ·exact absurd (h11 (by simpa [And'] using h)) hn
 ·obtain ⟨g, cs, e, _, _, hr, _⟩ := h9 (by simpa [And'] using hd)
  have := hr.lt
  rw [e] at he
  cases he
  omega
theorem Pick.s7 (h : Pick D W4 X Y bv sx sy v22 v23 v24 v25 v26 v27 v7 v8 w) (hn : ¬ D 7) : Pick (And' 7 D) W4 X Y bv sx sy v22 v23 v24 v25 v26 v27 v7 (.pointer (some ⟨w.heap.size, 0, none⟩)) (w.alloc (.cells Tryz.zeroCells155 155)) := by
 obtain ⟨h1, h2, h3, h4, h5, h6, h7, h8, h9, h10, h11, h12⟩ := h
 refine ⟨h1.alloc h1.size _, by simpa [And'] using h2, by simpa [And'] using h3, by simpa [And'] using h4, by simpa [And'] using h5, by simpa [And'] using h6, by simpa [And'] using h7,
  h8.move (by simp [And']) (by simp [And']) (fun g cs _ h => h.alloc _), fun _ => ⟨_, _, rfl, h1.size, by kernel_rfl, RowAt.new _ _ _, fun h => ?_⟩, fun hd _ he => ?_, by simpa [And'] using h11, fun _ => .inl rfl⟩
 ·exact absurd (h12 (by simpa [And'] using h)) hn
 ·obtain ⟨g, cs, e, _, _, hr, _⟩ := h8 (by simpa [And'] using hd)
  have := hr.lt
  rw [e] at he
  cases he
  omega
theorem Pick.s8 (h : Pick D W4 X Y bv sx sy v22 v23 v24 v25 v26 v27 v7 v8 w) (hd : D 6) (hsx : sx.size = 65) : ∃ g cs, v7 = .pointer (some ⟨g, 0, none⟩) ∧ RowAt w g 155 cs ∧ cs.size = 65 ∧ Pick (And' 8 D) W4 X Y bv sx sy v22 v23 v24 v25 v26 v27 v7 v8 (w.setRow g sx) := by
 obtain ⟨h1, h2, h3, h4, h5, h6, h7, h8, h9, h10, h11, h12⟩ := h
 obtain ⟨g, cs, e, hg, hs, hr, _⟩ := h8 hd
 refine ⟨g, cs, e, hr, hs, below_setRow2 h1 hg _, by simpa [And'] using h2, by simpa [And'] using h3, by simpa [And'] using h4, by simpa [And'] using h5, by simpa [And'] using h6, by simpa [And'] using h7,
  fun _ => ⟨g, sx, e, hg, hsx, hr.setRow _, fun _ => rfl⟩, fun h7' => ?_, by simpa [And'] using h10, fun _ => .inr hd, by simpa [And'] using h12⟩
 have hd7 : D 7 := by simpa [And'] using h7'
 have hne := h10 hd hd7
 refine h9.move (D6' := True) (D8' := And' 8 D 9) (fun _ => hd7) (by simp [And']) (fun g' cs' e' h => h.setRowOther _ fun he => hne ?_) trivial
 rw [e, e', he]
theorem Pick.s9 (h : Pick D W4 X Y bv sx sy v22 v23 v24 v25 v26 v27 v7 v8 w) (hd : D 7) (hsy : sy.size = 65) : ∃ g cs, v8 = .pointer (some ⟨g, 0, none⟩) ∧ RowAt w g 155 cs ∧ cs.size = 65 ∧ Pick (And' 9 D) W4 X Y bv sx sy v22 v23 v24 v25 v26 v27 v7 v8 (w.setRow g sy) := by
 obtain ⟨h1, h2, h3, h4, h5, h6, h7, h8, h9, h10, h11, h12⟩ := h
 obtain ⟨g, cs, e, hg, hs, hr, _⟩ := h9 hd
 refine ⟨g, cs, e, hr, hs, below_setRow2 h1 hg _, by simpa [And'] using h2, by simpa [And'] using h3, by simpa [And'] using h4, by simpa [And'] using h5, by simpa [And'] using h6, by simpa [And'] using h7,
  fun h6' => ?_, fun _ => ⟨g, sy, e, hg, hsy, hr.setRow _, fun _ => rfl⟩, by simpa [And'] using h10, by simpa [And'] using h11, fun _ => .inr hd⟩
 have hd6 : D 6 := by simpa [And'] using h6'
 have hne := h10 hd6 hd
 refine h8.move (D6' := True) (D8' := And' 9 D 8) (fun _ => hd6) (by simp [And']) (fun g' cs' e' h => h.setRowOther _ fun he => hne ?_) trivial
 rw [e, e', he]
end
structure BackFix (h0 h3 gq gc g7 D b n : Nat) (Qt : List Nat) (W : World) : Prop where
 q1 : RowAt W (h0 + 1) 155 Tryz.zeroCells155
 q2 : RowAt W (h0 + 1 + 1) 155 Tryz.zeroCells155
 by_ : Boxed W h3 3 (.int .i64 b)
 q : RowAt W gq 155 (arr Qt)
 it : Boxed W (gc + 1) 34 (.slice (some ⟨g7, 0, none⟩) (n + 1) 65)
 d : W.heap[D]? = some (.deferred (some []))
theorem BackFix.move {h0 h3 gq gc g7 D b n : Nat} {Qt : List Nat} {W W' : World} (h : BackFix h0 h3 gq gc g7 D b n Qt W) (hne : ∀ k, k = h0 + 1 ∨ k = h0 + 1 + 1 ∨ k = h3 ∨ k = gq ∨ k = gc + 1 ∨ k = D → k ≠ g7 ∧ k ≠ gc)
  (hk : ∀ k, k < W.heap.size → k ≠ g7 → k ≠ gc → W'.heap[k]? = W.heap[k]?) : BackFix h0 h3 gq gc g7 D b n Qt W' := by
 have go : ∀ k, k = h0 + 1 ∨ k = h0 + 1 + 1 ∨ k = h3 ∨ k = gq ∨ k = gc + 1 ∨ k = D → k < W.heap.size → W'.heap[k]? = W.heap[k]? := fun k hk' hl => hk k hl (hne k hk').1 (hne k hk').2
 exact ⟨(go _ (by simp) h.q1.lt).trans h.q1, (go _ (by simp) h.q2.lt).trans h.q2, (go _ (by simp) h.by_.lt).trans h.by_, (go _ (by simp) h.q.lt).trans h.q, (go _ (by simp) h.it.lt).trans h.it, (go _ (by simp) (Array.getElem?_eq_some_iff.1 h.d).1).trans h.d⟩
theorem BackFix.own (h0 h3 gq gc g7 D b n : Nat) (Qt : List Nat) (B : Nat) (hD : D < B) : OwnFrom B (fun (_ : Nat) W => BackFix h0 h3 gq gc g7 D b n Qt W) := fun s W W' row h hg hr' => by
 have hr : ∀ r, row = some r → ∃ o : Obj, W.heap[r]? = some o ∧ o.isCells = false := fun r e => (hr' r e).2
 exact ⟨RowAt.own (h0 + 1) _ (fun (_ : Unit) => _) () _ _ _ h.q1 hg hr, RowAt.own (h0 + 1 + 1) _ (fun (_ : Unit) => _) () _ _ _ h.q2 hg hr,
  boxed_own h3 _ (fun (_ : Unit) => _) () _ _ _ h.by_ hg hr, RowAt.own gq _ (fun (_ : Unit) => arr Qt) () _ _ _ h.q hg hr, boxed_own (gc + 1) _ (fun (_ : Unit) => _) () _ _ _ h.it hg hr,
  (hg.block D (Array.getElem?_eq_some_iff.1 h.d).1 (fun e => by have := (hr' D e.symm).1; omega)).trans h.d⟩
def BackSt (g7 gc n b : Nat) (R : List Nat) (s : Nat) (W : World) : Prop := ∃ (V : List Nat) (t : Nat), s ≤ n + 1 ∧ RowAt W g7 155 (arr V) ∧ Digits V ∧ V.length = 65 ∧ t < 2 ^ b ∧ Boxed W gc 118 (.int .u32 ((t * 2 ^ (32 - b) : Nat) : Int)) ∧ (∀ j, j < s → V[j]? = R[j]?) ∧ val (R.drop s) = 2 ^ b * val (V.drop s) + t
theorem BackSt.own (g7 gc n b : Nat) (R : List Nat) : Own (BackSt g7 gc n b R) := fun s A B row h hg hr => by
 obtain ⟨V, t, h1, h2, h3, h4, h5, h6, h7⟩ := h
 exact ⟨V, t, h1, RowAt.own g7 _ (fun (_ : Unit) => arr V) () _ _ _ h2 hg hr, h3, h4, h5, boxed_own gc _ (fun (_ : Unit) => _) () _ _ _ h6 hg hr, h7⟩
def Tk (D : Nat → Prop) (kv ysl mv k1 k2 s47 s50 qv ptr : Value) (W0 : World) (P1 P2 : World → Prop) (v40 v41 v42 v43 v44 v45 v46 v47 v48 v49 v50 v51 v52 : Value) (w : World) : Prop :=
 (D 0 → v40 = kv) ∧ (D 1 → v41 = kv) ∧ (D 2 → v42 = kv) ∧ (D 3 → v43 = ysl) ∧ (D 4 → v44 = mv) ∧ (D 5 → v45 = k1) ∧ (D 6 → v46 = k2) ∧ (D 7 → v47 = s47) ∧ (D 8 → v48 = ysl) ∧ (D 9 → v49 = mv) ∧ (D 10 → v50 = s50) ∧ (D 11 → v51 = qv) ∧ (D 12 → v52 = ptr) ∧ (¬ D 11 → w = W0) ∧ (D 11 → ¬ D 13 → P1 w) ∧ (D 13 → P2 w) ∧ (D 13 → D 11)
section
variable {D : Nat → Prop} {kv ysl mv k1 k2 s47 s50 qv ptr : Value} {W0 : World} {P1 P2 : World → Prop} {v40 v41 v42 v43 v44 v45 v46 v47 v48 v49 v50 v51 v52 : Value} {w : World}
theorem Tk.s0 (h : Tk D kv ysl mv k1 k2 s47 s50 qv ptr W0 P1 P2 v40 v41 v42 v43 v44 v45 v46 v47 v48 v49 v50 v51 v52 w) : Tk (And' 0 D) kv ysl mv k1 k2 s47 s50 qv ptr W0 P1 P2 kv v41 v42 v43 v44 v45 v46 v47 v48 v49 v50 v51 v52 w := by
 obtain ⟨c0, c1, c2, c3, c4, c5, c6, c7, c8, c9, c10, c11, c12, hw, hp, hq, hd⟩ := h
 refine ⟨?_, ?_, ?_, ?_, ?_, ?_, ?_, ?_, ?_, ?_, ?_, ?_, ?_, ?_, ?_, ?_, ?_⟩ <;> simp only [And'] <;> first | exact fun _ => rfl | (simp; assumption) | (simp; done)
theorem Tk.s1 (h : Tk D kv ysl mv k1 k2 s47 s50 qv ptr W0 P1 P2 v40 v41 v42 v43 v44 v45 v46 v47 v48 v49 v50 v51 v52 w) : Tk (And' 1 D) kv ysl mv k1 k2 s47 s50 qv ptr W0 P1 P2 v40 kv v42 v43 v44 v45 v46 v47 v48 v49 v50 v51 v52 w := by
 obtain ⟨c0, c1, c2, c3, c4, c5, c6, c7, c8, c9, c10, c11, c12, hw, hp, hq, hd⟩ := h
 refine ⟨?_, ?_, ?_, ?_, ?_, ?_, ?_, ?_, ?_, ?_, ?_, ?_, ?_, ?_, ?_, ?_, ?_⟩ <;> simp only [And'] <;> first | exact fun _ => rfl | (simp; assumption) | (simp; done)
theorem Tk.s2 (h : Tk D kv ysl mv k1 k2 s47 s50 qv ptr W0 P1 P2 v40 v41 v42 v43 v44 v45 v46 v47 v48 v49 v50 v51 v52 w) : Tk (And' 2 D) kv ysl mv k1 k2 s47 s50 qv ptr W0 P1 P2 v40 v41 kv v43 v44 v45 v46 v47 v48 v49 v50 v51 v52 w := by
 obtain ⟨c0, c1, c2, c3, c4, c5, c6, c7, c8, c9, c10, c11, c12, hw, hp, hq, hd⟩ := h
 refine ⟨?_, ?_, ?_, ?_, ?_, ?_, ?_, ?_, ?_, ?_, ?_, ?_, ?_, ?_, ?_, ?_, ?_⟩ <;> simp only [And'] <;> first | exact fun _ => rfl | (simp; assumption) | (simp; done)
theorem Tk.s3 (h : Tk D kv ysl mv k1 k2 s47 s50 qv ptr W0 P1 P2 v40 v41 v42 v43 v44 v45 v46 v47 v48 v49 v50 v51 v52 w) : Tk (And' 3 D) kv ysl mv k1 k2 s47 s50 qv ptr W0 P1 P2 v40 v41 v42 ysl v44 v45 v46 v47 v48 v49 v50 v51 v52 w := by
 obtain ⟨c0, c1, c2, c3, c4, c5, c6, c7, c8, c9, c10, c11, c12, hw, hp, hq, hd⟩ := h
 refine ⟨?_, ?_, ?_, ?_, ?_, ?_, ?_, ?_, ?_, ?_, ?_, ?_, ?_, ?_, ?_, ?_, ?_⟩ <;> simp only [And'] <;> first | exact fun _ => rfl | (simp; assumption) | (simp; done)
theorem Tk.s4 (h : Tk D kv ysl mv k1 k2 s47 s50 qv ptr W0 P1 P2 v40 v41 v42 v43 v44 v45 v46 v47 v48 v49 v50 v51 v52 w) : Tk (And' 4 D) kv ysl mv k1 k2 s47 s50 qv ptr W0 P1 P2 v40 v41 v42 v43 mv v45 v46 v47 v48 v49 v50 v51 v52 w := by
 obtain ⟨c0, c1, c2, c3, c4, c5, c6, c7, c8, c9, c10, c11, c12, hw, hp, hq, hd⟩ := h
 refine ⟨?_, ?_, ?_, ?_, ?_, ?_, ?_, ?_, ?_, ?_, ?_, ?_, ?_, ?_, ?_, ?_, ?_⟩ <;> simp only [And'] <;> first | exact fun _ => rfl | (simp; assumption) | (simp; done)
theorem Tk.s5 (h : Tk D kv ysl mv k1 k2 s47 s50 qv ptr W0 P1 P2 v40 v41 v42 v43 v44 v45 v46 v47 v48 v49 v50 v51 v52 w) : Tk (And' 5 D) kv ysl mv k1 k2 s47 s50 qv ptr W0 P1 P2 v40 v41 v42 v43 v44 k1 v46 v47 v48 v49 v50 v51 v52 w := by
 obtain ⟨c0, c1, c2, c3, c4, c5, c6, c7, c8, c9, c10, c11, c12, hw, hp, hq, hd⟩ := h
 refine ⟨?_, ?_, ?_, ?_, ?_, ?_, ?_, ?_, ?_, ?_, ?_, ?_, ?_, ?_, ?_, ?_, ?_⟩ <;> simp only [And'] <;> first | exact fun _ => rfl | (simp; assumption) | (simp; done)
theorem Tk.s6 (h : Tk D kv ysl mv k1 k2 s47 s50 qv ptr W0 P1 P2 v40 v41 v42 v43 v44 v45 v46 v47 v48 v49 v50 v51 v52 w) : Tk (And' 6 D) kv ysl mv k1 k2 s47 s50 qv ptr W0 P1 P2 v40 v41 v42 v43 v44 v45 k2 v47 v48 v49 v50 v51 v52 w := by
 obtain ⟨c0, c1, c2, c3, c4, c5, c6, c7, c8, c9, c10, c11, c12, hw, hp, hq, hd⟩ := h
 refine ⟨?_, ?_, ?_, ?_, ?_, ?_, ?_, ?_, ?_, ?_, ?_, ?_, ?_, ?_, ?_, ?_, ?_⟩ <;> simp only [And'] <;> first | exact fun _ => rfl | (simp; assumption) | (simp; done)
theorem Tk.s7 (h : Tk D kv ysl mv k1 k2 s47 s50 qv ptr W0 P1 P2 v40 v41 v42 v43 v44 v45 v46 v47 v48 v49 v50 v51 v52 w) : Tk (And' 7 D) kv ysl mv k1 k2 s47 s50 qv ptr W0 P1 P2 v40 v41 v42 v43 v44 v45 v46 s47 v48 v49 v50 v51 v52 w := by
 obtain ⟨c0, c1, c2, c3, c4, c5, c6, c7, c8, c9, c10, c11, c12, hw, hp, hq, hd⟩ := h
 refine ⟨?_, ?_, ?_, ?_, ?_, ?_, ?_, ?_, ?_, ?_, ?_, ?_, ?_, ?_, ?_, ?_, ?_⟩ <;> simp only [And'] <;> first | exact fun _ => rfl | (simp; assumption) | (simp; done)
theorem Tk.s8 (h : Tk D kv ysl mv k1 k2 s47 s50 qv ptr W0 P1 P2 v40 v41 v42 v43 v44 v45 v46 v47 v48 v49 v50 v51 v52 w) : Tk (And' 8 D) kv ysl mv k1 k2 s47 s50 qv ptr W0 P1 P2 v40 v41 v42 v43 v44 v45 v46 v47 ysl v49 v50 v51 v52 w := by
 obtain ⟨c0, c1, c2, c3, c4, c5, c6, c7, c8, c9, c10, c11, c12, hw, hp, hq, hd⟩ := h
 refine ⟨?_, ?_, ?_, ?_, ?_, ?_, ?_, ?_, ?_, ?_, ?_, ?_, ?_, ?_, ?_, ?_, ?_⟩ <;> simp only [And'] <;> first | exact fun _ => rfl | (simp; assumption) | (simp; done)
theorem Tk.s9 (h : Tk D kv ysl mv k1 k2 s47 s50 qv ptr W0 P1 P2 v40 v41 v42 v43 v44 v45 v46 v47 v48 v49 v50 v51 v52 w) : Tk (And' 9 D) kv ysl mv k1 k2 s47 s50 qv ptr W0 P1 P2 v40 v41 v42 v43 v44 v45 v46 v47 v48 mv v50 v51 v52 w := by
 obtain ⟨c0, c1, c2, c3, c4, c5, c6, c7, c8, c9, c10, c11, c12, hw, hp, hq, hd⟩ := h
 refine ⟨?_, ?_, ?_, ?_, ?_, ?_, ?_, ?_, ?_, ?_, ?_, ?_, ?_, ?_, ?_, ?_, ?_⟩ <;> simp only [And'] <;> first | exact fun _ => rfl | (simp; assumption) | (simp; done)
theorem Tk.s10 (h : Tk D kv ysl mv k1 k2 s47 s50 qv ptr W0 P1 P2 v40 v41 v42 v43 v44 v45 v46 v47 v48 v49 v50 v51 v52 w) : Tk (And' 10 D) kv ysl mv k1 k2 s47 s50 qv ptr W0 P1 P2 v40 v41 v42 v43 v44 v45 v46 v47 v48 v49 s50 v51 v52 w := by
 obtain ⟨c0, c1, c2, c3, c4, c5, c6, c7, c8, c9, c10, c11, c12, hw, hp, hq, hd⟩ := h
 refine ⟨?_, ?_, ?_, ?_, ?_, ?_, ?_, ?_, ?_, ?_, ?_, ?_, ?_, ?_, ?_, ?_, ?_⟩ <;> simp only [And'] <;> first | exact fun _ => rfl | (simp; assumption) | (simp; done)
theorem Tk.s12 (h : Tk D kv ysl mv k1 k2 s47 s50 qv ptr W0 P1 P2 v40 v41 v42 v43 v44 v45 v46 v47 v48 v49 v50 v51 v52 w) : Tk (And' 12 D) kv ysl mv k1 k2 s47 s50 qv ptr W0 P1 P2 v40 v41 v42 v43 v44 v45 v46 v47 v48 v49 v50 v51 ptr w := by
 obtain ⟨c0, c1, c2, c3, c4, c5, c6, c7, c8, c9, c10, c11, c12, hw, hp, hq, hd⟩ := h
 refine ⟨?_, ?_, ?_, ?_, ?_, ?_, ?_, ?_, ?_, ?_, ?_, ?_, ?_, ?_, ?_, ?_, ?_⟩ <;> simp only [And'] <;> first | exact fun _ => rfl | (simp; assumption) | (simp; done)
theorem Tk.s11 (h : Tk D kv ysl mv k1 k2 s47 s50 qv ptr W0 P1 P2 v40 v41 v42 v43 v44 v45 v46 v47 v48 v49 v50 v51 v52 w) (hn : ¬ D 11) {w' : World} (hp' : P1 w') : Tk (And' 11 D) kv ysl mv k1 k2 s47 s50 qv ptr W0 P1 P2 v40 v41 v42 v43 v44 v45 v46 v47 v48 v49 v50 qv v52 w' := by
 obtain ⟨c0, c1, c2, c3, c4, c5, c6, c7, c8, c9, c10, c11, c12, hw, hp, hq, hd⟩ := h
 have hn13 : ¬ D 13 := fun e => hn (hd e)
 refine ⟨?_, ?_, ?_, ?_, ?_, ?_, ?_, ?_, ?_, ?_, ?_, ?_, ?_, ?_, ?_, ?_, ?_⟩ <;> simp only [And'] <;> first | exact fun _ => rfl | (simp; assumption) | (simp; done) | exact fun _ _ => hp' | exact fun h => absurd (by simpa using h) hn13
theorem Tk.s13 (h : Tk D kv ysl mv k1 k2 s47 s50 qv ptr W0 P1 P2 v40 v41 v42 v43 v44 v45 v46 v47 v48 v49 v50 v51 v52 w) (h11 : D 11) {w' : World} (hp' : P2 w') : Tk (And' 13 D) kv ysl mv k1 k2 s47 s50 qv ptr W0 P1 P2 v40 v41 v42 v43 v44 v45 v46 v47 v48 v49 v50 v51 v52 w' := by
 obtain ⟨c0, c1, c2, c3, c4, c5, c6, c7, c8, c9, c10, c11, c12, hw, hp, hq, hd⟩ := h
 refine ⟨?_, ?_, ?_, ?_, ?_, ?_, ?_, ?_, ?_, ?_, ?_, ?_, ?_, ?_, ?_, ?_, ?_⟩ <;> simp only [And'] <;> first | exact fun _ => rfl | (simp; assumption) | exact fun _ => hp' | (simp [h11]; done) | (simp; done)
end
structure DivFix (h0 h3 gq g8 pl b : Nat) (ysl : Value) (Y : List Nat) (W : World) : Prop where
 y : Boxed W h0 34 ysl
 q1 : RowAt W (h0 + 1) 155 Tryz.zeroCells155
 q2 : RowAt W (h0 + 1 + 1) 155 Tryz.zeroCells155
 by_ : Boxed W h3 3 (.int .i64 b)
 r8 : RowAt W g8 155 (arr Y)
 it : Boxed W (gq + 1) 34 (.slice (some ⟨gq, 0, none⟩) pl 65)
theorem DivFix.move {h0 h3 gq g8 pl b : Nat} {ysl : Value} {Y : List Nat} {W W' : World} (h : DivFix h0 h3 gq g8 pl b ysl Y W) (g7 : Nat) (hne : ∀ k, k = h0 ∨ k = h0 + 1 ∨ k = h0 + 1 + 1 ∨ k = h3 ∨ k = g8 ∨ k = gq + 1 → k ≠ g7 ∧ k ≠ gq)
  (hk : ∀ k, k < W.heap.size → k ≠ g7 → k ≠ gq → W'.heap[k]? = W.heap[k]?) : DivFix h0 h3 gq g8 pl b ysl Y W' := by
 have go : ∀ k, k = h0 ∨ k = h0 + 1 ∨ k = h0 + 1 + 1 ∨ k = h3 ∨ k = g8 ∨ k = gq + 1 → k < W.heap.size → W'.heap[k]? = W.heap[k]? := fun k hk' hl => hk k hl (hne k hk').1 (hne k hk').2
 exact ⟨(go _ (by simp) h.y.lt).trans h.y, (go _ (by simp) h.q1.lt).trans h.q1, (go _ (by simp) h.q2.lt).trans h.q2, (go _ (by simp) h.by_.lt).trans h.by_, (go _ (by simp) h.r8.lt).trans h.r8, (go _ (by simp) h.it.lt).trans h.it⟩
theorem DivFix.own (h0 h3 gq g8 pl b : Nat) (ysl : Value) (Y : List Nat) : Own (fun (_ : Nat) W => DivFix h0 h3 gq g8 pl b ysl Y W) := fun s A B row h hg hr =>
 ⟨boxed_own h0 _ (fun (_ : Unit) => ysl) () _ _ _ h.y hg hr, RowAt.own (h0 + 1) _ (fun (_ : Unit) => _) () _ _ _ h.q1 hg hr, RowAt.own (h0 + 1 + 1) _ (fun (_ : Unit) => _) () _ _ _ h.q2 hg hr,
  boxed_own h3 _ (fun (_ : Unit) => _) () _ _ _ h.by_ hg hr, RowAt.own g8 _ (fun (_ : Unit) => arr Y) () _ _ _ h.r8 hg hr, boxed_own (gq + 1) _ (fun (_ : Unit) => _) () _ _ _ h.it hg hr⟩
def DivSt (g7 gq pl DD V0 s : Nat) (W : World) : Prop := ∃ R Qt : List Nat, s ≤ pl ∧ RowAt W g7 155 (arr R) ∧ RowAt W gq 155 (arr Qt) ∧ Digits R ∧ R.length = 65 ∧ Digits Qt ∧ Qt.length = 65 ∧ val R + DD * B32 ^ s * val (Qt.drop s) = V0 ∧ val (R.drop s) < DD
theorem DivSt.own (g7 gq pl DD V0 : Nat) : Own (DivSt g7 gq pl DD V0) := fun s A B row h hg hr => by
 obtain ⟨R, Qt, h1, h2, h3, h4⟩ := h
 exact ⟨R, Qt, h1, RowAt.own g7 _ (fun (_ : Unit) => arr R) () _ _ _ h2 hg hr, RowAt.own gq _ (fun (_ : Unit) => arr Qt) () _ _ _ h3 hg hr, h4⟩
end Go.Proofs.YtgnogdncoljldaaGreat
namespace Go.Proofs.YtgnogdncoljldaaGreat
open Go Go.RowKit Go.Shelf
attribute [local go_sem] Oper.semAt_some
set_option maxRecDepth 100000 in
set_option maxHeartbeats 8000000 in
theorem divide_calls (v u : Value) (xs ys : List Nat) (w : World) (hx : U32s w.heap.size w v xs) (hy : U32s w.heap.size w u ys) (hdx : Digits xs) (hdy : Digits ys) (h64 : xs.length ≤ 64) (h64y : ys.length ≤ 64) (m1 : Nat) (hm1 : ys.length = m1 + 1) (htop : ys[m1]?.getD 0 ≠ 0) :
  Calls Tryz.prog 162 #[v, u] w fun e w' => ∃ q r : List Nat, e = .returned (.tuple #[.agg (arr q), .agg (arr r)]) ∧ q.length = 65 ∧ r.length = 65 ∧ Digits q ∧ Digits r ∧ val q = val xs / val ys ∧ val r = val xs % val ys ∧ Below w.heap.size w w' := by
 obtain ⟨p, cap, rfl, hl, hc⟩ := id hx
 obtain ⟨q, cap2, rfl, hl2, hc2⟩ := id hy
 obtain ⟨by_, oy, rfl, hbyB, hcy⟩ := hc2 (by omega)
 have htl := hdy.getD m1
 obtain ⟨hb31, hbmul⟩ := lz_bounds htop htl
 have hcyt := hcy m1 (by omega)
 obtain ⟨n, hn⟩ : ∃ n, n = xs.length := ⟨_, rfl⟩
 obtain ⟨W3, hW3⟩ : ∃ W3, W3 = ((w.alloc (.cells #[.slice (some ⟨by_, oy, none⟩) (m1 + 1) cap2] 34)).alloc (.cells Tryz.zeroCells155 155)).alloc (.cells Tryz.zeroCells155 155) := ⟨_, rfl⟩
 have HB3 : Hid (Below w.heap.size w W3) := by rw [hW3]; exact (((Below.refl _ w).alloc (Nat.le_refl _) _).alloc (by simp) _).alloc (by simp; omega) _
 have Hz3 : Hid (W3.heap.size = w.heap.size + 3) := by show W3.heap.size = _; rw [hW3]; simp
 have Hb3 : Hid (Boxed W3 w.heap.size 34 (.slice (some ⟨by_, oy, none⟩) (m1 + 1) cap2)) := by rw [hW3]; exact ((Boxed.new w _ _).alloc _).alloc _
 have Hq3 : Hid (RowAt W3 (w.heap.size + 1) 155 Tryz.zeroCells155) := by rw [hW3]; exact (RowAt.new' _ _ (by simp)).alloc _
 have Hr3 : Hid (RowAt W3 (w.heap.size + 1 + 1) 155 Tryz.zeroCells155) := by rw [hW3]; exact RowAt.new' _ _ (by simp)
 have hlz := lz_calls (ys[m1]?.getD 0) htl W3
 have Hx := Lib.hid hx
 have Hy := Lib.hid hy
 have Hx' : Hid (U32s w.heap.size w (.slice p n cap) xs) := by rw [hn]; exact hx
 have Hy' : Hid (U32s w.heap.size w (.slice (some ⟨by_, oy, none⟩) (m1 + 1) cap2) ys) := by rw [← hm1]; exact hy
 have Hc := Lib.hid hc
 have Hdx := Lib.hid hdx
 have Hcy := Lib.hid hcy
 have Hn := Lib.hid hn
 have Hm := Lib.hid hm1
 have Htop := Lib.hid htop
 have Hbmul := Lib.hid hbmul
 have hcyt3 : W3.cell? ⟨by_, oy + m1, none⟩ = some (.int .u32 (ys[m1]?.getD 0 : Nat)) := (HB3.out.cell (p := ⟨by_, oy + m1, none⟩) hbyB).trans hcyt
 have hcb3 := Hb3.out.cell
 rw [hm1, ← hn]
 rw [← hn] at h64
 rw [hm1] at h64y
 generalize hyt : ys[m1]?.getD 0 = yt at *
 obtain ⟨b, hb⟩ : ∃ b, b = lz yt := ⟨_, rfl⟩
 rw [← hb] at hlz hb31 Hbmul
 have Hlz := Lib.hid hlz
 have Hyt := Lib.hid hyt
 have HW3 := Lib.hid hW3
 clear hlz hx hy hc hcy hn hm1 htop hbmul hc2 hl hl2 hb hyt htl hW3
 have hs1 : by_ < w.heap.size + 1 := by omega
 have hs2 : by_ < w.heap.size + 1 + 1 := by omega
 refine (callsIn_wide (n := 5)).1 ?_
 refine callsIn_of_wp_marks Tryz.func162 rfl trivial ?_ rfl
 simp only [Tryz.ntmps162, List.size_toArray, List.length_cons, List.length_nil, Nat.reduceAdd, Nat.reduceSub, Array.replicate_succ, Array.replicate_zero, List.push_toArray, List.append_toArray, List.nil_append, List.cons_append]
 refine wpIn_wide.2 ?_
 go_wp2_with fail
 rw [← HW3.out]
 refine Hlz.out.mono ?_
 rintro e w0 ⟨rfl, rfl⟩
 go_wp2_with fail
 obtain ⟨W4, hW4⟩ : ∃ W4, W4 = W3.alloc (.cells #[.int .i64 b] 3) := ⟨_, rfl⟩
 rw [← hW4]
 have HB4 : Hid (Below w.heap.size w W4) := by rw [hW4]; exact HB3.out.alloc HB3.out.size _
 have Hb6 : Boxed W4 W3.heap.size 3 (.int .i64 b) := by rw [hW4]; exact Boxed.new _ _ _
 have Hb3' : Boxed W4 w.heap.size 34 (.slice (some ⟨by_, oy, none⟩) (m1 + 1) cap2) := by rw [hW4]; exact Hb3.out.alloc _
 refine wp_region_inv (fun D a w' => ∃ v22 v23 v24 v25 v26 v27 v7 v8, a = { tmps := #[(.slice p n cap), (.slice (some ⟨by_, oy, none⟩) (m1 + 1) cap2), undef, (.pointer (some ⟨w.heap.size, 0, none⟩)), (.pointer (some ⟨w.heap.size + 1, 0, none⟩)), (.pointer (some ⟨w.heap.size + 1 + 1, 0, none⟩)), (.pointer (some ⟨W3.heap.size, 0, none⟩)), v7, v8, undef, undef, undef, undef, undef, undef, (.slice (some ⟨by_, oy, none⟩) (m1 + 1) cap2), (.slice (some ⟨by_, oy, none⟩) (m1 + 1) cap2), (.int .i64 ((m1 : Int) + 1)), (.int .i64 (m1 : Int)), (.pointer (some ⟨by_, oy + m1, none⟩)), (.int .u32 (yt : Int)), (.int .i64 (b : Int)), v22, v23, v24, v25, v26, v27, undef, undef, undef, undef, undef, undef, undef, undef, undef, undef, undef, undef, undef, undef, undef, undef, undef, undef, undef, undef, undef, undef, undef, undef, undef, undef, undef, undef, undef, undef, undef, undef, undef, undef, undef, undef, undef, undef, undef, undef, undef, undef, undef, undef, undef], defers := [] } ∧ Pick D W4 (.slice p n cap) (.slice (some ⟨by_, oy, none⟩) (m1 + 1) cap2) (.int .i64 b) (arr (shRow b xs)) (arr (shRow b ys)) v22 v23 v24 v25 v26 v27 v7 v8 w') rfl (by kernel_rfl) ?start ?step ?done
 case start => exact ⟨undef, undef, undef, undef, undef, undef, undef, undef, rfl, (Below.refl _ _).drew, False.elim, False.elim, False.elim, False.elim, False.elim, False.elim, fun h => h.elim, fun h => h.elim, False.elim, False.elim, False.elim⟩
 case step =>
  rintro i o D a w1 hio hn he ⟨v22, v23, v24, v25, v26, v27, v7, v8, rfl, hp⟩
  have hbw : Below W4.heap.size W4 w1 := hp.1
  have hc6 : w1.cell? ⟨W3.heap.size, 0, none⟩ = some (.int .i64 b) := (hbw.cell (p := ⟨_, 0, none⟩) Hb6.lt).trans Hb6.cell
  have hc3 : w1.cell? ⟨w.heap.size, 0, none⟩ = some (.slice (some ⟨by_, oy, none⟩) (m1 + 1) cap2) := (hbw.cell (p := ⟨_, 0, none⟩) Hb3'.lt).trans Hb3'.cell
  have hle := (HB4.out.trans (hbw.mono HB4.out.size))
  rcases i with _ | _ | _ | _ | _ | _ | _ | _ | _ | _ | i
  rotate_left 10
  ·exact absurd hio (by simp)
  all_goals (obtain rfl := Option.some.inj (hio.symm.trans (by rfl)))
  ·refine BigFrame.wp_move (.tmp 0) rfl ?_
   exact ⟨_, _, _, _, _, _, _, _, rfl, hp.s0⟩
  ·refine wp_load_int (.tmp 6) rfl _ rfl _ hc6 ?_
   exact ⟨_, _, _, _, _, _, _, _, rfl, hp.s1⟩
  ·obtain rfl := hp.2.1 (he ⟨0, .data⟩ (by simp) rfl)
   obtain rfl := hp.2.2.1 (he ⟨1, .data⟩ (by simp) rfl)
   refine wp_call_shifted (.tmp 22) (.tmp 23) _ rfl (.slice p n cap) (.int .i64 b) rfl rfl (.agg (arr (shRow b xs))) (shifted_calls (.slice p n cap) b hb31 xs w1 ((Hx'.out.below hle).mono hle.size) hdx (by rw [← Hn.out]; exact h64)) fun w2 hb2 => ?_
   exact ⟨_, _, _, _, _, _, _, _, rfl, hp.s2 hb2⟩
  ·refine wp_load_slice (.tmp 3) rfl _ rfl _ _ _ hc3 ?_
   exact ⟨_, _, _, _, _, _, _, _, rfl, hp.s3⟩
  ·refine wp_load_int (.tmp 6) rfl _ rfl _ hc6 ?_
   exact ⟨_, _, _, _, _, _, _, _, rfl, hp.s4⟩
  ·obtain rfl := hp.2.2.2.2.1 (he ⟨3, .data⟩ (by simp) rfl)
   obtain rfl := hp.2.2.2.2.2.1 (he ⟨4, .data⟩ (by simp) rfl)
   refine wp_call_shifted (.tmp 25) (.tmp 26) _ rfl (.slice (some ⟨by_, oy, none⟩) (m1 + 1) cap2) (.int .i64 b) rfl rfl (.agg (arr (shRow b ys))) (shifted_calls (.slice (some ⟨by_, oy, none⟩) (m1 + 1) cap2) b hb31 ys w1 ((Hy'.out.below hle).mono hle.size) hdy (by rw [Hm.out]; exact h64y)) fun w2 hb2 => ?_
   exact ⟨_, _, _, _, _, _, _, _, rfl, hp.s5 hb2⟩
  ·refine wp_alloc_row rfl ?_
   exact ⟨_, _, _, _, _, _, _, _, rfl, hp.s6 hn⟩
  ·refine wp_alloc_row rfl ?_
   exact ⟨_, _, _, _, _, _, _, _, rfl, hp.s7 hn⟩
  ·obtain rfl := hp.2.2.2.1 (he ⟨2, .data⟩ (by simp) rfl)
   obtain ⟨g, cs, rfl, hr, hs, hp'⟩ := hp.s8 (he ⟨6, .data⟩ (by simp) rfl) (by rw [arr_size, shRow_length])
   refine wp_store_row 155 (.tmp 7) (.tmp 24) rfl g _ rfl rfl 155 cs hr (by rw [row_info, arr_size, shRow_length]) (by rw [arr_size, shRow_length, hs]) (arr_one _) ?_
   exact ⟨_, _, _, _, _, _, _, _, rfl, hp'⟩
  ·obtain rfl := hp.2.2.2.2.2.2.1 (he ⟨5, .data⟩ (by simp) rfl)
   obtain ⟨g, cs, rfl, hr, hs, hp'⟩ := hp.s9 (he ⟨7, .data⟩ (by simp) rfl) (by rw [arr_size, shRow_length])
   refine wp_store_row 155 (.tmp 8) (.tmp 27) rfl g _ rfl rfl 155 cs hr (by rw [row_info, arr_size, shRow_length]) (by rw [arr_size, shRow_length, hs]) (arr_one _) ?_
   exact ⟨_, _, _, _, _, _, _, _, rfl, hp'⟩
 case done =>
  rintro D a w1 hD ⟨v22, v23, v24, v25, v26, v27, v7, v8, rfl, hp⟩
  obtain ⟨g7, cs7, rfl, hg7, -, hr7, e7⟩ := hp.2.2.2.2.2.2.2.1 (hD 6 (by simp))
  obtain rfl := e7 (hD 8 (by simp))
  obtain ⟨g8, cs8, rfl, hg8, -, hr8, e8⟩ := hp.2.2.2.2.2.2.2.2.1 (hD 7 (by simp))
  obtain rfl := e8 (hD 9 (by simp))
  have h78 : g7 ≠ g8 := fun e => hp.2.2.2.2.2.2.2.2.2.1 (hD 6 (by simp)) (hD 7 (by simp)) (by rw [e])
  have hB := hp.1
  clear hp hD e7 e8
  have hb3 : Boxed w1 w.heap.size 34 (.slice (some ⟨by_, oy, none⟩) (m1 + 1) cap2) := (hB.block _ Hb3'.lt).trans Hb3'
  have hb6 : Boxed w1 W3.heap.size 3 (.int .i64 b) := (hB.block _ Hb6.lt).trans Hb6
  have hc3 := (hb3.alloc (.cells Tryz.zeroCells155 155)).cell
  obtain ⟨pl, hpl⟩ : ∃ pl : Nat, pl = n - m1 := ⟨_, rfl⟩
  have hmax : max (0 : Int) ((n : Int) - ((m1 : Int) + 1) + 1) = (pl : Int) := by omega
  have hpl65 : (pl : Int) ≤ 65 := by omega
  have hpl65' : pl ≤ 65 := by omega
  have Hpl := Lib.hid hpl
  clear hpl
  go_wp2_with fail
  refine (down_calls _ _ _ _).mono ?_
  rintro e w2 ⟨rfl, rfl⟩
  go_wp2_with fail
  have hs41 : W4.heap.size = w.heap.size + 4 := by rw [hW4]; simp [Hz3.out]
  have hs3 : W3.heap.size = w.heap.size + 3 := Hz3.out
  have hq1 : RowAt W4 (w.heap.size + 1) 155 Tryz.zeroCells155 := by rw [hW4]; exact Hq3.out.alloc _
  have hq2 : RowAt W4 (w.heap.size + 1 + 1) 155 Tryz.zeroCells155 := by rw [hW4]; exact Hr3.out.alloc _
  obtain ⟨gq, hgq⟩ : ∃ gq, gq = w1.heap.size := ⟨_, rfl⟩
  rw [← hgq]
  obtain ⟨W6, hW6⟩ : ∃ W6, W6 = (w1.alloc (.cells Tryz.zeroCells155 155)).alloc (.cells #[.slice (some ⟨gq, 0, none⟩) pl 65] 34) := ⟨_, rfl⟩
  rw [← hW6]
  have hg7q : g7 < gq := by rw [hgq]; exact hr7.lt
  have hg8q : g8 < gq := by rw [hgq]; exact hr8.lt
  have hs6 : W6.heap.size = gq + 2 := by rw [hW6, hgq]; simp
  have h6old : ∀ k, k < gq → W6.heap[k]? = w1.heap[k]? := fun k hk => by rw [hW6]; rw [Below.heap_alloc _ _ _ (by simp; omega), Below.heap_alloc _ _ _ (by omega)]
  have hB6 : Below w.heap.size w W6 := by rw [hW6]; exact ((HB4.out.trans (hB.mono (by omega))).alloc (by omega) _).alloc (by simp; omega) _
  have hF6 : DivFix w.heap.size W3.heap.size gq g8 pl b (.slice (some ⟨by_, oy, none⟩) (m1 + 1) cap2) (shRow b ys) W6 := by
   refine ⟨(h6old _ (by omega)).trans hb3, ((h6old _ (by omega)).trans (hB.block _ (by omega))).trans hq1, ((h6old _ (by omega)).trans (hB.block _ (by omega))).trans hq2, (h6old _ (by omega)).trans hb6, (h6old _ hg8q).trans hr8, ?_⟩
   rw [hW6]
   have := Boxed.new (w1.alloc (.cells Tryz.zeroCells155 155)) 34 (.slice (some ⟨gq, 0, none⟩) pl 65)
   rw [World.size_alloc, ← hgq] at this
   exact this
  have h76 : RowAt W6 g7 155 (arr (shRow b xs)) := (h6old _ hg7q).trans hr7
  have hq6 : RowAt W6 gq 155 (arr (List.replicate 65 0)) := by
   rw [hW6, ← zero_row]; exact (RowAt.new' _ _ hgq).alloc _
  have hne : ∀ k, k = w.heap.size ∨ k = w.heap.size + 1 ∨ k = w.heap.size + 1 + 1 ∨ k = W3.heap.size ∨ k = g8 ∨ k = gq + 1 → k ≠ g7 ∧ k ≠ gq := fun k hk => by omega
  have hDD : val (shRow b ys) = val ys * 2 ^ b := shRow_val hb31 ys (by rw [Hm.out]; omega)
  have hXX : val (shRow b xs) = val xs * 2 ^ b := shRow_val hb31 xs (by rw [← Hn.out]; omega)
  have hdY : Digits (shRow b ys) := shRow_digits hb31 hdy
  have hytop : ys[m1]?.getD 0 ≠ 0 := by rw [Hyt.out]; exact Htop.out
  have hyge : B32 ^ m1 ≤ val ys := val_ge_digit (by rw [Hm.out]; omega) hytop
  have hxlt : val xs < B32 ^ n := by rw [Hn.out]; exact val_lt Hdx.out
  have hstart : val ((shRow b xs).drop pl) < val (shRow b ys) := div_start (shRow_length _ _) Hpl.out hpl65' hxlt hXX hyge hDD
  have hYlt : val (shRow b ys) < B32 ^ (m1 + 1) := by rw [hDD]; exact shY_lt hb31 hdy Hm.out (by rw [Hyt.out]; exact Hbmul.out)
  have hYge : B32 ^ m1 ≤ val (shRow b ys) := by rw [hDD]; exact Nat.le_trans hyge (Nat.le_mul_of_pos_right _ (Nat.two_pow_pos b))
  have h1 : 1 ≤ 5 := by decide
  have hro : Fence.wide.round = none := rfl
  have Hs41 := Lib.hid hs41
  have Hs3 := Lib.hid hs3
  have Hgq := Lib.hid hgq
  have HW6 := Lib.hid hW6
  have Hs6 := Lib.hid hs6
  have HDD := Lib.hid hDD
  have HXX := Lib.hid hXX
  have Hne := Lib.hid hne
  have h0g : w.heap.size < gq := by omega
  have HYpos : Hid (0 < val (shRow b ys)) := Nat.lt_of_lt_of_le (Nat.pow_pos B32_pos) hYge
  have HYt : Hid (val ((shRow b ys).take (m1 + 1)) = val (shRow b ys)) := val_take_of_zero fun j hj => digit_zero_above (s := 0) (k := m1 + 1) (by simpa using hYlt) (by omega)
  have HYtop : Hid ((shRow b ys)[m1]?.getD 0 ≠ 0) := top_ne_zero hdY hYlt hYge (by rw [shRow_length]; omega)
  have HYlt : Hid (val (shRow b ys) < B32 ^ (m1 + 1)) := hYlt
  have Hxlt := Lib.hid hxlt
  clear hytop hyge hxlt hYlt hYge
  clear hs41 hs3 hgq hW6 hs6 hDD hXX h6old hne hc3 hb3 hb6 hr7 hr8 hq1 hq2 hW4 hcb3 hcyt3 hcyt
  refine (wpIn_wide (n := 5)).1 ?_
  refine wpIn_rangeFunc_S (α := Nat × Nat) hro h1 (gf := 205) (lb := #[.pointer (some ⟨gq + 1, 0, none⟩)]) rfl trivial (enters_of Tryz.func205 (by kernel_rfl) rfl)
   (down1_seq 4 (by decide) (gq + 1) (some ⟨gq, 0, none⟩) pl 65 (by unfold maxLen; omega)) (fun _ => rfl)
   (fun s W => (DivSt g7 gq pl (val (shRow b ys)) (val (shRow b xs)) s W ∧ DivFix w.heap.size W3.heap.size gq g8 pl b (.slice (some ⟨by_, oy, none⟩) (m1 + 1) cap2) (shRow b ys) W) ∧ Below w.heap.size w W)
   (fun _ _ => False)
   (OwnFrom.and (Own.from (fun s A B row hs hg hr => ⟨DivSt.own _ _ _ _ _ s A B row hs.1 hg hr, DivFix.own _ _ _ _ _ _ _ _ s A B row hs.2 hg hr⟩) _) (ownFrom_below (Nat.le_refl _) (by rw [Hs6.out]; omega)))
   (fun c => Own.from (fun _ A B row hs hg hr => hs) _)
   (fun s x => Own.from (fun _ A B row hs hg hr => by obtain ⟨b, off, e, h⟩ := hs; exact ⟨b, off, e, cell_kept h hg hr⟩) _)
   ?wk ⟨⟨⟨_, _, Nat.le_refl _, h76, hq6, shRow_digits hb31 Hdx.out, shRow_length _ _, ?z1, by simp, ?z2, hstart⟩, hF6⟩, hB6⟩
   (fun x => { tmps := #[(.slice p n cap), (.slice (some ⟨by_, oy, none⟩) (m1 + 1) cap2), undef, (.pointer (some ⟨w.heap.size, 0, none⟩)), (.pointer (some ⟨w.heap.size + 1, 0, none⟩)), (.pointer (some ⟨w.heap.size + 1 + 1, 0, none⟩)), (.pointer (some ⟨W3.heap.size, 0, none⟩)), (.pointer (some ⟨g7, 0, none⟩)), (.pointer (some ⟨g8, 0, none⟩)), (.pointer (some ⟨gq, 0, none⟩)), (.int .i64 (pl : Int)), (.int .i64 (x.1 : Int)), undef, undef, undef, (.slice (some ⟨by_, oy, none⟩) (m1 + 1) cap2), (.slice (some ⟨by_, oy, none⟩) (m1 + 1) cap2), (.int .i64 ((m1 : Int) + 1)), (.int .i64 (m1 : Int)), (.pointer (some ⟨by_, oy + m1, none⟩)), (.int .u32 (yt : Int)), (.int .i64 (b : Int)), v22, v23, v24, v25, v26, v27, (.slice p n cap), (.int .i64 (n : Int)), (.slice (some ⟨by_, oy, none⟩) (m1 + 1) cap2), (.int .i64 ((m1 : Int) + 1)), (.int .i64 ((n : Int) - ((m1 : Int) + 1))), (.int .i64 ((n : Int) - ((m1 : Int) + 1) + 1)), (.int .i64 (pl : Int)), (.int .i64 (pl : Int)), (.slice (some ⟨gq, 0, none⟩) pl 65), (.func (.func 205) #[] #[.pointer (some ⟨gq + 1, 0, none⟩)]), (.int .i64 (x.1 : Int)), (.int .u32 (x.2 : Int)), undef, undef, undef, undef, undef, undef, undef, undef, undef, undef, undef, undef, undef, undef, undef, undef, undef, undef, undef, undef, undef, undef, undef, undef, undef, undef, undef, undef, undef, undef, undef, undef, undef], defers := [] }) ?assign ?body ?done ?stop
  case z1 => intro d hd; rw [List.eq_of_mem_replicate hd]; exact B32_pos
  case z2 => rw [List.drop_replicate, val_zeros]; simp
  case wk =>
   rintro s W ⟨⟨⟨R, Qt, hs, _, hq, _, _, hdQ, hlQ, _⟩, hf⟩, hB⟩
   refine ⟨hs, hf.it.cell, fun k hk => ⟨gq, 0, Qt[k]?.getD 0, rfl, ?_⟩⟩
   rw [Nat.zero_add]
   exact (hq.cell k).trans (arr_get _ k (by omega))
  case assign =>
   intro l x W K hK
   gi_wp2
   exact hK
  case body =>
   rintro l s ⟨k, d⟩ s2 W ⟨⟨⟨R, Qt, hs, hr, hq, hdR, hlR, hdQ, hlQ, hinv, hlt⟩, hf⟩, hB⟩ ⟨h1, h2⟩ -
   dsimp only at h1 h2 ⊢
   subst h2; subst h1
   have hs2 : s2 < pl := hs
   have hpl2 := Hpl.out
   have hYt := HYt.out
   have hYl : ((shRow b ys).take (m1 + 1)).length = m1 + 1 := by rw [List.length_take, shRow_length]; omega
   have hYg : ∀ j, j < m1 + 1 → ((shRow b ys).take (m1 + 1))[j]?.getD 0 = (shRow b ys)[j]?.getD 0 := fun j hj => by rw [List.getElem?_take_of_lt hj]
   have ht := takeOut_calls g7 s2 (65 - s2) g8 0 65 m1 155 ((shRow b ys).take (m1 + 1)) R W.drew hr hdR (hdY.take _) hYl hlR (by have := Hpl.out; omega) (by have := Hpl.out; omega) (by omega) (show g8 < W.heap.size from hf.r8.lt) (Ne.symm h78)
    (fun j hj => by rw [hYg j hj, Nat.zero_add]; exact (show RowAt W.drew g8 155 (arr (shRow b ys)) from hf.r8).cell j |>.trans (arr_get _ j (by rw [shRow_length]; omega))) (by rw [hYg m1 (by omega)]; exact HYtop.out)
    (fun j hj => digit_zero_above (s := s2 + 1) (k := m1 + 1) (Nat.lt_trans hlt HYlt.out) (by rw [hYl] at hj; omega)) (by rw [hYt]; exact div_bound hdR hlR (by omega) hlt)
   rw [hYt, hYl] at ht
   have hq2 : val (R.drop s2) / val (shRow b ys) < B32 := by rw [Nat.div_lt_iff_lt_mul HYpos.out]; exact div_bound hdR hlR (by omega) hlt
   obtain ⟨qd, hqd⟩ : ∃ qd, qd = val (R.drop s2) / val (shRow b ys) := ⟨_, rfl⟩
   rw [← hqd] at ht hq2
   obtain ⟨P1, hP1⟩ : ∃ P1 : World → Prop, P1 = fun w' => (∃ Z, RowAt w' g7 155 (arr Z) ∧ Digits Z ∧ Z.length = 65 ∧ (∀ j, j < s2 ∨ s2 + (m1 + 1) < j → Z[j]? = R[j]?) ∧ val (Z.drop s2) = val (R.drop s2) % val (shRow b ys)) ∧ Keeps W.drew.heap.size g7 W.drew w' := ⟨_, rfl⟩
   have hT : Calls Tryz.prog 194 #[.slice (some ⟨g7, s2, none⟩) (m1 + 1 + 1) (65 - s2), .slice (some ⟨g8, 0, none⟩) (m1 + 1) 65] W.drew fun e w' => e = .returned (.int .u32 (qd : Nat)) ∧ P1 w' := by rw [hP1]; exact ht
   have hkeep : ∀ W', P1 W' → Keeps W.drew.heap.size g7 W.drew W' := fun W' h => by rw [hP1] at h; exact h.2
   have hgqW : gq < W.drew.heap.size := hq.lt
   have h0W : w.heap.size < W.drew.heap.size := hf.y.lt
   have h0e := (Hne.out w.heap.size (by simp))
   clear ht
   gi_wp2
   refine wpIn_region_inv (fun D a W' => ∃ v40 v41 v42 v43 v44 v45 v46 v47 v48 v49 v50 v51 v52 : Value, a = { tmps := #[(.slice p n cap), (.slice (some ⟨by_, oy, none⟩) (m1 + 1) cap2), undef, (.pointer (some ⟨w.heap.size, 0, none⟩)), (.pointer (some ⟨w.heap.size + 1, 0, none⟩)), (.pointer (some ⟨w.heap.size + 1 + 1, 0, none⟩)), (.pointer (some ⟨W3.heap.size, 0, none⟩)), (.pointer (some ⟨g7, 0, none⟩)), (.pointer (some ⟨g8, 0, none⟩)), (.pointer (some ⟨gq, 0, none⟩)), (.int .i64 (pl : Int)), (.int .i64 (s2 : Int)), undef, undef, undef, (.slice (some ⟨by_, oy, none⟩) (m1 + 1) cap2), (.slice (some ⟨by_, oy, none⟩) (m1 + 1) cap2), (.int .i64 ((m1 : Int) + 1)), (.int .i64 (m1 : Int)), (.pointer (some ⟨by_, oy + m1, none⟩)), (.int .u32 (yt : Int)), (.int .i64 (b : Int)), v22, v23, v24, v25, v26, v27, (.slice p n cap), (.int .i64 (n : Int)), (.slice (some ⟨by_, oy, none⟩) (m1 + 1) cap2), (.int .i64 ((m1 : Int) + 1)), (.int .i64 ((n : Int) - ((m1 : Int) + 1))), (.int .i64 ((n : Int) - ((m1 : Int) + 1) + 1)), (.int .i64 (pl : Int)), (.int .i64 (pl : Int)), (.slice (some ⟨gq, 0, none⟩) pl 65), (.func (.func 205) #[] #[.pointer (some ⟨gq + 1, 0, none⟩)]), (.int .i64 (s2 : Int)), (.int .u32 (d : Int)), v40, v41, v42, v43, v44, v45, v46, v47, v48, v49, v50, v51, v52, undef, undef, undef, undef, undef, undef, undef, undef, undef, undef, undef, undef, undef, undef, undef, undef, undef, undef, undef, undef], defers := [] } ∧ Tk D (.int .i64 (s2 : Int)) (.slice (some ⟨by_, oy, none⟩) (m1 + 1) cap2) (.int .i64 ((m1 + 1 : Nat) : Int)) (.int .i64 ((s2 + (m1 + 1) : Nat) : Int)) (.int .i64 ((s2 + (m1 + 1) + 1 : Nat) : Int)) (.slice (some ⟨g7, s2, none⟩) (m1 + 1 + 1) (65 - s2)) (.slice (some ⟨g8, 0, none⟩) (m1 + 1) 65) (.int .u32 (qd : Int)) (.pointer (some ⟨gq, s2, none⟩)) W.drew P1 (fun W' => ∃ W2, P1 W2 ∧ W' = W2.setCell ⟨gq, s2, none⟩ (.int .u32 (qd : Int))) v40 v41 v42 v43 v44 v45 v46 v47 v48 v49 v50 v51 v52 W' ∧ Boxed W' w.heap.size 34 (.slice (some ⟨by_, oy, none⟩) (m1 + 1) cap2)) (by kernel_rfl) (by kernel_rfl) ?start ?step ?fin
   case start => exact ⟨undef, undef, undef, undef, undef, undef, undef, undef, undef, undef, undef, undef, undef, rfl, ⟨False.elim, False.elim, False.elim, False.elim, False.elim, False.elim, False.elim, False.elim, False.elim, False.elim, False.elim, False.elim, False.elim, fun _ => rfl, False.elim, False.elim, False.elim⟩, hf.y⟩
   case step =>
    rintro i o D a W' hio hn he ⟨v40, v41, v42, v43, v44, v45, v46, v47, v48, v49, v50, v51, v52, rfl, ht, hy⟩
    rcases i with _ | _ | _ | _ | _ | _ | _ | _ | _ | _ | _ | _ | _ | _ | i
    rotate_left 14
    ·exact absurd hio (by simp)
    all_goals (obtain rfl := Option.some.inj (hio.symm.trans (by rfl)))
    ·exact wpr_of_run (by simp) (run_move (.tmp 11) rfl) ⟨_, _, _, _, _, _, _, _, _, _, _, _, _, rfl, ht.s0, hy⟩
    ·exact wpr_of_run (by simp) (run_move (.tmp 11) rfl) ⟨_, _, _, _, _, _, _, _, _, _, _, _, _, rfl, ht.s1, hy⟩
    ·exact wpr_of_run (by simp) (run_move (.tmp 11) rfl) ⟨_, _, _, _, _, _, _, _, _, _, _, _, _, rfl, ht.s2, hy⟩
    ·exact wpr_of_run (by simp) (run_load_slice (.tmp 3) rfl w.heap.size rfl _ _ _ hy.cell) ⟨_, _, _, _, _, _, _, _, _, _, _, _, _, rfl, ht.s3, hy⟩
    ·obtain rfl := ht.2.2.2.1 (he ⟨3, .data⟩ (by simp) rfl)
     exact wpr_of_run (by simp) (run_len (.tmp 43) _ rfl rfl _ (m1 + 1) _ rfl) ⟨_, _, _, _, _, _, _, _, _, _, _, _, _, rfl, ht.s4, hy⟩
    ·obtain rfl := ht.2.2.1 (he ⟨2, .data⟩ (by simp) rfl)
     obtain rfl := ht.2.2.2.2.1 (he ⟨4, .data⟩ (by simp) rfl)
     exact wpr_of_run (by simp) (run_addN (.tmp 42) (.tmp 44) rfl rfl s2 (m1 + 1) rfl rfl (by omega)) ⟨_, _, _, _, _, _, _, _, _, _, _, _, _, rfl, ht.s5, hy⟩
    ·obtain rfl := ht.2.2.2.2.2.1 (he ⟨5, .data⟩ (by simp) rfl)
     exact wpr_of_run (by simp) (run_addN (.tmp 45) (.const (.int .i64 1)) rfl rfl (s2 + (m1 + 1)) 1 rfl rfl (by omega)) ⟨_, _, _, _, _, _, _, _, _, _, _, _, _, rfl, ht.s6, hy⟩
    ·obtain rfl := ht.2.1 (he ⟨1, .data⟩ (by simp) rfl)
     obtain rfl := ht.2.2.2.2.2.2.1 (he ⟨6, .data⟩ (by simp) rfl)
     exact wpr_of_run (by simp) (run_slice2 (.tmp 7) (.tmp 41) (.tmp 46) rfl g7 s2 (s2 + (m1 + 1) + 1) rfl rfl rfl (by omega) (by omega) (by omega) (m1 + 1 + 1) (by omega)) ⟨_, _, _, _, _, _, _, _, _, _, _, _, _, rfl, ht.s7, hy⟩
    ·exact wpr_of_run (by simp) (run_load_slice (.tmp 3) rfl w.heap.size rfl _ _ _ hy.cell) ⟨_, _, _, _, _, _, _, _, _, _, _, _, _, rfl, ht.s8, hy⟩
    ·obtain rfl := ht.2.2.2.2.2.2.2.2.1 (he ⟨8, .data⟩ (by simp) rfl)
     exact wpr_of_run (by simp) (run_len (.tmp 48) _ rfl rfl _ (m1 + 1) _ rfl) ⟨_, _, _, _, _, _, _, _, _, _, _, _, _, rfl, ht.s9, hy⟩
    ·obtain rfl := ht.2.2.2.2.2.2.2.2.2.1 (he ⟨9, .data⟩ (by simp) rfl)
     exact wpr_of_run (by simp) (run_slice1 (.tmp 8) (.tmp 49) rfl g8 (m1 + 1) rfl rfl (by omega)) ⟨_, _, _, _, _, _, _, _, _, _, _, _, _, rfl, ht.s10, hy⟩
    ·obtain rfl := ht.2.2.2.2.2.2.2.1 (he ⟨7, .data⟩ (by simp) rfl)
     obtain rfl := ht.2.2.2.2.2.2.2.2.2.2.1 (he ⟨10, .data⟩ (by simp) rfl)
     obtain rfl := ht.2.2.2.2.2.2.2.2.2.2.2.2.2.1 hn
     exact wpr_of_call (by decide) (by simp) (run_enter2 194 (.tmp 47) (.tmp 50) _ rfl _ _ rfl rfl ent_takeOut) hT fun W2 h2 => ⟨_, _, _, _, _, _, _, _, _, _, _, _, _, rfl, ht.s11 hn h2, ((hkeep W2 h2).block _ h0W h0e.1).trans hf.y⟩
    ·obtain rfl := ht.1 (he ⟨0, .data⟩ (by simp) rfl)
     exact wpr_of_run (by simp) (run_index (.tmp 9) (.tmp 40) rfl gq s2 rfl rfl (by omega)) ⟨_, _, _, _, _, _, _, _, _, _, _, _, _, rfl, ht.s12, hy⟩
    ·obtain rfl := ht.2.2.2.2.2.2.2.2.2.2.2.1 (he ⟨11, .data⟩ (by simp) rfl)
     obtain rfl := ht.2.2.2.2.2.2.2.2.2.2.2.2.1 (he ⟨12, .data⟩ (by simp) rfl)
     have hp1 := ht.2.2.2.2.2.2.2.2.2.2.2.2.2.2.1 (he ⟨11, .data⟩ (by simp) rfl) hn
     have hqr := (hkeep W' hp1).row (show RowAt W.drew gq 155 (arr Qt) from hq) hgqW (by omega)
     exact wpr_of_skip (by simp) (run_store_u32 (.tmp 52) (.tmp 51) rfl gq s2 qd (Qt[s2]?.getD 0) rfl rfl ((hqr.cell s2).trans (arr_get _ s2 (by omega))) (hqr.frozen s2)) ⟨_, _, _, _, _, _, _, _, _, _, _, _, _, rfl, ht.s13 (he ⟨11, .data⟩ (by simp) rfl) ⟨W', hp1, rfl⟩, (RowAt.setOther (RowAt.ofBoxed hy) ⟨gq, s2, none⟩ _ h0e.2).boxed⟩
   case fin =>
    rintro D a W' hD ⟨v40, v41, v42, v43, v44, v45, v46, v47, v48, v49, v50, v51, v52, rfl, ht, hy⟩
    obtain ⟨W2, hp1, rfl⟩ := ht.2.2.2.2.2.2.2.2.2.2.2.2.2.2.2.1 (hD 13 (by simp))
    clear ht
    rw [hP1] at hp1
    obtain ⟨⟨Z, hZ, hdZ, hlZ, hsZ, hmZ⟩, hk⟩ := hp1
    have hqr := hk.row (show RowAt W.drew gq 155 (arr Qt) from hq) hgqW (by omega)
    show KeepsFrom _ _ _ ∧ _
    refine ⟨⟨?_, ?_⟩, ⟨⟨Z, Qt.set s2 qd, by omega, hZ.setOther _ _ (show g7 ≠ gq by omega), by rw [← arr_set]; exact hqr.set s2 _, hdZ, hlZ, hdQ.set _ hq2, by simpa using hlQ, ?_, ?_⟩, ?_⟩, ?_⟩
    ·rw [World.size_setCell]; exact hk.size
    ·intro k o hBk ho _
     have hkl : k < W.heap.size := (Array.getElem?_eq_some_iff.1 ho).1
     have hks := Hs6.out
     rw [heap_setCell_other _ _ _ _ (show k ≠ gq by omega)]
     exact (hk.block k hkl (by omega)).trans ho
    ·rw [hqd]; exact div_step hlR hlZ hlQ (by omega) (fun j hj => hsZ j (.inl hj)) hmZ hinv
    ·rw [hmZ]; exact Nat.mod_lt _ HYpos.out
    ·refine hf.move g7 Hne.out fun k hk' h7 hq' => ?_
     rw [heap_setCell_other _ _ _ _ hq']
     exact hk.block k hk' h7
    ·have hb2 : Below w.heap.size W W2 := ⟨hk.os, hk.tape, hk.output, hk.size, fun k hk' => hk.block k (by have := hf.y.lt; show k < W.heap.size; omega) (by have := Hs41.out; omega)⟩
     exact (hB.trans hb2).setCell (p := ⟨gq, s2, none⟩) (Nat.le_of_lt h0g) _
  case done =>
   rintro D s W hD rfl ⟨⟨⟨R, Qt, -, hr, hq, hdR, hlR, hdQ, hlQ, hinv, hlt⟩, hf⟩, hB⟩ hK
   rw [Nat.pow_zero, Nat.mul_one, List.drop_zero, HXX.out, HDD.out] at hinv
   rw [List.drop_zero, HDD.out] at hlt
   have hfin := Lib.hid (div_done hinv hlt)
   have Hlt := Lib.hid hlt
   have hn65 : (n : Int) + 1 ≤ 65 := by omega
   have hn66 : (n : Int) ≤ 64 := by omega
   have hn67 : (0 : Int) ≤ (n : Int) + 1 := by omega
   have hn68 : ((n : Int) + 1).toNat = n + 1 := by omega
   clear hinv hlt hstart hF6 h76 hq6 hB6 Hb3' Hb6
   go_wp2_with fail
   refine (down_calls _ _ _ _).mono ?_
   rintro e w2 ⟨rfl, rfl⟩
   go_wp2_with fail
   obtain ⟨gc, hgc⟩ : ∃ gc, gc = W.heap.size := ⟨_, rfl⟩
   rw [← hgc]
   obtain ⟨W8, hW8⟩ : ∃ W8, W8 = (W.alloc (.cells #[.int .u32 0] 118)).alloc (.cells #[.slice (some ⟨g7, 0, none⟩) (n + 1) 65] 34) := ⟨_, rfl⟩
   rw [← hW8]
   have hs8 : W8.heap.size = gc + 2 := by rw [hW8, hgc]; simp
   have h8old : ∀ k, k < gc → W8.heap[k]? = W.heap[k]? := fun k hk => by rw [hW8]; rw [Below.heap_alloc _ _ _ (by simp; omega), Below.heap_alloc _ _ _ (by omega)]
   have h7c : g7 < gc := by rw [hgc]; exact hr.lt
   have hqc : gq < gc := by rw [hgc]; exact hq.lt
   have hDc : D < gc := by rw [hgc]; exact (Array.getElem?_eq_some_iff.1 hK).1
   have h0c : w.heap.size < gc := by omega
   have hB8 : Below w.heap.size w W8 := by rw [hW8]; exact (hB.alloc (by omega) _).alloc (by simp; omega) _
   have hF8 : BackFix w.heap.size W3.heap.size gq gc g7 D b n Qt W8 := by
    refine ⟨(h8old _ (by rw [hgc]; exact hf.q1.lt)).trans hf.q1, (h8old _ (by rw [hgc]; exact hf.q2.lt)).trans hf.q2, (h8old _ (by rw [hgc]; exact hf.by_.lt)).trans hf.by_, (h8old _ hqc).trans hq, ?_, (h8old _ hDc).trans hK⟩
    rw [hW8]
    have := Boxed.new (W.alloc (.cells #[.int .u32 0] 118)) 34 (.slice (some ⟨g7, 0, none⟩) (n + 1) 65)
    rw [World.size_alloc, ← hgc] at this
    exact this
   have h78' : RowAt W8 g7 155 (arr R) := (h8old _ h7c).trans hr
   have hc8 : Boxed W8 gc 118 (.int .u32 ((0 * 2 ^ (32 - b) : Nat) : Int)) := by rw [hW8, hgc, Nat.zero_mul]; exact (Boxed.new _ _ _).alloc _
   have h07 : w.heap.size < g7 := by have := Hs41.out; omega
   have h3c : W3.heap.size ≠ gc := by have := Hs3.out; have := hf.by_.lt; omega
   have HneB : Hid (∀ k, k = w.heap.size + 1 ∨ k = w.heap.size + 1 + 1 ∨ k = W3.heap.size ∨ k = gq ∨ k = gc + 1 ∨ k = D → k ≠ g7 ∧ k ≠ gc) := fun k hk => by
    have h41 := Hs41.out
    have h3' := Hs3.out
    have hs6' := Hs6.out
    omega
   have Hgc := Lib.hid hgc
   have HW8 := Lib.hid hW8
   have Hs8 := Lib.hid hs8
   clear hgc hW8 hs8 h8old
   have h2 : 1 ≤ 5 := by decide
   refine (wpIn_wide (n := 5)).1 ?_
   refine wpIn_rangeFunc_S (α := Nat × Nat) hro h2 (gf := 205) (lb := #[.pointer (some ⟨gc + 1, 0, none⟩)]) rfl trivial (enters_of Tryz.func205 (by kernel_rfl) rfl)
    (down1_seq 4 (by decide) (gc + 1) (some ⟨g7, 0, none⟩) (n + 1) 65 (by unfold maxLen; omega)) (fun _ => rfl)
    (fun s W => (BackSt g7 gc n b R s W ∧ BackFix w.heap.size W3.heap.size gq gc g7 D b n Qt W) ∧ Below w.heap.size w W)
    (fun _ _ => False)
    (OwnFrom.and (OwnFrom.and ((BackSt.own _ _ _ _ _).from _) (BackFix.own _ _ _ _ _ _ _ _ _ _ (by rw [Hs8.out]; omega))) (ownFrom_below (Nat.le_refl _) (by rw [Hs8.out]; omega)))
    (fun c => Own.from (fun _ A B row hs hg hr => hs) _)
    (fun s x => Own.from (fun _ A B row hs hg hr => by obtain ⟨b, off, e, h⟩ := hs; exact ⟨b, off, e, cell_kept h hg hr⟩) _)
    ?wk2 ⟨⟨⟨R, 0, Nat.le_refl _, h78', hdR, hlR, Nat.two_pow_pos b, hc8, fun j _ => rfl, ?z3⟩, hF8⟩, hB8⟩
    (fun x => { tmps := #[(.slice p n cap), (.slice (some ⟨by_, oy, none⟩) (m1 + 1) cap2), undef, (.pointer (some ⟨w.heap.size, 0, none⟩)), (.pointer (some ⟨w.heap.size + 1, 0, none⟩)), (.pointer (some ⟨w.heap.size + 1 + 1, 0, none⟩)), (.pointer (some ⟨W3.heap.size, 0, none⟩)), (.pointer (some ⟨g7, 0, none⟩)), (.pointer (some ⟨g8, 0, none⟩)), (.pointer (some ⟨gq, 0, none⟩)), (.int .i64 (pl : Int)), undef, (.pointer (some ⟨gc, 0, none⟩)), (.int .i64 (x.1 : Int)), (.int .u32 (x.2 : Int)), (.slice (some ⟨by_, oy, none⟩) (m1 + 1) cap2), (.slice (some ⟨by_, oy, none⟩) (m1 + 1) cap2), (.int .i64 ((m1 : Int) + 1)), (.int .i64 (m1 : Int)), (.pointer (some ⟨by_, oy + m1, none⟩)), (.int .u32 (yt : Int)), (.int .i64 (b : Int)), v22, v23, v24, v25, v26, v27, (.slice p n cap), (.int .i64 (n : Int)), (.slice (some ⟨by_, oy, none⟩) (m1 + 1) cap2), (.int .i64 ((m1 : Int) + 1)), (.int .i64 ((n : Int) - ((m1 : Int) + 1))), (.int .i64 ((n : Int) - ((m1 : Int) + 1) + 1)), (.int .i64 (pl : Int)), (.int .i64 (pl : Int)), (.slice (some ⟨gq, 0, none⟩) pl 65), (.func (.func 205) #[] #[.pointer (some ⟨gq + 1, 0, none⟩)]), undef, undef, undef, undef, undef, undef, undef, undef, undef, undef, undef, undef, undef, undef, undef, (.slice p n cap), (.int .i64 (n : Int)), (.int .i64 ((n : Int) + 1)), (.slice (some ⟨g7, 0, none⟩) (n + 1) 65), (.func (.func 205) #[] #[.pointer (some ⟨gc + 1, 0, none⟩)]), (.int .i64 (x.1 : Int)), (.int .u32 (x.2 : Int)), undef, undef, undef, undef, undef, undef, undef, undef, undef, undef, undef, undef, undef], defers := [] }) ?assign2 ?body2 ?done2 ?stop2
   case z3 =>
    have hz : val R < B32 ^ (n + 1) := by
     rw [hfin.out.2]
     have h1 : val xs % val ys ≤ val xs := Nat.mod_le _ _
     have h2 : 2 ^ b ≤ B32 := Nat.pow_le_pow_right (n := 2) (by decide) (by omega : b ≤ 32)
     calc val xs % val ys * 2 ^ b ≤ val xs * B32 := Nat.mul_le_mul h1 h2
      _ < B32 ^ n * B32 := Nat.mul_lt_mul_of_pos_right Hxlt.out B32_pos
      _ = B32 ^ (n + 1) := (Nat.pow_succ ..).symm
    rw [drop_zero_of_lt hz, Nat.mul_zero]
   case wk2 =>
    rintro s W' ⟨⟨⟨V, t, hs, hr', hdV, hlV, _⟩, hf'⟩, hB'⟩
    refine ⟨hs, hf'.it.cell, fun k hk => ⟨g7, 0, V[k]?.getD 0, rfl, ?_⟩⟩
    rw [Nat.zero_add]
    exact (hr'.cell k).trans (arr_get _ k (by omega))
   case assign2 =>
    intro l x W K hK
    gi_wp2
    exact hK
   case body2 =>
    rintro l s ⟨k, d⟩ s2 W' ⟨⟨⟨V, t, hs, hr', hdV, hlV, htb, hc', hsame, hval⟩, hf'⟩, hB'⟩ ⟨h1, h2⟩ ⟨b', off, e, hcell⟩
    dsimp only at h1 h2 hcell ⊢
    subst h2; subst h1
    cases e
    rw [Nat.zero_add] at hcell
    have hs2 : s2 < n + 1 := hs
    have hd : d = V[s2]?.getD 0 := by
     have := (hr'.cell s2).trans (arr_get _ s2 (by omega))
     rw [hcell] at this; exact u32_inj this
    obtain ⟨c, hc⟩ : ∃ c, c = t * 2 ^ (32 - b) := ⟨_, rfl⟩
    rw [← hc] at hc'
    have hcb := (show Boxed W'.drew W3.heap.size 3 (.int .i64 (b : Int)) from hf'.by_).cell
    have hcc := (show Boxed W'.drew gc 118 (.int .u32 (c : Int)) from hc').cell
    have hcc0 := hc'.frozen
    have hcr : W'.drew.cell? ⟨g7, s2, none⟩ = some (.int .u32 (d : Int)) := hcell
    have hfr : W'.drew.frozen? ⟨g7, s2, none⟩ = false := (show RowAt W'.drew g7 155 (arr V) from hr').frozen s2
    have hk65 : (s2 : Int) < 65 := by omega
    have Hval := Lib.hid hval
    have Hsame := Lib.hid hsame
    have Hc2 := Lib.hid hc
    have Hd := Lib.hid hd
    have Hr' := Lib.hid hr'
    have Hc' := Lib.hid hc'
    have Hf' := Lib.hid hf'
    have HB' := Lib.hid hB'
    clear hval hsame hc hd hr' hc' hf' hB' hcell hr hq hf hB hK h78' hc8 hF8 hB8
    gi_wp2
    obtain ⟨W9, hW9⟩ : ∃ W9 : World, W9 = (W'.setCell ⟨g7, s2, none⟩ (.int .u32 (bits .or .u32 ((d : Int) / 2 ^ b) (c : Int)))).drew := ⟨_, rfl⟩
    refine Code.wpIn_mono (Q := fun e a w' => e = .normal ∧ ∃ u60 u61 u62 u63 u64 u65 u66 : Value, a = { tmps := #[(.slice p n cap), (.slice (some ⟨by_, oy, none⟩) (m1 + 1) cap2), undef, (.pointer (some ⟨w.heap.size, 0, none⟩)), (.pointer (some ⟨w.heap.size + 1, 0, none⟩)), (.pointer (some ⟨w.heap.size + 1 + 1, 0, none⟩)), (.pointer (some ⟨W3.heap.size, 0, none⟩)), (.pointer (some ⟨g7, 0, none⟩)), (.pointer (some ⟨g8, 0, none⟩)), (.pointer (some ⟨gq, 0, none⟩)), (.int .i64 (pl : Int)), undef, (.pointer (some ⟨gc, 0, none⟩)), (.int .i64 (s2 : Int)), (.int .u32 (d : Int)), (.slice (some ⟨by_, oy, none⟩) (m1 + 1) cap2), (.slice (some ⟨by_, oy, none⟩) (m1 + 1) cap2), (.int .i64 ((m1 : Int) + 1)), (.int .i64 (m1 : Int)), (.pointer (some ⟨by_, oy + m1, none⟩)), (.int .u32 (yt : Int)), (.int .i64 (b : Int)), v22, v23, v24, v25, v26, v27, (.slice p n cap), (.int .i64 (n : Int)), (.slice (some ⟨by_, oy, none⟩) (m1 + 1) cap2), (.int .i64 ((m1 : Int) + 1)), (.int .i64 ((n : Int) - ((m1 : Int) + 1))), (.int .i64 ((n : Int) - ((m1 : Int) + 1) + 1)), (.int .i64 (pl : Int)), (.int .i64 (pl : Int)), (.slice (some ⟨gq, 0, none⟩) pl 65), (.func (.func 205) #[] #[.pointer (some ⟨gq + 1, 0, none⟩)]), undef, undef, undef, undef, undef, undef, undef, undef, undef, undef, undef, undef, undef, undef, undef, (.slice p n cap), (.int .i64 (n : Int)), (.int .i64 ((n : Int) + 1)), (.slice (some ⟨g7, 0, none⟩) (n + 1) 65), (.func (.func 205) #[] #[.pointer (some ⟨gc + 1, 0, none⟩)]), (.int .i64 (s2 : Int)), (.int .u32 (d : Int)), u60, u61, u62, u63, u64, u65, u66, undef, undef, undef, undef, undef, undef], defers := [] } ∧ w' = W9) ?imp ?reg
    case reg =>
     gi_region
     all_goals exact ⟨rfl, _, _, _, _, _, _, _, rfl, hW9.symm⟩
    case imp =>
     rintro e a Wy ⟨rfl, u60, u61, u62, u63, u64, u65, u66, rfl, rfl⟩
     have hby9 : Boxed Wy W3.heap.size 3 (.int .i64 (b : Int)) := by rw [hW9]; exact (RowAt.setOther (RowAt.ofBoxed Hf'.out.by_) ⟨g7, s2, none⟩ _ (Hne.out _ (by simp)).1).boxed
     have hc9 : Boxed Wy gc 118 (.int .u32 (c : Int)) := by rw [hW9]; exact (RowAt.setOther (RowAt.ofBoxed Hc'.out) ⟨g7, s2, none⟩ _ (show gc ≠ g7 by omega)).boxed
     have hcb9 := hby9.cell
     have hcc9 := hc9.cell
     have hcf9 := hc9.frozen
     have HW9 := Lib.hid hW9
     have h32 : IntKind.i64.wrap (32 - (b : Int)) = 32 - (b : Int) := by rw [IntKind.wrap_i64]; omega
     clear hcb hcc hcc0 hcr hfr hW9
     gi_wp2
     have hdlt : d < B32 := by rw [Hd.out]; exact hdV.getD s2
     rw [back_carry hb31 d]
     rw [HW9.out]
     rw [Hc2.out, back_or hb31 hdlt htb]
     have hne2 : ∀ k, k = w.heap.size + 1 ∨ k = w.heap.size + 1 + 1 ∨ k = W3.heap.size ∨ k = gq ∨ k = gc + 1 ∨ k = D → k ≠ g7 ∧ k ≠ gc := HneB.out
     have hoth : ∀ k, k ≠ g7 → k ≠ gc → ((W'.setCell ⟨g7, s2, none⟩ (.int .u32 ((d / 2 ^ b + t * 2 ^ (32 - b) : Nat) : Int))).drew.setCell ⟨gc, 0, none⟩ (.int .u32 ((d % 2 ^ b * 2 ^ (32 - b) : Nat) : Int))).heap[k]? = W'.heap[k]? := fun k h7 hg => by
      rw [heap_setCell_other _ _ _ _ hg]
      exact heap_setCell_other W' ⟨g7, s2, none⟩ k _ h7
     show KeepsFrom _ _ _ ∧ _
     refine ⟨⟨?_, ?_⟩, ⟨⟨V.set s2 (d / 2 ^ b + t * 2 ^ (32 - b)), d % 2 ^ b, by omega, ?_, hdV.set _ (back_digit hb31 hdlt htb), by simpa using hlV, Nat.mod_lt _ (Nat.two_pow_pos b), ?_, ?_, ?_⟩, ?_⟩, ?_⟩
     ·rw [World.size_setCell]; show _ ≤ (W'.setCell _ _).heap.size; rw [World.size_setCell]; exact Nat.le_refl _
     ·intro k o hBk ho _
      have hks := Hs8.out
      rw [hoth k (by omega) (by omega)]; exact ho
     ·rw [← arr_set]; exact RowAt.setOther (Hr'.out.set s2 _).drew _ _ (show g7 ≠ gc by omega)
     ·exact Boxed.set _ (RowAt.drew (RowAt.setOther (RowAt.ofBoxed Hc'.out) ⟨g7, s2, none⟩ _ (show gc ≠ g7 by omega))).boxed
     ·intro j hj
      rw [List.getElem?_set_ne (by omega)]
      exact Hsame.out j (by omega)
     ·exact back_val hb31 hlV hlR (by omega) (Hsame.out s2 (by omega)) Hd.out Hval.out
     ·exact Hf'.out.move hne2 fun k _ h7 hg => hoth k h7 hg
     ·exact ((HB'.out.setCell (p := ⟨g7, s2, none⟩) (show w.heap.size ≤ g7 by omega) _).drew).setCell (p := ⟨gc, 0, none⟩) (Nat.le_of_lt h0c) _
   case done2 =>
    rintro D2 s W' hD2 rfl ⟨⟨⟨V, t, -, hr', hdV, hlV, htb, hc', -, hval⟩, hf'⟩, hB'⟩ hK2
    rw [List.drop_zero, List.drop_zero, hfin.out.2] at hval
    have HV : Hid (val V = val xs % val ys) := back_done hval htb
    have hs8' := Hs8.out
    have hnd : ∀ k, k = gq ∨ k = g7 ∨ k = D ∨ k = D2 → k ≠ w.heap.size + 1 ∧ k ≠ w.heap.size + 1 + 1 := fun k hk => by
     have h41 := Hs41.out
     have hs6' := Hs6.out
     omega
    have hDD2 : D ≠ D2 := by omega
    have hDB : w.heap.size ≤ D := by have hs6' := Hs6.out; omega
    have hDB2 : w.heap.size ≤ D2 := by omega
    clear hs8'
    go_wp2_with fail
    refine wp_region_inv (fun Dn a Wz => ∃ v71 v72 : Value, a = { tmps := #[(.slice p n cap), (.slice (some ⟨by_, oy, none⟩) (m1 + 1) cap2), undef, (.pointer (some ⟨w.heap.size, 0, none⟩)), (.pointer (some ⟨w.heap.size + 1, 0, none⟩)), (.pointer (some ⟨w.heap.size + 1 + 1, 0, none⟩)), (.pointer (some ⟨W3.heap.size, 0, none⟩)), (.pointer (some ⟨g7, 0, none⟩)), (.pointer (some ⟨g8, 0, none⟩)), (.pointer (some ⟨gq, 0, none⟩)), (.int .i64 (pl : Int)), undef, (.pointer (some ⟨gc, 0, none⟩)), undef, undef, (.slice (some ⟨by_, oy, none⟩) (m1 + 1) cap2), (.slice (some ⟨by_, oy, none⟩) (m1 + 1) cap2), (.int .i64 ((m1 : Int) + 1)), (.int .i64 (m1 : Int)), (.pointer (some ⟨by_, oy + m1, none⟩)), (.int .u32 (yt : Int)), (.int .i64 (b : Int)), v22, v23, v24, v25, v26, v27, (.slice p n cap), (.int .i64 (n : Int)), (.slice (some ⟨by_, oy, none⟩) (m1 + 1) cap2), (.int .i64 ((m1 : Int) + 1)), (.int .i64 ((n : Int) - ((m1 : Int) + 1))), (.int .i64 ((n : Int) - ((m1 : Int) + 1) + 1)), (.int .i64 (pl : Int)), (.int .i64 (pl : Int)), (.slice (some ⟨gq, 0, none⟩) pl 65), (.func (.func 205) #[] #[.pointer (some ⟨gq + 1, 0, none⟩)]), undef, undef, undef, undef, undef, undef, undef, undef, undef, undef, undef, undef, undef, undef, undef, (.slice p n cap), (.int .i64 (n : Int)), (.int .i64 ((n : Int) + 1)), (.slice (some ⟨g7, 0, none⟩) (n + 1) 65), (.func (.func 205) #[] #[.pointer (some ⟨gc + 1, 0, none⟩)]), undef, undef, undef, undef, undef, undef, undef, undef, undef, undef, undef, undef, undef, v71, v72], defers := [{ target := .collected D2, args := #[] }, { target := .collected D, args := #[] }] } ∧ (Dn 0 → v71 = .agg (arr Qt)) ∧ (Dn 1 → v72 = .agg (arr V)) ∧ RowAt Wz gq 155 (arr Qt) ∧ RowAt Wz g7 155 (arr V) ∧ Wz.heap[D]? = some (.deferred (some [])) ∧ Wz.heap[D2]? = some (.deferred (some [])) ∧ (∃ c4 : Array Value, c4.size = 65 ∧ RowAt Wz (w.heap.size + 1) 155 c4 ∧ (Dn 2 → c4 = arr Qt)) ∧ (∃ c5 : Array Value, c5.size = 65 ∧ RowAt Wz (w.heap.size + 1 + 1) 155 c5 ∧ (Dn 3 → c5 = arr V)) ∧ Below w.heap.size w Wz) rfl (by kernel_rfl) ?start3 ?step3 ?fin3
    case start3 => exact ⟨undef, undef, rfl, False.elim, False.elim, hf'.q, hr', hf'.d, hK2, ⟨_, by kernel_rfl, hf'.q1, False.elim⟩, ⟨_, by kernel_rfl, hf'.q2, False.elim⟩, hB'.drew⟩
    case step3 =>
     rintro i o Dn a Wz hio hn he ⟨v71, v72, rfl, e0, e1, hzq, hz7, hzD, hzD2, ⟨c4, hl4, hz4, e4⟩, ⟨c5, hl5, hz5, e5⟩, hBz⟩
     rcases i with _ | _ | _ | _ | i
     rotate_left 4
     ·exact absurd hio (by simp)
     all_goals (obtain rfl := Option.some.inj (hio.symm.trans (by rfl)))
     ·exact wp_of_run (run_load_row (.tmp 9) rfl gq rfl Qt hlQ _ hzq) ⟨_, _, rfl, fun _ => rfl, by simpa using e1, hzq, hz7, hzD, hzD2, ⟨c4, hl4, hz4, by simpa using e4⟩, ⟨c5, hl5, hz5, by simpa using e5⟩, hBz⟩
     ·exact wp_of_run (run_load_row (.tmp 7) rfl g7 rfl V hlV _ hz7) ⟨_, _, rfl, by simpa using e0, fun _ => rfl, hzq, hz7, hzD, hzD2, ⟨c4, hl4, hz4, by simpa using e4⟩, ⟨c5, hl5, hz5, by simpa using e5⟩, hBz⟩
     ·obtain rfl := e0 (he ⟨0, .data⟩ (by simp) rfl)
      refine wp_store_row 155 (.tmp 4) (.tmp 71) rfl (w.heap.size + 1) _ rfl rfl 155 c4 hz4 (by rw [row_info, arr_size, hlQ]) (by rw [arr_size, hlQ, hl4]) (arr_one _) ?_
      exact ⟨_, _, rfl, fun _ => rfl, by simpa using e1, hzq.setRowOther _ (hnd _ (by simp)).1, hz7.setRowOther _ (hnd _ (by simp)).1, (setRow_other _ _ _ _ (hnd D (by simp)).1).trans hzD, (setRow_other _ _ _ _ (hnd D2 (by simp)).1).trans hzD2, ⟨_, by rw [arr_size, hlQ], hz4.setRow _, fun _ => rfl⟩, ⟨c5, hl5, hz5.setRowOther _ (by omega), by simpa using e5⟩, below_setRow2 hBz (by omega) _⟩
     ·obtain rfl := e1 (he ⟨1, .data⟩ (by simp) rfl)
      refine wp_store_row 155 (.tmp 5) (.tmp 72) rfl (w.heap.size + 1 + 1) _ rfl rfl 155 c5 hz5 (by rw [row_info, arr_size, hlV]) (by rw [arr_size, hlV, hl5]) (arr_one _) ?_
      exact ⟨_, _, rfl, by simpa using e0, fun _ => rfl, hzq.setRowOther _ (hnd _ (by simp)).2, hz7.setRowOther _ (hnd _ (by simp)).2, (setRow_other _ _ _ _ (hnd D (by simp)).2).trans hzD, (setRow_other _ _ _ _ (hnd D2 (by simp)).2).trans hzD2, ⟨c4, hl4, hz4.setRowOther _ (by omega), by simpa using e4⟩, ⟨_, by rw [arr_size, hlV], hz5.setRow _, fun _ => rfl⟩, below_setRow2 hBz (by omega) _⟩
    case fin3 =>
     rintro Dn a Wz hDn ⟨v71, v72, rfl, e0, e1, hzq, hz7, hzD, hzD2, ⟨c4, hl4, hz4, e4⟩, ⟨c5, hl5, hz5, e5⟩, hBz⟩
     obtain rfl := e4 (hDn 2 (by simp))
     obtain rfl := e5 (hDn 3 (by simp))
     clear hzq hz7 hr' hc' hf' hB' hK2 hval e0 e1 e4 e5
     go_wp2_with fail
     have hE : (Wz.putObj D2 (.deferred none)).heap[D]? = some (.deferred (some [])) := (World.putObj_heap_other hDD2).trans hzD
     have hkp : ∀ k, k ≠ D → k ≠ D2 → ((Wz.putObj D2 (.deferred none)).putObj D (.deferred none)).heap[k]? = Wz.heap[k]? := fun k h1 h2 => (World.putObj_heap_other h1).trans (World.putObj_heap_other h2)
     have hD1 := hnd D (by simp)
     have hD3 := hnd D2 (by simp)
     refine endM2 hzD2 hE (results_two_rows rfl _ _ (w.heap.size + 1) (w.heap.size + 1 + 1) 155 155 Qt V hlQ hlV rfl rfl ((hkp _ (Ne.symm hD1.1) (Ne.symm hD3.1)).trans hz4) ((hkp _ (Ne.symm hD1.2) (Ne.symm hD3.2)).trans hz5)) ?_
     exact ⟨Qt, V, rfl, hlQ, hlV, hdQ, hdV, hfin.out.1, HV.out, (hBz.trans (belowK_b (w := w) (Nat.le_refl _) Wz D2 _ _ hDB2 hzD2 rfl rfl)).trans (belowK_b (w := w) (Nat.le_refl _) _ D _ _ hDB hE rfl rfl)⟩
   case stop2 => exact fun D c W hD h => h.elim
  case stop => exact fun D c W hD h => h.elim
end Go.Proofs.YtgnogdncoljldaaGreat
namespace Go.Proofs.YtgnogdncoljldaaGreat
open Go Go.RowKit Go.Shelf
set_option maxRecDepth 100000 in
set_option maxHeartbeats 2000000 in
theorem commonWord_calls (x y : Nat) (hx : x < 18446744073709551616) (hy : y < 18446744073709551616) (w : World) :
  Calls Tryz.prog 160 #[.int .u64 x, .int .u64 y] w fun e w' => e = .returned (.int .u64 (Nat.gcd x y : Nat)) ∧ Below w.heap.size w w' := by
 go_enter Tryz.func160, Tryz.ntmps160
 go_wp2
 go_loopw [0, 1] (fun a c wr => ∃ u v : Nat, a = .int .u64 u ∧ c = .int .u64 v ∧ u < 18446744073709551616 ∧ v < 18446744073709551616 ∧ Nat.gcd u v = Nat.gcd x y ∧ Below w.heap.size w wr) (fun _ c _ => (intOf c).toNat)
 case atStart => exact ⟨x, y, rfl, rfl, hx, hy, rfl, Below.refl _ _⟩
 case round =>
  obtain ⟨u, v, rfl, rfl, hu, hv, hg, hB⟩ := hrel
  have Hg := Lib.hid hg
  by_cases h0 : v = 0
  ·subst h0
   have hgg : Nat.gcd x y = u := by rw [← hg, Nat.gcd_zero_right]
   have Hgg := Lib.hid hgg
   clear hg hgg
   go_wp2
   go_ret
   exact ⟨by rw [Hgg.out]; rfl, hB⟩
  ·have ht : ((v : Int) != 0) = true := by simp [h0]
   have ht2 : ((v : Int) == 0) = false := by simp [h0]
   have ht3 : ¬ ((v : Int) = 0) := by omega
   have hmod : (u : Int).tmod (v : Int) = ((u % v : Nat) : Int) := (Int.ofNat_tmod u v)
   clear hg
   go_wp2
   go_region
   all_goals go_wp2
   all_goals
    rw [show (u : Int) % (v : Int) = ((u % v : Nat) : Int) from (Int.natCast_emod u v).symm]
    have hlt := Nat.mod_lt u (Nat.pos_of_ne_zero h0)
    refine ⟨⟨v, u % v, rfl, rfl, hv, by omega, ?_, hB.drew⟩, ?_⟩
    ·rw [← Hg.out, Nat.gcd_comm, ← Nat.gcd_rec, Nat.gcd_comm]
    ·show ((u % v : Nat) : Int).toNat < ((v : Nat) : Int).toNat
     omega
end Go.Proofs.YtgnogdncoljldaaGreat
namespace Go.Proofs.YtgnogdncoljldaaGreat
open Go Go.RowKit Go.Shelf
theorem put_ne {D : Nat → Prop} {i j : Nat} {P : Prop} (h : j ≠ i) (hp : D j → P) : (And' i D j → P) := fun e => by
 rcases e with e | e
 ·exact absurd e h
 ·exact hp e
theorem And'.ne {D : Nat → Prop} {i j : Nat} (h : j ≠ i) (e : And' i D j) : D j := e.elim (fun e => absurd e h) id
theorem put_eq {D : Nat → Prop} {i j : Nat} {P : Prop} (hp : P) : (And' i D j → P) := fun _ => hp
section
variable {o : Oper} {a : Act} {w : World}
theorem run_extract (x : Operand) (k : Nat) (ho : o.op = .extract x k) (vs : Array Value) (hx : a.eval x = .tuple vs) (v : Value) (hv : vs[k]? = some v) : (execOp a.eval o).run Tryz.prog w = .ok (.value v) w := by
 unfold execOp
 simp only [ho, hx]
 simp [go_sem, hv]
theorem run_index_slice (x y : Operand) (ho : o.op = .indexAddr 34 x y) (g n c u : Nat) (hx : a.eval x = .slice (some ⟨g, 0, none⟩) n c) (hy : a.eval y = .int .i64 u) (hu : u < n) : (execOp a.eval o).run Tryz.prog w = .ok (.value (.pointer (some ⟨g, u, none⟩))) w := by
 have h2 : (u : Int) < (n : Int) := by omega
 unfold execOp
 simp only [ho, hx, hy]
 simp [go_sem, h2]
theorem run_enter1 (f : FuncId) (x : Operand) (ts : Array TypeId) (ho : o.op = .call { callee := .value (.func f), args := #[x], argTypes := ts }) (u1 : Value) (h1 : a.eval x = u1) (hf : ∀ args w, (callFunc f args).run Tryz.prog w = .ok (.enter f args) w) :
  (execOp a.eval o).run Tryz.prog w = .ok (.enter f #[u1]) w := by
 have ef : a.eval (.func f) = .func (.func f) #[] #[] := rfl
 have hm : Array.map a.eval #[x] = #[u1] := by rw [← h1]; simp
 unfold execOp
 simp only [ho, resolve, Deferred.ofValue, invoke, ef, hm]
 simp [hf]
theorem wp_of_call {K : Act → World → Prop} {Q : Exit → Act → World → Prop} {f : FuncId} {args : Array Value} (h : (execOp a.eval o).run Tryz.prog w = .ok (.enter f args) w) {v : Value} {R : World → Prop}
  (hc : Calls Tryz.prog f args w fun e w' => e = .returned v ∧ R w') (hk : ∀ w', R w' → K (a.put o.dst v) w') : o.wp Tryz.prog a w K Q := by
 unfold Oper.wp; rw [h]
 refine hc.mono ?_
 rintro e w' ⟨rfl, hr⟩
 exact hk w' hr
theorem run_slice0 (x : Operand) (ho : o.op = .slice 155 x none none none) (g : Nat) (hx : a.eval x = .pointer (some ⟨g, 0, none⟩)) : (execOp a.eval o).run Tryz.prog w = .ok (.value (.slice (some ⟨g, 0, none⟩) 65 65)) w := by
 unfold execOp
 simp only [ho, hx, Option.map_none]
 simp [go_sem]
theorem run_copy_digits (d s : Operand) (ho : o.op = .call { callee := .builtin .copy, args := #[d, s], argTypes := #[34, 34] }) (g B : Nat) (v : Value) (xs old : List Nat) (t : TypeId) (hd : a.eval d = .slice (some ⟨g, 0, none⟩) 65 65) (hs : a.eval s = v)
  (hx : U32s B w v xs) (hg : RowAt w g t (arr old)) (hold : old.length = 65) (hl : xs.length ≤ 65) :
  ∃ w', (execOp a.eval o).run Tryz.prog w = .ok (.value (.int .i64 (xs.length : Nat))) w' ∧ RowAt w' g t (arr (xs ++ old.drop xs.length)) ∧ Turned g w w' := by
 obtain ⟨p, cap, rfl, -, hc⟩ := hx
 obtain ⟨dst, op, type, pos, after, guard⟩ := o
 obtain rfl : op = _ := ho
 have e : Array.map a.eval #[d, s] = #[.slice (some ⟨g, 0, none⟩) 65 65, .slice p xs.length cap] := by simp only [List.map_toArray, List.map_cons, List.map_nil, hd, hs]
 have hmin : Nat.min xs.length 65 = xs.length := Nat.min_eq_left hl
 by_cases h0 : xs.length = 0
 ·obtain rfl : xs = [] := List.eq_nil_of_length_eq_zero h0
  have hrun := run_copy_none (P := Tryz.prog) w 34 34 type 118 (some ⟨g, 0, none⟩) p 65 65 0 cap Tryz.underlying34 size_u32 (by rfl)
  refine ⟨w, ?_, by simpa using hg, ⟨rfl, rfl, rfl, rfl, fun _ _ => rfl⟩⟩
  rw [BigFrame.execOp_builtin, e]
  simp [builtin, hrun, Result.andThen]
  rfl
 ·obtain ⟨b, off, rfl, hb, hcs⟩ := hc (by omega)
  have hrun := run_copy_row (P := Tryz.prog) w 34 34 type 118 g 0 65 65 ⟨b, off, none⟩ xs.length cap (arr old) t (arr xs).toList Tryz.underlying34 size_u32 hg (by rw [hmin]; simp [arr_size]) (by
    intro j v hv
    have hj : j < xs.length := by
     have := (List.getElem?_eq_some_iff.1 hv).1; simpa [arr_size] using this
    rw [Addr.add_mid, hcs j hj]
    have := arr_get xs j hj
    rw [← Array.getElem?_toList, hv] at this
    exact this.symm) (by simp [arr_size, hold]; exact hl) (by
    intro v hv
    exact Array.all_eq_true_iff_forall_mem.1 (arr_one xs) v (by simpa using hv))
  have e2 : ((arr old).toList.take 0 ++ (arr xs).toList ++ (arr old).toList.drop (0 + (arr xs).toList.length)).toArray = arr (xs ++ old.drop xs.length) := by
   simp [arr]
  rw [e2] at hrun
  refine ⟨w.setRow g (arr (xs ++ old.drop xs.length)), ?_, hg.setRow _, turned_setRow w g _⟩
  rw [BigFrame.execOp_builtin, e]
  simp [builtin, hrun, Result.andThen, arr_size]
  rfl
theorem wp_copy_digits {K : Act → World → Prop} {Q : Exit → Act → World → Prop} (d s : Operand) (ho : o.op = .call { callee := .builtin .copy, args := #[d, s], argTypes := #[34, 34] }) (g B : Nat) (v : Value) (xs old : List Nat) (t : TypeId) (hd : a.eval d = .slice (some ⟨g, 0, none⟩) 65 65) (hs : a.eval s = v)
  (hx : U32s B w v xs) (hg : RowAt w g t (arr old)) (hold : old.length = 65) (hl : xs.length ≤ 65)
  (hk : ∀ w', RowAt w' g t (arr (xs ++ old.drop xs.length)) → Turned g w w' → K (a.put o.dst (.int .i64 (xs.length : Nat))) w') : o.wp Tryz.prog a w K Q := by
 obtain ⟨w', hrun, hr, ht⟩ := run_copy_digits d s ho g B v xs old t hd hs hx hg hold hl
 exact wp_of_run hrun (hk w' hr ht)
end
end Go.Proofs.YtgnogdncoljldaaGreat
namespace Go.Proofs.YtgnogdncoljldaaGreat
theorem row_ext : ∀ {a b : List Nat}, a.length = b.length → Digits a → Digits b → val a = val b → a = b
 | [], [], _, _, _, _ => rfl
 | [], _ :: _, h, _, _, _ => by simp at h
 | _ :: _, [], h, _, _, _ => by simp at h
 | d :: a, e :: b, h, ha, hb, hv => by
   have h1 := (Digits.cons.1 ha).1
   have h2 := (Digits.cons.1 hb).1
   rw [val_cons, val_cons] at hv
   have e1 : d = e := by
    have := congrArg (· % B32) hv
    simpa [Nat.add_mul_mod_self_left, Nat.mod_eq_of_lt h1, Nat.mod_eq_of_lt h2] using this
   subst e1
   have e2 : val a = val b := Nat.eq_of_mul_eq_mul_left B32_pos (Nat.add_left_cancel hv)
   rw [row_ext (by simpa using h) (Digits.cons.1 ha).2 (Digits.cons.1 hb).2 e2]
def rowOf (n : Nat) : List Nat := digs n ++ List.replicate (65 - (digs n).length) 0
theorem rowOf_val (n : Nat) : val (rowOf n) = n := by rw [rowOf, val_append, val_zeros, val_digs]; simp
theorem rowOf_digits (n : Nat) : Digits (rowOf n) := (digs_digits n).append fun d hd => by rw [List.eq_of_mem_replicate hd]; exact B32_pos
theorem rowOf_length {n : Nat} (h : n < B32 ^ 65) : (rowOf n).length = 65 := by
 have := digs_len.2 h
 rw [rowOf]; simp; omega
theorem rowOf_eq {q : List Nat} (h : q.length = 65) (hd : Digits q) : q = rowOf (val q) :=
 row_ext (by rw [rowOf_length (by rw [← h]; exact val_lt hd), h]) hd (rowOf_digits _) (rowOf_val _).symm
theorem rowOf_lt {q : List Nat} (h : q.length = 65) (hd : Digits q) : val q < B32 ^ 65 := by rw [← h]; exact val_lt hd
theorem zero_of_val {ds : List Nat} (h : val ds = 0) (j : Nat) : ds[j]?.getD 0 = 0 := by
 apply Classical.byContradiction
 intro hne
 have hl : j < ds.length := by
  apply Classical.byContradiction
  intro hn
  rw [List.getElem?_eq_none (by omega)] at hne
  exact hne rfl
 have := val_ge_digit hl hne
 have := Nat.pow_pos (n := j) B32_pos
 omega
theorem cd_next {R : List Nat} {n : Nat} (hR : R.length = 65) (hn : n ≤ 65) (hv : val R < B32 ^ n) :
  (strip (R.take n)).length ≤ n ∧ (∀ j, (strip (R.take n)).length ≤ j → R[j]?.getD 0 = 0) ∧ (0 < (strip (R.take n)).length → R[(strip (R.take n)).length - 1]?.getD 0 ≠ 0) := by
 have h1 := strip_length_le (R.take n)
 have hlt : (R.take n).length = n := by simp; omega
 have h2 := strip_take (R.take n)
 have hvn : val (R.take n) = val R := val_take_of_zero fun j hj => digit_zero_above (s := 0) (k := n) (by simpa using hv) (by omega)
 have h3 : val (strip (R.take n)) = val R := by rw [val_strip, hvn]
 generalize hs : strip (R.take n) = s at *
 rw [hlt] at h1
 rw [List.take_take, Nat.min_eq_left h1] at h2
 refine ⟨h1, fun j hj => ?_, fun h0 => ?_⟩
 ·have h4 := val_take_drop R (s := s.length) (by omega)
  rw [h2, h3] at h4
  have h5 : val (R.drop s.length) = 0 := by
   have := Nat.pow_pos (n := s.length) B32_pos
   rcases Nat.eq_zero_or_pos (val (R.drop s.length)) with e | e
   ·exact e
   ·have := Nat.mul_pos this e
    omega
  have := zero_of_val h5 (j - s.length)
  rwa [List.getElem?_drop, Nat.add_sub_cancel' hj] at this
 ·have h4 : NoZero s := by rw [← hs]; exact strip_strip _
  have h5 := (noZero_last h0).1 h4
  rw [← h2] at h5
  have e : (List.take s.length R).length = s.length := by simp; omega
  rw [e, List.getElem?_take_of_lt (by omega)] at h5
  exact h5
theorem lt_of_zero {R : List Nat} {m : Nat} (hd : Digits R) (hm : m ≤ R.length) (hz : ∀ j, m ≤ j → R[j]?.getD 0 = 0) : val R < B32 ^ m := by
 rw [← val_take_of_zero hz]
 have := val_lt (hd.take m)
 rwa [List.length_take, Nat.min_eq_left hm] at this
theorem val_pos_of_digit {R : List Nat} {j : Nat} (h : R[j]?.getD 0 ≠ 0) : 0 < val R := by
 rcases Nat.eq_zero_or_pos (val R) with e | e
 ·exact absurd (zero_of_val e j) h
 ·exact e
theorem split2_digits {n : Nat} (h : n < 18446744073709551616) : Digits (n % B32 :: n / B32 :: List.replicate 63 0) := by
 refine Digits.cons.2 ⟨Nat.mod_lt _ B32_pos, Digits.cons.2 ⟨?_, fun d hd => by rw [List.eq_of_mem_replicate hd]; exact B32_pos⟩⟩
 rw [Nat.div_lt_iff_lt_mul B32_pos]; exact h
theorem split2_value (n : Nat) : val (n % B32 :: n / B32 :: List.replicate 63 0) = n := by
 rw [val_cons, val_cons, val_zeros, Nat.mul_zero, Nat.add_zero]; exact Nat.mod_add_div n B32
theorem gcd_le_left' {x y : Nat} (h : 0 < y) : Nat.gcd x y ≤ y := Nat.le_of_dvd h (Nat.gcd_dvd_right x y)
end Go.Proofs.YtgnogdncoljldaaGreat

