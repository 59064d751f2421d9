/- Texts that belong together. -/
import Derived.Test.YtegjcikofmphjaaGreatDoorQNum27
import Derived.Test.YtegjcikofmphjaaGreatDoorQShelf
import Derived.WalkLawsBesides
set_option linter.all false
/- Layer 1: decimal digits, in groups of nine; the world behind strconv.Itoa. -/
namespace Go.Proofs.YtegjcikofmphjaaGreatDoor
open Go Go.RowKit Go.Shelf
def padTo : Nat → Nat → List UInt8
  | 0, _ => []
  | k + 1, r => padTo k (r / 10) ++ [UInt8.ofNat (48 + r % 10)]
theorem dec_step {u : Nat} (h : 10 ≤ u) : Lib.decDigits u = Lib.decDigits (u / 10) ++ [UInt8.ofNat (48 + u % 10)] := by
  rw [Lib.decDigits, dif_neg (by omega)]
theorem dec_pad (k : Nat) : ∀ {V r : Nat}, 0 < V → r < 10 ^ k → Lib.decDigits (V * 10 ^ k + r) = Lib.decDigits V ++ padTo k r := by
  induction k with
  | zero => intro V r _ h; obtain rfl : r = 0 := by simpa using h
            simp [padTo]
  | succ k ih =>
    intro V r hV h
    have hp : 1 ≤ 10 ^ k := Nat.one_le_pow _ _ (by decide)
    have hVp : 10 ^ k ≤ V * 10 ^ k := Nat.le_mul_of_pos_left _ hV
    rw [Nat.pow_succ, ← Nat.mul_assoc] at *
    rw [dec_step (by omega), show (V * 10 ^ k * 10 + r) / 10 = V * 10 ^ k + r / 10 by omega, show (V * 10 ^ k * 10 + r) % 10 = r % 10 by omega, ih hV (by omega), padTo, List.append_assoc]
theorem pad_add (a b : Nat) : ∀ {r t : Nat}, t < 10 ^ b → padTo (a + b) (r * 10 ^ b + t) = padTo a r ++ padTo b t := by
  induction b with
  | zero => intro r t h; obtain rfl : t = 0 := by simpa using h
            simp [padTo]
  | succ b ih =>
    intro r t h
    rw [Nat.pow_succ, ← Nat.mul_assoc] at *
    rw [← Nat.add_assoc, padTo, padTo, show (r * 10 ^ b * 10 + t) / 10 = r * 10 ^ b + t / 10 by omega, show (r * 10 ^ b * 10 + t) % 10 = t % 10 by omega, ih (by omega), List.append_assoc]
theorem pad_zero (k : Nat) : padTo k 0 = List.replicate k 48 := by
  induction k with
  | zero => rfl
  | succ k ih => rw [padTo, Nat.zero_div, ih, List.replicate_succ']; rfl
theorem pad_dec (k : Nat) : ∀ {r : Nat}, 0 < k → r < 10 ^ k → padTo k r = List.replicate (k - Lib.nDigits r) 48 ++ Lib.decDigits r ∧ Lib.nDigits r ≤ k := by
  induction k with
  | zero => intro r h; omega
  | succ k ih =>
    intro r _ h
    by_cases hr : r < 10
    · rw [padTo, show r / 10 = 0 by omega, pad_zero, Lib.nDigits_small hr, Lib.decDigits_one hr, show r % 10 = r by omega]
      exact ⟨rfl, by omega⟩
    · have hk : 0 < k := by
        rcases Nat.eq_zero_or_pos k with e | e
        · subst e; simp at h; omega
        · exact e
      rw [Nat.pow_succ] at h
      have := ih (r := r / 10) hk (by omega)
      rw [padTo, this.1, Lib.nDigits_big hr, dec_step (u := r) (by omega), List.append_assoc, Nat.add_sub_add_right]
      exact ⟨rfl, by omega⟩
def decInt (z : Int) : List UInt8 := if z < 0 then 45 :: Lib.decDigits z.natAbs else Lib.decDigits z.natAbs
theorem bytes_append (l m : List UInt8) : (⟨l.toArray⟩ : ByteArray) ++ (⟨m.toArray⟩ : ByteArray) = ⟨(l ++ m).toArray⟩ := by
  apply ByteArray.ext
  simp
def Tab (w : World) : Prop := Lib.TabIs Tryz.prog w "internal/strconv.uint64pow10" .u64 Lib.pow10Tab ∧ 1 < w.heap.size
theorem tab_global : Tryz.prog.globalNamed "internal/strconv.uint64pow10" = some 1 := by kernel_rfl
theorem Tab.below {w w' : World} (h : Tab w) (hb : Below w.heap.size w w') : Tab w' :=
  ⟨var?_below hb tab_global h.2 h.1, Nat.lt_of_lt_of_le h.2 hb.size⟩
theorem tab_of {w : World} (h : Lib.TabIs Tryz.prog w "internal/strconv.uint64pow10" .u64 Lib.pow10Tab) : Tab w := by
  refine ⟨h, ?_⟩
  unfold Lib.TabIs World.var? at h
  rw [tab_global] at h
  apply Classical.byContradiction
  intro hn
  have e : w.heap[1]? = none := Array.getElem?_eq_none (by omega)
  simp [e] at h
theorem below_grow (w : World) (k : Nat) (os : Array Obj) : Below w.heap.size w (Sort.grow (w.drewN k) os) :=
  ⟨rfl, rfl, rfl, by simp [Sort.grow, World.drewN], fun i hi => by simp [Sort.grow, World.drewN, Array.getElem?_append, hi]⟩
theorem itoa_calls (n : Nat) (hn : n < 1000000000) (w : World) (ht : Tab w) :
    Calls Tryz.prog 50 #[.int .i64 n] w fun e w' => e = .returned (.string ⟨(Lib.decDigits n).toArray⟩) ∧ Below w.heap.size w w' := by
  refine (Tryz.strconv_Itoa n (by omega) (by omega) w ht.1).mono ?_
  rintro e w' ⟨rfl, k, os, rfl⟩
  exact ⟨by rw [Lib.itoa_nonneg], below_grow w k os⟩
theorem repeat_calls (c : Nat) (hc : c ≤ 9) (w : World) :
    Calls Tryz.prog 80 #[.string ⟨#[48]⟩, .int .i64 c] w fun e w' => e = .returned (.string ⟨(List.replicate c (48 : UInt8)).toArray⟩) ∧ Below w.heap.size w w' := by
  refine (Tryz.strings_Repeat ⟨#[48]⟩ c w (by omega) (by simp [ByteArray.size]; omega)).mono ?_
  rintro e w' ⟨rfl, hb⟩
  refine ⟨?_, hb⟩
  have h := Lib.repeatL_replicate 48 1 c
  rw [Nat.mul_one] at h
  exact congrArg (fun l => Ending.returned (.string ⟨l.toArray⟩)) h
end Go.Proofs.YtegjcikofmphjaaGreatDoor

