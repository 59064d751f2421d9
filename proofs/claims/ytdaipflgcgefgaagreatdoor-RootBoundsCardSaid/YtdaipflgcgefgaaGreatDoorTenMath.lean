
/- Digits divided by ten, from the highest one down. -/
import Derived.Test.YtdaipflgcgefgaaGreatDoorRef8
set_option linter.all false
namespace Go.Proofs.YtdaipflgcgefgaaGreatDoor
open Go

/-- The digits of a tenth, and the rest. -/
def tens : List Nat → List Nat × Nat
  | [] => ([], 0)
  | d :: ds => (((tens ds).2 * B32 + d) / 10 :: (tens ds).1, ((tens ds).2 * B32 + d) % 10)
theorem tens_rest (ds : List Nat) : (tens ds).2 < 10 := by
  cases ds with
  | nil => simp [tens]
  | cons d ds => rw [tens]; exact Nat.mod_lt _ (by decide)
theorem tens_length : ∀ ds : List Nat, (tens ds).1.length = ds.length
  | [] => rfl
  | d :: ds => by rw [tens, List.length_cons, List.length_cons, tens_length ds]
theorem tens_val : ∀ ds : List Nat, 10 * val (tens ds).1 + (tens ds).2 = val ds
  | [] => rfl
  | d :: ds => by
    have ih := tens_val ds
    rw [tens, val_cons, val_cons]
    have e : B32 * (10 * val (tens ds).1 + (tens ds).2) = B32 * val ds := by rw [ih]
    rw [Nat.mul_add] at e
    have h := Nat.mod_add_div ((tens ds).2 * B32 + d) 10
    rw [Nat.mul_comm _ B32] at h ⊢
    have e2 : 10 * (B32 * val (tens ds).1) = B32 * (10 * val (tens ds).1) := Nat.mul_left_comm _ _ _
    omega
theorem tens_digits : ∀ {ds : List Nat}, Digits ds → Digits (tens ds).1
  | [], _ => Digits.nil
  | d :: ds, h => by
    rw [Digits.cons] at h
    have h1 := tens_digits h.2
    have h2 := tens_rest ds
    have h3 := h.1
    rw [tens, Digits.cons]
    refine ⟨?_, h1⟩
    unfold B32 at *
    omega
/-- What the row holds when the digits from k on are done. -/
def tenTo (ds : List Nat) (k : Nat) : List Nat := ds.take k ++ (tens (ds.drop k)).1
theorem tenTo_length {ds : List Nat} {k : Nat} (h : k ≤ ds.length) : (tenTo ds k).length = ds.length := by
  unfold tenTo; rw [List.length_append, tens_length, List.length_take, List.length_drop]; omega
theorem tenTo_all (ds : List Nat) : tenTo ds ds.length = ds := by
  unfold tenTo; rw [List.drop_eq_nil_of_le (Nat.le_refl _), List.take_of_length_le (Nat.le_refl _)]; simp [tens]
theorem tenTo_zero (ds : List Nat) : tenTo ds 0 = (tens ds).1 := by simp [tenTo]
theorem tenTo_get {ds : List Nat} {k : Nat} (h : k < ds.length) : (tenTo ds (k + 1))[k]?.getD 0 = ds[k]?.getD 0 := by
  unfold tenTo
  rw [List.getElem?_append_left (by rw [List.length_take]; omega), List.getElem?_take_of_lt (by omega)]
theorem tens_drop {ds : List Nat} {k : Nat} (h : k < ds.length) : tens (ds.drop k) = (((tens (ds.drop (k + 1))).2 * B32 + ds[k]?.getD 0) / 10 :: (tens (ds.drop (k + 1))).1, ((tens (ds.drop (k + 1))).2 * B32 + ds[k]?.getD 0) % 10) := by
  rw [List.drop_eq_getElem_cons h, tens, List.getElem?_eq_getElem h]
  rfl
theorem tenTo_set {ds : List Nat} {k : Nat} (h : k < ds.length) : (tenTo ds (k + 1)).set k (((tens (ds.drop (k + 1))).2 * B32 + ds[k]?.getD 0) / 10) = tenTo ds k := by
  unfold tenTo
  have hl : (ds.take (k + 1)).length = k + 1 := by rw [List.length_take]; omega
  rw [List.set_append_left _ _ (by omega), tens_drop h]
  rw [List.take_add_one, List.getElem?_eq_getElem h]
  have hk : (ds.take k).length = k := by rw [List.length_take]; omega
  rw [Option.toList_some, List.set_append_right _ _ (by omega), hk, Nat.sub_self, List.set_cons_zero, List.append_assoc]
  rfl
theorem tens_zero (ds : List Nat) : val (tens ds).1 = val ds / 10 ∧ (tens ds).2 = val ds % 10 := by
  have h1 := tens_val ds
  have h2 := tens_rest ds
  omega
theorem tenTo_digits {ds : List Nat} (h : Digits ds) : Digits (tenTo ds 0) := by rw [tenTo_zero]; exact tens_digits h

end Go.Proofs.YtdaipflgcgefgaaGreatDoor
