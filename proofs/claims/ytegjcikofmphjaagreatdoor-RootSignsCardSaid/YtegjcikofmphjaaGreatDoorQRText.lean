/- Texts that belong together. -/
import Derived.Test.YtegjcikofmphjaaGreatDoorQRGcd
import Derived.Test.YtegjcikofmphjaaGreatDoorQNum28
import Derived.Test.YtegjcikofmphjaaGreatDoorQRef8
import Derived.Laws.IdiomStrings
set_option linter.all false
/- The reference of layer 1: Text of right numbers. -/
namespace Go.Proofs.YtegjcikofmphjaaGreatDoor
open Go Go.RowKit Go.Shelf
theorem lim_ten (k : Nat) : B32 ^ k ≤ 10 ^ (10 * k) := by
  have h1 : B32 ≤ 10 ^ 10 := by decide
  rw [Nat.pow_mul]
  exact Nat.pow_le_pow_left h1 k
theorem dec_lenN {V : Nat} (h : V < B32 ^ 64) : (Lib.decDigits V).length ≤ 640 := by
  rw [Lib.decDigits_length]
  have := (pad_dec (10 * 64) (by decide) (Nat.lt_of_lt_of_le h (lim_ten 64))).2
  omega
def Tail (V0 V : Nat) (L : List UInt8) : Prop := (V = 0 → L = Lib.decDigits V0) ∧ (0 < V → Lib.decDigits V ++ L = Lib.decDigits V0)
theorem Tail.len {V0 V : Nat} {L : List UInt8} (h : Tail V0 V L) (hV : V0 < B32 ^ 64) : L.length ≤ 640 := by
  have h0 := dec_lenN hV
  rcases Nat.eq_zero_or_pos V with e | e
  · rw [h.1 e]; exact h0
  · rw [← h.2 e, List.length_append] at h0; omega
theorem Tail.step {V0 V : Nat} {L : List UInt8} (h : Tail V0 V L) (hV : 0 < V) : Tail V0 (V / 10) ([UInt8.ofNat (48 + V % 10)] ++ L) := by
  have h2 := h.2 hV
  constructor
  · intro e
    rw [← h2, Lib.decDigits_one (by omega : V < 10), show V % 10 = V by omega]
  · intro e
    rw [← List.append_assoc, ← dec_step (by omega : 10 ≤ V)]
    exact h2
end Go.Proofs.YtegjcikofmphjaaGreatDoor

