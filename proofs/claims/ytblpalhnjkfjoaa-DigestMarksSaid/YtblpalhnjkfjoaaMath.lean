/- Digests, as lists of bytes. No program is named. -/
import Derived.Below
set_option linter.all false
namespace Go.Proofs.Ytblpalhnjkfjoaa
open Go

abbrev Bs := List UInt8
def stX (x : Nat) (c : UInt8) : Nat := (48271 * x + c.toNat + 1) % 2147483647
def stY (y : Nat) (c : UInt8) : Nat := (40692 * y + c.toNat + 1) % 2147483629
def hX (s : Bs) : Nat := s.foldl stX 20
def hY (s : Bs) : Nat := s.foldl stY 26
def b4 (n : Nat) : Bs := [UInt8.ofNat (n / 16777216), UInt8.ofNat (n / 65536), UInt8.ofNat (n / 256), UInt8.ofNat n]
def dig (s : Bs) : Bs := b4 (hX s) ++ b4 (hY s)
def chainL (a b : Bs) : Bs := [1] ++ b4 a.length ++ a ++ b
def markL (k m : Bs) : Bs := [2] ++ b4 k.length ++ k ++ m ++ k

theorem stX_lt (x : Nat) (c : UInt8) : stX x c < 2147483647 := Nat.mod_lt _ (by decide)
theorem stY_lt (x : Nat) (c : UInt8) : stY x c < 2147483629 := Nat.mod_lt _ (by decide)
theorem foldX_lt : ∀ (s : Bs) (x : Nat), x < 2147483647 → s.foldl stX x < 2147483647
  | [], _, h => h
  | c :: s, x, _ => foldX_lt s _ (stX_lt x c)
theorem foldY_lt : ∀ (s : Bs) (x : Nat), x < 2147483629 → s.foldl stY x < 2147483629
  | [], _, h => h
  | c :: s, x, _ => foldY_lt s _ (stY_lt x c)
theorem hX_lt (s : Bs) : hX s < 2147483647 := foldX_lt s 20 (by decide)
theorem hY_lt (s : Bs) : hY s < 2147483629 := foldY_lt s 26 (by decide)
theorem b4_length (n : Nat) : (b4 n).length = 4 := rfl
theorem dig_length (s : Bs) : (dig s).length = 8 := rfl

theorem stX_inj {x y : Nat} (c : UInt8) (hx : x < 2147483647) (hy : y < 2147483647) (h : stX x c = stX y c) : x = y := by
  unfold stX at h
  omega
theorem stX_ne (x : Nat) {c d : UInt8} (h : c ≠ d) : stX x c ≠ stX x d := by
  intro e
  unfold stX at e
  have h1 := c.toNat_lt
  have h2 := d.toNat_lt
  have : c.toNat = d.toNat := by omega
  exact h (UInt8.toNat_inj.1 this)
theorem foldX_inj : ∀ (s : Bs) {x y : Nat}, x < 2147483647 → y < 2147483647 → s.foldl stX x = s.foldl stX y → x = y
  | [], _, _, _, _, h => h
  | c :: s, x, y, hx, hy, h => stX_inj c hx hy (foldX_inj s (stX_lt x c) (stX_lt y c) h)
theorem u8_toNat (n : Nat) : (UInt8.ofNat n).toNat = n % 256 := by simp
theorem b4_inj {n m : Nat} (hn : n < 4294967296) (hm : m < 4294967296) (h : b4 n = b4 m) : n = m := by
  unfold b4 at h
  simp only [List.cons.injEq, and_true] at h
  obtain ⟨h1, h2, h3, h4⟩ := h
  have e1 := congrArg UInt8.toNat h1
  have e2 := congrArg UInt8.toNat h2
  have e3 := congrArg UInt8.toNat h3
  have e4 := congrArg UInt8.toNat h4
  rw [u8_toNat, u8_toNat] at e1 e2 e3 e4
  omega
theorem dig_one (a b : Bs) {c d : UInt8} (h : c ≠ d) : dig (a ++ c :: b) ≠ dig (a ++ d :: b) := by
  intro e
  unfold dig at e
  have e1 := (List.append_inj e rfl).1
  have e2 := b4_inj (Nat.lt_trans (hX_lt _) (by decide)) (Nat.lt_trans (hX_lt _) (by decide)) e1
  unfold hX at e2
  rw [List.foldl_append, List.foldl_append, List.foldl_cons, List.foldl_cons] at e2
  exact stX_ne _ h (foldX_inj b (stX_lt _ _) (stX_lt _ _) e2)
theorem chain_one (k a b : Bs) {c d : UInt8} (h : c ≠ d) : dig (chainL k (a ++ c :: b)) ≠ dig (chainL k (a ++ d :: b)) := by
  unfold chainL
  rw [← List.append_assoc, ← List.append_assoc]
  exact dig_one _ _ h
theorem mark_one (k a b : Bs) {c d : UInt8} (h : c ≠ d) : dig (markL k (a ++ c :: b)) ≠ dig (markL k (a ++ d :: b)) := by
  unfold markL
  have e : ∀ c : UInt8, [2] ++ b4 k.length ++ k ++ (a ++ c :: b) ++ k = ([2] ++ b4 k.length ++ k ++ a) ++ c :: (b ++ k) := fun c => by simp
  rw [e, e]
  exact dig_one _ _ h

end Go.Proofs.Ytblpalhnjkfjoaa
