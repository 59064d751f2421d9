/- Layer 1: shifted; the first guess of takeOut is great enough. -/
import Derived.Test.YtcmpgboifcemmaaDoorNum15
import Derived.Test.YtcmpgboifcemmaaDoorNumMath2
set_option linter.all false
namespace Go.Proofs.YtcmpgboifcemmaaDoor
open Go Go.RowKit Go.Shelf

section
variable (by_ : Nat) (xs : List Nat)
def shCarry : Nat → Nat
  | 0 => 0
  | k + 1 => xs[k]?.getD 0 / 2 ^ (32 - by_)
def shDigit (k : Nat) : Nat := xs[k]?.getD 0 * 2 ^ by_ % B32 + shCarry by_ xs k
def shTo : Nat → List Nat
  | 0 => List.replicate 65 0
  | k + 1 => (shTo k).set k (shDigit by_ xs k)
def shRow : List Nat := (shTo by_ xs xs.length).set xs.length (shCarry by_ xs xs.length)
end
theorem shTo_length (b : Nat) (xs : List Nat) (k : Nat) : (shTo b xs k).length = 65 := by
  induction k with
  | zero => simp [shTo]
  | succ k ih => simp [shTo, ih]
theorem shRow_length (b : Nat) (xs : List Nat) : (shRow b xs).length = 65 := by simp [shRow, shTo_length]
theorem pow_split {b : Nat} (hb : b ≤ 31) : 2 ^ b * 2 ^ (32 - b) = B32 := by
  rw [← Nat.pow_add, show b + (32 - b) = 32 by omega]; rfl
theorem shCarry_lt {b : Nat} (hb : b ≤ 31) {xs : List Nat} (hx : Digits xs) (k : Nat) : shCarry b xs k < 2 ^ b := by
  cases k with
  | zero => exact Nat.two_pow_pos _
  | succ k =>
    show _ / _ < _
    rw [Nat.div_lt_iff_lt_mul (Nat.two_pow_pos _), pow_split hb]
    exact hx.getD k
theorem sh_step {b : Nat} (hb : b ≤ 31) (x : Nat) : x * 2 ^ b % B32 + B32 * (x / 2 ^ (32 - b)) = x * 2 ^ b := by
  have h := pow_split hb
  have e : x / 2 ^ (32 - b) = x * 2 ^ b / B32 := by
    rw [← h, Nat.mul_comm (2 ^ b), Nat.mul_div_mul_right _ _ (Nat.two_pow_pos _)]
  rw [e, Nat.mod_add_div]
theorem shDigit_lt {b : Nat} (hb : b ≤ 31) {xs : List Nat} (hx : Digits xs) (k : Nat) : shDigit b xs k < B32 := by
  have h1 := shCarry_lt hb hx k
  have h2 : xs[k]?.getD 0 * 2 ^ b % B32 % 2 ^ b = 0 := by
    rw [← pow_split hb, Nat.mod_mul_right_mod, Nat.mul_mod_left]
  have h3 := Nat.mod_lt (xs[k]?.getD 0 * 2 ^ b) B32_pos
  unfold shDigit
  have h4 : xs[k]?.getD 0 * 2 ^ b % B32 = 2 ^ b * (xs[k]?.getD 0 * 2 ^ b % B32 / 2 ^ b) := by
    have := Nat.mod_add_div (xs[k]?.getD 0 * 2 ^ b % B32) (2 ^ b)
    omega
  rw [h4] at h3 ⊢
  generalize xs[k]?.getD 0 * 2 ^ b % B32 / 2 ^ b = z at *
  rw [← pow_split hb] at h3 ⊢
  have h5 : z < 2 ^ (32 - b) := Nat.lt_of_mul_lt_mul_left h3
  calc 2 ^ b * z + shCarry b xs k < 2 ^ b * z + 2 ^ b := by omega
    _ = 2 ^ b * (z + 1) := by rw [Nat.mul_add, Nat.mul_one]
    _ ≤ 2 ^ b * 2 ^ (32 - b) := Nat.mul_le_mul_left _ h5
theorem sh_inv {b : Nat} (hb : b ≤ 31) (xs : List Nat) (k : Nat) (hk : k ≤ 64) : val ((shTo b xs k).take k) + B32 ^ k * shCarry b xs k = val (xs.take k) * 2 ^ b := by
  induction k with
  | zero => simp [val, shCarry]
  | succ k ih =>
    have ih := ih (by omega)
    have e : (shTo b xs (k + 1)).take (k + 1) = (shTo b xs k).take k ++ [shDigit b xs k] := take_set_succ (by rw [shTo_length]; omega)
    rw [e, val_snoc, val_take_succ, List.length_take, shTo_length, show min k 65 = k by omega]
    have hs := congrArg (B32 ^ k * ·) (sh_step hb (xs[k]?.getD 0))
    simp only [Nat.mul_add] at hs
    show _ + B32 ^ k * (_ + shCarry b xs k) + B32 ^ (k + 1) * (xs[k]?.getD 0 / 2 ^ (32 - b)) = _
    rw [Nat.mul_add, Nat.add_mul, Nat.pow_succ, Nat.mul_assoc (B32 ^ k) B32, Nat.mul_assoc (B32 ^ k) (xs[k]?.getD 0)]
    omega
theorem shTo_zero (b : Nat) (xs : List Nat) (k j : Nat) (h : k ≤ j) : (shTo b xs k)[j]?.getD 0 = 0 := by
  induction k with
  | zero => show (List.replicate 65 0)[j]?.getD 0 = 0; rw [List.getElem?_replicate]; split <;> rfl
  | succ k ih =>
    show ((shTo b xs k).set k _)[j]?.getD 0 = 0
    rw [List.getElem?_set_ne (by omega)]
    exact ih (by omega)
theorem shRow_zero (b : Nat) (xs : List Nat) (j : Nat) (h : xs.length < j) : (shRow b xs)[j]?.getD 0 = 0 := by
  unfold shRow
  rw [List.getElem?_set_ne (by omega)]
  exact shTo_zero _ _ _ _ (by omega)
theorem shRow_val {b : Nat} (hb : b ≤ 31) (xs : List Nat) (h : xs.length ≤ 64) : val (shRow b xs) = val xs * 2 ^ b := by
  have h1 := sh_inv hb xs xs.length h
  rw [val_take_all (Nat.le_refl _)] at h1
  have h2 := val_set (shCarry b xs xs.length) (l := shTo b xs xs.length) (j := xs.length) (by rw [shTo_length]; omega)
  rw [shTo_zero _ _ _ _ (Nat.le_refl _), Nat.mul_zero, Nat.add_zero] at h2
  rw [val_take_of_zero (ds := shTo b xs xs.length) (fun j hj => shTo_zero _ _ _ _ hj)] at h1
  unfold shRow
  omega
theorem shRow_digits {b : Nat} (hb : b ≤ 31) {xs : List Nat} (hx : Digits xs) : Digits (shRow b xs) := by
  refine Digits.set ?_ _ (Nat.lt_of_lt_of_le (shCarry_lt hb hx _) ?_)
  · have : ∀ k, Digits (shTo b xs k) := fun k => by
      induction k with
      | zero => exact digits_replicate _
      | succ k ih => exact ih.set _ (shDigit_lt hb hx k)
    exact this _
  · exact Nat.pow_le_pow_right (n := 2) (by decide) (by omega : b ≤ 32)

/-- How the walk spells a digit that is moved. -/
theorem sh_or {b : Nat} (hb : b ≤ 31) (x c : Nat) (hx : x < B32) (hc : c < 2 ^ b) :
    bits .or .u32 ((x : Int) * 2 ^ b % 4294967296) (c : Int) = ((x * 2 ^ b % B32 + c : Nat) : Int) := by
  have e1 : (x : Int) * 2 ^ b % 4294967296 = ((x * 2 ^ b % B32 : Nat) : Int) := by
    unfold B32
    rw [show (2 : Int) ^ b = ((2 ^ b : Nat) : Int) by simp, ← Int.natCast_mul]
    omega
  rw [e1]
  have h3 := Nat.mod_lt (x * 2 ^ b) B32_pos
  have h2 : x * 2 ^ b % B32 % 2 ^ b = 0 := by
    rw [← pow_split hb, Nat.mod_mul_right_mod, Nat.mul_mod_left]
  have hcB : c < B32 := Nat.lt_of_lt_of_le hc (Nat.pow_le_pow_right (n := 2) (by decide) (by omega : b ≤ 32))
  rw [bits_join .u32 32 (by decide) u32_keep b _ _ (by omega) (by exact_mod_cast h2) (by exact_mod_cast h3) (by omega) (by exact_mod_cast hc) (by exact_mod_cast hcB)]
  omega
theorem sh_shr (b : Nat) (x : Nat) : (x : Int) / 2 ^ (32 - b) = ((x / 2 ^ (32 - b) : Nat) : Int) := by
  rw [show (2 : Int) ^ (32 - b) = ((2 ^ (32 - b) : Nat) : Int) by simp]
  exact (Int.natCast_ediv _ _).symm

set_option maxRecDepth 100000 in
set_option maxHeartbeats 2000000 in
theorem shifted_calls (v : Value) (b : Nat) (hb : b ≤ 31) (xs : List Nat) (w : World) (hx : U32s w.heap.size w v xs) (hdx : Digits xs) (h64 : xs.length ≤ 64) :
    Calls Tryd.prog 49 #[v, .int .i64 b] w fun e w' => e = .returned (.agg (arr (shRow b xs))) ∧ Below w.heap.size w w' := by
  obtain ⟨p, cap, rfl, hl, hc⟩ := hx
  have Hc := Lib.hid hc
  obtain ⟨n, hn⟩ : ∃ n, n = xs.length := ⟨_, rfl⟩
  rw [← hn] at h64
  have Hn := Lib.hid hn
  rw [← hn]
  clear hc hl hn
  go_enter Tryd.func49, Tryd.ntmps49
  go_wp2
  go_loopw [6, 11] (fun c i wr => ∃ k : Nat, k ≤ n ∧ i = .int .i64 k ∧ c = .int .u32 (shCarry b xs k : Nat) ∧ RowAt wr w.heap.size 52 Tryd.zeroCells52 ∧ RowAt wr (w.heap.size + 1) 52 (arr (shTo b xs k)) ∧ Below w.heap.size w wr)
    (fun _ i _ => n - (intOf i).toNat)
  case atStart => exact ⟨0, Nat.zero_le _, rfl, rfl, (RowAt.new w _ _).alloc _, by rw [shTo, ← zero_row]; exact RowAt.new' _ _ (by simp), ((Below.refl _ w).alloc (Nat.le_refl _) _).alloc (by simp) _⟩
  case round =>
    obtain ⟨k, hk, rfl, rfl, hr4, hr5, hB⟩ := hrel
    have hsl := shTo_length b xs k
    by_cases hlt : k < n
    · obtain ⟨bb, off, rfl, hbB, hcs⟩ := Hc.out (by rw [← Hn.out]; exact Nat.lt_of_le_of_lt (Nat.zero_le _) hlt)
      have hcx := (hB.cell (p := ⟨bb, off + k, none⟩) hbB).trans (hcs k (by rw [← Hn.out]; exact hlt))
      have hcr := (hr5.cell k).trans (arr_get _ k (by rw [hsl]; omega))
      have hfr := hr5.frozen k
      have hk65 : (k : Int) < 65 := by omega
      have Ho := Lib.hid (sh_or hb (xs[k]?.getD 0) (shCarry b xs k) (hdx.getD k) (shCarry_lt hb hdx k))
      have Hs := Lib.hid (sh_shr b (xs[k]?.getD 0))
      have Hs1 : Hid (shCarry b xs (k + 1) = xs[k]?.getD 0 / 2 ^ (32 - b)) := rfl
      have Hs2 : Hid (shTo b xs (k + 1) = (shTo b xs k).set k (xs[k]?.getD 0 * 2 ^ b % B32 + shCarry b xs k)) := rfl
      have Hr4 := Lib.hid hr4
      have Hr5 := Lib.hid hr5
      generalize xs[k]?.getD 0 = x at *
      generalize shCarry b xs k = c at *
      generalize shTo b xs k = row at *
      clear hcs hsl hr4 hr5
      go_wp2
      go_roundw
      case rel =>
        rw [Ho.out, Hs.out]
        exact ⟨k + 1, by omega, by rw [Int.natCast_add]; rfl, by rw [Hs1.out], Hr4.out.setOther _ _ (by simp), by rw [Hs2.out, ← arr_set]; exact Hr5.out.set k _, hB.setCell (p := ⟨w.heap.size + 1, k, none⟩) (Nat.le_succ _) _⟩
      case measure => show n - ((k : Int) + 1).toNat < n - ((k : Int)).toNat; omega
    · obtain rfl : k = n := by omega
      have hcb : shRow b xs = (shTo b xs k).set k (shCarry b xs k) := by unfold shRow; rw [← Hn.out]
      have hcl := shRow_length b xs
      have hc7 := (hr5.cell k).trans (arr_get _ k (by rw [hsl]; omega))
      have hf7 := hr5.frozen k
      have hk65 : (k : Int) < 65 := by omega
      have Hrow := Lib.hid (show RowAt (wr.setCell ⟨w.heap.size + 1, k, none⟩ (.int .u32 (shCarry b xs k : Nat))) (w.heap.size + 1) 52 (arr (shRow b xs)) by rw [hcb, ← arr_set]; exact hr5.set k _)
      have Hr6 := Lib.hid (hr4.setOther ⟨w.heap.size + 1, k, none⟩ (.int .u32 (shCarry b xs k : Nat)) (by simp))
      have Hcl := Lib.hid hcl
      generalize shCarry b xs k = c at *
      generalize shTo b xs k = row at *
      generalize hres : shRow b xs = res at *
      have Hres := Lib.hid hres
      clear hres hsl hcb hcl hr4 hr5
      go_wp2_with (first
        | (refine load_row rfl (.tmp 5) rfl (w.heap.size + 1) rfl res Hcl.out 52 Hrow.out ?_)
        | (refine store_row rfl (.tmp 4) (.tmp 32) rfl w.heap.size rfl res Hcl.out rfl 52 Tryd.zeroCells52 Hr6.out (by kernel_rfl) ?_))
      refine ret_row rfl w.heap.size rfl res Hcl.out 52 (Hr6.out.setRow _) ⟨by rw [Hres.out], below_setRow2 (hB.setCell (p := ⟨w.heap.size + 1, k, none⟩) (Nat.le_succ _) _) (Nat.le_refl _) _⟩

end Go.Proofs.YtcmpgboifcemmaaDoor
