/- Layer 1: Right, split, the two closures of sums. -/
import Derived.Test.YtcmpgboifcemmaaDoorRow
set_option linter.all false
namespace Go.Proofs.YtcmpgboifcemmaaDoor
open Go Go.RowKit Go.Shelf

attribute [local go_sem] Oper.semAt_some

def rightB (neg : Bool) (ds : List Nat) : Bool := if ds.length = 0 then !neg else (decide (ds.length ≤ 64) && (ds[ds.length - 1]?.getD 0 != 0))

set_option maxRecDepth 100000 in
set_option maxHeartbeats 2000000 in
theorem right_calls (neg : Bool) (v : Value) (ds : List Nat) (w : World) (hu : U32s w.heap.size w v ds) :
    Calls Tryd.prog 24 #[.agg #[.bool neg, v]] w fun e w' => e = .returned (.bool (rightB neg ds)) ∧ Below w.heap.size w w' := by
  obtain ⟨p, cap, rfl, hl, hc⟩ := hu
  have hlm := digs_lt_maxLen hl
  clear hl
  by_cases h0 : ds.length = 0
  · have hr : rightB neg ds = !neg := by simp [rightB, h0]
    rw [hr, h0]
    clear hr hc hlm h0
    go_enter Tryd.func24, Tryd.ntmps24
    go_wp2
    go_ret
    exact ⟨rfl, (Below.refl _ w).alloc (Nat.le_refl _) _⟩
  · obtain ⟨b, off, rfl, hB, hc⟩ := hc (by omega)
    have hlast := hc (ds.length - 1) (by omega)
    obtain ⟨n, hn⟩ : ∃ n, ds.length = n + 1 := ⟨ds.length - 1, by omega⟩
    rw [hn, Nat.add_sub_cancel] at hlast
    obtain ⟨d, hd⟩ : ∃ d, d = ds[n]?.getD 0 := ⟨_, rfl⟩
    rw [← hd] at hlast
    have hr : rightB neg ds = (decide (n + 1 ≤ 64) && (d != 0)) := by simp [rightB, hn, hd]
    rw [hr, hn]
    clear hr hd hc h0
    rw [hn] at hlm
    clear hn
    by_cases h64 : n + 1 ≤ 64
    · by_cases hz : d = 0
      · subst hz
        go_enter Tryd.func24, Tryd.ntmps24
        go_wp2
        go_ret
        exact ⟨by simp, (Below.refl _ w).alloc (Nat.le_refl _) _⟩
      · have hz2 : ((d : Int) != 0) = true := by simp [hz]
        go_enter Tryd.func24, Tryd.ntmps24
        go_wp2
        go_ret
        exact ⟨by simp [h64, hz], (Below.refl _ w).alloc (Nat.le_refl _) _⟩
    · go_enter Tryd.func24, Tryd.ntmps24
      go_wp2
      go_ret
      exact ⟨by simp [h64], (Below.refl _ w).alloc (Nat.le_refl _) _⟩

/-- The lower digit of a difference, and what is borrowed. -/
def subLo (x y c : Nat) : Nat := (x + B32 - y - c) % B32
def subHi (x y c : Nat) : Nat := if x < y + c then 1 else 0
def addLo (x y c : Nat) : Nat := (x + y + c) % B32
def addHi (x y c : Nat) : Nat := (x + y + c) / B32

set_option maxRecDepth 100000 in
set_option maxHeartbeats 2000000 in
theorem sum1_calls (x y c : Nat) (hx : x < B32) (hy : y < B32) (hc : c ≤ 1) (w : World) :
    Calls Tryd.prog 53 #[.int .u32 x, .int .u32 y, .int .u32 c] w fun e w' => e = .returned (.agg #[.int .u32 (addLo x y c : Nat), .int .u32 (addHi x y c : Nat)]) ∧ Below w.heap.size w w' := by
  have e1 : ((addLo x y c : Nat) : Int) = ((x : Int) + y + c) % 4294967296 := by unfold addLo B32; omega
  have e2 : ((addHi x y c : Nat) : Int) = ((x : Int) + y + c) / 4294967296 := by unfold addHi B32; omega
  rw [e1, e2]
  clear e1 e2
  unfold B32 at *
  go_enter Tryd.func53, Tryd.ntmps53
  go_wp2
  refine bodyPost_ret (v := .agg #[.int .u32 (((x : Int) + y + c) % 4294967296), .int .u32 (((x : Int) + y + c) / 4294967296)]) (by simp [results, Tryd.f53, go_sem]) rfl ⟨rfl, (Below.refl _ w).alloc (Nat.le_refl _) _⟩

theorem sub_wrap (x y c : Nat) (hx : x < B32) (hy : y < B32) (hc : c ≤ 1) :
    IntKind.u64.wrap (IntKind.u64.wrap ((x : Int) - y) - c) % 4294967296 = ((subLo x y c : Nat) : Int) ∧ IntKind.u64.wrap (IntKind.u64.wrap ((x : Int) - y) - c) / 9223372036854775808 % 4294967296 = ((subHi x y c : Nat) : Int) := by
  unfold subLo subHi B32 at *
  rw [IntKind.wrap_u64, IntKind.wrap_u64]
  constructor
  · omega
  · split <;> omega

set_option maxRecDepth 100000 in
set_option maxHeartbeats 2000000 in
theorem difference1_calls (x y c : Nat) (hx : x < B32) (hy : y < B32) (hc : c ≤ 1) (w : World) :
    Calls Tryd.prog 54 #[.int .u32 x, .int .u32 y, .int .u32 c] w fun e w' => e = .returned (.agg #[.int .u32 (subLo x y c : Nat), .int .u32 (subHi x y c : Nat)]) ∧ Below w.heap.size w w' := by
  obtain ⟨e1, e2⟩ := sub_wrap x y c hx hy hc
  rw [← e1, ← e2]
  clear e1 e2
  unfold B32 at *
  go_enter Tryd.func54, Tryd.ntmps54
  go_wp2
  refine bodyPost_ret (v := .agg #[.int .u32 (IntKind.u64.wrap (IntKind.u64.wrap ((x : Int) - y) - c) % 4294967296), .int .u32 (IntKind.u64.wrap (IntKind.u64.wrap ((x : Int) - y) - c) / 9223372036854775808 % 4294967296)]) (by simp [results, Tryd.f54, go_sem]) rfl ⟨rfl, (Below.refl _ w).alloc (Nat.le_refl _) _⟩

/-- The digits of a number below 2^64, in a row. -/
def split2 (n : Nat) : List Nat := n % B32 :: n / B32 :: List.replicate 63 0
theorem split2_length (n : Nat) : (split2 n).length = 65 := by simp [split2]
theorem split2_set (n : Nat) : ((List.replicate 65 0).set 0 (n % B32)).set 1 (n / B32) = split2 n := by
  rfl

set_option maxRecDepth 100000 in
set_option maxHeartbeats 2000000 in
theorem split_calls (n : Nat) (hn : n < 18446744073709551616) (w : World) :
    Calls Tryd.prog 44 #[.int .u64 n] w fun e w' => e = .returned (.agg (arr (split2 n))) ∧ Below w.heap.size w w' := by
  have hy : (Tryd.zeroCells52.setIfInBounds 0 (Value.int .u32 ((n : Int) % 4294967296))).setIfInBounds 1 (Value.int .u32 ((n : Int) / 4294967296)) = arr (split2 n) := by
    rw [zero_row, show ((n : Int) % 4294967296) = ((n % B32 : Nat) : Int) by unfold B32; omega, show ((n : Int) / 4294967296) = ((n / B32 : Nat) : Int) by unfold B32; omega, arr_set, arr_set, split2_set]
  have Hy := Lib.hid hy
  clear hy
  go_enter Tryd.func44, Tryd.ntmps44
  go_wp2_with (refine store_row rfl (.tmp 2) (.tmp 8) rfl w.heap.size rfl (split2 n) (split2_length n) (by rw [← Hy.out]; rfl) 52 Tryd.zeroCells52 (RowAt.new w _ _) (by kernel_rfl) ?_)
  refine bodyPost_ret (results_cell_row rfl _ _ _ _ _ _ _ rfl (RowAt.setRow (RowAt.new w _ _) _) Tryd.underlying52 rfl (by rw [row_info, arr_size, split2_length])) rfl ⟨rfl, below_setRow2 ((Below.refl _ w).alloc (Nat.le_refl _) _) (Nat.le_refl _) _⟩

end Go.Proofs.YtcmpgboifcemmaaDoor
