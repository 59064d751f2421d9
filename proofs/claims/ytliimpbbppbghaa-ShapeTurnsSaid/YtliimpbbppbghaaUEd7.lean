import Derived.Test.YtliimpbbppbghaaUEd2
import Derived.OrdersIn
import Derived.BigQuiet
import Derived.BigFrame
import Derived.IntWalk
import Derived.Outline
import Derived.Lib.Hide
import Derived.Lib.Builder
import Derived.Lib.Walk
import Derived.WalkKit
import Derived.OwnWalk
import Derived.Deep.DeepMust
import Derived.Deep.WholeRow
import Derived.Deep.MidRow
import Derived.Laws.BitsLemmas
import Derived.Laws.Rows
import Derived.Shelf.Abstract
import Derived.Laws.CopyOwn
import Derived.Laws.ResultCell
set_option linter.all false
namespace Go.Proofs.Ytliimpbbppbghaa.Sx
open Go Go.RowKit Go.Shelf
theorem mod_eq {n m : Int} (hm : 0 < m) : (n.tmod m + m).tmod m = n % m := by
  have h1 := Int.tmod_lt_of_pos n hm
  have h2 := Int.tmod_lt_of_pos (-n) hm
  rw [Int.neg_tmod] at h2
  rw [Int.tmod_eq_emod_of_nonneg (by omega), Int.add_emod_right]
  have h4 : m * n.tdiv m + n.tmod m = n := Int.mul_tdiv_add_tmod n m
  have h5 : (n.tmod m + m * n.tdiv m) % m = n.tmod m % m := Int.add_mul_emod_self_left _ _ _
  rw [← h5]
  congr 1
  omega
set_option maxRecDepth 100000 in
theorem mod_c (n m : Int) (w : World) (hm : 0 < m) (hm' : m ≤ 1099511627776) : Calls Try.prog 52 #[.int .i64 n, .int .i64 m] w fun e w' => e = .returned (.int .i64 (n % m)) ∧ w' = w := by
  have h1 := Int.tmod_lt_of_pos n hm
  have h2 := Int.tmod_lt_of_pos (-n) hm
  rw [Int.neg_tmod] at h2
  have hz : (m == 0) = false := by simp; omega
  have hz' : ¬ m = 0 := by omega
  have w1 : wrap64 (n.tmod m) = n.tmod m := by unfold wrap64; omega
  have w2 : wrap64 (n.tmod m + m) = n.tmod m + m := by unfold wrap64; omega
  have h6 := mod_eq (n := n) hm
  have h7 := Int.emod_nonneg n (show m ≠ 0 by omega)
  have h8 := Int.emod_lt_of_pos n hm
  have w3 : wrap64 ((n.tmod m + m).tmod m) = (n.tmod m + m).tmod m := by rw [h6]; unfold wrap64; omega
  have H6 := Lib.hid h6
  clear h6 h7 h8 h1 h2 hm hm'
  go_enter Try.func52, Try.ntmps52
  go_wp2
  go_ret
  exact ⟨by show Ending.returned (.int .i64 ((n.tmod m + m).tmod m)) = _; rw [H6.out], rfl⟩
abbrev TD : TypeId := 63
structure Upd (g : Nat) (cs : Array Value) (t : TypeId) (w w' : World) : Prop where
  os : w'.os = w.os
  tape : w'.tape = w.tape
  output : w'.output = w.output
  size : w'.heap.size = w.heap.size
  row : w'.heap[g]? = some (.cells cs t (0, 0))
  other : ∀ k, k ≠ g → w'.heap[k]? = w.heap[k]?
set_option maxRecDepth 100000 in
set_option maxHeartbeats 4000000 in
theorem next_hi (v : Value) (p : Option Addr) (m cap g : Nat) (n : Int) (w : World) (hv : v = .slice p m cap) (hg : w.heap[g]? = some (.cells #[v, .int .i64 m] TD (0, 0))) :
    Calls Try.prog 26 #[.pointer (some ⟨g, 0, none⟩), .int .i64 n] w fun e w' => e = .returned (.int .i64 0) ∧ Upd g #[v, .int .i64 m] TD w w' := by
  subst hv
  have c0 : w.cell? ⟨g, 0, none⟩ = some (.slice p m cap) := by simp [World.cell?, hg]
  have c1 : w.cell? ⟨g, 1, none⟩ = some (.int .i64 m) := by simp [World.cell?, hg]
  have H := Lib.hid hg
  clear hg
  go_enter Try.func26, Try.ntmps26
  go_wp2
  go_quiet (fail)
  go_wp2
  go_ret
  exact ⟨rfl, rfl, rfl, rfl, rfl, H.out, fun _ _ => rfl⟩
set_option maxRecDepth 100000 in
set_option maxHeartbeats 4000000 in
theorem next_lo (p : Addr) (k m cap g : Nat) (n x : Int) (w : World) (hk : k < m) (hm2 : m < 9223372036854775808) (hn : 0 < n) (hn' : n ≤ 1099511627776) (hx : w.cell? (p.add k) = some (.int .i64 x)) (hpg : p.block ≠ g)
    (hg : w.heap[g]? = some (.cells #[.slice (some p) m cap, .int .i64 k] TD (0, 0))) :
    Calls Try.prog 26 #[.pointer (some ⟨g, 0, none⟩), .int .i64 n] w fun e w' => e = .returned (.int .i64 (x % n)) ∧ Upd g #[.slice (some p) m cap, .int .i64 (k + 1)] TD w w' := by
  have c0 : w.cell? ⟨g, 0, none⟩ = some (.slice (some p) m cap) := by simp [World.cell?, hg]
  have c1 : w.cell? ⟨g, 1, none⟩ = some (.int .i64 k) := by simp [World.cell?, hg]
  have f1 : w.frozen? ⟨g, 1, none⟩ = false := Lib.frozen_of_heap hg 1
  have hw1 : wrap64 ((k : Int) + 1) = k + 1 := by unfold wrap64; omega
  have hle : ((m : Int) ≤ k) = False := by simp; omega
  have H := Lib.hid hg
  clear hg
  go_enter Try.func26, Try.ntmps26
  go_wp2
  go_quiet (fail)
  go_wp2
  generalize hw2 : (w.drewN nq).setCell ⟨g, 1, none⟩ (.int .i64 ((k : Int) + 1)) = w2
  have hrow : w2.heap[g]? = some (.cells #[.slice (some p) m cap, .int .i64 (k + 1)] TD (0, 0)) := by
    have := H.out
    subst hw2
    simp [World.setCell, Array.getElem?_modify, World.drewN, this]
  have hoth : ∀ j, j ≠ g → w2.heap[j]? = w.heap[j]? := fun j hj => by
    subst hw2
    simp [World.setCell, Array.getElem?_modify, World.drewN, Ne.symm hj]
  have hos : w2.os = w.os ∧ w2.tape = w.tape ∧ w2.output = w.output ∧ w2.heap.size = w.heap.size := by
    subst hw2
    simp [World.setCell, World.drewN]
  have d0 : w2.cell? ⟨g, 0, none⟩ = some (.slice (some p) m cap) := by simp [World.cell?, hrow]
  have d1 : w2.cell? ⟨g, 1, none⟩ = some (.int .i64 ((k : Int) + 1)) := by simp [World.cell?, hrow]
  have d2 : w2.cell? (p.add k) = some (.int .i64 x) := by
    rw [← hx]
    exact World.cell?_of_block (a := p.add k) (hoth _ (by rw [show (p.add k).block = p.block by unfold Addr.add; split <;> rfl]; exact hpg))
  clear hw2 c0 c1 f1 hx
  have hlt : (k : Int) < (m : Int) := by omega
  have hk1 : (k : Int) + 1 - 1 = k := by omega
  have hk2 : wrap64 (k : Int) = k := by unfold wrap64; omega
  have HR := Lib.hid (And.intro hrow (And.intro hoth hos))
  clear hrow hoth hos hw1
  go_quiet ((go_at_call 52; refine Calls.quiet_of_same (mod_c _ _ _ hn hn')))
  go_wp2
  go_ret
  exact ⟨rfl, HR.out.2.2.1, HR.out.2.2.2.1, HR.out.2.2.2.2.1, HR.out.2.2.2.2.2, HR.out.1, HR.out.2.1⟩
def I64s (B : Nat) (w : World) (v : Value) (zs : List Int) : Prop :=
  ∃ (p : Option Addr) (cap : Nat), v = .slice p zs.length cap ∧ zs.length ≤ maxLen ∧ (0 < zs.length → ∃ b off, p = some ⟨b, off, none⟩ ∧ b < B ∧ ∀ j, j < zs.length → w.cell? ⟨b, off + j, none⟩ = some (.int .i64 (zs[j]?.getD 0)))
def drawV (zs : List Int) (k : Nat) (n : Int) : Int := if k < zs.length then (zs[k]?.getD 0) % n else 0
def drawA (zs : List Int) (k : Nat) : Nat := min k zs.length
theorem drawV_in (zs : List Int) (k : Nat) {n : Int} (hn : 0 < n) : 0 ≤ drawV zs k n ∧ drawV zs k n < n := by
  unfold drawV
  split
  · exact ⟨Int.emod_nonneg _ (by omega), Int.emod_lt_of_pos _ hn⟩
  · omega
theorem next_c (p : Option Addr) (zs : List Int) (k cap g : Nat) (n : Int) (w : World) (hl : zs.length ≤ maxLen) (hn : 0 < n) (hn' : n ≤ 1099511627776)
    (hc : 0 < zs.length → ∃ b off, p = some ⟨b, off, none⟩ ∧ b ≠ g ∧ ∀ j, j < zs.length → w.cell? ⟨b, off + j, none⟩ = some (.int .i64 (zs[j]?.getD 0)))
    (hg : w.heap[g]? = some (.cells #[.slice p zs.length cap, .int .i64 (drawA zs k)] TD (0, 0))) :
    Calls Try.prog 26 #[.pointer (some ⟨g, 0, none⟩), .int .i64 n] w fun e w' => e = .returned (.int .i64 (drawV zs k n)) ∧ Upd g #[.slice p zs.length cap, .int .i64 (drawA zs (k + 1))] TD w w' := by
  by_cases hk : k < zs.length
  · obtain ⟨b, off, rfl, hb, hx⟩ := hc (by omega)
    have e1 : drawA zs k = k := by unfold drawA; omega
    have e2 : drawA zs (k + 1) = k + 1 := by unfold drawA; omega
    have e3 : drawV zs k n = (zs[k]?.getD 0) % n := by unfold drawV; rw [if_pos hk]
    have hm : zs.length < 9223372036854775808 := by have : maxLen < 9223372036854775808 := by decide
                                                    omega
    rw [e1] at hg
    rw [e2, e3]
    have := next_lo ⟨b, off, none⟩ k zs.length cap g n (zs[k]?.getD 0) w hk hm hn hn' (by have := hx k hk; unfold Addr.add; split <;> simp_all) hb hg
    simpa using this
  · have e1 : drawA zs k = zs.length := by unfold drawA; omega
    have e2 : drawA zs (k + 1) = zs.length := by unfold drawA; omega
    have e3 : drawV zs k n = 0 := by unfold drawV; rw [if_neg hk]
    rw [e1] at hg
    rw [e2, e3]
    exact next_hi _ p zs.length cap g n w rfl hg
end Go.Proofs.Ytliimpbbppbghaa.Sx

