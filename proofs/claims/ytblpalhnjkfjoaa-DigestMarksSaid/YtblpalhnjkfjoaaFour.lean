/- digest: the four bytes of a number, in the program and in the reference. -/
import Derived.Test.YtblpalhnjkfjoaaMath
import Derived.Test.YtblpalhnjkfjoaaProg
import Derived.BigQuiet
import Derived.IntWalk
import Derived.Outline
import Derived.Lib.Hide
import Derived.Lib.Walk
import Derived.Lib.Strings
import Derived.WalkKit
import Derived.OwnWalk
import Derived.Deep.DeepMust
import Derived.Laws.IdiomStrings
import Derived.Lib.BufferWrite
set_option linter.all false
namespace Go.Proofs.Ytblpalhnjkfjoaa
open Go Go.RowKit

theorem bytes_append (l m : Bs) : (⟨l.toArray⟩ : ByteArray) ++ (⟨m.toArray⟩ : ByteArray) = ⟨(l ++ m).toArray⟩ := by
  apply ByteArray.ext
  simp
theorem bytes_size (l : Bs) : (⟨l.toArray⟩ : ByteArray).size = l.length := by simp [ByteArray.size]
theorem bytes_inj {l m : Bs} (h : (⟨l.toArray⟩ : ByteArray) = ⟨m.toArray⟩) : l = m := by
  have := congrArg (fun b : ByteArray => b.data.toList) h
  simpa using this
/-- Nothing that was there has changed. -/
def Ext (w w' : World) : Prop := Below w.heap.size w w'
theorem Ext.refl (w : World) : Ext w w := Below.refl _ w
theorem Ext.trans {a b c : World} (h : Ext a b) (k : Ext b c) : Ext a c := Below.trans h (Below.mono k (Below.size h))
theorem Ext.alloc (w : World) (o : Obj) : Ext w (w.alloc o) := (Below.refl _ w).alloc (Nat.le_refl _) o
theorem Ext.drew (w : World) : Ext w w.drew := (Below.refl _ w).drew
theorem Ext.drewN (w : World) (k : Nat) : Ext w (w.drewN k) := ⟨rfl, rfl, rfl, Nat.le_refl _, fun _ _ => rfl⟩

theorem addr0 (b j : Nat) : Addr.add ⟨b, 0, none⟩ j = ⟨b, j, none⟩ := by
  simp [Addr.add]
  intro h; exact h.symm
/-- The four bytes of a number, as the walk says them. -/
theorem b4_cell (n : Nat) (hn : n < 4294967296) : ∀ j (hj : j < (b4 n).length), (#[Value.int .u8 ((n : Int) / 16777216), Value.int .u8 ((n : Int) / 65536 % 256), Value.int .u8 ((n : Int) / 256 % 256), Value.int .u8 ((n : Int) % 256)] : Array Value)[j]? = some (.int .u8 ((b4 n)[j].toNat : Int)) := by
  intro j hj
  have hj4 : j < 4 := hj
  match j, hj4 with
  | 0, _ => show some _ = some (Value.int .u8 (((UInt8.ofNat (n / 16777216)).toNat : Nat) : Int)); rw [u8_toNat]; simp; omega
  | 1, _ => show some _ = some (Value.int .u8 (((UInt8.ofNat (n / 65536)).toNat : Nat) : Int)); rw [u8_toNat]; simp
  | 2, _ => show some _ = some (Value.int .u8 (((UInt8.ofNat (n / 256)).toNat : Nat) : Int)); rw [u8_toNat]; simp
  | 3, _ => show some _ = some (Value.int .u8 (((UInt8.ofNat n).toNat : Nat) : Int)); rw [u8_toNat]; simp

set_option maxRecDepth 100000 in
set_option maxHeartbeats 1000000 in
theorem four_calls (n : Nat) (hn : n < 4294967296) (w : World) :
    Calls Try.prog 24 #[.int .u32 (n : Int)] w fun e w' => e = .returned (.string ⟨(b4 n).toArray⟩) ∧ Ext w w' := by
  have hcell := b4_cell n hn
  have Hcell := Lib.hid hcell
  clear hcell
  go_enter Try.func24, Try.ntmps24
  go_wp2_with fail
  obtain ⟨O, hO⟩ : ∃ O, O = Obj.cells #[Value.int .u8 ((n : Int) / 16777216), Value.int .u8 ((n : Int) / 65536 % 256), Value.int .u8 ((n : Int) / 256 % 256), Value.int .u8 ((n : Int) % 256)] 5 := ⟨_, rfl⟩
  have hcv := run_convert_bytes_back (P := Try.prog) (w.alloc O) 29 9 5 ⟨w.heap.size, 0, none⟩ 4 (b4 n) Try.underlying29 Try.underlying5 Try.underlying9 (fun j hj => by
    rw [addr0, hO, World.cell?_alloc_mark]
    exact Hcell.out j hj)
  rw [show (b4 n).length = 4 from rfl] at hcv
  rw [hO] at hcv
  rw [hcv]
  simp only [Result.andThen]
  rw [Oper.upon_value]
  go_wp2
  go_ret
  exact ⟨rfl, Ext.alloc _ _⟩

set_option maxRecDepth 100000 in
set_option maxHeartbeats 1000000 in
theorem bytes4_calls (n : Nat) (hn : n < 4294967296) (w : World) :
    Calls Try.prog 21 #[.int .i64 (n : Int)] w fun e w' => e = .returned (.string ⟨(b4 n).toArray⟩) ∧ Ext w w' := by
  have hcell := b4_cell n hn
  have Hcell := Lib.hid hcell
  clear hcell
  go_enter Try.func21, Try.ntmps21
  go_wp2_with fail
  obtain ⟨O, hO⟩ : ∃ O, O = Obj.cells #[Value.int .u8 ((n : Int) / 16777216), Value.int .u8 ((n : Int) / 65536 % 256), Value.int .u8 ((n : Int) / 256 % 256), Value.int .u8 ((n : Int) % 256)] 5 := ⟨_, rfl⟩
  have hcv := run_convert_bytes_back (P := Try.prog) (w.alloc O) 29 9 5 ⟨w.heap.size, 0, none⟩ 4 (b4 n) Try.underlying29 Try.underlying5 Try.underlying9 (fun j hj => by
    rw [addr0, hO, World.cell?_alloc_mark]
    exact Hcell.out j hj)
  rw [show (b4 n).length = 4 from rfl] at hcv
  rw [hO] at hcv
  rw [hcv]
  simp only [Result.andThen]
  rw [Oper.upon_value]
  go_wp2
  go_ret
  exact ⟨rfl, Ext.alloc _ _⟩

end Go.Proofs.Ytblpalhnjkfjoaa
