/- Laws for single operations on strings and bytes. -/
import Derived.Test.YtblpalhnjkfjoaaParts
set_option linter.all false
namespace Go.Proofs.Ytblpalhnjkfjoaa
open Go Go.RowKit Go.Shelf

theorem bits_xor_u8 (c e : Nat) (hc : c < 256) (he : e < 256) : bits .xor .u8 (c : Int) (e : Int) = ((c ^^^ e : Nat) : Int) := by
  have hx : c ^^^ e < 2 ^ 8 := Nat.xor_lt_two_pow (by omega) (by omega)
  have h1 : (BitVec.ofInt 8 (c : Int)).toNat = c := by
    rw [BitVec.ofInt_natCast, BitVec.toNat_ofNat]; exact Nat.mod_eq_of_lt (by omega)
  have h2 : (BitVec.ofInt 8 (e : Int)).toNat = e := by
    rw [BitVec.ofInt_natCast, BitVec.toNat_ofNat]; exact Nat.mod_eq_of_lt (by omega)
  show IntKind.u8.wrap ((BitVec.ofInt 8 (c : Int) ^^^ BitVec.ofInt 8 (e : Int)).toNat : Int) = _
  rw [BitVec.toNat_xor, h1, h2]
  simp [IntKind.wrap, IntKind.bits, IntKind.signed]
  omega
theorem extract_drop (s : Bs) (m : Nat) : (⟨s.toArray⟩ : ByteArray).extract m s.length = ⟨(s.drop m).toArray⟩ := by
  apply ByteArray.ext
  simp
  exact List.take_of_length_le (by simp)
theorem info_u8 : (Try.prog.info? 5).map (fun i => (i.zero, i.size, i.bytes)) = some (some (.int .u8 0), 1, 1) := by kernel_rfl

section
variable {o : Oper} {a : Act} {w : World}
theorem run_xor_u8 (x y : Operand) (ho : o.op = .binOp .xor 5 x y 5) (ht : o.type = 5) (c e : Nat) (hc : c < 256) (he : e < 256) (hx : a.eval x = .int .u8 (c : Int)) (hy : a.eval y = .int .u8 (e : Int)) : (execOp a.eval o).run Try.prog w = .ok (.value (.int .u8 ((c ^^^ e : Nat) : Int))) w := by
  unfold execOp
  simp only [ho, hx, hy, ht]
  simp [go_sem, bits_xor_u8 c e hc he]
theorem run_max_u8 (x : Operand) (k : Int) (ts : Array TypeId) (ho : o.op = .call { callee := .builtin .max, args := #[x, .const (.int .u8 k)], argTypes := ts }) (hts : ts = #[5, 5]) (hty : o.type = 5) (u m : Int) (hx : a.eval x = .int .u8 u) (hm : max u k = m) : (execOp a.eval o).run Try.prog w = .ok (.value (.int .u8 m)) w := by
  subst hts
  subst hm
  obtain ⟨dst, op, type, pos, after, guard⟩ := o
  obtain rfl : op = _ := ho
  obtain rfl : type = _ := hty
  have e : Array.map a.eval #[x, .const (.int .u8 k)] = #[.int .u8 u, .int .u8 k] := by simp only [List.map_toArray, List.map_cons, List.map_nil, hx]; rfl
  rw [BigFrame.execOp_builtin, e]
  simp [go_sem]
theorem run_slice_to (x y : Operand) (ho : o.op = .slice 9 x none (some y) none) (s : Bs) (m : Nat) (hx : a.eval x = .string ⟨s.toArray⟩) (hy : a.eval y = .int .i64 (m : Int)) (hm : m ≤ s.length) : (execOp a.eval o).run Try.prog w = .ok (.value (.string ⟨(s.take m).toArray⟩)) w := by
  have hsz := bytes_size s
  have h1 : (m : Int) ≤ (s.length : Int) := by omega
  unfold execOp
  simp only [ho, hx, hy, Option.map_some, Option.map_none]
  simp [go_sem, hsz, h1, extract_take]
theorem run_slice_from (x y : Operand) (ho : o.op = .slice 9 x (some y) none none) (s : Bs) (m : Nat) (hx : a.eval x = .string ⟨s.toArray⟩) (hy : a.eval y = .int .i64 (m : Int)) (hm : m ≤ s.length) : (execOp a.eval o).run Try.prog w = .ok (.value (.string ⟨(s.drop m).toArray⟩)) w := by
  have hsz := bytes_size s
  have h1 : (m : Int) ≤ (s.length : Int) := by omega
  unfold execOp
  simp only [ho, hx, hy, Option.map_some, Option.map_none]
  simp [go_sem, hsz, h1, extract_drop]
theorem run_index_s (x y : Operand) (ho : o.op = .index 9 x y) (s : Bs) (m : Nat) (c : UInt8) (hx : a.eval x = .string ⟨s.toArray⟩) (hy : a.eval y = .int .i64 (m : Int)) (hm : s[m]? = some c) : (execOp a.eval o).run Try.prog w = .ok (.value (.int .u8 (c.toNat : Int))) w := by
  have hsz := bytes_size s
  have hlt : m < s.length := (List.getElem?_eq_some_iff.1 hm).1
  have h1 : (m : Int) < (s.length : Int) := by omega
  have hb := byte_at s m c hm (by omega)
  unfold execOp
  simp only [ho, hx, hy]
  simp [go_sem, hsz, h1, hb]
theorem run_len_s (x : Operand) (ts : Array TypeId) (ho : o.op = .call { callee := .builtin .len, args := #[x], argTypes := ts }) (hts : ts = #[9]) (s : Bs) (hx : a.eval x = .string ⟨s.toArray⟩) : (execOp a.eval o).run Try.prog w = .ok (.value (.int .i64 s.length)) w := by
  subst hts
  obtain ⟨dst, op, type, pos, after, guard⟩ := o
  obtain rfl : op = _ := ho
  have e : Array.map a.eval #[x] = #[.string ⟨s.toArray⟩] := by simp only [List.map_toArray, List.map_cons, List.map_nil, hx]
  rw [BigFrame.execOp_builtin, e]
  simp [go_sem, bytes_size]
theorem run_add1 (x : Operand) (ho : o.op = .binOp .add 3 x (.const (.int .i64 1)) 3) (ht : o.type = 3) (n : Nat) (hn : n < 4294967296) (hx : a.eval x = .int .i64 (n : Int)) : (execOp a.eval o).run Try.prog w = .ok (.value (.int .i64 ((n + 1 : Nat) : Int))) w := by
  have ek : a.eval (.const (.int .i64 1)) = .int .i64 1 := rfl
  have h1 : IntKind.i64.wrap ((n : Int) + 1) = ((n + 1 : Nat) : Int) := by rw [IntKind.wrap_i64]; omega
  have h2 : wrap64 ((n : Int) + 1) = ((n + 1 : Nat) : Int) := by unfold wrap64; omega
  unfold execOp
  simp only [ho, hx, ht, ek]
  simp [go_sem, h1, h2]
theorem run_add_s (x y : Operand) (ho : o.op = .binOp .add 9 x y 9) (ht : o.type = 9) (l m : Bs) (hx : a.eval x = .string ⟨l.toArray⟩) (hy : a.eval y = .string ⟨m.toArray⟩) (hl : l.length ≤ 8388608) (hm : m.length ≤ 8388608) :
    (execOp a.eval o).run Try.prog w = .ok (.value (.string ⟨(l ++ m).toArray⟩)) w := by
  have hr := run_string_add_lists (P := Try.prog) (w := w) l m (by omega) (by omega)
  unfold execOp
  simp only [ho, hx, hy, ht]
  simp [go_sem, hr]
theorem run_build1 (x : Operand) (ho : o.op = .buildSlice 29 1 #[(0, x)]) (n : Int) (hx : a.eval x = .int .u8 n) :
    (execOp a.eval o).run Try.prog w = .ok (.value (.slice (some ⟨w.heap.size, 0, none⟩) 1 1)) (w.alloc (.cells #[.int .u8 n] 5)) := by
  obtain ⟨i, hi, hz, hs, hb⟩ : ∃ i, Try.prog.info? 5 = some i ∧ i.zero = some (.int .u8 0) ∧ i.size = 1 ∧ i.bytes = 1 := by
    obtain ⟨i, hi, e⟩ := Option.map_eq_some_iff.1 info_u8
    simp only [Prod.mk.injEq] at e
    exact ⟨i, hi, e.1, e.2.1, e.2.2⟩
  have hr := run_buildSlice (P := Try.prog) w 29 5 1 #[(0, Value.int .u8 n)] #[.int .u8 n] i (.int .u8 0) Try.underlying29 hi hz (by rw [hs]; decide) (by rw [hs]; decide) (by rw [hs]; simp [Instr.fill, Value.cells, Array.range_succ, show Array.range 0 = #[] from rfl])
  unfold execOp
  simp only [ho, List.map_toArray, List.map_cons, List.map_nil, hx, Sem.run_bind]
  rw [hr]
  rfl
theorem run_back1 (x : Operand) (ho : o.op = .convert 29 9 x) (g n : Nat) (hn : n < 256) (t : TypeId) (hx : a.eval x = .slice (some ⟨g, 0, none⟩) 1 1) (hg : w.heap[g]? = some (.cells #[.int .u8 (n : Int)] t)) :
    (execOp a.eval o).run Try.prog w = .ok (.value (.string ⟨[UInt8.ofNat n].toArray⟩)) w := by
  have hr : (convert 29 9 (.slice (some ⟨g, 0, none⟩) 1 1)).run Try.prog w = .ok (.string ⟨[UInt8.ofNat n].toArray⟩) w := by
    have := run_convert_bytes_back (P := Try.prog) w 29 9 5 ⟨g, 0, none⟩ 1 [UInt8.ofNat n] Try.underlying29 Try.underlying5 Try.underlying9 (fun j hj => by
      rw [addr0, cell8 hg]
      have hj8 : j < 1 := hj
      obtain rfl : j = 0 := by omega
      show some (Value.int .u8 (n : Int)) = some (Value.int .u8 ((UInt8.ofNat n).toNat : Int))
      rw [u8_toNat, Nat.mod_eq_of_lt hn])
    exact this
  unfold execOp
  simp only [ho, hx, Sem.run_bind]
  rw [hr]
  rfl
end

end Go.Proofs.Ytblpalhnjkfjoaa
