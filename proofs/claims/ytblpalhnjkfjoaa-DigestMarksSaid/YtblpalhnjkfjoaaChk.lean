/- digest.Check: arrays that are compared. -/
import Derived.Test.YtblpalhnjkfjoaaFns
import Derived.ChangeKeysEq
set_option linter.all false
namespace Go.Proofs.Ytblpalhnjkfjoaa
open Go Go.RowKit Go.Shelf

section
variable {o : Oper} {a : Act} {w : World}
theorem run_load_sum (x : Operand) (ho : o.op = .load 36 x) (g : Nat) (hx : a.eval x = .pointer (some ⟨g, 0, none⟩)) (c0 c1 c2 c3 c4 c5 c6 c7 : Int) (hg : w.heap[g]? = some (.cells (row8 c0 c1 c2 c3 c4 c5 c6 c7) 36)) :
    (execOp a.eval o).run Try.prog w = .ok (.value (.agg (row8 c0 c1 c2 c3 c4 c5 c6 c7))) w := by
  have e0 := cell8 hg 0
  have e1 := cell8 hg 1
  have e2 := cell8 hg 2
  have e3 := cell8 hg 3
  have e4 := cell8 hg 4
  have e5 := cell8 hg 5
  have e6 := cell8 hg 6
  have e7 := cell8 hg 7
  simp at e0 e1 e2 e3 e4 e5 e6 e7
  unfold execOp
  simp only [ho, hx, Instr.loadAt, Instr.sureAddr, Sem.run_bind, Sem.run_pure, Result.andThen_ok]
  simp [e0, e1, e2, e3, e4, e5, e6, e7, go_sem]
theorem run_eql_sum (x y : Operand) (ho : o.op = .binOp .eql 36 x y 36) (c0 c1 c2 c3 c4 c5 c6 c7 d0 d1 d2 d3 d4 d5 d6 d7 : Int) (hx : a.eval x = .agg (row8 c0 c1 c2 c3 c4 c5 c6 c7)) (hy : a.eval y = .agg (row8 d0 d1 d2 d3 d4 d5 d6 d7)) (b : Bool) (hb : b = decide (c0 = d0 ∧ c1 = d1 ∧ c2 = d2 ∧ c3 = d3 ∧ c4 = d4 ∧ c5 = d5 ∧ c6 = d6 ∧ c7 = d7)) :
    (execOp a.eval o).run Try.prog w = .ok (.value (.bool b)) w := by
  subst hb
  unfold execOp
  simp only [ho, hx, hy]
  obtain ⟨i, hi, -⟩ := Option.map_eq_some_iff.1 info_byte
  have hc : Try.prog.cellsOf 5 = 1 := by kernel_rfl
  have hq : (Op.equalIn 10000 36 (.agg (row8 c0 c1 c2 c3 c4 c5 c6 c7)) (.agg (row8 d0 d1 d2 d3 d4 d5 d6 d7))).run Try.prog w = .ok (decide (c0 = d0 ∧ c1 = d1 ∧ c2 = d2 ∧ c3 = d3 ∧ c4 = d4 ∧ c5 = d5 ∧ c6 = d6 ∧ c7 = d7)) w := by
    rw [run_equalIn_array w 9999 _ _ Try.underlying36 hi, hc]
    rw [show List.range 8 = [0, 1, 2, 3, 4, 5, 6, 7] from rfl]
    simp only [Op.eqItems, Sem.run_bind]
    simp [go_sem, row8]
    repeat' split
    all_goals simp [*]
  simp [go_sem, hq]
theorem ent_markOf (args : Array Value) (w : World) : (callFunc 23 args).run Try.prog w = .ok (.enter 23 args) w := enters_of Try.func23 (by kernel_rfl) rfl args w
theorem run_enter2 (f : FuncId) (x y : Operand) (ts : Array TypeId) (ho : o.op = .call { callee := .value (.func f), args := #[x, y], argTypes := ts }) (u1 u2 : Value) (h1 : a.eval x = u1) (h2 : a.eval y = u2) (hf : ∀ args w, (callFunc f args).run Try.prog w = .ok (.enter f args) w) :
    (execOp a.eval o).run Try.prog w = .ok (.enter f #[u1, u2]) w := by
  have ef : a.eval (.func f) = .func (.func f) #[] #[] := rfl
  have hm : Array.map a.eval #[x, y] = #[u1, u2] := by rw [← h1, ← h2]; simp
  unfold execOp
  simp only [ho, resolve, Deferred.ofValue, invoke, ef, hm]
  simp [hf]
end

theorem eight {x : Bs} (h : x.length = 8) : ∃ x0 x1 x2 x3 x4 x5 x6 x7 : UInt8, x = [x0, x1, x2, x3, x4, x5, x6, x7] := by
  match x, h with
  | [x0, x1, x2, x3, x4, x5, x6, x7], _ => exact ⟨x0, x1, x2, x3, x4, x5, x6, x7, rfl⟩
theorem u8c (a b : UInt8) : ((a.toNat : Nat) : Int) = ((b.toNat : Nat) : Int) ↔ a = b := by
  rw [Int.ofNat_inj, UInt8.toNat_inj]
theorem same8 (x0 x1 x2 x3 x4 x5 x6 x7 a0 a1 a2 a3 a4 a5 a6 a7 : UInt8) : decide ([x0, x1, x2, x3, x4, x5, x6, x7] = [a0, a1, a2, a3, a4, a5, a6, a7]) =
    decide ((x0.toNat : Int) = (a0.toNat : Int) ∧ (x1.toNat : Int) = (a1.toNat : Int) ∧ (x2.toNat : Int) = (a2.toNat : Int) ∧ (x3.toNat : Int) = (a3.toNat : Int) ∧ (x4.toNat : Int) = (a4.toNat : Int) ∧ (x5.toNat : Int) = (a5.toNat : Int) ∧ (x6.toNat : Int) = (a6.toNat : Int) ∧ (x7.toNat : Int) = (a7.toNat : Int)) := by
  simp only [u8c, List.cons.injEq, and_true]
theorem copy8 (x0 x1 x2 x3 x4 x5 x6 x7 : UInt8) : (zero8.toList.take 0 ++ Lib.byteCells [x0, x1, x2, x3, x4, x5, x6, x7] ++ zero8.toList.drop (0 + 8)).toArray = row8 x0.toNat x1.toNat x2.toNat x3.toNat x4.toNat x5.toNat x6.toNat x7.toNat := rfl
/-- What the drawn operations of Check hold. -/
def chF (k m : Bs) (va vb : Value) (r : Bool) : Nat → Value → Prop
  | 0, v => v = va
  | 1, v => v = .string ⟨k.toArray⟩
  | 2, v => v = .string ⟨m.toArray⟩
  | 3, v => v = vb
  | 4, v => v = .bool r
  | 5, v => v = .bool r
  | _, _ => True

set_option maxRecDepth 100000 in
set_option maxHeartbeats 1000000 in
theorem check_calls (k m x : Bs) (hk : k.length < 4294967296) (hm : m.length ≤ 9223372036854775807) (w : World) :
    Calls Try.prog 16 #[.string ⟨k.toArray⟩, .string ⟨m.toArray⟩, .string ⟨x.toArray⟩] w fun e w' => e = .returned (.bool (decide (k ≠ [] ∧ x = dig (markL k m)))) ∧ Ext w w' := by
  have hsz := bytes_size x
  by_cases h0 : k = []
  · have hr : decide (k ≠ [] ∧ x = dig (markL k m)) = false := by simp [h0]
    rw [hr]
    have hke : List.isEmpty k = true := by simp [h0]
    clear hr h0
    go_enter Try.func16, Try.ntmps16
    go_wp2_with fail
    go_ret
    exact ⟨rfl, Ext.alloc _ _⟩
  · have hke : List.isEmpty k = false := by simpa using h0
    by_cases h8 : x.length = 8
    case neg =>
      have hr : decide (k ≠ [] ∧ x = dig (markL k m)) = false := by
        apply decide_eq_false
        rintro ⟨-, rfl⟩
        exact h8 rfl
      rw [hr]
      have h8' : ((x.length : Int) != 8) = true := by simp; omega
      clear hr
      go_enter Try.func16, Try.ntmps16
      go_wp2_with fail
      go_ret
      exact ⟨rfl, Ext.alloc _ _⟩
    obtain ⟨x0, x1, x2, x3, x4, x5, x6, x7, hx⟩ := eight h8
    obtain ⟨a0, a1, a2, a3, a4, a5, a6, a7, ha⟩ := dig_eight (markL k m)
    have hr : decide (k ≠ [] ∧ x = dig (markL k m)) = decide ((x0.toNat : Int) = (a0.toNat : Int) ∧ (x1.toNat : Int) = (a1.toNat : Int) ∧ (x2.toNat : Int) = (a2.toNat : Int) ∧ (x3.toNat : Int) = (a3.toNat : Int) ∧ (x4.toNat : Int) = (a4.toNat : Int) ∧ (x5.toNat : Int) = (a5.toNat : Int) ∧ (x6.toNat : Int) = (a6.toNat : Int) ∧ (x7.toNat : Int) = (a7.toNat : Int)) := by
      rw [← same8, ← hx, ← ha]
      simp [h0]
    have hrow := copy8 x0 x1 x2 x3 x4 x5 x6 x7
    rw [← hx] at hrow
    have hsv : sumV (markL k m) = .agg (row8 a0.toNat a1.toNat a2.toNat a3.toNat a4.toNat a5.toNat a6.toNat a7.toNat) := by
      unfold sumV
      rw [ha]
      rfl
    have HM : Hid (∀ w, Calls Try.prog 23 #[.string ⟨k.toArray⟩, .string ⟨m.toArray⟩] w fun e w' => e = .returned (.agg (row8 a0.toNat a1.toNat a2.toNat a3.toNat a4.toNat a5.toNat a6.toNat a7.toNat)) ∧ Ext w w') := by
      intro w
      rw [← hsv]
      exact markOf_calls k m hk hm w
    obtain ⟨r, hr2⟩ : ∃ r, r = decide (k ≠ [] ∧ x = dig (markL k m)) := ⟨_, rfl⟩
    rw [← hr2] at hr ⊢
    have HR := Lib.hid hr
    have Hrow := Lib.hid hrow
    have H8 := Lib.hid h8
    clear hr hr2 hx ha hsv hrow
    go_enter Try.func16, Try.ntmps16
    go_wp2_with fail
    obtain ⟨W, hW⟩ : ∃ W, W = w.alloc (.cells zero8 36) := ⟨_, rfl⟩
    obtain ⟨g, hg⟩ : ∃ g, g = w.heap.size := ⟨_, rfl⟩
    have HX : Hid (Ext w W) := by rw [hW]; exact Ext.alloc _ _
    have HO : Hid (W.heap[g]? = some (.cells zero8 36)) := by rw [hW, hg]; exact heap_alloc_new _ _
    have Hgw : Hid (w.heap.size ≤ g) := by rw [hg]; exact Nat.le_refl _
    rw [show (w.alloc (.cells #[Value.int .u8 0, Value.int .u8 0, Value.int .u8 0, Value.int .u8 0, Value.int .u8 0, Value.int .u8 0, Value.int .u8 0, Value.int .u8 0] 36)) = W from hW.symm]
    rw [← hg]
    clear hW hg
    have hcp := Lib.run_copy_row_string (P := Try.prog) W 29 9 3 5 g 0 8 8 ⟨x.toArray⟩ zero8 36 Try.underlying29 info_byte HO.out (by rw [hsz, H8.out]; decide) (by rw [hsz, H8.out]; decide)
    rw [hsz, H8.out, show (⟨x.toArray⟩ : ByteArray).data.toList = x by simp, Hrow.out] at hcp
    rw [hcp]
    obtain ⟨Z, hZ⟩ : ∃ Z, Z = W.setRow g (row8 x0.toNat x1.toNat x2.toNat x3.toNat x4.toNat x5.toNat x6.toNat x7.toNat) := ⟨_, rfl⟩
    have HZ : Hid (Z.heap[g]? = some (.cells (row8 x0.toNat x1.toNat x2.toNat x3.toNat x4.toNat x5.toNat x6.toNat x7.toNat) 36)) := by rw [hZ]; exact setRow_heap _ g _ _ _ _ HO.out
    have HXZ : Hid (Ext w Z) := by
      rw [hZ]
      exact (Keep.row _ _).new HX.out (fun b h => by cases h; exact Hgw.out)
    rw [← hZ]
    clear hZ hcp
    simp only [Result.andThen]
    rw [Oper.upon_value]
    go_wp2_with fail
    refine wp_region_inv (fun D ac w' => ∃ vs : Nat → Value, ac = { tmps := #[.string ⟨k.toArray⟩, .string ⟨m.toArray⟩, .string ⟨x.toArray⟩, undef, undef, undef, vs 5, .pointer (some ⟨g, 0, none⟩), .string ⟨k.toArray⟩, .bool false, .bool false, .string ⟨x.toArray⟩, .int .i64 8, .bool false, .bool false, .slice (some ⟨g, 0, none⟩) 8 8, .string ⟨x.toArray⟩, .int .i64 8, vs 0, vs 1, vs 2, vs 3, vs 4], defers := [] } ∧ Ext Z w' ∧ ∀ j, D j → chF k m (.agg (row8 x0.toNat x1.toNat x2.toNat x3.toNat x4.toNat x5.toNat x6.toNat x7.toNat)) (.agg (row8 a0.toNat a1.toNat a2.toNat a3.toNat a4.toNat a5.toNat a6.toNat a7.toNat)) r j (vs j)) (by kernel_rfl) (by kernel_rfl) ?start ?step ?fin
    case start => exact ⟨fun j => if j = 5 then .bool false else undef, rfl, Ext.drew _, fun _ h => h.elim⟩
    case step =>
      rintro i o D ac wz hio hnd he ⟨vs, rfl, k0, hF⟩
      rcases i with _ | _ | _ | _ | _ | _ | i
      rotate_left 6
      · exact absurd hio (by simp)
      all_goals (obtain rfl := Option.some.inj (hio.symm.trans (by rfl)))
      · exact wp_of_run (run_load_sum (.tmp 7) rfl g rfl _ _ _ _ _ _ _ _ ((Below.block k0 g (lt_of_heap HZ.out)).trans HZ.out)) ⟨upd vs 0 _, rfl, k0, inv_same (F := fun j v _ => chF k m (.agg (row8 x0.toNat x1.toNat x2.toNat x3.toNat x4.toNat x5.toNat x6.toNat x7.toNat)) (.agg (row8 a0.toNat a1.toNat a2.toNat a3.toNat a4.toNat a5.toNat a6.toNat a7.toNat)) r j v) (w := wz) hF rfl⟩
      · exact wp_of_run (run_move (.tmp 0) rfl _ rfl) ⟨upd vs 1 _, rfl, k0, inv_same (F := fun j v _ => chF k m (.agg (row8 x0.toNat x1.toNat x2.toNat x3.toNat x4.toNat x5.toNat x6.toNat x7.toNat)) (.agg (row8 a0.toNat a1.toNat a2.toNat a3.toNat a4.toNat a5.toNat a6.toNat a7.toNat)) r j v) (w := wz) hF rfl⟩
      · exact wp_of_run (run_move (.tmp 1) rfl _ rfl) ⟨upd vs 2 _, rfl, k0, inv_same (F := fun j v _ => chF k m (.agg (row8 x0.toNat x1.toNat x2.toNat x3.toNat x4.toNat x5.toNat x6.toNat x7.toNat)) (.agg (row8 a0.toNat a1.toNat a2.toNat a3.toNat a4.toNat a5.toNat a6.toNat a7.toNat)) r j v) (w := wz) hF rfl⟩
      · refine wp_of_callE (run_enter2 23 (.tmp 19) (.tmp 20) _ rfl _ _ (by exact (hF 1 (he ⟨1, .data⟩ (by simp) rfl))) (by exact (hF 2 (he ⟨2, .data⟩ (by simp) rfl))) ent_markOf) (HM.out wz) ?_
        rintro e w' ⟨rfl, hx⟩
        exact ⟨_, rfl, upd vs 3 _, rfl, k0.trans hx, inv_same (F := fun j v _ => chF k m (.agg (row8 x0.toNat x1.toNat x2.toNat x3.toNat x4.toNat x5.toNat x6.toNat x7.toNat)) (.agg (row8 a0.toNat a1.toNat a2.toNat a3.toNat a4.toNat a5.toNat a6.toNat a7.toNat)) r j v) (w := wz) hF rfl⟩
      · exact wp_of_run (run_eql_sum (.tmp 18) (.tmp 21) rfl _ _ _ _ _ _ _ _ _ _ _ _ _ _ _ _ (by exact (hF 0 (he ⟨0, .data⟩ (by simp) rfl))) (by exact (hF 3 (he ⟨3, .data⟩ (by simp) rfl))) r HR.out) ⟨upd vs 4 _, rfl, k0, inv_same (F := fun j v _ => chF k m (.agg (row8 x0.toNat x1.toNat x2.toNat x3.toNat x4.toNat x5.toNat x6.toNat x7.toNat)) (.agg (row8 a0.toNat a1.toNat a2.toNat a3.toNat a4.toNat a5.toNat a6.toNat a7.toNat)) r j v) (w := wz) hF rfl⟩
      · exact wp_of_run (run_assign (.tmp 22) rfl _ (by exact (hF 4 (he ⟨4, .data⟩ (by simp) rfl)))) ⟨upd vs 5 _, rfl, k0, inv_same (F := fun j v _ => chF k m (.agg (row8 x0.toNat x1.toNat x2.toNat x3.toNat x4.toNat x5.toNat x6.toNat x7.toNat)) (.agg (row8 a0.toNat a1.toNat a2.toNat a3.toNat a4.toNat a5.toNat a6.toNat a7.toNat)) r j v) (w := wz) hF rfl⟩
    case fin =>
      rintro D ac wz hD ⟨vs, rfl, k0, hF⟩
      have h5 : vs 5 = .bool r := hF 5 (hD 5 (by decide))
      rw [h5]
      have K0 := Lib.hid k0
      clear hD hF h5 k0
      go_wp2_with fail
      go_ret
      exact ⟨rfl, HXZ.out.trans K0.out⟩

end Go.Proofs.Ytblpalhnjkfjoaa
