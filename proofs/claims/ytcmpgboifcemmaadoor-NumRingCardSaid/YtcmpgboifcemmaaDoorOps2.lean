/- More laws for single operations. -/
import Derived.Test.YtcmpgboifcemmaaDoorNum22
import Derived.Test.YtcmpgboifcemmaaDoorNum6
set_option linter.all false
namespace Go.Proofs.YtcmpgboifcemmaaDoor
open Go Go.RowKit Go.Shelf

/-- What an operation leaves of the facts of the others, and its own. -/
theorem put_ne {D : Nat → Prop} {i j : Nat} {P : Prop} (h : j ≠ i) (hp : D j → P) : (And' i D j → P) := fun e => by
  rcases e with e | e
  · exact absurd e h
  · exact hp e
theorem And'.ne {D : Nat → Prop} {i j : Nat} (h : j ≠ i) (e : And' i D j) : D j := e.elim (fun e => absurd e h) id
theorem put_eq {D : Nat → Prop} {i j : Nat} {P : Prop} (hp : P) : (And' i D j → P) := fun _ => hp

section
variable {o : Oper} {a : Act} {w : World}
theorem run_extract (x : Operand) (k : Nat) (ho : o.op = .extract x k) (vs : Array Value) (hx : a.eval x = .tuple vs) (v : Value) (hv : vs[k]? = some v) : (execOp a.eval o).run Tryd.prog w = .ok (.value v) w := by
  unfold execOp
  simp only [ho, hx]
  simp [go_sem, hv]
theorem run_index_slice (x y : Operand) (ho : o.op = .indexAddr 24 x y) (g n c u : Nat) (hx : a.eval x = .slice (some ⟨g, 0, none⟩) n c) (hy : a.eval y = .int .i64 u) (hu : u < n) : (execOp a.eval o).run Tryd.prog w = .ok (.value (.pointer (some ⟨g, u, none⟩))) w := by
  have h2 : (u : Int) < (n : Int) := by omega
  unfold execOp
  simp only [ho, hx, hy]
  simp [go_sem, h2]
theorem run_enter3 (f : FuncId) (x y z : Operand) (ts : Array TypeId) (ho : o.op = .call { callee := .value (.func f), args := #[x, y, z], argTypes := ts }) (u1 u2 u3 : Value) (h1 : a.eval x = u1) (h2 : a.eval y = u2) (h3 : a.eval z = u3) (hf : ∀ args w, (callFunc f args).run Tryd.prog w = .ok (.enter f args) w) :
    (execOp a.eval o).run Tryd.prog w = .ok (.enter f #[u1, u2, u3]) w := by
  have ef : a.eval (.func f) = .func (.func f) #[] #[] := rfl
  have hm : Array.map a.eval #[x, y, z] = #[u1, u2, u3] := by rw [← h1, ← h2, ← h3]; simp
  unfold execOp
  simp only [ho, resolve, Deferred.ofValue, invoke, ef, hm]
  simp [hf]
theorem run_enter1 (f : FuncId) (x : Operand) (ts : Array TypeId) (ho : o.op = .call { callee := .value (.func f), args := #[x], argTypes := ts }) (u1 : Value) (h1 : a.eval x = u1) (hf : ∀ args w, (callFunc f args).run Tryd.prog w = .ok (.enter f args) w) :
    (execOp a.eval o).run Tryd.prog w = .ok (.enter f #[u1]) w := by
  have ef : a.eval (.func f) = .func (.func f) #[] #[] := rfl
  have hm : Array.map a.eval #[x] = #[u1] := by rw [← h1]; simp
  unfold execOp
  simp only [ho, resolve, Deferred.ofValue, invoke, ef, hm]
  simp [hf]
/-- A call in a plain walk. -/
theorem wp_of_call {K : Act → World → Prop} {Q : Exit → Act → World → Prop} {f : FuncId} {args : Array Value} (h : (execOp a.eval o).run Tryd.prog w = .ok (.enter f args) w) {v : Value} {R : World → Prop}
    (hc : Calls Tryd.prog f args w fun e w' => e = .returned v ∧ R w') (hk : ∀ w', R w' → K (a.put o.dst v) w') : o.wp Tryd.prog a w K Q := by
  unfold Oper.wp; rw [h]
  refine hc.mono ?_
  rintro e w' ⟨rfl, hr⟩
  exact hk w' hr
theorem run_slice0 (x : Operand) (ho : o.op = .slice 52 x none none none) (g : Nat) (hx : a.eval x = .pointer (some ⟨g, 0, none⟩)) : (execOp a.eval o).run Tryd.prog w = .ok (.value (.slice (some ⟨g, 0, none⟩) 65 65)) w := by
  unfold execOp
  simp only [ho, hx, Option.map_none]
  simp [go_sem]
/-- The digits xs are copied into a row that has room for them. -/
theorem run_copy_digits (d s : Operand) (ho : o.op = .call { callee := .builtin .copy, args := #[d, s], argTypes := #[24, 24] }) (g B : Nat) (v : Value) (xs old : List Nat) (t : TypeId) (hd : a.eval d = .slice (some ⟨g, 0, none⟩) 65 65) (hs : a.eval s = v)
    (hx : U32s B w v xs) (hg : RowAt w g t (arr old)) (hold : old.length = 65) (hl : xs.length ≤ 65) :
    ∃ w', (execOp a.eval o).run Tryd.prog w = .ok (.value (.int .i64 (xs.length : Nat))) w' ∧ RowAt w' g t (arr (xs ++ old.drop xs.length)) ∧ Turned g w w' := by
  obtain ⟨p, cap, rfl, -, hc⟩ := hx
  obtain ⟨dst, op, type, pos, after, guard⟩ := o
  obtain rfl : op = _ := ho
  have e : Array.map a.eval #[d, s] = #[.slice (some ⟨g, 0, none⟩) 65 65, .slice p xs.length cap] := by simp only [List.map_toArray, List.map_cons, List.map_nil, hd, hs]
  have hmin : Nat.min xs.length 65 = xs.length := Nat.min_eq_left hl
  by_cases h0 : xs.length = 0
  · obtain rfl : xs = [] := List.eq_nil_of_length_eq_zero h0
    have hrun := run_copy_none (P := Tryd.prog) w 24 24 type 48 (some ⟨g, 0, none⟩) p 65 65 0 cap Tryd.underlying24 size_u32 (by rfl)
    refine ⟨w, ?_, by simpa using hg, ⟨rfl, rfl, rfl, rfl, fun _ _ => rfl⟩⟩
    rw [BigFrame.execOp_builtin, e]
    simp [builtin, hrun, Result.andThen]
    rfl
  · obtain ⟨b, off, rfl, hb, hcs⟩ := hc (by omega)
    have hrun := run_copy_row (P := Tryd.prog) w 24 24 type 48 g 0 65 65 ⟨b, off, none⟩ xs.length cap (arr old) t (arr xs).toList Tryd.underlying24 size_u32 hg (by rw [hmin]; simp [arr_size]) (by
        intro j v hv
        have hj : j < xs.length := by
          have := (List.getElem?_eq_some_iff.1 hv).1; simpa [arr_size] using this
        rw [Addr.add_mid, hcs j hj]
        have := arr_get xs j hj
        rw [← Array.getElem?_toList, hv] at this
        exact this.symm) (by simp [arr_size, hold]; exact hl) (by
        intro v hv
        exact Array.all_eq_true_iff_forall_mem.1 (arr_one xs) v (by simpa using hv))
    have e2 : ((arr old).toList.take 0 ++ (arr xs).toList ++ (arr old).toList.drop (0 + (arr xs).toList.length)).toArray = arr (xs ++ old.drop xs.length) := by
      simp [arr]
    rw [e2] at hrun
    refine ⟨w.setRow g (arr (xs ++ old.drop xs.length)), ?_, hg.setRow _, turned_setRow w g _⟩
    rw [BigFrame.execOp_builtin, e]
    simp [builtin, hrun, Result.andThen, arr_size]
    rfl
theorem wp_copy_digits {K : Act → World → Prop} {Q : Exit → Act → World → Prop} (d s : Operand) (ho : o.op = .call { callee := .builtin .copy, args := #[d, s], argTypes := #[24, 24] }) (g B : Nat) (v : Value) (xs old : List Nat) (t : TypeId) (hd : a.eval d = .slice (some ⟨g, 0, none⟩) 65 65) (hs : a.eval s = v)
    (hx : U32s B w v xs) (hg : RowAt w g t (arr old)) (hold : old.length = 65) (hl : xs.length ≤ 65)
    (hk : ∀ w', RowAt w' g t (arr (xs ++ old.drop xs.length)) → Turned g w w' → K (a.put o.dst (.int .i64 (xs.length : Nat))) w') : o.wp Tryd.prog a w K Q := by
  obtain ⟨w', hrun, hr, ht⟩ := run_copy_digits d s ho g B v xs old t hd hs hx hg hold hl
  exact wp_of_run hrun (hk w' hr ht)
theorem ent_div32 (args : Array Value) (w : World) : (callFunc 57 args).run Tryd.prog w = .ok (.enter 57 args) w := enters_of Tryd.func57 (by kernel_rfl) rfl args w
end
end Go.Proofs.YtcmpgboifcemmaaDoor
