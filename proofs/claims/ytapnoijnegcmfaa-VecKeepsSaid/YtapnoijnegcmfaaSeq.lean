/- A region in its written order, by an invariant over the operations that have come up (as for drawn ones); blocks that a region makes. -/
import Derived.Test.YtapnoijnegcmfaaCom
set_option linter.all false
namespace Go.Proofs.Ytapnoijnegcmfaa
open Go Go.RowKit Go.Shelf

section
variable {P : Program} {ops : Array Oper} {Q : Exit → Act → World → Prop} (Inv : (Nat → Prop) → Act → World → Prop)
theorem wp_region_seq (n : Nat) {id : Nat} {a : Act} {w : World} (hn' : decide (n ≤ ops.size) = true) (hok : regionOkG ops = true) (h0 : Inv (fun _ => False) a w)
    (hstep : ∀ (i : Nat) (o : Oper) (D : Nat → Prop) (a : Act) (w : World), i < n → ops[i]? = some o → ¬ D i → (∀ e ∈ o.after, Region.binds .any e = true → D e.on) → Inv D a w → StepG (P := P) (ops := ops) (Q := Q) o a w (fun a' w' => Inv (fun j => j = i ∨ D j) a' w'))
    (hdone : ∀ (D : Nat → Prop) (a : Act) (w : World), (∀ i, i < n → D i) → Inv D a w → wpList P ops Q (ops.toList.drop n) a w) : (Code.region id ops false).wp P Q a w := by
  have hn : n ≤ ops.size := of_decide_eq_true hn'
  refine wp_region_list ?_
  have go : ∀ k i, i + k = n → ∀ a w, Inv (fun j => j < i) a w → wpList P ops Q (ops.toList.drop i) a w := by
    intro k
    induction k with
    | zero => intro i hi a w h; obtain rfl : i = n := by omega
              exact hdone _ a w (fun j hj => hj) h
    | succ k ih =>
      intro i hi a w h
      have hi2 : i < ops.size := by omega
      have hio : ops[i]? = some ops[i] := Array.getElem?_eq_getElem hi2
      have hl : ops.toList.drop i = ops[i] :: ops.toList.drop (i + 1) := by
        rw [List.drop_eq_getElem_cons (by simpa using hi2)]; simp
      have hs := hstep i ops[i] _ a w (by omega) hio (by omega) (fun e he hb => regionOkG_spec hok hio e he hb) h
      have hD : (fun j => j = i ∨ j < i) = fun j => j < i + 1 := by funext j; apply propext; omega
      rw [hD] at hs
      rw [hl]
      unfold wpList
      unfold StepG at hs
      split at hs
      · rename_i hw
        rw [if_pos hw]
        exact .inl (Oper.wp_mono (fun a' w' h => ih (i + 1) (by omega) a' w' h) hs)
      · rename_i hw
        rw [if_neg hw]
        exact ih (i + 1) (by omega) _ _ hs
  have h1 : (fun _ => False : Nat → Prop) = fun j => j < 0 := by funext j; apply propext; exact ⟨fun h => h.elim, fun h => absurd h (Nat.not_lt_zero j)⟩
  rw [h1] at h0
  exact go n 0 (by omega) a w h0
end
/-- A block that has been made since b. -/
def Own1 (b : Nat) (t : TypeId) (cs : Array Value) (v : Value) (w : World) : Prop := ∃ g, v = .pointer (some ⟨g, 0, none⟩) ∧ b ≤ g ∧ RowAt w g t cs
theorem Own1.ext {b : Nat} {t : TypeId} {cs : Array Value} {v : Value} {w w' : World} (h : Own1 b t cs v w) (hx : Ext w w') : Own1 b t cs v w' := by
  obtain ⟨g, e, l, r⟩ := h
  exact ⟨g, e, l, hx.row r⟩
theorem own_new {b : Nat} {w0 w : World} (t : TypeId) (cs : Array Value) (h : Ext w0 w) (hb : b ≤ w0.heap.size) : Own1 b t cs (.pointer (some ⟨w.heap.size, 0, none⟩)) (w.alloc (.cells cs t)) :=
  ⟨_, rfl, Nat.le_trans hb (Below.size h), RowAt.new _ _ _⟩
section
variable {o : Oper} {a : Act} {w : World}
theorem run_alloc_mo (ho : o.op = .alloc 34) : (execOp a.eval o).run Try.prog w = .ok (.value (.pointer (some ⟨w.heap.size, 0, none⟩))) (w.alloc (.cells #[.int .i64 0, .int .i64 0, .int .i64 0, .bool false] 34)) := by
  unfold execOp
  simp only [ho]
  simp [go_sem]
theorem run_alloc_pt (ho : o.op = .alloc 23) : (execOp a.eval o).run Try.prog w = .ok (.value (.pointer (some ⟨w.heap.size, 0, none⟩))) (w.alloc (.cells #[.int .i64 0, .int .i64 0] 23)) := by
  unfold execOp
  simp only [ho]
  simp [go_sem]
theorem run_build_mo01 (x y : Operand) (ho : o.op = .build 34 #[(0, x), (1, y)]) (u v t : Int) (hx : a.eval x = .agg #[.int .i64 u, .int .i64 v]) (hy : a.eval y = .int .i64 t) : (execOp a.eval o).run Try.prog w = .ok (.value (.agg #[.int .i64 u, .int .i64 v, .int .i64 t, .bool false])) w := by
  unfold execOp
  simp only [ho, List.map_toArray, List.map_cons, List.map_nil, hx, hy]
  simp [go_sem]
theorem run_build_mo02 (x z : Operand) (ho : o.op = .build 34 #[(0, x), (2, z)]) (u v : Int) (b : Bool) (hx : a.eval x = .agg #[.int .i64 u, .int .i64 v]) (hz : a.eval z = .bool b) : (execOp a.eval o).run Try.prog w = .ok (.value (.agg #[.int .i64 u, .int .i64 v, .int .i64 0, .bool b])) w := by
  unfold execOp
  simp only [ho, List.map_toArray, List.map_cons, List.map_nil, hx, hz]
  simp [go_sem]
theorem run_build_mob (z : Operand) (ho : o.op = .build 34 #[(2, z)]) (b : Bool) (hz : a.eval z = .bool b) : (execOp a.eval o).run Try.prog w = .ok (.value (.agg #[.int .i64 0, .int .i64 0, .int .i64 0, .bool b])) w := by
  unfold execOp
  simp only [ho, List.map_toArray, List.map_cons, List.map_nil, hz]
  simp [go_sem]
end
theorem cal_of {f : FuncId} {args : Array Value} {w : World} {v v' : Value} (h : Calls Try.prog f args w fun e w' => e = .returned v ∧ Ext w w') (hv : v = v') : Calls Try.prog f args w fun e w' => e = .returned v' ∧ Ext w w' := by subst hv; exact h
theorem setRow_setRow (w : World) (g : Nat) (a b : Array Value) : (w.setRow g a).setRow g b = w.setRow g b := by
  unfold World.setRow
  congr 1
  apply Array.ext_getElem?
  intro i
  simp only [Array.getElem?_modify]
  split
  · cases w.heap[i]? with
    | none => rfl
    | some o => cases o <;> rfl
  · rfl
theorem setCell1 {w : World} {g : Nat} {t : TypeId} {cs : Array Value} (h : RowAt w g t cs) (i : Nat) (u : Value) : w.setCell ⟨g, i, none⟩ u = w.setRow g (cs.setIfInBounds i u) := setCell_eq_setRow w g i cs t (0, 0) u h
theorem setCell2 {w : World} {g : Nat} {t : TypeId} {cs : Array Value} (h : RowAt w g t cs) (i j : Nat) (u v : Value) : (w.setCell ⟨g, i, none⟩ u).setCell ⟨g, j, none⟩ v = w.setRow g ((cs.setIfInBounds i u).setIfInBounds j v) := by
  rw [setCell_eq_setRow w g i cs t (0, 0) u h, setCell_eq_setRow (w.setRow g (cs.setIfInBounds i u)) g j (cs.setIfInBounds i u) t (0, 0) v (h.setRow _), setRow_setRow]
section
variable {ops : Array Oper} {rest : List Oper} {o : Oper} {b : Act} {w : World} {Q : Exit → Act → World → Prop}
theorem run_st_pt (x y : Operand) (ho : o.op = .store 23 x y) (g j : Nat) (hx : b.eval x = .pointer (some ⟨g, j, none⟩)) (u v : Int) (hy : b.eval y = .agg #[.int .i64 u, .int .i64 v])
    (c d : Value) (t : TypeId) (cs cs' : Array Value) (hg : RowAt w g t cs) (h1 : cs[j]? = some c) (h2 : cs[j + 1]? = some d) (e : (cs.setIfInBounds j (.int .i64 u)).setIfInBounds (j + 1) (.int .i64 v) = cs') : (execOp b.eval o).run Try.prog w = .ok .skip (w.setRow g cs') := by
  have k1 := (hg.cell j).trans h1
  have f1 := hg.frozen j
  have f2 := hg.frozen (j + 1)
  have h3 : (w.setCell ⟨g, j, none⟩ (.int .i64 u)).cell? ⟨g, j + 1, none⟩ = some d := by
    rw [(hg.set j (.int .i64 u)).cell (j + 1), Array.getElem?_setIfInBounds_ne (by omega)]; exact h2
  have f3 : (w.setCell ⟨g, j, none⟩ (.int .i64 u)).frozen? ⟨g, j + 1, none⟩ = false := (hg.set j (.int .i64 u)).frozen (j + 1)
  have k2 := (hg.cell (j + 1)).trans h2
  rw [← e, ← setCell2 hg j (j + 1)]
  unfold execOp
  simp only [ho, hx, hy]
  simp [go_sem, k1, k2, f1, f2, h3, f3]
theorem store_pt_at (hgd : o.guard = none) (x y : Operand) (ho : o.op = .store 23 x y) (g j : Nat) (hx : b.eval x = .pointer (some ⟨g, j, none⟩)) (u v : Int) (hy : b.eval y = .agg #[.int .i64 u, .int .i64 v])
    (c d : Value) (t : TypeId) (cs cs' : Array Value) (hg : RowAt w g t cs) (h1 : cs[j]? = some c) (h2 : cs[j + 1]? = some d) (e : (cs.setIfInBounds j (.int .i64 u)).setIfInBounds (j + 1) (.int .i64 v) = cs')
    (h : wpList Try.prog ops Q rest (b.put o.dst undef) (w.setRow g cs')) : wpList Try.prog ops Q (o :: rest) b w :=
  wpList_plain hgd fun K hK => wp_of_skip (run_st_pt x y ho g j hx u v hy c d t cs cs' hg h1 h2 e) (hK _ _ h)
theorem store_i_at (hgd : o.guard = none) (x y : Operand) (ho : o.op = .store 3 x y) (g j : Nat) (hx : b.eval x = .pointer (some ⟨g, j, none⟩)) (u : Int) (hy : b.eval y = .int .i64 u)
    (c : Value) (t : TypeId) (cs cs' : Array Value) (hg : RowAt w g t cs) (h1 : cs[j]? = some c) (e : cs.setIfInBounds j (.int .i64 u) = cs')
    (h : wpList Try.prog ops Q rest (b.put o.dst undef) (w.setRow g cs')) : wpList Try.prog ops Q (o :: rest) b w := by
  refine wpList_plain hgd fun K hK => ?_
  have k1 := (hg.cell j).trans h1
  have f1 := hg.frozen j
  have hrun : (execOp b.eval o).run Try.prog w = .ok .skip (w.setRow g cs') := by
    rw [← e, ← setCell1 hg j]
    unfold execOp
    simp only [ho, hx, hy]
    simp [go_sem, k1, f1]
  exact wp_of_skip hrun (hK _ _ h)
end
end Go.Proofs.Ytapnoijnegcmfaa
