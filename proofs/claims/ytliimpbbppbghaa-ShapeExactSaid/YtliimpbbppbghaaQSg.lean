import Derived.Test.YtliimpbbppbghaaQSa
import Derived.Test.YtliimpbbppbghaaQXb
set_option linter.all false
namespace Go.Proofs.Ytliimpbbppbghaa
open Go Go.RowKit Go.Shelf Sx
def upd (vs : Nat → Value) (i : Nat) (v : Value) : Nat → Value := fun j => if j = i then v else vs j
theorem upd_ne {vs : Nat → Value} {i j : Nat} {v : Value} (h : j ≠ i) : upd vs i v j = vs j := if_neg h
section
variable {ops : Array Oper} {o : Oper} {a : Act} {w : World}
theorem stepG_run {Q : Exit → Act → World → Prop} {K : Act → World → Prop} {v : Value} {w' : World} (hw : Region.wanted o (yielded ops a.tmps) = true) (h : (execOp a.eval o).run Try.prog w = .ok (.value v) w') (hk : K (a.put o.dst v) w') :
    StepG (P := Try.prog) (ro := none) (ops := ops) (Q := Q) o a w K := by
  unfold StepG
  rw [if_pos hw]
  refine ⟨fun _ _ => trivial, ?_⟩
  show o.uponIn (RF none) 0 Try.prog a K Q ((execOp a.eval o).run Try.prog w)
  rw [h]
  exact hk
theorem stepG_yield {Q : Exit → Act → World → Prop} {K : Act → World → Prop} {l : Nat} {args : Array Value} (hw : Region.wanted o (yielded ops a.tmps) = true) (h : (execOp a.eval o).run Try.prog w = (Instr.yield l args).run Try.prog w) {R : Ending → World → Prop}
    (hy : YieldAt (RF none) (0 - 1) Try.prog l args w R) (hk : ∀ e w', R e w' → ∃ v, e = .returned v ∧ K (a.put o.dst v) w') :
    StepG (P := Try.prog) (ro := none) (ops := ops) (Q := Q) o a w K := by
  unfold StepG
  rw [if_pos hw]
  refine ⟨fun _ _ => trivial, ?_⟩
  obtain ⟨fn, tmps, assign, body, h1, h2⟩ := hy
  show o.uponIn (RF none) 0 Try.prog a K Q ((execOp a.eval o).run Try.prog w)
  rw [h, h1]
  refine ⟨fun h => (by cases h), ?_⟩
  refine RoundIn.mono h2 ?_
  intro e w' hr
  obtain ⟨v, rfl, hk⟩ := hk e w' hr
  exact hk
theorem stepG_skip {Q : Exit → Act → World → Prop} {K : Act → World → Prop} (hw : Region.wanted o (yielded ops a.tmps) = false) (hk : K (a.put o.dst undef) w) : StepG (P := Try.prog) (ro := none) (ops := ops) (Q := Q) o a w K := by
  unfold StepG
  rw [hw, if_neg (by decide)]
  exact hk
theorem unwanted_slot {j s : Nat} (hg : o.guard = some (j, true)) (hd : (ops[j]?).bind (·.dst) = some s) (h : a.tmps[s]? = some (.bool false)) : Region.wanted o (yielded ops a.tmps) = false := by
  unfold Region.wanted
  rw [hg]
  simp [yielded, hd, h]
theorem run_mov (x : Operand) (ho : o.op = .move x) (v : Value) (hx : a.eval x = v) : (execOp a.eval o).run Try.prog w = .ok (.value v) w := by
  subst hx; unfold execOp; rw [ho]; rfl
theorem run_lds (x : Operand) (ho : o.op = .load 28 x) (ad : Addr) (hx : a.eval x = .pointer (some ad)) (v : Value) (hc : w.cell? ad = some v) : (execOp a.eval o).run Try.prog w = .ok (.value v) w := by
  unfold execOp
  simp only [ho, hx, Instr.loadAt, Instr.sureAddr, Sem.run_bind, Sem.run_pure, Result.andThen_ok]
  simp [hc, go_sem]
theorem run_lde (x : Operand) (ho : o.op = .load 41 x) (b off : Nat) (hx : a.eval x = .pointer (some ⟨b, off, none⟩)) (e : E7) (hc : cellsAt w b off e) : (execOp a.eval o).run Try.prog w = .ok (.value e.val) w := by
  obtain ⟨h0, h1, h2, h3, h4, h5, h6⟩ := hc
  unfold execOp
  simp only [ho, hx, Instr.loadAt, Instr.sureAddr, Sem.run_bind, Sem.run_pure, Result.andThen_ok]
  simp [h0, h1, h2, h3, h4, h5, h6, go_sem, E7.val]
theorem run_gt0 (x : Operand) (ho : o.op = .binOp .gtr 3 x (.const (.int .i64 0)) 3) (n : Int) (hx : a.eval x = .int .i64 n) : (execOp a.eval o).run Try.prog w = .ok (.value (.bool (decide (0 < n)))) w := by
  have ek : a.eval (.const (.int .i64 0)) = .int .i64 0 := rfl
  unfold execOp
  simp only [ho, hx, ek]
  simp [go_sem]
theorem run_sub1 (x : Operand) (ho : o.op = .binOp .sub 3 x (.const (.int .i64 1)) 3) (ht : o.type = 3) (n m : Int) (hx : a.eval x = .int .i64 n) (hm : IntKind.i64.wrap (n - 1) = m) : (execOp a.eval o).run Try.prog w = .ok (.value (.int .i64 m)) w := by
  have ek : a.eval (.const (.int .i64 1)) = .int .i64 1 := rfl
  unfold execOp
  simp only [ho, hx, ek, ht]
  simp [go_sem, hm]
theorem run_ixs (x y : Operand) (ho : o.op = .indexAddr 28 x y) (b off n c : Nat) (k : Nat) (hx : a.eval x = .slice (some ⟨b, off, none⟩) n c) (hy : a.eval y = .int .i64 (k : Int)) (hk : k < n) : (execOp a.eval o).run Try.prog w = .ok (.value (.pointer (some ⟨b, off + k * 7, none⟩))) w := by
  unfold execOp
  simp only [ho, hx, hy]
  have : (k : Int) < (n : Int) := by omega
  simp [go_sem, this]
theorem run_len (x : Nat) (ho : o.op = .call { callee := .builtin .len, args := #[.tmp x], argTypes := #[28] }) (p : Option Addr) (n c : Nat) (hx : a.eval (.tmp x) = .slice p n c) : (execOp a.eval o).run Try.prog w = .ok (.value (.int .i64 (n : Int))) w := by
  have hx' : a.tmps[x]?.getD undef = .slice p n c := by have h := hx; simp [go_sem] at h; exact h
  unfold execOp
  simp only [ho]
  simp [go_sem, hx']
theorem run_not (x : Operand) (ho : o.op = .unOp .not 4 x) (b : Bool) (hx : a.eval x = .bool b) : (execOp a.eval o).run Try.prog w = .ok (.value (.bool (!b))) w := by
  unfold execOp
  simp only [ho, hx]
  simp [go_sem]
theorem run_pick_t (c x : Nat) (y : Operand) (ho : o.op = .pick (.tmp c) (.tmp x) y) (hc : a.eval (.tmp c) = .bool true) (v : Value) (hx : a.eval (.tmp x) = v) : (execOp a.eval o).run Try.prog w = .ok (.value v) w := by
  have hc' : a.tmps[c]?.getD undef = .bool true := by have h := hc; simp [go_sem] at h; exact h
  have hx' : a.tmps[x]?.getD undef = v := by have h := hx; simp [go_sem] at h; exact h
  unfold execOp
  simp only [ho]
  simp [go_sem, hc', hx']
theorem run_pick_f (c : Nat) (x : Operand) (ho : o.op = .pick (.tmp c) x (.const (.bool false))) (hc : a.eval (.tmp c) = .bool false) : (execOp a.eval o).run Try.prog w = .ok (.value (.bool false)) w := by
  have hc' : a.tmps[c]?.getD undef = .bool false := by have h := hc; simp [go_sem] at h; exact h
  unfold execOp
  simp only [ho]
  simp [go_sem, hc']
theorem run_gt00 (x : Operand) (ho : o.op = .binOp .gtr 3 x (.const (.int .i64 0)) 3) (hx : a.eval x = .int .i64 0) : (execOp a.eval o).run Try.prog w = .ok (.value (.bool false)) w := by
  rw [run_gt0 x ho _ hx]; rfl
theorem run_gt0' (x : Operand) (ho : o.op = .binOp .gtr 3 x (.const (.int .i64 0)) 3) (n : Nat) (hx : a.eval x = .int .i64 (n : Int)) (h : 0 < n) : (execOp a.eval o).run Try.prog w = .ok (.value (.bool true)) w := by
  rw [run_gt0 x ho _ hx, decide_eq_true (by omega)]
theorem run_ixs0 (x : Operand) (ho : o.op = .indexAddr 28 x (.const (.int .i64 0))) (b off n c : Nat) (hx : a.eval x = .slice (some ⟨b, off, none⟩) n c) (hk : 0 < n) : (execOp a.eval o).run Try.prog w = .ok (.value (.pointer (some ⟨b, off, none⟩))) w := by
  have h := run_ixs (w := w) x _ ho b off n c 0 hx rfl hk
  simpa using h
theorem run_yield (f x y : Nat) (ho : o.op = .call { callee := .value (.tmp f), args := #[.tmp x, .tmp y], argTypes := #[41, 41] }) (l : Nat) (hf : a.eval (.tmp f) = .func (.yield l) #[] #[]) (u v : Value) (hx : a.eval (.tmp x) = u) (hy : a.eval (.tmp y) = v) :
    (execOp a.eval o).run Try.prog w = (Instr.yield l #[u, v]).run Try.prog w := by
  have hf' : a.tmps[f]?.getD undef = .func (.yield l) #[] #[] := by have h := hf; simp [go_sem] at h; exact h
  have hx' : a.tmps[x]?.getD undef = u := by have h := hx; simp [go_sem] at h; exact h
  have hy' : a.tmps[y]?.getD undef = v := by have h := hy; simp [go_sem] at h; exact h
  unfold execOp
  simp only [ho]
  simp [go_sem, hf', hx', hy']
theorem inv_old {F : Nat → Value → Prop} {vs : Nat → Value} {D : Nat → Prop} {i j : Nat} {v : Value} (h : F j (vs j)) (hnd : ¬ D i) (hj : D j) : F j (upd vs i v j) := by
  have : j ≠ i := fun e => hnd (e ▸ hj)
  rw [upd_ne this]; exact h
theorem wanted_slot {j s : Nat} (hg : o.guard = some (j, true)) (hd : (ops[j]?).bind (·.dst) = some s) (h : a.tmps[s]? = some (.bool true)) : Region.wanted o (yielded ops a.tmps) = true := by
  unfold Region.wanted
  rw [hg]
  simp [yielded, hd, h]
end
def Closed (ops : Array Oper) (D : Nat → Prop) : Prop := ∀ i o, ops[i]? = some o → D i → ∀ e ∈ o.after, Region.binds .any e = true → D e.on
theorem wp_region_invC {ops : Array Oper} {Q : Exit → Act → World → Prop} (Inv : (Nat → Prop) → Act → World → Prop) {id : Nat} {a : Act} {w : World} (hm : Try.prog.follows .mixedOrders = true) (hok : regionOkG ops = true) (h0 : Inv (fun _ => False) a w.drew)
    (hstep : ∀ (i : Nat) (o : Oper) (D : Nat → Prop) (a : Act) (w : World), ops[i]? = some o → ¬ D i → (∀ e ∈ o.after, Region.binds .any e = true → D e.on) → Closed ops D → Inv D a w → StepG (P := Try.prog) (ro := none) (ops := ops) (Q := Q) o a w (fun a' w' => Inv (fun j => j = i ∨ D j) a' w'))
    (hdone : ∀ (D : Nat → Prop) (a : Act) (w : World), (∀ i, i < ops.size → D i) → Inv D a w → Q .normal a w) : (Code.region id ops true).wpIn (RF none) 0 Try.prog Q a w := by
  refine wp_region_invG (fun D a w => Inv D a w ∧ Closed ops D) hm hok ⟨h0, fun _ _ _ h => h.elim⟩ ?_ (fun D a w h hi => hdone D a w h hi.1)
  intro i o D a w ho hnd he ⟨hi, hc⟩
  have h := hstep i o D a w ho hnd he hc hi
  have hcl : Closed ops (fun j => j = i ∨ D j) := by
    rintro j oj hj (rfl | hd) e hem hb
    · rw [ho] at hj
      obtain rfl := Option.some.inj hj
      exact .inr (he e hem hb)
    · exact .inr (hc j oj hj hd e hem hb)
  unfold StepG at h ⊢
  split
  · rename_i hw
    rw [if_pos hw] at h
    exact Oper.wpIn_mono (fun a' w' h => ⟨h, hcl⟩) h
  · rename_i hw
    rw [if_neg hw] at h
    exact ⟨h, hcl⟩
def preds (ops : Array Oper) (i : Nat) : List Nat := match ops[i]? with
  | some o => (o.after.toList.filter (Region.binds .any)).map (·.on)
  | none => []
def reach (ops : Array Oper) : Nat → Nat → Nat → Bool
  | 0, i, j => i == j
  | f + 1, i, j => i == j || (preds ops i).any fun p => reach ops f p j
theorem closed_reach {ops : Array Oper} {D : Nat → Prop} (hc : Closed ops D) : ∀ (f i j : Nat), reach ops f i j = true → D i → D j
  | 0, i, j, h, hd => by simp only [reach, beq_iff_eq] at h; exact h ▸ hd
  | f + 1, i, j, h, hd => by
    simp only [reach, Bool.or_eq_true, beq_iff_eq, List.any_eq_true] at h
    rcases h with rfl | ⟨p, hp, h⟩
    · exact hd
    · refine closed_reach hc f p j h ?_
      unfold preds at hp
      split at hp
      · rename_i o ho
        simp only [List.mem_map, List.mem_filter] at hp
        obtain ⟨e, ⟨h1, h2⟩, rfl⟩ := hp
        exact hc i o ho hd e (by simpa using h1) h2
      · cases hp
theorem mixed0 : Try.prog.follows .mixedOrders = true := by kernel_rfl
end Go.Proofs.Ytliimpbbppbghaa

