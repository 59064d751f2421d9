/- Texts that belong together. -/
import Derived.Test.YtegjcikofmphjaaGreatDoorQTakes
import Derived.Test.YtegjcikofmphjaaGreatDoorQZs
import Derived.Test.YtegjcikofmphjaaGreatDoorQOps
import Derived.Deep.RegionHeld3
import Derived.Lib.MinMax
import Derived.BigRegionIn
import Derived.RegionIn
import Derived.Stop.RegionWithIn
set_option linter.all false
/- Layer 1: divide: what holds between its operations. -/
namespace Go.Proofs.YtegjcikofmphjaaGreatDoor
open Go Go.RowKit Go.Shelf
attribute [local go_sem] Oper.semAt_some
section
variable {o : Oper} {a : Act} {w : World} {K : Act → World → Prop} {Q : Exit → Act → World → Prop}
theorem wp_load_int (x : Operand) (ho : o.op = .load 3 x) (g : Nat) (hx : a.eval x = .pointer (some ⟨g, 0, none⟩)) (v : Int) (hc : w.cell? ⟨g, 0, none⟩ = some (.int .i64 v)) (hk : K (a.put o.dst (.int .i64 v)) w) : o.wp Tryz.prog a w K Q := by
  unfold Oper.wp execOp
  simp only [ho, hx, Instr.loadAt, Instr.sureAddr, Sem.run_bind, Sem.run_pure, Result.andThen_ok]
  simp [hc, go_sem]
  exact hk
theorem wp_load_slice (x : Operand) (ho : o.op = .load 23 x) (g : Nat) (hx : a.eval x = .pointer (some ⟨g, 0, none⟩)) (p : Option Addr) (n c : Nat) (hc : w.cell? ⟨g, 0, none⟩ = some (.slice p n c)) (hk : K (a.put o.dst (.slice p n c)) w) : o.wp Tryz.prog a w K Q := by
  unfold Oper.wp execOp
  simp only [ho, hx, Instr.loadAt, Instr.sureAddr, Sem.run_bind, Sem.run_pure, Result.andThen_ok]
  simp [hc, go_sem]
  exact hk
theorem wp_alloc_row (ho : o.op = .alloc 89) (hk : K (a.put o.dst (.pointer (some ⟨w.heap.size, 0, none⟩))) (w.alloc (.cells Tryz.zeroCells89 89))) : o.wp Tryz.prog a w K Q := by
  unfold Oper.wp execOp
  simp [ho, go_sem]
  exact hk
theorem wp_call_shifted (x y : Operand) (ts : Array TypeId) (ho : o.op = .call { callee := .value (.func 110), args := #[x, y], argTypes := ts }) (u1 u2 : Value) (h1 : a.eval x = u1) (h2 : a.eval y = u2) (v : Value) {R : World → Prop}
    (h : Calls Tryz.prog 110 #[u1, u2] w fun e w' => e = .returned v ∧ R w') (hk : ∀ w', R w' → K (a.put o.dst v) w') : o.wp Tryz.prog a w K Q := by
  have ef : a.eval (.func 110) = .func (.func 110) #[] #[] := rfl
  have hm : Array.map a.eval #[x, y] = #[u1, u2] := by rw [← h1, ← h2]; simp
  unfold Oper.wp execOp
  simp only [ho, resolve, Deferred.ofValue, invoke, ef, hm]
  simp [callFunc, Tryz.func110, go_sem]
  refine h.mono ?_
  rintro e w' ⟨rfl, hr⟩
  exact hk w' hr
end
def Slot (D6 D8 : Prop) (lo : Nat) (v : Value) (row : Array Value) (w : World) : Prop := D6 → ∃ g cs, v = .pointer (some ⟨g, 0, none⟩) ∧ lo ≤ g ∧ cs.size = 65 ∧ RowAt w g 89 cs ∧ (D8 → cs = row)
theorem Slot.move {D6 D8 D6' D8' : Prop} {lo : Nat} {v : Value} {row : Array Value} {w w' : World} (h : Slot D6 D8 lo v row w) (h6 : D6' → D6) (h8 : D8' → D8) (hw : ∀ g cs, v = .pointer (some ⟨g, 0, none⟩) → RowAt w g 89 cs → RowAt w' g 89 cs) : Slot D6' D8' lo v row w' := fun h6' => by
  obtain ⟨g, cs, h1, h2, h3, h4, h5⟩ := h (h6 h6')
  exact ⟨g, cs, h1, h2, h3, hw g cs h1 h4, fun h => h5 (h8 h)⟩
def Pick (D : Nat → Prop) (W4 : World) (X Y bv : Value) (sx sy : Array Value) (v22 v23 v24 v25 v26 v27 v7 v8 : Value) (w : World) : Prop :=
  Below W4.heap.size W4 w ∧ (D 0 → v22 = X) ∧ (D 1 → v23 = bv) ∧ (D 2 → v24 = .agg sx) ∧ (D 3 → v25 = Y) ∧ (D 4 → v26 = bv) ∧ (D 5 → v27 = .agg sy) ∧
    Slot (D 6) (D 8) W4.heap.size v7 sx w ∧ Slot (D 7) (D 9) W4.heap.size v8 sy w ∧ (D 6 → D 7 → v7 ≠ v8) ∧ (D 8 → D 6) ∧ (D 9 → D 7)
abbrev And' (i : Nat) (D : Nat → Prop) : Nat → Prop := fun j => j = i ∨ D j
section
variable {D : Nat → Prop} {W4 : World} {X Y bv : Value} {sx sy : Array Value} {v22 v23 v24 v25 v26 v27 v7 v8 : Value} {w w' : World}
theorem Pick.s0 (h : Pick D W4 X Y bv sx sy v22 v23 v24 v25 v26 v27 v7 v8 w) : Pick (And' 0 D) W4 X Y bv sx sy X v23 v24 v25 v26 v27 v7 v8 w := by
  simpa [Pick, And'] using ⟨h.1, h.2.2⟩
theorem Pick.s1 (h : Pick D W4 X Y bv sx sy v22 v23 v24 v25 v26 v27 v7 v8 w) : Pick (And' 1 D) W4 X Y bv sx sy v22 bv v24 v25 v26 v27 v7 v8 w := by
  simpa [Pick, And'] using ⟨h.1, h.2.1, h.2.2.2⟩
theorem Pick.s3 (h : Pick D W4 X Y bv sx sy v22 v23 v24 v25 v26 v27 v7 v8 w) : Pick (And' 3 D) W4 X Y bv sx sy v22 v23 v24 Y v26 v27 v7 v8 w := by
  simpa [Pick, And'] using ⟨h.1, h.2.1, h.2.2.1, h.2.2.2.1, h.2.2.2.2.2⟩
theorem Pick.s4 (h : Pick D W4 X Y bv sx sy v22 v23 v24 v25 v26 v27 v7 v8 w) : Pick (And' 4 D) W4 X Y bv sx sy v22 v23 v24 v25 bv v27 v7 v8 w := by
  simpa [Pick, And'] using ⟨h.1, h.2.1, h.2.2.1, h.2.2.2.1, h.2.2.2.2.1, h.2.2.2.2.2.2⟩
theorem Pick.world (h : Pick D W4 X Y bv sx sy v22 v23 v24 v25 v26 v27 v7 v8 w) (hb : Below w.heap.size w w') : Pick D W4 X Y bv sx sy v22 v23 v24 v25 v26 v27 v7 v8 w' := by
  obtain ⟨h1, h2, h3, h4, h5, h6, h7, h8, h9, h10⟩ := h
  exact ⟨h1.trans (hb.mono h1.size), h2, h3, h4, h5, h6, h7, h8.move id id (fun g cs _ h => h.below hb h.lt), h9.move id id (fun g cs _ h => h.below hb h.lt), h10⟩
theorem Pick.s2 (h : Pick D W4 X Y bv sx sy v22 v23 v24 v25 v26 v27 v7 v8 w) (hb : Below w.heap.size w w') : Pick (And' 2 D) W4 X Y bv sx sy v22 v23 (.agg sx) v25 v26 v27 v7 v8 w' := by
  have h := h.world hb
  simpa [Pick, And'] using ⟨h.1, h.2.1, h.2.2.1, h.2.2.2.2⟩
theorem Pick.s5 (h : Pick D W4 X Y bv sx sy v22 v23 v24 v25 v26 v27 v7 v8 w) (hb : Below w.heap.size w w') : Pick (And' 5 D) W4 X Y bv sx sy v22 v23 v24 v25 v26 (.agg sy) v7 v8 w' := by
  have h := h.world hb
  simpa [Pick, And'] using ⟨h.1, h.2.1, h.2.2.1, h.2.2.2.1, h.2.2.2.2.1, h.2.2.2.2.2.1, h.2.2.2.2.2.2.2⟩
theorem Pick.s6 (h : Pick D W4 X Y bv sx sy v22 v23 v24 v25 v26 v27 v7 v8 w) (hn : ¬ D 6) : Pick (And' 6 D) W4 X Y bv sx sy v22 v23 v24 v25 v26 v27 (.pointer (some ⟨w.heap.size, 0, none⟩)) v8 (w.alloc (.cells Tryz.zeroCells89 89)) := by
  obtain ⟨h1, h2, h3, h4, h5, h6, h7, h8, h9, h10, h11, h12⟩ := h
  refine ⟨h1.alloc h1.size _, by simpa [And'] using h2, by simpa [And'] using h3, by simpa [And'] using h4, by simpa [And'] using h5, by simpa [And'] using h6, by simpa [And'] using h7,
    fun _ => ⟨_, _, rfl, h1.size, by kernel_rfl, RowAt.new _ _ _, fun h => ?_⟩, h9.move (by simp [And']) (by simp [And']) (fun g cs _ h => h.alloc _), fun _ hd he => ?_, fun _ => .inl rfl, by simpa [And'] using h12⟩
  · exact absurd (h11 (by simpa [And'] using h)) hn
  · obtain ⟨g, cs, e, _, _, hr, _⟩ := h9 (by simpa [And'] using hd)
    have := hr.lt
    rw [e] at he
    cases he
    omega
theorem Pick.s7 (h : Pick D W4 X Y bv sx sy v22 v23 v24 v25 v26 v27 v7 v8 w) (hn : ¬ D 7) : Pick (And' 7 D) W4 X Y bv sx sy v22 v23 v24 v25 v26 v27 v7 (.pointer (some ⟨w.heap.size, 0, none⟩)) (w.alloc (.cells Tryz.zeroCells89 89)) := by
  obtain ⟨h1, h2, h3, h4, h5, h6, h7, h8, h9, h10, h11, h12⟩ := h
  refine ⟨h1.alloc h1.size _, by simpa [And'] using h2, by simpa [And'] using h3, by simpa [And'] using h4, by simpa [And'] using h5, by simpa [And'] using h6, by simpa [And'] using h7,
    h8.move (by simp [And']) (by simp [And']) (fun g cs _ h => h.alloc _), fun _ => ⟨_, _, rfl, h1.size, by kernel_rfl, RowAt.new _ _ _, fun h => ?_⟩, fun hd _ he => ?_, by simpa [And'] using h11, fun _ => .inl rfl⟩
  · exact absurd (h12 (by simpa [And'] using h)) hn
  · obtain ⟨g, cs, e, _, _, hr, _⟩ := h8 (by simpa [And'] using hd)
    have := hr.lt
    rw [e] at he
    cases he
    omega
theorem Pick.s8 (h : Pick D W4 X Y bv sx sy v22 v23 v24 v25 v26 v27 v7 v8 w) (hd : D 6) (hsx : sx.size = 65) : ∃ g cs, v7 = .pointer (some ⟨g, 0, none⟩) ∧ RowAt w g 89 cs ∧ cs.size = 65 ∧ Pick (And' 8 D) W4 X Y bv sx sy v22 v23 v24 v25 v26 v27 v7 v8 (w.setRow g sx) := by
  obtain ⟨h1, h2, h3, h4, h5, h6, h7, h8, h9, h10, h11, h12⟩ := h
  obtain ⟨g, cs, e, hg, hs, hr, _⟩ := h8 hd
  refine ⟨g, cs, e, hr, hs, below_setRow2 h1 hg _, by simpa [And'] using h2, by simpa [And'] using h3, by simpa [And'] using h4, by simpa [And'] using h5, by simpa [And'] using h6, by simpa [And'] using h7,
    fun _ => ⟨g, sx, e, hg, hsx, hr.setRow _, fun _ => rfl⟩, fun h7' => ?_, by simpa [And'] using h10, fun _ => .inr hd, by simpa [And'] using h12⟩
  have hd7 : D 7 := by simpa [And'] using h7'
  have hne := h10 hd hd7
  refine h9.move (D6' := True) (D8' := And' 8 D 9) (fun _ => hd7) (by simp [And']) (fun g' cs' e' h => h.setRowOther _ fun he => hne ?_) trivial
  rw [e, e', he]
theorem Pick.s9 (h : Pick D W4 X Y bv sx sy v22 v23 v24 v25 v26 v27 v7 v8 w) (hd : D 7) (hsy : sy.size = 65) : ∃ g cs, v8 = .pointer (some ⟨g, 0, none⟩) ∧ RowAt w g 89 cs ∧ cs.size = 65 ∧ Pick (And' 9 D) W4 X Y bv sx sy v22 v23 v24 v25 v26 v27 v7 v8 (w.setRow g sy) := by
  obtain ⟨h1, h2, h3, h4, h5, h6, h7, h8, h9, h10, h11, h12⟩ := h
  obtain ⟨g, cs, e, hg, hs, hr, _⟩ := h9 hd
  refine ⟨g, cs, e, hr, hs, below_setRow2 h1 hg _, by simpa [And'] using h2, by simpa [And'] using h3, by simpa [And'] using h4, by simpa [And'] using h5, by simpa [And'] using h6, by simpa [And'] using h7,
    fun h6' => ?_, fun _ => ⟨g, sy, e, hg, hsy, hr.setRow _, fun _ => rfl⟩, by simpa [And'] using h10, by simpa [And'] using h11, fun _ => .inr hd⟩
  have hd6 : D 6 := by simpa [And'] using h6'
  have hne := h10 hd6 hd
  refine h8.move (D6' := True) (D8' := And' 9 D 8) (fun _ => hd6) (by simp [And']) (fun g' cs' e' h => h.setRowOther _ fun he => hne ?_) trivial
  rw [e, e', he]
end
structure BackFix (h0 h3 gq gc g7 D b n : Nat) (Qt : List Nat) (W : World) : Prop where
  q1 : RowAt W (h0 + 1) 89 Tryz.zeroCells89
  q2 : RowAt W (h0 + 1 + 1) 89 Tryz.zeroCells89
  by_ : Boxed W h3 3 (.int .i64 b)
  q : RowAt W gq 89 (arr Qt)
  it : Boxed W (gc + 1) 23 (.slice (some ⟨g7, 0, none⟩) (n + 1) 65)
  d : W.heap[D]? = some (.deferred (some []))
theorem BackFix.move {h0 h3 gq gc g7 D b n : Nat} {Qt : List Nat} {W W' : World} (h : BackFix h0 h3 gq gc g7 D b n Qt W) (hne : ∀ k, k = h0 + 1 ∨ k = h0 + 1 + 1 ∨ k = h3 ∨ k = gq ∨ k = gc + 1 ∨ k = D → k ≠ g7 ∧ k ≠ gc)
    (hk : ∀ k, k < W.heap.size → k ≠ g7 → k ≠ gc → W'.heap[k]? = W.heap[k]?) : BackFix h0 h3 gq gc g7 D b n Qt W' := by
  have go : ∀ k, k = h0 + 1 ∨ k = h0 + 1 + 1 ∨ k = h3 ∨ k = gq ∨ k = gc + 1 ∨ k = D → k < W.heap.size → W'.heap[k]? = W.heap[k]? := fun k hk' hl => hk k hl (hne k hk').1 (hne k hk').2
  exact ⟨(go _ (by simp) h.q1.lt).trans h.q1, (go _ (by simp) h.q2.lt).trans h.q2, (go _ (by simp) h.by_.lt).trans h.by_, (go _ (by simp) h.q.lt).trans h.q, (go _ (by simp) h.it.lt).trans h.it, (go _ (by simp) (Array.getElem?_eq_some_iff.1 h.d).1).trans h.d⟩
theorem BackFix.own (h0 h3 gq gc g7 D b n : Nat) (Qt : List Nat) (B : Nat) (hD : D < B) : OwnFrom B (fun (_ : Nat) W => BackFix h0 h3 gq gc g7 D b n Qt W) := fun s W W' row h hg hr' => by
  have hr : ∀ r, row = some r → ∃ o : Obj, W.heap[r]? = some o ∧ o.isCells = false := fun r e => (hr' r e).2
  exact ⟨RowAt.own (h0 + 1) _ (fun (_ : Unit) => _) () _ _ _ h.q1 hg hr, RowAt.own (h0 + 1 + 1) _ (fun (_ : Unit) => _) () _ _ _ h.q2 hg hr,
    boxed_own h3 _ (fun (_ : Unit) => _) () _ _ _ h.by_ hg hr, RowAt.own gq _ (fun (_ : Unit) => arr Qt) () _ _ _ h.q hg hr, boxed_own (gc + 1) _ (fun (_ : Unit) => _) () _ _ _ h.it hg hr,
    (hg.block D (Array.getElem?_eq_some_iff.1 h.d).1 (fun e => by have := (hr' D e.symm).1; omega)).trans h.d⟩
def BackSt (g7 gc n b : Nat) (R : List Nat) (s : Nat) (W : World) : Prop := ∃ (V : List Nat) (t : Nat), s ≤ n + 1 ∧ RowAt W g7 89 (arr V) ∧ Digits V ∧ V.length = 65 ∧ t < 2 ^ b ∧ Boxed W gc 87 (.int .u32 ((t * 2 ^ (32 - b) : Nat) : Int)) ∧ (∀ j, j < s → V[j]? = R[j]?) ∧ val (R.drop s) = 2 ^ b * val (V.drop s) + t
theorem BackSt.own (g7 gc n b : Nat) (R : List Nat) : Own (BackSt g7 gc n b R) := fun s A B row h hg hr => by
  obtain ⟨V, t, h1, h2, h3, h4, h5, h6, h7⟩ := h
  exact ⟨V, t, h1, RowAt.own g7 _ (fun (_ : Unit) => arr V) () _ _ _ h2 hg hr, h3, h4, h5, boxed_own gc _ (fun (_ : Unit) => _) () _ _ _ h6 hg hr, h7⟩
def Tk (D : Nat → Prop) (kv ysl mv k1 k2 s47 s50 qv ptr : Value) (W0 : World) (P1 P2 : World → Prop) (v40 v41 v42 v43 v44 v45 v46 v47 v48 v49 v50 v51 v52 : Value) (w : World) : Prop :=
  (D 0 → v40 = kv) ∧ (D 1 → v41 = kv) ∧ (D 2 → v42 = kv) ∧ (D 3 → v43 = ysl) ∧ (D 4 → v44 = mv) ∧ (D 5 → v45 = k1) ∧ (D 6 → v46 = k2) ∧ (D 7 → v47 = s47) ∧ (D 8 → v48 = ysl) ∧ (D 9 → v49 = mv) ∧ (D 10 → v50 = s50) ∧ (D 11 → v51 = qv) ∧ (D 12 → v52 = ptr) ∧ (¬ D 11 → w = W0) ∧ (D 11 → ¬ D 13 → P1 w) ∧ (D 13 → P2 w) ∧ (D 13 → D 11)
section
variable {D : Nat → Prop} {kv ysl mv k1 k2 s47 s50 qv ptr : Value} {W0 : World} {P1 P2 : World → Prop} {v40 v41 v42 v43 v44 v45 v46 v47 v48 v49 v50 v51 v52 : Value} {w : World}
theorem Tk.s0 (h : Tk D kv ysl mv k1 k2 s47 s50 qv ptr W0 P1 P2 v40 v41 v42 v43 v44 v45 v46 v47 v48 v49 v50 v51 v52 w) : Tk (And' 0 D) kv ysl mv k1 k2 s47 s50 qv ptr W0 P1 P2 kv v41 v42 v43 v44 v45 v46 v47 v48 v49 v50 v51 v52 w := by
  obtain ⟨c0, c1, c2, c3, c4, c5, c6, c7, c8, c9, c10, c11, c12, hw, hp, hq, hd⟩ := h
  refine ⟨?_, ?_, ?_, ?_, ?_, ?_, ?_, ?_, ?_, ?_, ?_, ?_, ?_, ?_, ?_, ?_, ?_⟩ <;> simp only [And'] <;> first | exact fun _ => rfl | (simp; assumption) | (simp; done)
theorem Tk.s1 (h : Tk D kv ysl mv k1 k2 s47 s50 qv ptr W0 P1 P2 v40 v41 v42 v43 v44 v45 v46 v47 v48 v49 v50 v51 v52 w) : Tk (And' 1 D) kv ysl mv k1 k2 s47 s50 qv ptr W0 P1 P2 v40 kv v42 v43 v44 v45 v46 v47 v48 v49 v50 v51 v52 w := by
  obtain ⟨c0, c1, c2, c3, c4, c5, c6, c7, c8, c9, c10, c11, c12, hw, hp, hq, hd⟩ := h
  refine ⟨?_, ?_, ?_, ?_, ?_, ?_, ?_, ?_, ?_, ?_, ?_, ?_, ?_, ?_, ?_, ?_, ?_⟩ <;> simp only [And'] <;> first | exact fun _ => rfl | (simp; assumption) | (simp; done)
theorem Tk.s2 (h : Tk D kv ysl mv k1 k2 s47 s50 qv ptr W0 P1 P2 v40 v41 v42 v43 v44 v45 v46 v47 v48 v49 v50 v51 v52 w) : Tk (And' 2 D) kv ysl mv k1 k2 s47 s50 qv ptr W0 P1 P2 v40 v41 kv v43 v44 v45 v46 v47 v48 v49 v50 v51 v52 w := by
  obtain ⟨c0, c1, c2, c3, c4, c5, c6, c7, c8, c9, c10, c11, c12, hw, hp, hq, hd⟩ := h
  refine ⟨?_, ?_, ?_, ?_, ?_, ?_, ?_, ?_, ?_, ?_, ?_, ?_, ?_, ?_, ?_, ?_, ?_⟩ <;> simp only [And'] <;> first | exact fun _ => rfl | (simp; assumption) | (simp; done)
theorem Tk.s3 (h : Tk D kv ysl mv k1 k2 s47 s50 qv ptr W0 P1 P2 v40 v41 v42 v43 v44 v45 v46 v47 v48 v49 v50 v51 v52 w) : Tk (And' 3 D) kv ysl mv k1 k2 s47 s50 qv ptr W0 P1 P2 v40 v41 v42 ysl v44 v45 v46 v47 v48 v49 v50 v51 v52 w := by
  obtain ⟨c0, c1, c2, c3, c4, c5, c6, c7, c8, c9, c10, c11, c12, hw, hp, hq, hd⟩ := h
  refine ⟨?_, ?_, ?_, ?_, ?_, ?_, ?_, ?_, ?_, ?_, ?_, ?_, ?_, ?_, ?_, ?_, ?_⟩ <;> simp only [And'] <;> first | exact fun _ => rfl | (simp; assumption) | (simp; done)
theorem Tk.s4 (h : Tk D kv ysl mv k1 k2 s47 s50 qv ptr W0 P1 P2 v40 v41 v42 v43 v44 v45 v46 v47 v48 v49 v50 v51 v52 w) : Tk (And' 4 D) kv ysl mv k1 k2 s47 s50 qv ptr W0 P1 P2 v40 v41 v42 v43 mv v45 v46 v47 v48 v49 v50 v51 v52 w := by
  obtain ⟨c0, c1, c2, c3, c4, c5, c6, c7, c8, c9, c10, c11, c12, hw, hp, hq, hd⟩ := h
  refine ⟨?_, ?_, ?_, ?_, ?_, ?_, ?_, ?_, ?_, ?_, ?_, ?_, ?_, ?_, ?_, ?_, ?_⟩ <;> simp only [And'] <;> first | exact fun _ => rfl | (simp; assumption) | (simp; done)
theorem Tk.s5 (h : Tk D kv ysl mv k1 k2 s47 s50 qv ptr W0 P1 P2 v40 v41 v42 v43 v44 v45 v46 v47 v48 v49 v50 v51 v52 w) : Tk (And' 5 D) kv ysl mv k1 k2 s47 s50 qv ptr W0 P1 P2 v40 v41 v42 v43 v44 k1 v46 v47 v48 v49 v50 v51 v52 w := by
  obtain ⟨c0, c1, c2, c3, c4, c5, c6, c7, c8, c9, c10, c11, c12, hw, hp, hq, hd⟩ := h
  refine ⟨?_, ?_, ?_, ?_, ?_, ?_, ?_, ?_, ?_, ?_, ?_, ?_, ?_, ?_, ?_, ?_, ?_⟩ <;> simp only [And'] <;> first | exact fun _ => rfl | (simp; assumption) | (simp; done)
theorem Tk.s6 (h : Tk D kv ysl mv k1 k2 s47 s50 qv ptr W0 P1 P2 v40 v41 v42 v43 v44 v45 v46 v47 v48 v49 v50 v51 v52 w) : Tk (And' 6 D) kv ysl mv k1 k2 s47 s50 qv ptr W0 P1 P2 v40 v41 v42 v43 v44 v45 k2 v47 v48 v49 v50 v51 v52 w := by
  obtain ⟨c0, c1, c2, c3, c4, c5, c6, c7, c8, c9, c10, c11, c12, hw, hp, hq, hd⟩ := h
  refine ⟨?_, ?_, ?_, ?_, ?_, ?_, ?_, ?_, ?_, ?_, ?_, ?_, ?_, ?_, ?_, ?_, ?_⟩ <;> simp only [And'] <;> first | exact fun _ => rfl | (simp; assumption) | (simp; done)
theorem Tk.s7 (h : Tk D kv ysl mv k1 k2 s47 s50 qv ptr W0 P1 P2 v40 v41 v42 v43 v44 v45 v46 v47 v48 v49 v50 v51 v52 w) : Tk (And' 7 D) kv ysl mv k1 k2 s47 s50 qv ptr W0 P1 P2 v40 v41 v42 v43 v44 v45 v46 s47 v48 v49 v50 v51 v52 w := by
  obtain ⟨c0, c1, c2, c3, c4, c5, c6, c7, c8, c9, c10, c11, c12, hw, hp, hq, hd⟩ := h
  refine ⟨?_, ?_, ?_, ?_, ?_, ?_, ?_, ?_, ?_, ?_, ?_, ?_, ?_, ?_, ?_, ?_, ?_⟩ <;> simp only [And'] <;> first | exact fun _ => rfl | (simp; assumption) | (simp; done)
theorem Tk.s8 (h : Tk D kv ysl mv k1 k2 s47 s50 qv ptr W0 P1 P2 v40 v41 v42 v43 v44 v45 v46 v47 v48 v49 v50 v51 v52 w) : Tk (And' 8 D) kv ysl mv k1 k2 s47 s50 qv ptr W0 P1 P2 v40 v41 v42 v43 v44 v45 v46 v47 ysl v49 v50 v51 v52 w := by
  obtain ⟨c0, c1, c2, c3, c4, c5, c6, c7, c8, c9, c10, c11, c12, hw, hp, hq, hd⟩ := h
  refine ⟨?_, ?_, ?_, ?_, ?_, ?_, ?_, ?_, ?_, ?_, ?_, ?_, ?_, ?_, ?_, ?_, ?_⟩ <;> simp only [And'] <;> first | exact fun _ => rfl | (simp; assumption) | (simp; done)
theorem Tk.s9 (h : Tk D kv ysl mv k1 k2 s47 s50 qv ptr W0 P1 P2 v40 v41 v42 v43 v44 v45 v46 v47 v48 v49 v50 v51 v52 w) : Tk (And' 9 D) kv ysl mv k1 k2 s47 s50 qv ptr W0 P1 P2 v40 v41 v42 v43 v44 v45 v46 v47 v48 mv v50 v51 v52 w := by
  obtain ⟨c0, c1, c2, c3, c4, c5, c6, c7, c8, c9, c10, c11, c12, hw, hp, hq, hd⟩ := h
  refine ⟨?_, ?_, ?_, ?_, ?_, ?_, ?_, ?_, ?_, ?_, ?_, ?_, ?_, ?_, ?_, ?_, ?_⟩ <;> simp only [And'] <;> first | exact fun _ => rfl | (simp; assumption) | (simp; done)
theorem Tk.s10 (h : Tk D kv ysl mv k1 k2 s47 s50 qv ptr W0 P1 P2 v40 v41 v42 v43 v44 v45 v46 v47 v48 v49 v50 v51 v52 w) : Tk (And' 10 D) kv ysl mv k1 k2 s47 s50 qv ptr W0 P1 P2 v40 v41 v42 v43 v44 v45 v46 v47 v48 v49 s50 v51 v52 w := by
  obtain ⟨c0, c1, c2, c3, c4, c5, c6, c7, c8, c9, c10, c11, c12, hw, hp, hq, hd⟩ := h
  refine ⟨?_, ?_, ?_, ?_, ?_, ?_, ?_, ?_, ?_, ?_, ?_, ?_, ?_, ?_, ?_, ?_, ?_⟩ <;> simp only [And'] <;> first | exact fun _ => rfl | (simp; assumption) | (simp; done)
theorem Tk.s12 (h : Tk D kv ysl mv k1 k2 s47 s50 qv ptr W0 P1 P2 v40 v41 v42 v43 v44 v45 v46 v47 v48 v49 v50 v51 v52 w) : Tk (And' 12 D) kv ysl mv k1 k2 s47 s50 qv ptr W0 P1 P2 v40 v41 v42 v43 v44 v45 v46 v47 v48 v49 v50 v51 ptr w := by
  obtain ⟨c0, c1, c2, c3, c4, c5, c6, c7, c8, c9, c10, c11, c12, hw, hp, hq, hd⟩ := h
  refine ⟨?_, ?_, ?_, ?_, ?_, ?_, ?_, ?_, ?_, ?_, ?_, ?_, ?_, ?_, ?_, ?_, ?_⟩ <;> simp only [And'] <;> first | exact fun _ => rfl | (simp; assumption) | (simp; done)
theorem Tk.s11 (h : Tk D kv ysl mv k1 k2 s47 s50 qv ptr W0 P1 P2 v40 v41 v42 v43 v44 v45 v46 v47 v48 v49 v50 v51 v52 w) (hn : ¬ D 11) {w' : World} (hp' : P1 w') : Tk (And' 11 D) kv ysl mv k1 k2 s47 s50 qv ptr W0 P1 P2 v40 v41 v42 v43 v44 v45 v46 v47 v48 v49 v50 qv v52 w' := by
  obtain ⟨c0, c1, c2, c3, c4, c5, c6, c7, c8, c9, c10, c11, c12, hw, hp, hq, hd⟩ := h
  have hn13 : ¬ D 13 := fun e => hn (hd e)
  refine ⟨?_, ?_, ?_, ?_, ?_, ?_, ?_, ?_, ?_, ?_, ?_, ?_, ?_, ?_, ?_, ?_, ?_⟩ <;> simp only [And'] <;> first | exact fun _ => rfl | (simp; assumption) | (simp; done) | exact fun _ _ => hp' | exact fun h => absurd (by simpa using h) hn13
theorem Tk.s13 (h : Tk D kv ysl mv k1 k2 s47 s50 qv ptr W0 P1 P2 v40 v41 v42 v43 v44 v45 v46 v47 v48 v49 v50 v51 v52 w) (h11 : D 11) {w' : World} (hp' : P2 w') : Tk (And' 13 D) kv ysl mv k1 k2 s47 s50 qv ptr W0 P1 P2 v40 v41 v42 v43 v44 v45 v46 v47 v48 v49 v50 v51 v52 w' := by
  obtain ⟨c0, c1, c2, c3, c4, c5, c6, c7, c8, c9, c10, c11, c12, hw, hp, hq, hd⟩ := h
  refine ⟨?_, ?_, ?_, ?_, ?_, ?_, ?_, ?_, ?_, ?_, ?_, ?_, ?_, ?_, ?_, ?_, ?_⟩ <;> simp only [And'] <;> first | exact fun _ => rfl | (simp; assumption) | exact fun _ => hp' | (simp [h11]; done) | (simp; done)
end
structure DivFix (h0 h3 gq g8 pl b : Nat) (ysl : Value) (Y : List Nat) (W : World) : Prop where
  y : Boxed W h0 23 ysl
  q1 : RowAt W (h0 + 1) 89 Tryz.zeroCells89
  q2 : RowAt W (h0 + 1 + 1) 89 Tryz.zeroCells89
  by_ : Boxed W h3 3 (.int .i64 b)
  r8 : RowAt W g8 89 (arr Y)
  it : Boxed W (gq + 1) 23 (.slice (some ⟨gq, 0, none⟩) pl 65)
theorem DivFix.move {h0 h3 gq g8 pl b : Nat} {ysl : Value} {Y : List Nat} {W W' : World} (h : DivFix h0 h3 gq g8 pl b ysl Y W) (g7 : Nat) (hne : ∀ k, k = h0 ∨ k = h0 + 1 ∨ k = h0 + 1 + 1 ∨ k = h3 ∨ k = g8 ∨ k = gq + 1 → k ≠ g7 ∧ k ≠ gq)
    (hk : ∀ k, k < W.heap.size → k ≠ g7 → k ≠ gq → W'.heap[k]? = W.heap[k]?) : DivFix h0 h3 gq g8 pl b ysl Y W' := by
  have go : ∀ k, k = h0 ∨ k = h0 + 1 ∨ k = h0 + 1 + 1 ∨ k = h3 ∨ k = g8 ∨ k = gq + 1 → k < W.heap.size → W'.heap[k]? = W.heap[k]? := fun k hk' hl => hk k hl (hne k hk').1 (hne k hk').2
  exact ⟨(go _ (by simp) h.y.lt).trans h.y, (go _ (by simp) h.q1.lt).trans h.q1, (go _ (by simp) h.q2.lt).trans h.q2, (go _ (by simp) h.by_.lt).trans h.by_, (go _ (by simp) h.r8.lt).trans h.r8, (go _ (by simp) h.it.lt).trans h.it⟩
theorem DivFix.own (h0 h3 gq g8 pl b : Nat) (ysl : Value) (Y : List Nat) : Own (fun (_ : Nat) W => DivFix h0 h3 gq g8 pl b ysl Y W) := fun s A B row h hg hr =>
  ⟨boxed_own h0 _ (fun (_ : Unit) => ysl) () _ _ _ h.y hg hr, RowAt.own (h0 + 1) _ (fun (_ : Unit) => _) () _ _ _ h.q1 hg hr, RowAt.own (h0 + 1 + 1) _ (fun (_ : Unit) => _) () _ _ _ h.q2 hg hr,
    boxed_own h3 _ (fun (_ : Unit) => _) () _ _ _ h.by_ hg hr, RowAt.own g8 _ (fun (_ : Unit) => arr Y) () _ _ _ h.r8 hg hr, boxed_own (gq + 1) _ (fun (_ : Unit) => _) () _ _ _ h.it hg hr⟩
def DivSt (g7 gq pl DD V0 s : Nat) (W : World) : Prop := ∃ R Qt : List Nat, s ≤ pl ∧ RowAt W g7 89 (arr R) ∧ RowAt W gq 89 (arr Qt) ∧ Digits R ∧ R.length = 65 ∧ Digits Qt ∧ Qt.length = 65 ∧ val R + DD * B32 ^ s * val (Qt.drop s) = V0 ∧ val (R.drop s) < DD
theorem DivSt.own (g7 gq pl DD V0 : Nat) : Own (DivSt g7 gq pl DD V0) := fun s A B row h hg hr => by
  obtain ⟨R, Qt, h1, h2, h3, h4⟩ := h
  exact ⟨R, Qt, h1, RowAt.own g7 _ (fun (_ : Unit) => arr R) () _ _ _ h2 hg hr, RowAt.own gq _ (fun (_ : Unit) => arr Qt) () _ _ _ h3 hg hr, h4⟩
end Go.Proofs.YtegjcikofmphjaaGreatDoor

