/- Texts that belong together. -/
import Derived.Test.YtegjcikofmphjaaGreatDoorQRootMs
import Derived.Test.YtegjcikofmphjaaGreatDoorQRootIn
import Derived.Test.YtegjcikofmphjaaGreatDoorQRegs
import Derived.LoopN
set_option linter.all false
/- Layer 2: what Made's numbers make; the facts that its regions carry. -/
namespace Go.Proofs.YtegjcikofmphjaaGreatDoor
open Go Go.RowKit Go.Shelf
theorem rem_inM (m : Int) {c : Int} (hc : 0 < c) : -c < m.tmod c ∧ m.tmod c < c := by
  have h1 := Int.tmod_lt_of_pos m hc
  have := Int.tmod_lt_of_pos (-m) hc
  rw [Int.neg_tmod] at this
  omega
theorem quo_le {a g : Int} (ha : 0 ≤ a) (hg : 0 < g) : 0 ≤ a / g ∧ a / g ≤ a := by
  refine ⟨Int.ediv_nonneg ha (by omega), ?_⟩
  exact Int.ediv_le_self g ha
theorem rtr_of {a s zn zd : Int} (ha : -9223372036854775808 ≤ a ∧ a ≤ 9223372036854775807) (hs : -1 ≤ s) (hs' : s ≤ 1) (h0 : 0 ≤ zn) (h1 : 0 < zd) (l0 : zn.natAbs < B32 ^ 8) (l1 : zd.natAbs < B32 ^ 8) :
    RtR a (ofS s zn zd) (ofN s zn zd) (ofD s zn zd) ∧ (fit8 (ofN s zn zd) && fit8 (ofD s zn zd)) = true := by
  have hl := gcdZ_low h0 h1
  have hg := gcdZ_pos (a := zn) h1
  have q0 := quo_le h0 hg
  have q1 := quo_le (show 0 ≤ zd by omega) hg
  have hb : 1 < B32 ^ 8 := by decide
  have n8 : (ofN s zn zd).natAbs < B32 ^ 8 := by unfold ofN; split <;> omega
  have d8 : (ofD s zn zd).natAbs < B32 ^ 8 := by unfold ofD; split <;> omega
  have h3 : s = -1 ∨ s = 0 ∨ s = 1 := by omega
  refine ⟨{ a1 := ha, s1 := ?_, n0 := ?_, n8 := n8, d1 := ?_, d8 := d8, g := ?_, z := ?_ }, ?_⟩
  · unfold ofS
    rcases Int.lt_trichotomy (ofN s zn zd) 0 with h | h | h
    · rw [Int.sign_eq_neg_one_of_neg h]; omega
    · rw [h]; simp
    · rw [Int.sign_eq_one_of_pos h]; omega
  · unfold ofN; split <;> omega
  · unfold ofD; split <;> omega
  · unfold ofN ofD
    by_cases h : s = 0
    · rw [if_pos h, if_pos h]; exact gcdZ_one 0
    · rw [if_neg h, if_neg h]; exact hl.1
  · by_cases h : s = 0
    · have : ofN s zn zd = 0 := by unfold ofN; rw [if_pos h]
      unfold ofS; rw [this]; simp
    · unfold ofS
      constructor
      · intro e
        rcases Int.mul_eq_zero.1 e with e | e
        · exact absurd e h
        · exact Int.sign_eq_zero_iff_zero.1 e
      · intro e; rw [e]; simp
  · show (fitK 8 _ && fitK 8 _) = true
    rw [lim_fitK n8, lim_fitK d8]; rfl
def RightV (v : Value) (w : World) : Prop := ∃ a s N D, RootV w v a s N D ∧ RtR a s N D
theorem RightV.ext {v : Value} {w w' : World} (h : RightV v w) (hx : Ext w w') : RightV v w' := by
  obtain ⟨a, s, N, D, h1, h2⟩ := h
  exact ⟨a, s, N, D, h1.ext hx, h2⟩
theorem RightV.setAny {W : World} {v : Value} {g : Nat} {t : TypeId} {old : Array Value} (h : RightV v W) (hr : RowAt W g t old) (hn : noU32 old = true) (cs : Array Value) : RightV v (W.setRow g cs) := by
  obtain ⟨a, s, N, D, h1, h2⟩ := h
  exact ⟨a, s, N, D, h1.setAny hr hn cs, h2⟩
theorem RightV.parts {v : Value} {w : World} (h : RightV v w) : ∃ a s p n c q m e, v = .agg #[.int .i64 a, .int .i64 s, .bool false, .slice p n c, .bool false, .slice q m e] := by
  obtain ⟨a, s, N, D, ⟨p, n, c, q, m, e, rfl, _, _⟩, _⟩ := h
  exact ⟨_, _, _, _, _, _, _, _, rfl⟩
def RightTrue (t : Value) (w : World) : Prop := ∃ v, t = .tuple #[v, .bool true] ∧ RightV v w
theorem RightTrue.ext {v : Value} {w w' : World} (h : RightTrue v w) (hx : Ext w w') : RightTrue v w' := by
  obtain ⟨r, e, hz⟩ := h; exact ⟨r, e, hz.ext hx⟩
theorem r2of_right (va vb : Value) (a s zn zd : Int) (w : World) (ha : IsN zn va w) (hb : IsN zd vb w) (ra : -9223372036854775808 ≤ a ∧ a ≤ 9223372036854775807) (hs : -1 ≤ s) (hs' : s ≤ 1) (h0 : 0 ≤ zn) (h1 : 0 < zd) (l0 : zn.natAbs < B32 ^ 8) (l1 : zd.natAbs < B32 ^ 8) :
    Calls Tryz.prog 14 #[.int .i64 a, .int .i64 s, va, vb] w fun e w' => ∃ t, e = .returned t ∧ RightTrue t w' ∧ Ext w w' := by
  have hr := rtr_of ra hs hs' h0 h1 l0 l1
  refine (r2of_ok va vb a s zn zd w ha hb h0 h1 hs hs').mono fun e w' h => ?_
  obtain ⟨v, rfl, hv, hx⟩ := h.fits hr.2
  exact ⟨_, rfl, ⟨v, rfl, _, _, _, _, hv, hr.1⟩, hx⟩
theorem ent_r2of (args : Array Value) (w : World) : (callFunc 14 args).run Tryz.prog w = .ok (.enter 14 args) w := enters_of Tryz.func14 (by kernel_rfl) rfl args w
def OwnR (b : Nat) (v : Value) (w : World) : Prop := ∃ g, v = .pointer (some ⟨g, 0, none⟩) ∧ b ≤ g ∧ RowAt w g 32 (rootCells 0 0 false none 0 0 false none 0 0)
theorem OwnR.ext {b : Nat} {v : Value} {w w' : World} (h : OwnR b v w) (hx : Ext w w') : OwnR b v w' := by
  obtain ⟨g, e, l, r⟩ := h
  exact ⟨g, e, l, hx.row r⟩
theorem ownR_new {b : Nat} {w0 w : World} (h : Ext w0 w) (hb : b ≤ w0.heap.size) : OwnR b (.pointer (some ⟨w.heap.size, 0, none⟩)) (w.alloc (.cells (rootCells 0 0 false none 0 0 false none 0 0) 32)) :=
  ⟨_, rfl, Nat.le_trans hb (Below.size h), RowAt.new _ _ _⟩
section
variable {o : Oper} {a : Act} {w : World}
theorem run_alloc_root (ho : o.op = .alloc 32) : (execOp a.eval o).run Tryz.prog w = .ok (.value (.pointer (some ⟨w.heap.size, 0, none⟩))) (w.alloc (.cells (rootCells 0 0 false none 0 0 false none 0 0) 32)) := by
  unfold execOp
  simp only [ho]
  simp [go_sem, rootCells]
theorem run_ix4 (k : Nat) (hk : k < 4) (x : Operand) (ho : o.op = .indexAddr 27 x (.const (.int .i64 (k : Int)))) (g : Nat) (hx : a.eval x = .pointer (some ⟨g, 0, none⟩)) : (execOp a.eval o).run Tryz.prog w = .ok (.value (.pointer (some ⟨g, k, none⟩))) w := by
  have e : a.eval (.const (.int .i64 (k : Int))) = .int .i64 (k : Int) := rfl
  have h2 : (k : Int) < 4 := by omega
  unfold execOp
  simp only [ho, hx, e]
  simp [go_sem, h2]
theorem run_remI (x y : Operand) (ho : o.op = .binOp .rem 3 x y 3) (ht : o.type = 3) (u k r : Int) (h1 : 2 ≤ k) (h2 : k ≤ 9223372036854775807) (hr : u.tmod k = r) (hx : a.eval x = .int .i64 u) (hy : a.eval y = .int .i64 k) : (execOp a.eval o).run Tryz.prog w = .ok (.value (.int .i64 r)) w := by
  subst hr
  have h3 : wrap64 (u.tmod k) = u.tmod k := by
    have h4 : u.tmod k = if 0 ≤ u then u % k else -((-u) % k) := by
      split
      · exact Int.tmod_eq_emod_of_nonneg (by assumption)
      · rw [show u.tmod k = -((-u).tmod k) by rw [Int.neg_tmod, Int.neg_neg], Int.tmod_eq_emod_of_nonneg (by omega)]
    have h5 := Int.emod_lt_of_pos u (show 0 < k by omega)
    have h6 := Int.emod_lt_of_pos (-u) (show 0 < k by omega)
    have h7 := Int.emod_nonneg u (show k ≠ 0 by omega)
    have h8 := Int.emod_nonneg (-u) (show k ≠ 0 by omega)
    unfold wrap64; rw [h4]; split <;> omega
  have h9 : k ≠ 0 := by omega
  unfold execOp
  simp only [ho, hx, hy, ht]
  simp [go_sem, h9]
end
theorem mul_small {x d : Int} (h1 : 0 ≤ x) (h2 : x < 100) (h3 : 1 ≤ d) (h4 : d ≤ 12) : 0 ≤ x * x ∧ x * x ≤ 9801 ∧ 0 ≤ x * x * d ∧ x * x * d ≤ 117612 := by
  have a1 := Int.mul_nonneg h1 h1
  have a2 : x * x ≤ 9801 := by
    have := Int.mul_nonneg (show 0 ≤ 99 - x by omega) (show 0 ≤ 99 + x by omega)
    grind
  have a3 := Int.mul_nonneg a1 (show 0 ≤ d by omega)
  have a4 : x * x * d ≤ 9801 * 12 := Int.mul_le_mul a2 h4 (by omega) (by omega)
  omega
theorem sq_lim {x : Int} (h : -9223372036854775808 ≤ x ∧ x ≤ 9223372036854775807) : 0 ≤ (x.natAbs : Int) * (x.natAbs : Int) ∧ ((x.natAbs : Int) * (x.natAbs : Int)).natAbs < B32 ^ 8 := by
  have h1 : x.natAbs ≤ 9223372036854775808 := by omega
  have h2 : x.natAbs * x.natAbs ≤ 9223372036854775808 * 9223372036854775808 := Nat.mul_le_mul h1 h1
  have h3 : 9223372036854775808 * 9223372036854775808 < B32 ^ 8 := by decide
  rw [← Int.natCast_mul]
  omega
end Go.Proofs.YtegjcikofmphjaaGreatDoor

