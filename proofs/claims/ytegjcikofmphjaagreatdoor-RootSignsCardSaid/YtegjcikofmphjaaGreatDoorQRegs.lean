/- Texts that belong together. -/
import Derived.Test.YtegjcikofmphjaaGreatDoorQRefMath
import Derived.Test.YtegjcikofmphjaaGreatDoorQRegion
import Derived.Test.YtegjcikofmphjaaGreatDoorQCuts
import Derived.Test.YtegjcikofmphjaaGreatDoorQRegion2
set_option linter.all false
/- Operations of a region that draws its order: digits of the reference. -/
namespace Go.Proofs.YtegjcikofmphjaaGreatDoor
open Go Go.RowKit Go.Shelf
def upd (vs : Nat → Value) (i : Nat) (v : Value) : Nat → Value := fun k => if k = i then v else vs k
theorem inv_step {F : Nat → Value → World → Prop} {D : Nat → Prop} {vs : Nat → Value} {w w' : World} (hF : ∀ k, D k → F k (vs k) w) {i : Nat} {v : Value} (hm : ∀ k v, F k v w → F k v w') (hn : F i v w') : ∀ k, (k = i ∨ D k) → F k (upd vs i v k) w' := by
  intro k hk
  unfold upd
  by_cases h : k = i
  · rw [if_pos h, h]; exact hn
  · rw [if_neg h]; exact hm k _ (hF k (hk.resolve_left h))
theorem inv_same {F : Nat → Value → Prop} {D : Nat → Prop} {vs : Nat → Value} (hF : ∀ k, D k → F k (vs k)) {i : Nat} {v : Value} (hn : F i v) : ∀ k, (k = i ∨ D k) → F k (upd vs i v k) := by
  intro k hk
  unfold upd
  by_cases h : k = i
  · rw [if_pos h, h]; exact hn
  · rw [if_neg h]; exact hF k (hk.resolve_left h)
section
variable {o : Oper} {a : Act} {w : World}
theorem run_mov (x : Operand) (ho : o.op = .move x) (v : Value) (hx : a.eval x = v) : (execOp a.eval o).run Tryz.prog w = .ok (.value v) w := by
  subst hx; unfold execOp; rw [ho]; rfl
theorem run_quo32 (x : Operand) (ho : o.op = .binOp .quo 3 x (.const (.int .i64 32)) 3) (ht : o.type = 3) (k j : Nat) (hk : k < 4611686018427387904) (hj : j = k / 32) (hx : a.eval x = .int .i64 (k : Int)) : (execOp a.eval o).run Tryz.prog w = .ok (.value (.int .i64 (j : Int))) w := by
  have ek : a.eval (.const (.int .i64 32)) = .int .i64 32 := rfl
  have h1 : (k : Int).tdiv 32 = (j : Int) := by rw [Int.tdiv_eq_ediv_of_nonneg (by omega)]; omega
  have h2 : IntKind.i64.wrap (j : Int) = (j : Int) := by rw [IntKind.wrap_i64]; omega
  have h3 : wrap64 (j : Int) = (j : Int) := by unfold wrap64; omega
  have h4 : (k : Int) / 32 = (j : Int) := by omega
  unfold execOp
  simp only [ho, hx, ht, ek]
  simp [go_sem, h1, h2, h3, h4]
theorem run_rem32 (x : Operand) (ho : o.op = .binOp .rem 3 x (.const (.int .i64 32)) 3) (ht : o.type = 3) (k j : Nat) (hk : k < 4611686018427387904) (hj : j = k % 32) (hx : a.eval x = .int .i64 (k : Int)) : (execOp a.eval o).run Tryz.prog w = .ok (.value (.int .i64 (j : Int))) w := by
  have ek : a.eval (.const (.int .i64 32)) = .int .i64 32 := rfl
  have h1 : (k : Int).tmod 32 = (j : Int) := by rw [Int.tmod_eq_emod_of_nonneg (by omega)]; omega
  have h2 : IntKind.i64.wrap (j : Int) = (j : Int) := by rw [IntKind.wrap_i64]; omega
  have h3 : wrap64 (j : Int) = (j : Int) := by unfold wrap64; omega
  have h4 : (k : Int) % 32 = (j : Int) := by omega
  unfold execOp
  simp only [ho, hx, ht, ek]
  simp [go_sem, h1, h2, h3, h4]
theorem run_shl1 (x : Operand) (ho : o.op = .binOp .shl 87 (.const (.int .u32 1)) x 3) (ht : o.type = 87) (i : Nat) (hi : i ≤ 31) (hx : a.eval x = .int .i64 (i : Int)) : (execOp a.eval o).run Tryz.prog w = .ok (.value (.int .u32 ((2 ^ i : Nat) : Int))) w := by
  have ek : a.eval (.const (.int .u32 1)) = .int .u32 1 := rfl
  have h2 : 2 ^ i < 4294967296 := Nat.lt_of_le_of_lt (Nat.pow_le_pow_right (by decide) hi) (by decide)
  have h1 : IntKind.u32.wrap (2 ^ i) = ((2 ^ i : Nat) : Int) := by
    rw [IntKind.wrap_u32]
    have : ((2 : Int) ^ i) = ((2 ^ i : Nat) : Int) := by simp
    rw [this]
    generalize 2 ^ i = q at *
    omega
  unfold execOp
  simp only [ho, hx, ht, ek]
  simp [go_sem, h1]
theorem run_or (x y : Operand) (ho : o.op = .binOp .or 87 x y 87) (ht : o.type = 87) (f g h : Nat) (hf : f < 4294967296) (hg : g < 4294967296) (hh : h = f ||| g) (hx : a.eval x = .int .u32 (f : Int)) (hy : a.eval y = .int .u32 (g : Int)) : (execOp a.eval o).run Tryz.prog w = .ok (.value (.int .u32 (h : Int))) w := by
  have h1 := u32_or f g hf hg
  rw [← hh] at h1
  unfold execOp
  simp only [ho, hx, hy, ht]
  simp [go_sem, h1]
theorem run_idx (x y : Operand) (ho : o.op = .indexAddr 23 x y) (g n c u : Nat) (hx : a.eval x = .slice (some ⟨g, 0, none⟩) n c) (hy : a.eval y = .int .i64 (u : Int)) (hu : u < n) : (execOp a.eval o).run Tryz.prog w = .ok (.value (.pointer (some ⟨g, u, none⟩))) w := run_index_slice x y ho g n c u hx hy hu
theorem run_ld_u32 (x : Operand) (ho : o.op = .load 87 x) (ad : Addr) (hx : a.eval x = .pointer (some ad)) (v : Int) (hc : w.cell? ad = some (.int .u32 v)) : (execOp a.eval o).run Tryz.prog w = .ok (.value (.int .u32 v)) w := by
  unfold execOp
  simp only [ho, hx, Instr.loadAt, Instr.sureAddr, Sem.run_bind, Sem.run_pure, Result.andThen_ok]
  simp [hc, go_sem]
end
end Go.Proofs.YtegjcikofmphjaaGreatDoor
/- A region that draws its order, but whose last operations wait for all others: an invariant for the first ones, and then the rest in order. -/
namespace Go.Proofs.YtegjcikofmphjaaGreatDoor
open Go Go.RowKit Go.Shelf
def tailOk (ops : Array Oper) (n : Nat) : Bool := decide (n ≤ ops.size) && (List.range ops.size).all fun i => decide (i < n) || match ops[i]? with
  | none => true
  | some o => o.guard.isNone && (List.range i).all fun j => o.after.any fun e => Region.binds .any e && decide (e.on = j)
theorem tailOk_le {ops : Array Oper} {n : Nat} (h : tailOk ops n = true) : n ≤ ops.size := by
  unfold tailOk at h
  simp only [Bool.and_eq_true, decide_eq_true_eq] at h
  exact h.1
theorem tailOk_spec {ops : Array Oper} {n i : Nat} {o : Oper} (h : tailOk ops n = true) (ho : ops[i]? = some o) (hn : n ≤ i) : o.guard = none ∧ ∀ j, j < i → ∃ e ∈ o.after, Region.binds .any e = true ∧ e.on = j := by
  unfold tailOk at h
  simp only [Bool.and_eq_true, decide_eq_true_eq] at h
  have hi : i < ops.size := (Array.getElem?_eq_some_iff.1 ho).1
  have h1 := List.all_eq_true.1 h.2 i (List.mem_range.2 hi)
  rw [ho] at h1
  simp only [Bool.or_eq_true, decide_eq_true_eq, Bool.and_eq_true, Option.isNone_iff_eq_none] at h1
  have h2 := h1.resolve_left (by omega)
  refine ⟨h2.1, fun j hj => ?_⟩
  have h3 := List.all_eq_true.1 h2.2 j (List.mem_range.2 hj)
  rw [Array.any_eq_true] at h3
  obtain ⟨k, hk, h4⟩ := h3
  simp only [Bool.and_eq_true, decide_eq_true_eq] at h4
  exact ⟨o.after[k], Array.getElem_mem hk, h4.1, h4.2⟩
section
variable {P : Program} {ops : Array Oper} {Q : Exit → Act → World → Prop} (Inv : (Nat → Prop) → Act → World → Prop)
def StepH (o : Oper) (a : Act) (w : World) (K : Act → World → Prop) : Prop := if Region.wanted o (yielded ops a.tmps) then o.wp P a w K Q ∨ (o.asks P a w ∧ LetsOut Q) else K (a.put o.dst undef) w
theorem wpAny_invH (hok : regionOkG ops = true)
    (hstep : ∀ (i : Nat) (o : Oper) (D : Nat → Prop) (a : Act) (w : World), ops[i]? = some o → ¬ D i → (∀ e ∈ o.after, Region.binds .any e = true → D e.on) → Inv D a w → StepH (P := P) (ops := ops) (Q := Q) o a w (fun a' w' => Inv (fun j => j = i ∨ D j) a' w'))
    (hdone : ∀ (D : Nat → Prop) (a : Act) (w : World), (∀ i, i < ops.size → D i) → Inv D a w → Q .normal a w) :
    ∀ (fuel : Nat) (listed : Array Bool) (a : Act) (w : World), listed.size = ops.size → left listed ≤ fuel → Inv (Done listed) a w → wpAny P .any ops Q fuel listed a w
  | 0, listed, a, w, hs, hl, hi => by
    have hr : Region.ready .any ops listed = [] := by
      apply List.eq_nil_iff_forall_not_mem.2
      intro i hm
      obtain ⟨_, _, _, h3, _⟩ := ready_mem hm
      have := left_set h3
      omega
    exact ⟨hr, hdone _ a w (ready_nilG hok hs hr) hi⟩
  | fuel + 1, listed, a, w, hs, hl, hi => by
    refine ⟨fun hr => hdone _ a w (ready_nilG hok hs hr) hi, fun i hm => ?_⟩
    obtain ⟨o, ho, hn, h3, he⟩ := ready_mem hm
    have hil : i < listed.size := by rw [hs]; exact (Array.getElem?_eq_some_iff.1 ho).1
    have hnext : ∀ a' w', Inv (fun j => j = i ∨ Done listed j) a' w' → wpAny P .any ops Q fuel (listed.setIfInBounds i true) a' w' := fun a' w' h => by
      refine wpAny_invH hok hstep hdone fuel _ a' w' (by simpa using hs) (by have := left_set h3; omega) ?_
      rw [done_set hil]
      exact h
    have hst := hstep i o _ a w ho hn he hi
    unfold wpOp
    rw [ho]
    dsimp only
    unfold StepH at hst
    by_cases hw : Region.wanted o (yielded ops a.tmps) = true
    · rw [if_pos hw] at hst ⊢
      exact hst.imp (Oper.wp_mono (fun a' w' h => hnext a' w' h)) (fun h => h)
    · rw [if_neg hw] at hst ⊢
      exact hnext _ _ hst
theorem wp_region_invH {id : Nat} {a : Act} {w : World} (hm : P.follows .mixedOrders = true) (hok : regionOkG ops = true) (h0 : Inv (fun _ => False) a w.drew)
    (hstep : ∀ (i : Nat) (o : Oper) (D : Nat → Prop) (a : Act) (w : World), ops[i]? = some o → ¬ D i → (∀ e ∈ o.after, Region.binds .any e = true → D e.on) → Inv D a w → StepH (P := P) (ops := ops) (Q := Q) o a w (fun a' w' => Inv (fun j => j = i ∨ D j) a' w'))
    (hdone : ∀ (D : Nat → Prop) (a : Act) (w : World), (∀ i, i < ops.size → D i) → Inv D a w → Q .normal a w) : (Code.region id ops true).wp P Q a w := by
  refine wp_region_any hm (wpAny_invH Inv hok hstep hdone _ _ _ _ (by simp) ?_ ?_)
  · exact Nat.le_trans (List.length_filter_le _ _) (by simp)
  · have : Done (Array.replicate ops.size false) = fun _ => False := by
      funext j
      apply propext
      unfold Done
      by_cases h : j < ops.size <;> simp [h]
    rw [this]; exact h0
end
section
variable {P : Program} {ops : Array Oper} {Q : Exit → Act → World → Prop} (Inv : (Nat → Prop) → Act → World → Prop)
theorem wp_region_tail (n : Nat) {id : Nat} {a : Act} {w : World} (hm : P.follows .mixedOrders = true) (hok : regionOkG ops = true) (ht : tailOk ops n = true) (h0 : Inv (fun _ => False) a w.drew)
    (hstep : ∀ (i : Nat) (o : Oper) (D : Nat → Prop) (a : Act) (w : World), i < n → ops[i]? = some o → ¬ D i → (∀ e ∈ o.after, Region.binds .any e = true → D e.on) → Inv D a w → StepG (P := P) (ops := ops) (Q := Q) o a w (fun a' w' => Inv (fun j => j = i ∨ D j) a' w'))
    (hdone : ∀ (D : Nat → Prop) (a : Act) (w : World), (∀ i, i < n → D i) → Inv D a w → wpList P ops Q (ops.toList.drop n) a w) : (Code.region id ops true).wp P Q a w := by
  have hle := tailOk_le ht
  refine wp_region_invH (fun D a w => ((∀ j, n ≤ j → ¬ D j) ∧ Inv D a w) ∨ ∃ k, n < k ∧ (∀ j, D j ↔ j < k) ∧ wpList P ops Q (ops.toList.drop k) a w) hm hok (.inl ⟨fun _ _ h => h, h0⟩) ?_ ?_
  · intro i o D a w hio hnd he h
    have hi : i < ops.size := (Array.getElem?_eq_some_iff.1 hio).1
    have hl : ops.toList.drop i = o :: ops.toList.drop (i + 1) := by
      rw [List.drop_eq_getElem_cons (by simpa using hi)]
      congr 1
      have := (Array.getElem?_eq_some_iff.1 hio).2
      simpa using this
    have go : ∀ k, i = k → n ≤ k → (∀ j, D j ↔ j < k) → wpList P ops Q (ops.toList.drop k) a w → StepH (P := P) (ops := ops) (Q := Q) o a w (fun a' w' => ((∀ j, n ≤ j → ¬ (j = i ∨ D j)) ∧ Inv (fun j => j = i ∨ D j) a' w') ∨ ∃ k, n < k ∧ (∀ j, (j = i ∨ D j) ↔ j < k) ∧ wpList P ops Q (ops.toList.drop k) a' w') := by
      rintro k rfl hk hD hw
      obtain ⟨hg, -⟩ := tailOk_spec ht hio hk
      rw [hl] at hw
      unfold wpList at hw
      rw [if_pos (wanted_of_none hg _)] at hw
      have hnext : ∀ a' w', wpList P ops Q (ops.toList.drop (i + 1)) a' w' → ((∀ j, n ≤ j → ¬ (j = i ∨ D j)) ∧ Inv (fun j => j = i ∨ D j) a' w') ∨ ∃ k, n < k ∧ (∀ j, (j = i ∨ D j) ↔ j < k) ∧ wpList P ops Q (ops.toList.drop k) a' w' := fun a' w' h => .inr ⟨i + 1, by omega, fun j => by rw [hD j]; omega, h⟩
      unfold StepH
      rw [if_pos (wanted_of_none hg _)]
      exact hw.imp (Oper.wp_mono (fun a' w' h => hnext a' w' h)) (fun h => h)
    rcases h with ⟨hn, hi2⟩ | ⟨k, hk, hD, hw⟩
    · by_cases hin : i < n
      · unfold StepH
        have hs := hstep i o D a w hin hio hnd he hi2
        unfold StepG at hs
        have hnext : ∀ a' w', Inv (fun j => j = i ∨ D j) a' w' → ((∀ j, n ≤ j → ¬ (j = i ∨ D j)) ∧ Inv (fun j => j = i ∨ D j) a' w') ∨ ∃ k, n < k ∧ (∀ j, (j = i ∨ D j) ↔ j < k) ∧ wpList P ops Q (ops.toList.drop k) a' w' := fun a' w' h => .inl ⟨fun j hj h2 => h2.elim (fun e => by omega) (hn j hj), h⟩
        split
        · rename_i hw
          rw [if_pos hw] at hs
          exact .inl (Oper.wp_mono (fun a' w' h => hnext a' w' h) hs)
        · rename_i hw
          rw [if_neg hw] at hs
          exact hnext _ _ hs
      · obtain ⟨hg, hb⟩ := tailOk_spec ht hio (by omega)
        have hall : ∀ j, j < i → D j := fun j hj => by
          obtain ⟨e, hm1, hb1, rfl⟩ := hb j hj
          exact he e hm1 hb1
        obtain rfl : i = n := by
          apply Classical.byContradiction
          intro hne
          exact hn n (Nat.le_refl _) (hall n (by omega))
        exact go i rfl (Nat.le_refl _) (fun j => ⟨fun h => by
          apply Classical.byContradiction
          intro hj
          exact hn j (by omega) h, fun h => hall j h⟩) (hdone D a w hall hi2)
    · have hik : k ≤ i := by
        apply Classical.byContradiction
        intro h
        exact hnd ((hD i).2 (by omega))
      obtain ⟨hg, hb⟩ := tailOk_spec ht hio (by omega)
      have : i = k := by
        apply Classical.byContradiction
        intro hne
        obtain ⟨e, hm1, hb1, hek⟩ := hb k (by omega)
        have := he e hm1 hb1
        rw [hek] at this
        have := (hD k).1 this
        omega
      exact go k this (by omega) hD hw
  · intro D a w hall h
    rcases h with ⟨hn, hi2⟩ | ⟨k, hk, hD, hw⟩
    · have hns : n = ops.size := by
        apply Classical.byContradiction
        intro hne
        exact hn n (Nat.le_refl _) (hall n (by omega))
      have := hdone D a w (fun i hi => hall i (by omega)) hi2
      rw [hns, List.drop_eq_nil_of_le (by simp)] at this
      exact this
    · have hk2 : ops.size ≤ k := by
        apply Classical.byContradiction
        intro h
        have := (hD k).1 (hall k (by omega))
        omega
      rw [List.drop_eq_nil_of_le (by simpa using hk2)] at hw
      exact hw
end
theorem wanted_g {ops : Array Oper} {o : Oper} {a : Act} {j d : Nat} {b : Bool} {v : Value} (hg : o.guard = some (j, b)) (hd : (ops[j]?).bind (·.dst) = some d) (hv : a.tmps[d]? = some v) (h : v = .bool b) : Region.wanted o (yielded ops a.tmps) = true := by
  subst h
  unfold Region.wanted
  rw [hg]
  simp only [yielded, hd, Option.bind_some, hv]
  simp
theorem wanted_n {ops : Array Oper} {o : Oper} {a : Act} {j d : Nat} {b c : Bool} {v : Value} (hg : o.guard = some (j, b)) (hd : (ops[j]?).bind (·.dst) = some d) (hv : a.tmps[d]? = some v) (h : v = .bool c) (hc : c ≠ b) : Region.wanted o (yielded ops a.tmps) = false := by
  subst h
  unfold Region.wanted
  rw [hg]
  simp only [yielded, hd, Option.bind_some, hv]
  simpa using hc
end Go.Proofs.YtegjcikofmphjaaGreatDoor
/- A region that draws its order, whose last operations wait for all others but for one, which may come behind the first of them: as XRegT. -/
namespace Go.Proofs.YtegjcikofmphjaaGreatDoor
open Go Go.RowKit Go.Shelf
def tail2Ok (ops : Array Oper) (n p : Nat) : Bool := decide (p < n) && decide (n < ops.size) && (match ops[p]? with | none => false | some o => o.guard.isNone) && (List.range ops.size).all fun i => decide (i < n) || match ops[i]? with
  | none => true
  | some o => o.guard.isNone && (List.range i).all fun j => (decide (i = n) && decide (j = p)) || o.after.any fun e => Region.binds .any e && decide (e.on = j)
theorem tail2Ok_lt {ops : Array Oper} {n p : Nat} (h : tail2Ok ops n p = true) : p < n ∧ n < ops.size := by
  unfold tail2Ok at h
  simp only [Bool.and_eq_true, decide_eq_true_eq] at h
  exact ⟨h.1.1.1, h.1.1.2⟩
theorem tail2Ok_p {ops : Array Oper} {n p : Nat} (h : tail2Ok ops n p = true) {o : Oper} (ho : ops[p]? = some o) : o.guard = none := by
  unfold tail2Ok at h
  simp only [Bool.and_eq_true, decide_eq_true_eq] at h
  have := h.1.2
  rw [ho] at this
  simpa using this
theorem tail2Ok_spec {ops : Array Oper} {n p i : Nat} {o : Oper} (h : tail2Ok ops n p = true) (ho : ops[i]? = some o) (hn : n ≤ i) : o.guard = none ∧ ∀ j, j < i → ¬ (i = n ∧ j = p) → ∃ e ∈ o.after, Region.binds .any e = true ∧ e.on = j := by
  unfold tail2Ok at h
  simp only [Bool.and_eq_true, decide_eq_true_eq] at h
  have hi : i < ops.size := (Array.getElem?_eq_some_iff.1 ho).1
  have h1 := List.all_eq_true.1 h.2 i (List.mem_range.2 hi)
  rw [ho] at h1
  simp only [Bool.or_eq_true, decide_eq_true_eq, Bool.and_eq_true, Option.isNone_iff_eq_none] at h1
  have h2 := h1.resolve_left (by omega)
  refine ⟨h2.1, fun j hj hnp => ?_⟩
  have h3 := List.all_eq_true.1 h2.2 j (List.mem_range.2 hj)
  simp only [Bool.or_eq_true, Bool.and_eq_true, decide_eq_true_eq] at h3
  have h3 := h3.resolve_left hnp
  rw [Array.any_eq_true] at h3
  obtain ⟨k, hk, h4⟩ := h3
  simp only [Bool.and_eq_true, decide_eq_true_eq] at h4
  exact ⟨o.after[k], Array.getElem_mem hk, h4.1, h4.2⟩
section
variable {P : Program} {ops : Array Oper} {Q : Exit → Act → World → Prop} (Inv : (Nat → Prop) → Act → World → Prop)
theorem drop_cons {ops : Array Oper} {i : Nat} {o : Oper} (hio : ops[i]? = some o) : ops.toList.drop i = o :: ops.toList.drop (i + 1) := by
  have hi : i < ops.size := (Array.getElem?_eq_some_iff.1 hio).1
  rw [List.drop_eq_getElem_cons (by simpa using hi)]
  congr 1
  have := (Array.getElem?_eq_some_iff.1 hio).2
  simpa using this
theorem wp_region_tail2 (n p : Nat) {op : Oper} (hop : ops[p]? = some op) {id : Nat} {a : Act} {w : World} (hm : P.follows .mixedOrders = true) (hok : regionOkG ops = true) (ht : tail2Ok ops n p = true) (h0 : Inv (fun _ => False) a w.drew)
    (hstep : ∀ (i : Nat) (o : Oper) (D : Nat → Prop) (a : Act) (w : World), i < n → ops[i]? = some o → ¬ D i → (∀ e ∈ o.after, Region.binds .any e = true → D e.on) → Inv D a w → StepG (P := P) (ops := ops) (Q := Q) o a w (fun a' w' => Inv (fun j => j = i ∨ D j) a' w'))
    (hdone : ∀ (D : Nat → Prop) (a : Act) (w : World), (∀ i, i < n → D i) → Inv D a w → wpList P ops Q (ops.toList.drop n) a w)
    (hdone2 : ∀ (D : Nat → Prop) (a : Act) (w : World), (∀ i, i < n → i ≠ p → D i) → ¬ D p → Inv D a w → ∃ on, ops[n]? = some on ∧ wpList P ops Q (on :: op :: ops.toList.drop (n + 1)) a w) : (Code.region id ops true).wp P Q a w := by
  obtain ⟨hpn, hns⟩ := tail2Ok_lt ht
  refine wp_region_invH (fun D a w => ((∀ j, n ≤ j → ¬ D j) ∧ Inv D a w) ∨ (∃ k, n < k ∧ (∀ j, D j ↔ j < k) ∧ wpList P ops Q (ops.toList.drop k) a w) ∨ ((∀ j, D j ↔ (j < n + 1 ∧ j ≠ p)) ∧ wpList P ops Q (op :: ops.toList.drop (n + 1)) a w)) hm hok (.inl ⟨fun _ _ h => h, h0⟩) ?_ ?_
  · intro i o D a w hio hnd he h
    have hi : i < ops.size := (Array.getElem?_eq_some_iff.1 hio).1
    have hl := drop_cons hio
    have go : ∀ k, i = k → n ≤ k → (∀ j, D j ↔ j < k) → wpList P ops Q (ops.toList.drop k) a w → StepH (P := P) (ops := ops) (Q := Q) o a w (fun a' w' => ((∀ j, n ≤ j → ¬ (j = i ∨ D j)) ∧ Inv (fun j => j = i ∨ D j) a' w') ∨ (∃ k, n < k ∧ (∀ j, (j = i ∨ D j) ↔ j < k) ∧ wpList P ops Q (ops.toList.drop k) a' w') ∨ ((∀ j, (j = i ∨ D j) ↔ (j < n + 1 ∧ j ≠ p)) ∧ wpList P ops Q (op :: ops.toList.drop (n + 1)) a' w')) := by
      rintro k rfl hk hD hw
      obtain ⟨hg, -⟩ := tail2Ok_spec ht hio hk
      rw [hl] at hw
      unfold wpList at hw
      rw [if_pos (wanted_of_none hg _)] at hw
      unfold StepH
      rw [if_pos (wanted_of_none hg _)]
      exact hw.imp (Oper.wp_mono (fun a' w' h => .inr (.inl ⟨i + 1, by omega, fun j => by rw [hD j]; omega, h⟩))) (fun h => h)
    rcases h with ⟨hn, hi2⟩ | ⟨k, hk, hD, hw⟩ | ⟨hD, hw⟩
    · by_cases hin : i < n
      · unfold StepH
        have hs := hstep i o D a w hin hio hnd he hi2
        unfold StepG at hs
        have hnext : ∀ a' w', Inv (fun j => j = i ∨ D j) a' w' → ((∀ j, n ≤ j → ¬ (j = i ∨ D j)) ∧ Inv (fun j => j = i ∨ D j) a' w') ∨ (∃ k, n < k ∧ (∀ j, (j = i ∨ D j) ↔ j < k) ∧ wpList P ops Q (ops.toList.drop k) a' w') ∨ ((∀ j, (j = i ∨ D j) ↔ (j < n + 1 ∧ j ≠ p)) ∧ wpList P ops Q (op :: ops.toList.drop (n + 1)) a' w') := fun a' w' h => .inl ⟨fun j hj h2 => h2.elim (fun e => by omega) (hn j hj), h⟩
        split
        · rename_i hw
          rw [if_pos hw] at hs
          exact .inl (Oper.wp_mono (fun a' w' h => hnext a' w' h) hs)
        · rename_i hw
          rw [if_neg hw] at hs
          exact hnext _ _ hs
      · obtain ⟨hg, hb⟩ := tail2Ok_spec ht hio (by omega)
        have hall : ∀ j, j < i → ¬ (i = n ∧ j = p) → D j := fun j hj hnp => by
          obtain ⟨e, hm1, hb1, rfl⟩ := hb j hj hnp
          exact he e hm1 hb1
        obtain rfl : i = n := by
          apply Classical.byContradiction
          intro hne
          exact hn n (Nat.le_refl _) (hall n (by omega) (by omega))
        by_cases hdp : D p
        · have hall2 : ∀ j, j < i → D j := fun j hj => by
            by_cases e : j = p
            · subst e; exact hdp
            · exact hall j hj (by omega)
          exact go i rfl (Nat.le_refl _) (fun j => ⟨fun h => by
            apply Classical.byContradiction
            intro hj
            exact hn j (by omega) h, fun h => hall2 j h⟩) (hdone D a w hall2 hi2)
        · obtain ⟨on, hon, hw⟩ := hdone2 D a w (fun j hj hne => hall j hj (by omega)) hdp hi2
          obtain rfl : o = on := by rw [hio] at hon; exact Option.some.inj hon
          unfold wpList at hw
          rw [if_pos (wanted_of_none hg _)] at hw
          unfold StepH
          rw [if_pos (wanted_of_none hg _)]
          refine hw.imp (Oper.wp_mono (fun a' w' h => .inr (.inr ⟨fun j => ?_, h⟩))) (fun h => h)
          constructor
          · rintro (rfl | h)
            · exact ⟨by omega, by omega⟩
            · refine ⟨?_, fun e => hdp (e ▸ h)⟩
              apply Classical.byContradiction
              intro hj
              exact hn j (by omega) h
          · rintro ⟨h1, h2⟩
            by_cases e : j = i
            · exact .inl e
            · exact .inr (hall j (by omega) (by omega))
    · have hik : k ≤ i := by
        apply Classical.byContradiction
        intro h
        exact hnd ((hD i).2 (by omega))
      obtain ⟨hg, hb⟩ := tail2Ok_spec ht hio (by omega)
      have : i = k := by
        apply Classical.byContradiction
        intro hne
        obtain ⟨e, hm1, hb1, hek⟩ := hb k (by omega) (by omega)
        have := he e hm1 hb1
        rw [hek] at this
        have := (hD k).1 this
        omega
      exact go k this (by omega) hD hw
    · have hip : i = p := by
        apply Classical.byContradiction
        intro hne
        have h1 : ¬ i < n + 1 := fun h => hnd ((hD i).2 ⟨h, hne⟩)
        obtain ⟨hg, hb⟩ := tail2Ok_spec ht hio (by omega)
        obtain ⟨e, hm1, hb1, hek⟩ := hb p (by omega) (by omega)
        have := he e hm1 hb1
        rw [hek] at this
        exact ((hD p).1 this).2 rfl
      subst hip
      obtain rfl : o = op := by rw [hio] at hop; exact Option.some.inj hop
      have hg := tail2Ok_p ht hio
      unfold wpList at hw
      rw [if_pos (wanted_of_none hg _)] at hw
      unfold StepH
      rw [if_pos (wanted_of_none hg _)]
      refine hw.imp (Oper.wp_mono (fun a' w' h => .inr (.inl ⟨n + 1, by omega, fun j => ?_, h⟩))) (fun h => h)
      show (j = i ∨ D j) ↔ j < n + 1
      rw [hD j]
      constructor
      · rintro (rfl | h) <;> omega
      · intro h
        by_cases e : j = i
        · exact .inl e
        · exact .inr ⟨h, e⟩
  · intro D a w hall h
    rcases h with ⟨hn, hi2⟩ | ⟨k, hk, hD, hw⟩ | ⟨hD, hw⟩
    · exact absurd (hall n hns) (hn n (Nat.le_refl _))
    · have hk2 : ops.size ≤ k := by
        apply Classical.byContradiction
        intro h
        have := (hD k).1 (hall k (by omega))
        omega
      rw [List.drop_eq_nil_of_le (by simpa using hk2)] at hw
      exact hw
    · exact absurd rfl ((hD p).1 (hall p (by omega))).2
end
end Go.Proofs.YtegjcikofmphjaaGreatDoor

