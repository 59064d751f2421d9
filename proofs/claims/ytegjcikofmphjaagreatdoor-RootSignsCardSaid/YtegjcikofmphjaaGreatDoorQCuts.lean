/- Texts that belong together. -/
import Derived.Test.YtegjcikofmphjaaGreatDoorQNum20
import Derived.Test.YtegjcikofmphjaaGreatDoorQZs
import Derived.Test.YtegjcikofmphjaaGreatDoorQTakes
set_option linter.all false
/- Texts that belong together. -/
/- Layer 1: commonWord. -/
namespace Go.Proofs.YtegjcikofmphjaaGreatDoor
open Go Go.RowKit Go.Shelf
set_option maxRecDepth 100000 in
set_option maxHeartbeats 2000000 in
theorem commonWord_calls (x y : Nat) (hx : x < 18446744073709551616) (hy : y < 18446744073709551616) (w : World) :
    Calls Tryz.prog 95 #[.int .u64 x, .int .u64 y] w fun e w' => e = .returned (.int .u64 (Nat.gcd x y : Nat)) ∧ Below w.heap.size w w' := by
  go_enter Tryz.func95, Tryz.ntmps95
  go_wp2
  go_loopw [0, 1] (fun a c wr => ∃ u v : Nat, a = .int .u64 u ∧ c = .int .u64 v ∧ u < 18446744073709551616 ∧ v < 18446744073709551616 ∧ Nat.gcd u v = Nat.gcd x y ∧ Below w.heap.size w wr) (fun _ c _ => (intOf c).toNat)
  case atStart => exact ⟨x, y, rfl, rfl, hx, hy, rfl, Below.refl _ _⟩
  case round =>
    obtain ⟨u, v, rfl, rfl, hu, hv, hg, hB⟩ := hrel
    have Hg := Lib.hid hg
    by_cases h0 : v = 0
    · subst h0
      have hgg : Nat.gcd x y = u := by rw [← hg, Nat.gcd_zero_right]
      have Hgg := Lib.hid hgg
      clear hg hgg
      go_wp2
      go_ret
      exact ⟨by rw [Hgg.out]; rfl, hB⟩
    · have ht : ((v : Int) != 0) = true := by simp [h0]
      have ht2 : ((v : Int) == 0) = false := by simp [h0]
      have ht3 : ¬ ((v : Int) = 0) := by omega
      have hmod : (u : Int).tmod (v : Int) = ((u % v : Nat) : Int) := (Int.ofNat_tmod u v)
      clear hg
      go_wp2
      go_region
      all_goals go_wp2
      all_goals
        rw [show (u : Int) % (v : Int) = ((u % v : Nat) : Int) from (Int.natCast_emod u v).symm]
        have hlt := Nat.mod_lt u (Nat.pos_of_ne_zero h0)
        refine ⟨⟨v, u % v, rfl, rfl, hv, by omega, ?_, hB.drew⟩, ?_⟩
        · rw [← Hg.out, Nat.gcd_comm, ← Nat.gcd_rec, Nat.gcd_comm]
        · show ((u % v : Nat) : Int).toNat < ((v : Nat) : Int).toNat
          omega
end Go.Proofs.YtegjcikofmphjaaGreatDoor
/- Layer 1: bits.Div32. -/
namespace Go.Proofs.YtegjcikofmphjaaGreatDoor
open Go Go.RowKit Go.Shelf
theorem div32_bound {h l y : Nat} (hy : y < 4294967296) (hl : l < 4294967296) (hlt : h < y) : (h * 4294967296 + l) / y < 4294967296 := by
  rw [Nat.div_lt_iff_lt_mul (by omega)]
  have : (h + 1) * 4294967296 ≤ y * 4294967296 := Nat.mul_le_mul_right _ hlt
  omega
set_option maxRecDepth 100000 in
set_option maxHeartbeats 2000000 in
theorem div32_calls (h l y : Nat) (hl : l < 4294967296) (hy : y < 4294967296) (hlt : h < y) (w : World) :
    Calls Tryz.prog 99 #[.int .u32 h, .int .u32 l, .int .u32 y] w fun e w' => e = .returned (.tuple #[.int .u32 ((h * 4294967296 + l) / y : Nat), .int .u32 ((h * 4294967296 + l) % y : Nat)]) ∧ Below w.heap.size w w' := by
  have h0 : ((y : Int) != 0) = true := by simp; omega
  have h1 : ¬ ((y : Int) ≤ (h : Int)) := by omega
  have h1' : decide ((y : Int) ≤ (h : Int)) = false := by simp; omega
  have hy0 : ¬ ((y : Int) = 0) := by omega
  have hjoin : bits .or .u64 ((h : Int) * 4294967296) (l : Int) = ((h * 4294967296 + l : Nat) : Int) := by
    rw [bits_join .u64 64 (by decide) (fun n h0 h1 => by rw [IntKind.wrap_u64]; omega) 32 _ _ (by omega) (by omega) (by omega) (by omega) (by omega) (by omega)]
    omega
  obtain ⟨z, hz⟩ : ∃ z : Nat, z = h * 4294967296 + l := ⟨_, rfl⟩
  rw [← hz]
  have hq : z / y < 4294967296 := by rw [hz]; exact div32_bound hy hl hlt
  have hr : z % y < 4294967296 := Nat.lt_trans (Nat.mod_lt z (by omega)) hy
  have hz64 : z < 18446744073709551616 := by omega
  have e1 : (z : Int) / (y : Int) = ((z / y : Nat) : Int) := (Int.natCast_ediv z y).symm
  have e2 : (z : Int) % (y : Int) = ((z % y : Nat) : Int) := (Int.natCast_emod z y).symm
  generalize z / y = q at *
  generalize z % y = r at *
  have hzI : (h : Int) * 4294967296 + (l : Int) = (z : Int) := by omega
  have E1 := Lib.hid e1
  have E2 := Lib.hid e2
  have HzI := Lib.hid hzI
  clear e1 e2 hzI
  go_enter Tryz.func99, Tryz.ntmps99
  go_wp2
  rw [HzI.out]
  have e1 := E1.out
  have e2 := E2.out
  have w1 : IntKind.u64.wrap (y : Int) = y := by rw [IntKind.wrap_u64]; omega
  have w2 : IntKind.u64.wrap (q : Int) = q := by rw [IntKind.wrap_u64]; omega
  have w3 : IntKind.u64.wrap (r : Int) = r := by rw [IntKind.wrap_u64]; omega
  have w4 : IntKind.u32.wrap (q : Int) = q := by rw [IntKind.wrap_u32]; omega
  have w5 : IntKind.u32.wrap (r : Int) = r := by rw [IntKind.wrap_u32]; omega
  have t1 : (z : Int).tdiv (y : Int) = (q : Int) := by rw [← e1]; exact Int.tdiv_eq_ediv_of_nonneg (by omega)
  have t2 : (z : Int).tmod (y : Int) = (r : Int) := by rw [← e2]; exact Int.tmod_eq_emod_of_nonneg (by omega)
  clear hz hjoin
  go_region
  all_goals go_wp2
  all_goals go_ret2
  all_goals exact ⟨rfl, (Below.refl _ w).drew⟩
end Go.Proofs.YtegjcikofmphjaaGreatDoor
/- More laws for single operations. -/
namespace Go.Proofs.YtegjcikofmphjaaGreatDoor
open Go Go.RowKit Go.Shelf
theorem put_ne {D : Nat → Prop} {i j : Nat} {P : Prop} (h : j ≠ i) (hp : D j → P) : (And' i D j → P) := fun e => by
  rcases e with e | e
  · exact absurd e h
  · exact hp e
theorem And'.ne {D : Nat → Prop} {i j : Nat} (h : j ≠ i) (e : And' i D j) : D j := e.elim (fun e => absurd e h) id
theorem put_eq {D : Nat → Prop} {i j : Nat} {P : Prop} (hp : P) : (And' i D j → P) := fun _ => hp
section
variable {o : Oper} {a : Act} {w : World}
theorem run_extract (x : Operand) (k : Nat) (ho : o.op = .extract x k) (vs : Array Value) (hx : a.eval x = .tuple vs) (v : Value) (hv : vs[k]? = some v) : (execOp a.eval o).run Tryz.prog w = .ok (.value v) w := by
  unfold execOp
  simp only [ho, hx]
  simp [go_sem, hv]
theorem run_index_slice (x y : Operand) (ho : o.op = .indexAddr 23 x y) (g n c u : Nat) (hx : a.eval x = .slice (some ⟨g, 0, none⟩) n c) (hy : a.eval y = .int .i64 u) (hu : u < n) : (execOp a.eval o).run Tryz.prog w = .ok (.value (.pointer (some ⟨g, u, none⟩))) w := by
  have h2 : (u : Int) < (n : Int) := by omega
  unfold execOp
  simp only [ho, hx, hy]
  simp [go_sem, h2]
theorem run_enter3 (f : FuncId) (x y z : Operand) (ts : Array TypeId) (ho : o.op = .call { callee := .value (.func f), args := #[x, y, z], argTypes := ts }) (u1 u2 u3 : Value) (h1 : a.eval x = u1) (h2 : a.eval y = u2) (h3 : a.eval z = u3) (hf : ∀ args w, (callFunc f args).run Tryz.prog w = .ok (.enter f args) w) :
    (execOp a.eval o).run Tryz.prog w = .ok (.enter f #[u1, u2, u3]) w := by
  have ef : a.eval (.func f) = .func (.func f) #[] #[] := rfl
  have hm : Array.map a.eval #[x, y, z] = #[u1, u2, u3] := by rw [← h1, ← h2, ← h3]; simp
  unfold execOp
  simp only [ho, resolve, Deferred.ofValue, invoke, ef, hm]
  simp [hf]
theorem run_enter1 (f : FuncId) (x : Operand) (ts : Array TypeId) (ho : o.op = .call { callee := .value (.func f), args := #[x], argTypes := ts }) (u1 : Value) (h1 : a.eval x = u1) (hf : ∀ args w, (callFunc f args).run Tryz.prog w = .ok (.enter f args) w) :
    (execOp a.eval o).run Tryz.prog w = .ok (.enter f #[u1]) w := by
  have ef : a.eval (.func f) = .func (.func f) #[] #[] := rfl
  have hm : Array.map a.eval #[x] = #[u1] := by rw [← h1]; simp
  unfold execOp
  simp only [ho, resolve, Deferred.ofValue, invoke, ef, hm]
  simp [hf]
theorem wp_of_call {K : Act → World → Prop} {Q : Exit → Act → World → Prop} {f : FuncId} {args : Array Value} (h : (execOp a.eval o).run Tryz.prog w = .ok (.enter f args) w) {v : Value} {R : World → Prop}
    (hc : Calls Tryz.prog f args w fun e w' => e = .returned v ∧ R w') (hk : ∀ w', R w' → K (a.put o.dst v) w') : o.wp Tryz.prog a w K Q := by
  unfold Oper.wp; rw [h]
  refine hc.mono ?_
  rintro e w' ⟨rfl, hr⟩
  exact hk w' hr
theorem run_slice0 (x : Operand) (ho : o.op = .slice 89 x none none none) (g : Nat) (hx : a.eval x = .pointer (some ⟨g, 0, none⟩)) : (execOp a.eval o).run Tryz.prog w = .ok (.value (.slice (some ⟨g, 0, none⟩) 65 65)) w := by
  unfold execOp
  simp only [ho, hx, Option.map_none]
  simp [go_sem]
theorem run_copy_digits (d s : Operand) (ho : o.op = .call { callee := .builtin .copy, args := #[d, s], argTypes := #[23, 23] }) (g B : Nat) (v : Value) (xs old : List Nat) (t : TypeId) (hd : a.eval d = .slice (some ⟨g, 0, none⟩) 65 65) (hs : a.eval s = v)
    (hx : U32s B w v xs) (hg : RowAt w g t (arr old)) (hold : old.length = 65) (hl : xs.length ≤ 65) :
    ∃ w', (execOp a.eval o).run Tryz.prog w = .ok (.value (.int .i64 (xs.length : Nat))) w' ∧ RowAt w' g t (arr (xs ++ old.drop xs.length)) ∧ Turned g w w' := by
  obtain ⟨p, cap, rfl, -, hc⟩ := hx
  obtain ⟨dst, op, type, pos, after, guard⟩ := o
  obtain rfl : op = _ := ho
  have e : Array.map a.eval #[d, s] = #[.slice (some ⟨g, 0, none⟩) 65 65, .slice p xs.length cap] := by simp only [List.map_toArray, List.map_cons, List.map_nil, hd, hs]
  have hmin : Nat.min xs.length 65 = xs.length := Nat.min_eq_left hl
  by_cases h0 : xs.length = 0
  · obtain rfl : xs = [] := List.eq_nil_of_length_eq_zero h0
    have hrun := run_copy_none (P := Tryz.prog) w 23 23 type 87 (some ⟨g, 0, none⟩) p 65 65 0 cap Tryz.underlying23 size_u32 (by rfl)
    refine ⟨w, ?_, by simpa using hg, ⟨rfl, rfl, rfl, rfl, fun _ _ => rfl⟩⟩
    rw [BigFrame.execOp_builtin, e]
    simp [builtin, hrun, Result.andThen]
    rfl
  · obtain ⟨b, off, rfl, hb, hcs⟩ := hc (by omega)
    have hrun := run_copy_row (P := Tryz.prog) w 23 23 type 87 g 0 65 65 ⟨b, off, none⟩ xs.length cap (arr old) t (arr xs).toList Tryz.underlying23 size_u32 hg (by rw [hmin]; simp [arr_size]) (by
        intro j v hv
        have hj : j < xs.length := by
          have := (List.getElem?_eq_some_iff.1 hv).1; simpa [arr_size] using this
        rw [Addr.add_mid, hcs j hj]
        have := arr_get xs j hj
        rw [← Array.getElem?_toList, hv] at this
        exact this.symm) (by simp [arr_size, hold]; exact hl) (by
        intro v hv
        exact Array.all_eq_true_iff_forall_mem.1 (arr_one xs) v (by simpa using hv))
    have e2 : ((arr old).toList.take 0 ++ (arr xs).toList ++ (arr old).toList.drop (0 + (arr xs).toList.length)).toArray = arr (xs ++ old.drop xs.length) := by
      simp [arr]
    rw [e2] at hrun
    refine ⟨w.setRow g (arr (xs ++ old.drop xs.length)), ?_, hg.setRow _, turned_setRow w g _⟩
    rw [BigFrame.execOp_builtin, e]
    simp [builtin, hrun, Result.andThen, arr_size]
    rfl
theorem wp_copy_digits {K : Act → World → Prop} {Q : Exit → Act → World → Prop} (d s : Operand) (ho : o.op = .call { callee := .builtin .copy, args := #[d, s], argTypes := #[23, 23] }) (g B : Nat) (v : Value) (xs old : List Nat) (t : TypeId) (hd : a.eval d = .slice (some ⟨g, 0, none⟩) 65 65) (hs : a.eval s = v)
    (hx : U32s B w v xs) (hg : RowAt w g t (arr old)) (hold : old.length = 65) (hl : xs.length ≤ 65)
    (hk : ∀ w', RowAt w' g t (arr (xs ++ old.drop xs.length)) → Turned g w w' → K (a.put o.dst (.int .i64 (xs.length : Nat))) w') : o.wp Tryz.prog a w K Q := by
  obtain ⟨w', hrun, hr, ht⟩ := run_copy_digits d s ho g B v xs old t hd hs hx hg hold hl
  exact wp_of_run hrun (hk w' hr ht)
theorem ent_div32 (args : Array Value) (w : World) : (callFunc 99 args).run Tryz.prog w = .ok (.enter 99 args) w := enters_of Tryz.func99 (by kernel_rfl) rfl args w
end
end Go.Proofs.YtegjcikofmphjaaGreatDoor
/- Two rows that a statement allots and fills, in whatever order. -/
namespace Go.Proofs.YtegjcikofmphjaaGreatDoor
open Go Go.RowKit Go.Shelf
def Two (W0 : World) (sx sy : Array Value) (pA pS pB pT : Prop) (v7 v8 : Value) (w : World) : Prop :=
  Below W0.heap.size W0 w ∧ Slot pA pS W0.heap.size v7 sx w ∧ Slot pB pT W0.heap.size v8 sy w ∧ (pA → pB → v7 ≠ v8) ∧ (pS → pA) ∧ (pT → pB)
section
variable {W0 : World} {sx sy : Array Value} {pA pS pB pT pA' pS' pB' pT' : Prop} {v7 v8 : Value} {w w' : World}
theorem Two.same (h : Two W0 sx sy pA pS pB pT v7 v8 w) (eA : pA' ↔ pA) (eS : pS' ↔ pS) (eB : pB' ↔ pB) (eT : pT' ↔ pT) (hb : Below w.heap.size w w') : Two W0 sx sy pA' pS' pB' pT' v7 v8 w' := by
  obtain ⟨h1, h2, h3, h4, h5, h6⟩ := h
  exact ⟨h1.trans (hb.mono h1.size), h2.move eA.1 eS.1 (fun g cs _ h => h.below hb h.lt), h3.move eB.1 eT.1 (fun g cs _ h => h.below hb h.lt), fun a b => h4 (eA.1 a) (eB.1 b), fun s => eA.2 (h5 (eS.1 s)), fun s => eB.2 (h6 (eT.1 s))⟩
theorem Two.allocA (h : Two W0 sx sy pA pS pB pT v7 v8 w) (hn : ¬ pA) (hA : pA') (eS : pS' ↔ pS) (eB : pB' ↔ pB) (eT : pT' ↔ pT) : Two W0 sx sy pA' pS' pB' pT' (.pointer (some ⟨w.heap.size, 0, none⟩)) v8 (w.alloc (.cells Tryz.zeroCells89 89)) := by
  obtain ⟨h1, h2, h3, h4, h5, h6⟩ := h
  refine ⟨h1.alloc h1.size _, fun _ => ⟨_, _, rfl, h1.size, by kernel_rfl, RowAt.new _ _ _, fun s => absurd (h5 (eS.1 s)) hn⟩, h3.move eB.1 eT.1 (fun g cs _ h => h.alloc _), fun _ b he => ?_, fun _ => hA, fun s => eB.2 (h6 (eT.1 s))⟩
  obtain ⟨g, cs, e, _, _, hr, _⟩ := h3 (eB.1 b)
  have := hr.lt
  rw [e] at he
  cases he
  omega
theorem Two.allocB (h : Two W0 sx sy pA pS pB pT v7 v8 w) (hn : ¬ pB) (eA : pA' ↔ pA) (eS : pS' ↔ pS) (hB : pB') (eT : pT' ↔ pT) : Two W0 sx sy pA' pS' pB' pT' v7 (.pointer (some ⟨w.heap.size, 0, none⟩)) (w.alloc (.cells Tryz.zeroCells89 89)) := by
  obtain ⟨h1, h2, h3, h4, h5, h6⟩ := h
  refine ⟨h1.alloc h1.size _, h2.move eA.1 eS.1 (fun g cs _ h => h.alloc _), fun _ => ⟨_, _, rfl, h1.size, by kernel_rfl, RowAt.new _ _ _, fun s => absurd (h6 (eT.1 s)) hn⟩, fun a _ he => ?_, fun s => eA.2 (h5 (eS.1 s)), fun _ => hB⟩
  obtain ⟨g, cs, e, _, _, hr, _⟩ := h2 (eA.1 a)
  have := hr.lt
  rw [e] at he
  cases he
  omega
theorem Two.storeA (h : Two W0 sx sy pA pS pB pT v7 v8 w) (hA : pA) (hsx : sx.size = 65) (eA : pA' ↔ pA) (eB : pB' ↔ pB) (eT : pT' ↔ pT) : ∃ g cs, v7 = .pointer (some ⟨g, 0, none⟩) ∧ RowAt w g 89 cs ∧ cs.size = 65 ∧ Two W0 sx sy pA' pS' pB' pT' v7 v8 (w.setRow g sx) := by
  obtain ⟨h1, h2, h3, h4, h5, h6⟩ := h
  obtain ⟨g, cs, e, hg, hs, hr, _⟩ := h2 hA
  refine ⟨g, cs, e, hr, hs, below_setRow2 h1 hg _, fun _ => ⟨g, sx, e, hg, hsx, hr.setRow _, fun _ => rfl⟩, fun b => ?_, fun a b => h4 (eA.1 a) (eB.1 b), fun _ => eA.2 hA, fun s => eB.2 (h6 (eT.1 s))⟩
  have hne := h4 hA (eB.1 b)
  refine h3.move (D6' := True) (D8' := pT') (fun _ => eB.1 b) eT.1 (fun g' cs' e' h => h.setRowOther _ fun he => hne ?_) trivial
  rw [e, e', he]
theorem Two.storeB (h : Two W0 sx sy pA pS pB pT v7 v8 w) (hB : pB) (hsy : sy.size = 65) (eA : pA' ↔ pA) (eS : pS' ↔ pS) (eB : pB' ↔ pB) : ∃ g cs, v8 = .pointer (some ⟨g, 0, none⟩) ∧ RowAt w g 89 cs ∧ cs.size = 65 ∧ Two W0 sx sy pA' pS' pB' pT' v7 v8 (w.setRow g sy) := by
  obtain ⟨h1, h2, h3, h4, h5, h6⟩ := h
  obtain ⟨g, cs, e, hg, hs, hr, _⟩ := h3 hB
  refine ⟨g, cs, e, hr, hs, below_setRow2 h1 hg _, fun a => ?_, fun _ => ⟨g, sy, e, hg, hsy, hr.setRow _, fun _ => rfl⟩, fun a b => h4 (eA.1 a) (eB.1 b), fun s => eA.2 (h5 (eS.1 s)), fun _ => eB.2 hB⟩
  have hne := h4 (eA.1 a) hB
  refine h2.move (D6' := True) (D8' := pS') (fun _ => eA.1 a) eS.1 (fun g' cs' e' h => h.setRowOther _ fun he => hne ?_) trivial
  rw [e, e', he]
theorem And'.iff {D : Nat → Prop} {i j : Nat} (h : j ≠ i) : And' i D j ↔ D j := ⟨And'.ne h, .inr⟩
end
section
variable {o : Oper} {a : Act} {w : World}
theorem run_alloc_row (ho : o.op = .alloc 89) : (execOp a.eval o).run Tryz.prog w = .ok (.value (.pointer (some ⟨w.heap.size, 0, none⟩))) (w.alloc (.cells Tryz.zeroCells89 89)) := by
  unfold execOp
  simp [ho, go_sem]
theorem ent_divide (args : Array Value) (w : World) : (callFunc 90 args).run Tryz.prog w = .ok (.enter 90 args) w := enters_of Tryz.func90 (by kernel_rfl) rfl args w
theorem ent_word (args : Array Value) (w : World) : (callFunc 96 args).run Tryz.prog w = .ok (.enter 96 args) w := enters_of Tryz.func96 (by kernel_rfl) rfl args w
theorem ent_commonWord (args : Array Value) (w : World) : (callFunc 95 args).run Tryz.prog w = .ok (.enter 95 args) w := enters_of Tryz.func95 (by kernel_rfl) rfl args w
theorem ent_split (args : Array Value) (w : World) : (callFunc 66 args).run Tryz.prog w = .ok (.enter 66 args) w := enters_of Tryz.func66 (by kernel_rfl) rfl args w
end
end Go.Proofs.YtegjcikofmphjaaGreatDoor
/- Layer 1: cut. -/
namespace Go.Proofs.YtegjcikofmphjaaGreatDoor
open Go Go.RowKit Go.Shelf
attribute [local go_sem] Oper.semAt_some
theorem cut_step {R V : List Nat} {s m t d : Nat} (hV : V.length = 65) (hR : R.length = 65) (hs : s < 65) (hsame : V[s]? = R[s]?) (hd : d = V[s]?.getD 0) (h : val (R.drop (s + 1)) = m * val (V.drop (s + 1)) + t) :
    val (R.drop s) = m * val ((V.set s ((t * 4294967296 + d) / m)).drop s) + (t * 4294967296 + d) % m := by
  have h4 : val ((V.set s ((t * 4294967296 + d) / m)).drop s) = (t * 4294967296 + d) / m + B32 * val (V.drop (s + 1)) := by
    rw [val_drop (ds := V.set s _) (s := s) (by simp; omega)]
    simp [hV, hs, List.drop_set]
  have h5 := Nat.mod_add_div (t * 4294967296 + d) m
  rw [h4, val_drop (ds := R) (s := s) (by omega), ← hsame, ← hd, h]
  unfold B32
  rw [Nat.mul_add, Nat.mul_add, Nat.mul_left_comm m 4294967296]
  omega
def CutSt (bx b0 m nn : Nat) (R : List Nat) (s : Nat) (W : World) : Prop := ∃ (V : List Nat) (t : Nat), s ≤ m ∧ RowAt W bx 89 (arr V) ∧ Digits V ∧ V.length = 65 ∧ t < nn ∧ Boxed W (b0 + 1 + 1) 87 (.int .u32 (t : Int)) ∧ (∀ j, j < s ∨ m ≤ j → V[j]? = R[j]?) ∧ val (R.drop s) = nn * val (V.drop s) + t ∧
  Boxed W b0 23 (.slice (some ⟨bx, 0, none⟩) m 65) ∧ Boxed W (b0 + 1) 87 (.int .u32 (nn : Int)) ∧ Boxed W (b0 + 1 + 1 + 1) 23 (.slice (some ⟨bx, 0, none⟩) m 65)
theorem CutSt.own (bx b0 m nn : Nat) (R : List Nat) : Own (CutSt bx b0 m nn R) := fun s A B row h hg hr => by
  obtain ⟨V, t, h1, h2, h3, h4, h5, h6, h7, h8, h9, h10, h11⟩ := h
  exact ⟨V, t, h1, RowAt.own bx _ (fun (_ : Unit) => arr V) () _ _ _ h2 hg hr, h3, h4, h5, boxed_own (b0 + 1 + 1) _ (fun (_ : Unit) => _) () _ _ _ h6 hg hr, h7, h8, boxed_own b0 _ (fun (_ : Unit) => _) () _ _ _ h9 hg hr, boxed_own (b0 + 1) _ (fun (_ : Unit) => _) () _ _ _ h10 hg hr, boxed_own (b0 + 1 + 1 + 1) _ (fun (_ : Unit) => _) () _ _ _ h11 hg hr⟩
theorem ownFrom_keeps {β : Type} {n₀ B g : Nat} {w₀ : World} (hn : n₀ ≤ w₀.heap.size) (hB : n₀ ≤ B) : OwnFrom B (fun (_ : β) W => Keeps n₀ g w₀ W) := fun _ W W' row hs hg hr => by
  have hb : Below n₀ W W' := Below.grown (Below.refl _ W) hg (Nat.le_trans hn hs.size) (fun k e => Nat.le_trans hB (hr k e).1)
  exact hs.below hb
set_option maxRecDepth 100000 in
set_option maxHeartbeats 4000000 in
theorem cut_calls (bx m nn : Nat) (R : List Nat) (w : World) (hrow : RowAt w bx 89 (arr R)) (hdR : Digits R) (hR : R.length = 65) (hm : m ≤ 65) (hz : ∀ j, m ≤ j → R[j]?.getD 0 = 0) (hn0 : 0 < nn) (hnB : nn < 4294967296) :
    Calls Tryz.prog 78 #[.slice (some ⟨bx, 0, none⟩) m 65, .int .u32 nn] w fun e w' => e = .returned (.int .u32 (val R % nn : Nat)) ∧
      (∃ Z, RowAt w' bx 89 (arr Z) ∧ Digits Z ∧ Z.length = 65 ∧ (∀ j, m ≤ j → Z[j]? = R[j]?) ∧ val Z = val R / nn) ∧ Keeps w.heap.size bx w w' := by
  obtain ⟨b0, hb0⟩ : ∃ b0, b0 = w.heap.size := ⟨_, rfl⟩
  obtain ⟨W3, hW3⟩ : ∃ W3, W3 = ((w.alloc (.cells #[.slice (some ⟨bx, 0, none⟩) m 65] 23)).alloc (.cells #[.int .u32 nn] 87)).alloc (.cells #[.int .u32 0] 87) := ⟨_, rfl⟩
  obtain ⟨W4, hW4⟩ : ∃ W4, W4 = W3.alloc (.cells #[.slice (some ⟨bx, 0, none⟩) m 65] 23) := ⟨_, rfl⟩
  have Hz := Lib.hid hz
  have Hb0 := Lib.hid hb0
  have HW3 := Lib.hid hW3
  have HW4 := Lib.hid hW4
  clear hz hb0 hW3 hW4
  refine (callsIn_wide (n := 5)).1 ?_
  refine callsIn_of_wp_marks Tryz.func78 rfl trivial ?_ rfl
  simp only [Tryz.ntmps78, List.size_toArray, List.length_cons, List.length_nil, Nat.reduceAdd, Nat.reduceSub, Array.replicate_succ, Array.replicate_zero, List.push_toArray, List.append_toArray, List.nil_append, List.cons_append]
  gi_wp2_with (refine ⟨trivial, ?_⟩; gi_at_call 98; refine (callsIn_wide.2 (down_calls _ _ _ _)).mono ?_; rintro e w' ⟨rfl, rfl⟩)
  rw [← HW3.out, ← HW4.out]
  have hbx : bx < w.heap.size := hrow.lt
  have hs4 : W4.heap.size = w.heap.size + 4 := by rw [HW4.out, HW3.out]; simp
  have hr4 : RowAt W4 bx 89 (arr R) := by rw [HW4.out, HW3.out]; exact (((hrow.alloc _).alloc _).alloc _).alloc _
  have hk4 : Keeps w.heap.size bx w W4 := (Keeps.refl _ _ w).below (by rw [HW4.out, HW3.out]; exact ((((Below.refl _ w).alloc (Nat.le_refl _) _).alloc (by simp) _).alloc (by simp; omega) _).alloc (by simp; omega) _)
  have hx0 : Boxed W4 w.heap.size 23 (.slice (some ⟨bx, 0, none⟩) m 65) := by rw [HW4.out, HW3.out]; exact (((Boxed.new w _ _).alloc _).alloc _).alloc _
  have hx1 : Boxed W4 (w.heap.size + 1) 87 (.int .u32 (nn : Int)) := by
    rw [HW4.out, HW3.out]
    have := Boxed.new (w.alloc (.cells #[.slice (some ⟨bx, 0, none⟩) m 65] 23)) 87 (.int .u32 (nn : Int))
    rw [World.size_alloc] at this
    exact (this.alloc _).alloc _
  have hx2 : Boxed W4 (w.heap.size + 1 + 1) 87 (.int .u32 ((0 : Nat) : Int)) := by
    rw [HW4.out, HW3.out]
    have := Boxed.new ((w.alloc (.cells #[.slice (some ⟨bx, 0, none⟩) m 65] 23)).alloc (.cells #[.int .u32 nn] 87)) 87 (.int .u32 0)
    rw [World.size_alloc, World.size_alloc] at this
    exact this.alloc _
  have hx3 : Boxed W4 (w.heap.size + 1 + 1 + 1) 23 (.slice (some ⟨bx, 0, none⟩) m 65) := by
    have h := Boxed.new W3 23 (.slice (some ⟨bx, 0, none⟩) m 65)
    rw [show W3.heap.size = w.heap.size + 1 + 1 + 1 by rw [HW3.out]; simp, ← HW4.out] at h
    exact h
  have hst : CutSt bx w.heap.size m nn R m W4 := ⟨R, 0, Nat.le_refl _, hr4, hdR, hR, hn0, hx2, fun _ _ => rfl, by
    have h1 : val (R.drop m) = 0 := val_zero_of_all fun d hd => by
      obtain ⟨i, hi, rfl⟩ := List.getElem_of_mem hd
      have hi' : m + i < R.length := by simp at hi; omega
      have := Hz.out (m + i) (by omega)
      simpa [hi'] using this
    rw [h1]; simp, hx0, hx1, hx3⟩
  have Hs4 := Lib.hid hs4
  clear hs4 hr4 hx0 hx1 hx2 hx3
  have h1 : 1 ≤ 5 := by decide
  have hro : Fence.wide.round = none := rfl
  refine wpIn_rangeFunc_S (α := Nat × Nat) hro h1 (gf := 119) (lb := #[.pointer (some ⟨w.heap.size + 1 + 1 + 1, 0, none⟩)]) rfl trivial (enters_of Tryz.func119 (by kernel_rfl) rfl)
    (down1_seq 4 (by decide) (w.heap.size + 1 + 1 + 1) (some ⟨bx, 0, none⟩) m 65 (by unfold maxLen; omega)) (fun _ => rfl)
    (fun s W => CutSt bx w.heap.size m nn R s W ∧ Keeps w.heap.size bx w W)
    (fun _ _ => False)
    (OwnFrom.and ((CutSt.own _ _ _ _ _).from _) (ownFrom_keeps (Nat.le_refl _) (by rw [Hs4.out]; omega)))
    (fun c => Own.from (fun _ A B row hs hg hr => hs) _)
    (fun s x => Own.from (fun _ A B row hs hg hr => by obtain ⟨b, off, e, h⟩ := hs; exact ⟨b, off, e, cell_kept h hg hr⟩) _)
    ?wk ⟨hst, hk4⟩ (fun x => { tmps := #[(.slice (some ⟨bx, 0, none⟩) m 65), (.int .u32 (nn : Int)), (.pointer (some ⟨w.heap.size, 0, none⟩)), (.pointer (some ⟨w.heap.size + 1, 0, none⟩)), (.int .u32 0), (.pointer (some ⟨w.heap.size + 1 + 1, 0, none⟩)), (.int .i64 (x.1 : Int)), (.int .u32 (x.2 : Int)), (.slice (some ⟨bx, 0, none⟩) m 65), (.func (.func 119) #[] #[.pointer (some ⟨w.heap.size + 1 + 1 + 1, 0, none⟩)]), (.int .i64 (x.1 : Int)), (.int .u32 (x.2 : Int)), undef, undef, undef, undef, undef, undef, undef, undef, undef, undef, undef], defers := [] }) ?assign ?body ?done ?stop
  case wk =>
    rintro s W ⟨⟨V, t, hs, hr, hdV, hlV, _, _, _, _, _, _, hit⟩, hB⟩
    refine ⟨hs, hit.cell, fun k hk => ⟨bx, 0, V[k]?.getD 0, rfl, ?_⟩⟩
    rw [Nat.zero_add]
    exact (hr.cell k).trans (arr_get _ k (by omega))
  case assign =>
    intro l x W K hK
    gi_wp2
    exact hK
  case body =>
    rintro l s ⟨k, d⟩ s2 W ⟨⟨V, t, hs, hr, hdV, hlV, htn, hx2, hsame, hval, hx0, hx1, hx3⟩, hk⟩ ⟨h1, h2⟩ ⟨b', off, e, hcell⟩
    dsimp only at h1 h2 hcell ⊢
    subst h2; subst h1
    cases e
    rw [Nat.zero_add] at hcell
    have hs2 : s2 < m := hs
    have hd : d = V[s2]?.getD 0 := by
      have := (hr.cell s2).trans (arr_get _ s2 (by omega))
      rw [hcell] at this; exact u32_inj this
    have hdlt : d < 4294967296 := by rw [hd]; exact hdV.getD s2
    have HC3 := Lib.hid (div32_bound hnB hdlt htn)
    have Hstep := Lib.hid (cut_step hlV hR (by omega) (hsame s2 (.inl (by omega))) hd hval)
    have Hmod := Lib.hid (Nat.mod_lt (t * 4294967296 + d) hn0)
    obtain ⟨q, hq⟩ : ∃ q, q = (t * 4294967296 + d) / nn := ⟨_, rfl⟩
    obtain ⟨r, hr2⟩ : ∃ r, r = (t * 4294967296 + d) % nn := ⟨_, rfl⟩
    have HC : Hid (∀ W2, Calls Tryz.prog 99 #[.int .u32 t, .int .u32 d, .int .u32 nn] W2 fun e w' => e = .returned (.tuple #[.int .u32 (q : Int), .int .u32 (r : Int)]) ∧ Below W2.heap.size W2 w') := fun W2 => by rw [hq, hr2]; exact div32_calls t d nn hdlt hnB htn W2
    rw [← hq] at HC3
    rw [← hq, ← hr2] at Hstep
    rw [← hr2] at Hmod
    have hc0 := (show Boxed W.drew w.heap.size 23 (.slice (some ⟨bx, 0, none⟩) m 65) from hx0).cell
    have hc1 := (show Boxed W.drew (w.heap.size + 1) 87 (.int .u32 (nn : Int)) from hx1).cell
    have hc2 := (show Boxed W.drew (w.heap.size + 1 + 1) 87 (.int .u32 (t : Int)) from hx2).cell
    have hs2I : (s2 : Int) < (m : Int) := by omega
    have hs2J : (0 : Int) ≤ (s2 : Int) := by omega
    have Hr := Lib.hid hr
    have Hx0 := Lib.hid hx0
    have Hx1 := Lib.hid hx1
    have Hx2 := Lib.hid hx2
    have Hx3 := Lib.hid hx3
    have Hsame := Lib.hid hsame
    have Hk := Lib.hid hk
    have hkl : ∀ W2, Below W.drew.heap.size W.drew W2 → RowAt W2 bx 89 (arr V) ∧ Boxed W2 (w.heap.size + 1 + 1) 87 (.int .u32 (t : Int)) := fun W2 hb => ⟨RowAt.below (RowAt.drew Hr.out) hb Hr.out.lt, RowAt.boxed (RowAt.below (RowAt.drew (RowAt.ofBoxed Hx2.out)) hb Hx2.out.lt)⟩
    have Hkl := Lib.hid hkl
    clear hq hr2 hd hr hx0 hx1 hx2 hx3 hsame hk hval hcell hst hk4 hkl
    gi_wp2
    refine Code.wpIn_mono (Q := fun e a w' => e = .normal ∧ ∃ u12 u13 u14 u15 u16 u17 u18 u19 u20 u21 u22 : Value, a = { tmps := #[(.slice (some ⟨bx, 0, none⟩) m 65), (.int .u32 (nn : Int)), (.pointer (some ⟨w.heap.size, 0, none⟩)), (.pointer (some ⟨w.heap.size + 1, 0, none⟩)), (.int .u32 0), (.pointer (some ⟨w.heap.size + 1 + 1, 0, none⟩)), (.int .i64 (s2 : Int)), (.int .u32 (d : Int)), (.slice (some ⟨bx, 0, none⟩) m 65), (.func (.func 119) #[] #[.pointer (some ⟨w.heap.size + 1 + 1 + 1, 0, none⟩)]), (.int .i64 (s2 : Int)), (.int .u32 (d : Int)), u12, u13, u14, u15, u16, u17, u18, u19, u20, u21, u22], defers := [] } ∧ ∃ W2, Below W.drew.heap.size W.drew W2 ∧ w' = (W2.setCell ⟨bx, s2, none⟩ (.int .u32 (q : Int))).setCell ⟨w.heap.size + 1 + 1, 0, none⟩ (.int .u32 (r : Int))) ?imp ?reg
    case reg =>
      have hWd : ∀ W2, Below W.drew.heap.size W.drew W2 → RowAt W2 bx 89 (arr V) ∧ Boxed W2 (w.heap.size + 1 + 1) 87 (.int .u32 (t : Int)) := Hkl.out
      have hWc : ∀ W2, Below W.drew.heap.size W.drew W2 → Boxed W2 w.heap.size 23 (.slice (some ⟨bx, 0, none⟩) m 65) ∧ Boxed W2 (w.heap.size + 1) 87 (.int .u32 (nn : Int)) ∧ Boxed W2 (w.heap.size + 1 + 1) 87 (.int .u32 (t : Int)) := fun W2 hb => ⟨(hb.block _ Hx0.out.lt).trans Hx0.out, (hb.block _ Hx1.out.lt).trans Hx1.out, (hb.block _ Hx2.out.lt).trans Hx2.out⟩
      refine wpIn_region_inv (fun D a w' => ∃ v12 v13 v14 v15 v16 v17 v18 v19 v20 v21, a = { tmps := #[(.slice (some ⟨bx, 0, none⟩) m 65), (.int .u32 (nn : Int)), (.pointer (some ⟨w.heap.size, 0, none⟩)), (.pointer (some ⟨w.heap.size + 1, 0, none⟩)), (.int .u32 0), (.pointer (some ⟨w.heap.size + 1 + 1, 0, none⟩)), (.int .i64 (s2 : Int)), (.int .u32 (d : Int)), (.slice (some ⟨bx, 0, none⟩) m 65), (.func (.func 119) #[] #[.pointer (some ⟨w.heap.size + 1 + 1 + 1, 0, none⟩)]), (.int .i64 (s2 : Int)), (.int .u32 (d : Int)), v12, v13, v14, v15, v16, v17, v18, v19, v20, v21, undef], defers := [] } ∧
        (D 0 → v13 = .slice (some ⟨bx, 0, none⟩) m 65) ∧ (D 1 → v14 = .int .i64 (s2 : Int)) ∧ (D 2 → v15 = .int .u32 (t : Int)) ∧ (D 3 → v16 = .int .u32 (d : Int)) ∧ (D 4 → v17 = .int .u32 (nn : Int)) ∧ (D 5 → v18 = .tuple #[.int .u32 (q : Int), .int .u32 (r : Int)]) ∧ (D 6 → v12 = .tuple #[.int .u32 (q : Int), .int .u32 (r : Int)]) ∧
        (D 7 → v19 = .int .u32 (q : Int)) ∧ (D 8 → v20 = .int .u32 (r : Int)) ∧ (D 9 → v21 = .pointer (some ⟨bx, s2, none⟩)) ∧ (D 11 → D 10) ∧ (D 10 → D 0 ∧ D 2 ∧ D 4 ∧ D 5) ∧
        ∃ W2, Below W.drew.heap.size W.drew W2 ∧ (¬ D 10 → w' = W2) ∧ (D 10 → ¬ D 11 → w' = W2.setCell ⟨bx, s2, none⟩ (.int .u32 (q : Int))) ∧ (D 11 → w' = (W2.setCell ⟨bx, s2, none⟩ (.int .u32 (q : Int))).setCell ⟨w.heap.size + 1 + 1, 0, none⟩ (.int .u32 (r : Int))))
        (by kernel_rfl) (by kernel_rfl) ?start ?step ?fin
      case start => exact ⟨undef, undef, undef, undef, undef, undef, undef, undef, undef, undef, rfl, False.elim, False.elim, False.elim, False.elim, False.elim, False.elim, False.elim, False.elim, False.elim, False.elim, False.elim, False.elim, W.drew, Below.refl _ _, fun _ => rfl, False.elim, False.elim⟩
      case step =>
        rintro i o D a w1 hio hn he ⟨v12, v13, v14, v15, v16, v17, v18, v19, v20, v21, rfl, f0, f1, f2, f3, f4, f5, f6, f7, f8, f9, f11, f10, W2, hb, e0, e1, e2⟩
        rcases i with _ | _ | _ | _ | _ | _ | _ | _ | _ | _ | _ | _ | i
        rotate_left 12
        · exact absurd hio (by simp)
        all_goals (obtain rfl := Option.some.inj (hio.symm.trans (by rfl)))
        · obtain rfl := e0 fun h => hn (f10 h).1
          exact wpr_of_run (by simp) (run_load_slice (.tmp 2) rfl w.heap.size rfl _ _ _ (hWc _ hb).1.cell) ⟨_, _, _, _, _, _, _, _, _, _, rfl, put_eq rfl, put_ne (by decide) f1, put_ne (by decide) f2, put_ne (by decide) f3, put_ne (by decide) f4, put_ne (by decide) f5, put_ne (by decide) f6, put_ne (by decide) f7, put_ne (by decide) f8, put_ne (by decide) f9, fun e => .inr (f11 (And'.ne (by decide) e)), fun e => have h := f10 (And'.ne (by decide) e); ⟨.inr h.1, .inr h.2.1, .inr h.2.2.1, .inr h.2.2.2⟩, w1, hb, fun _ => rfl, fun h h' => e1 (And'.ne (by decide) h) fun h2 => h' (.inr h2), fun h => e2 (And'.ne (by decide) h)⟩
        · exact wpr_of_run (by simp) (run_move (.tmp 6) rfl) ⟨_, _, _, _, _, _, _, _, _, _, rfl, put_ne (by decide) f0, put_eq rfl, put_ne (by decide) f2, put_ne (by decide) f3, put_ne (by decide) f4, put_ne (by decide) f5, put_ne (by decide) f6, put_ne (by decide) f7, put_ne (by decide) f8, put_ne (by decide) f9, fun e => .inr (f11 (And'.ne (by decide) e)), fun e => have h := f10 (And'.ne (by decide) e); ⟨.inr h.1, .inr h.2.1, .inr h.2.2.1, .inr h.2.2.2⟩, W2, hb, fun h => e0 fun h' => h (.inr h'), fun h h' => e1 (And'.ne (by decide) h) fun h2 => h' (.inr h2), fun h => e2 (And'.ne (by decide) h)⟩
        · obtain rfl := e0 fun h => hn (f10 h).2.1
          exact wpr_of_run (by simp) (run_load_u32 (.tmp 5) rfl (w.heap.size + 1 + 1) rfl _ (hWc _ hb).2.2.cell) ⟨_, _, _, _, _, _, _, _, _, _, rfl, put_ne (by decide) f0, put_ne (by decide) f1, put_eq rfl, put_ne (by decide) f3, put_ne (by decide) f4, put_ne (by decide) f5, put_ne (by decide) f6, put_ne (by decide) f7, put_ne (by decide) f8, put_ne (by decide) f9, fun e => .inr (f11 (And'.ne (by decide) e)), fun e => have h := f10 (And'.ne (by decide) e); ⟨.inr h.1, .inr h.2.1, .inr h.2.2.1, .inr h.2.2.2⟩, w1, hb, fun _ => rfl, fun h h' => e1 (And'.ne (by decide) h) fun h2 => h' (.inr h2), fun h => e2 (And'.ne (by decide) h)⟩
        · exact wpr_of_run (by simp) (run_move (.tmp 7) rfl) ⟨_, _, _, _, _, _, _, _, _, _, rfl, put_ne (by decide) f0, put_ne (by decide) f1, put_ne (by decide) f2, put_eq rfl, put_ne (by decide) f4, put_ne (by decide) f5, put_ne (by decide) f6, put_ne (by decide) f7, put_ne (by decide) f8, put_ne (by decide) f9, fun e => .inr (f11 (And'.ne (by decide) e)), fun e => have h := f10 (And'.ne (by decide) e); ⟨.inr h.1, .inr h.2.1, .inr h.2.2.1, .inr h.2.2.2⟩, W2, hb, fun h => e0 fun h' => h (.inr h'), fun h h' => e1 (And'.ne (by decide) h) fun h2 => h' (.inr h2), fun h => e2 (And'.ne (by decide) h)⟩
        · obtain rfl := e0 fun h => hn (f10 h).2.2.1
          exact wpr_of_run (by simp) (run_load_u32 (.tmp 3) rfl (w.heap.size + 1) rfl _ (hWc _ hb).2.1.cell) ⟨_, _, _, _, _, _, _, _, _, _, rfl, put_ne (by decide) f0, put_ne (by decide) f1, put_ne (by decide) f2, put_ne (by decide) f3, put_eq rfl, put_ne (by decide) f5, put_ne (by decide) f6, put_ne (by decide) f7, put_ne (by decide) f8, put_ne (by decide) f9, fun e => .inr (f11 (And'.ne (by decide) e)), fun e => have h := f10 (And'.ne (by decide) e); ⟨.inr h.1, .inr h.2.1, .inr h.2.2.1, .inr h.2.2.2⟩, w1, hb, fun _ => rfl, fun h h' => e1 (And'.ne (by decide) h) fun h2 => h' (.inr h2), fun h => e2 (And'.ne (by decide) h)⟩
        · have hn10 : ¬ D 10 := fun h => hn (f10 h).2.2.2
          obtain rfl := e0 hn10
          obtain rfl := f2 (he ⟨2, .data⟩ (by simp) rfl)
          obtain rfl := f3 (he ⟨3, .data⟩ (by simp) rfl)
          obtain rfl := f4 (he ⟨4, .data⟩ (by simp) rfl)
          exact wpr_of_call (by decide) (by simp) (run_enter3 99 (.tmp 15) (.tmp 16) (.tmp 17) _ rfl _ _ _ rfl rfl rfl ent_div32) (HC.out w1) fun W3 h3 => ⟨_, _, _, _, _, _, _, _, _, _, rfl, put_ne (by decide) f0, put_ne (by decide) f1, put_ne (by decide) f2, put_ne (by decide) f3, put_ne (by decide) f4, put_eq rfl, put_ne (by decide) f6, put_ne (by decide) f7, put_ne (by decide) f8, put_ne (by decide) f9, fun e => .inr (f11 (And'.ne (by decide) e)), fun e => absurd (And'.ne (by decide) e) hn10, W3, hb.trans (h3.mono hb.size), fun _ => rfl, fun h => absurd (And'.ne (by decide) h) hn10, fun h => absurd (f11 (And'.ne (by decide) h)) hn10⟩
        · obtain rfl := f5 (he ⟨5, .data⟩ (by simp) rfl)
          exact wpr_of_run (by simp) (run_move (.tmp 18) rfl) ⟨_, _, _, _, _, _, _, _, _, _, rfl, put_ne (by decide) f0, put_ne (by decide) f1, put_ne (by decide) f2, put_ne (by decide) f3, put_ne (by decide) f4, put_ne (by decide) f5, put_eq rfl, put_ne (by decide) f7, put_ne (by decide) f8, put_ne (by decide) f9, fun e => .inr (f11 (And'.ne (by decide) e)), fun e => have h := f10 (And'.ne (by decide) e); ⟨.inr h.1, .inr h.2.1, .inr h.2.2.1, .inr h.2.2.2⟩, W2, hb, fun h => e0 fun h' => h (.inr h'), fun h h' => e1 (And'.ne (by decide) h) fun h2 => h' (.inr h2), fun h => e2 (And'.ne (by decide) h)⟩
        · obtain rfl := f6 (he ⟨6, .data⟩ (by simp) rfl)
          exact wpr_of_run (by simp) (run_extract (.tmp 12) 0 rfl _ rfl _ rfl) ⟨_, _, _, _, _, _, _, _, _, _, rfl, put_ne (by decide) f0, put_ne (by decide) f1, put_ne (by decide) f2, put_ne (by decide) f3, put_ne (by decide) f4, put_ne (by decide) f5, put_ne (by decide) f6, put_eq rfl, put_ne (by decide) f8, put_ne (by decide) f9, fun e => .inr (f11 (And'.ne (by decide) e)), fun e => have h := f10 (And'.ne (by decide) e); ⟨.inr h.1, .inr h.2.1, .inr h.2.2.1, .inr h.2.2.2⟩, W2, hb, fun h => e0 fun h' => h (.inr h'), fun h h' => e1 (And'.ne (by decide) h) fun h2 => h' (.inr h2), fun h => e2 (And'.ne (by decide) h)⟩
        · obtain rfl := f6 (he ⟨6, .data⟩ (by simp) rfl)
          exact wpr_of_run (by simp) (run_extract (.tmp 12) 1 rfl _ rfl _ rfl) ⟨_, _, _, _, _, _, _, _, _, _, rfl, put_ne (by decide) f0, put_ne (by decide) f1, put_ne (by decide) f2, put_ne (by decide) f3, put_ne (by decide) f4, put_ne (by decide) f5, put_ne (by decide) f6, put_ne (by decide) f7, put_eq rfl, put_ne (by decide) f9, fun e => .inr (f11 (And'.ne (by decide) e)), fun e => have h := f10 (And'.ne (by decide) e); ⟨.inr h.1, .inr h.2.1, .inr h.2.2.1, .inr h.2.2.2⟩, W2, hb, fun h => e0 fun h' => h (.inr h'), fun h h' => e1 (And'.ne (by decide) h) fun h2 => h' (.inr h2), fun h => e2 (And'.ne (by decide) h)⟩
        · obtain rfl := f0 (he ⟨0, .data⟩ (by simp) rfl)
          obtain rfl := f1 (he ⟨1, .data⟩ (by simp) rfl)
          exact wpr_of_run (by simp) (run_index_slice (.tmp 13) (.tmp 14) rfl bx m 65 s2 rfl rfl hs2) ⟨_, _, _, _, _, _, _, _, _, _, rfl, put_ne (by decide) f0, put_ne (by decide) f1, put_ne (by decide) f2, put_ne (by decide) f3, put_ne (by decide) f4, put_ne (by decide) f5, put_ne (by decide) f6, put_ne (by decide) f7, put_ne (by decide) f8, put_eq rfl, fun e => .inr (f11 (And'.ne (by decide) e)), fun e => have h := f10 (And'.ne (by decide) e); ⟨.inr h.1, .inr h.2.1, .inr h.2.2.1, .inr h.2.2.2⟩, W2, hb, fun h => e0 fun h' => h (.inr h'), fun h h' => e1 (And'.ne (by decide) h) fun h2 => h' (.inr h2), fun h => e2 (And'.ne (by decide) h)⟩
        · obtain rfl := e0 hn
          have h7 := f7 (he ⟨7, .data⟩ (by simp) rfl)
          have h9 := f9 (he ⟨9, .data⟩ (by simp) rfl)
          subst h7 h9
          exact wpr_of_skip (by simp) (run_store_u32 (.tmp 21) (.tmp 19) rfl bx s2 q (V[s2]?.getD 0) rfl rfl (((hWd _ hb).1.cell s2).trans (arr_get _ s2 (by omega))) ((hWd _ hb).1.frozen s2)) ⟨_, _, _, _, _, _, _, _, _, _, rfl, put_ne (by decide) f0, put_ne (by decide) f1, put_ne (by decide) f2, put_ne (by decide) f3, put_ne (by decide) f4, put_ne (by decide) f5, put_ne (by decide) f6, put_ne (by decide) f7, put_ne (by decide) f8, put_ne (by decide) f9, fun e => absurd (f11 (And'.ne (by decide) e)) hn, fun _ => ⟨.inr (he ⟨0, .phase⟩ (by simp) rfl), .inr (he ⟨2, .phase⟩ (by simp) rfl), .inr (he ⟨4, .phase⟩ (by simp) rfl), .inr (he ⟨5, .phase⟩ (by simp) rfl)⟩, w1, hb, fun h => absurd (.inl rfl) h, fun _ _ => rfl, fun h => absurd (f11 (And'.ne (by decide) h)) hn⟩
        · have h10 := he ⟨10, .chain⟩ (by simp) rfl
          obtain rfl := e1 h10 hn
          have h8 := f8 (he ⟨8, .data⟩ (by simp) rfl)
          subst h8
          have hbq := (RowAt.setOther (RowAt.ofBoxed (hWd _ hb).2) ⟨bx, s2, none⟩ (.int .u32 (q : Int)) (show w.heap.size + 1 + 1 ≠ bx by omega)).boxed
          exact wpr_of_skip (by simp) (run_store_u32 (.tmp 5) (.tmp 20) rfl (w.heap.size + 1 + 1) 0 r t rfl rfl hbq.cell hbq.frozen) ⟨_, _, _, _, _, _, _, _, _, _, rfl, put_ne (by decide) f0, put_ne (by decide) f1, put_ne (by decide) f2, put_ne (by decide) f3, put_ne (by decide) f4, put_ne (by decide) f5, put_ne (by decide) f6, put_ne (by decide) f7, put_ne (by decide) f8, put_ne (by decide) f9, fun _ => .inr h10, fun _ => have h := f10 h10; ⟨.inr h.1, .inr h.2.1, .inr h.2.2.1, .inr h.2.2.2⟩, W2, hb, fun h => absurd (.inr h10) h, fun _ h => absurd (.inl rfl) h, fun _ => rfl⟩
      case fin =>
        rintro D a w1 hD ⟨v12, v13, v14, v15, v16, v17, v18, v19, v20, v21, rfl, f0, f1, f2, f3, f4, f5, f6, f7, f8, f9, f11, f10, W2, hb, e0, e1, e2⟩
        exact ⟨rfl, _, _, _, _, _, _, _, _, _, _, _, rfl, W2, hb, e2 (hD 11 (by simp))⟩
    case imp =>
      rintro e a Wy ⟨rfl, u12, u13, u14, u15, u16, u17, u18, u19, u20, u21, u22, rfl, W2, hb, rfl⟩
      have hB2 : ∀ k, k < W.heap.size → W2.heap[k]? = W.heap[k]? := fun k hk' => hb.block k hk'
      have hoth : ∀ k, k ≠ bx → k ≠ w.heap.size + 1 + 1 → ((W2.setCell ⟨bx, s2, none⟩ (.int .u32 (q : Int))).setCell ⟨w.heap.size + 1 + 1, 0, none⟩ (.int .u32 (r : Int))).heap[k]? = W2.heap[k]? := fun k h7 hg => (heap_setCell_other _ _ _ _ hg).trans (heap_setCell_other W2 ⟨bx, s2, none⟩ k _ h7)
      show KeepsFrom _ _ _ ∧ _
      refine ⟨⟨?_, ?_⟩, ⟨V.set s2 q, r, by omega, ?_, hdV.set _ HC3.out, by simpa using hlV, Hmod.out, ?_, ?_, Hstep.out, ?_, ?_, ?_⟩, ?_⟩
      · rw [World.size_setCell, World.size_setCell]; exact hb.size
      · intro k o hBk ho _
        have hks := Hs4.out
        rw [hoth k (by omega) (by omega), hB2 k (Array.getElem?_eq_some_iff.1 ho).1]; exact ho
      · rw [← arr_set]; exact RowAt.setOther ((Hkl.out W2 hb).1.set s2 _) _ _ (show bx ≠ w.heap.size + 1 + 1 by omega)
      · exact Boxed.set _ (RowAt.setOther (RowAt.ofBoxed (Hkl.out W2 hb).2) ⟨bx, s2, none⟩ _ (show w.heap.size + 1 + 1 ≠ bx by omega)).boxed
      · intro j hj
        rw [List.getElem?_set_ne (by omega)]
        exact Hsame.out j (by omega)
      · exact ((hoth _ (by omega) (by omega)).trans (hB2 _ Hx0.out.lt)).trans Hx0.out
      · exact ((hoth _ (by omega) (by omega)).trans (hB2 _ Hx1.out.lt)).trans Hx1.out
      · exact ((hoth _ (by omega) (by omega)).trans (hB2 _ Hx3.out.lt)).trans Hx3.out
      · have hk2 : Keeps w.heap.size bx w W2 := Hk.out.below (Below.mono (below_of_drew hb) Hk.out.size)
        exact (hk2.setCell (p := ⟨bx, s2, none⟩) (.inl rfl) _).setCell (p := ⟨w.heap.size + 1 + 1, 0, none⟩) (.inr (show w.heap.size ≤ w.heap.size + 1 + 1 by omega)) _
  case done =>
    rintro D s W hD rfl ⟨⟨V, t, -, hr, hdV, hlV, htn, hx2, hsame, hval, -⟩, hk⟩ hK
    rw [List.drop_zero, List.drop_zero] at hval
    have hq : val V = val R / nn := by rw [hval, Nat.mul_add_div hn0, Nat.div_eq_of_lt htn, Nat.add_zero]
    have hm2 : t = val R % nn := by rw [hval, Nat.mul_add_mod, Nat.mod_eq_of_lt htn]
    have hcr := hx2.cell
    have Hq := Lib.hid hq
    have Hm2 := Lib.hid hm2
    have Hr := Lib.hid hr
    have HD : Hid (w.heap.size + 4 ≤ D) := by rw [← Hs4.out]; exact hD
    clear hval hq hm2 hr hst hk4 hx2
    gi_wp2
    have hDb := HD.out
    refine endM hK (v := .int .u32 (t : Int)) (by simp [results, Tryz.f78, go_sem]) ⟨by rw [Hm2.out], ⟨V, (World.putObj_heap_other (show bx ≠ D by omega)).trans Hr.out, hdV, hlV, fun j hj => hsame j (.inr hj), Hq.out⟩, hk.below (belowK_b (w := w) (Nat.le_refl _) W D _ _ (by omega) hK rfl rfl)⟩
  case stop => exact fun D c W hD h => h.elim
end Go.Proofs.YtegjcikofmphjaaGreatDoor

