/- Texts that belong together. -/
import Derived.Test.YtegjcikofmphjaaGreatDoorQRegion
import Derived.Test.YtegjcikofmphjaaGreatDoorQBase
set_option linter.all false
/- Laws for single operations, for a region whose order is open (XRegion), in a plain walk and in a round. -/
namespace Go.Proofs.YtegjcikofmphjaaGreatDoor
open Go Go.RowKit Go.Shelf
section
variable {o : Oper} {a : Act} {w : World} {K : Act → World → Prop} {Q : Exit → Act → World → Prop}
theorem wp_of_run {v : Value} {w' : World} (h : (execOp a.eval o).run Tryz.prog w = .ok (.value v) w') (hk : K (a.put o.dst v) w') : o.wp Tryz.prog a w K Q := by
  unfold Oper.wp; rw [h]; exact hk
theorem wp_of_skip {w' : World} (h : (execOp a.eval o).run Tryz.prog w = .ok .skip w') (hk : K (a.put o.dst undef) w') : o.wp Tryz.prog a w K Q := by
  unfold Oper.wp; rw [h]; exact hk
theorem wpr_of_run {l n : Nat} (hop : ∀ c, o.op ≠ .defer c) {v : Value} {w' : World} (h : (execOp a.eval o).run Tryz.prog w = .ok (.value v) w') (hk : K (a.put o.dst v) w') : o.wpIn (Fence.wide.inRound l) n Tryz.prog a w K Q := by
  refine ⟨fun _ _ => trivial, ?_⟩
  rw [show (Fence.wide.inRound l).round = some l from rfl, Oper.semAt_some l _ _ hop, h]; exact hk
theorem wpr_of_skip {l n : Nat} (hop : ∀ c, o.op ≠ .defer c) {w' : World} (h : (execOp a.eval o).run Tryz.prog w = .ok .skip w') (hk : K (a.put o.dst undef) w') : o.wpIn (Fence.wide.inRound l) n Tryz.prog a w K Q := by
  refine ⟨fun _ _ => trivial, ?_⟩
  rw [show (Fence.wide.inRound l).round = some l from rfl, Oper.semAt_some l _ _ hop, h]; exact hk
theorem wpr_of_call {l n : Nat} (hn : 1 ≤ n) (hop : ∀ c, o.op ≠ .defer c) {f : FuncId} {args : Array Value} (h : (execOp a.eval o).run Tryz.prog w = .ok (.enter f args) w) {v : Value} {R : World → Prop}
    (hc : Calls Tryz.prog f args w fun e w' => e = .returned v ∧ R w') (hk : ∀ w', R w' → K (a.put o.dst v) w') : o.wpIn (Fence.wide.inRound l) n Tryz.prog a w K Q := by
  refine ⟨fun _ _ => trivial, ?_⟩
  rw [show (Fence.wide.inRound l).round = some l from rfl, Oper.semAt_some l _ _ hop, h]
  refine ⟨fun _ => hn, (CallsIn.inRound l (callsIn_wide.2 hc)).mono ?_⟩
  rintro e w' ⟨rfl, hr⟩
  exact hk w' hr
theorem run_move (x : Operand) (ho : o.op = .move x) : (execOp a.eval o).run Tryz.prog w = .ok (.value (a.eval x)) w := by
  unfold execOp; rw [ho]; rfl
theorem run_load_slice (x : Operand) (ho : o.op = .load 23 x) (g : Nat) (hx : a.eval x = .pointer (some ⟨g, 0, none⟩)) (p : Option Addr) (n c : Nat) (hc : w.cell? ⟨g, 0, none⟩ = some (.slice p n c)) : (execOp a.eval o).run Tryz.prog w = .ok (.value (.slice p n c)) w := by
  unfold execOp
  simp only [ho, hx, Instr.loadAt, Instr.sureAddr, Sem.run_bind, Sem.run_pure, Result.andThen_ok]
  simp [hc, go_sem]
theorem run_load_u32 (x : Operand) (ho : o.op = .load 87 x) (g : Nat) (hx : a.eval x = .pointer (some ⟨g, 0, none⟩)) (v : Int) (hc : w.cell? ⟨g, 0, none⟩ = some (.int .u32 v)) : (execOp a.eval o).run Tryz.prog w = .ok (.value (.int .u32 v)) w := by
  unfold execOp
  simp only [ho, hx, Instr.loadAt, Instr.sureAddr, Sem.run_bind, Sem.run_pure, Result.andThen_ok]
  simp [hc, go_sem]
theorem run_len (x : Operand) (ts : Array TypeId) (ho : o.op = .call { callee := .builtin .len, args := #[x], argTypes := ts }) (hts : ts = #[23]) (p : Option Addr) (n c : Nat) (hx : a.eval x = .slice p n c) : (execOp a.eval o).run Tryz.prog w = .ok (.value (.int .i64 n)) w := by
  subst hts
  obtain ⟨dst, op, type, pos, after, guard⟩ := o
  obtain rfl : op = _ := ho
  have e : Array.map a.eval #[x] = #[.slice p n c] := by simp only [List.map_toArray, List.map_cons, List.map_nil, hx]
  rw [BigFrame.execOp_builtin, e]
  simp [go_sem]
theorem run_add (x y : Operand) (ho : o.op = .binOp .add 3 x y 3) (ht : o.type = 3) (u v : Int) (hx : a.eval x = .int .i64 u) (hy : a.eval y = .int .i64 v) (hr : IntKind.i64.wrap (u + v) = u + v) : (execOp a.eval o).run Tryz.prog w = .ok (.value (.int .i64 (u + v))) w := by
  unfold execOp
  simp only [ho, hx, hy, ht]
  simp [go_sem, hr]
theorem run_addN (x y : Operand) (ho : o.op = .binOp .add 3 x y 3) (ht : o.type = 3) (u v : Nat) (hx : a.eval x = .int .i64 u) (hy : a.eval y = .int .i64 v) (hr : u + v < 4611686018427387904) : (execOp a.eval o).run Tryz.prog w = .ok (.value (.int .i64 ((u + v : Nat) : Int))) w := by
  rw [run_add x y ho ht u v hx hy (by rw [IntKind.wrap_i64]; omega), Int.natCast_add]
theorem run_slice2 (x y z : Operand) (ho : o.op = .slice 89 x (some y) (some z) none) (g u v : Nat) (hx : a.eval x = .pointer (some ⟨g, 0, none⟩)) (hy : a.eval y = .int .i64 u) (hz : a.eval z = .int .i64 v) (huv : u ≤ v) (hv : v ≤ 65) (hu : u < 65) (d : Nat) (hd : v - u = d) : (execOp a.eval o).run Tryz.prog w = .ok (.value (.slice (some ⟨g, u, none⟩) d (65 - u))) w := by
  subst hd
  have h1 : (u : Int) ≤ (v : Int) := by omega
  have h2 : (v : Int) ≤ 65 := by omega
  have h3 : ¬ (65 = u) := by omega
  unfold execOp
  simp only [ho, hx, hy, hz, Option.map_some, Option.map_none]
  simp [go_sem, h1, h2, h3]
theorem run_slice1 (x z : Operand) (ho : o.op = .slice 89 x none (some z) none) (g v : Nat) (hx : a.eval x = .pointer (some ⟨g, 0, none⟩)) (hz : a.eval z = .int .i64 v) (hv : v ≤ 65) : (execOp a.eval o).run Tryz.prog w = .ok (.value (.slice (some ⟨g, 0, none⟩) v 65)) w := by
  have h2 : (v : Int) ≤ 65 := by omega
  unfold execOp
  simp only [ho, hx, hz, Option.map_some, Option.map_none]
  simp [go_sem, h2]
theorem run_index (x y : Operand) (ho : o.op = .indexAddr 89 x y) (g u : Nat) (hx : a.eval x = .pointer (some ⟨g, 0, none⟩)) (hy : a.eval y = .int .i64 u) (hu : u < 65) : (execOp a.eval o).run Tryz.prog w = .ok (.value (.pointer (some ⟨g, u, none⟩))) w := by
  have h2 : (u : Int) < 65 := by omega
  unfold execOp
  simp only [ho, hx, hy]
  simp [go_sem, h2]
theorem run_store_u32 (x y : Operand) (ho : o.op = .store 87 x y) (g u : Nat) (d old : Nat) (hx : a.eval x = .pointer (some ⟨g, u, none⟩)) (hy : a.eval y = .int .u32 d) (hc : w.cell? ⟨g, u, none⟩ = some (.int .u32 old)) (hf : w.frozen? ⟨g, u, none⟩ = false) :
    (execOp a.eval o).run Tryz.prog w = .ok .skip (w.setCell ⟨g, u, none⟩ (.int .u32 d)) := by
  unfold execOp
  simp only [ho, hx, hy]
  simp [go_sem, hc, hf]
theorem run_enter2 (f : FuncId) (x y : Operand) (ts : Array TypeId) (ho : o.op = .call { callee := .value (.func f), args := #[x, y], argTypes := ts }) (u1 u2 : Value) (h1 : a.eval x = u1) (h2 : a.eval y = u2) (hf : ∀ args w, (callFunc f args).run Tryz.prog w = .ok (.enter f args) w) :
    (execOp a.eval o).run Tryz.prog w = .ok (.enter f #[u1, u2]) w := by
  have ef : a.eval (.func f) = .func (.func f) #[] #[] := rfl
  have hm : Array.map a.eval #[x, y] = #[u1, u2] := by rw [← h1, ← h2]; simp
  unfold execOp
  simp only [ho, resolve, Deferred.ofValue, invoke, ef, hm]
  simp [hf]
theorem run_load_row (x : Operand) (ho : o.op = .load 89 x) (g : Nat) (hx : a.eval x = .pointer (some ⟨g, 0, none⟩)) (xs : List Nat) (hxs : xs.length = 65) (t : TypeId) (hg : RowAt w g t (arr xs)) : (execOp a.eval o).run Tryz.prog w = .ok (.value (.agg (arr xs))) w := by
  unfold execOp
  simp only [ho, hx, Instr.loadAt, Instr.sureAddr, Sem.run_bind, Sem.run_pure, Result.andThen_ok, run_loadVar_row w g t 89 (arr xs) (0, 0) _ hg Tryz.underlying89 rfl (by rw [row_info, arr_size, hxs])]
theorem ent_takeOut (args : Array Value) (w : World) : (callFunc 111 args).run Tryz.prog w = .ok (.enter 111 args) w := enters_of Tryz.func111 (by kernel_rfl) rfl args w
end
theorem results_two_rows {fn : Func} {p q : Tmp} (h : fn.results = #[.cell p 89, .cell q 89]) (tmps : Array Value) (w : World) (g k : Nat) (t s : TypeId) (xs ys : List Nat) (hx : xs.length = 65) (hy : ys.length = 65)
    (hp : tmps.getD p undef = .pointer (some ⟨g, 0, none⟩)) (hq : tmps.getD q undef = .pointer (some ⟨k, 0, none⟩)) (hg : RowAt w g t (arr xs)) (hk : RowAt w k s (arr ys)) :
    (results fn tmps).run Tryz.prog w = .ok (.tuple #[.agg (arr xs), .agg (arr ys)]) w := by
  have hp' : tmps[p]?.getD undef = .pointer (some ⟨g, 0, none⟩) := by simpa using hp
  have hq' : tmps[q]?.getD undef = .pointer (some ⟨k, 0, none⟩) := by simpa using hq
  have h1 := run_loadVar_row (P := Tryz.prog) w g t 89 (arr xs) (0, 0) _ hg Tryz.underlying89 rfl (by rw [row_info, arr_size, hx])
  have h2 := run_loadVar_row (P := Tryz.prog) w k s 89 (arr ys) (0, 0) _ hk Tryz.underlying89 rfl (by rw [row_info, arr_size, hy])
  simp [results, h, hp', hq', asAddr, h1, h2]
theorem endM2 {F : Fence} {n : Nat} {P : Program} {fn : Func} {R : Ending → World → Prop} {tmps : Array Value} {W : World} {D E : Nat} {v : Value}
    (hD : W.heap[D]? = some (.deferred (some []))) (hE : (W.putObj D (.deferred none)).heap[E]? = some (.deferred (some [])))
    (hr : (results fn tmps).run P ((W.putObj D (.deferred none)).putObj E (.deferred none)) = .ok v ((W.putObj D (.deferred none)).putObj E (.deferred none)))
    (hR : R (.returned v) ((W.putObj D (.deferred none)).putObj E (.deferred none))) :
    bodyPostM F n P fn R .ret { tmps, defers := [{ target := .collected D, args := #[] }, { target := .collected E, args := #[] }] } W :=
  ⟨by simp, .inl ⟨_, _, rfl, run_takeDeferred hD, ⟨by simp, .inl ⟨_, _, rfl, run_takeDeferred hE, ⟨v, hr, hR⟩⟩⟩⟩⟩
end Go.Proofs.YtegjcikofmphjaaGreatDoor

