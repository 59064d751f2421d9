import Derived.Deep.CutRange
import Derived.Deep.LoopGhost
import Derived.Deep.Light
import Derived.Lib.MinMax
import Derived.Below
import Derived.Great.BuildSlice
import Derived.Laws.IdiomStrings
import Derived.Laws.Concat
import Derived.Defers
import Derived.Recover
import Derived.Test.YtgnogdncoljldaaGreatQP5
set_option linter.all false
namespace Go.Proofs.YtgnogdncoljldaaGreat
theorem pow32 (j : Nat) : B32 ^ j = 2 ^ (32 * j) := by
 rw [show B32 = 2 ^ 32 by decide, ← Nat.pow_mul]
theorem val_div_pow {xs : List Nat} (hd : Digits xs) (j : Nat) : val xs / B32 ^ j = val (xs.drop j) := by
 by_cases h : j ≤ xs.length
 ·rw [val_take_drop xs h]
  have h1 := val_lt (hd.take j)
  rw [List.length_take, Nat.min_eq_left h] at h1
  rw [Nat.add_mul_div_left _ _ (Nat.pow_pos B32_pos), Nat.div_eq_of_lt h1, Nat.zero_add]
 ·rw [List.drop_eq_nil_of_le (by omega)]
  have h1 := val_lt hd
  have h2 : B32 ^ xs.length ≤ B32 ^ j := Nat.pow_le_pow_right B32_pos (by omega)
  exact Nat.div_eq_of_lt (by omega)
theorem drop_val (xs : List Nat) (j : Nat) : val (xs.drop j) = xs[j]?.getD 0 + B32 * val (xs.drop (j + 1)) := by
 by_cases h : j < xs.length
 ·exact val_drop h
 ·rw [List.drop_eq_nil_of_le (by omega), List.drop_eq_nil_of_le (by omega), getD_of_ge (by omega)]; rfl
theorem digit_bit {xs : List Nat} (hd : Digits xs) (k : Nat) : xs[k / 32]?.getD 0 / 2 ^ (k % 32) % 2 = val xs / 2 ^ k % 2 := by
 obtain ⟨i, hi⟩ : ∃ i, i = k % 32 := ⟨_, rfl⟩
 obtain ⟨j, hj⟩ : ∃ j, j = k / 32 := ⟨_, rfl⟩
 have hk : k = 32 * j + i := by omega
 rw [← hi, ← hj, hk, Nat.pow_add, ← pow32, ← Nat.div_div_eq_div_mul, val_div_pow hd, drop_val]
 have e : B32 = 2 ^ i * (2 * 2 ^ (31 - i)) := by
  rw [← Nat.pow_succ', ← Nat.pow_add, show i + (31 - i).succ = 32 by omega]; rfl
 rw [e, Nat.mul_assoc, Nat.add_mul_div_left _ _ (Nat.pow_pos (by decide)), Nat.mul_assoc]
 omega
theorem or_bit {d i : Nat} (h : d / 2 ^ i % 2 = 0) : d ||| 2 ^ i = d + 2 ^ i := by
 have h1 : d % 2 ^ i < 2 ^ i := Nat.mod_lt _ (Nat.pow_pos (by decide))
 have h2 : d = 2 ^ i * (d / 2 ^ i) + d % 2 ^ i := (Nat.div_add_mod _ _).symm
 have h3 : 2 ^ i * (d / 2 ^ i) ||| 2 ^ i = 2 ^ i * (d / 2 ^ i + 1) := by
  have e : d / 2 ^ i = 2 * (d / 2 ^ i / 2) := by omega
  have h4 : d / 2 ^ i ||| 1 = d / 2 ^ i + 1 := by
   rw [e]
   have := Nat.two_pow_add_eq_or_of_lt (i := 1) (b := 1) (by decide) (d / 2 ^ i / 2)
   simpa using this.symm
  rw [← h4, Nat.mul_comm, Nat.mul_comm _ (d / 2 ^ i ||| 1), ← Nat.shiftLeft_eq, ← Nat.shiftLeft_eq, Nat.shiftLeft_or_distrib, Nat.one_shiftLeft]
 rw [Nat.or_comm]
 conv => lhs; rw [h2, Nat.two_pow_add_eq_or_of_lt h1, ← Nat.or_assoc, Nat.or_comm (2 ^ i), h3, ← Nat.two_pow_add_eq_or_of_lt h1]
 rw [Nat.mul_add, Nat.mul_one]
 omega
theorem quo_step {h bit D : Nat} (hD : 0 < D) (hb : bit < 2) :
  (2 * (h % D) + bit < D → (2 * h + bit) % D = 2 * (h % D) + bit ∧ (2 * h + bit) / D = 2 * (h / D)) ∧ (D ≤ 2 * (h % D) + bit → (2 * h + bit) % D = 2 * (h % D) + bit - D ∧ (2 * h + bit) / D = 2 * (h / D) + 1) := by
 have h1 : h % D < D := Nat.mod_lt _ hD
 have h2 : D * (h / D) + h % D = h := Nat.div_add_mod _ _
 have e : 2 * h + bit = D * (2 * (h / D)) + (2 * (h % D) + bit) := by
  rw [Nat.mul_left_comm]; omega
 generalize h % D = r at *
 generalize h / D = q at *
 rw [e]
 constructor
 ·intro hlt
  rw [Nat.mul_add_mod, Nat.mod_eq_of_lt hlt, Nat.mul_add_div hD, Nat.div_eq_of_lt hlt]
  exact ⟨rfl, rfl⟩
 ·intro hge
  have e2 : 2 * r + bit = D * 1 + (2 * r + bit - D) := by omega
  have hlt : 2 * r + bit - D < D := by omega
  rw [e2, Nat.mul_add_mod, Nat.mul_add_mod, Nat.mod_eq_of_lt hlt, Nat.mul_add_div hD, Nat.mul_add_div hD, Nat.div_eq_of_lt hlt]
  omega
theorem half_pow (A k : Nat) : A / 2 ^ k = 2 * (A / 2 ^ (k + 1)) + A / 2 ^ k % 2 := by
 rw [Nat.pow_succ, ← Nat.div_div_eq_div_mul]; omega
end Go.Proofs.YtgnogdncoljldaaGreat
namespace Go.Proofs.YtgnogdncoljldaaGreat
open Go Go.RowKit Go.Shelf
def upd (vs : Nat → Value) (i : Nat) (v : Value) : Nat → Value := fun k => if k = i then v else vs k
theorem inv_same {F : Nat → Value → Prop} {D : Nat → Prop} {vs : Nat → Value} (hF : ∀ k, D k → F k (vs k)) {i : Nat} {v : Value} (hn : F i v) : ∀ k, (k = i ∨ D k) → F k (upd vs i v k) := by
 intro k hk
 unfold upd
 by_cases h : k = i
 ·rw [if_pos h, h]; exact hn
 ·rw [if_neg h]; exact hF k (hk.resolve_left h)
section
variable {o : Oper} {a : Act} {w : World}
theorem run_mov (x : Operand) (ho : o.op = .move x) (v : Value) (hx : a.eval x = v) : (execOp a.eval o).run Tryz.prog w = .ok (.value v) w := by
 subst hx; unfold execOp; rw [ho]; rfl
theorem run_quo32 (x : Operand) (ho : o.op = .binOp .quo 3 x (.const (.int .i64 32)) 3) (ht : o.type = 3) (k j : Nat) (hk : k < 4611686018427387904) (hj : j = k / 32) (hx : a.eval x = .int .i64 (k : Int)) : (execOp a.eval o).run Tryz.prog w = .ok (.value (.int .i64 (j : Int))) w := by
 have ek : a.eval (.const (.int .i64 32)) = .int .i64 32 := rfl
 have h1 : (k : Int).tdiv 32 = (j : Int) := by rw [Int.tdiv_eq_ediv_of_nonneg (by omega)]; omega
 have h2 : IntKind.i64.wrap (j : Int) = (j : Int) := by rw [IntKind.wrap_i64]; omega
 have h3 : wrap64 (j : Int) = (j : Int) := by unfold wrap64; omega
 have h4 : (k : Int) / 32 = (j : Int) := by omega
 unfold execOp
 simp only [ho, hx, ht, ek]
 simp [go_sem, h1, h2, h3, h4]
theorem run_rem32 (x : Operand) (ho : o.op = .binOp .rem 3 x (.const (.int .i64 32)) 3) (ht : o.type = 3) (k j : Nat) (hk : k < 4611686018427387904) (hj : j = k % 32) (hx : a.eval x = .int .i64 (k : Int)) : (execOp a.eval o).run Tryz.prog w = .ok (.value (.int .i64 (j : Int))) w := by
 have ek : a.eval (.const (.int .i64 32)) = .int .i64 32 := rfl
 have h1 : (k : Int).tmod 32 = (j : Int) := by rw [Int.tmod_eq_emod_of_nonneg (by omega)]; omega
 have h2 : IntKind.i64.wrap (j : Int) = (j : Int) := by rw [IntKind.wrap_i64]; omega
 have h3 : wrap64 (j : Int) = (j : Int) := by unfold wrap64; omega
 have h4 : (k : Int) % 32 = (j : Int) := by omega
 unfold execOp
 simp only [ho, hx, ht, ek]
 simp [go_sem, h1, h2, h3, h4]
theorem run_shl1 (x : Operand) (ho : o.op = .binOp .shl 118 (.const (.int .u32 1)) x 3) (ht : o.type = 118) (i : Nat) (hi : i ≤ 31) (hx : a.eval x = .int .i64 (i : Int)) : (execOp a.eval o).run Tryz.prog w = .ok (.value (.int .u32 ((2 ^ i : Nat) : Int))) w := by
 have ek : a.eval (.const (.int .u32 1)) = .int .u32 1 := rfl
 have h2 : 2 ^ i < 4294967296 := Nat.lt_of_le_of_lt (Nat.pow_le_pow_right (by decide) hi) (by decide)
 have h1 : IntKind.u32.wrap (2 ^ i) = ((2 ^ i : Nat) : Int) := by
  rw [IntKind.wrap_u32]
  have : ((2 : Int) ^ i) = ((2 ^ i : Nat) : Int) := by simp
  rw [this]
  generalize 2 ^ i = q at *
  omega
 unfold execOp
 simp only [ho, hx, ht, ek]
 simp [go_sem, h1]
theorem run_or (x y : Operand) (ho : o.op = .binOp .or 118 x y 118) (ht : o.type = 118) (f g h : Nat) (hf : f < 4294967296) (hg : g < 4294967296) (hh : h = f ||| g) (hx : a.eval x = .int .u32 (f : Int)) (hy : a.eval y = .int .u32 (g : Int)) : (execOp a.eval o).run Tryz.prog w = .ok (.value (.int .u32 (h : Int))) w := by
 have h1 := u32_or f g hf hg
 rw [← hh] at h1
 unfold execOp
 simp only [ho, hx, hy, ht]
 simp [go_sem, h1]
theorem run_idx (x y : Operand) (ho : o.op = .indexAddr 34 x y) (g n c u : Nat) (hx : a.eval x = .slice (some ⟨g, 0, none⟩) n c) (hy : a.eval y = .int .i64 (u : Int)) (hu : u < n) : (execOp a.eval o).run Tryz.prog w = .ok (.value (.pointer (some ⟨g, u, none⟩))) w := run_index_slice x y ho g n c u hx hy hu
theorem run_ld_u32 (x : Operand) (ho : o.op = .load 118 x) (ad : Addr) (hx : a.eval x = .pointer (some ad)) (v : Int) (hc : w.cell? ad = some (.int .u32 v)) : (execOp a.eval o).run Tryz.prog w = .ok (.value (.int .u32 v)) w := by
 unfold execOp
 simp only [ho, hx, Instr.loadAt, Instr.sureAddr, Sem.run_bind, Sem.run_pure, Result.andThen_ok]
 simp [hc, go_sem]
end
end Go.Proofs.YtgnogdncoljldaaGreat
namespace Go.Proofs.YtgnogdncoljldaaGreat
open Go Go.RowKit Go.Shelf
theorem twice_lt {R k bt : Nat} (h : R < B32 ^ k) (hb : bt < 2) : 2 * R + bt < B32 ^ (k + 1) := by
 have h1 : B32 ^ (k + 1) = B32 ^ k * B32 := Nat.pow_succ ..
 have h2 : B32 ^ k * 2 ≤ B32 ^ k * B32 := Nat.mul_le_mul_left _ (by decide)
 omega
theorem U32s.drew_set {w : World} {v : Value} {ds : List Nat} {lo g : Nat} (h : U32s w.heap.size w v ds) (hn : NewS lo v) (hg : g < lo) (j : Nat) (u : Value) : U32s (w.setCell ⟨g, j, none⟩ u).drew.heap.size (w.setCell ⟨g, j, none⟩ u).drew v ds := by
 obtain ⟨p, cap, rfl, hl, hc⟩ := h
 refine ⟨p, cap, rfl, hl, fun h0 => ?_⟩
 obtain ⟨b, off, rfl, hb, hcs⟩ := hc h0
 have hlo := hn b off _ _ rfl
 refine ⟨b, off, rfl, by simpa [World.setCell] using hb, fun i hi => ?_⟩
 exact (World.cell?_of_block (w := w) (heap_setCell_other w ⟨g, j, none⟩ b u (by show b ≠ g; omega))).trans (hcs i hi)
structure Sto (D : Nat → Prop) (W W2 w : World) : Prop where
 st : (¬ D 13 ∧ w = W) ∨ (D 13 ∧ w = W2)
 c1 : D 11 → D 7
 c2 : D 13 → D 11
theorem Sto.none (W W2 : World) : Sto (fun _ => False) W W2 W := ⟨.inl ⟨fun h => h, rfl⟩, fun h => h.elim, fun h => h.elim⟩
theorem Sto.same {D : Nat → Prop} {W W2 w : World} (h : Sto D W W2 w) {i : Nat} (hi : i ≠ 13 ∧ i ≠ 11) : Sto (fun j => j = i ∨ D j) W W2 w := by
 refine ⟨?_, fun e => .inr (h.c1 (e.resolve_left (fun e => hi.2 e.symm))), fun e => .inr (h.c2 (e.resolve_left (fun e => hi.1 e.symm)))⟩
 rcases h.st with ⟨a, b⟩ | ⟨a, b⟩
 ·exact .inl ⟨fun e => a (e.resolve_left (fun e => hi.1 e.symm)), b⟩
 ·exact .inr ⟨.inr a, b⟩
theorem Sto.at11 {D : Nat → Prop} {W W2 w : World} (h : Sto D W W2 w) (h7 : D 7) : Sto (fun j => j = 11 ∨ D j) W W2 w := by
 refine ⟨?_, fun _ => .inr h7, fun _ => .inl rfl⟩
 rcases h.st with ⟨a, b⟩ | ⟨a, b⟩
 ·exact .inl ⟨fun e => a (e.resolve_left (by decide)), b⟩
 ·exact .inr ⟨.inr a, b⟩
theorem Sto.before {D : Nat → Prop} {W W2 w : World} (h : Sto D W W2 w) (hn : ¬ D 13) : w = W := h.st.elim (fun h => h.2) (fun h => absurd h.1 hn)
theorem Sto.early {D : Nat → Prop} {W W2 w : World} (h : Sto D W W2 w) (hn : ¬ D 7) : w = W := h.before (fun e => hn (h.c1 (h.c2 e)))
theorem Sto.behind {D : Nat → Prop} {W W2 w : World} (h : Sto D W W2 w) (hn : D 13) : w = W2 := h.st.elim (fun h => absurd hn h.1) (fun h => h.2)
theorem Sto.store {D : Nat → Prop} {W w : World} {a : Addr} {v : Value} (h : Sto D W (W.setCell a v) w) (h11 : D 11) (hn : ¬ D 13) : Sto (fun j => j = 13 ∨ D j) W (W.setCell a v) (w.setCell a v) := by
 obtain rfl := h.before hn
 exact ⟨.inr ⟨.inl rfl, rfl⟩, fun e => .inr (h.c1 (e.resolve_left (by decide))), fun _ => .inr h11⟩
def qF (g n k j i f g2 : Nat) : Nat → Value → Prop
 | 0, v => v = .slice (some ⟨g, 0, none⟩) n n
 | 1, v => v = .int .i64 (k : Int)
 | 2, v => v = .int .i64 (j : Int)
 | 3, v => v = .slice (some ⟨g, 0, none⟩) n n
 | 4, v => v = .int .i64 (k : Int)
 | 5, v => v = .int .i64 (j : Int)
 | 6, v => v = .pointer (some ⟨g, j, none⟩)
 | 7, v => v = .int .u32 (f : Int)
 | 8, v => v = .int .i64 (k : Int)
 | 9, v => v = .int .i64 (i : Int)
 | 10, v => v = .int .u32 ((2 ^ i : Nat) : Int)
 | 11, v => v = .int .u32 (g2 : Int)
 | 12, v => v = .pointer (some ⟨g, j, none⟩)
 | _, _ => True
set_option maxRecDepth 100000 in
set_option maxHeartbeats 8000000 in
theorem quotient_calls (v u : Value) (xs ys : List Nat) (w : World) (hx : U32s w.heap.size w v xs) (hy : U32s w.heap.size w u ys) (hdx : Digits xs) (hny : Norm ys) (hbx : xs.length ≤ 66) (hby : ys.length ≤ 66) (hD : 0 < val ys) :
  Calls Tryz.prog 177 #[v, u] w fun e w' => ∃ q r, e = .returned (.tuple #[q, r]) ∧ U32s w'.heap.size w' q (digs (val xs / val ys)) ∧ U32s w'.heap.size w' r (digs (val xs % val ys)) ∧ Ext w w' := by
 have hy0 := hy
 obtain ⟨p, cap, rfl, hl, hc⟩ := hx
 obtain ⟨q, cap2, rfl, hl2, hc2⟩ := hy
 obtain ⟨n, hn⟩ : ∃ n, n = xs.length := ⟨_, rfl⟩
 obtain ⟨m, hm⟩ : ∃ m, m = ys.length := ⟨_, rfl⟩
 rw [← hn] at hbx ⊢
 rw [← hm] at hby hy0 ⊢
 have Hy := Lib.hid hy0
 clear hy0
 have Hc := Lib.hid hc
 have Hn := Lib.hid hn
 have Hm := Lib.hid hm
 have Hdx := Lib.hid hdx
 have Hny := Lib.hid hny
 clear hc hc2 hl hl2 hn hm hdx hny
 have hm1 : IntKind.i64.wrap (32 * (n : Int)) = 32 * (n : Int) := by rw [IntKind.wrap_i64]; omega
 go_enter Tryz.func177, Tryz.ntmps177
 go_wp2_with (refine make_row rfl (.tmp 10) (.tmp 10) rfl n rfl rfl (by omega) ?_)
 go_loopg [7, 8] (32 * n) (fun s r i wr => s ≤ 32 * n ∧ i = .int .i64 ((s : Int) - 1) ∧ U32s wr.heap.size wr r (digs (val xs / 2 ^ s % val ys)) ∧ NewS (w.heap.size + 1) r ∧ (∃ Q : List Nat, Q.length = n ∧ Digits Q ∧ val Q = val xs / 2 ^ s / val ys * 2 ^ s ∧ RowAt wr w.heap.size 118 (arr Q)) ∧ Ext w wr)
 case atStart =>
  have h0 : val xs / 2 ^ (32 * n) = 0 := by
   rw [← pow32, Hn.out]; exact Nat.div_eq_of_lt (val_lt Hdx.out)
  refine ⟨Nat.le_refl _, by go_num, ?_, (fun b off n c e => by cases e), ⟨List.replicate n 0, by simp, fun d hd => by rw [List.eq_of_mem_replicate hd]; exact B32_pos, by rw [h0, val_zeros]; simp, RowAt.new _ _ _⟩, Ext.alloc _ _⟩
  rw [h0, Nat.zero_mod]
  exact u32s_nil _ _
 case round =>
  obtain ⟨hs, rfl, hu, hnew, ⟨Q, hQ, hdQ, hvQ, hrQ⟩, hB⟩ := hrel
  have HU := Lib.hid hu
  have Hnew := Lib.hid hnew
  have HdQ := Lib.hid hdQ
  have HvQ := Lib.hid hvQ
  have HrQ := Lib.hid hrQ
  have HB := Lib.hid hB
  have HQ := Lib.hid hQ
  obtain ⟨pr, cr, rfl, -, -⟩ := hu
  clear hnew hdQ hvQ hrQ hB hQ
  cases gk with
  | zero =>
    have HT := Lib.hid (trim_digs (p := some ⟨w.heap.size, 0, none⟩) (cap := n) HQ.out (by have h := u32s_row (L := n) (cap := n) HrQ.out HrQ.out.lt (by rw [HQ.out]; omega) (by rw [HQ.out]; unfold maxLen; omega); rwa [List.take_of_length_le (by rw [HQ.out]; omega)] at h) (.inr (Nat.le_refl _)) HdQ.out)
    go_wp2_with fail
    refine HT.out.mono ?_
    rintro e w2 ⟨k2, rfl, -, -, hu2, hx2⟩
    have Hu2 := Lib.hid hu2
    have Hx2 := Lib.hid hx2
    clear hu2 hx2
    go_wp2
    go_ret2
    refine ⟨_, _, rfl, ?_, ?_, HB.out.trans Hx2.out⟩
    ·have h := Hu2.out; rw [HvQ.out] at h; simpa using h
    ·have h := Hx2.out.u32s HU.out; simpa using h
  | succ k =>
    obtain ⟨R, hR⟩ : ∃ R, R = val xs / 2 ^ (k + 1) % val ys := ⟨_, rfl⟩
    have hRD : R < val ys := by rw [hR]; exact Nat.mod_lt _ hD
    have hyB := val_lt Hny.out.1
    rw [← Hm.out] at hyB
    have hR66 : R < B32 ^ 66 := Nat.lt_of_lt_of_le (Nat.lt_trans hRD hyB) (Nat.pow_le_pow_right B32_pos hby)
    have hk32 : k < 32 * n := by omega
    obtain ⟨j, hj⟩ : ∃ j, j = k / 32 := ⟨_, rfl⟩
    obtain ⟨i, hi⟩ : ∃ i, i = k % 32 := ⟨_, rfl⟩
    have hq32 : (k : Int).tdiv 32 = (j : Int) := by rw [Int.tdiv_eq_ediv_of_nonneg (by omega)]; omega
    have hr32 : (k : Int).tmod 32 = (i : Int) := by rw [Int.tmod_eq_emod_of_nonneg (by omega)]; omega
    have hjn : j < n := by omega
    have hi32 : i ≤ 31 := by omega
    have hq32' : (k : Int) / 32 = (j : Int) := by omega
    have hr32' : (k : Int) % 32 = (i : Int) := by omega
    obtain ⟨b, off, rfl, hb, hcs⟩ := Hc.out (by rw [← Hn.out]; omega)
    have hd1 := (Below.cell HB.out (p := ⟨b, off + j, none⟩) hb).trans (hcs j (by rw [← Hn.out]; exact hjn))
    obtain ⟨d, hd⟩ : ∃ d, d = xs[j]?.getD 0 := ⟨_, rfl⟩
    rw [← hd] at hd1
    have hdB := Hdx.out.getD j
    rw [← hd] at hdB
    obtain ⟨bt, hbt⟩ : ∃ bt, bt = val xs / 2 ^ k % 2 := ⟨_, rfl⟩
    have hbit : d / 2 ^ i % 2 = bt := by rw [hbt, ← digit_bit Hdx.out k, hd, hj, hi]
    have hbt2 : bt < 2 := by rw [hbt]; exact Nat.mod_lt _ (by decide)
    have hhalf := half_pow (val xs) k
    rw [← hbt] at hhalf
    have hstep := quo_step (h := val xs / 2 ^ (k + 1)) hD hbt2
    rw [← hR, ← hhalf] at hstep
    have Hstep := Lib.hid hstep
    have HU1 : Hid (U32s wr.heap.size wr (.slice pr (digs R).length cr) (digs R)) := by have h := HU.out; rw [← hR] at h; exact h
    have Hval : Hid (val (digs R) + val (digs R) = 2 * R) := by show val (digs R) + val (digs R) = 2 * R; rw [val_digs]; omega
    have hlR : (digs R).length ≤ 66 := digs_len.2 hR66
    have HR := Lib.hid hR
    have Hd := Lib.hid hd
    have Hhalf := Lib.hid hhalf
    have Hj := Lib.hid hj
    have Hi := Lib.hid hi
    rw [← hR]
    rw [show (((k + 1 : Nat) : Int) - 1) = (k : Int) by omega]
    obtain ⟨L, hL⟩ : ∃ L, L = (digs R).length := ⟨_, rfl⟩
    rw [← hL] at HU1 ⊢
    have HP := Lib.hid (plus_calls (.slice pr L cr) (.slice pr L cr) (digs R) (digs R) wr HU1.out HU1.out (digs_digits _) (digs_digits _) (by omega) (by omega))
    have Hk32 := Lib.hid hk32
    clear hR hd hhalf hj hi hstep hcs hyB hbt HU hL hk32 hq32' hr32'
    go_wp2_with fail
    refine HP.out.mono ?_
    rintro e w1 ⟨r1, rfl, hu1, hx1, hn1⟩
    have Hx1 := Lib.hid hx1
    have Hn1 := Lib.hid hn1
    have hu1' : U32s w1.heap.size w1 r1 (digs (2 * R)) := by rw [Hval.out] at hu1; exact hu1
    have Hu1 := Lib.hid hu1'
    have hsz1 := Below.size HB.out
    have hd2 := (Below.cell hx1 (p := ⟨b, off + j, none⟩) (Nat.lt_of_lt_of_le hb hsz1)).trans hd1
    clear hx1 hn1 hu1 hu1' hd1
    have hand : bits .and .u32 ((d : Int) / 2 ^ i) 1 = (bt : Int) := by
     have e : (d : Int) / 2 ^ i = ((d / 2 ^ i : Nat) : Int) := by simp
     have h := u32_and (d / 2 ^ i) 1 (Nat.lt_of_le_of_lt (Nat.div_le_self _ _) (by unfold B32 at hdB; exact hdB)) (by decide)
     rw [e]
     refine h.trans ?_
     rw [Nat.and_one_is_mod, hbit]
    have hsw : w.heap.size < w1.heap.size := Nat.lt_of_lt_of_le HrQ.out.lt (Below.size Hx1.out)
    have HbtN : Hid (bt = 0 ∨ bt = 1) := by show _ ∨ _; omega
    have Hand := Lib.hid hand
    clear hbit hand
    go_upto_if 32 with fail
    go_cut [7] from 16 to 55 (fun r wc => U32s wc.heap.size wc r (digs (2 * R + bt)) ∧ NewS (w.heap.size + 1) r ∧ Ext wr wc)
    case first =>
     rcases HbtN.out with hb0 | hb0
     ·subst hb0
      have hbb : (bits .and .u32 ((d : Int) / 2 ^ i) 1 == 1) = false := by rw [Hand.out]; rfl
      go_wp2_with fail
      go_meet
      case rel => exact ⟨Hu1.out, fun b off n c e => Nat.le_trans HrQ.out.lt (Hn1.out b off n c e), Hx1.out⟩
     ·subst hb0
      have hbb : (bits .and .u32 ((d : Int) / 2 ^ i) 1 == 1) = true := by rw [Hand.out]; rfl
      obtain ⟨W1, hW1⟩ : ∃ W1, W1 = w1.alloc (.cells #[.int .u32 1] 118) := ⟨_, rfl⟩
      have hxW : Ext w1 W1 := by rw [hW1]; exact Ext.alloc _ _
      have hrW : RowAt W1 w1.heap.size 118 (arr [1]) := by rw [hW1]; exact RowAt.new _ _ _
      have hP2 := plus_calls _ _ _ _ W1 (hxW.u32s Hu1.out) (u32s_arr (cap := 1) hrW hrW.lt (by unfold maxLen; decide)) (digs_digits _) one_digits (Nat.le_trans (digs_len.2 (twice_lt (bt := 0) hR66 (by decide))) (by decide : 67 ≤ 1099511627776)) (by decide)
      rw [val_digs, show val [1] = 1 from rfl] at hP2
      have HP2 := Lib.hid hP2
      have HW1 := Lib.hid hW1
      have HxW := Lib.hid hxW
      clear hW1 hxW hrW hP2
      go_wp2_with fail
      rw [← HW1.out]
      refine HP2.out.mono ?_
      rintro e w2 ⟨r2, rfl, hu2, hx2, hn2⟩
      have HuT := Lib.hid hu2
      have HxT : Hid (Ext wr w2) := (Hx1.out.trans HxW.out).trans hx2
      have HnT : Hid (NewS (w.heap.size + 1) r2) := fun b off n c e => Nat.le_trans hsw (Nat.le_trans (Below.size HxW.out) (hn2 b off n c e))
      clear hu2 hx2 hn2
      go_wp2_with fail
      go_meet
      case rel => exact ⟨HuT.out, HnT.out, HxT.out⟩
    case rest =>
     obtain ⟨hu2, hn2, hx2⟩ := hcut
     have HuT := Lib.hid hu2
     have HnT := Lib.hid hn2
     have HxT := Lib.hid hx2
     have HyT := Lib.hid ((HB.out.trans HxT.out).u32s Hy.out)
     have HhD := Lib.hid hD
     have HRD := Lib.hid hRD
     clear hu2 hn2 hx2 hq32 hr32 hd2 hsw hRD
     have hcmp := compare_calls _ _ _ _ wc HuT.out (HyT.out) (digs_digits _) Hny.out.1
     rw [cmpL_norm (norm_digs _) Hny.out, val_digs] at hcmp
     by_cases hge : val ys ≤ 2 * R + bt
     ·obtain ⟨c, hc⟩ : ∃ c, c = sgn (2 * R + bt) (val ys) := ⟨_, rfl⟩
      have hc0 : 0 ≤ c := by rw [hc]; unfold sgn; rw [if_neg (by omega)]; split <;> omega
      rw [← hc] at hcmp
      have Hcmp := Lib.hid hcmp
      have hs2 := Hstep.out.2 hge
      have Hs2 := Lib.hid hs2
      have Hlen : Hid (ys.length ≤ (digs (2 * R + bt)).length) := len_le_of_val (norm_digs _) Hny.out (by rw [val_digs]; exact hge)
      have Hlt66 : Hid ((digs (2 * R + bt)).length ≤ 67) := digs_len.2 (twice_lt hR66 hbt2)
      have Hge := Lib.hid hge
      clear hcmp hc hs2 hge
      go_wp2_with fail
      refine Hcmp.out.mono ?_
      rintro e w4 ⟨rfl, hx4⟩
      have Hx4 := Lib.hid hx4
      have HM := Lib.hid (minus_calls _ _ _ _ w4 (hx4.u32s HuT.out) (hx4.u32s HyT.out) (digs_digits _) Hny.out.1 (by have := Hlt66.out; omega) Hlen.out (by rw [val_digs]; exact Hge.out))
      clear hx4
      go_wp2_with fail
      refine HM.out.mono ?_
      rintro e w5 ⟨r3, rfl, hu5, hx5, hn5⟩
      rw [val_digs, ← Hs2.out.1] at hu5
      have Hu5 := Lib.hid hu5
      have Hn5 := Lib.hid hn5
      have Hx5 : Hid (Ext wr w5) := (HxT.out.trans Hx4.out).trans hx5
      have Hr5 := Lib.hid (Hx5.out.row HrQ.out)
      have Hsz5 : Hid (wr.heap.size ≤ w4.heap.size) := Below.size (HxT.out.trans Hx4.out)
      clear hu5 hx5 hn5
      have hvq : val Q / 2 ^ k % 2 = 0 := by rw [HvQ.out, Nat.pow_succ, Nat.mul_comm (2 ^ k) 2, ← Nat.mul_assoc, Nat.mul_div_cancel _ (Nat.pow_pos (by decide))]; omega
      obtain ⟨f, hf⟩ : ∃ f, f = Q[j]?.getD 0 := ⟨_, rfl⟩
      have hfb : f / 2 ^ i % 2 = 0 := by rw [hf, Hj.out, Hi.out, digit_bit HdQ.out k]; exact hvq
      have hfB := HdQ.out.getD j
      rw [← hf] at hfB
      obtain ⟨g2, hg2⟩ : ∃ g2, g2 = f ||| 2 ^ i := ⟨_, rfl⟩
      have hi2 : 2 ^ i < 4294967296 := Nat.lt_of_le_of_lt (Nat.pow_le_pow_right (by decide) hi32) (by decide)
      have hg2B : g2 < 4294967296 := by rw [hg2]; exact Nat.or_lt_two_pow (n := 32) (by unfold B32 at hfB; omega) (by omega)
      have hset : val (Q.set j g2) = val Q + 2 ^ k := by
       have h := val_set (l := Q) (j := j) g2 (by rw [HQ.out]; exact hjn)
       rw [← hf, hg2, or_bit hfb, Nat.mul_add] at h
       have e : B32 ^ j * 2 ^ i = 2 ^ k := by rw [pow32, ← Nat.pow_add]; congr 1; have := Hj.out; have := Hi.out; omega
       rw [hg2, or_bit hfb]
       omega
      have Hset : Hid (val (Q.set j g2) = val xs / 2 ^ k / val ys * 2 ^ k) := by
       show _ = _
       rw [hset, HvQ.out, Hs2.out.2]
       generalize val xs / 2 ^ (k + 1) / val ys = X
       rw [Nat.pow_succ, Nat.add_mul, Nat.one_mul, Nat.mul_comm (2 ^ k) 2, ← Nat.mul_assoc, Nat.mul_comm X 2]
      have hcq : w5.drew.cell? ⟨w.heap.size, j, none⟩ = some (.int .u32 (f : Int)) := by
       have h := Hr5.out.cell j
       rw [arr_get Q j (by rw [HQ.out]; exact hjn), ← hf] at h
       exact h
      have hfq : w5.drew.frozen? ⟨w.heap.size, j, none⟩ = false := Hr5.out.frozen j
      have Hsdig : Hid (Digits (Q.set j g2)) := HdQ.out.set _ (by unfold B32; exact hg2B)
      have HK : Hid (k < 4611686018427387904) := by show _ < _; have := Hk32.out; omega
      have Hjn := Lib.hid hjn
      have Hi32 := Lib.hid hi32
      have HfB : Hid (f < 4294967296) := by show _ < _; unfold B32 at hfB; exact hfB
      have Hi2 := Lib.hid hi2
      have Hg2 := Lib.hid hg2
      have Hg2B := Lib.hid hg2B
      have Hcq := Lib.hid hcq
      have Hfq := Lib.hid hfq
      clear hvq hf hfb hfB hg2 hi2 hset hcq hfq hjn hi32 hg2B
      go_wp2_with fail
      refine wp_region_inv (fun D ac w' => ∃ vs : Nat → Value, ac = { tmps := #[.slice (some ⟨b, off, none⟩) n cap, .slice q m cap2, undef, undef, .slice none 0 0, .slice none 0 0, .slice (some ⟨w.heap.size, 0, none⟩) n n, r3, .int .i64 (k : Int), .slice (some ⟨b, off, none⟩) n cap, .int .i64 (n : Int), .slice (some ⟨w.heap.size, 0, none⟩) n n, .slice (some ⟨b, off, none⟩) n cap, .int .i64 (n : Int), .int .i64 (32 * (n : Int)), .int .i64 (32 * (n : Int) - 1), u16, u17, u18, u19, u20, u21, u22, u23, u24, u25, u26, u27, u28, u29, u30, u31, u32, u33, u34, u35, u7, .slice q m cap2, .int .i64 c, .bool true, u7, .slice q m cap2, r3, vs 0, vs 1, vs 2, vs 3, vs 4, vs 5, vs 6, vs 7, vs 8, vs 9, vs 10, vs 11, vs 12, undef, undef, undef], defers := [] } ∧ Sto D w5.drew (w5.drew.setCell ⟨w.heap.size, j, none⟩ (.int .u32 (g2 : Int))) w' ∧ ∀ z, D z → qF w.heap.size n k j i f g2 z (vs z)) (by kernel_rfl) (by kernel_rfl) ?start ?step ?fin
      case start => exact ⟨fun z => (#[u43, u44, u45, u46, u47, u48, u49, u50, u51, u52, u53, u54, u55] : Array Value).getD z undef, rfl, Sto.none _ _, fun _ h => h.elim⟩
      case step =>
       rintro ix o D ac wz hio hnd he ⟨vs, rfl, hS, hF⟩
       rcases ix with _ | _ | _ | _ | _ | _ | _ | _ | _ | _ | _ | _ | _ | _ | ix
       rotate_left 14
       ·exact absurd hio (by simp)
       all_goals (obtain rfl := Option.some.inj (hio.symm.trans (by rfl)))
       ·exact wp_of_run (run_mov (.tmp 6) rfl _ rfl) ⟨upd vs 0 _, rfl, hS.same (by decide), inv_same hF rfl⟩
       ·exact wp_of_run (run_mov (.tmp 8) rfl _ rfl) ⟨upd vs 1 _, rfl, hS.same (by decide), inv_same hF rfl⟩
       ·exact wp_of_run (run_quo32 (.tmp 44) rfl rfl k j HK.out Hj.out (by exact (hF 1 (he ⟨1, .data⟩ (by simp) rfl)))) ⟨upd vs 2 _, rfl, hS.same (by decide), inv_same hF rfl⟩
       ·exact wp_of_run (run_mov (.tmp 6) rfl _ rfl) ⟨upd vs 3 _, rfl, hS.same (by decide), inv_same hF rfl⟩
       ·exact wp_of_run (run_mov (.tmp 8) rfl _ rfl) ⟨upd vs 4 _, rfl, hS.same (by decide), inv_same hF rfl⟩
       ·exact wp_of_run (run_quo32 (.tmp 47) rfl rfl k j HK.out Hj.out (by exact (hF 4 (he ⟨4, .data⟩ (by simp) rfl)))) ⟨upd vs 5 _, rfl, hS.same (by decide), inv_same hF rfl⟩
       ·exact wp_of_run (run_idx (.tmp 46) (.tmp 48) rfl w.heap.size n n j (by exact (hF 3 (he ⟨3, .data⟩ (by simp) rfl))) (by exact (hF 5 (he ⟨5, .data⟩ (by simp) rfl))) Hjn.out) ⟨upd vs 6 _, rfl, hS.same (by decide), inv_same hF rfl⟩
       ·exact wp_of_run (run_ld_u32 (.tmp 49) rfl ⟨w.heap.size, j, none⟩ (by exact (hF 6 (he ⟨6, .data⟩ (by simp) rfl))) f (by rw [hS.early hnd]; exact Hcq.out)) ⟨upd vs 7 _, rfl, hS.same (by decide), inv_same hF rfl⟩
       ·exact wp_of_run (run_mov (.tmp 8) rfl _ rfl) ⟨upd vs 8 _, rfl, hS.same (by decide), inv_same hF rfl⟩
       ·exact wp_of_run (run_rem32 (.tmp 51) rfl rfl k i HK.out Hi.out (by exact (hF 8 (he ⟨8, .data⟩ (by simp) rfl)))) ⟨upd vs 9 _, rfl, hS.same (by decide), inv_same hF rfl⟩
       ·exact wp_of_run (run_shl1 (.tmp 52) rfl rfl i Hi32.out (by exact (hF 9 (he ⟨9, .data⟩ (by simp) rfl)))) ⟨upd vs 10 _, rfl, hS.same (by decide), inv_same hF rfl⟩
       ·exact wp_of_run (run_or (.tmp 50) (.tmp 53) rfl rfl f (2 ^ i) g2 HfB.out Hi2.out Hg2.out (by exact (hF 7 (he ⟨7, .data⟩ (by simp) rfl))) (by exact (hF 10 (he ⟨10, .data⟩ (by simp) rfl)))) ⟨upd vs 11 _, rfl, hS.at11 (he ⟨7, .data⟩ (by simp) rfl), inv_same hF rfl⟩
       ·exact wp_of_run (run_idx (.tmp 43) (.tmp 45) rfl w.heap.size n n j (by exact (hF 0 (he ⟨0, .data⟩ (by simp) rfl))) (by exact (hF 2 (he ⟨2, .data⟩ (by simp) rfl))) Hjn.out) ⟨upd vs 12 _, rfl, hS.same (by decide), inv_same hF rfl⟩
       ·refine wp_of_skip (run_store_u32 (.tmp 55) (.tmp 54) rfl w.heap.size j g2 f (by exact (hF 12 (he ⟨12, .data⟩ (by simp) rfl))) (by exact (hF 11 (he ⟨11, .data⟩ (by simp) rfl))) (by rw [hS.before hnd]; exact Hcq.out) (by rw [hS.before hnd]; exact Hfq.out)) ⟨upd vs 13 undef, rfl, hS.store (he ⟨11, .data⟩ (by simp) rfl) hnd, inv_same hF trivial⟩
      case fin =>
       rintro D ac wz hD ⟨vs, rfl, hS, hF⟩
       obtain rfl := hS.behind (hD 13 (by simp))
       clear hD hF hS
       go_wp2_with fail
       go_roundg k
       case measure => omega
       case rel =>
        refine ⟨by have := Hk32.out; omega, rfl, ?_, ?_, ⟨Q.set j g2, by rw [List.length_set]; exact HQ.out, Hsdig.out, Hset.out, ?_⟩, ?_⟩
        ·exact U32s.drew_set (Hu5.out) (Hn5.out) (Nat.lt_of_lt_of_le HrQ.out.lt Hsz5.out) _ _
        ·exact fun b off n c e => Nat.le_trans (Nat.le_trans HrQ.out.lt Hsz5.out) (Hn5.out b off n c e)
        ·have h := Hr5.out.set j (.int .u32 (g2 : Int))
         rw [arr_set] at h
         exact h
        ·exact Below.drew (Below.setCell (HB.out.trans Hx5.out) (p := ⟨w.heap.size, j, none⟩) (Nat.le_refl _) _)
     ·have hc : sgn (2 * R + bt) (val ys) = -1 := sgn_lt (by omega)
      rw [hc] at hcmp
      have Hcmp := Lib.hid hcmp
      have hs2 := Hstep.out.1 (by omega)
      have Hs2 := Lib.hid hs2
      clear hcmp hc hs2 hge
      go_wp2_with fail
      refine Hcmp.out.mono ?_
      rintro e w4 ⟨rfl, hx4⟩
      have Hx4 := Lib.hid hx4
      clear hx4
      go_wp2
      go_roundg k
      case rel =>
       have hx := HxT.out.trans Hx4.out
       refine ⟨by have := Hk32.out; omega, rfl, ?_, HnT.out, ⟨Q, HQ.out, HdQ.out, ?_, hx.row HrQ.out⟩, HB.out.trans hx⟩
       ·rw [Hs2.out.1]; exact Hx4.out.u32s HuT.out
       ·rw [HvQ.out, Hs2.out.2, Nat.pow_succ, Nat.mul_comm (2 ^ k) 2, ← Nat.mul_assoc, Nat.mul_comm _ 2]
      case measure => omega
end Go.Proofs.YtgnogdncoljldaaGreat
namespace Go.Proofs.YtgnogdncoljldaaGreat
open Go Go.RowKit Go.Shelf
set_option maxRecDepth 100000 in
set_option maxHeartbeats 2000000 in
theorem rright_calls (neg : Bool) (v : Value) (ds : List Nat) (w : World) (hu : U32s w.heap.size w v ds) :
  Calls Tryz.prog 130 #[.agg #[.bool neg, v]] w fun e w' => e = .returned (.bool (rightB neg ds)) ∧ Ext w w' := by
 obtain ⟨p, cap, rfl, hl, hc⟩ := hu
 have hlm := digs_lt_maxLen hl
 clear hl
 by_cases h0 : ds.length = 0
 ·have hr : rightB neg ds = !neg := by simp [rightB, h0]
  rw [hr, h0]
  clear hr hc hlm h0
  cases neg
  ·go_enter Tryz.func130, Tryz.ntmps130
   go_wp2
   go_ret
   exact ⟨rfl, Ext.alloc _ _⟩
  ·go_enter Tryz.func130, Tryz.ntmps130
   go_wp2
   go_ret
   exact ⟨rfl, Ext.alloc _ _⟩
 ·obtain ⟨b, off, rfl, hB, hc⟩ := hc (by omega)
  have hlast := hc (ds.length - 1) (by omega)
  obtain ⟨n, hn⟩ : ∃ n, ds.length = n + 1 := ⟨ds.length - 1, by omega⟩
  rw [hn, Nat.add_sub_cancel] at hlast
  obtain ⟨d, hd⟩ : ∃ d, d = ds[n]?.getD 0 := ⟨_, rfl⟩
  rw [← hd] at hlast
  have hr : rightB neg ds = (decide (n + 1 ≤ 64) && (d != 0)) := by simp [rightB, hn, hd]
  rw [hr, hn]
  clear hr hd hc h0
  rw [hn] at hlm
  clear hn
  have hn0 : ((n : Int) + 1 == 0) = false := by simp; omega
  by_cases h64 : n + 1 ≤ 64
  ·by_cases hz : d = 0
   ·subst hz
    go_enter Tryz.func130, Tryz.ntmps130
    go_wp2
    go_ret
    exact ⟨by simp, Ext.alloc _ _⟩
   ·have hz2 : ((d : Int) != 0) = true := by simp [hz]
    go_enter Tryz.func130, Tryz.ntmps130
    go_wp2
    go_ret
    exact ⟨by simp [h64, hz], Ext.alloc _ _⟩
  ·go_enter Tryz.func130, Tryz.ntmps130
   go_wp2
   go_ret
   exact ⟨by simp [h64], Ext.alloc _ _⟩
end Go.Proofs.YtgnogdncoljldaaGreat
namespace Go.Proofs.YtgnogdncoljldaaGreat
theorem odd_dvd2 {d n : Nat} (hd : d % 2 = 1) : d ∣ 2 * n ↔ d ∣ n := by
 have hc : Nat.Coprime d 2 := by
  unfold Nat.Coprime
  rw [Nat.gcd_comm, Nat.gcd_rec, hd]
  decide
 exact ⟨fun h => hc.dvd_of_dvd_mul_left h, fun h => Nat.dvd_trans h (Nat.dvd_mul_left _ _)⟩
def OddSame (X Y g : Nat) : Prop := ∀ d, d % 2 = 1 → (d ∣ X ∧ d ∣ Y ↔ d ∣ g)
theorem OddSame.swap {X Y g : Nat} (h : OddSame X Y g) : OddSame Y X g := fun d hd => by rw [And.comm]; exact h d hd
theorem OddSame.halfX {X Y g : Nat} (h : OddSame X Y g) (he : X % 2 = 0) : OddSame (X / 2) Y g := fun d hd => by
 have e : X = 2 * (X / 2) := by omega
 rw [← h d hd, ← odd_dvd2 (n := X / 2) hd, ← e]
theorem OddSame.halfY {X Y g : Nat} (h : OddSame X Y g) (he : Y % 2 = 0) : OddSame X (Y / 2) g := (h.swap.halfX he).swap
theorem OddSame.sub {X Y g : Nat} (h : OddSame X Y g) (hle : Y ≤ X) : OddSame (X - Y) Y g := fun d hd => by
 rw [← h d hd]
 constructor
 ·rintro ⟨h1, h2⟩
  refine ⟨?_, h2⟩
  have := Nat.dvd_add h1 h2
  rwa [Nat.sub_add_cancel hle] at this
 ·rintro ⟨h1, h2⟩
  exact ⟨Nat.dvd_sub h1 h2, h2⟩
theorem OddSame.fin {Y g : Nat} (h : OddSame 0 Y g) (hY : Y % 2 = 1) (hg : g % 2 = 1) : Y = g :=
 Nat.dvd_antisymm ((h Y hY).1 ⟨Nat.dvd_zero _, Nat.dvd_refl _⟩) ((h g hg).2 (Nat.dvd_refl _)).2
theorem OddSame.start (X Y : Nat) : OddSame X Y (Nat.gcd X Y) := fun d _ => (Nat.dvd_gcd_iff (k := d) (m := X) (n := Y)).symm
theorem gcd_odd {X Y : Nat} (h : X % 2 = 1 ∨ Y % 2 = 1) : Nat.gcd X Y % 2 = 1 := by
 have h1 := Nat.gcd_dvd_left X Y
 have h2 := Nat.gcd_dvd_right X Y
 generalize Nat.gcd X Y = g at *
 rcases Nat.mod_two_eq_zero_or_one g with e | e
 ·exfalso
  have h3 : 2 ∣ g := Nat.dvd_of_mod_eq_zero e
  rcases h with h | h
  ·have := Nat.mod_eq_zero_of_dvd (Nat.dvd_trans h3 h1); omega
  ·have := Nat.mod_eq_zero_of_dvd (Nat.dvd_trans h3 h2); omega
 ·exact e
theorem gcd_twos (t X Y : Nat) : Nat.gcd (2 ^ t * X) (2 ^ t * Y) = 2 ^ t * Nat.gcd X Y := Nat.gcd_mul_left _ _ _
theorem two_step (t X : Nat) (h : X % 2 = 0) : 2 ^ t * X = 2 ^ (t + 1) * (X / 2) := by
 have e : X = 2 * (X / 2) := by omega
 conv => lhs; rw [e]
 rw [Nat.pow_succ, Nat.mul_assoc]
theorem two_bound {t X n : Nat} (h0 : 0 < X) (h : 2 ^ t * X < 2 ^ n) : t < n := by
 have h1 : 2 ^ t * 1 ≤ 2 ^ t * X := Nat.mul_le_mul_left _ h0
 rw [Nat.mul_one] at h1
 exact (Nat.pow_lt_pow_iff_right (by decide : 1 < 2)).1 (Nat.lt_of_le_of_lt h1 h)
end Go.Proofs.YtgnogdncoljldaaGreat
namespace Go.Proofs.YtgnogdncoljldaaGreat
open Go Go.RowKit Go.Shelf
theorem made_digs (neg : Bool) (v : Value) (X : Nat) (w : World) (hu : U32s w.heap.size w v (digs X)) (h64 : X < B32 ^ 64) :
  Calls Tryz.prog 74 #[.bool neg, v] w (Gives w (madeZ neg X) (decide (madeZ neg X < 0))) := by
 obtain ⟨p, c, rfl, -, -⟩ := id hu
 have h := made_gives neg p c (digs X) w hu (.inl (by rw [strip_digs (digs_digits X), val_digs])) (digs_digits X) (by rw [val_digs]; exact h64)
 rwa [val_digs] at h
def Dq (w : World) (b0 : Nat) (na : Bool) (p : Option Addr) (n c : Nat) (q : Option Addr) (m c2 : Nat) (zq zr : Int) (vq vr : Value) (W : World) : Prop :=
 ∃ X Y : Nat, U32s W.heap.size W vq (digs X) ∧ U32s W.heap.size W vr (digs Y) ∧ madeZ na X = zq ∧ madeZ false Y = zr ∧ X < B32 ^ 64 ∧ Y < B32 ^ 64 ∧ Df b0 na false p n c q m c2 W ∧ Ext w W
structure Dst (D : Nat → Prop) (w : World) (g k : Nat) (n1 : Bool) (p1 : Option Addr) (l1 c1 : Nat) (n2 : Bool) (p2 : Option Addr) (l2 c2 : Nat) (z1 z2 : Int) (v71 v72 vok : Value) (W : World) : Prop where
 ext : Ext w W
 r9 : RowAt W g 36 (numCells n1 p1 l1 c1)
 r11 : RowAt W k 36 (numCells n2 p2 l2 c2)
 r4 : ∃ a b c d, RowAt W (w.heap.size + 1 + 1) 36 (numCells a b c d) ∧ (D 2 → a = n1 ∧ b = p1 ∧ c = l1 ∧ d = c1)
 r5 : ∃ a b c d, RowAt W (w.heap.size + 1 + 1 + 1) 36 (numCells a b c d) ∧ (D 3 → a = n2 ∧ b = p2 ∧ c = l2 ∧ d = c2)
 zq : ZNum W.heap.size W (.agg #[.bool n1, .slice p1 l1 c1]) z1
 zr : ZNum W.heap.size W (.agg #[.bool n2, .slice p2 l2 c2]) z2
 f0 : D 0 → v71 = .agg #[.bool n1, .slice p1 l1 c1]
 f1 : D 1 → v72 = .agg #[.bool n2, .slice p2 l2 c2]
 f4 : D 4 → vok = .bool true
section
variable {D : Nat → Prop} {w : World} {g k : Nat} {n1 : Bool} {p1 : Option Addr} {l1 c1 : Nat} {n2 : Bool} {p2 : Option Addr} {l2 c2 : Nat} {z1 z2 : Int} {v71 v72 vok : Value} {W : World}
theorem Dst.step {i : Nat} {a71 a72 aok : Value} (h : Dst D w g k n1 p1 l1 c1 n2 p2 l2 c2 z1 z2 v71 v72 vok W) (h2 : i ≠ 2) (h3 : i ≠ 3) (f0 : (0 = i ∨ D 0) → a71 = .agg #[.bool n1, .slice p1 l1 c1]) (f1 : (1 = i ∨ D 1) → a72 = .agg #[.bool n2, .slice p2 l2 c2]) (f4 : (4 = i ∨ D 4) → aok = .bool true) :
  Dst (fun j => j = i ∨ D j) w g k n1 p1 l1 c1 n2 p2 l2 c2 z1 z2 a71 a72 aok W := by
 obtain ⟨a, b, c, d, h4, e4⟩ := h.r4
 obtain ⟨a', b', c', d', h5, e5⟩ := h.r5
 exact ⟨h.ext, h.r9, h.r11, ⟨a, b, c, d, h4, fun e => e4 (e.resolve_left (fun e => h2 e.symm))⟩, ⟨a', b', c', d', h5, fun e => e5 (e.resolve_left (fun e => h3 e.symm))⟩, h.zq, h.zr, f0, f1, f4⟩
theorem Dst.store4 (h : Dst D w g k n1 p1 l1 c1 n2 p2 l2 c2 z1 z2 v71 v72 vok W) (hg : w.heap.size + 1 + 1 ≠ g) (hk : w.heap.size + 1 + 1 ≠ k) :
  Dst (fun j => j = 2 ∨ D j) w g k n1 p1 l1 c1 n2 p2 l2 c2 z1 z2 v71 v72 vok (W.setRow (w.heap.size + 1 + 1) (numCells n1 p1 l1 c1)) := by
 obtain ⟨a, b, c, d, h4, e4⟩ := h.r4
 obtain ⟨a', b', c', d', h5, e5⟩ := h.r5
 refine ⟨ext_setRow h.ext (by omega) _, h.r9.setRowOther _ (fun e => hg e.symm), h.r11.setRowOther _ (fun e => hk e.symm), ⟨_, _, _, _, h4.setRow _, fun _ => ⟨rfl, rfl, rfl, rfl⟩⟩, ⟨a', b', c', d', h5.setRowOther _ (by omega), fun e => e5 (e.resolve_left (by decide))⟩, ?_, ?_, fun e => h.f0 (e.resolve_left (by decide)), fun e => h.f1 (e.resolve_left (by decide)), fun e => h.f4 (e.resolve_left (by decide))⟩
 ·rw [setRow_size]; exact h.zq.setNum h4 _
 ·rw [setRow_size]; exact h.zr.setNum h4 _
theorem Dst.store5 (h : Dst D w g k n1 p1 l1 c1 n2 p2 l2 c2 z1 z2 v71 v72 vok W) (hg : w.heap.size + 1 + 1 + 1 ≠ g) (hk : w.heap.size + 1 + 1 + 1 ≠ k) :
  Dst (fun j => j = 3 ∨ D j) w g k n1 p1 l1 c1 n2 p2 l2 c2 z1 z2 v71 v72 vok (W.setRow (w.heap.size + 1 + 1 + 1) (numCells n2 p2 l2 c2)) := by
 obtain ⟨a, b, c, d, h4, e4⟩ := h.r4
 obtain ⟨a', b', c', d', h5, e5⟩ := h.r5
 refine ⟨ext_setRow h.ext (by omega) _, h.r9.setRowOther _ (fun e => hg e.symm), h.r11.setRowOther _ (fun e => hk e.symm), ⟨a, b, c, d, h4.setRowOther _ (by omega), fun e => e4 (e.resolve_left (by decide))⟩, ⟨_, _, _, _, h5.setRow _, fun _ => ⟨rfl, rfl, rfl, rfl⟩⟩, ?_, ?_, fun e => h.f0 (e.resolve_left (by decide)), fun e => h.f1 (e.resolve_left (by decide)), fun e => h.f4 (e.resolve_left (by decide))⟩
 ·rw [setRow_size]; exact h.zq.setNum h5 _
 ·rw [setRow_size]; exact h.zr.setNum h5 _
end
theorem run_load_numR {o : Oper} {a : Act} {w : World} (x : Operand) (ho : o.op = .load 36 x) (g : Nat) (hx : a.eval x = .pointer (some ⟨g, 0, none⟩)) (neg : Bool) (p : Option Addr) (n c : Nat) (t : TypeId) (hg : RowAt w g t (numCells neg p n c)) : (execOp a.eval o).run Tryz.prog w = .ok (.value (.agg #[.bool neg, .slice p n c])) w := by
 have h0 := hg.num0
 have h1 := hg.num1
 unfold execOp
 simp only [ho, hx, Instr.loadAt, Instr.sureAddr, Sem.run_bind, Sem.run_pure, Result.andThen_ok]
 simp [h0, h1, go_sem]
set_option maxRecDepth 100000 in
set_option maxHeartbeats 4000000 in
theorem rdiv_ok (va vb : Value) (za zb : Int) (nq nr : Bool) (w : World) (ha : ZNum w.heap.size w va za) (hb : ZNum w.heap.size w vb zb) (h : 0 < zb) (hnq : decide (za / zb < 0) = nq) (hnr : decide (za % zb < 0) = nr) :
  Calls Tryz.prog 134 #[va, vb] w (Gives2 w (za / zb) (za % zb) nq nr true) := by
 obtain ⟨p, c, rfl⟩ := ha.parts
 obtain ⟨q, c2, rfl⟩ := hb.parts
 have hua := znum_slice ha
 have hub := znum_slice hb
 obtain ⟨na, hna⟩ : ∃ na, na = decide (za < 0) := ⟨_, rfl⟩
 have hnb : decide (zb < 0) = false := by simp; omega
 rw [hnb]
 obtain ⟨n, hn⟩ : ∃ n, n = (digs za.natAbs).length := ⟨_, rfl⟩
 obtain ⟨m, hm⟩ : ∃ m, m = (digs zb.natAbs).length := ⟨_, rfl⟩
 have hra : rightB na (digs za.natAbs) = true := right_z na ha.2 (fun h0 => by rw [hna]; simp; omega)
 have hrb : rightB false (digs zb.natAbs) = true := right_z false hb.2 (fun _ => rfl)
 rw [← hna, ← hn]
 rw [← hm]
 rw [← hn] at hua
 rw [← hm] at hub
 have hb0 : 0 < val (digs zb.natAbs) := by rw [val_digs]; omega
 have hm0 : 0 < m := by
  rw [hm]
  rcases Nat.eq_zero_or_pos (digs zb.natAbs).length with e | e
  ·rw [List.length_eq_zero_iff.1 e] at hb0; exact absurd hb0 (by decide)
  ·exact e
 have hm1 : ((m : Int) == 0) = false := by simp; omega
 have Hlim := Lib.hid (div_lim ha.2 hb.2 h)
 have HLa := Lib.hid ha.2
 have HLb := Lib.hid hb.2
 have Hpos := Lib.hid h
 have Hna := Lib.hid hna
 obtain ⟨W4, hW4⟩ : ∃ W4, W4 = (((w.alloc (.cells #[.bool na, .slice p n c] 36)).alloc (.cells #[.bool false, .slice q m c2] 36)).alloc (.cells #[.bool false, .slice none 0 0] 36)).alloc (.cells #[.bool false, .slice none 0 0] 36) := ⟨_, rfl⟩
 have HB4 : Hid (Ext w W4) := by rw [hW4]; exact ((((Below.refl _ w).alloc (Nat.le_refl _) _).alloc (by simp) _).alloc (by simp; omega) _).alloc (by simp; omega) _
 have HD4 : Hid (Df w.heap.size na false p n c q m c2 W4) := by
  rw [hW4]
  exact ⟨(((RowAt.new w _ _).alloc _).alloc _).alloc _, ((RowAt.new' _ _ (by simp)).alloc _).alloc _, (RowAt.new' _ _ (by simp)).alloc _, RowAt.new' _ _ (by simp)⟩
 have HA := Lib.hid (HB4.out.u32s hua)
 have HBn := Lib.hid (HB4.out.u32s hub)
 have HW4 := Lib.hid hW4
 have Hra := Lib.hid hra
 have Hrb := Lib.hid hrb
 have Hb0 := Lib.hid hb0
 have Hn := Lib.hid hn
 have Hm := Lib.hid hm
 clear hW4 ha hb hua hub hna hnb hn hm hra hrb hb0 hm0 h
 go_enter Tryz.func134, Tryz.ntmps134
 go_wp2_with fail
 rw [← HW4.out]
 refine (rright_calls na _ _ W4 HA.out).mono ?_
 rintro e w1 ⟨rfl, hb1⟩
 rw [Hra.out]
 have HD1 := Lib.hid (HD4.out.below hb1)
 have HA1 := Lib.hid (hb1.u32s HA.out)
 have HBn1 := Lib.hid (hb1.u32s HBn.out)
 have HB1 := Lib.hid (HB4.out.trans hb1)
 have h10 := HD1.out.rb.num0
 have h11 := HD1.out.rb.num1
 clear hb1
 go_wp2_with fail
 refine (rright_calls false _ _ w1 HBn1.out).mono ?_
 rintro e w2 ⟨rfl, hb2⟩
 rw [Hrb.out]
 have HD2 := Lib.hid (HD1.out.below hb2)
 have HA2 := Lib.hid (hb2.u32s HA1.out)
 have HBn2 := Lib.hid (hb2.u32s HBn1.out)
 have HB2 := Lib.hid (HB1.out.trans hb2)
 have h20 := HD2.out.rb.num0
 have h21 := HD2.out.rb.num1
 have h22 := HD2.out.ra.num0
 have h23 := HD2.out.ra.num1
 clear hb2 h10 h11
 have hq := quotient_calls _ _ _ _ w2 HA2.out HBn2.out (digs_digits _) (norm_digs _) (by have := digs_len64 HLa.out; omega) (by have := digs_len64 HLb.out; omega) Hb0.out
 rw [val_digs, val_digs] at hq
 have Hq := Lib.hid hq
 clear hq
 go_wp2_with fail
 refine Hq.out.mono ?_
 rintro e w3 ⟨v7, v8, rfl, hu7, hu8, hx3⟩
 have Hu7 := Lib.hid hu7
 have Hu8 := Lib.hid hu8
 obtain ⟨p8, c8, rfl, -, -⟩ := hu8
 have HD3 := Lib.hid (HD2.out.below hx3)
 have HBn3 := Lib.hid (hx3.u32s HBn2.out)
 have HB3 := Lib.hid (HB2.out.trans hx3)
 have h30 := HD3.out.ra.num0
 have h31 := HD3.out.rb.num1
 clear hu7 hx3 h20 h21 h22 h23
 obtain ⟨X, hX⟩ : ∃ X, X = za.natAbs / zb.natAbs := ⟨_, rfl⟩
 obtain ⟨Y, hY⟩ : ∃ Y, Y = za.natAbs % zb.natAbs := ⟨_, rfl⟩
 rw [← hX] at Hu7
 rw [← hY] at Hu8 ⊢
 obtain ⟨l8, hl8⟩ : ∃ l, l = (digs Y).length := ⟨_, rfl⟩
 rw [← hl8] at Hu8 ⊢
 have hY64 : Y < B32 ^ 64 := by rw [hY]; exact Nat.lt_of_le_of_lt (Nat.mod_le _ _) HLa.out
 have hYb : Y < zb.natAbs := by rw [hY]; exact Nat.mod_lt _ (by have := Hpos.out; omega)
 have hX64 : X < B32 ^ 64 := by rw [hX]; exact Nat.lt_of_le_of_lt (Nat.div_le_self _ _) HLa.out
 have HX := Lib.hid hX
 have HY := Lib.hid hY
 have HY64 := Lib.hid hY64
 have HX64 := Lib.hid hX64
 have HYb := Lib.hid hYb
 have Hl8 := Lib.hid hl8
 clear hX hY hl8 hY64 hX64 hYb
 go_upto_region 4 with fail
 go_cut [47] from 13 (fun v wc => v = .bool (na && decide (0 < l8)) ∧ wc = w3)
 case first =>
  cases na
  ·go_wp2_with fail
   go_meet
   case rel => exact ⟨rfl, rfl⟩
  ·by_cases hl : 0 < l8
   ·have hlb : decide (0 < l8) = true := by simp [hl]
    go_wp2_with fail
    go_meet
    case rel => exact ⟨by rw [hlb]; rfl, rfl⟩
   ·have hlb : decide (0 < l8) = false := by simp [hl]
    go_wp2_with fail
    go_meet
    case rel => exact ⟨by rw [hlb]; rfl, rfl⟩
 case rest =>
  obtain ⟨rfl, rfl⟩ := hcut
  obtain ⟨tt, htt⟩ : ∃ tt, tt = (na && decide (0 < l8)) := ⟨_, rfl⟩
  rw [← htt]
  have Htt := Lib.hid htt
  clear htt
  go_upto_if 47 with fail
  go_cut [7, 8] from 13 (fun vq vr wx => Dq w w.heap.size na p n c q m c2 (za / zb) (za % zb) vq vr wx)
  case first =>
   cases tt
   case true =>
    obtain ⟨rfl, hl⟩ : na = true ∧ 0 < l8 := by have := Htt.out; simpa using this.symm
    clear Htt
    have hneg : za < 0 := by have := Hna.out; simp at this; exact this
    have hY0 : za.natAbs % zb.natAbs ≠ 0 := by
     rw [← HY.out]
     intro e
     have := Hl8.out
     rw [e] at this
     have h0 : (digs 0).length = 0 := by rw [digs_nil_iff.2 rfl]; rfl
     omega
    have hd := div_neg_rest hneg Hpos.out hY0
    rw [← HX.out, ← HY.out] at hd
    have Hd := Lib.hid hd
    obtain ⟨W1, hW1⟩ : ∃ W1, W1 = wc.alloc (.cells #[.int .u32 1] 118) := ⟨_, rfl⟩
    have hxW : Ext wc W1 := by rw [hW1]; exact Ext.alloc _ _
    have hrW : RowAt W1 wc.heap.size 118 (arr [1]) := by rw [hW1]; exact RowAt.new _ _ _
    have hP2 := plus_calls _ _ _ _ W1 (hxW.u32s Hu7.out) (u32s_arr (cap := 1) hrW hrW.lt (by unfold maxLen; decide)) (digs_digits _) one_digits (Nat.le_trans (digs_len64 HX64.out) (by decide)) (by decide)
    rw [val_digs, show val [1] = 1 from rfl] at hP2
    have HP2 := Lib.hid hP2
    have HW1 := Lib.hid hW1
    have HxW := Lib.hid hxW
    clear hW1 hxW hrW hP2 hd hY0
    go_wp2_with fail
    rw [← HW1.out]
    refine HP2.out.mono ?_
    rintro e wp ⟨vq, rfl, huq, hxq, -⟩
    have Huq := Lib.hid huq
    have Hxq : Hid (Ext wc wp) := HxW.out.trans hxq
    have HDp := Lib.hid (HD3.out.below Hxq.out)
    have h31p := HDp.out.rb.num1
    have HM := Lib.hid (minus_calls _ _ _ _ wp (Hxq.out.u32s HBn3.out) (Hxq.out.u32s Hu8.out) (digs_digits _) (digs_digits _) (Nat.le_trans (digs_len64 HLb.out) (by decide)) (len_le_of_val (norm_digs _) (norm_digs _) (by rw [val_digs, val_digs]; exact Nat.le_of_lt HYb.out)) (by rw [val_digs, val_digs]; exact Nat.le_of_lt HYb.out))
    clear huq hxq h30 h31
    go_wp2_with fail
    refine HM.out.mono ?_
    rintro e wm ⟨vr, rfl, hur, hxr, -⟩
    rw [val_digs, val_digs] at hur
    have Hur := Lib.hid hur
    have Hxr := Lib.hid hxr
    clear hur hxr
    go_wp2_with fail
    go_meet
    case rel =>
     have hlim := div_lim HLa.out HLb.out Hpos.out
     refine ⟨X + 1, zb.natAbs - Y, Hxr.out.u32s Huq.out, Hur.out, ?_, ?_, ?_, ?_, HDp.out.below Hxr.out, (HB3.out.trans Hxq.out).trans Hxr.out⟩
     ·rw [Hd.out.1]; rfl
     ·rw [Hd.out.2]; rfl
     ·have := hlim.1; rw [Hd.out.1, Int.natAbs_neg, Int.natAbs_natCast] at this; exact this
     ·exact Nat.lt_of_le_of_lt (Nat.sub_le _ _) HLb.out
   case false =>
    have hcase : ¬ (na = true ∧ 0 < l8) := by
     have := Htt.out
     rintro ⟨rfl, h2⟩
     simp [h2] at this
    have Hcase := Lib.hid hcase
    clear hcase Htt
    go_wp2_with fail
    go_meet
    case rel =>
     refine ⟨X, Y, Hu7.out, Hu8.out, ?_, ?_, HX64.out, HY64.out, HD3.out, HB3.out⟩
     ·cases hna : na
      ·have hpos : 0 ≤ za := by have := Hna.out; rw [hna] at this; simp at this; omega
       rw [(div_pos_rest hpos Hpos.out).1, ← HX.out]; rfl
      ·have hneg : za < 0 := by have := Hna.out; rw [hna] at this; simp at this; exact this
       have hY0 : za.natAbs % zb.natAbs = 0 := by
        have hl0 : (digs Y).length = 0 := by have h1 := Hcase.out; rw [hna] at h1; simp at h1; rw [← Hl8.out]; exact h1
        rw [← HY.out]; exact digs_nil_iff.1 (List.length_eq_zero_iff.1 hl0)
       rw [(div_neg_none hneg Hpos.out hY0).1, ← HX.out]; rfl
     ·cases hna : na
      ·have hpos : 0 ≤ za := by have := Hna.out; rw [hna] at this; simp at this; omega
       rw [(div_pos_rest hpos Hpos.out).2, ← HY.out]; rfl
      ·have hneg : za < 0 := by have := Hna.out; rw [hna] at this; simp at this; exact this
       have hY0 : za.natAbs % zb.natAbs = 0 := by
        have hl0 : (digs Y).length = 0 := by have h1 := Hcase.out; rw [hna] at h1; simp at h1; rw [← Hl8.out]; exact h1
        rw [← HY.out]; exact digs_nil_iff.1 (List.length_eq_zero_iff.1 hl0)
       rw [(div_neg_none hneg Hpos.out hY0).2, HY.out, hY0]; rfl
  case rest =>
   obtain ⟨X1, Y1, hq7, hq8, hzq, hzr, hX1, hY1, hdc, hxc⟩ := hcut
   have Hq8 := Lib.hid hq8
   have HDc := Lib.hid hdc
   have HBc := Lib.hid hxc
   have Hzr := Lib.hid hzr
   have HlY := Lib.hid hY1
   have HN7 := Lib.hid (made_digs na u7 X1 wc hq7 hX1)
   rw [hzq] at HN7
   have hc0 := hdc.ra.num0
   clear hq7 hq8 hdc hxc hzq hzr hX1 hY1 h30 h31
   go_wp2_with fail
   refine HN7.out.mono ?_
   rintro e wd ⟨p9, n9, c9, rfl, hz9, hx9⟩
   rw [hnq] at hz9 ⊢
   have Hz9 := Lib.hid hz9
   have Hx9 := Lib.hid hx9
   have HDd := Lib.hid (HDc.out.below hx9)
   have Hq8d := Lib.hid (hx9.u32s Hq8.out)
   have Hnew := Lib.hid (RowAt.new wd 36 #[.bool false, .slice none 0 0])
   clear hz9 hx9 hc0
   obtain ⟨We, hWe⟩ : ∃ We, We = (wd.alloc (.cells #[.bool false, .slice none 0 0] 36)).setRow wd.heap.size (numCells nq p9 n9 c9) := ⟨_, rfl⟩
   have Hxe : Hid (Ext wd We) := by rw [hWe]; exact ext_setRow (Ext.alloc _ _) (Nat.le_refl _) _
   have Hr9 : Hid (RowAt We wd.heap.size 36 (numCells nq p9 n9 c9)) := by rw [hWe]; exact Hnew.out.setRow _
   have HN8 := Lib.hid (made_digs false u8 Y1 We (Hxe.out.u32s Hq8d.out) HlY.out)
   rw [Hzr.out] at HN8
   have HWe := Lib.hid hWe
   clear hWe
   go_wp2_with (refine store_num rfl (.tmp 9) (.tmp 60) rfl wd.heap.size rfl nq p9 n9 c9 rfl _ _ Hnew.out rfl ?_; rw [← HWe.out])
   refine HN8.out.mono ?_
   rintro e wf ⟨pb, nb9, cb, rfl, hz11, hx11⟩
   rw [hnr] at hz11 ⊢
   have Hz11 := Lib.hid hz11
   have HDf := Lib.hid ((HDd.out.below Hxe.out).below hx11)
   have Hr9f := Lib.hid (hx11.row Hr9.out)
   have Hz9f := Lib.hid ((Hxe.out.trans hx11).num Hz9.out)
   have Hnew2 := Lib.hid (RowAt.new wf 36 #[.bool false, .slice none 0 0])
   have Hext := Lib.hid (HBc.out.trans ((Hx9.out.trans Hxe.out).trans hx11))
   clear hz11 hx11
   obtain ⟨Wg, hWg⟩ : ∃ Wg, Wg = (wf.alloc (.cells #[.bool false, .slice none 0 0] 36)).setRow wf.heap.size (numCells nr pb nb9 cb) := ⟨_, rfl⟩
   have Hxg : Hid (Ext wf Wg) := by rw [hWg]; exact ext_setRow (Ext.alloc _ _) (Nat.le_refl _) _
   have Hr11 : Hid (RowAt Wg wf.heap.size 36 (numCells nr pb nb9 cb)) := by rw [hWg]; exact Hnew2.out.setRow _
   have HWg := Lib.hid hWg
   clear hWg
   go_wp2_with (refine store_num rfl (.tmp 11) (.tmp 65) rfl wf.heap.size rfl nr pb nb9 cb rfl _ _ Hnew2.out rfl ?_; rw [← HWg.out])
   have HwR : Hid (w.heap.size + 1 + 1 + 1 < wd.heap.size) := Nat.lt_of_lt_of_le HDc.out.r5.lt (Below.size Hx9.out)
   have HdE : Hid (wd.heap.size < wf.heap.size) := Hr9f.out.lt
   have Hst : Hid (Dst (fun _ => False) w wd.heap.size wf.heap.size nq p9 n9 c9 nr pb nb9 cb (za / zb) (za % zb) undef undef undef Wg.drew) := by
    have hdf := HDf.out.below Hxg.out
    exact ⟨(Hext.out.trans Hxg.out).trans (Ext.drew _), Hxg.out.row Hr9f.out, Hr11.out, ⟨_, _, _, _, hdf.r4, False.elim⟩, ⟨_, _, _, _, hdf.r5, False.elim⟩, Hxg.out.num Hz9f.out, Hxg.out.num Hz11.out, False.elim, False.elim, False.elim⟩
   refine wp_region_inv (fun D ac w' => ∃ v71 v72 vok, ac = { tmps := #[.agg #[.bool na, .slice p n c], .agg #[.bool false, .slice q m c2], .pointer (some ⟨w.heap.size, 0, none⟩), .pointer (some ⟨w.heap.size + 1, 0, none⟩), .pointer (some ⟨w.heap.size + 1 + 1, 0, none⟩), .pointer (some ⟨w.heap.size + 1 + 1 + 1, 0, none⟩), vok, u7, u8, .pointer (some ⟨wd.heap.size, 0, none⟩), .bool true, .pointer (some ⟨wf.heap.size, 0, none⟩), .bool true, u13, u14, u15, u16, u17, u18, u19, u20, u21, u22, u23, u24, u25, u26, u27, u28, u29, u30, u31, u32, u33, u34, u35, u36, u37, u38, u39, u40, u41, u42, u43, u44, u45, u46, u47, u48, u49, u50, u51, u52, u53, u54, .tuple #[.agg #[.bool nq, .slice p9 n9 c9], .bool true], .pointer (some ⟨w.heap.size, 0, none⟩), .bool na, u7, .tuple #[.agg #[.bool nq, .slice p9 n9 c9], .bool true], .agg #[.bool nq, .slice p9 n9 c9], .bool true, .tuple #[.agg #[.bool nr, .slice pb nb9 cb], .bool true], u8, .tuple #[.agg #[.bool nr, .slice pb nb9 cb], .bool true], .agg #[.bool nr, .slice pb nb9 cb], .bool true, .bool true, .bool false, u69, u70, v71, v72], defers := [] } ∧ Dst D w wd.heap.size wf.heap.size nq p9 n9 c9 nr pb nb9 cb (za / zb) (za % zb) v71 v72 vok w') (by kernel_rfl) (by kernel_rfl) ?startT ?stepT ?finT
   case startT => exact ⟨u71, u72, .bool false, rfl, ⟨Hst.out.ext, Hst.out.r9, Hst.out.r11, Hst.out.r4.imp fun a => Exists.imp fun b => Exists.imp fun c => Exists.imp fun d h => ⟨h.1, False.elim⟩, Hst.out.r5.imp fun a => Exists.imp fun b => Exists.imp fun c => Exists.imp fun d h => ⟨h.1, False.elim⟩, Hst.out.zq, Hst.out.zr, False.elim, False.elim, False.elim⟩⟩
   case stepT =>
    rintro i o D ac wz hio hnd he ⟨v71, v72, vok, rfl, hS⟩
    rcases i with _ | _ | _ | _ | _ | i
    rotate_left 5
    ·exact absurd hio (by simp)
    all_goals (obtain rfl := Option.some.inj (hio.symm.trans (by rfl)))
    ·exact wp_of_run (run_load_numR (.tmp 9) rfl _ rfl _ _ _ _ _ hS.r9) ⟨_, v72, vok, rfl, hS.step (i := 0) (by decide) (by decide) (fun _ => rfl) (fun e => hS.f1 (e.resolve_left (by decide))) (fun e => hS.f4 (e.resolve_left (by decide)))⟩
    ·exact wp_of_run (run_load_numR (.tmp 11) rfl _ rfl _ _ _ _ _ hS.r11) ⟨v71, _, vok, rfl, hS.step (i := 1) (by decide) (by decide) (fun e => hS.f0 (e.resolve_left (by decide))) (fun _ => rfl) (fun e => hS.f4 (e.resolve_left (by decide)))⟩
    ·obtain rfl := hS.f0 (he ⟨0, .data⟩ (by simp) rfl)
     obtain ⟨a4, b4, c4, d4, h4, -⟩ := hS.r4
     refine wp_store_row 36 (.tmp 4) (.tmp 71) rfl (w.heap.size + 1 + 1) (numCells nq p9 n9 c9) rfl rfl 36 _ h4 num_info rfl (numCells_one ..) ?_
     exact ⟨_, v72, vok, rfl, hS.store4 (by have := HwR.out; omega) (by have := HwR.out; have := HdE.out; omega)⟩
    ·obtain rfl := hS.f1 (he ⟨1, .data⟩ (by simp) rfl)
     obtain ⟨a4, b4, c4, d4, h4, -⟩ := hS.r5
     refine wp_store_row 36 (.tmp 5) (.tmp 72) rfl (w.heap.size + 1 + 1 + 1) (numCells nr pb nb9 cb) rfl rfl 36 _ h4 num_info rfl (numCells_one ..) ?_
     exact ⟨v71, _, vok, rfl, hS.store5 (by have := HwR.out; omega) (by have := HwR.out; have := HdE.out; omega)⟩
    ·exact wp_of_run (run_assign (.const (.bool true)) rfl) ⟨v71, v72, _, rfl, hS.step (i := 4) (by decide) (by decide) (fun e => hS.f0 (e.resolve_left (by decide))) (fun e => hS.f1 (e.resolve_left (by decide))) (fun _ => rfl)⟩
   case finT =>
    rintro D ac wz hD ⟨v71, v72, vok, rfl, hS⟩
    obtain ⟨a4, b4, c4, d4, h4, e4⟩ := hS.r4
    obtain ⟨rfl, rfl, rfl, rfl⟩ := e4 (hD 2 (by simp))
    obtain ⟨a5, b5, c5, d5, h5, e5⟩ := hS.r5
    obtain ⟨rfl, rfl, rfl, rfl⟩ := e5 (hD 3 (by simp))
    obtain rfl := hS.f4 (hD 4 (by simp))
    have HS := Lib.hid (And.intro hS.ext (And.intro hS.zq hS.zr))
    have H4 := Lib.hid h4
    have H5 := Lib.hid h5
    clear hD hS h4 h5 e4 e5
    go_wp2_with fail
    exact ret_num2 rfl (w.heap.size + 1 + 1) rfl (w.heap.size + 1 + 1 + 1) rfl _ rfl _ _ _ _ _ _ _ _ _ _ H4.out H5.out ⟨_, _, _, _, _, _, rfl, HS.out.2.1, HS.out.2.2, HS.out.1⟩
end Go.Proofs.YtgnogdncoljldaaGreat
namespace Go.Proofs.YtgnogdncoljldaaGreat
open Go Go.RowKit Go.Shelf
theorem first_digit {w : World} {v : Value} {X : Nat} (hu : U32s w.heap.size w v (digs X)) (h0 : 0 < X) : ∃ b off n c x, v = .slice (some ⟨b, off, none⟩) n c ∧ n = (digs X).length ∧ 0 < n ∧ w.cell? ⟨b, off, none⟩ = some (.int .u32 (x : Nat)) ∧ x % 2 = X % 2 ∧ x < 4294967296 := by
 have hl : 0 < (digs X).length := by
  rcases Nat.eq_zero_or_pos (digs X).length with e | e
  ·have := digs_nil_iff.1 (List.length_eq_zero_iff.1 e); omega
  ·exact e
 obtain ⟨p, c, rfl, -, hc⟩ := hu
 obtain ⟨b, off, rfl, -, hcs⟩ := hc hl
 refine ⟨b, off, _, c, (digs X)[0]?.getD 0, rfl, rfl, hl, hcs 0 hl, ?_, ?_⟩
 ·rw [← val_mod2, val_digs]
 ·have := (digs_digits X).getD 0; unfold B32 at this; exact this
theorem digs_zero_len : (digs 0).length = 0 := by rw [digs_nil_iff.2 rfl]; rfl
theorem digs_pos_len {X : Nat} (h : 0 < X) : 0 < (digs X).length := by
 rcases Nat.eq_zero_or_pos (digs X).length with e | e
 ·have := digs_nil_iff.1 (List.length_eq_zero_iff.1 e); omega
 ·exact e
theorem madeF_nn (n : Nat) : decide (madeZ false n < 0) = false := by simp [madeZ]
theorem dbl (z G : Nat) : 2 ^ (z + 1) * G = 2 ^ z * G + 2 ^ z * G := by rw [Nat.pow_succ, Nat.mul_right_comm, Nat.mul_two]
structure Gf (b0 : Nat) (na nb : Bool) (p : Option Addr) (n c : Nat) (q : Option Addr) (m c2 : Nat) (W : World) : Prop where
 ra : RowAt W b0 36 (numCells na p n c)
 rb : RowAt W (b0 + 1) 36 (numCells nb q m c2)
 r4 : RowAt W (b0 + 1 + 1) 36 (numCells false none 0 0)
theorem Gf.ext {b0 : Nat} {na nb : Bool} {p : Option Addr} {n c : Nat} {q : Option Addr} {m c2 : Nat} {W W' : World} (h : Gf b0 na nb p n c q m c2 W) (hx : Ext W W') : Gf b0 na nb p n c q m c2 W' := ⟨hx.row h.ra, hx.row h.rb, hx.row h.r4⟩
theorem half_digs (v : Value) (X : Nat) (w : World) (hu : U32s w.heap.size w v (digs X)) (h0 : 0 < X) (h64 : X < B32 ^ 64) :
  Calls Tryz.prog 174 #[v] w fun e w' => ∃ r, e = .returned r ∧ U32s w'.heap.size w' r (digs (X / 2)) ∧ Ext w w' := by
 have h := half_calls v (digs X) w hu (digs_digits X) (digs_pos_len h0) (Nat.le_trans (digs_len64 h64) (by decide))
 rw [val_digs] at h
 exact h.mono fun e w' ⟨r, h1, h2, h3, _⟩ => ⟨r, h1, h2, h3⟩
theorem plus_digs (v u : Value) (X Y : Nat) (w : World) (hu : U32s w.heap.size w v (digs X)) (hv : U32s w.heap.size w u (digs Y)) (hX : X < B32 ^ 64) (hY : Y < B32 ^ 64) :
  Calls Tryz.prog 176 #[v, u] w fun e w' => ∃ r, e = .returned r ∧ U32s w'.heap.size w' r (digs (X + Y)) ∧ Ext w w' := by
 have h := plus_calls v u (digs X) (digs Y) w hu hv (digs_digits X) (digs_digits Y) (Nat.le_trans (digs_len64 hX) (by decide)) (Nat.le_trans (digs_len64 hY) (by decide))
 rw [val_digs, val_digs] at h
 exact h.mono fun e w' ⟨r, h1, h2, h3, _⟩ => ⟨r, h1, h2, h3⟩
theorem minus_digs (v u : Value) (X Y : Nat) (w : World) (hu : U32s w.heap.size w v (digs X)) (hv : U32s w.heap.size w u (digs Y)) (hX : X < B32 ^ 64) (hle : Y ≤ X) :
  Calls Tryz.prog 175 #[v, u] w fun e w' => ∃ r, e = .returned r ∧ U32s w'.heap.size w' r (digs (X - Y)) ∧ Ext w w' := by
 have h := minus_calls v u (digs X) (digs Y) w hu hv (digs_digits X) (digs_digits Y) (Nat.le_trans (digs_len64 hX) (by decide)) (len_le_of_val (norm_digs _) (norm_digs _) (by rw [val_digs, val_digs]; exact hle)) (by rw [val_digs, val_digs]; exact hle)
 rw [val_digs, val_digs] at h
 exact h.mono fun e w' ⟨r, h1, h2, h3, _⟩ => ⟨r, h1, h2, h3⟩
theorem comp_digs (v u : Value) (X Y : Nat) (w : World) (hu : U32s w.heap.size w v (digs X)) (hv : U32s w.heap.size w u (digs Y)) :
  Calls Tryz.prog 94 #[v, u] w fun e w' => e = .returned (.int .i64 (sgn X Y)) ∧ Ext w w' := by
 have h := compare_calls v u (digs X) (digs Y) w hu hv (digs_digits X) (digs_digits Y)
 rw [cmpL_norm (norm_digs _) (norm_digs _), val_digs, val_digs] at h
 exact h
set_option maxRecDepth 100000 in
set_option maxHeartbeats 8000000 in
theorem rgcd_ok (va vb : Value) (za zb : Int) (w : World) (ha : ZNum w.heap.size w va za) (hb : ZNum w.heap.size w vb zb) :
  Calls Tryz.prog 133 #[va, vb] w (Gives w ((Nat.gcd za.natAbs zb.natAbs : Nat) : Int) false) := by
 obtain ⟨p, c, rfl⟩ := ha.parts
 obtain ⟨q, c2, rfl⟩ := hb.parts
 have hua := znum_slice ha
 have hub := znum_slice hb
 obtain ⟨na, hna⟩ : ∃ na, na = decide (za < 0) := ⟨_, rfl⟩
 obtain ⟨nb, hnb⟩ : ∃ nb, nb = decide (zb < 0) := ⟨_, rfl⟩
 obtain ⟨X0, hX0⟩ : ∃ X0, X0 = za.natAbs := ⟨_, rfl⟩
 obtain ⟨Y0, hY0⟩ : ∃ Y0, Y0 = zb.natAbs := ⟨_, rfl⟩
 have hra : rightB na (digs X0) = true := right_z na (by rw [hX0]; exact ha.2) (fun h0 => by rw [hna]; simp; omega)
 have hrb : rightB nb (digs Y0) = true := right_z nb (by rw [hY0]; exact hb.2) (fun h0 => by rw [hnb]; simp; omega)
 have hlx : X0 < B32 ^ 64 := by rw [hX0]; exact ha.2
 have hly : Y0 < B32 ^ 64 := by rw [hY0]; exact hb.2
 rw [← hna, ← hnb, ← hX0, ← hY0]
 rw [← hX0] at hua
 rw [← hY0] at hub
 clear hna hnb hX0 hY0 ha hb
 obtain ⟨n, hn⟩ : ∃ n, n = (digs X0).length := ⟨_, rfl⟩
 obtain ⟨m, hm⟩ : ∃ m, m = (digs Y0).length := ⟨_, rfl⟩
 rw [← hn] at hua ⊢
 rw [← hm] at hub ⊢
 obtain ⟨W3, hW3⟩ : ∃ W3, W3 = ((w.alloc (.cells #[.bool na, .slice p n c] 36)).alloc (.cells #[.bool nb, .slice q m c2] 36)).alloc (.cells #[.bool false, .slice none 0 0] 36) := ⟨_, rfl⟩
 have HB3 : Hid (Ext w W3) := by rw [hW3]; exact (((Below.refl _ w).alloc (Nat.le_refl _) _).alloc (by simp) _).alloc (by simp; omega) _
 have HG3 : Hid (Gf w.heap.size na nb p n c q m c2 W3) := by
  rw [hW3]
  exact ⟨((RowAt.new w _ _).alloc _).alloc _, (RowAt.new' _ _ (by simp)).alloc _, RowAt.new' _ _ (by simp)⟩
 have HA := Lib.hid (HB3.out.u32s hua)
 have HBn := Lib.hid (HB3.out.u32s hub)
 have HW3 := Lib.hid hW3
 have Hra := Lib.hid hra
 have Hrb := Lib.hid hrb
 have Hlx := Lib.hid hlx
 have Hly := Lib.hid hly
 have Hn := Lib.hid hn
 have Hm := Lib.hid hm
 clear hW3 hua hub hra hrb hlx hly hn hm
 go_enter Tryz.func133, Tryz.ntmps133
 go_wp2_with fail
 rw [← HW3.out]
 refine (rright_calls na _ _ W3 HA.out).mono ?_
 rintro e w1 ⟨rfl, hb1⟩
 rw [Hra.out]
 have HG1 := Lib.hid (HG3.out.ext hb1)
 have HA1 := Lib.hid (hb1.u32s HA.out)
 have HBn1 := Lib.hid (hb1.u32s HBn.out)
 have HB1 := Lib.hid (HB3.out.trans hb1)
 have h10 := HG1.out.rb.num0
 have h11 := HG1.out.rb.num1
 clear hb1
 go_wp2_with fail
 refine (rright_calls nb _ _ w1 HBn1.out).mono ?_
 rintro e w2 ⟨rfl, hb2⟩
 rw [Hrb.out]
 have HG2 := Lib.hid (HG1.out.ext hb2)
 have HA2 := Lib.hid (hb2.u32s HA1.out)
 have HBn2 := Lib.hid (hb2.u32s HBn1.out)
 have HB2 := Lib.hid (HB1.out.trans hb2)
 have h21 := HG2.out.rb.num1
 have h23 := HG2.out.ra.num1
 clear hb2 h10 h11
 by_cases hx0 : X0 = 0
 ·have hz : (((Nat.gcd X0 Y0 : Nat) : Int)) = madeZ false Y0 := by rw [hx0, Nat.gcd_zero_left]; rfl
  obtain rfl : n = 0 := by rw [Hn.out, hx0]; exact digs_zero_len
  have HM := Lib.hid (made_digs false (.slice q m c2) Y0 w2 HBn2.out Hly.out)
  have hnn : decide (madeZ false Y0 < 0) = false := by simp [madeZ]
  rw [hnn, ← hz] at HM
  have Hz := Lib.hid hz
  clear hx0 hz hnn
  go_wp2_with fail
  refine HM.out.mono ?_
  rintro e w3 ⟨pr, nr, cr, rfl, hzr, hx3⟩
  have Hzr := Lib.hid hzr
  have Hx3 := Lib.hid hx3
  have HG4 := Lib.hid (HG2.out.ext hx3)
  clear hzr hx3
  go_wp2_with (refine store_num rfl (.tmp 4) (.tmp 28) rfl (w.heap.size + 1 + 1) rfl false pr nr cr rfl _ _ HG4.out.r4 rfl ?_)
  exact ret_num rfl (w.heap.size + 1 + 1) rfl _ rfl _ _ _ _ _ (HG4.out.r4.setRow _) ⟨_, _, _, rfl, by rw [setRow_size]; exact Hzr.out.setNum HG4.out.r4 _, ext_setRow (HB2.out.trans Hx3.out) (by omega) _⟩
 ·have hn0 : ((n : Int) == 0) = false := by
   have h1 := digs_pos_len (Nat.pos_of_ne_zero hx0)
   rw [← Hn.out] at h1
   simp; omega
  have Hx0 := Lib.hid hx0
  clear hx0
  by_cases hy0 : Y0 = 0
  ·have hz : (((Nat.gcd X0 Y0 : Nat) : Int)) = madeZ false X0 := by rw [hy0, Nat.gcd_zero_right]; rfl
   obtain rfl : m = 0 := by rw [Hm.out, hy0]; exact digs_zero_len
   have HM := Lib.hid (made_digs false (.slice p n c) X0 w2 HA2.out Hlx.out)
   have hnn : decide (madeZ false X0 < 0) = false := by simp [madeZ]
   rw [hnn, ← hz] at HM
   have Hz := Lib.hid hz
   clear hy0 hz hnn
   go_wp2_with fail
   refine HM.out.mono ?_
   rintro e w3 ⟨pr, nr, cr, rfl, hzr, hx3⟩
   have Hzr := Lib.hid hzr
   have Hx3 := Lib.hid hx3
   have HG4 := Lib.hid (HG2.out.ext hx3)
   clear hzr hx3
   go_wp2_with (refine store_num rfl (.tmp 4) (.tmp 35) rfl (w.heap.size + 1 + 1) rfl false pr nr cr rfl _ _ HG4.out.r4 rfl ?_)
   exact ret_num rfl (w.heap.size + 1 + 1) rfl _ rfl _ _ _ _ _ (HG4.out.r4.setRow _) ⟨_, _, _, rfl, by rw [setRow_size]; exact Hzr.out.setNum HG4.out.r4 _, ext_setRow (HB2.out.trans Hx3.out) (by omega) _⟩
  ·have hm0 : ((m : Int) == 0) = false := by
    have h1 := digs_pos_len (Nat.pos_of_ne_zero hy0)
    rw [← Hm.out] at h1
    simp; omega
   have Hy0 := Lib.hid hy0
   clear hy0
   go_wp2_with fail
   go_loopg [6, 7, 8] X0 (fun g x y k wr => ∃ Y t : Nat, k = .int .i64 (t : Int) ∧ 0 < g ∧ 0 < Y ∧ X0 = 2 ^ t * g ∧ Y0 = 2 ^ t * Y ∧ U32s wr.heap.size wr x (digs g) ∧ U32s wr.heap.size wr y (digs Y) ∧ Ext w2 wr)
   case atStart => exact ⟨Y0, 0, rfl, Nat.pos_of_ne_zero Hx0.out, Nat.pos_of_ne_zero Hy0.out, by simp, by simp, HA2.out, HBn2.out, Ext.refl _⟩
   case round =>
    obtain ⟨Y, t, rfl, hX, hY, hXt, hYt, hux, huy, hx⟩ := hrel
    obtain ⟨bx, ox, nx, cx, dx, rfl, hnx, hnx0, hcx, hdx2, hdx⟩ := first_digit hux hX
    obtain ⟨by_, oy, ny, cy, dy, rfl, hny, hny0, hcy, hdy2, hdy⟩ := first_digit huy hY
    have Hux := Lib.hid hux
    have Huy := Lib.hid huy
    have HxE := Lib.hid hx
    have HXt := Lib.hid hXt
    have HYt := Lib.hid hYt
    have HX := Lib.hid hX
    have HY := Lib.hid hY
    have hXl : gk < B32 ^ 64 := Nat.lt_of_le_of_lt (by rw [hXt]; exact Nat.le_mul_of_pos_left _ (Nat.pow_pos (by decide))) Hlx.out
    have hYl : Y < B32 ^ 64 := Nat.lt_of_le_of_lt (by rw [hYt]; exact Nat.le_mul_of_pos_left _ (Nat.pow_pos (by decide))) Hly.out
    have HXl := Lib.hid hXl
    have HYl := Lib.hid hYl
    have Ht : Hid (t < 2048) := by
     have h1 := Hlx.out
     rw [pow32, hXt] at h1
     have h2 := two_bound (n := 32 * 64) hX h1
     show t < 2048
     omega
    have hdx' : (dx : Int) % 2 = ((dx % 2 : Nat) : Int) := by omega
    have hdy' : (dy : Int) % 2 = ((dy % 2 : Nat) : Int) := by omega
    have Hnx := Lib.hid hnx
    have Hny := Lib.hid hny
    have Hpx := Lib.hid hdx2
    have Hpy := Lib.hid hdy2
    clear hux huy hx hXt hYt hX hY hXl hYl hnx hny hdx2 hdy2
    by_cases he : dx % 2 = 0 ∧ dy % 2 = 0
    ·have hex : ((dx : Int) % 2 == 0) = true := by rw [hdx', he.1]; rfl
     have hey : ((dy : Int) % 2 == 0) = true := by rw [hdy', he.2]; rfl
     have He := Lib.hid he
     have HH := Lib.hid (half_digs _ gk wr Hux.out HX.out HXl.out)
     clear he hdx' hdy'
     go_wp2_with fail
     refine HH.out.mono ?_
     rintro e wa ⟨vx, rfl, hua, hxa⟩
     have Hua := Lib.hid hua
     have Hxa := Lib.hid hxa
     have HH2 := Lib.hid (half_digs _ Y wa (hxa.u32s Huy.out) HY.out HYl.out)
     clear hua hxa
     go_wp2_with fail
     refine HH2.out.mono ?_
     rintro e wb ⟨vy, rfl, hub, hxb⟩
     have Hub := Lib.hid hub
     have Hxb := Lib.hid hxb
     have ht1 : (t : Int) < 2048 := by have := Ht.out; omega
     clear hub hxb
     go_wp2_with fail
     go_roundg (gk / 2)
     case measure => have := HX.out; omega
     case rel =>
      have h1 := HX.out
      have h2 := HY.out
      have h3 := He.out
      have h4 := Hpx.out
      have h5 := Hpy.out
      refine ⟨Y / 2, t + 1, by go_num, by omega, by omega, ?_, ?_, Hxb.out.u32s Hua.out, Hub.out, (HxE.out.trans Hxa.out).trans Hxb.out⟩
      ·rw [HXt.out]; exact two_step t gk (by omega)
      ·rw [HYt.out]; exact two_step t Y (by omega)
    ·have hodd : Hid (gk % 2 = 1 ∨ Y % 2 = 1) := by
      show _ ∨ _
      have h4 := Hpx.out
      have h5 := Hpy.out
      omega
     obtain ⟨G, hG⟩ : ∃ G, G = Nat.gcd gk Y := ⟨_, rfl⟩
     have HGodd : Hid (G % 2 = 1) := by rw [hG]; exact gcd_odd hodd.out
     have HOS : Hid (OddSame gk Y G) := by rw [hG]; exact OddSame.start gk Y
     have HGt : Hid (Nat.gcd X0 Y0 = 2 ^ t * G) := by rw [hG]; rw [HXt.out, HYt.out]; exact gcd_twos t gk Y
     have hcond : ((dx : Int) % 2 == 0) = false ∨ ((dx : Int) % 2 == 0) = true ∧ ((dy : Int) % 2 == 0) = false := by
      rcases Nat.mod_two_eq_zero_or_one dx with e1 | e1
      ·right
       have e2 : dy % 2 = 1 := by omega
       rw [hdx', hdy', e1, e2]
       exact ⟨rfl, rfl⟩
      ·left
       rw [hdx', e1]
       rfl
     obtain ⟨A, hA⟩ : ∃ A, A = gk := ⟨_, rfl⟩
     rw [← hA] at HOS Hux HXl HX HXt Hnx Hpx
     clear he hdx' hdy' hG hA
     rcases hcond with hex | ⟨hex, hey⟩
     ·go_wp2_with fail
      go_loopg [6, 7] (A + Y) (fun g x y wq => ∃ X Y : Nat, g = X + Y ∧ X < B32 ^ 64 ∧ Y < B32 ^ 64 ∧ 0 < Y ∧ OddSame X Y G ∧ (X = 0 → Y % 2 = 1) ∧ U32s wq.heap.size wq x (digs X) ∧ U32s wq.heap.size wq y (digs Y) ∧ Ext w2 wq)
      case atStart => exact ⟨A, Y, rfl, HXl.out, HYl.out, HY.out, HOS.out, fun e => by have := HX.out; omega, Hux.out, Huy.out, HxE.out⟩
      case round =>
       obtain ⟨X1, Y1, hg, hX1l, hY1l, hY1, hO1, hz1, hu1, hv1, hx1⟩ := hrel
       have HX1l := Lib.hid hX1l
       have HY1l := Lib.hid hY1l
       have HY1 := Lib.hid hY1
       have HO1 := Lib.hid hO1
       have HU1 := Lib.hid hu1
       have HV1 := Lib.hid hv1
       have HE1 := Lib.hid hx1
       have HG1' := Lib.hid hg
       clear hX1l hY1l hY1 hO1 hx1 hg
       by_cases hX1 : X1 = 0
       ·have HYG : Hid (Y1 = G) := by
         have h1 := HO1.out
         rw [hX1] at h1
         exact h1.fin (hz1 hX1) HGodd.out
        obtain ⟨px, lx, cx1, rfl, hlx0⟩ : ∃ px lx cx1, _ = Value.slice px lx cx1 ∧ lx = 0 := by
         obtain ⟨px, cx1, e, -, -⟩ := hu1
         exact ⟨px, (digs X1).length, cx1, e, by rw [hX1]; exact digs_zero_len⟩
        subst hlx0
        have hlim : 2 ^ t * G < B32 ^ 64 := by rw [← HGt.out]; exact gcd_lim Hlx.out Hly.out
        have Hlim := Lib.hid hlim
        clear hX1 hz1 hu1 hv1 hlim
        go_wp2_with fail
        go_loopg [7, 9] t (fun g y k wq => ∃ z : Nat, z + g = t ∧ k = .int .i64 (z : Int) ∧ U32s wq.heap.size wq y (digs (2 ^ z * G)) ∧ Ext w2 wq)
        case atStart => exact ⟨0, by omega, rfl, by rw [Nat.pow_zero, Nat.one_mul, ← HYG.out]; exact HV1.out, HE1.out⟩
        case round =>
         obtain ⟨z, hzt, rfl, huz, hxz⟩ := hrel
         have Huz := Lib.hid huz
         have Hxz := Lib.hid hxz
         have Hzt := Lib.hid hzt
         clear huz hxz
         by_cases hzlt : z < t
         ·have hzb : 2 ^ z * G < B32 ^ 64 := Nat.lt_of_le_of_lt (Nat.mul_le_mul_right _ (Nat.pow_le_pow_right (by decide) (Nat.le_of_lt hzlt))) Hlim.out
          have HP := Lib.hid (plus_digs _ _ (2 ^ z * G) (2 ^ z * G) _ Huz.out Huz.out hzb hzb)
          have hzI : (z : Int) < (t : Int) := by omega
          have Hzlt := Lib.hid hzlt
          have hz2 : (z : Int) < 2048 := by have := Ht.out; omega
          clear hzb hzlt hzt
          go_wp2_with fail
          refine HP.out.mono ?_
          rintro e wz ⟨vz, rfl, huz2, hxz2⟩
          have Huz2 := Lib.hid huz2
          have Hxz2 := Lib.hid hxz2
          clear huz2 hxz2
          go_wp2_with fail
          go_roundg (gk - 1)
          case measure => have := Hzt.out; have := Hzlt.out; omega
          case rel =>
           refine ⟨z + 1, by have := Hzt.out; have := Hzlt.out; omega, by go_num, ?_, Hxz.out.trans Hxz2.out⟩
           have e : 2 ^ (z + 1) * G = 2 ^ z * G + 2 ^ z * G := dbl z G
           rw [e]; exact Huz2.out
         ·have hzt' : z = t := by omega
          subst hzt'
          have hzI : ¬ ((z : Int) < (z : Int)) := by omega
          have HM := Lib.hid (made_digs false _ (2 ^ z * G) _ Huz.out Hlim.out)
          have hnn : decide (madeZ false (2 ^ z * G) < 0) = false := madeF_nn _
          have hzz : madeZ false (2 ^ z * G) = ((Nat.gcd X0 Y0 : Nat) : Int) := by rw [HGt.out]; rfl
          rw [hnn, hzz] at HM
          clear hzlt hzt hnn hzz
          go_wp2_with fail
          refine HM.out.mono ?_
          rintro e wm ⟨pr, nr, cr, rfl, hzr, hxm⟩
          have Hzr := Lib.hid hzr
          have HGm := Lib.hid ((HG2.out.ext Hxz.out).ext hxm)
          have Hxm := Lib.hid hxm
          clear hzr hxm
          go_wp2_with (refine store_num rfl (.tmp 4) (.tmp 91) rfl (w.heap.size + 1 + 1) rfl false pr nr cr rfl _ _ HGm.out.r4 rfl ?_)
          exact ret_num rfl (w.heap.size + 1 + 1) rfl _ rfl _ _ _ _ _ (HGm.out.r4.setRow _) ⟨_, _, _, rfl, by rw [setRow_size]; exact Hzr.out.setNum HGm.out.r4 _, ext_setRow ((HB2.out.trans Hxz.out).trans Hxm.out) (by omega) _⟩
       ·obtain ⟨bx1, ox1, lx, cx1, dx1, rfl, hlx, hlx0, -, -, -⟩ := first_digit hu1 (Nat.pos_of_ne_zero hX1)
        have hlx1 : (0 : Int) < (lx : Int) := by omega
        have HX1 := Lib.hid (Nat.pos_of_ne_zero hX1)
        have Hlx1 := Lib.hid hlx
        have hlxb : decide (0 < lx) = true := by simp [hlx0]
        clear hX1 hz1 hu1 hv1 hlx hlx1
        go_wp2_with fail
        go_loopg [6] X1 (fun g x wq => 0 < g ∧ g ≤ X1 ∧ OddSame g Y1 G ∧ U32s wq.heap.size wq x (digs g) ∧ U32s wq.heap.size wq u7 (digs Y1) ∧ Ext w2 wq)
        case atStart => exact ⟨HX1.out, Nat.le_refl _, HO1.out, HU1.out, HV1.out, HE1.out⟩
        case round =>
         obtain ⟨hg0, hgX, hgO, hgu, hgv, hgx⟩ := hrel
         obtain ⟨b3, o3, l3, c3, d3, rfl, hl3, hl30, hc3, hd3, hd3b⟩ := first_digit hgu hg0
         have HgE := Lib.hid hgx
         have HgV := Lib.hid hgv
         have Hg0 := Lib.hid hg0
         have HgX := Lib.hid hgX
         have HgO := Lib.hid hgO
         have Hgu := Lib.hid hgu
         have Hgl : Hid (gk < B32 ^ 64) := Nat.lt_of_le_of_lt hgX HX1l.out
         have Hl3 := Lib.hid hl3
         have Hd3 := Lib.hid hd3
         have hd3' : (d3 : Int) % 2 = ((d3 % 2 : Nat) : Int) := by omega
         clear hgx hg0 hgX hgO hgu hgv hl3 hd3
         rcases Nat.mod_two_eq_zero_or_one d3 with he | he
         ·have hev : ((d3 : Int) % 2 == 0) = true := by rw [hd3', he]; rfl
          have HH := Lib.hid (half_digs _ gk _ Hgu.out Hg0.out Hgl.out)
          have He := Lib.hid he
          clear hd3' he
          go_wp2_with fail
          refine HH.out.mono ?_
          rintro e wh ⟨vh, rfl, huh, hxh⟩
          have Huh := Lib.hid huh
          have Hxh := Lib.hid hxh
          clear huh hxh
          go_wp2_with fail
          go_roundg (gk / 2)
          case measure => have := Hg0.out; omega
          case rel =>
           have h1 := Hg0.out
           have h2 := HgX.out
           have h3 := He.out
           have h4 := Hd3.out
           exact ⟨by omega, by omega, HgO.out.halfX (by omega), Huh.out, Hxh.out.u32s HgV.out, HgE.out.trans Hxh.out⟩
         ·have hev : ((d3 : Int) % 2 == 0) = false := by rw [hd3', he]; rfl
          obtain ⟨X2, hX2⟩ : ∃ X2, X2 = gk := ⟨_, rfl⟩
          rw [← hX2] at Hg0 HgX HgO Hgu Hgl Hl3 Hd3
          have HXodd : Hid (X2 % 2 = 1) := by show _ = _; rw [← Hd3.out]; exact he
          clear hX2 hd3' he
          go_wp2_with fail
          go_loopg [7] Y1 (fun g y wq => 0 < g ∧ g ≤ Y1 ∧ OddSame X2 g G ∧ U32s wq.heap.size wq y (digs g) ∧ U32s wq.heap.size wq (.slice (some ⟨b3, o3, none⟩) l3 c3) (digs X2) ∧ Ext w2 wq)
          case atStart => exact ⟨HY1.out, Nat.le_refl _, HgO.out, HgV.out, Hgu.out, HgE.out⟩
          case round =>
           obtain ⟨hk0, hkY, hkO, hku, hkx, hke⟩ := hrel
           obtain ⟨b4, o4, l4, c4, d4, rfl, hl4, hl40, hc4, hd4, hd4b⟩ := first_digit hku hk0
           have HkE := Lib.hid hke
           have Hk0 := Lib.hid hk0
           have HkY := Lib.hid hkY
           have HkO := Lib.hid hkO
           have Hku := Lib.hid hku
           have Hkx := Lib.hid hkx
           have Hkl : Hid (gk < B32 ^ 64) := Nat.lt_of_le_of_lt hkY HY1l.out
           have Hd4 := Lib.hid hd4
           have hd4' : (d4 : Int) % 2 = ((d4 % 2 : Nat) : Int) := by omega
           clear hke hk0 hkY hkO hku hkx hl4 hd4
           rcases Nat.mod_two_eq_zero_or_one d4 with he4 | he4
           ·have hev4 : ((d4 : Int) % 2 == 0) = true := by rw [hd4', he4]; rfl
            have HH := Lib.hid (half_digs _ gk _ Hku.out Hk0.out Hkl.out)
            have He4 := Lib.hid he4
            clear hd4' he4
            go_wp2_with fail
            refine HH.out.mono ?_
            rintro e wh ⟨vh, rfl, huh, hxh⟩
            have Huh := Lib.hid huh
            have Hxh := Lib.hid hxh
            clear huh hxh
            go_wp2_with fail
            go_roundg (gk / 2)
            case measure => have := Hk0.out; omega
            case rel =>
             have h1 := Hk0.out
             have h2 := HkY.out
             have h3 := He4.out
             have h4 := Hd4.out
             exact ⟨by omega, by omega, HkO.out.halfY (by omega), Huh.out, Hxh.out.u32s Hkx.out, HkE.out.trans Hxh.out⟩
           ·have hev4 : ((d4 : Int) % 2 == 0) = false := by rw [hd4', he4]; rfl
            have HYodd : Hid (gk % 2 = 1) := by show _ = _; rw [← Hd4.out]; exact he4
            have HC := Lib.hid (comp_digs _ _ X2 gk _ Hkx.out Hku.out)
            clear hd4' he4
            by_cases hlt : X2 < gk
            ·have hs : sgn X2 gk = -1 := sgn_lt hlt
             rw [hs] at HC
             have Hlt := Lib.hid hlt
             clear hs hlt
             go_wp2_with fail
             refine HC.out.mono ?_
             rintro e wc ⟨rfl, hxc⟩
             have Hxc := Lib.hid hxc
             have HM := Lib.hid (minus_digs _ _ gk X2 wc (hxc.u32s Hku.out) (hxc.u32s Hkx.out) Hkl.out (Nat.le_of_lt Hlt.out))
             clear hxc
             go_wp2_with fail
             refine HM.out.mono ?_
             rintro e wm ⟨vm, rfl, hum, hxm⟩
             have Hum := Lib.hid hum
             have Hxm := Lib.hid hxm
             clear hum hxm
             go_wp2_with fail
             go_roundg (gk - X2 + X2)
             case measure => have := HG1'.out; have := Hlt.out; have := HkY.out; have := HX1.out; omega
             case rel =>
              refine ⟨gk - X2, X2, rfl, Nat.lt_of_le_of_lt (Nat.sub_le _ _) Hkl.out, Hgl.out, Hg0.out, HkO.out.swap.sub (Nat.le_of_lt Hlt.out), fun _ => HXodd.out, Hum.out, (Hxc.out.trans Hxm.out).u32s Hkx.out, (HkE.out.trans Hxc.out).trans Hxm.out⟩
            ·obtain ⟨cv, hcv⟩ : ∃ cv, cv = sgn X2 gk := ⟨_, rfl⟩
             have hcv0 : ¬ (cv < 0) := by rw [hcv]; unfold sgn; rw [if_neg hlt]; split <;> omega
             rw [← hcv] at HC
             have Hlt := Lib.hid hlt
             clear hlt hcv
             go_wp2_with fail
             refine HC.out.mono ?_
             rintro e wc ⟨rfl, hxc⟩
             have Hxc := Lib.hid hxc
             have HM := Lib.hid (minus_digs _ _ X2 gk wc (hxc.u32s Hkx.out) (hxc.u32s Hku.out) Hgl.out (Nat.le_of_not_lt Hlt.out))
             clear hxc
             go_wp2_with fail
             refine HM.out.mono ?_
             rintro e wm ⟨vm, rfl, hum, hxm⟩
             have Hum := Lib.hid hum
             have Hxm := Lib.hid hxm
             clear hum hxm
             go_wp2_with fail
             go_roundg (X2 - gk + gk)
             case measure => have := HG1'.out; have := Hlt.out; have := HgX.out; have := Hk0.out; have := HY1.out; omega
             case rel =>
              refine ⟨X2 - gk, gk, rfl, Nat.lt_of_le_of_lt (Nat.sub_le _ _) Hgl.out, Hkl.out, Hk0.out, HkO.out.sub (Nat.le_of_not_lt Hlt.out), fun _ => HYodd.out, Hum.out, (Hxc.out.trans Hxm.out).u32s Hku.out, (HkE.out.trans Hxc.out).trans Hxm.out⟩
     ·go_wp2_with fail
      go_loopg [6, 7] (A + Y) (fun g x y wq => ∃ X Y : Nat, g = X + Y ∧ X < B32 ^ 64 ∧ Y < B32 ^ 64 ∧ 0 < Y ∧ OddSame X Y G ∧ (X = 0 → Y % 2 = 1) ∧ U32s wq.heap.size wq x (digs X) ∧ U32s wq.heap.size wq y (digs Y) ∧ Ext w2 wq)
      case atStart => exact ⟨A, Y, rfl, HXl.out, HYl.out, HY.out, HOS.out, fun e => by have := HX.out; omega, Hux.out, Huy.out, HxE.out⟩
      case round =>
       obtain ⟨X1, Y1, hg, hX1l, hY1l, hY1, hO1, hz1, hu1, hv1, hx1⟩ := hrel
       have HX1l := Lib.hid hX1l
       have HY1l := Lib.hid hY1l
       have HY1 := Lib.hid hY1
       have HO1 := Lib.hid hO1
       have HU1 := Lib.hid hu1
       have HV1 := Lib.hid hv1
       have HE1 := Lib.hid hx1
       have HG1' := Lib.hid hg
       clear hX1l hY1l hY1 hO1 hx1 hg
       by_cases hX1 : X1 = 0
       ·have HYG : Hid (Y1 = G) := by
         have h1 := HO1.out
         rw [hX1] at h1
         exact h1.fin (hz1 hX1) HGodd.out
        obtain ⟨px, lx, cx1, rfl, hlx0⟩ : ∃ px lx cx1, _ = Value.slice px lx cx1 ∧ lx = 0 := by
         obtain ⟨px, cx1, e, -, -⟩ := hu1
         exact ⟨px, (digs X1).length, cx1, e, by rw [hX1]; exact digs_zero_len⟩
        subst hlx0
        have hlim : 2 ^ t * G < B32 ^ 64 := by rw [← HGt.out]; exact gcd_lim Hlx.out Hly.out
        have Hlim := Lib.hid hlim
        clear hX1 hz1 hu1 hv1 hlim
        go_wp2_with fail
        go_loopg [7, 9] t (fun g y k wq => ∃ z : Nat, z + g = t ∧ k = .int .i64 (z : Int) ∧ U32s wq.heap.size wq y (digs (2 ^ z * G)) ∧ Ext w2 wq)
        case atStart => exact ⟨0, by omega, rfl, by rw [Nat.pow_zero, Nat.one_mul, ← HYG.out]; exact HV1.out, HE1.out⟩
        case round =>
         obtain ⟨z, hzt, rfl, huz, hxz⟩ := hrel
         have Huz := Lib.hid huz
         have Hxz := Lib.hid hxz
         have Hzt := Lib.hid hzt
         clear huz hxz
         by_cases hzlt : z < t
         ·have hzb : 2 ^ z * G < B32 ^ 64 := Nat.lt_of_le_of_lt (Nat.mul_le_mul_right _ (Nat.pow_le_pow_right (by decide) (Nat.le_of_lt hzlt))) Hlim.out
          have HP := Lib.hid (plus_digs _ _ (2 ^ z * G) (2 ^ z * G) _ Huz.out Huz.out hzb hzb)
          have hzI : (z : Int) < (t : Int) := by omega
          have Hzlt := Lib.hid hzlt
          have hz2 : (z : Int) < 2048 := by have := Ht.out; omega
          clear hzb hzlt hzt
          go_wp2_with fail
          refine HP.out.mono ?_
          rintro e wz ⟨vz, rfl, huz2, hxz2⟩
          have Huz2 := Lib.hid huz2
          have Hxz2 := Lib.hid hxz2
          clear huz2 hxz2
          go_wp2_with fail
          go_roundg (gk - 1)
          case measure => have := Hzt.out; have := Hzlt.out; omega
          case rel =>
           refine ⟨z + 1, by have := Hzt.out; have := Hzlt.out; omega, by go_num, ?_, Hxz.out.trans Hxz2.out⟩
           have e : 2 ^ (z + 1) * G = 2 ^ z * G + 2 ^ z * G := dbl z G
           rw [e]; exact Huz2.out
         ·have hzt' : z = t := by omega
          subst hzt'
          have hzI : ¬ ((z : Int) < (z : Int)) := by omega
          have HM := Lib.hid (made_digs false _ (2 ^ z * G) _ Huz.out Hlim.out)
          have hnn : decide (madeZ false (2 ^ z * G) < 0) = false := madeF_nn _
          have hzz : madeZ false (2 ^ z * G) = ((Nat.gcd X0 Y0 : Nat) : Int) := by rw [HGt.out]; rfl
          rw [hnn, hzz] at HM
          clear hzlt hzt hnn hzz
          go_wp2_with fail
          refine HM.out.mono ?_
          rintro e wm ⟨pr, nr, cr, rfl, hzr, hxm⟩
          have Hzr := Lib.hid hzr
          have HGm := Lib.hid ((HG2.out.ext Hxz.out).ext hxm)
          have Hxm := Lib.hid hxm
          clear hzr hxm
          go_wp2_with (refine store_num rfl (.tmp 4) (.tmp 91) rfl (w.heap.size + 1 + 1) rfl false pr nr cr rfl _ _ HGm.out.r4 rfl ?_)
          exact ret_num rfl (w.heap.size + 1 + 1) rfl _ rfl _ _ _ _ _ (HGm.out.r4.setRow _) ⟨_, _, _, rfl, by rw [setRow_size]; exact Hzr.out.setNum HGm.out.r4 _, ext_setRow ((HB2.out.trans Hxz.out).trans Hxm.out) (by omega) _⟩
       ·obtain ⟨bx1, ox1, lx, cx1, dx1, rfl, hlx, hlx0, -, -, -⟩ := first_digit hu1 (Nat.pos_of_ne_zero hX1)
        have hlx1 : (0 : Int) < (lx : Int) := by omega
        have HX1 := Lib.hid (Nat.pos_of_ne_zero hX1)
        have Hlx1 := Lib.hid hlx
        have hlxb : decide (0 < lx) = true := by simp [hlx0]
        clear hX1 hz1 hu1 hv1 hlx hlx1
        go_wp2_with fail
        go_loopg [6] X1 (fun g x wq => 0 < g ∧ g ≤ X1 ∧ OddSame g Y1 G ∧ U32s wq.heap.size wq x (digs g) ∧ U32s wq.heap.size wq u7 (digs Y1) ∧ Ext w2 wq)
        case atStart => exact ⟨HX1.out, Nat.le_refl _, HO1.out, HU1.out, HV1.out, HE1.out⟩
        case round =>
         obtain ⟨hg0, hgX, hgO, hgu, hgv, hgx⟩ := hrel
         obtain ⟨b3, o3, l3, c3, d3, rfl, hl3, hl30, hc3, hd3, hd3b⟩ := first_digit hgu hg0
         have HgE := Lib.hid hgx
         have HgV := Lib.hid hgv
         have Hg0 := Lib.hid hg0
         have HgX := Lib.hid hgX
         have HgO := Lib.hid hgO
         have Hgu := Lib.hid hgu
         have Hgl : Hid (gk < B32 ^ 64) := Nat.lt_of_le_of_lt hgX HX1l.out
         have Hl3 := Lib.hid hl3
         have Hd3 := Lib.hid hd3
         have hd3' : (d3 : Int) % 2 = ((d3 % 2 : Nat) : Int) := by omega
         clear hgx hg0 hgX hgO hgu hgv hl3 hd3
         rcases Nat.mod_two_eq_zero_or_one d3 with he | he
         ·have hev : ((d3 : Int) % 2 == 0) = true := by rw [hd3', he]; rfl
          have HH := Lib.hid (half_digs _ gk _ Hgu.out Hg0.out Hgl.out)
          have He := Lib.hid he
          clear hd3' he
          go_wp2_with fail
          refine HH.out.mono ?_
          rintro e wh ⟨vh, rfl, huh, hxh⟩
          have Huh := Lib.hid huh
          have Hxh := Lib.hid hxh
          clear huh hxh
          go_wp2_with fail
          go_roundg (gk / 2)
          case measure => have := Hg0.out; omega
          case rel =>
           have h1 := Hg0.out
           have h2 := HgX.out
           have h3 := He.out
           have h4 := Hd3.out
           exact ⟨by omega, by omega, HgO.out.halfX (by omega), Huh.out, Hxh.out.u32s HgV.out, HgE.out.trans Hxh.out⟩
         ·have hev : ((d3 : Int) % 2 == 0) = false := by rw [hd3', he]; rfl
          obtain ⟨X2, hX2⟩ : ∃ X2, X2 = gk := ⟨_, rfl⟩
          rw [← hX2] at Hg0 HgX HgO Hgu Hgl Hl3 Hd3
          have HXodd : Hid (X2 % 2 = 1) := by show _ = _; rw [← Hd3.out]; exact he
          clear hX2 hd3' he
          go_wp2_with fail
          go_loopg [7] Y1 (fun g y wq => 0 < g ∧ g ≤ Y1 ∧ OddSame X2 g G ∧ U32s wq.heap.size wq y (digs g) ∧ U32s wq.heap.size wq (.slice (some ⟨b3, o3, none⟩) l3 c3) (digs X2) ∧ Ext w2 wq)
          case atStart => exact ⟨HY1.out, Nat.le_refl _, HgO.out, HgV.out, Hgu.out, HgE.out⟩
          case round =>
           obtain ⟨hk0, hkY, hkO, hku, hkx, hke⟩ := hrel
           obtain ⟨b4, o4, l4, c4, d4, rfl, hl4, hl40, hc4, hd4, hd4b⟩ := first_digit hku hk0
           have HkE := Lib.hid hke
           have Hk0 := Lib.hid hk0
           have HkY := Lib.hid hkY
           have HkO := Lib.hid hkO
           have Hku := Lib.hid hku
           have Hkx := Lib.hid hkx
           have Hkl : Hid (gk < B32 ^ 64) := Nat.lt_of_le_of_lt hkY HY1l.out
           have Hd4 := Lib.hid hd4
           have hd4' : (d4 : Int) % 2 = ((d4 % 2 : Nat) : Int) := by omega
           clear hke hk0 hkY hkO hku hkx hl4 hd4
           rcases Nat.mod_two_eq_zero_or_one d4 with he4 | he4
           ·have hev4 : ((d4 : Int) % 2 == 0) = true := by rw [hd4', he4]; rfl
            have HH := Lib.hid (half_digs _ gk _ Hku.out Hk0.out Hkl.out)
            have He4 := Lib.hid he4
            clear hd4' he4
            go_wp2_with fail
            refine HH.out.mono ?_
            rintro e wh ⟨vh, rfl, huh, hxh⟩
            have Huh := Lib.hid huh
            have Hxh := Lib.hid hxh
            clear huh hxh
            go_wp2_with fail
            go_roundg (gk / 2)
            case measure => have := Hk0.out; omega
            case rel =>
             have h1 := Hk0.out
             have h2 := HkY.out
             have h3 := He4.out
             have h4 := Hd4.out
             exact ⟨by omega, by omega, HkO.out.halfY (by omega), Huh.out, Hxh.out.u32s Hkx.out, HkE.out.trans Hxh.out⟩
           ·have hev4 : ((d4 : Int) % 2 == 0) = false := by rw [hd4', he4]; rfl
            have HYodd : Hid (gk % 2 = 1) := by show _ = _; rw [← Hd4.out]; exact he4
            have HC := Lib.hid (comp_digs _ _ X2 gk _ Hkx.out Hku.out)
            clear hd4' he4
            by_cases hlt : X2 < gk
            ·have hs : sgn X2 gk = -1 := sgn_lt hlt
             rw [hs] at HC
             have Hlt := Lib.hid hlt
             clear hs hlt
             go_wp2_with fail
             refine HC.out.mono ?_
             rintro e wc ⟨rfl, hxc⟩
             have Hxc := Lib.hid hxc
             have HM := Lib.hid (minus_digs _ _ gk X2 wc (hxc.u32s Hku.out) (hxc.u32s Hkx.out) Hkl.out (Nat.le_of_lt Hlt.out))
             clear hxc
             go_wp2_with fail
             refine HM.out.mono ?_
             rintro e wm ⟨vm, rfl, hum, hxm⟩
             have Hum := Lib.hid hum
             have Hxm := Lib.hid hxm
             clear hum hxm
             go_wp2_with fail
             go_roundg (gk - X2 + X2)
             case measure => have := HG1'.out; have := Hlt.out; have := HkY.out; have := HX1.out; omega
             case rel =>
              refine ⟨gk - X2, X2, rfl, Nat.lt_of_le_of_lt (Nat.sub_le _ _) Hkl.out, Hgl.out, Hg0.out, HkO.out.swap.sub (Nat.le_of_lt Hlt.out), fun _ => HXodd.out, Hum.out, (Hxc.out.trans Hxm.out).u32s Hkx.out, (HkE.out.trans Hxc.out).trans Hxm.out⟩
            ·obtain ⟨cv, hcv⟩ : ∃ cv, cv = sgn X2 gk := ⟨_, rfl⟩
             have hcv0 : ¬ (cv < 0) := by rw [hcv]; unfold sgn; rw [if_neg hlt]; split <;> omega
             rw [← hcv] at HC
             have Hlt := Lib.hid hlt
             clear hlt hcv
             go_wp2_with fail
             refine HC.out.mono ?_
             rintro e wc ⟨rfl, hxc⟩
             have Hxc := Lib.hid hxc
             have HM := Lib.hid (minus_digs _ _ X2 gk wc (hxc.u32s Hkx.out) (hxc.u32s Hku.out) Hgl.out (Nat.le_of_not_lt Hlt.out))
             clear hxc
             go_wp2_with fail
             refine HM.out.mono ?_
             rintro e wm ⟨vm, rfl, hum, hxm⟩
             have Hum := Lib.hid hum
             have Hxm := Lib.hid hxm
             clear hum hxm
             go_wp2_with fail
             go_roundg (X2 - gk + gk)
             case measure => have := HG1'.out; have := Hlt.out; have := HgX.out; have := Hk0.out; have := HY1.out; omega
             case rel =>
              refine ⟨X2 - gk, gk, rfl, Nat.lt_of_le_of_lt (Nat.sub_le _ _) Hgl.out, Hkl.out, Hk0.out, HkO.out.sub (Nat.le_of_not_lt Hlt.out), fun _ => HYodd.out, Hum.out, (Hxc.out.trans Hxm.out).u32s Hku.out, (HkE.out.trans Hxc.out).trans Hxm.out⟩
end Go.Proofs.YtgnogdncoljldaaGreat
namespace Go.Proofs.YtgnogdncoljldaaGreat
open Go Go.RowKit Go.Shelf
theorem of_shr {a : Nat} (h : a < 18446744073709551616) : (a : Int) / 4294967296 % 4294967296 = ((a / B32 : Nat) : Int) := by
 unfold B32; omega
theorem of_lo {a : Nat} : (a : Int) % 4294967296 = ((a % B32 : Nat) : Int) := by
 unfold B32; omega
theorem lohi_val {a : Nat} : val [a % B32, a / B32] = a := by
 simp only [val]
 have := Nat.mod_add_div a B32
 omega
theorem lohi_digits {a : Nat} (h : a < 18446744073709551616) : Digits [a % B32, a / B32] := by
 refine Digits.cons.2 ⟨Nat.mod_lt _ B32_pos, Digits.cons.2 ⟨?_, Digits.nil⟩⟩
 unfold B32; omega
set_option maxRecDepth 100000 in
set_option maxHeartbeats 4000000 in
theorem rof_ok (z : Int) (h1 : -9223372036854775808 ≤ z) (h2 : z ≤ 9223372036854775807) (w : World) :
  Calls Tryz.prog 30 #[.int .i64 z] w (Gives1 w z (decide (z < 0))) := by
 obtain ⟨a, ha⟩ : ∃ a, a = z.natAbs := ⟨_, rfl⟩
 have hal : a < 18446744073709551616 := by omega
 have ha64 : val [a % B32, a / B32] < B32 ^ 64 := by rw [lohi_val]; have := pow64; omega
 have hmz : ∀ neg, neg = decide (z < 0) → madeZ neg (val [a % B32, a / B32]) = z := by
  rintro neg rfl
  rw [lohi_val]
  unfold madeZ
  by_cases h : z < 0
  ·simp [h]; omega
  ·simp [h]; omega
 have hw1 : z < 0 → IntKind.u64.wrap (-IntKind.u64.wrap z) = (a : Int) := fun h => by rw [of_wrap h h1, ha]
 have hw0 : ¬ z < 0 → IntKind.u64.wrap z = (a : Int) := fun h => by rw [of_wrap0 (by omega) h2, ha]
 have hdg := lohi_digits hal
 have Hlo : Hid ((a : Int) % 4294967296 = ((a % B32 : Nat) : Int)) := of_lo
 have Hhi : Hid ((a : Int) / 4294967296 % 4294967296 = ((a / B32 : Nat) : Int)) := of_shr hal
 have H64 := Lib.hid ha64
 have Hmz := Lib.hid hmz
 have Hdg := Lib.hid hdg
 clear hal ha64 hmz hdg ha h1 h2
 by_cases hn : z < 0
 ·have hz := hw1 hn
  have hdn : decide (z < 0) = true := by simp [hn]
  rw [hdn] at Hmz ⊢
  have Hhn := Lib.hid hn
  clear hw1 hw0
  obtain ⟨W2, hW2⟩ : ∃ W2, W2 = (w.alloc (.cells #[.bool false, .slice none 0 0] 36)).alloc (.cells #[.int .u32 ((a : Int) % 4294967296), .int .u32 ((a : Int) / 4294967296 % 4294967296)] 118) := ⟨_, rfl⟩
  have hx2 : Ext w W2 := by rw [hW2]; exact (Ext.alloc _ _).trans (Ext.alloc _ _)
  have hr2 : RowAt W2 w.heap.size 36 (numCells false none 0 0) := by rw [hW2]; exact (RowAt.new w _ _).alloc _
  have hr3 : RowAt W2 (w.heap.size + 1) 118 (arr [a % B32, a / B32]) := by
   have e : #[Value.int .u32 ((a : Int) % 4294967296), Value.int .u32 ((a : Int) / 4294967296 % 4294967296)] = arr [a % B32, a / B32] := by rw [Hlo.out, Hhi.out]; rfl
   rw [hW2, ← e]; exact RowAt.new' _ _ (by simp)
  have hm := made_gives true (some ⟨w.heap.size + 1, 0, none⟩) 2 [a % B32, a / B32] W2 (u32s_arr (cap := 2) hr3 hr3.lt (by show 2 ≤ maxLen; unfold maxLen; decide)) (.inr (Nat.le_refl _)) Hdg.out H64.out
  rw [Hmz.out true rfl, hdn] at hm
  have Hm := Lib.hid hm
  have Hx2 := Lib.hid hx2
  have Hr2 := Lib.hid hr2
  have HW2 := Lib.hid hW2
  clear hm hx2 hr2 hr3 hW2 hdn
  go_enter Tryz.func30, Tryz.ntmps30
  go_wp2_with fail
  rw [← HW2.out]
  refine Hm.out.mono ?_
  rintro e w3 ⟨p3, n3, c3, rfl, hz3, hx3⟩
  have Hz := Lib.hid hz3
  have Hx := Lib.hid hx3
  have hs1 := Below.size hx3
  have hlt := Hr2.out.lt
  clear hz3 hx3
  go_wp2_with (first | (refine store_num rfl (.tmp 4) (.tmp 22) rfl w3.heap.size rfl _ _ _ _ rfl _ _ (RowAt.new' _ _ rfl) rfl ?_) | (refine load_num rfl (.tmp 4) rfl w3.heap.size rfl _ _ _ _ _ ((RowAt.new' _ _ rfl).setRow _) ?_) | (refine store_num rfl (.tmp 2) (.tmp 24) rfl w.heap.size rfl _ _ _ _ rfl _ _ (((Hx.out.row Hr2.out).alloc _).setRowOther _ (by omega)) rfl ?_))
  exact ret_num1 rfl w.heap.size rfl _ _ _ _ _ ((((Hx.out.row Hr2.out).alloc _).setRowOther _ (by omega)).setRow _) (made_tail Hz.out Hx.out Hr2.out Hx2.out)
 ·have hz := hw0 hn
  have hdn : decide (z < 0) = false := by simp; omega
  rw [hdn] at Hmz ⊢
  have Hhn := Lib.hid hn
  clear hw1 hw0
  obtain ⟨W2, hW2⟩ : ∃ W2, W2 = (w.alloc (.cells #[.bool false, .slice none 0 0] 36)).alloc (.cells #[.int .u32 ((a : Int) % 4294967296), .int .u32 ((a : Int) / 4294967296 % 4294967296)] 118) := ⟨_, rfl⟩
  have hx2 : Ext w W2 := by rw [hW2]; exact (Ext.alloc _ _).trans (Ext.alloc _ _)
  have hr2 : RowAt W2 w.heap.size 36 (numCells false none 0 0) := by rw [hW2]; exact (RowAt.new w _ _).alloc _
  have hr3 : RowAt W2 (w.heap.size + 1) 118 (arr [a % B32, a / B32]) := by
   have e : #[Value.int .u32 ((a : Int) % 4294967296), Value.int .u32 ((a : Int) / 4294967296 % 4294967296)] = arr [a % B32, a / B32] := by rw [Hlo.out, Hhi.out]; rfl
   rw [hW2, ← e]; exact RowAt.new' _ _ (by simp)
  have hm := made_gives false (some ⟨w.heap.size + 1, 0, none⟩) 2 [a % B32, a / B32] W2 (u32s_arr (cap := 2) hr3 hr3.lt (by show 2 ≤ maxLen; unfold maxLen; decide)) (.inr (Nat.le_refl _)) Hdg.out H64.out
  rw [Hmz.out false rfl, hdn] at hm
  have Hm := Lib.hid hm
  have Hx2 := Lib.hid hx2
  have Hr2 := Lib.hid hr2
  have HW2 := Lib.hid hW2
  clear hm hx2 hr2 hr3 hW2 hdn
  go_enter Tryz.func30, Tryz.ntmps30
  go_wp2_with fail
  rw [← HW2.out]
  refine Hm.out.mono ?_
  rintro e w3 ⟨p3, n3, c3, rfl, hz3, hx3⟩
  have Hz := Lib.hid hz3
  have Hx := Lib.hid hx3
  have hs1 := Below.size hx3
  have hlt := Hr2.out.lt
  clear hz3 hx3
  go_wp2_with (first | (refine store_num rfl (.tmp 4) (.tmp 22) rfl w3.heap.size rfl _ _ _ _ rfl _ _ (RowAt.new' _ _ rfl) rfl ?_) | (refine load_num rfl (.tmp 4) rfl w3.heap.size rfl _ _ _ _ _ ((RowAt.new' _ _ rfl).setRow _) ?_) | (refine store_num rfl (.tmp 2) (.tmp 24) rfl w.heap.size rfl _ _ _ _ rfl _ _ (((Hx.out.row Hr2.out).alloc _).setRowOther _ (by omega)) rfl ?_))
  exact ret_num1 rfl w.heap.size rfl _ _ _ _ _ ((((Hx.out.row Hr2.out).alloc _).setRowOther _ (by omega)).setRow _) (made_tail Hz.out Hx.out Hr2.out Hx2.out)
end Go.Proofs.YtgnogdncoljldaaGreat
namespace Go.Proofs.YtgnogdncoljldaaGreat
open Go Go.RowKit Go.Shelf
def rootCells (a s : Int) (nn : Bool) (p : Option Addr) (n c : Nat) (nd : Bool) (q : Option Addr) (m e : Nat) : Array Value := #[.int .i64 a, .int .i64 s, .bool nn, .slice p n c, .bool nd, .slice q m e]
section
variable {W : World} {g : Nat} {t : TypeId} {a s : Int} {nn nd : Bool} {p q : Option Addr} {n c m e : Nat} (h : RowAt W g t (rootCells a s nn p n c nd q m e))
include h
end
section
variable {o : Oper} {b : Act} {w : World}
end
def RootV (w : World) (v : Value) (a s N D : Int) : Prop :=
 ∃ p n c q m e, v = .agg #[.int .i64 a, .int .i64 s, .bool false, .slice p n c, .bool false, .slice q m e] ∧ ZNum w.heap.size w (.agg #[.bool false, .slice p n c]) N ∧ ZNum w.heap.size w (.agg #[.bool false, .slice q m e]) D
theorem RootV.ext {w w' : World} {v : Value} {a s N D : Int} (h : RootV w v a s N D) (hx : Ext w w') : RootV w' v a s N D := by
 obtain ⟨p, n, c, q, m, e, rfl, hn, hd⟩ := h
 exact ⟨p, n, c, q, m, e, rfl, hx.num hn, hx.num hd⟩
end Go.Proofs.YtgnogdncoljldaaGreat
namespace Go.Proofs.YtgnogdncoljldaaGreat
open Go Go.RowKit Go.Shelf
theorem catch_idle (p : Addr) (w : World) :
  CallsD Tryz.prog 108 #[.pointer (some p)] .returning w fun e u' w' => e = .returned (.tuple #[]) ∧ u' = .returning ∧ w' = w := by
 refine callsD_of_wpS Tryz.func108 rfl fun c₀ cs hu => ?_
 apply wpS_seq
 apply wpS_region
 simp [wpOpsS, go_sem, recoverD, hu, Tryz.ntmps108, Exit.thenS]
 refine wpS_cond (t := false) (by simp [Act.eval, Array.replicate]) ?_
 simp only [Bool.false_eq_true, if_false]
 refine wpS_of_wp (wp_skip ?_)
 cases c₀
 simp_all [bodyPostS, results, Tryz.results108]
set_option maxRecDepth 100000 in
set_option maxHeartbeats 2000000 in
theorem settle_calls (F : FuncId) (cap : Array Value) (r : Int) (w : World) (hent : ∀ args w, (callFunc F args).run Tryz.prog w = .ok (.enter F args) w) (hF : ∀ W, Ext w W → Calls Tryz.prog F cap W fun e W' => e = .returned (.int .i64 r) ∧ Ext W W') :
  Calls Tryz.prog 60 #[.func (.func F) #[] cap] w fun e w' => e = .returned (.int .i64 r) ∧ Ext w w' := by
 have hmf : ∀ (fn : Fn) (first cap : Array Value) (w : World), (Instr.makeFunc fn first cap).run Tryz.prog w = .ok (.func fn first cap) w := fun _ _ _ _ => rfl
 obtain ⟨W1, hW1⟩ : ∃ W1, W1 = w.alloc (.cells #[.int .i64 0] 3) := ⟨_, rfl⟩
 have hx1 : Ext w W1 := by rw [hW1]; exact Ext.alloc _ _
 have hr1 : RowAt W1 w.heap.size 3 #[.int .i64 0] := by rw [hW1]; exact RowAt.new' _ _ (by simp)
 have HF := Lib.hid hF
 have Hx1 := Lib.hid hx1
 have Hr1 := Lib.hid hr1
 have HW1 := Lib.hid hW1
 clear hF hx1 hr1 hW1
 go_enter_defers Tryz.func60, Tryz.ntmps60
 go_wp2_with fail
 rw [← HW1.out]
 refine (HF.out W1 Hx1.out).mono ?_
 rintro e w1 ⟨rfl, hx⟩
 have R1 := Lib.hid (hx.row Hr1.out)
 have X1 := Lib.hid (Hx1.out.trans hx)
 have hc0 : w1.cell? ⟨w.heap.size, 0, none⟩ = some (.int .i64 0) := R1.out.cell 0
 have hz0 : w1.frozen? ⟨w.heap.size, 0, none⟩ = false := R1.out.frozen 0
 clear hx
 go_wp2
 refine leaves_cons (f := 108) (args := #[.pointer (some ⟨w.heap.size, 0, none⟩)]) (by simp) (by simp [go_sem]) ?_
 refine (catch_idle ⟨w.heap.size, 0, none⟩ _).mono ?_
 rintro e u' w'' ⟨rfl, rfl, rfl⟩
 simp [Leaves, Go.settle, results, Tryz.results60, go_sem, hc0]
 exact Below.setCell X1.out (p := ⟨w.heap.size, 0, none⟩) (Nat.le_refl _) _
end Go.Proofs.YtgnogdncoljldaaGreat
namespace Go.Proofs.YtgnogdncoljldaaGreat
open Go Go.RowKit Go.Shelf
end Go.Proofs.YtgnogdncoljldaaGreat

