/- NumDivs, as a walk. -/
import Derived.Test.YtdaipflgcgefgaaDoorDivsOps
import Derived.Test.YtdaipflgcgefgaaDoorRegT
import Derived.Deep.LoopGhost
set_option linter.all false
namespace Go.Proofs.YtdaipflgcgefgaaDoor
open Go Go.RowKit Go.Shelf

/-- A number whose digits are cut. -/
theorem cut_u32s {w : World} {p : Option Addr} {n c : Nat} {ds : List Nat} (h : U32s w.heap.size w (.slice p n c) ds) : U32s w.heap.size w (.slice p (min n 12) c) (ds.take 12) ∧ min n 12 = (ds.take 12).length := by
  obtain ⟨p', c', e, hl, hc⟩ := h
  cases e
  have hlen : (ds.take 12).length = min ds.length 12 := by rw [List.length_take, Nat.min_comm]
  refine ⟨⟨p, c, by rw [hlen], by rw [hlen]; omega, fun h0 => ?_⟩, hlen.symm⟩
  rw [hlen] at h0
  obtain ⟨b, off, e, hb, hcs⟩ := hc (by omega)
  refine ⟨b, off, e, hb, fun j hj => ?_⟩
  rw [hlen] at hj
  rw [hcs j (by omega), List.getElem?_take_of_lt (by omega)]

/-- What the operations hold that build the three pairs: g the block of the two slices. -/
def pF (g : Nat) (pa : Option Addr) (la ca : Nat) (pb : Option Addr) (lb cb : Nat) (z0 z1 : Int) (na : Bool) (p : Option Addr) (n c : Nat) (nb : Bool) (q : Option Addr) (m c2 : Nat) : Nat → Value → World → Prop
  | 0, v, _ => v = .pointer (some ⟨g, 0, none⟩)
  | 1, v, _ => v = .slice pa la ca
  | 2, v, W => ∃ p n c, v = .agg #[.bool (decide (z0 < 0)), .slice p n c] ∧ ZNum W.heap.size W (.agg #[.bool (decide (z0 < 0)), .slice p n c]) z0
  | 3, v, _ => v = .pointer (some ⟨g, 1, none⟩)
  | 4, v, _ => v = .slice pb lb cb
  | 5, v, W => ∃ p n c, v = .agg #[.bool (decide (z1 < 0)), .slice p n c] ∧ ZNum W.heap.size W (.agg #[.bool (decide (z1 < 0)), .slice p n c]) z1
  | 6, v, W => ∃ p1 n1 c1 p2 n2 c2, v = .agg #[.bool (decide (z0 < 0)), .slice p1 n1 c1, .bool (decide (z1 < 0)), .slice p2 n2 c2] ∧ ZNum W.heap.size W (.agg #[.bool (decide (z0 < 0)), .slice p1 n1 c1]) z0 ∧ ZNum W.heap.size W (.agg #[.bool (decide (z1 < 0)), .slice p2 n2 c2]) z1
  | 7, v, _ => v = .agg #[.bool na, .slice p n c]
  | 8, v, _ => v = .agg #[.bool nb, .slice q m c2]
  | 9, v, _ => v = .agg #[.bool na, .slice p n c, .bool nb, .slice q m c2]
  | 10, v, _ => v = .agg #[.bool na, .slice p n c]
  | 11, v, _ => v = .pointer (some ⟨g, 1, none⟩)
  | 12, v, _ => v = .slice pb lb cb
  | 13, v, W => ∃ p n c, v = .agg #[.bool (decide (z1 < 0)), .slice p n c] ∧ ZNum W.heap.size W (.agg #[.bool (decide (z1 < 0)), .slice p n c]) z1
  | 14, v, W => ∃ p2 n2 c2, v = .agg #[.bool na, .slice p n c, .bool (decide (z1 < 0)), .slice p2 n2 c2] ∧ ZNum W.heap.size W (.agg #[.bool (decide (z1 < 0)), .slice p2 n2 c2]) z1
  | 15, v, W => ∃ G, v = .slice (some ⟨G, 0, none⟩) 3 3 ∧ ∃ p1 n1 c1 p2 n2 c4 p3 n3 c3, RowAt W G 29 #[.bool (decide (z0 < 0)), .slice p1 n1 c1, .bool (decide (z1 < 0)), .slice p2 n2 c4, .bool na, .slice p n c, .bool nb, .slice q m c2, .bool na, .slice p n c, .bool (decide (z1 < 0)), .slice p3 n3 c3] ∧
      ZNum W.heap.size W (.agg #[.bool (decide (z0 < 0)), .slice p1 n1 c1]) z0 ∧ ZNum W.heap.size W (.agg #[.bool (decide (z1 < 0)), .slice p2 n2 c4]) z1 ∧ ZNum W.heap.size W (.agg #[.bool (decide (z1 < 0)), .slice p3 n3 c3]) z1
  | 16, v, _ => v = .int .i64 3
  | 17, v, _ => v = .int .i64 0
  | _, _, _ => True
theorem pF_mono {g : Nat} {pa : Option Addr} {la ca : Nat} {pb : Option Addr} {lb cb : Nat} {z0 z1 : Int} {na : Bool} {p : Option Addr} {n c : Nat} {nb : Bool} {q : Option Addr} {m c2 : Nat} {W W' : World} (hx : Ext W W') : ∀ (j : Nat) (v : Value), pF g pa la ca pb lb cb z0 z1 na p n c nb q m c2 j v W → pF g pa la ca pb lb cb z0 z1 na p n c nb q m c2 j v W'
  | 0, _, h | 1, _, h | 3, _, h | 4, _, h | 7, _, h | 8, _, h | 9, _, h | 10, _, h | 11, _, h | 12, _, h | 16, _, h | 17, _, h => h
  | 2, _, ⟨p, n, c, e, hz⟩ => ⟨p, n, c, e, hx.num hz⟩
  | 5, _, ⟨p, n, c, e, hz⟩ => ⟨p, n, c, e, hx.num hz⟩
  | 13, _, ⟨p, n, c, e, hz⟩ => ⟨p, n, c, e, hx.num hz⟩
  | 6, _, ⟨p1, n1, c1, p2, n2, c2, e, hz, hy⟩ => ⟨p1, n1, c1, p2, n2, c2, e, hx.num hz, hx.num hy⟩
  | 14, _, ⟨p, n, c, e, hz⟩ => ⟨p, n, c, e, hx.num hz⟩
  | 15, _, ⟨G, e, p1, n1, c1, p2, n2, c4, p3, n3, c3, hr, a, b, d⟩ => ⟨G, e, p1, n1, c1, p2, n2, c4, p3, n3, c3, hx.row hr, hx.num a, hx.num b, hx.num d⟩
  | _ + 18, _, _ => trivial

/-- What the operations hold that compare: all is equal. -/
def divF (g9 : Nat) (A B C E G H X : Value) (ok okg : Bool) (txt : ByteArray) : Nat → Value → Prop
  | 0, v => v = A
  | 1, v => v = C
  | 2, v => v = .bool true
  | 3, v => v = .bool false
  | 4, v => v = .bool false
  | 5, v => v = B
  | 6, v => v = E
  | 7, v => v = .bool true
  | 8, v => v = .bool false
  | 9, v => v = .bool false
  | 10, v => v = .bool false
  | 11, v => v = .bool ok
  | 12, v => v = .bool ok
  | 13, v => v = .bool false
  | 14, v => v = .bool false
  | 15, v => v = .bool false
  | 16, v => v = G
  | 17, v => v = H
  | 18, v => v = .bool true
  | 19, v => v = .bool false
  | 20, v => v = .bool false
  | 21, v => v = .bool false
  | 22, v => v = .bool okg
  | 23, v => v = .bool okg
  | 24, v => v = .bool false
  | 25, v => v = .bool false
  | 26, v => v = .bool false
  | 27, v => v = .pointer (some ⟨g9, 0, none⟩)
  | 28, v => v = X
  | 29, v => v = .string txt
  | 30, v => v = .pointer (some ⟨g9, 0, none⟩)
  | 31, v => v = X
  | 32, v => v = .string txt
  | 33, v => v = .bool false
  | 34, v => v = .bool false
  | _, _ => True
theorem run_not {o : Oper} {a : Act} {w : World} (x : Operand) (ho : o.op = .unOp .not 4 x) (b : Bool) (hx : a.eval x = .bool b) : (execOp a.eval o).run Tryd.prog w = .ok (.value (.bool (!b))) w := by
  unfold execOp
  simp only [ho, hx]
  simp [go_sem]
theorem run_neq_b {o : Oper} {a : Act} {w : World} (x y : Operand) (ho : o.op = .binOp .neq 4 x y 4) (b : Bool) (hx : a.eval x = .bool b) (hy : a.eval y = .bool b) : (execOp a.eval o).run Tryd.prog w = .ok (.value (.bool false)) w := by
  unfold execOp
  simp only [ho, hx, hy]
  simp [go_sem]
theorem run_idxp {o : Oper} {a : Act} {w : World} (x : Operand) (ho : o.op = .indexAddr 29 x (.const (.int .i64 0))) (g : Nat) (hx : a.eval x = .pointer (some ⟨g, 0, none⟩)) : (execOp a.eval o).run Tryd.prog w = .ok (.value (.pointer (some ⟨g, 0, none⟩))) w := by
  have ek : a.eval (.const (.int .i64 0)) = .int .i64 0 := rfl
  unfold execOp
  simp only [ho, hx, ek]
  simp [go_sem]
theorem run_load_num0 {o : Oper} {a : Act} {w : World} (x : Operand) (ho : o.op = .load 26 x) (g : Nat) (hx : a.eval x = .pointer (some ⟨g, 0, none⟩)) (neg : Bool) (p : Option Addr) (n c : Nat) (b2 : Bool) (p2 : Option Addr) (n2 c2 : Nat) (hg : RowAt w g 29 #[.bool neg, .slice p n c, .bool b2, .slice p2 n2 c2]) : (execOp a.eval o).run Tryd.prog w = .ok (.value (.agg #[.bool neg, .slice p n c])) w := by
  have h0 := hg.cell 0
  have h1 := hg.cell 1
  simp at h0 h1
  unfold execOp
  simp only [ho, hx, Instr.loadAt, Instr.sureAddr, Sem.run_bind, Sem.run_pure, Result.andThen_ok]
  simp [h0, h1, go_sem]

set_option maxRecDepth 100000 in
set_option maxHeartbeats 8000000 in
theorem numDivs_walk (l0 l1 : Value) (za zb : List Int) (na nb : Bool) (p q : Option Addr) (n c m c2 : Nat) (da db : List Nat) (w : World) (ht : Tab w) (h0 : I64s w.heap.size w l0 za) (h1 : I64s w.heap.size w l1 zb)
    (ha : U32s w.heap.size w (.slice p n c) da) (hb : U32s w.heap.size w (.slice q m c2) db) (hda : Digits da) (hdb : Digits db) (hnc : n ≤ c) (hmc : m ≤ c2) :
    Calls Tryd.prog 3 #[.agg #[l0, l1], .agg #[.bool na, .slice p n c], .agg #[.bool nb, .slice q m c2]] w fun e w' => e = .returned (.bool true) ∧ Ext w w' := by
  obtain ⟨pa, ca, rfl, -, -⟩ := id h0
  obtain ⟨pb, cb, rfl, -, -⟩ := id h1
  obtain ⟨la, hla⟩ : ∃ la, la = za.length := ⟨_, rfl⟩
  obtain ⟨lb, hlb⟩ : ∃ lb, lb = zb.length := ⟨_, rfl⟩
  rw [← hla] at h0 ⊢
  rw [← hlb] at h1 ⊢
  clear hla hlb
  obtain ⟨W3, hW3⟩ : ∃ W3, W3 = ((w.alloc (.cells #[.slice pa la ca, .slice pb lb cb] 23)).alloc (.cells #[.bool na, .slice p n c] 26)).alloc (.cells #[.bool nb, .slice q m c2] 26) := ⟨_, rfl⟩
  have HX3 : Hid (Ext w W3) := by rw [hW3]; exact (((Below.refl _ w).alloc (Nat.le_refl _) _).alloc (by simp) _).alloc (by simp; omega) _
  have HR3 : Hid (RowAt W3 w.heap.size 23 #[.slice pa la ca, .slice pb lb cb]) := by rw [hW3]; exact ((RowAt.new w _ _).alloc _).alloc _
  have HR4 : Hid (RowAt W3 (w.heap.size + 1) 26 (numCells na p n c)) := by rw [hW3]; exact (RowAt.new' _ _ (by simp)).alloc _
  have HR5 : Hid (RowAt W3 (w.heap.size + 1 + 1) 26 (numCells nb q m c2)) := by rw [hW3]; exact RowAt.new' _ _ (by simp)
  have H0 := Lib.hid h0
  have H1 := Lib.hid h1
  have Ha := Lib.hid (And.intro ha hda)
  have Hb := Lib.hid (And.intro hb hdb)
  have Ht := Lib.hid ht
  have HW3 := Lib.hid hW3
  have Hnc := Lib.hid hnc
  have Hmc := Lib.hid hmc
  clear h0 h1 ha hb hda hdb ht hW3 hnc hmc
  go_enter Tryd.func3, Tryd.ntmps3
  go_wp2_with fail
  rw [← HW3.out]
  refine (sanity_calls _ (HX3.out.tab Ht.out)).mono ?_
  rintro e w1 ⟨rfl, hx1⟩
  have X1 := Lib.hid hx1
  have R3 := Lib.hid (hx1.row HR3.out)
  have R4 := Lib.hid (hx1.row HR4.out)
  have R5 := Lib.hid (hx1.row HR5.out)
  clear hx1
  go_wp2_with fail
  refine wp_region_cl (fun D ac w' => ∃ vs : Nat → Value, ac = { tmps := #[.agg #[.slice pa la ca, .slice pb lb cb], .agg #[.bool na, .slice p n c], .agg #[.bool nb, .slice q m c2], .pointer (some ⟨w.heap.size, 0, none⟩), .pointer (some ⟨w.heap.size + 1, 0, none⟩), .pointer (some ⟨w.heap.size + 1 + 1, 0, none⟩), .bool false, .bool true, undef, undef, undef, undef, undef, undef, undef, undef, undef, undef, undef, undef, .bool true, vs 0, vs 1, vs 2, vs 3, vs 4, vs 5, vs 6, vs 7, vs 8, vs 9, vs 10, vs 11, vs 12, vs 13, vs 14, vs 16, undef, undef, undef, undef, undef, undef, undef, undef, undef, undef, undef, undef, undef, undef, undef, undef, undef, undef, undef, undef, undef, undef, undef, undef, undef, undef, undef, undef, undef, undef, undef, undef, undef, undef, undef, undef, undef, undef, undef, undef, undef, undef, undef, undef, undef, undef, undef, undef, undef, undef, undef, undef, undef, undef, undef, undef, undef, undef, undef, undef, undef, undef, undef, undef, undef, undef, undef, undef, undef, undef, undef, undef, undef, undef, undef, undef, undef, undef, undef, undef, undef, undef, undef, undef, undef, undef, undef, undef, undef, undef, undef, undef], defers := [] } ∧ Cst D w #[.slice pa la ca, .slice pb lb cb] na p n c nb q m c2 w' ∧ ∀ j, D j → cutF w.heap.size p n c q m c2 j (vs j)) (by kernel_rfl) (by kernel_rfl) ?start ?step ?fin
  case start => exact ⟨fun _ => undef, rfl, ⟨(HX3.out.trans X1.out).trans (Ext.drew _), R3.out, .inl ⟨fun h => h, R4.out⟩, .inl ⟨fun h => h, R5.out⟩⟩, fun _ h => h.elim⟩
  case step =>
    rintro i o D ac wz hio hnd he hcl ⟨vs, rfl, hS, hF⟩
    rcases i with _ | _ | _ | _ | _ | _ | _ | _ | _ | _ | _ | _ | _ | _ | _ | _ | _ | _ | i
    rotate_left 18
    · exact absurd hio (by simp)
    all_goals (obtain rfl := Option.some.inj (hio.symm.trans (by rfl)))
    · exact wp_of_run (run_nfield1 (.tmp 4) rfl (w.heap.size + 1) rfl) ⟨upd vs 0 _, rfl, hS.step (by decide), inv_same hF rfl⟩
    · exact wp_of_run (run_ld_slice (.tmp 21) rfl _ (by exact (hF 0 (he ⟨0, .data⟩ (by simp) rfl))) p n c (hS.a0 (fun h15 => hnd (hcl 6 _ rfl (hcl 15 _ rfl h15 ⟨6, .data⟩ (by simp) rfl) ⟨1, .data⟩ (by simp) rfl))).num1) ⟨upd vs 1 _, rfl, hS.step (by decide), inv_same hF rfl⟩
    · exact wp_of_run (run_nfield1 (.tmp 4) rfl (w.heap.size + 1) rfl) ⟨upd vs 2 _, rfl, hS.step (by decide), inv_same hF rfl⟩
    · exact wp_of_run (run_ld_slice (.tmp 23) rfl _ (by exact (hF 2 (he ⟨2, .data⟩ (by simp) rfl))) p n c (hS.a0 (fun h15 => hnd (hcl 4 _ rfl (hcl 5 _ rfl (hcl 6 _ rfl (hcl 15 _ rfl h15 ⟨6, .data⟩ (by simp) rfl) ⟨5, .data⟩ (by simp) rfl) ⟨4, .data⟩ (by simp) rfl) ⟨3, .data⟩ (by simp) rfl))).num1) ⟨upd vs 3 _, rfl, hS.step (by decide), inv_same hF rfl⟩
    · exact wp_of_run (run_len (.tmp 24) _ rfl rfl p n c (by exact (hF 3 (he ⟨3, .data⟩ (by simp) rfl)))) ⟨upd vs 4 _, rfl, hS.step (by decide), inv_same hF rfl⟩
    · exact wp_of_run (run_min12 (.tmp 25) _ rfl rfl rfl n (by exact (hF 4 (he ⟨4, .data⟩ (by simp) rfl)))) ⟨upd vs 5 _, rfl, hS.step (by decide), inv_same hF rfl⟩
    · exact wp_of_run (run_cut_sl (.tmp 22) (.tmp 26) rfl p n c (min n 12) (by exact (hF 1 (he ⟨1, .data⟩ (by simp) rfl))) (by exact (hF 5 (he ⟨5, .data⟩ (by simp) rfl))) (Nat.le_trans (Nat.min_le_left _ _) Hnc.out)) ⟨upd vs 6 _, rfl, hS.step (by decide), inv_same hF rfl⟩
    · exact wp_of_run (run_nfield1 (.tmp 5) rfl (w.heap.size + 1 + 1) rfl) ⟨upd vs 7 _, rfl, hS.step (by decide), inv_same hF rfl⟩
    · exact wp_of_run (run_ld_slice (.tmp 28) rfl _ (by exact (hF 7 (he ⟨7, .data⟩ (by simp) rfl))) q m c2 (hS.b0 (fun h15 => hnd (hcl 13 _ rfl (hcl 17 _ rfl h15 ⟨13, .data⟩ (by simp) rfl) ⟨8, .data⟩ (by simp) rfl))).num1) ⟨upd vs 8 _, rfl, hS.step (by decide), inv_same hF rfl⟩
    · exact wp_of_run (run_nfield1 (.tmp 5) rfl (w.heap.size + 1 + 1) rfl) ⟨upd vs 9 _, rfl, hS.step (by decide), inv_same hF rfl⟩
    · exact wp_of_run (run_ld_slice (.tmp 30) rfl _ (by exact (hF 9 (he ⟨9, .data⟩ (by simp) rfl))) q m c2 (hS.b0 (fun h15 => hnd (hcl 11 _ rfl (hcl 12 _ rfl (hcl 13 _ rfl (hcl 17 _ rfl h15 ⟨13, .data⟩ (by simp) rfl) ⟨12, .data⟩ (by simp) rfl) ⟨11, .data⟩ (by simp) rfl) ⟨10, .data⟩ (by simp) rfl))).num1) ⟨upd vs 10 _, rfl, hS.step (by decide), inv_same hF rfl⟩
    · exact wp_of_run (run_len (.tmp 31) _ rfl rfl q m c2 (by exact (hF 10 (he ⟨10, .data⟩ (by simp) rfl)))) ⟨upd vs 11 _, rfl, hS.step (by decide), inv_same hF rfl⟩
    · exact wp_of_run (run_min12 (.tmp 32) _ rfl rfl rfl m (by exact (hF 11 (he ⟨11, .data⟩ (by simp) rfl)))) ⟨upd vs 12 _, rfl, hS.step (by decide), inv_same hF rfl⟩
    · exact wp_of_run (run_cut_sl (.tmp 29) (.tmp 33) rfl q m c2 (min m 12) (by exact (hF 8 (he ⟨8, .data⟩ (by simp) rfl))) (by exact (hF 12 (he ⟨12, .data⟩ (by simp) rfl))) (Nat.le_trans (Nat.min_le_left _ _) Hmc.out)) ⟨upd vs 13 _, rfl, hS.step (by decide), inv_same hF rfl⟩
    · exact wp_of_run (run_nfield1 (.tmp 4) rfl (w.heap.size + 1) rfl) ⟨upd vs 14 _, rfl, hS.step (by decide), inv_same hF rfl⟩
    · exact wp_of_skip (run_store_sl (.tmp 35) (.tmp 27) rfl _ (by exact (hF 14 (he ⟨14, .data⟩ (by simp) rfl))) p (min n 12) c (by exact (hF 6 (he ⟨6, .data⟩ (by simp) rfl))) _ (hS.a0 hnd).num1 ((hS.a0 hnd).frozen 1)) ⟨upd vs 15 undef, rfl, hS.storeA hnd, inv_same hF trivial⟩
    · exact wp_of_run (run_nfield1 (.tmp 5) rfl (w.heap.size + 1 + 1) rfl) ⟨upd vs 16 _, rfl, hS.step (by decide), inv_same hF rfl⟩
    · exact wp_of_skip (run_store_sl (.tmp 36) (.tmp 34) rfl _ (by exact (hF 16 (he ⟨16, .data⟩ (by simp) rfl))) q (min m 12) c2 (by exact (hF 13 (he ⟨13, .data⟩ (by simp) rfl))) _ (hS.b0 hnd).num1 ((hS.b0 hnd).frozen 1)) ⟨upd vs 17 undef, rfl, hS.storeB hnd, inv_same hF trivial⟩
  case fin =>
    rintro D ac w2 hD ⟨vs, rfl, hS, hF⟩
    have X2 := Lib.hid hS.ext
    have R3b := Lib.hid hS.row
    have R4b := Lib.hid (hS.a1 (hD 15 (by simp)))
    have R5b := Lib.hid (hS.b1 (hD 17 (by simp)))
    clear hD hF hS
    generalize vs = ws
    go_wp2_with fail
    refine wp_region_inv (fun D ac w' => ∃ vs : Nat → Value, ac = { tmps := #[.agg #[.slice pa la ca, .slice pb lb cb], .agg #[.bool na, .slice p n c], .agg #[.bool nb, .slice q m c2], .pointer (some ⟨w.heap.size, 0, none⟩), .pointer (some ⟨w.heap.size + 1, 0, none⟩), .pointer (some ⟨w.heap.size + 1 + 1, 0, none⟩), .bool false, .bool true, undef, undef, undef, undef, undef, undef, undef, undef, undef, undef, undef, undef, .bool true, ws 0, ws 1, ws 2, ws 3, ws 4, ws 5, ws 6, ws 7, ws 8, ws 9, ws 10, ws 11, ws 12, ws 13, ws 14, ws 16, vs 0, vs 1, vs 2, vs 3, vs 4, vs 5, vs 6, vs 7, vs 8, vs 9, vs 10, vs 11, vs 12, vs 13, vs 14, vs 15, vs 16, vs 17, undef, undef, undef, undef, undef, undef, undef, undef, undef, undef, undef, undef, undef, undef, undef, undef, undef, undef, undef, undef, undef, undef, undef, undef, undef, undef, undef, undef, undef, undef, undef, undef, undef, undef, undef, undef, undef, undef, undef, undef, undef, undef, undef, undef, undef, undef, undef, undef, undef, undef, undef, undef, undef, undef, undef, undef, undef, undef, undef, undef, undef, undef, undef, undef, undef, undef, undef, undef, undef, undef, undef, undef, undef, undef], defers := [] } ∧ Ext w2 w' ∧ ∀ j, D j → pF w.heap.size pa la ca pb lb cb (madeOf za) (madeOf zb) na p (min n 12) c nb q (min m 12) c2 j (vs j) w') (by kernel_rfl) (by kernel_rfl) ?start3 ?step3 ?fin3
    case start3 => exact ⟨fun _ => undef, rfl, Ext.drew _, fun _ h => h.elim⟩
    case step3 =>
      rintro i o D ac wz hio hnd he ⟨vs, rfl, k0, hF⟩
      rcases i with _ | _ | _ | _ | _ | _ | _ | _ | _ | _ | _ | _ | _ | _ | _ | _ | _ | _ | i
      rotate_left 18
      · exact absurd hio (by simp)
      all_goals (obtain rfl := Option.some.inj (hio.symm.trans (by rfl)))
      · exact wp_of_run (run_idx2 (.tmp 3) 0 (by decide) rfl w.heap.size rfl) ⟨upd vs 0 _, rfl, k0, inv_step hF (fun _ _ h => h) rfl⟩
      · exact wp_of_run (run_ld_ints (.tmp 37) rfl _ (by exact (hF 0 (he ⟨0, .data⟩ (by simp) rfl))) pa la ca ((k0.row R3b.out).cell 0)) ⟨upd vs 1 _, rfl, k0, inv_step hF (fun _ _ h => h) rfl⟩
      · refine wp_of_callE (run_enter1 10 (.tmp 38) _ rfl _ (by exact (hF 1 (he ⟨1, .data⟩ (by simp) rfl))) ent_made) (makes_calls _ za wz ((X2.out.trans k0).i64s H0.out)) ?_
        rintro e w' ⟨p9, n9, c9, rfl, hz, hx⟩
        exact ⟨_, rfl, upd vs 2 _, rfl, k0.trans hx, inv_step hF (fun j v h => pF_mono hx j v h) ⟨p9, n9, c9, rfl, hz⟩⟩
      · exact wp_of_run (run_idx2 (.tmp 3) 1 (by decide) rfl w.heap.size rfl) ⟨upd vs 3 _, rfl, k0, inv_step hF (fun _ _ h => h) rfl⟩
      · exact wp_of_run (run_ld_ints (.tmp 40) rfl _ (by exact (hF 3 (he ⟨3, .data⟩ (by simp) rfl))) pb lb cb ((k0.row R3b.out).cell 1)) ⟨upd vs 4 _, rfl, k0, inv_step hF (fun _ _ h => h) rfl⟩
      · refine wp_of_callE (run_enter1 10 (.tmp 41) _ rfl _ (by exact (hF 4 (he ⟨4, .data⟩ (by simp) rfl))) ent_made) (makes_calls _ zb wz ((X2.out.trans k0).i64s H1.out)) ?_
        rintro e w' ⟨p9, n9, c9, rfl, hz, hx⟩
        exact ⟨_, rfl, upd vs 5 _, rfl, k0.trans hx, inv_step hF (fun j v h => pF_mono hx j v h) ⟨p9, n9, c9, rfl, hz⟩⟩
      · obtain ⟨p1, n1, c1, e1, hz1⟩ := (hF 2 (he ⟨2, .data⟩ (by simp) rfl))
        obtain ⟨p2, n2, c4, e2, hz2⟩ := (hF 5 (he ⟨5, .data⟩ (by simp) rfl))
        exact wp_of_run (run_build_pair (.tmp 39) (.tmp 42) rfl _ _ _ _ _ _ _ _ (by exact e1) (by exact e2)) ⟨upd vs 6 _, rfl, k0, inv_step hF (fun _ _ h => h) ⟨p1, n1, c1, p2, n2, c4, rfl, hz1, hz2⟩⟩
      · exact wp_of_run (run_load_num (.tmp 4) rfl _ rfl _ _ _ _ _ (k0.row R4b.out)) ⟨upd vs 7 _, rfl, k0, inv_step hF (fun _ _ h => h) rfl⟩
      · exact wp_of_run (run_load_num (.tmp 5) rfl _ rfl _ _ _ _ _ (k0.row R5b.out)) ⟨upd vs 8 _, rfl, k0, inv_step hF (fun _ _ h => h) rfl⟩
      · exact wp_of_run (run_build_pair (.tmp 44) (.tmp 45) rfl _ _ _ _ _ _ _ _ (by exact (hF 7 (he ⟨7, .data⟩ (by simp) rfl))) (by exact (hF 8 (he ⟨8, .data⟩ (by simp) rfl)))) ⟨upd vs 9 _, rfl, k0, inv_step hF (fun _ _ h => h) rfl⟩
      · exact wp_of_run (run_load_num (.tmp 4) rfl _ rfl _ _ _ _ _ (k0.row R4b.out)) ⟨upd vs 10 _, rfl, k0, inv_step hF (fun _ _ h => h) rfl⟩
      · exact wp_of_run (run_idx2 (.tmp 3) 1 (by decide) rfl w.heap.size rfl) ⟨upd vs 11 _, rfl, k0, inv_step hF (fun _ _ h => h) rfl⟩
      · exact wp_of_run (run_ld_ints (.tmp 48) rfl _ (by exact (hF 11 (he ⟨11, .data⟩ (by simp) rfl))) pb lb cb ((k0.row R3b.out).cell 1)) ⟨upd vs 12 _, rfl, k0, inv_step hF (fun _ _ h => h) rfl⟩
      · refine wp_of_callE (run_enter1 10 (.tmp 49) _ rfl _ (by exact (hF 12 (he ⟨12, .data⟩ (by simp) rfl))) ent_made) (makes_calls _ zb wz ((X2.out.trans k0).i64s H1.out)) ?_
        rintro e w' ⟨p9, n9, c9, rfl, hz, hx⟩
        exact ⟨_, rfl, upd vs 13 _, rfl, k0.trans hx, inv_step hF (fun j v h => pF_mono hx j v h) ⟨p9, n9, c9, rfl, hz⟩⟩
      · obtain ⟨p2, n2, c4, e2, hz2⟩ := (hF 13 (he ⟨13, .data⟩ (by simp) rfl))
        exact wp_of_run (run_build_pair (.tmp 47) (.tmp 50) rfl _ _ _ _ _ _ _ _ (by exact (hF 10 (he ⟨10, .data⟩ (by simp) rfl))) (by exact e2)) ⟨upd vs 14 _, rfl, k0, inv_step hF (fun _ _ h => h) ⟨p2, n2, c4, rfl, hz2⟩⟩
      · obtain ⟨p1, n1, c1, p2, n2, c4, e1, hz1, hz2⟩ := (hF 6 (he ⟨6, .data⟩ (by simp) rfl))
        obtain ⟨p3, n3, c3, e3, hz3⟩ := (hF 14 (he ⟨14, .data⟩ (by simp) rfl))
        exact wp_of_run (run_build_three (.tmp 43) (.tmp 46) (.tmp 51) rfl _ _ _ _ _ _ _ _ _ _ _ _ (by exact e1) (by exact (hF 9 (he ⟨9, .data⟩ (by simp) rfl))) (by exact e3)) ⟨upd vs 15 _, rfl, k0.trans (Ext.alloc _ _), inv_step hF (fun j v h => pF_mono (Ext.alloc _ _) j v h) ⟨wz.heap.size, rfl, p1, n1, c1, p2, n2, c4, p3, n3, c3, RowAt.new _ _ _, (Ext.alloc _ _).num hz1, (Ext.alloc _ _).num hz2, (Ext.alloc _ _).num hz3⟩⟩
      · obtain ⟨G, e1, -⟩ := (hF 15 (he ⟨15, .data⟩ (by simp) rfl))
        exact wp_of_run (run_len_pairs (.tmp 52) _ rfl rfl _ 3 3 (by exact e1)) ⟨upd vs 16 _, rfl, k0, inv_step hF (fun _ _ h => h) rfl⟩
      · exact wp_of_run (run_mov (.const (.int .i64 0)) rfl _ rfl) ⟨upd vs 17 _, rfl, k0, inv_step hF (fun _ _ h => h) rfl⟩
    case fin3 =>
      rintro D ac w3 hD ⟨vs, rfl, k0, hF⟩
      obtain ⟨G, h15, p1, n1, c1, p2, n2, c4, p3, n3, c3, hrow, hz1, hz2, hz3⟩ := hF 15 (hD 15 (by simp))
      have h16 : vs 16 = .int .i64 3 := hF 16 (hD 16 (by simp))
      have h17 : vs 17 = .int .i64 0 := hF 17 (hD 17 (by simp))
      rw [h15, h16, h17]
      have X3 : Hid (Ext w w3) := X2.out.trans k0
      have HRow := Lib.hid hrow
      have HZ := Lib.hid (And.intro hz1 (And.intro hz2 hz3))
      clear hD hF h15 h16 h17 k0 hrow hz1 hz2 hz3
      generalize vs = us
      go_wp2_with fail
      go_loopg [54] 3 (fun g i wr => ∃ k : Nat, k + g = 3 ∧ i = .int .i64 (k : Int) ∧ Ext w3 wr)
      case atStart => exact ⟨0, rfl, rfl, Ext.refl _⟩
      case round =>
        obtain ⟨k, hk, rfl, hx⟩ := hrel
        have Hk := Lib.hid hx
        clear hx
        by_cases hk3 : ¬ k < 3
        · obtain rfl : k = 3 := by omega
          go_wp2_with fail
          go_ret
          exact ⟨rfl, X3.out.trans Hk.out⟩
        have HAc : Hid (ANum w3 (.agg #[.bool na, .slice p (min n 12) c]) na (da.take 12)) := ⟨⟨p, _, c, rfl, (cut_u32s (X3.out.u32s Ha.out.1)).1⟩, Ha.out.2.take _⟩
        have HBc : Hid (ANum w3 (.agg #[.bool nb, .slice q (min m 12) c2]) nb (db.take 12)) := ⟨⟨q, _, c2, rfl, (cut_u32s (X3.out.u32s Hb.out.1)).1⟩, Hb.out.2.take _⟩
        have hkI : (k : Int) < 3 := by omega
        go_upto_region 5 with fail
        go_cut [9, 54] from 54 to 127 (fun v9 v54 wc => v54 = .int .i64 (k : Int) ∧ ∃ g9 u0 v0 l0 e0 u1 v1 l1 e1 d0 d1, v9 = .pointer (some ⟨g9, 0, none⟩) ∧ RowAt wc g9 29 #[.bool u0, .slice v0 l0 e0, .bool u1, .slice v1 l1 e1] ∧ ANum wc (.agg #[.bool u0, .slice v0 l0 e0]) u0 d0 ∧ ANum wc (.agg #[.bool u1, .slice v1 l1 e1]) u1 d1 ∧ Ext w3 wc)
        case first =>
          rcases (by omega : k = 0 ∨ k = 1 ∨ k = 2) with rfl | rfl | rfl
          · have q0 := (Hk.out.row HRow.out).cell 0
            have q1 := (Hk.out.row HRow.out).cell 1
            have q2 := (Hk.out.row HRow.out).cell 2
            have q3 := (Hk.out.row HRow.out).cell 3
            simp at q0 q1 q2 q3
            go_wp2_with fail
            go_meet
            case rel =>
              have hx := Hk.out.trans (Ext.alloc wr (.cells #[.bool (decide (madeOf za < 0)), .slice p1 n1 c1, .bool (decide (madeOf zb < 0)), .slice p2 n2 c4] 29))
              exact ⟨rfl, _, _, _, _, _, _, _, _, _, (digs (madeOf za).natAbs), (digs (madeOf zb).natAbs), rfl, RowAt.new _ _ _, ANum.of (hx.num HZ.out.1), ANum.of (hx.num HZ.out.2.1), hx⟩
          · have q0 := (Hk.out.row HRow.out).cell 4
            have q1 := (Hk.out.row HRow.out).cell 5
            have q2 := (Hk.out.row HRow.out).cell 6
            have q3 := (Hk.out.row HRow.out).cell 7
            simp at q0 q1 q2 q3
            go_wp2_with fail
            go_meet
            case rel =>
              have hx := Hk.out.trans (Ext.alloc wr (.cells #[.bool na, .slice p (min n 12) c, .bool nb, .slice q (min m 12) c2] 29))
              exact ⟨rfl, _, _, _, _, _, _, _, _, _, (da.take 12), (db.take 12), rfl, RowAt.new _ _ _, HAc.out.ext hx, HBc.out.ext hx, hx⟩
          · have q0 := (Hk.out.row HRow.out).cell 8
            have q1 := (Hk.out.row HRow.out).cell 9
            have q2 := (Hk.out.row HRow.out).cell 10
            have q3 := (Hk.out.row HRow.out).cell 11
            simp at q0 q1 q2 q3
            go_wp2_with fail
            go_meet
            case rel =>
              have hx := Hk.out.trans (Ext.alloc wr (.cells #[.bool na, .slice p (min n 12) c, .bool (decide (madeOf zb < 0)), .slice p3 n3 c3] 29))
              exact ⟨rfl, _, _, _, _, _, _, _, _, _, (da.take 12), (digs (madeOf zb).natAbs), rfl, RowAt.new _ _ _, HAc.out.ext hx, ANum.of (hx.num HZ.out.2.2), hx⟩
        case rest =>
          obtain ⟨rfl, g9, u0, v0, l0, e0, u1, v1, l1, e1, d0, d1, rfl, hr9, hA, hB, hxc⟩ := hcut
          obtain ⟨qz, rz, nq, nr, ok, hdv⟩ := div_any hA hB
          obtain ⟨gz, ng, okg, hgc⟩ := gcd_any hA hB
          obtain ⟨txt, htx⟩ := text_any hA (((X3.out.trans hxc)).tab Ht.out)
          have HDV := Lib.hid hdv
          have HGC := Lib.hid hgc
          have HTX := Lib.hid htx
          have HXc := Lib.hid hxc
          have HR9 := Lib.hid hr9
          have c90 := hr9.cell 0
          have c91 := hr9.cell 1
          have c92 := hr9.cell 2
          have c93 := hr9.cell 3
          simp at c90 c91 c92 c93
          clear hdv hgc htx hxc hr9 hA hB
          go_wp2_with fail
          refine (HDV.out wc (Ext.refl _)).1.mono ?_
          rintro e wd ⟨p10, n10, c10, p11, n11, c11, rfl, hz10, hz11, hx⟩
          have N10 : RowAt ((wd.alloc (.cells #[.bool false, .slice none 0 0] 26)).alloc (.cells #[.bool false, .slice none 0 0] 26)) wd.heap.size 26 #[.bool false, .slice none 0 0] := (RowAt.new wd _ _).alloc _
          have N11 : RowAt (((wd.alloc (.cells #[.bool false, .slice none 0 0] 26)).alloc (.cells #[.bool false, .slice none 0 0] 26)).setRow wd.heap.size (numCells nq p10 n10 c10)) (wd.heap.size + 1) 26 #[.bool false, .slice none 0 0] := (RowAt.new' _ _ (by simp)).setRowOther _ (by omega)
          obtain ⟨W10, hW10⟩ : ∃ W, W = (((wd.alloc (.cells #[.bool false, .slice none 0 0] 26)).alloc (.cells #[.bool false, .slice none 0 0] 26)).setRow wd.heap.size (numCells nq p10 n10 c10)).setRow (wd.heap.size + 1) (numCells nr p11 n11 c11) := ⟨_, rfl⟩
          have hxW : Ext wd W10 := by rw [hW10]; exact ext_setRow (ext_setRow ((Ext.alloc _ _).trans (Ext.alloc _ _)) (Nat.le_refl _) _) (Nat.le_succ _) _
          have RW10 : Hid (RowAt W10 wd.heap.size 26 (numCells nq p10 n10 c10)) := by rw [hW10]; exact (N10.setRow _).setRowOther _ (by omega)
          have RW11 : Hid (RowAt W10 (wd.heap.size + 1) 26 (numCells nr p11 n11 c11)) := by rw [hW10]; exact N11.setRow _
          have Z10 := Lib.hid (hxW.num hz10)
          have Z11 := Lib.hid (hxW.num hz11)
          have XW10 := Lib.hid (hx.trans hxW)
          have HN10 := Lib.hid N10
          have HN11 := Lib.hid N11
          have HW10 := Lib.hid hW10
          have RC10 := Lib.hid ((hx.trans hxW).row HR9.out)
          clear hz10 hz11 hx N10 N11 hxW hW10 c90 c91 c92 c93
          have c90 := RC10.out.cell 0
          have c91 := RC10.out.cell 1
          have c92 := RC10.out.cell 2
          have c93 := RC10.out.cell 3
          simp at c90 c91 c92 c93
          go_wp2_with (first
            | (refine store_num rfl (.tmp 10) (.tmp 64) rfl wd.heap.size rfl nq p10 n10 c10 rfl _ _ HN10.out rfl ?_)
            | (refine store_num rfl (.tmp 11) (.tmp 65) rfl (wd.heap.size + 1) rfl nr p11 n11 c11 rfl _ _ HN11.out rfl ?_; rw [← HW10.out]))
          refine (HDV.out W10 XW10.out).2.mono ?_
          rintro e we ⟨p13, n13, c13, p14, n14, c14, rfl, hz13, hz14, hx⟩
          have N13 : RowAt ((we.alloc (.cells #[.bool false, .slice none 0 0] 26)).alloc (.cells #[.bool false, .slice none 0 0] 26)) we.heap.size 26 #[.bool false, .slice none 0 0] := (RowAt.new we _ _).alloc _
          have N14 : RowAt (((we.alloc (.cells #[.bool false, .slice none 0 0] 26)).alloc (.cells #[.bool false, .slice none 0 0] 26)).setRow we.heap.size (numCells nq p13 n13 c13)) (we.heap.size + 1) 26 #[.bool false, .slice none 0 0] := (RowAt.new' _ _ (by simp)).setRowOther _ (by omega)
          obtain ⟨W13, hW13⟩ : ∃ W, W = (((we.alloc (.cells #[.bool false, .slice none 0 0] 26)).alloc (.cells #[.bool false, .slice none 0 0] 26)).setRow we.heap.size (numCells nq p13 n13 c13)).setRow (we.heap.size + 1) (numCells nr p14 n14 c14) := ⟨_, rfl⟩
          have hxW : Ext we W13 := by rw [hW13]; exact ext_setRow (ext_setRow ((Ext.alloc _ _).trans (Ext.alloc _ _)) (Nat.le_refl _) _) (Nat.le_succ _) _
          have RW13 : Hid (RowAt W13 we.heap.size 26 (numCells nq p13 n13 c13)) := by rw [hW13]; exact (N13.setRow _).setRowOther _ (by omega)
          have RW14 : Hid (RowAt W13 (we.heap.size + 1) 26 (numCells nr p14 n14 c14)) := by rw [hW13]; exact N14.setRow _
          have Z13 := Lib.hid (hxW.num hz13)
          have Z14 := Lib.hid (hxW.num hz14)
          have XW13 := Lib.hid (hx.trans hxW)
          have HN13 := Lib.hid N13
          have HN14 := Lib.hid N14
          have HW13 := Lib.hid hW13
          have RC13 := Lib.hid ((hx.trans hxW).row RC10.out)
          clear hz13 hz14 hx N13 N14 hxW hW13 c90 c91 c92 c93
          have c90 := RC13.out.cell 0
          have c91 := RC13.out.cell 1
          have c92 := RC13.out.cell 2
          have c93 := RC13.out.cell 3
          simp at c90 c91 c92 c93
          go_wp2_with (first
            | (refine store_num rfl (.tmp 13) (.tmp 73) rfl we.heap.size rfl nq p13 n13 c13 rfl _ _ HN13.out rfl ?_)
            | (refine store_num rfl (.tmp 14) (.tmp 74) rfl (we.heap.size + 1) rfl nr p14 n14 c14 rfl _ _ HN14.out rfl ?_; rw [← HW13.out]))
          have XC13 : Hid (Ext wc W13) := XW10.out.trans XW13.out
          refine (HGC.out W13 XC13.out).1.mono ?_
          rintro e wf ⟨p16, n16, c16, rfl, hz16, hx⟩
          have N16 : RowAt (wf.alloc (.cells #[.bool false, .slice none 0 0] 26)) wf.heap.size 26 #[.bool false, .slice none 0 0] := RowAt.new wf _ _
          obtain ⟨W16, hW16⟩ : ∃ W, W = (wf.alloc (.cells #[.bool false, .slice none 0 0] 26)).setRow wf.heap.size (numCells ng p16 n16 c16) := ⟨_, rfl⟩
          have hxW : Ext wf W16 := by rw [hW16]; exact ext_setRow (Ext.alloc _ _) (Nat.le_refl _) _
          have RW16 : Hid (RowAt W16 wf.heap.size 26 (numCells ng p16 n16 c16)) := by rw [hW16]; exact N16.setRow _
          have Z16 := Lib.hid (hxW.num hz16)
          have XW16 := Lib.hid (hx.trans hxW)
          have HN16 := Lib.hid N16
          have HW16 := Lib.hid hW16
          have RC16 := Lib.hid ((hx.trans hxW).row RC13.out)
          clear hz16 hx N16 hxW hW16 c90 c91 c92 c93
          have c90 := RC16.out.cell 0
          have c91 := RC16.out.cell 1
          have c92 := RC16.out.cell 2
          have c93 := RC16.out.cell 3
          simp at c90 c91 c92 c93
          go_wp2_with (refine store_num rfl (.tmp 16) (.tmp 82) rfl wf.heap.size rfl ng p16 n16 c16 rfl _ _ HN16.out rfl ?_; rw [← HW16.out])
          have XC16 : Hid (Ext wc W16) := XC13.out.trans XW16.out
          refine (HGC.out W16 XC16.out).2.mono ?_
          rintro e wg ⟨p18, n18, c18, rfl, hz18, hx⟩
          have N18 : RowAt (wg.alloc (.cells #[.bool false, .slice none 0 0] 26)) wg.heap.size 26 #[.bool false, .slice none 0 0] := RowAt.new wg _ _
          obtain ⟨W18, hW18⟩ : ∃ W, W = (wg.alloc (.cells #[.bool false, .slice none 0 0] 26)).setRow wg.heap.size (numCells ng p18 n18 c18) := ⟨_, rfl⟩
          have hxW : Ext wg W18 := by rw [hW18]; exact ext_setRow (Ext.alloc _ _) (Nat.le_refl _) _
          have RW18 : Hid (RowAt W18 wg.heap.size 26 (numCells ng p18 n18 c18)) := by rw [hW18]; exact N18.setRow _
          have Z18 := Lib.hid (hxW.num hz18)
          have XW18 := Lib.hid (hx.trans hxW)
          have HN18 := Lib.hid N18
          have HW18 := Lib.hid hW18
          have RC18 := Lib.hid ((hx.trans hxW).row RC16.out)
          clear hz18 hx N18 hxW hW18 c90 c91 c92 c93
          have c90 := RC18.out.cell 0
          have c91 := RC18.out.cell 1
          have c92 := RC18.out.cell 2
          have c93 := RC18.out.cell 3
          simp at c90 c91 c92 c93
          go_wp2_with (refine store_num rfl (.tmp 18) (.tmp 90) rfl wg.heap.size rfl ng p18 n18 c18 rfl _ _ HN18.out rfl ?_; rw [← HW18.out])
          have XC18 : Hid (Ext wc W18) := XC16.out.trans XW18.out
          have X1318 : Hid (Ext W10 W18) := XW13.out.trans (XW16.out.trans XW18.out)
          have X1618 : Hid (Ext W13 W18) := XW16.out.trans XW18.out
          have Q10 := Lib.hid (X1318.out.row RW10.out)
          have Q11 := Lib.hid (X1318.out.row RW11.out)
          have Q13 := Lib.hid (X1618.out.row RW13.out)
          have Q14 := Lib.hid (X1618.out.row RW14.out)
          have Q16 := Lib.hid (XW18.out.row RW16.out)
          have Q18 := Lib.hid RW18.out
          have Y10 := Lib.hid (X1318.out.num Z10.out)
          have Y11 := Lib.hid (X1318.out.num Z11.out)
          have Y13 := Lib.hid (X1618.out.num Z13.out)
          have Y14 := Lib.hid (X1618.out.num Z14.out)
          have Y16 := Lib.hid (XW18.out.num Z16.out)
          have Y18 := Lib.hid Z18.out
          clear c90 c91 c92 c93
          go_upto_region 10 with fail
          refine wp_region_tail (fun D ac w' => ∃ vs : Nat → Value, ac = { tmps := #[Value.agg #[Value.slice pa la ca, Value.slice pb lb cb], Value.agg #[Value.bool na, Value.slice p n c], Value.agg #[Value.bool nb, Value.slice q m c2], Value.pointer (some { block := w.heap.size, off := 0 }), Value.pointer (some { block := w.heap.size + 1, off := 0 }), Value.pointer (some { block := w.heap.size + 1 + 1, off := 0 }), u6, Value.bool true, undef, Value.pointer (some { block := g9, off := 0 }), Value.pointer (some { block := wd.heap.size, off := 0 }), Value.pointer (some { block := wd.heap.size + 1, off := 0 }), Value.bool ok, Value.pointer (some { block := we.heap.size, off := 0 }), Value.pointer (some { block := we.heap.size + 1, off := 0 }), Value.bool ok, Value.pointer (some { block := wf.heap.size, off := 0 }), Value.bool okg, Value.pointer (some { block := wg.heap.size, off := 0 }), Value.bool okg, Value.bool true, ws 0, ws 1, ws 2, ws 3, ws 4, ws 5, ws 6, ws 7, ws 8, ws 9, ws 10, ws 11, ws 12, ws 13, ws 14, ws 16, us 0, us 1, us 2, us 3, us 4, us 5, us 6, us 7, us 8, us 9, us 10, us 11, us 12, us 13, us 14, Value.slice (some { block := G, off := 0 }) 3 3, Value.int IntKind.i64 3, Value.int IntKind.i64 ↑k, u55, u56, u57, Value.tuple #[Value.agg #[Value.bool nq, Value.slice p10 n10 c10], Value.agg #[Value.bool nr, Value.slice p11 n11 c11], Value.bool ok], Value.pointer (some { block := g9, off := 0 }), Value.agg #[Value.bool u0, Value.slice v0 l0 e0], Value.pointer (some { block := g9, off := 2 }), Value.agg #[Value.bool u1, Value.slice v1 l1 e1], Value.tuple #[Value.agg #[Value.bool nq, Value.slice p10 n10 c10], Value.agg #[Value.bool nr, Value.slice p11 n11 c11], Value.bool ok], Value.agg #[Value.bool nq, Value.slice p10 n10 c10], Value.agg #[Value.bool nr, Value.slice p11 n11 c11], Value.bool ok, Value.tuple #[Value.agg #[Value.bool nq, Value.slice p13 n13 c13], Value.agg #[Value.bool nr, Value.slice p14 n14 c14], Value.bool ok], Value.pointer (some { block := g9, off := 0 }), Value.agg #[Value.bool u0, Value.slice v0 l0 e0], Value.pointer (some { block := g9, off := 2 }), Value.agg #[Value.bool u1, Value.slice v1 l1 e1], Value.tuple #[Value.agg #[Value.bool nq, Value.slice p13 n13 c13], Value.agg #[Value.bool nr, Value.slice p14 n14 c14], Value.bool ok], Value.agg #[Value.bool nq, Value.slice p13 n13 c13], Value.agg #[Value.bool nr, Value.slice p14 n14 c14], Value.bool ok, Value.tuple #[Value.agg #[Value.bool ng, Value.slice p16 n16 c16], Value.bool okg], Value.pointer (some { block := g9, off := 0 }), Value.agg #[Value.bool u0, Value.slice v0 l0 e0], Value.pointer (some { block := g9, off := 2 }), Value.agg #[Value.bool u1, Value.slice v1 l1 e1], Value.tuple #[Value.agg #[Value.bool ng, Value.slice p16 n16 c16], Value.bool okg], Value.agg #[Value.bool ng, Value.slice p16 n16 c16], Value.bool okg, Value.tuple #[Value.agg #[Value.bool ng, Value.slice p18 n18 c18], Value.bool okg], Value.pointer (some { block := g9, off := 0 }), Value.agg #[Value.bool u0, Value.slice v0 l0 e0], Value.pointer (some { block := g9, off := 2 }), Value.agg #[Value.bool u1, Value.slice v1 l1 e1], Value.tuple #[Value.agg #[Value.bool ng, Value.slice p18 n18 c18], Value.bool okg], Value.agg #[Value.bool ng, Value.slice p18 n18 c18], Value.bool okg, vs 0, vs 1, vs 2, vs 3, vs 4, vs 5, vs 6, vs 7, vs 8, vs 9, vs 10, vs 11, vs 12, vs 13, vs 14, vs 15, vs 16, vs 17, vs 18, vs 19, vs 20, vs 21, vs 22, vs 23, vs 24, vs 25, vs 26, vs 27, vs 28, vs 29, vs 30, vs 31, vs 32, vs 33, vs 34, u127, undef], defers := [] } ∧ Ext W18 w' ∧ ∀ j, D j → divF g9 (.agg #[.bool nq, .slice p10 n10 c10]) (.agg #[.bool nr, .slice p11 n11 c11]) (.agg #[.bool nq, .slice p13 n13 c13]) (.agg #[.bool nr, .slice p14 n14 c14]) (.agg #[.bool ng, .slice p16 n16 c16]) (.agg #[.bool ng, .slice p18 n18 c18]) (.agg #[.bool u0, .slice v0 l0 e0]) ok okg txt j (vs j)) 35 (by kernel_rfl) (by kernel_rfl) (by kernel_rfl) ?start10 ?step10 ?fin10
          case start10 => exact ⟨fun j => match j with | 0 => u92 | 1 => u93 | 2 => u94 | 3 => u95 | 4 => u96 | 5 => u97 | 6 => u98 | 7 => u99 | 8 => u100 | 9 => u101 | 10 => u102 | 11 => u103 | 12 => u104 | 13 => u105 | 14 => u106 | 15 => u107 | 16 => u108 | 17 => u109 | 18 => u110 | 19 => u111 | 20 => u112 | 21 => u113 | 22 => u114 | 23 => u115 | 24 => u116 | 25 => u117 | 26 => u118 | 27 => u119 | 28 => u120 | 29 => u121 | 30 => u122 | 31 => u123 | 32 => u124 | 33 => u125 | 34 => u126 | _ => undef, rfl, Ext.drew _, fun _ h => h.elim⟩
          case step10 =>
            rintro i o D ac wz hin hio hnd he ⟨vs, rfl, k0, hF⟩
            rcases i with _ | _ | _ | _ | _ | _ | _ | _ | _ | _ | _ | _ | _ | _ | _ | _ | _ | _ | _ | _ | _ | _ | _ | _ | _ | _ | _ | _ | _ | _ | _ | _ | _ | _ | _ | i
            rotate_left 35
            · exact absurd hin (by omega)
            all_goals (obtain rfl := Option.some.inj (hio.symm.trans (by rfl)))
            · refine step_yes (wanted_of_none rfl _) ?_
              exact wp_of_run (run_load_num (.tmp 10) rfl wd.heap.size rfl _ _ _ _ _ (k0.row Q10.out)) ⟨upd vs 0 _, rfl, k0, inv_same hF rfl⟩
            · refine step_yes (wanted_of_none rfl _) ?_
              exact wp_of_run (run_load_num (.tmp 13) rfl we.heap.size rfl _ _ _ _ _ (k0.row Q13.out)) ⟨upd vs 1 _, rfl, k0, inv_same hF rfl⟩
            · refine step_yes (wanted_of_none rfl _) ?_
              refine wp_of_callE (run_enter2 15 (.tmp 92) (.tmp 93) _ rfl _ _ (by exact (hF 0 (he ⟨0, .data⟩ (by simp) rfl))) (by exact (hF 1 (he ⟨1, .data⟩ (by simp) rfl))) ent_same) (same_calls _ _ qz wz (k0.num Y10.out) (k0.num Y13.out)) ?_
              rintro e w' ⟨rfl, hx⟩
              exact ⟨_, rfl, upd vs 2 _, rfl, k0.trans hx, inv_same hF rfl⟩
            · refine step_yes (wanted_of_none rfl _) ?_
              exact wp_of_run (run_not (.tmp 94) rfl true (by exact (hF 2 (he ⟨2, .data⟩ (by simp) rfl)))) ⟨upd vs 3 _, rfl, k0, inv_same hF rfl⟩
            · refine step_yes (wanted_of_none rfl _) ?_
              exact wp_of_run (run_mov (.tmp 95) rfl _ (by exact (hF 3 (he ⟨3, .data⟩ (by simp) rfl)))) ⟨upd vs 4 _, rfl, k0, inv_same hF rfl⟩
            · refine step_yes (wanted_g (j := 4) (d := 96) rfl rfl rfl (hF 4 (he ⟨4, .guard⟩ (by simp) rfl))) ?_
              exact wp_of_run (run_load_num (.tmp 11) rfl (wd.heap.size + 1) rfl _ _ _ _ _ (k0.row Q11.out)) ⟨upd vs 5 _, rfl, k0, inv_same hF rfl⟩
            · refine step_yes (wanted_g (j := 4) (d := 96) rfl rfl rfl (hF 4 (he ⟨4, .guard⟩ (by simp) rfl))) ?_
              exact wp_of_run (run_load_num (.tmp 14) rfl (we.heap.size + 1) rfl _ _ _ _ _ (k0.row Q14.out)) ⟨upd vs 6 _, rfl, k0, inv_same hF rfl⟩
            · refine step_yes (wanted_g (j := 4) (d := 96) rfl rfl rfl (hF 4 (he ⟨4, .chain⟩ (by simp) rfl))) ?_
              refine wp_of_callE (run_enter2 15 (.tmp 97) (.tmp 98) _ rfl _ _ (by exact (hF 5 (he ⟨5, .data⟩ (by simp) rfl))) (by exact (hF 6 (he ⟨6, .data⟩ (by simp) rfl))) ent_same) (same_calls _ _ rz wz (k0.num Y11.out) (k0.num Y14.out)) ?_
              rintro e w' ⟨rfl, hx⟩
              exact ⟨_, rfl, upd vs 7 _, rfl, k0.trans hx, inv_same hF rfl⟩
            · refine step_yes (wanted_g (j := 4) (d := 96) rfl rfl rfl (hF 4 (he ⟨4, .guard⟩ (by simp) rfl))) ?_
              exact wp_of_run (run_not (.tmp 99) rfl true (by exact (hF 7 (he ⟨7, .data⟩ (by simp) rfl)))) ⟨upd vs 8 _, rfl, k0, inv_same hF rfl⟩
            · refine step_yes (wanted_of_none rfl _) ?_
              exact wp_of_run (run_pick_f (.tmp 96) (.const (.bool true)) (.tmp 100) rfl (by exact (hF 4 (he ⟨4, .data⟩ (by simp) rfl)))) ⟨upd vs 9 _, rfl, k0, inv_same hF (hF 8 (he ⟨8, .data⟩ (by simp) rfl))⟩
            · refine step_yes (wanted_of_none rfl _) ?_
              exact wp_of_run (run_mov (.tmp 101) rfl _ (by exact (hF 9 (he ⟨9, .data⟩ (by simp) rfl)))) ⟨upd vs 10 _, rfl, k0, inv_same hF rfl⟩
            · refine step_yes (wanted_g (j := 10) (d := 102) rfl rfl rfl (hF 10 (he ⟨10, .guard⟩ (by simp) rfl))) ?_
              exact wp_of_run (run_mov (.tmp 12) rfl _ rfl) ⟨upd vs 11 _, rfl, k0, inv_same hF rfl⟩
            · refine step_yes (wanted_g (j := 10) (d := 102) rfl rfl rfl (hF 10 (he ⟨10, .guard⟩ (by simp) rfl))) ?_
              exact wp_of_run (run_mov (.tmp 15) rfl _ rfl) ⟨upd vs 12 _, rfl, k0, inv_same hF rfl⟩
            · refine step_yes (wanted_g (j := 10) (d := 102) rfl rfl rfl (hF 10 (he ⟨10, .guard⟩ (by simp) rfl))) ?_
              exact wp_of_run (run_neq_b (.tmp 103) (.tmp 104) rfl ok (by exact (hF 11 (he ⟨11, .data⟩ (by simp) rfl))) (by exact (hF 12 (he ⟨12, .data⟩ (by simp) rfl)))) ⟨upd vs 13 _, rfl, k0, inv_same hF rfl⟩
            · refine step_yes (wanted_of_none rfl _) ?_
              exact wp_of_run (run_pick_f (.tmp 102) (.const (.bool true)) (.tmp 105) rfl (by exact (hF 10 (he ⟨10, .data⟩ (by simp) rfl)))) ⟨upd vs 14 _, rfl, k0, inv_same hF (hF 13 (he ⟨13, .data⟩ (by simp) rfl))⟩
            · refine step_yes (wanted_of_none rfl _) ?_
              exact wp_of_run (run_mov (.tmp 106) rfl _ (by exact (hF 14 (he ⟨14, .data⟩ (by simp) rfl)))) ⟨upd vs 15 _, rfl, k0, inv_same hF rfl⟩
            · refine step_yes (wanted_g (j := 15) (d := 107) rfl rfl rfl (hF 15 (he ⟨15, .guard⟩ (by simp) rfl))) ?_
              exact wp_of_run (run_load_num (.tmp 16) rfl wf.heap.size rfl _ _ _ _ _ (k0.row Q16.out)) ⟨upd vs 16 _, rfl, k0, inv_same hF rfl⟩
            · refine step_yes (wanted_g (j := 15) (d := 107) rfl rfl rfl (hF 15 (he ⟨15, .guard⟩ (by simp) rfl))) ?_
              exact wp_of_run (run_load_num (.tmp 18) rfl wg.heap.size rfl _ _ _ _ _ (k0.row Q18.out)) ⟨upd vs 17 _, rfl, k0, inv_same hF rfl⟩
            · refine step_yes (wanted_g (j := 15) (d := 107) rfl rfl rfl (hF 15 (he ⟨15, .chain⟩ (by simp) rfl))) ?_
              refine wp_of_callE (run_enter2 15 (.tmp 108) (.tmp 109) _ rfl _ _ (by exact (hF 16 (he ⟨16, .data⟩ (by simp) rfl))) (by exact (hF 17 (he ⟨17, .data⟩ (by simp) rfl))) ent_same) (same_calls _ _ gz wz (k0.num Y16.out) (k0.num Y18.out)) ?_
              rintro e w' ⟨rfl, hx⟩
              exact ⟨_, rfl, upd vs 18 _, rfl, k0.trans hx, inv_same hF rfl⟩
            · refine step_yes (wanted_g (j := 15) (d := 107) rfl rfl rfl (hF 15 (he ⟨15, .guard⟩ (by simp) rfl))) ?_
              exact wp_of_run (run_not (.tmp 110) rfl true (by exact (hF 18 (he ⟨18, .data⟩ (by simp) rfl)))) ⟨upd vs 19 _, rfl, k0, inv_same hF rfl⟩
            · refine step_yes (wanted_of_none rfl _) ?_
              exact wp_of_run (run_pick_f (.tmp 107) (.const (.bool true)) (.tmp 111) rfl (by exact (hF 15 (he ⟨15, .data⟩ (by simp) rfl)))) ⟨upd vs 20 _, rfl, k0, inv_same hF (hF 19 (he ⟨19, .data⟩ (by simp) rfl))⟩
            · refine step_yes (wanted_of_none rfl _) ?_
              exact wp_of_run (run_mov (.tmp 112) rfl _ (by exact (hF 20 (he ⟨20, .data⟩ (by simp) rfl)))) ⟨upd vs 21 _, rfl, k0, inv_same hF rfl⟩
            · refine step_yes (wanted_g (j := 21) (d := 113) rfl rfl rfl (hF 21 (he ⟨21, .guard⟩ (by simp) rfl))) ?_
              exact wp_of_run (run_mov (.tmp 17) rfl _ rfl) ⟨upd vs 22 _, rfl, k0, inv_same hF rfl⟩
            · refine step_yes (wanted_g (j := 21) (d := 113) rfl rfl rfl (hF 21 (he ⟨21, .guard⟩ (by simp) rfl))) ?_
              exact wp_of_run (run_mov (.tmp 19) rfl _ rfl) ⟨upd vs 23 _, rfl, k0, inv_same hF rfl⟩
            · refine step_yes (wanted_g (j := 21) (d := 113) rfl rfl rfl (hF 21 (he ⟨21, .guard⟩ (by simp) rfl))) ?_
              exact wp_of_run (run_neq_b (.tmp 114) (.tmp 115) rfl okg (by exact (hF 22 (he ⟨22, .data⟩ (by simp) rfl))) (by exact (hF 23 (he ⟨23, .data⟩ (by simp) rfl)))) ⟨upd vs 24 _, rfl, k0, inv_same hF rfl⟩
            · refine step_yes (wanted_of_none rfl _) ?_
              exact wp_of_run (run_pick_f (.tmp 113) (.const (.bool true)) (.tmp 116) rfl (by exact (hF 21 (he ⟨21, .data⟩ (by simp) rfl)))) ⟨upd vs 25 _, rfl, k0, inv_same hF (hF 24 (he ⟨24, .data⟩ (by simp) rfl))⟩
            · refine step_yes (wanted_of_none rfl _) ?_
              exact wp_of_run (run_mov (.tmp 117) rfl _ (by exact (hF 25 (he ⟨25, .data⟩ (by simp) rfl)))) ⟨upd vs 26 _, rfl, k0, inv_same hF rfl⟩
            · refine step_yes (wanted_g (j := 26) (d := 118) rfl rfl rfl (hF 26 (he ⟨26, .guard⟩ (by simp) rfl))) ?_
              exact wp_of_run (run_idxp (.tmp 9) rfl g9 rfl) ⟨upd vs 27 _, rfl, k0, inv_same hF rfl⟩
            · refine step_yes (wanted_g (j := 26) (d := 118) rfl rfl rfl (hF 26 (he ⟨26, .guard⟩ (by simp) rfl))) ?_
              exact wp_of_run (run_load_num0 (.tmp 119) rfl g9 (by exact (hF 27 (he ⟨27, .data⟩ (by simp) rfl))) _ _ _ _ _ _ _ _ (k0.row RC18.out)) ⟨upd vs 28 _, rfl, k0, inv_same hF rfl⟩
            · refine step_yes (wanted_g (j := 26) (d := 118) rfl rfl rfl (hF 26 (he ⟨26, .chain⟩ (by simp) rfl))) ?_
              refine wp_of_callE (run_enter1 16 (.tmp 120) _ rfl _ (by exact (hF 28 (he ⟨28, .data⟩ (by simp) rfl))) ent_text) ((HTX.out wz (XC18.out.trans k0)).1) ?_
              rintro e w' ⟨rfl, hx⟩
              exact ⟨_, rfl, upd vs 29 _, rfl, k0.trans hx, inv_same hF rfl⟩
            · refine step_yes (wanted_g (j := 26) (d := 118) rfl rfl rfl (hF 26 (he ⟨26, .guard⟩ (by simp) rfl))) ?_
              exact wp_of_run (run_idxp (.tmp 9) rfl g9 rfl) ⟨upd vs 30 _, rfl, k0, inv_same hF rfl⟩
            · refine step_yes (wanted_g (j := 26) (d := 118) rfl rfl rfl (hF 26 (he ⟨26, .guard⟩ (by simp) rfl))) ?_
              exact wp_of_run (run_load_num0 (.tmp 122) rfl g9 (by exact (hF 30 (he ⟨30, .data⟩ (by simp) rfl))) _ _ _ _ _ _ _ _ (k0.row RC18.out)) ⟨upd vs 31 _, rfl, k0, inv_same hF rfl⟩
            · refine step_yes (wanted_g (j := 26) (d := 118) rfl rfl rfl (hF 26 (he ⟨26, .guard⟩ (by simp) rfl))) ?_
              refine wp_of_callE (run_enter1 17 (.tmp 123) _ rfl _ (by exact (hF 31 (he ⟨31, .data⟩ (by simp) rfl))) ent_rtext) ((HTX.out wz (XC18.out.trans k0)).2) ?_
              rintro e w' ⟨rfl, hx⟩
              exact ⟨_, rfl, upd vs 32 _, rfl, k0.trans hx, inv_same hF rfl⟩
            · refine step_yes (wanted_g (j := 26) (d := 118) rfl rfl rfl (hF 26 (he ⟨26, .guard⟩ (by simp) rfl))) ?_
              exact wp_of_run (run_neq_same (.tmp 121) (.tmp 124) rfl txt (by exact (hF 29 (he ⟨29, .data⟩ (by simp) rfl))) (by exact (hF 32 (he ⟨32, .data⟩ (by simp) rfl)))) ⟨upd vs 33 _, rfl, k0, inv_same hF rfl⟩
            · refine step_yes (wanted_of_none rfl _) ?_
              exact wp_of_run (run_pick_f (.tmp 118) (.const (.bool true)) (.tmp 125) rfl (by exact (hF 26 (he ⟨26, .data⟩ (by simp) rfl)))) ⟨upd vs 34 _, rfl, k0, inv_same hF (hF 33 (he ⟨33, .data⟩ (by simp) rfl))⟩
          case fin10 =>
            rintro D ac w5 hD ⟨vs, rfl, k0, hF⟩
            change wpList _ _ _ [] _ _
            unfold wpList
            have h34 : vs 34 = .bool false := hF 34 (hD 34 (by simp))
            rw [h34]
            have X5 := Lib.hid (XC18.out.trans k0)
            clear hF hD h34 k0
            generalize vs = ts
            go_wp2_with fail
            go_roundg (gk - 1)
            case measure => omega
            case rel => exact ⟨k + 1, by omega, by go_num, HXc.out.trans X5.out⟩

end Go.Proofs.YtdaipflgcgefgaaDoor
