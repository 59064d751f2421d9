/- Texts that belong together. -/
import Derived.Deep.LoopGhost
import Derived.Test.YtmoclgpdcnjacaaRows
import Derived.Defers
import Derived.Recover
import Derived.Test.YtmoclgpdcnjacaaP2
set_option linter.all false
namespace Go.Proofs.Ytmoclgpdcnjacaa
open Go Go.RowKit Go.Shelf
theorem right_any (neg : Bool) (p : Option Addr) (n c : Nat) (ds : List Nat) (w : World) (hu : U32s w.heap.size w (.slice p n c) ds) : Calls Try.prog 69 #[.agg #[.bool neg, .slice p n c]] w fun e w' => e = .returned (.bool (rightB neg ds)) ∧ Ext w w' := right_calls neg _ ds w hu
set_option maxRecDepth 100000 in
set_option maxHeartbeats 2000000 in
theorem short_calls (neg : Bool) (p : Option Addr) (n c : Nat) (ds : List Nat) (k : Nat) (w : World) (hu : U32s w.heap.size w (.slice p n c) ds) :
    Calls Try.prog 75 #[.agg #[.bool neg, .slice p n c], .int .i64 (k : Int)] w fun e w' => e = .returned (.bool (rightB neg ds && decide (n ≤ k))) ∧ Ext w w' := by
  obtain ⟨W1, hW1⟩ : ∃ W1, W1 = w.alloc (.cells #[.bool neg, .slice p n c] 69) := ⟨_, rfl⟩
  have hx1 : Ext w W1 := by rw [hW1]; exact Ext.alloc _ _
  have hr1 : RowAt W1 w.heap.size 69 (numCells neg p n c) := by rw [hW1]; exact RowAt.new' _ _ (by simp)
  have HC := Lib.hid (right_any neg p n c ds W1 (hx1.u32s hu))
  have Hx1 := Lib.hid hx1
  have Hr1 := Lib.hid hr1
  have HW1 := Lib.hid hW1
  generalize rightB neg ds = b at *
  clear hu hx1 hr1 hW1
  go_enter Try.func75, Try.ntmps75
  go_wp2_with fail
  rw [← HW1.out]
  refine HC.out.mono ?_
  rintro e w1 ⟨rfl, hx⟩
  have h1 := (hx.row Hr1.out).num1
  have HX := Lib.hid (Hx1.out.trans hx)
  clear hx
  cases b
  · go_wp2
    go_ret
    exact ⟨rfl, HX.out⟩
  · by_cases hk : n ≤ k
    · have hkI : (n : Int) ≤ (k : Int) := by omega
      go_wp2
      go_ret
      exact ⟨by simp [hk], HX.out⟩
    · have hkI : ¬ (n : Int) ≤ (k : Int) := by omega
      go_wp2
      go_ret
      exact ⟨by simp [hk], HX.out⟩
theorem cmp_ok (va vb : Value) (za zb : Int) (w : World) (ha : ZNum w.heap.size w va za) (hb : ZNum w.heap.size w vb zb) :
    Calls Try.prog 56 #[va, vb] w fun e w' => e = .returned (.int .i64 (zcmp za zb)) ∧ Ext w w' := cmp_calls va vb za zb w ha hb
theorem of_ok (z : Int) (h1 : -9223372036854775808 ≤ z) (h2 : z ≤ 9223372036854775807) (w : World) : Calls Try.prog 57 #[.int .i64 z] w (Gives1 w z (decide (z < 0))) := of_gives z h1 h2 rfl w
theorem ent_of (args : Array Value) (w : World) : (callFunc 57 args).run Try.prog w = .ok (.enter 57 args) w := enters_of Try.func57 (by kernel_rfl) rfl args w
theorem ent_cmp (args : Array Value) (w : World) : (callFunc 56 args).run Try.prog w = .ok (.enter 56 args) w := enters_of Try.func56 (by kernel_rfl) rfl args w
def IsN (z : Int) (v : Value) (W : World) : Prop := ZNum W.heap.size W v z
theorem IsN.ext {z : Int} {v : Value} {W W' : World} (h : IsN z v W) (hx : Ext W W') : IsN z v W' := hx.num h
theorem gives1_isn {W : World} {z : Int} {neg : Bool} {p : Option Addr} {n c : Nat} (h : ZNum W.heap.size W (.agg #[.bool neg, .slice p n c]) z) : IsN z (.agg #[.bool neg, .slice p n c]) W := h
def cwF (va : Value) (z k : Int) : Nat → Value → World → Prop
  | 0, v, _ => v = va
  | 1, v, W => IsN k v W
  | 2, v, _ => v = .int .i64 (zcmp z k)
  | 3, v, _ => v = .bool (zcmp z k == 0)
  | _, _, _ => True
theorem cwF_mono {va : Value} {z k : Int} {W W' : World} (hx : Ext W W') : ∀ (j : Nat) (v : Value), cwF va z k j v W → cwF va z k j v W'
  | 0, _, h | 2, _, h | 3, _, h => h
  | 1, _, h => h.ext hx
  | _ + 4, _, _ => trivial
-- GENERATED
set_option maxRecDepth 100000 in
set_option maxHeartbeats 2000000 in
theorem side_calls (va : Value) (z : Int) (w : World) (ha : ZNum w.heap.size w va z) :
    Calls Try.prog 87 #[va] w fun e w' => e = .returned (.int .i64 (zcmp z 0)) ∧ Ext w w' := by
  obtain ⟨p, c, hva⟩ := ha.parts
  obtain ⟨W1, hW1⟩ : ∃ W1, W1 = w.alloc (.cells #[.bool (decide (z < 0)), .slice p (digs z.natAbs).length c] 69) := ⟨_, rfl⟩
  have hx1 : Ext w W1 := by rw [hW1]; exact Ext.alloc _ _
  have HR1 : Hid (RowAt W1 w.heap.size 69 (numCells (decide (z < 0)) p (digs z.natAbs).length c)) := by rw [hW1]; exact RowAt.new' _ _ (by simp)
  have HZ1 := Lib.hid (hx1.num ha)
  have Hx1 := Lib.hid hx1
  have HW1 := Lib.hid hW1
  generalize decide (z < 0) = neg at *
  generalize (digs z.natAbs).length = n at *
  subst hva
  clear ha hx1 hW1
  go_enter Try.func87, Try.ntmps87
  go_upto_region 1 with fail
  rw [← HW1.out]
  refine wp_region_tail (fun D ac w' => ∃ vs : Nat → Value, ac = { tmps := #[.agg #[.bool neg, .slice p n c], .pointer (some ⟨w.heap.size, 0, none⟩), .int .i64 0, vs 0, vs 1, vs 2], defers := [] } ∧ Ext W1 w' ∧ ∀ j, D j → cwF (.agg #[.bool neg, .slice p n c]) z 0 j (vs j) w') 3 (by kernel_rfl) (by kernel_rfl) (by kernel_rfl) ?start1 ?step1 ?fin1
  case start1 => exact ⟨fun _ => undef, rfl, Ext.drew _, fun _ h => h.elim⟩
  case step1 =>
    rintro i o D ac wz hin hio hnd he ⟨vs, rfl, k0, hF⟩
    rcases i with _ | _ | _ | i
    rotate_left 3
    · exact absurd hin (by omega)
    all_goals (obtain rfl := Option.some.inj (hio.symm.trans (by rfl)))
    · refine step_yes (wanted_of_none rfl _) ?_
      exact wp_of_run (run_load_num (.tmp 1) rfl w.heap.size rfl _ _ _ _ _ (k0.row HR1.out)) ⟨upd vs 0 _, rfl, k0, inv_step hF (fun _ _ h => h) rfl⟩
    · refine step_yes (wanted_of_none rfl _) ?_
      refine wp_of_callE (run_enter1 57 (.const (.int .i64 0)) _ rfl _ rfl ent_of) (of_ok 0 (by decide) (by decide) wz) ?_
      rintro e w' ⟨p9, n9, c9, rfl, hz, hx⟩
      exact ⟨_, rfl, upd vs 1 _, rfl, k0.trans hx, inv_step hF (fun j v h => cwF_mono hx j v h) (gives1_isn hz)⟩
    · refine step_yes (wanted_of_none rfl _) ?_
      refine wp_of_callE (run_enter2 56 (.tmp 3) (.tmp 4) _ rfl _ _ (by exact (hF 0 (he ⟨0, .data⟩ (by simp) rfl))) rfl ent_cmp) (cmp_ok _ _ z 0 wz (k0.num HZ1.out) (hF 1 (he ⟨1, .data⟩ (by simp) rfl))) ?_
      rintro e w' ⟨rfl, hx⟩
      exact ⟨_, rfl, upd vs 2 _, rfl, k0.trans hx, inv_step hF (fun j v h => cwF_mono hx j v h) rfl⟩
  case fin1 =>
    rintro D ac w2 hD ⟨vs, rfl, k0, hF⟩
    change wpList _ _ _ [_] _ _
    have hv : vs 2 = .int .i64 (zcmp z 0) := hF 2 (hD 2 (by decide))
    rw [hv]
    have X2 := Lib.hid (Hx1.out.trans k0)
    clear hF hD hv k0
    generalize vs = ts
    go_wp2
    go_ret
    exact ⟨rfl, X2.out⟩
end Go.Proofs.Ytmoclgpdcnjacaa
namespace Go.Proofs.Ytmoclgpdcnjacaa
open Go Go.RowKit Go.Shelf
def rootCells (a s : Int) (nn : Bool) (p : Option Addr) (n c : Nat) (nd : Bool) (q : Option Addr) (m e : Nat) : Array Value := #[.int .i64 a, .int .i64 s, .bool nn, .slice p n c, .bool nd, .slice q m e]
section
variable {W : World} {g : Nat} {t : TypeId} {a s : Int} {nn nd : Bool} {p q : Option Addr} {n c m e : Nat} (h : RowAt W g t (rootCells a s nn p n c nd q m e))
include h
end
section
variable {o : Oper} {b : Act} {w : World}
theorem run_mul_int (x y : Operand) (ho : o.op = .binOp .mul 3 x y 3) (hty : o.type = 3) (u v r : Int) (hx : b.eval x = .int .i64 u) (hy : b.eval y = .int .i64 v) (hr : IntKind.i64.wrap (u * v) = r) : (execOp b.eval o).run Try.prog w = .ok (.value (.int .i64 r)) w := by
  subst hr
  unfold execOp
  simp only [ho, hx, hy, hty]
  simp [go_sem]
theorem ent_side (args : Array Value) (w : World) : (callFunc 87 args).run Try.prog w = .ok (.enter 87 args) w := enters_of Try.func87 (by kernel_rfl) rfl args w
end
def RootV (w : World) (v : Value) (a s N D : Int) : Prop :=
  ∃ p n c q m e, v = .agg #[.int .i64 a, .int .i64 s, .bool false, .slice p n c, .bool false, .slice q m e] ∧ ZNum w.heap.size w (.agg #[.bool false, .slice p n c]) N ∧ ZNum w.heap.size w (.agg #[.bool false, .slice q m e]) D
theorem RootV.ext {w w' : World} {v : Value} {a s N D : Int} (h : RootV w v a s N D) (hx : Ext w w') : RootV w' v a s N D := by
  obtain ⟨p, n, c, q, m, e, rfl, hn, hd⟩ := h
  exact ⟨p, n, c, q, m, e, rfl, hx.num hn, hx.num hd⟩
theorem zcmp_sign (z : Int) : zcmp z 0 = z.sign := by
  unfold zcmp
  rcases Int.lt_trichotomy z 0 with h | h | h
  · rw [if_pos h, Int.sign_eq_neg_one_of_neg h]
  · subst h; rfl
  · rw [if_neg (by omega), if_pos h, Int.sign_eq_one_of_pos h]
end Go.Proofs.Ytmoclgpdcnjacaa
namespace Go.Proofs.Ytmoclgpdcnjacaa
open Go Go.RowKit Go.Shelf
def fitK (k : Nat) (z : Int) : Bool := decide ((digs z.natAbs).length ≤ k)
theorem short_z (v : Value) (z : Int) (k : Nat) (kI : Int) (hk : kI = (k : Int)) (w : World) (h : ZNum w.heap.size w v z) : Calls Try.prog 75 #[v, .int .i64 kI] w fun e w' => e = .returned (.bool (fitK k z)) ∧ Ext w w' := by
  subst hk
  obtain ⟨p, c, rfl⟩ := h.parts
  have := short_calls (decide (z < 0)) p (digs z.natAbs).length c (digs z.natAbs) k w (znum_slice h)
  rw [rightB_z h.2, Bool.true_and] at this
  exact this
end Go.Proofs.Ytmoclgpdcnjacaa
namespace Go.Proofs.Ytmoclgpdcnjacaa
open Go Go.RowKit Go.Shelf
set_option maxRecDepth 100000 in
set_option maxHeartbeats 2000000 in
theorem fitting_calls (v : Value) (z : Int) (w : World) (h : ZNum w.heap.size w v z) :
    Calls Try.prog 94 #[v, .bool true] w fun e w' => e = .returned v ∧ Ext w w' := by
  obtain ⟨p, c, rfl⟩ := h.parts
  generalize decide (z < 0) = neg at *
  generalize (digs z.natAbs).length = n at *
  clear h
  have R0 := Lib.hid (show RowAt ((w.alloc (.cells #[.bool neg, .slice p n c] 69)).alloc (.cells #[.bool false, .slice none 0 0] 69)) w.heap.size 69 (numCells neg p n c) from (RowAt.new w _ _).alloc _)
  have R1 := Lib.hid (show RowAt ((w.alloc (.cells #[.bool neg, .slice p n c] 69)).alloc (.cells #[.bool false, .slice none 0 0] 69)) (w.heap.size + 1) 69 (numCells false none 0 0) from RowAt.new' _ _ (by simp))
  go_enter Try.func94, Try.ntmps94
  go_wp2_with (first
    | (refine load_num rfl (.tmp 2) rfl w.heap.size rfl _ _ _ _ _ R0.out ?_)
    | (refine store_num rfl (.tmp 4) (.tmp 8) rfl (w.heap.size + 1) rfl _ _ _ _ rfl _ _ R1.out rfl ?_))
  exact ret_num1 rfl (w.heap.size + 1) rfl _ _ _ _ _ (R1.out.setRow _) ⟨rfl, ext_setRow ((Ext.alloc _ _).trans (Ext.alloc _ _)) (by omega) _⟩
def NumsAt (w : World) (v : Value) (zs : List Int) : Prop :=
  ∃ g c cs, v = .slice (some ⟨g, 0, none⟩) zs.length c ∧ RowAt w g 69 cs ∧ ∀ i z, zs[i]? = some z → ∃ neg p n c, cs[i * 2]? = some (.bool neg) ∧ cs[i * 2 + 1]? = some (.slice p n c) ∧ ZNum w.heap.size w (.agg #[.bool neg, .slice p n c]) z
def prodZ : List Int → Int
  | [] => 1
  | z :: zs => z * prodZ zs
theorem prodZ_snoc : ∀ (zs : List Int) (z : Int), prodZ (zs ++ [z]) = prodZ zs * z
  | [], z => by simp [prodZ]
  | y :: zs, z => by
    show y * prodZ (zs ++ [z]) = y * prodZ zs * z
    rw [prodZ_snoc zs z, Int.mul_assoc]
theorem take_snoc {α : Type} {zs : List α} {k : Nat} {z : α} (h : zs[k]? = some z) : zs.take (k + 1) = zs.take k ++ [z] := by
  rw [List.take_succ, h]; rfl
set_option maxRecDepth 100000 in
set_option maxHeartbeats 4000000 in
theorem rootProduct_calls (v : Value) (zs : List Int) (w : World) (hv : NumsAt w v zs) (hm : zs.length ≤ 8) (hlim : ∀ k, k ≤ zs.length → (prodZ (zs.take k)).natAbs < B32 ^ 64) :
    Calls Try.prog 88 #[v] w fun e w' => ∃ r, e = .returned r ∧ ZNum w'.heap.size w' r (prodZ zs) ∧ Ext w w' := by
  obtain ⟨g, cp, cs, rfl, hrow, hz⟩ := hv
  obtain ⟨n, hn⟩ : ∃ n, n = zs.length := ⟨_, rfl⟩
  rw [← hn] at hlim hm ⊢
  have Hlim := Lib.hid hlim
  have Hn := Lib.hid hn
  have Hz := Lib.hid hz
  have Hm := Lib.hid hm
  have F_ := Lib.hid hrow
  have FF := F_
  have E := Lib.hid (Ext.refl w)
  clear hrow hz hn hlim hm
  obtain ⟨W0a, hW0a⟩ : ∃ W0a, W0a = (w.alloc (.cells #[.bool false, .slice none 0 0] 69)) := ⟨_, rfl⟩
  have hx : Ext w W0a := by rw [hW0a]; exact (Ext.alloc _ _)
  have R_n : RowAt W0a (w.heap.size) 69 (numCells false none 0 0) := by rw [hW0a]; exact (RowAt.new' _ _ (by simp))
  have F_1 := Lib.hid (hx.row F_.out)
  have E1 := Lib.hid (E.out.trans hx)
  clear F_ E
  have R_1 := Lib.hid R_n
  have HW0a := Lib.hid hW0a
  clear hx hW0a R_n
  go_enter Try.func88, Try.ntmps88
  go_wp2_with fail
  rw [← HW0a.out]
  refine (of_gives (neg := false) 1 (by decide) (by decide) rfl W0a).mono ?_
  rintro e w2_ ⟨p1, n1, c1, rfl, hz1, hx⟩
  have X01 := Lib.hid hx
  have F_2 := Lib.hid (hx.row F_1.out)
  have E2 := Lib.hid (E1.out.trans hx)
  have R_2 := Lib.hid (hx.row R_1.out)
  clear F_1 E1 R_1
  have ZT2 := Lib.hid hz1
  clear hx hz1
  obtain ⟨W2b, hW2b⟩ : ∃ W2b, W2b = (w2_.alloc (.cells #[.bool false, .slice none 0 0] 69)).setRow w2_.heap.size (numCells false p1 n1 c1) := ⟨_, rfl⟩
  have hx : Ext w2_ W2b := by rw [hW2b]; exact ext_setRow (Ext.alloc _ _) (Nat.le_refl _) _
  have T_n : RowAt W2b w2_.heap.size 69 (numCells false p1 n1 c1) := by rw [hW2b]; exact (RowAt.new _ _ _).setRow _
  have F_3 := Lib.hid (hx.row F_2.out)
  have E3 := Lib.hid (E2.out.trans hx)
  have R_3 := Lib.hid (hx.row R_2.out)
  have ZT3 := Lib.hid (hx.num ZT2.out)
  clear F_2 E2 R_2 ZT2
  have T_3 := Lib.hid T_n
  have HW2b := Lib.hid hW2b
  clear hx hW2b T_n
  go_wp2_with (first | (refine store_num rfl (.tmp 3) (.tmp 6) rfl w2_.heap.size rfl _ _ _ _ rfl _ _ (RowAt.new' _ _ rfl) rfl ?_; rw [← HW2b.out]))
  have HE := Lib.hid E3.out
  have LT := Lib.hid T_3.out.lt
  have LR : Hid (w.heap.size < w2_.heap.size) := by
    have h1 := Below.size (show Ext W0a w2_ from X01.out)
    have h2 := (show W0a.heap.size = w.heap.size + 1 by rw [HW0a.out]; simp)
    show w.heap.size < w2_.heap.size
    omega
  go_loopg [9] n (fun gk i wr => ∃ k : Nat, k + gk = n ∧ i = .int .i64 (k : Int) ∧ (∃ nt pt mt ct, RowAt wr w2_.heap.size 69 (numCells nt pt mt ct) ∧ ZNum wr.heap.size wr (.agg #[.bool nt, .slice pt mt ct]) (prodZ (zs.take k))) ∧ RowAt wr w.heap.size 69 (numCells false none 0 0) ∧ Ext w wr)
  case atStart => exact ⟨0, by omega, rfl, ⟨_, _, _, _, T_3.out, ZT3.out⟩, R_3.out, HE.out⟩
  case round =>
    obtain ⟨k, hk, rfl, ⟨nt, pt, mt, ct, hT, hZ⟩, hR, hE⟩ := hrel
    clear E3 T_3 R_3 ZT3
    have T_ := Lib.hid hT
    have ZT := Lib.hid hZ
    have R_ := Lib.hid hR
    have E := Lib.hid hE
    clear hT hZ hR hE
    by_cases hkn : k < n
    · have hkI : (k : Int) < (n : Int) := by omega
      have Hk := Lib.hid hk
      have Hkn := Lib.hid hkn
      obtain ⟨z, hz⟩ : ∃ z, zs[k]? = some z := ⟨_, List.getElem?_eq_getElem (by rw [← Hn.out]; exact hkn)⟩
      obtain ⟨nf, pf, mf, cf, f0, f1, hzf⟩ := Hz.out k z hz
      have f0' := (E.out.row FF.out).cell (k * 2)
      have f1' := (E.out.row FF.out).cell (k * 2 + 1)
      rw [f0] at f0'
      rw [f1] at f1'
      have ZF := Lib.hid (E.out.num hzf)
      have hl1 := Hlim.out (k + 1) (by omega)
      rw [take_snoc hz, prodZ_snoc] at hl1
      have Hl := Lib.hid hl1
      have Hzk := Lib.hid hz
      have hk0 : (0 : Int) ≤ (k : Int) := by omega
      have hk9 : (k : Int) < 9 := by have := Hm.out; omega
      clear hzf f0 f1 hl1 hz hk hkn
      obtain ⟨W20b, hW20b⟩ : ∃ W20b, W20b = (wr.alloc (.cells #[.bool false, .slice none 0 0] 69)).setRow wr.heap.size (numCells nf pf mf cf) := ⟨_, rfl⟩
      have hx : Ext wr W20b := by rw [hW20b]; exact ext_setRow (Ext.alloc _ _) (Nat.le_refl _) _
      have G_n : RowAt W20b wr.heap.size 69 (numCells nf pf mf cf) := by rw [hW20b]; exact (RowAt.new _ _ _).setRow _
      have T_21 := Lib.hid (hx.row T_.out)
      have ZT21 := Lib.hid (hx.num ZT.out)
      have R_21 := Lib.hid (hx.row R_.out)
      have E21 := Lib.hid (E.out.trans hx)
      have ZF21 := Lib.hid (hx.num ZF.out)
      clear T_ ZT R_ E ZF
      have G_21 := Lib.hid G_n
      have HW20b := Lib.hid hW20b
      clear hx hW20b G_n
      have cT__num0_21 := T_21.out.num0
      have cT__num1_21 := T_21.out.num1
      have cG__num0_21 := G_21.out.num0
      have cG__num1_21 := G_21.out.num1
      go_wp2_with (first | (refine store_num rfl (.tmp 5) (.tmp 12) rfl wr.heap.size rfl _ _ _ _ rfl _ _ (RowAt.new' _ _ rfl) rfl ?_; rw [← HW20b.out]))
      refine (mul_gives ZT21.out ZF21.out rfl rfl Hl.out).mono ?_
      rintro e w22_ ⟨pm, nm, cm, rfl, hz, hx⟩
      clear cT__num0_21 cT__num1_21 cG__num0_21 cG__num1_21
      have T_22 := Lib.hid (hx.row T_21.out)
      have ZT22 := Lib.hid (hx.num ZT21.out)
      have R_22 := Lib.hid (hx.row R_21.out)
      have E22 := Lib.hid (E21.out.trans hx)
      have ZF22 := Lib.hid (hx.num ZF21.out)
      have G_22 := Lib.hid (hx.row G_21.out)
      clear T_21 ZT21 R_21 E21 ZF21 G_21
      have ZM22 := Lib.hid hz
      clear hx hz
      clear f0' f1'
      go_wp2_with fail
      refine (fitting_calls _ _ w22_ ZM22.out).mono ?_
      rintro e w23_ ⟨rfl, hx⟩
      have T_23 := Lib.hid (hx.row T_22.out)
      have ZT23 := Lib.hid (hx.num ZT22.out)
      have R_23 := Lib.hid (hx.row R_22.out)
      have E23 := Lib.hid (E22.out.trans hx)
      have ZF23 := Lib.hid (hx.num ZF22.out)
      have G_23 := Lib.hid (hx.row G_22.out)
      have ZM23 := Lib.hid (hx.num ZM22.out)
      clear T_22 ZT22 R_22 E22 ZF22 G_22 ZM22
      clear hx
      obtain ⟨W23c, hW23c⟩ : ∃ W23c, W23c = w23_.setRow w2_.heap.size (numCells (decide (prodZ (List.take k zs) * z < 0)) pm nm cm) := ⟨_, rfl⟩
      have T_24 : Hid (RowAt W23c w2_.heap.size 69 (numCells (decide (prodZ (List.take k zs) * z < 0)) pm nm cm)) := by rw [hW23c]; exact T_23.out.setRow _
      have ZT24 := Lib.hid (show ZNum W23c.heap.size W23c _ _ from by rw [hW23c, setRow_size]; exact ZT23.out.setNum T_23.out _)
      have R_24 := Lib.hid (show RowAt W23c w.heap.size _ _ from by rw [hW23c]; exact R_23.out.setRowOther _ (by have := LR.out; omega))
      have E24 : Hid (Ext w W23c) := by rw [hW23c]; exact ext_setRow E23.out (by have := LR.out; omega) _
      have ZF24 := Lib.hid (show ZNum W23c.heap.size W23c _ _ from by rw [hW23c, setRow_size]; exact ZF23.out.setNum T_23.out _)
      have ZM24 := Lib.hid (show ZNum W23c.heap.size W23c _ _ from by rw [hW23c, setRow_size]; exact ZM23.out.setNum T_23.out _)
      have HW23c := Lib.hid hW23c
      clear hW23c ZT23 R_23 E23 ZF23 ZM23
      go_wp2_with (first | (refine store_num rfl (.tmp 3) (.tmp 18) rfl w2_.heap.size rfl _ _ _ _ rfl _ _ T_23.out rfl ?_; rw [← HW23c.out]))
      go_wp2_with fail
      go_roundg (gk - 1)
      case measure => have := Hk.out; have := Hkn.out; omega
      case rel =>
        refine ⟨k + 1, by have := Hk.out; have := Hkn.out; omega, by go_num, ⟨_, _, _, _, T_24.out, ?_⟩, R_24.out, E24.out⟩
        rw [take_snoc Hzk.out, prodZ_snoc]
        exact ZM24.out
    · have hkI : ¬ (k : Int) < (n : Int) := by omega
      have hkn' : k = n := by omega
      have htk : zs.take k = zs := List.take_of_length_le (by rw [← Hn.out]; omega)
      rw [htk] at ZT
      have h0 := T_.out.num0
      have h1 := T_.out.num1
      clear hk hkn hkn' htk
      go_wp2_with (refine store_num rfl (.tmp 2) (.tmp 20) rfl w.heap.size rfl _ _ _ _ rfl _ _ R_.out rfl ?_)
      exact ret_num1 rfl w.heap.size rfl _ _ _ _ _ (R_.out.setRow _) ⟨_, rfl, by rw [setRow_size]; exact ZT.out.setNum R_.out _, ext_setRow E.out (Nat.le_refl _) _⟩
end Go.Proofs.Ytmoclgpdcnjacaa
namespace Go.Proofs.Ytmoclgpdcnjacaa
namespace RM
theorem sq_lt {a b : Int} (ha : 0 ≤ a) (h : a < b) : a * a < b * b := by
  have h1 : a * a ≤ a * b := Int.mul_le_mul_of_nonneg_left (by omega) ha
  have h2 : a * b < b * b := Int.mul_lt_mul_of_pos_right h (by omega)
  omega
theorem le_of_sq {a b : Int} (hb : 0 ≤ b) (h : a * a ≤ b * b) : a ≤ b := by
  apply Classical.byContradiction
  intro h'
  have := sq_lt hb (show b < a by omega)
  omega
def Grows (f : Nat → Int) : Prop := ∀ M : Int, ∃ k0 : Nat, ∀ k, k0 ≤ k → M < f k
def Flat (f : Nat → Int) : Prop := ∃ (C : Int) (k0 : Nat), ∀ k, k0 ≤ k → -C ≤ f k ∧ f k ≤ C
theorem Grows.mono {f g : Nat → Int} (h : Grows f) (hg : ∃ k0 : Nat, ∀ k, k0 ≤ k → f k ≤ g k) : Grows g := fun M => by
  obtain ⟨k0, h0⟩ := h M
  obtain ⟨k1, h1⟩ := hg
  exact ⟨max k0 k1, fun k hk => by have := h0 k (by omega); have := h1 k (by omega); omega⟩
theorem Grows.add {f g : Nat → Int} (h : Grows f) (hg : ∃ (C : Int) (k0 : Nat), ∀ k, k0 ≤ k → C ≤ g k) : Grows (fun k => f k + g k) := fun M => by
  obtain ⟨C, k1, h1⟩ := hg
  obtain ⟨k0, h0⟩ := h (M - C)
  exact ⟨max k0 k1, fun k hk => by have := h0 k (by omega); have := h1 k (by omega); show M < f k + g k; omega⟩
def Appr (c : Int) (t : Nat → Int) : Prop := ∃ E : Int, 0 ≤ E ∧ ∀ k : Nat, 0 ≤ t k ∧ t k * t k ≤ c * (k * k) ∧ c * (k * k) ≤ t k * t k + E * t k + E
section
variable {c : Int} {t : Nat → Int}
theorem Appr.le (h : Appr c t) (hc : 0 ≤ c) (k : Nat) : t k ≤ (c + 1) * k := by
  obtain ⟨E, -, h⟩ := h
  obtain ⟨h0, h1, -⟩ := h k
  refine le_of_sq (Int.mul_nonneg (by omega) (by omega)) ?_
  have : 0 ≤ (c * c + c + 1) * (k * k : Int) := Int.mul_nonneg (by have := Int.mul_nonneg hc hc; omega) (Int.mul_nonneg (by omega) (by omega))
  grind
theorem Appr.zero (h : Appr 0 t) (k : Nat) : t k = 0 := by
  have := h.le (by omega) k
  obtain ⟨E, -, h⟩ := h
  obtain ⟨h0, h1, -⟩ := h k
  have h2 : t k ≤ 0 := le_of_sq (by omega) (by omega)
  omega
end
def sideZ (a b c : Int) : Int := if b = 0 ∨ c = 0 then a.sign else if a = 0 ∨ a.sign = b.sign then b.sign else a.sign * (a * a - b * b * c).sign
theorem sign_cases (a : Int) : (a < 0 ∧ a.sign = -1) ∨ (a = 0 ∧ a.sign = 0) ∨ (0 < a ∧ a.sign = 1) := by
  rcases Int.lt_trichotomy a 0 with h | h | h
  · exact .inl ⟨h, Int.sign_eq_neg_one_of_neg h⟩
  · exact .inr (.inl ⟨h, by rw [h]; rfl⟩)
  · exact .inr (.inr ⟨h, Int.sign_eq_one_of_pos h⟩)
section
variable {a b c : Int} {t : Nat → Int}
end
def Rho (N D : Int) (r : Nat → Int) : Prop := ∀ k : Nat, 0 ≤ r k ∧ D * (r k * r k) ≤ N * (k * k) ∧ N * (k * k) < D * ((r k + 1) * (r k + 1))
section
variable {N D : Int} {r : Nat → Int}
theorem Rho.le (h : Rho N D r) (hD : 0 < D) (hN : 0 ≤ N) (k : Nat) : r k ≤ (N + 1) * k := by
  obtain ⟨h0, h1, h2⟩ := h k
  refine le_of_sq (Int.mul_nonneg (by omega) (by omega)) ?_
  have h3 : 1 * (r k * r k) ≤ D * (r k * r k) := Int.mul_le_mul_of_nonneg_right (by omega) (Int.mul_nonneg h0 h0)
  have : 0 ≤ (N * N + N + 1) * (k * k : Int) := Int.mul_nonneg (by have := Int.mul_nonneg hN hN; omega) (Int.mul_nonneg (by omega) (by omega))
  grind
theorem Rho.zero (h : Rho 0 D r) (hD : 0 < D) (k : Nat) : r k = 0 := by
  have := h.le hD (by omega) k
  have h0 := (h k).1
  have h1 := (h k).2.1
  apply Classical.byContradiction
  intro h'
  have : 0 < D * (r k * r k) := Int.mul_pos hD (Int.mul_pos (by omega) (by omega))
  omega
end
structure Rt (s N D : Int) (r : Nat → Int) : Prop where
  sg : s = -1 ∨ s = 0 ∨ s = 1
  n0 : 0 ≤ N
  d1 : 0 < D
  z : s = 0 ↔ N = 0
  rho : Rho N D r
theorem Rt.neg {s N D : Int} {r : Nat → Int} (h : Rt s N D r) : Rt (-s) N D r := ⟨by have := h.sg; omega, h.n0, h.d1, by have := h.z; omega, h.rho⟩
def Tri (c : Int) (f : Nat → Int) : Prop := (c = 1 ∧ Grows f) ∨ (c = 0 ∧ Flat f) ∨ (c = -1 ∧ Grows (fun k => -f k))
theorem Tri.congr {c : Int} {f g : Nat → Int} (h : Tri c f) (e : ∀ k, f k = g k) : Tri c g := by
  have : f = g := funext e
  rwa [← this]
theorem Tri.neg {c : Int} {f : Nat → Int} (h : Tri c f) : Tri (-c) (fun k => -f k) := by
  rcases h with ⟨h, g⟩ | ⟨h, g⟩ | ⟨h, g⟩
  · refine .inr (.inr ⟨by omega, g.mono ⟨0, fun k _ => ?_⟩⟩)
    show f k ≤ - -f k
    omega
  · obtain ⟨C, k0, g⟩ := g
    exact .inr (.inl ⟨by omega, C, k0, fun k hk => by have := g k hk; show -C ≤ -f k ∧ -f k ≤ C; omega⟩)
  · exact .inl ⟨by omega, g⟩
section
variable {c c' : Int} {f g : Nat → Int}
theorem Tri.range (h : Tri c f) : c = -1 ∨ c = 0 ∨ c = 1 := by
  rcases h with ⟨h, -⟩ | ⟨h, -⟩ | ⟨h, -⟩ <;> omega
theorem Tri.le (h : Tri c f) (hc : c ≤ 0) : ∃ (C : Int) (k0 : Nat), ∀ k, k0 ≤ k → f k ≤ C := by
  rcases h with ⟨h, g⟩ | ⟨h, g⟩ | ⟨h, g⟩
  · omega
  · obtain ⟨C, k0, g⟩ := g
    exact ⟨C, k0, fun k hk => (g k hk).2⟩
  · obtain ⟨k0, g⟩ := g 0
    exact ⟨0, k0, fun k hk => by have := g k hk; dsimp only at this; omega⟩
end
end RM
end Go.Proofs.Ytmoclgpdcnjacaa
namespace Go.Proofs.Ytmoclgpdcnjacaa
open Go Go.RowKit Go.Shelf
theorem NumsAt.ext {w w' : World} {v : Value} {zs : List Int} (h : NumsAt w v zs) (hx : Ext w w') : NumsAt w' v zs := by
  obtain ⟨g, c, cs, rfl, hr, hz⟩ := h
  exact ⟨g, c, cs, rfl, hx.row hr, fun i z hi => by
    obtain ⟨neg, p, n, c, h1, h2, h3⟩ := hz i z hi
    exact ⟨neg, p, n, c, h1, h2, hx.num h3⟩⟩
theorem info_num2 : ∃ i, Try.prog.info? 69 = some i ∧ i.zero = some (.agg #[.bool false, .slice none 0 0]) ∧ i.size = 2 := by
  have h : (Try.prog.info? 69).map (fun i => (i.zero, i.size)) = some (some (.agg #[.bool false, .slice none 0 0]), 2) := by kernel_rfl
  obtain ⟨i, hi, e⟩ := Option.map_eq_some_iff.1 h
  simp only [Prod.mk.injEq] at e
  exact ⟨i, hi, e.1, e.2⟩
theorem wp_build2 {o : Oper} {b : Act} {w : World} {K : Act → World → Prop} {Q : Exit → Act → World → Prop} (x y : Operand) (ho : o.op = .buildSlice 135 2 #[(0, x), (1, y)]) (v0 : Value) (v1 : Value) (z0 : Int) (z1 : Int) (hx : b.eval x = v0) (hy : b.eval y = v1) (i0 : IsN z0 v0 w) (i1 : IsN z1 v1 w)
    (hk : ∀ v w', NumsAt w' v [z0, z1] → Ext w w' → K (b.put o.dst v) w') : o.wp Try.prog b w K Q := by
  obtain ⟨p0, c0, rfl⟩ := ZNum.parts i0
  obtain ⟨p1, c1, rfl⟩ := ZNum.parts i1
  generalize decide (z0 < 0) = n0 at *
  generalize (digs z0.natAbs).length = l0 at *
  generalize decide (z1 < 0) = n1 at *
  generalize (digs z1.natAbs).length = l1 at *
  obtain ⟨i, hi, hzr, hs⟩ := info_num2
  have hr := run_buildSlice (P := Try.prog) w 135 69 2 #[(0, Value.agg #[.bool n0, .slice p0 l0 c0]), (1, Value.agg #[.bool n1, .slice p1 l1 c1])] #[.bool n0, .slice p0 l0 c0, .bool n1, .slice p1 l1 c1] i _ Try.underlying135 hi hzr (by rw [hs]; decide) (by rw [hs]; decide) (by rw [hs]; simp [Instr.fill, Value.cells, Array.range_succ, show Array.range 0 = #[] from rfl])
  have hrun : (execOp b.eval o).run Try.prog w = .ok (.value (.slice (some ⟨w.heap.size, 0, none⟩) 2 2)) (w.alloc (.cells #[.bool n0, .slice p0 l0 c0, .bool n1, .slice p1 l1 c1] 69)) := by
    unfold execOp
    simp only [ho, List.map_toArray, List.map_cons, List.map_nil, hx, hy, Sem.run_bind]
    rw [hr]
    rfl
  refine wp_of_run hrun (hk _ _ ⟨w.heap.size, 2, _, rfl, RowAt.new _ _ _, fun j z hj => ?_⟩ (Ext.alloc _ _))
  rcases j with _ | _ | j
  · obtain rfl := Option.some.inj (show some z0 = some z from hj)
    exact ⟨_, _, _, _, rfl, rfl, (Ext.alloc _ _).num i0⟩
  · obtain rfl := Option.some.inj (show some z1 = some z from hj)
    exact ⟨_, _, _, _, rfl, rfl, (Ext.alloc _ _).num i1⟩
  · exact absurd hj (by simp)
theorem wp_build3 {o : Oper} {b : Act} {w : World} {K : Act → World → Prop} {Q : Exit → Act → World → Prop} (x y z : Operand) (ho : o.op = .buildSlice 135 3 #[(0, x), (1, y), (2, z)]) (v0 : Value) (v1 : Value) (v2 : Value) (z0 : Int) (z1 : Int) (z2 : Int) (hx : b.eval x = v0) (hy : b.eval y = v1) (hz : b.eval z = v2) (i0 : IsN z0 v0 w) (i1 : IsN z1 v1 w) (i2 : IsN z2 v2 w)
    (hk : ∀ v w', NumsAt w' v [z0, z1, z2] → Ext w w' → K (b.put o.dst v) w') : o.wp Try.prog b w K Q := by
  obtain ⟨p0, c0, rfl⟩ := ZNum.parts i0
  obtain ⟨p1, c1, rfl⟩ := ZNum.parts i1
  obtain ⟨p2, c2, rfl⟩ := ZNum.parts i2
  generalize decide (z0 < 0) = n0 at *
  generalize (digs z0.natAbs).length = l0 at *
  generalize decide (z1 < 0) = n1 at *
  generalize (digs z1.natAbs).length = l1 at *
  generalize decide (z2 < 0) = n2 at *
  generalize (digs z2.natAbs).length = l2 at *
  obtain ⟨i, hi, hzr, hs⟩ := info_num2
  have hr := run_buildSlice (P := Try.prog) w 135 69 3 #[(0, Value.agg #[.bool n0, .slice p0 l0 c0]), (1, Value.agg #[.bool n1, .slice p1 l1 c1]), (2, Value.agg #[.bool n2, .slice p2 l2 c2])] #[.bool n0, .slice p0 l0 c0, .bool n1, .slice p1 l1 c1, .bool n2, .slice p2 l2 c2] i _ Try.underlying135 hi hzr (by rw [hs]; decide) (by rw [hs]; decide) (by rw [hs]; simp [Instr.fill, Value.cells, Array.range_succ, show Array.range 0 = #[] from rfl])
  have hrun : (execOp b.eval o).run Try.prog w = .ok (.value (.slice (some ⟨w.heap.size, 0, none⟩) 3 3)) (w.alloc (.cells #[.bool n0, .slice p0 l0 c0, .bool n1, .slice p1 l1 c1, .bool n2, .slice p2 l2 c2] 69)) := by
    unfold execOp
    simp only [ho, List.map_toArray, List.map_cons, List.map_nil, hx, hy, hz, Sem.run_bind]
    rw [hr]
    rfl
  refine wp_of_run hrun (hk _ _ ⟨w.heap.size, 3, _, rfl, RowAt.new _ _ _, fun j z hj => ?_⟩ (Ext.alloc _ _))
  rcases j with _ | _ | _ | j
  · obtain rfl := Option.some.inj (show some z0 = some z from hj)
    exact ⟨_, _, _, _, rfl, rfl, (Ext.alloc _ _).num i0⟩
  · obtain rfl := Option.some.inj (show some z1 = some z from hj)
    exact ⟨_, _, _, _, rfl, rfl, (Ext.alloc _ _).num i1⟩
  · obtain rfl := Option.some.inj (show some z2 = some z from hj)
    exact ⟨_, _, _, _, rfl, rfl, (Ext.alloc _ _).num i2⟩
  · exact absurd hj (by simp)
theorem ent_product (args : Array Value) (w : World) : (callFunc 88 args).run Try.prog w = .ok (.enter 88 args) w := enters_of Try.func88 (by kernel_rfl) rfl args w
theorem lim_mulB {a b : Int} {j k : Nat} (ha : a.natAbs < B32 ^ j) (hb : b.natAbs < B32 ^ k) : (a * b).natAbs < B32 ^ (j + k) := by
  rw [Int.natAbs_mul, Nat.pow_add]
  exact Nat.mul_lt_mul'' ha hb
theorem lim_64 {a : Int} {k : Nat} (h : a.natAbs < B32 ^ k) (hk : k ≤ 64) : a.natAbs < B32 ^ 64 := Nat.lt_of_lt_of_le h (Nat.pow_le_pow_right B32_pos hk)
theorem one_lim : (1 : Int).natAbs < B32 ^ 64 := by decide
theorem prod_lim2 {a b : Int} {i j : Nat} (ha : a.natAbs < B32 ^ i) (hb : b.natAbs < B32 ^ j) (h : i + j ≤ 64) : ∀ k, k ≤ 2 → (prodZ ([a, b].take k)).natAbs < B32 ^ 64 := by
  intro k hk
  rcases k with _ | _ | _ | k
  · exact one_lim
  · simp [prodZ]; exact lim_64 ha (by omega)
  · simp [prodZ]; exact lim_64 (lim_mulB ha hb) h
  · omega
theorem prod_lim3 {a b c : Int} {i j l : Nat} (ha : a.natAbs < B32 ^ i) (hb : b.natAbs < B32 ^ j) (hc : c.natAbs < B32 ^ l) (h : i + j + l ≤ 64) : ∀ k, k ≤ 3 → (prodZ ([a, b, c].take k)).natAbs < B32 ^ 64 := by
  intro k hk
  rcases k with _ | _ | _ | _ | k
  · exact one_lim
  · simp [prodZ]; exact lim_64 ha (by omega)
  · simp [prodZ]; exact lim_64 (lim_mulB ha hb) (by omega)
  · simp [prodZ]; rw [← Int.mul_assoc]; exact lim_64 (lim_mulB (lim_mulB ha hb) hc) h
  · omega
theorem zcmp_sub (x y : Int) : zcmp x y = (x - y).sign := by
  unfold zcmp
  rcases Int.lt_trichotomy x y with h | h | h
  · rw [if_pos h, Int.sign_eq_neg_one_of_neg (by omega)]
  · rw [if_neg (by omega), if_neg (by omega), h, Int.sub_self]; rfl
  · rw [if_neg (by omega), if_pos h, Int.sign_eq_one_of_pos (by omega)]
theorem sideZ_eq (a b c : Int) (hc : 0 ≤ c) : RM.sideZ a b c = if a.sign = 0 then b.sign * c.sign else if b.sign * c.sign = -a.sign then a.sign * zcmp (prodZ [a, a]) (prodZ [b, b, c]) else a.sign := by
  have e1 : prodZ [a, a] = a * a := by simp [prodZ]
  have e2 : prodZ [b, b, c] = b * b * c := by simp [prodZ, Int.mul_assoc]
  rw [e1, e2, zcmp_sub]
  unfold RM.sideZ
  rcases RM.sign_cases a with ⟨h1, h2⟩ | ⟨h1, h2⟩ | ⟨h1, h2⟩ <;> rcases RM.sign_cases b with ⟨h3, h4⟩ | ⟨h3, h4⟩ | ⟨h3, h4⟩ <;> rcases RM.sign_cases c with ⟨h5, h6⟩ | ⟨h5, h6⟩ | ⟨h5, h6⟩ <;> simp [h2, h4, h6] <;> omega
def sgF (va vb vc : Value) (x y z : Int) : Nat → Value → World → Prop
  | 0, v, _ => v = va
  | 1, v, _ => v = .int .i64 x
  | 2, v, _ => v = vb
  | 3, v, _ => v = .int .i64 y
  | 4, v, _ => v = vc
  | 5, v, _ => v = .int .i64 z
  | 6, v, _ => v = .int .i64 (y * z)
  | 7, v, _ => v = .int .i64 x
  | _, _, _ => True
theorem sgF_mono {va vb vc : Value} {x y z : Int} {W W' : World} (hx : Ext W W') (j : Nat) (v : Value) (h : sgF va vb vc x y z j v W) : sgF va vb vc x y z j v W' := by
  match j, h with
  | 0, h | 1, h | 2, h | 3, h | 4, h | 5, h | 6, h | 7, h => exact h
  | _ + 8, _ => trivial
def sqF (va vb vc : Value) (a b c x r : Int) : Nat → Value → World → Prop
  | 0, v, _ => v = .int .i64 x
  | 1, v, _ => v = va
  | 2, v, _ => v = va
  | 3, v, W => NumsAt W v [a, a]
  | 4, v, W => IsN (prodZ [a, a]) v W
  | 5, v, _ => v = vb
  | 6, v, _ => v = vb
  | 7, v, _ => v = vc
  | 8, v, W => NumsAt W v [b, b, c]
  | 9, v, W => IsN (prodZ [b, b, c]) v W
  | 10, v, _ => v = .int .i64 (zcmp (prodZ [a, a]) (prodZ [b, b, c]))
  | 11, v, _ => v = .int .i64 r
  | _, _, _ => True
theorem sqF_mono {va vb vc : Value} {a b c x r : Int} {W W' : World} (hx : Ext W W') (j : Nat) (v : Value) (h : sqF va vb vc a b c x r j v W) : sqF va vb vc a b c x r j v W' := by
  match j, h with
  | 0, h | 1, h | 2, h | 5, h | 6, h | 7, h | 10, h | 11, h => exact h
  | 3, h => exact NumsAt.ext h hx
  | 8, h => exact NumsAt.ext h hx
  | 4, h => exact IsN.ext h hx
  | 9, h => exact IsN.ext h hx
  | _ + 12, _ => trivial
theorem sgn3 (z : Int) : z.sign = -1 ∨ z.sign = 0 ∨ z.sign = 1 := by
  rcases RM.sign_cases z with ⟨_, h⟩ | ⟨_, h⟩ | ⟨_, h⟩ <;> simp [h]
theorem zc3 (x y : Int) : zcmp x y = -1 ∨ zcmp x y = 0 ∨ zcmp x y = 1 := by rw [zcmp_sub]; exact sgn3 _
theorem wrap_small {u v : Int} (hu : u = -1 ∨ u = 0 ∨ u = 1) (hv : v = -1 ∨ v = 0 ∨ v = 1) : IntKind.i64.wrap (u * v) = u * v := by
  rcases hu with rfl | rfl | rfl <;> rcases hv with rfl | rfl | rfl <;> decide
set_option maxRecDepth 100000 in
set_option maxHeartbeats 8000000 in
theorem signOf_calls (va vb vc : Value) (a b c : Int) (w : World) (ha : ZNum w.heap.size w va a) (hb : ZNum w.heap.size w vb b) (hc : ZNum w.heap.size w vc c) (h0 : 0 ≤ c) (la : a.natAbs < B32 ^ 20) (lb : b.natAbs < B32 ^ 20) (lc : c.natAbs < B32 ^ 20) :
    Calls Try.prog 78 #[va, vb, vc] w fun e w' => e = .returned (.int .i64 (RM.sideZ a b c)) ∧ Ext w w' := by
  rw [sideZ_eq a b c h0]
  obtain ⟨p, k, rfl⟩ := ha.parts
  obtain ⟨q, k2, rfl⟩ := hb.parts
  obtain ⟨s, k3, rfl⟩ := hc.parts
  have sa := sgn3 a
  have sb := sgn3 b
  have sc := sgn3 c
  have Z0 := zcmp_sign a
  have Z1 := zcmp_sign b
  have Z2 := zcmp_sign c
  have S0 := Lib.hid Z0
  have S1 := Lib.hid Z1
  have S2 := Lib.hid Z2
  have L1 := Lib.hid (prod_lim2 la la (by decide))
  have L2 := Lib.hid (prod_lim3 lb lb lc (by decide))
  have ZA := Lib.hid ha
  have ZB := Lib.hid hb
  have ZC := Lib.hid hc
  have E := Lib.hid (Ext.refl w)
  generalize decide (a < 0) = na at *
  generalize decide (b < 0) = nb at *
  generalize decide (c < 0) = nc at *
  generalize (digs a.natAbs).length = n at *
  generalize (digs b.natAbs).length = m at *
  generalize (digs c.natAbs).length = l at *
  generalize a.sign = x at *
  generalize b.sign = y at *
  generalize c.sign = z at *
  have SX := Lib.hid sa
  have hw : Hid (IntKind.i64.wrap (y * z) = y * z) := wrap_small sb sc
  have hyz : y * z = -1 ∨ y * z = 0 ∨ y * z = 1 := by rcases sb with rfl | rfl | rfl <;> rcases sc with rfl | rfl | rfl <;> decide
  obtain ⟨t, ht⟩ : ∃ t, t = y * z := ⟨_, rfl⟩
  rw [← ht] at hyz hw ⊢
  have HT := Lib.hid ht
  obtain ⟨rv, hrv⟩ : ∃ rv, rv = if x = 0 then t else if t = -x then x * zcmp (prodZ [a, a]) (prodZ [b, b, c]) else x := ⟨_, rfl⟩
  rw [← hrv]
  have Hrv := Lib.hid hrv
  clear ha hb hc h0 la lb lc sb sc Z0 Z1 Z2 ht hrv
  obtain ⟨W0a, hW0a⟩ : ∃ W0a, W0a = (((w.alloc (.cells #[.bool na, .slice p n k] 69)).alloc (.cells #[.bool nb, .slice q m k2] 69)).alloc (.cells #[.bool nc, .slice s l k3] 69)) := ⟨_, rfl⟩
  have hx : Ext w W0a := by rw [hW0a]; exact (((Ext.alloc _ _).trans (Ext.alloc _ _)).trans (Ext.alloc _ _))
  have A_n : RowAt W0a (w.heap.size) 69 (numCells na p n k) := by rw [hW0a]; exact (((RowAt.new' _ _ (by simp)).alloc _).alloc _)
  have B_n : RowAt W0a (w.heap.size + 1) 69 (numCells nb q m k2) := by rw [hW0a]; exact ((RowAt.new' _ _ (by simp)).alloc _)
  have C_n : RowAt W0a (w.heap.size + 1 + 1) 69 (numCells nc s l k3) := by rw [hW0a]; exact (RowAt.new' _ _ (by simp))
  have ZA1 := Lib.hid (hx.num ZA.out)
  have ZB1 := Lib.hid (hx.num ZB.out)
  have ZC1 := Lib.hid (hx.num ZC.out)
  have E1 := Lib.hid (E.out.trans hx)
  clear ZA ZB ZC E
  have A_1 := Lib.hid A_n
  have B_1 := Lib.hid B_n
  have C_1 := Lib.hid C_n
  have HW0a := Lib.hid hW0a
  clear hx hW0a A_n B_n C_n
  go_enter Try.func78, Try.ntmps78
  go_upto_region 1 with fail
  rw [← HW0a.out]
  refine wp_region_tail (fun D ac w' => ∃ vs : Nat → Value, ac = { tmps := #[.agg #[.bool na, .slice p n k], .agg #[.bool nb, .slice q m k2], .agg #[.bool nc, .slice s l k3], .pointer (some ⟨w.heap.size, 0, none⟩), .pointer (some ⟨w.heap.size + 1, 0, none⟩), .pointer (some ⟨w.heap.size + 1 + 1, 0, none⟩), .int .i64 0, vs 7, undef, vs 0, vs 1, vs 2, vs 3, vs 4, vs 5, vs 6, undef, undef, undef, undef, undef, undef, undef, undef, undef, undef, undef, undef, undef, undef, undef, undef, undef, undef, undef, undef], defers := [] } ∧ Ext W0a w' ∧ ∀ j, D j → sgF (.agg #[.bool na, .slice p n k]) (.agg #[.bool nb, .slice q m k2]) (.agg #[.bool nc, .slice s l k3]) x y z j (vs j) w') 8 (by kernel_rfl) (by kernel_rfl) (by kernel_rfl) ?start1 ?step1 ?fin1
  case start1 => exact ⟨fun _ => undef, rfl, Ext.drew _, fun _ h => h.elim⟩
  case step1 =>
    rintro i o D ac wz hin hio hnd he ⟨vs, rfl, k0, hF⟩
    rcases i with _ | _ | _ | _ | _ | _ | _ | _ | i
    rotate_left 8
    · exact absurd hin (by omega)
    all_goals (obtain rfl := Option.some.inj (hio.symm.trans (by rfl)))
    · refine step_yes (wanted_of_none rfl _) ?_
      exact wp_of_run (run_load_num (.tmp 3) rfl _ rfl _ _ _ _ _ (k0.row A_1.out)) ⟨upd vs 0 _, rfl, k0, inv_step hF (fun _ _ h => h) rfl⟩
    · refine step_yes (wanted_of_none rfl _) ?_
      refine wp_of_callE (run_enter1 87 (.tmp 9) _ rfl _ (by exact (hF 0 (he ⟨0, .data⟩ (by simp) rfl))) ent_side) (side_calls _ a wz (k0.num ZA1.out)) ?_
      rintro e w' ⟨rfl, hx⟩
      exact ⟨_, rfl, upd vs 1 _, rfl, k0.trans hx, inv_step hF (fun j v h => sgF_mono hx j v h) (by rw [S0.out]; rfl)⟩
    · refine step_yes (wanted_of_none rfl _) ?_
      exact wp_of_run (run_load_num (.tmp 4) rfl _ rfl _ _ _ _ _ (k0.row B_1.out)) ⟨upd vs 2 _, rfl, k0, inv_step hF (fun _ _ h => h) rfl⟩
    · refine step_yes (wanted_of_none rfl _) ?_
      refine wp_of_callE (run_enter1 87 (.tmp 11) _ rfl _ (by exact (hF 2 (he ⟨2, .data⟩ (by simp) rfl))) ent_side) (side_calls _ b wz (k0.num ZB1.out)) ?_
      rintro e w' ⟨rfl, hx⟩
      exact ⟨_, rfl, upd vs 3 _, rfl, k0.trans hx, inv_step hF (fun j v h => sgF_mono hx j v h) (by rw [S1.out]; rfl)⟩
    · refine step_yes (wanted_of_none rfl _) ?_
      exact wp_of_run (run_load_num (.tmp 5) rfl _ rfl _ _ _ _ _ (k0.row C_1.out)) ⟨upd vs 4 _, rfl, k0, inv_step hF (fun _ _ h => h) rfl⟩
    · refine step_yes (wanted_of_none rfl _) ?_
      refine wp_of_callE (run_enter1 87 (.tmp 13) _ rfl _ (by exact (hF 4 (he ⟨4, .data⟩ (by simp) rfl))) ent_side) (side_calls _ c wz (k0.num ZC1.out)) ?_
      rintro e w' ⟨rfl, hx⟩
      exact ⟨_, rfl, upd vs 5 _, rfl, k0.trans hx, inv_step hF (fun j v h => sgF_mono hx j v h) (by rw [S2.out]; rfl)⟩
    · refine step_yes (wanted_of_none rfl _) ?_
      exact wp_of_run (run_mul_int (.tmp 12) (.tmp 14) rfl rfl _ _ (y * z) (by exact (hF 3 (he ⟨3, .data⟩ (by simp) rfl))) (by exact (hF 5 (he ⟨5, .data⟩ (by simp) rfl))) (by rw [← HT.out]; exact hw.out)) ⟨upd vs 6 _, rfl, k0, inv_step hF (fun _ _ h => h) rfl⟩
    · refine step_yes (wanted_of_none rfl _) ?_
      exact wp_of_run (run_assign (.tmp 10) rfl) ⟨upd vs 7 _, rfl, k0, inv_step hF (fun _ _ h => h) (hF 1 (he ⟨1, .data⟩ (by simp) rfl))⟩
  case fin1 =>
    rintro D ac w2 hD ⟨vs, rfl, k0, hF⟩
    change wpList _ _ _ [_] _ _
    have h6 : vs 6 = .int .i64 (y * z) := hF 6 (hD 6 (by decide))
    have h7 : vs 7 = .int .i64 x := hF 7 (hD 7 (by decide))
    rw [← HT.out] at h6
    rw [h6, h7]
    have X2 := Lib.hid k0
    clear hF hD h6 h7 k0
    generalize vs = ts
    have A2 := Lib.hid (X2.out.row A_1.out)
    have B2 := Lib.hid (X2.out.row B_1.out)
    have C2 := Lib.hid (X2.out.row C_1.out)
    have ZA2 := Lib.hid (X2.out.num ZA1.out)
    have ZB2 := Lib.hid (X2.out.num ZB1.out)
    have ZC2 := Lib.hid (X2.out.num ZC1.out)
    have E2 := Lib.hid (E1.out.trans X2.out)
    by_cases hx0 : x = 0
    · have Hr : Hid (rv = t) := by show rv = t; rw [Hrv.out, if_pos hx0]
      subst hx0
      clear sa hyz
      go_wp2
      go_ret
      exact ⟨by rw [Hr.out]; rfl, E2.out⟩
    · have Hx0 := Lib.hid hx0
      have hx0b : (x == 0) = false := by simpa using hx0
      by_cases hne : t = -x
      · have Hr : Hid (rv = x * zcmp (prodZ [a, a]) (prodZ [b, b, c])) := by show rv = _; rw [Hrv.out, if_neg Hx0.out, if_pos hne]
        have hw2 : wrap64 (-x) = -x := by unfold wrap64; omega
        have hneb : (t != -x) = false := by simpa using hne
        have Hne := Lib.hid hne
        clear sa hyz hne hx0
        go_upto_region 6 with fail
        refine wp_region_tail (fun D ac w' => ∃ vs : Nat → Value, ac = { tmps := #[Value.agg #[Value.bool na, Value.slice p n k], Value.agg #[Value.bool nb, Value.slice q m k2], Value.agg #[Value.bool nc, Value.slice s l k3], Value.pointer (some { block := w.heap.size, off := 0 }), Value.pointer (some { block := w.heap.size + 1, off := 0 }), Value.pointer (some { block := w.heap.size + 1 + 1, off := 0 }), Value.int IntKind.i64 0, Value.int IntKind.i64 x, Value.int IntKind.i64 t, ts 0, ts 1, ts 2, ts 3, ts 4, ts 5, Value.int IntKind.i64 t, Value.int IntKind.i64 x, Value.bool false, undef, Value.int IntKind.i64 t, Value.int IntKind.i64 x, Value.int IntKind.i64 (wrap64 (-x)), Value.bool false, undef, vs 0, vs 1, vs 2, vs 3, vs 4, vs 5, vs 6, vs 7, vs 8, vs 9, vs 10, vs 11], defers := [] } ∧ Ext w2 w' ∧ ∀ j, D j → sqF (.agg #[.bool na, .slice p n k]) (.agg #[.bool nb, .slice q m k2]) (.agg #[.bool nc, .slice s l k3]) a b c x rv j (vs j) w') 12 (by kernel_rfl) (by kernel_rfl) (by kernel_rfl) ?start6 ?step6 ?fin6
        case start6 => exact ⟨fun _ => undef, rfl, Ext.drew _, fun _ h => h.elim⟩
        case step6 =>
          rintro i o D ac wz hin hio hnd he ⟨vs, rfl, k0, hF⟩
          rcases i with _ | _ | _ | _ | _ | _ | _ | _ | _ | _ | _ | _ | i
          rotate_left 12
          · exact absurd hin (by omega)
          all_goals (obtain rfl := Option.some.inj (hio.symm.trans (by rfl)))
          · refine step_yes (wanted_of_none rfl _) ?_
            exact wp_of_run (run_mov (.tmp 7) rfl _ rfl) ⟨upd vs 0 _, rfl, k0, inv_step hF (fun _ _ h => h) rfl⟩
          · refine step_yes (wanted_of_none rfl _) ?_
            exact wp_of_run (run_load_num (.tmp 3) rfl _ rfl _ _ _ _ _ (k0.row A2.out)) ⟨upd vs 1 _, rfl, k0, inv_step hF (fun _ _ h => h) rfl⟩
          · refine step_yes (wanted_of_none rfl _) ?_
            exact wp_of_run (run_load_num (.tmp 3) rfl _ rfl _ _ _ _ _ (k0.row A2.out)) ⟨upd vs 2 _, rfl, k0, inv_step hF (fun _ _ h => h) rfl⟩
          · refine step_yes (wanted_of_none rfl _) ?_
            refine wp_build2 (.tmp 25) (.tmp 26) rfl _ _ a a (by exact (hF 1 (he ⟨1, .data⟩ (by simp) rfl))) (by exact (hF 2 (he ⟨2, .data⟩ (by simp) rfl))) (k0.num ZA2.out) (k0.num ZA2.out) ?_
            intro v w' hN hx
            exact ⟨upd vs 3 v, rfl, k0.trans hx, inv_step hF (fun j v h => sqF_mono hx j v h) hN⟩
          · refine step_yes (wanted_of_none rfl _) ?_
            refine wp_of_callE (run_enter1 88 (.tmp 27) _ rfl _ rfl ent_product) (rootProduct_calls _ [a, a] wz (hF 3 (he ⟨3, .data⟩ (by simp) rfl)) (by simp) L1.out) ?_
            rintro e w' ⟨rr, rfl, hz, hx⟩
            exact ⟨_, rfl, upd vs 4 _, rfl, k0.trans hx, inv_step hF (fun j v h => sqF_mono hx j v h) hz⟩
          · refine step_yes (wanted_of_none rfl _) ?_
            exact wp_of_run (run_load_num (.tmp 4) rfl _ rfl _ _ _ _ _ (k0.row B2.out)) ⟨upd vs 5 _, rfl, k0, inv_step hF (fun _ _ h => h) rfl⟩
          · refine step_yes (wanted_of_none rfl _) ?_
            exact wp_of_run (run_load_num (.tmp 4) rfl _ rfl _ _ _ _ _ (k0.row B2.out)) ⟨upd vs 6 _, rfl, k0, inv_step hF (fun _ _ h => h) rfl⟩
          · refine step_yes (wanted_of_none rfl _) ?_
            exact wp_of_run (run_load_num (.tmp 5) rfl _ rfl _ _ _ _ _ (k0.row C2.out)) ⟨upd vs 7 _, rfl, k0, inv_step hF (fun _ _ h => h) rfl⟩
          · refine step_yes (wanted_of_none rfl _) ?_
            refine wp_build3 (.tmp 29) (.tmp 30) (.tmp 31) rfl _ _ _ b b c (by exact (hF 5 (he ⟨5, .data⟩ (by simp) rfl))) (by exact (hF 6 (he ⟨6, .data⟩ (by simp) rfl))) (by exact (hF 7 (he ⟨7, .data⟩ (by simp) rfl))) (k0.num ZB2.out) (k0.num ZB2.out) (k0.num ZC2.out) ?_
            intro v w' hN hx
            exact ⟨upd vs 8 v, rfl, k0.trans hx, inv_step hF (fun j v h => sqF_mono hx j v h) hN⟩
          · refine step_yes (wanted_of_none rfl _) ?_
            refine wp_of_callE (run_enter1 88 (.tmp 32) _ rfl _ rfl ent_product) (rootProduct_calls _ [b, b, c] wz (hF 8 (he ⟨8, .data⟩ (by simp) rfl)) (by simp) L2.out) ?_
            rintro e w' ⟨rr, rfl, hz, hx⟩
            exact ⟨_, rfl, upd vs 9 _, rfl, k0.trans hx, inv_step hF (fun j v h => sqF_mono hx j v h) hz⟩
          · refine step_yes (wanted_of_none rfl _) ?_
            refine wp_of_callE (run_enter2 56 (.tmp 28) (.tmp 33) _ rfl _ _ rfl rfl ent_cmp) (cmp_ok _ _ _ _ wz (hF 4 (he ⟨4, .data⟩ (by simp) rfl)) (hF 9 (he ⟨9, .data⟩ (by simp) rfl))) ?_
            rintro e w' ⟨rfl, hx⟩
            exact ⟨_, rfl, upd vs 10 _, rfl, k0.trans hx, inv_step hF (fun j v h => sqF_mono hx j v h) rfl⟩
          · refine step_yes (wanted_of_none rfl _) ?_
            exact wp_of_run (run_mul_int (.tmp 24) (.tmp 34) rfl rfl _ _ rv (by exact (hF 0 (he ⟨0, .data⟩ (by simp) rfl))) (by exact (hF 10 (he ⟨10, .data⟩ (by simp) rfl))) (by rw [Hr.out]; exact wrap_small SX.out (zc3 _ _))) ⟨upd vs 11 _, rfl, k0, inv_step hF (fun _ _ h => h) rfl⟩
        case fin6 =>
          rintro D ac w3 hD ⟨vs, rfl, k0, hF⟩
          change wpList _ _ _ [_] _ _
          have h11 : vs 11 = .int .i64 rv := hF 11 (hD 11 (by decide))
          rw [h11]
          have X3 := Lib.hid (E2.out.trans k0)
          clear hF hD h11 k0
          generalize vs = us
          go_wp2
          go_ret
          exact ⟨rfl, X3.out⟩
      · have Hr : Hid (rv = x) := by show rv = x; rw [Hrv.out, if_neg Hx0.out, if_neg hne]
        have hw2 : wrap64 (-x) = -x := by unfold wrap64; omega
        have hneb : (t != -x) = true := by simpa using hne
        clear sa hyz hne hx0
        go_wp2
        go_ret
        exact ⟨by rw [Hr.out]; rfl, E2.out⟩
end Go.Proofs.Ytmoclgpdcnjacaa
namespace Go.Proofs.Ytmoclgpdcnjacaa
open Go Go.RowKit Go.Shelf
theorem catch_idle (p : Addr) (w : World) :
    CallsD Try.prog 86 #[.pointer (some p)] .returning w fun e u' w' => e = .returned (.tuple #[]) ∧ u' = .returning ∧ w' = w := by
  refine callsD_of_wpS Try.func86 rfl fun c₀ cs hu => ?_
  apply wpS_seq
  apply wpS_region
  simp [wpOpsS, go_sem, recoverD, hu, Try.ntmps86, Exit.thenS]
  refine wpS_cond (t := false) (by simp [Act.eval, Array.replicate]) ?_
  simp only [Bool.false_eq_true, if_false]
  refine wpS_of_wp (wp_skip ?_)
  cases c₀
  simp_all [bodyPostS, results, Try.results86]
set_option maxRecDepth 100000 in
set_option maxHeartbeats 2000000 in
theorem settle_calls (F : FuncId) (cap : Array Value) (r : Int) (w : World) (hent : ∀ args w, (callFunc F args).run Try.prog w = .ok (.enter F args) w) (hF : ∀ W, Ext w W → Calls Try.prog F cap W fun e W' => e = .returned (.int .i64 r) ∧ Ext W W') :
    Calls Try.prog 76 #[.func (.func F) #[] cap] w fun e w' => e = .returned (.int .i64 r) ∧ Ext w w' := by
  have hmf : ∀ (fn : Fn) (first cap : Array Value) (w : World), (Instr.makeFunc fn first cap).run Try.prog w = .ok (.func fn first cap) w := fun _ _ _ _ => rfl
  obtain ⟨W1, hW1⟩ : ∃ W1, W1 = w.alloc (.cells #[.int .i64 0] 3) := ⟨_, rfl⟩
  have hx1 : Ext w W1 := by rw [hW1]; exact Ext.alloc _ _
  have hr1 : RowAt W1 w.heap.size 3 #[.int .i64 0] := by rw [hW1]; exact RowAt.new' _ _ (by simp)
  have HF := Lib.hid hF
  have Hx1 := Lib.hid hx1
  have Hr1 := Lib.hid hr1
  have HW1 := Lib.hid hW1
  clear hF hx1 hr1 hW1
  go_enter_defers Try.func76, Try.ntmps76
  go_wp2_with fail
  rw [← HW1.out]
  refine (HF.out W1 Hx1.out).mono ?_
  rintro e w1 ⟨rfl, hx⟩
  have R1 := Lib.hid (hx.row Hr1.out)
  have X1 := Lib.hid (Hx1.out.trans hx)
  have hc0 : w1.cell? ⟨w.heap.size, 0, none⟩ = some (.int .i64 0) := R1.out.cell 0
  have hz0 : w1.frozen? ⟨w.heap.size, 0, none⟩ = false := R1.out.frozen 0
  clear hx
  go_wp2
  refine leaves_cons (f := 86) (args := #[.pointer (some ⟨w.heap.size, 0, none⟩)]) (by simp) (by simp [go_sem]) ?_
  refine (catch_idle ⟨w.heap.size, 0, none⟩ _).mono ?_
  rintro e u' w'' ⟨rfl, rfl, rfl⟩
  simp [Leaves, Go.settle, results, Try.results76, go_sem, hc0]
  exact Below.setCell X1.out (p := ⟨w.heap.size, 0, none⟩) (Nat.le_refl _) _
end Go.Proofs.Ytmoclgpdcnjacaa
namespace Go.Proofs.Ytmoclgpdcnjacaa
open Go Go.RowKit Go.Shelf
theorem ent_s1 (args : Array Value) (w : World) : (callFunc 77 args).run Try.prog w = .ok (.enter 77 args) w := enters_of Try.func77 (by kernel_rfl) rfl args w
theorem fitK_lim {k : Nat} {z : Int} (h : fitK k z = true) : z.natAbs < B32 ^ k := by
  unfold fitK at h
  exact digs_len.1 (by simpa using h)
set_option maxRecDepth 100000 in
set_option maxHeartbeats 2000000 in
theorem sign1_calls (g h k : Nat) (na nb nc : Bool) (p q s : Option Addr) (n n2 m m2 l l2 : Nat) (a b c : Int) (w : World) (ra : RowAt w g 69 (numCells na p n n2)) (rb : RowAt w h 69 (numCells nb q m m2)) (rc : RowAt w k 69 (numCells nc s l l2))
    (ha : ZNum w.heap.size w (.agg #[.bool na, .slice p n n2]) a) (hb : ZNum w.heap.size w (.agg #[.bool nb, .slice q m m2]) b) (hc : ZNum w.heap.size w (.agg #[.bool nc, .slice s l l2]) c) (h0 : 0 ≤ c) (la : a.natAbs < B32 ^ 20) (lb : b.natAbs < B32 ^ 20) (lc : c.natAbs < B32 ^ 20) :
    Calls Try.prog 77 #[.pointer (some ⟨g, 0, none⟩), .pointer (some ⟨h, 0, none⟩), .pointer (some ⟨k, 0, none⟩)] w fun e w' => e = .returned (.int .i64 (RM.sideZ a b c)) ∧ Ext w w' := by
  have HC := Lib.hid (signOf_calls _ _ _ a b c w ha hb hc h0 la lb lc)
  have c0 := ra.num0
  have c1 := ra.num1
  have c2 := rb.num0
  have c3 := rb.num1
  have c4 := rc.num0
  have c5 := rc.num1
  clear ra rb rc ha hb hc h0 la lb lc
  go_enter Try.func77, Try.ntmps77
  go_wp2_with fail
  refine HC.out.mono ?_
  rintro e w1 ⟨rfl, hx⟩
  have X := Lib.hid hx
  clear hx
  go_wp2
  go_ret
  exact ⟨rfl, X.out⟩
set_option maxRecDepth 100000 in
set_option maxHeartbeats 4000000 in
theorem sign_ok (va vb vc : Value) (a b c : Int) (w : World) (ha : ZNum w.heap.size w va a) (hb : ZNum w.heap.size w vb b) (hc : ZNum w.heap.size w vc c) (h0 : 0 ≤ c) (la : fitK 20 a = true) (lb : fitK 20 b = true) (lc : fitK 20 c = true) :
    Calls Try.prog 59 #[va, vb, vc] w fun e w' => e = .returned (.int .i64 (RM.sideZ a b c)) ∧ Ext w w' := by
  obtain ⟨p, k, rfl⟩ := ha.parts
  obtain ⟨q, k2, rfl⟩ := hb.parts
  obtain ⟨s, k3, rfl⟩ := hc.parts
  have d0 : decide (c < 0) = false := by simp; omega
  rw [d0] at hc ⊢
  have FA := Lib.hid la
  have FB := Lib.hid lb
  have FC := Lib.hid lc
  have H0 := Lib.hid h0
  have ZA := Lib.hid ha
  have ZB := Lib.hid hb
  have ZC := Lib.hid hc
  have E := Lib.hid (Ext.refl w)
  generalize decide (a < 0) = na at *
  generalize decide (b < 0) = nb at *
  generalize (digs a.natAbs).length = n at *
  generalize (digs b.natAbs).length = m at *
  generalize (digs c.natAbs).length = l at *
  generalize hrr : RM.sideZ a b c = rr at *
  have Hrr := Lib.hid hrr
  clear ha hb hc h0 la lb lc d0 hrr
  obtain ⟨W0a, hW0a⟩ : ∃ W0a, W0a = (((w.alloc (.cells #[.bool na, .slice p n k] 69)).alloc (.cells #[.bool nb, .slice q m k2] 69)).alloc (.cells #[.bool false, .slice s l k3] 69)) := ⟨_, rfl⟩
  have hx : Ext w W0a := by rw [hW0a]; exact (((Ext.alloc _ _).trans (Ext.alloc _ _)).trans (Ext.alloc _ _))
  have A_n : RowAt W0a (w.heap.size) 69 (numCells na p n k) := by rw [hW0a]; exact (((RowAt.new' _ _ (by simp)).alloc _).alloc _)
  have B_n : RowAt W0a (w.heap.size + 1) 69 (numCells nb q m k2) := by rw [hW0a]; exact ((RowAt.new' _ _ (by simp)).alloc _)
  have C_n : RowAt W0a (w.heap.size + 1 + 1) 69 (numCells false s l k3) := by rw [hW0a]; exact (RowAt.new' _ _ (by simp))
  have ZA1 := Lib.hid (hx.num ZA.out)
  have ZB1 := Lib.hid (hx.num ZB.out)
  have ZC1 := Lib.hid (hx.num ZC.out)
  have E1 := Lib.hid (E.out.trans hx)
  clear ZA ZB ZC E
  have A_1 := Lib.hid A_n
  have B_1 := Lib.hid B_n
  have C_1 := Lib.hid C_n
  have HW0a := Lib.hid hW0a
  clear hx hW0a A_n B_n C_n
  go_enter Try.func59, Try.ntmps59
  go_wp2_with fail
  rw [← HW0a.out]
  refine (short_z _ a 20 20 rfl W0a ZA1.out).mono ?_
  rintro e w2_ ⟨rfl, hx⟩
  have ZA2 := Lib.hid (hx.num ZA1.out)
  have ZB2 := Lib.hid (hx.num ZB1.out)
  have ZC2 := Lib.hid (hx.num ZC1.out)
  have E2 := Lib.hid (E1.out.trans hx)
  have A_2 := Lib.hid (hx.row A_1.out)
  have B_2 := Lib.hid (hx.row B_1.out)
  have C_2 := Lib.hid (hx.row C_1.out)
  clear ZA1 ZB1 ZC1 E1 A_1 B_1 C_1
  clear hx
  rw [FA.out]
  have cB__num0_2 := B_2.out.num0
  have cB__num1_2 := B_2.out.num1
  go_wp2_with fail
  refine (short_z _ b 20 20 rfl w2_ ZB2.out).mono ?_
  rintro e w3_ ⟨rfl, hx⟩
  clear cB__num0_2 cB__num1_2
  have ZA3 := Lib.hid (hx.num ZA2.out)
  have ZB3 := Lib.hid (hx.num ZB2.out)
  have ZC3 := Lib.hid (hx.num ZC2.out)
  have E3 := Lib.hid (E2.out.trans hx)
  have A_3 := Lib.hid (hx.row A_2.out)
  have B_3 := Lib.hid (hx.row B_2.out)
  have C_3 := Lib.hid (hx.row C_2.out)
  clear ZA2 ZB2 ZC2 E2 A_2 B_2 C_2
  clear hx
  rw [FB.out]
  have cC__num0_3 := C_3.out.num0
  have cC__num1_3 := C_3.out.num1
  go_wp2_with fail
  refine (short_z _ c 20 20 rfl w3_ ZC3.out).mono ?_
  rintro e w4_ ⟨rfl, hx⟩
  clear cC__num0_3 cC__num1_3
  have ZA4 := Lib.hid (hx.num ZA3.out)
  have ZB4 := Lib.hid (hx.num ZB3.out)
  have ZC4 := Lib.hid (hx.num ZC3.out)
  have E4 := Lib.hid (E3.out.trans hx)
  have A_4 := Lib.hid (hx.row A_3.out)
  have B_4 := Lib.hid (hx.row B_3.out)
  have C_4 := Lib.hid (hx.row C_3.out)
  clear ZA3 ZB3 ZC3 E3 A_3 B_3 C_3
  clear hx
  rw [FC.out]
  have cC__num0_4 := C_4.out.num0
  have cC__num1_4 := C_4.out.num1
  have hmf : ∀ (fn : Fn) (first cap : Array Value) (w : World), (Instr.makeFunc fn first cap).run Try.prog w = .ok (.func fn first cap) w := fun _ _ _ _ => rfl
  go_wp2_with fail
  refine (settle_calls 77 #[.pointer (some ⟨w.heap.size, 0, none⟩), .pointer (some ⟨w.heap.size + 1, 0, none⟩), .pointer (some ⟨w.heap.size + 1 + 1, 0, none⟩)] rr w4_ ent_s1 (fun W hW => by
      have h := sign1_calls w.heap.size (w.heap.size + 1) (w.heap.size + 1 + 1) na nb false p q s n k m k2 l k3 a b c W (hW.row A_4.out) (hW.row B_4.out) (hW.row C_4.out) (hW.num ZA4.out) (hW.num ZB4.out) (hW.num ZC4.out) H0.out (fitK_lim FA.out) (fitK_lim FB.out) (fitK_lim FC.out)
      rw [Hrr.out] at h
      exact h)).mono ?_
  rintro e w5_ ⟨rfl, hx⟩
  clear cC__num0_4 cC__num1_4
  have ZA5 := Lib.hid (hx.num ZA4.out)
  have ZB5 := Lib.hid (hx.num ZB4.out)
  have ZC5 := Lib.hid (hx.num ZC4.out)
  have E5 := Lib.hid (E4.out.trans hx)
  have A_5 := Lib.hid (hx.row A_4.out)
  have B_5 := Lib.hid (hx.row B_4.out)
  have C_5 := Lib.hid (hx.row C_4.out)
  clear ZA4 ZB4 ZC4 E4 A_4 B_4 C_4
  clear hx
  clear hmf
  go_wp2
  go_ret
  exact ⟨rfl, E5.out⟩
end Go.Proofs.Ytmoclgpdcnjacaa
