/- vec and its reference: functions on points and turns. -/
import Derived.Test.YtapnoijnegcmfaaBase
set_option linter.all false
namespace Go.Proofs.Ytapnoijnegcmfaa
open Go Go.RowKit Go.Shelf

theorem Ext.alloc2 (w : World) (o p : Obj) : Ext w ((w.alloc o).alloc p) := (Ext.alloc _ _).trans (Ext.alloc _ _)
theorem Ext.alloc3 (w : World) (o p q : Obj) : Ext w (((w.alloc o).alloc p).alloc q) := (Ext.alloc2 _ _ _).trans (Ext.alloc _ _)
theorem Ext.alloc4 (w : World) (o p q r : Obj) : Ext w ((((w.alloc o).alloc p).alloc q).alloc r) := (Ext.alloc3 _ _ _ _).trans (Ext.alloc _ _)
theorem w_sub (a b : Int) : wrap64 (wrap64 a - wrap64 b) = wrap64 (a - b) := by unfold wrap64; omega
theorem w_add (a b : Int) : wrap64 (wrap64 a + wrap64 b) = wrap64 (a + b) := by unfold wrap64; omega
theorem w_addl (a b : Int) : wrap64 (wrap64 a + b) = wrap64 (a + b) := by unfold wrap64; omega
theorem w_addr (a b : Int) : wrap64 (a + wrap64 b) = wrap64 (a + b) := by unfold wrap64; omega
theorem w_neg (a : Int) : wrap64 (-wrap64 a) = wrap64 (-a) := by unfold wrap64; omega
theorem w_w (a : Int) : wrap64 (wrap64 a) = wrap64 a := by unfold wrap64; omega
theorem w_tdiv (t : Int) : (wrap64 ((t.tmod 4) + 4)).tmod 4 = t % 4 := by
  have h1 : t.tmod 4 = if 0 ≤ t then t % 4 else -((-t) % 4) := by
    split
    · exact Int.tmod_eq_emod_of_nonneg (by assumption)
    · rw [show t.tmod 4 = -((-t).tmod 4) by rw [Int.neg_tmod, Int.neg_neg], Int.tmod_eq_emod_of_nonneg (by omega)]
  have h2 : 0 ≤ wrap64 (t.tmod 4 + 4) := by unfold wrap64; rw [h1]; split <;> omega
  rw [Int.tmod_eq_emod_of_nonneg h2]
  unfold wrap64; rw [h1]; split <;> omega
theorem ret_eq {u v : Value} (h : u = v) : Ending.returned u = .returned v := by rw [h]
theorem int_eq {a b : Int} (h : a = b) : Value.int .i64 a = .int .i64 b := by rw [h]
theorem pt_eq {a b c d : Int} (h : a = b) (k : c = d) : Value.agg #[.int .i64 a, .int .i64 c] = .agg #[.int .i64 b, .int .i64 d] := by rw [h, k]
theorem mo_eq {a b c d e f : Int} {g : Bool} (h : a = b) (k : c = d) (l : e = f) : Value.agg #[.int .i64 a, .int .i64 c, .int .i64 e, .bool g] = .agg #[.int .i64 b, .int .i64 d, .int .i64 f, .bool g] := by rw [h, k, l]
theorem pt_info : (Try.prog.info? 23).map (·.size) = some 2 := by kernel_rfl
theorem mo_info : (Try.prog.info? 34).map (·.size) = some 4 := by kernel_rfl
theorem ret_pt {fn : Func} {R : Ending → World → Prop} {tmps : Array Value} {w : World} {p : Tmp} (hres : fn.results = #[.cell p 23]) (g : Nat) (hp : tmps.getD p undef = .pointer (some ⟨g, 0, none⟩)) (x y : Int)
    (t : TypeId) (hg : RowAt w g t #[.int .i64 x, .int .i64 y]) (hR : R (.returned (.agg #[.int .i64 x, .int .i64 y])) w) : bodyPost Try.prog fn R .ret { tmps, defers := [] } w :=
  bodyPost_ret (results_cell_row hres _ _ _ _ _ _ _ hp hg Try.underlying23 rfl pt_info) rfl hR
theorem ret_mo {fn : Func} {R : Ending → World → Prop} {tmps : Array Value} {w : World} {p : Tmp} (hres : fn.results = #[.cell p 34]) (g : Nat) (hp : tmps.getD p undef = .pointer (some ⟨g, 0, none⟩)) (x y z : Int) (b : Bool)
    (t : TypeId) (hg : RowAt w g t #[.int .i64 x, .int .i64 y, .int .i64 z, .bool b]) (hR : R (.returned (.agg #[.int .i64 x, .int .i64 y, .int .i64 z, .bool b])) w) : bodyPost Try.prog fn R .ret { tmps, defers := [] } w :=
  bodyPost_ret (results_cell_row hres _ _ _ _ _ _ _ hp hg Try.underlying34 rfl mo_info) rfl hR
def crossZ (x1 y1 x2 y2 : Int) : Int := wrap64 (x1 * y2 - y1 * x2)
def dotZ (x1 y1 x2 y2 : Int) : Int := wrap64 (x1 * x2 + y1 * y2)
def rightB (x y : Int) : Bool := decide (-67108864 ≤ x ∧ x ≤ 67108864 ∧ -67108864 ≤ y ∧ y ≤ 67108864)
def inB (x : Int) : Bool := decide (-67108864 ≤ x ∧ x ≤ 67108864)
def sgnZ (n : Int) : Int := if 0 < n then 1 else if n < 0 then -1 else 0
def withinB (a b c d e f : Int) : Bool := decide (0 ≤ crossZ c d a b ∧ 0 ≤ crossZ a b e f)

set_option maxRecDepth 100000 in
set_option maxHeartbeats 1000000 in
theorem vadd (x1 y1 x2 y2 : Int) (w : World) : Calls Try.prog 11 #[.agg #[.int .i64 x1, .int .i64 y1], .agg #[.int .i64 x2, .int .i64 y2]] w fun e w' => e = .returned (.agg #[.int .i64 (wrap64 (x1 + x2)), .int .i64 (wrap64 (y1 + y2))]) ∧ Ext w w' := by
  go_enter Try.func11, Try.ntmps11
  go_wp2_with fail
  exact ret_pt rfl _ rfl _ _ _ (RowAt.new' _ _ (by simp)) ⟨rfl, Ext.alloc3 _ _ _ _⟩

set_option maxRecDepth 100000 in
set_option maxHeartbeats 1000000 in
theorem vsub (x1 y1 x2 y2 : Int) (w : World) : Calls Try.prog 13 #[.agg #[.int .i64 x1, .int .i64 y1], .agg #[.int .i64 x2, .int .i64 y2]] w fun e w' => e = .returned (.agg #[.int .i64 (wrap64 (x1 - x2)), .int .i64 (wrap64 (y1 - y2))]) ∧ Ext w w' := by
  go_enter Try.func13, Try.ntmps13
  go_wp2_with fail
  exact ret_pt rfl _ rfl _ _ _ (RowAt.new' _ _ (by simp)) ⟨rfl, Ext.alloc3 _ _ _ _⟩

set_option maxRecDepth 100000 in
set_option maxHeartbeats 1000000 in
theorem vcross (x1 y1 x2 y2 : Int) (w : World) : Calls Try.prog 15 #[.agg #[.int .i64 x1, .int .i64 y1], .agg #[.int .i64 x2, .int .i64 y2]] w fun e w' => e = .returned (.int .i64 (crossZ x1 y1 x2 y2)) ∧ Ext w w' := by
  go_enter Try.func15, Try.ntmps15
  go_wp2_with fail
  go_ret
  exact ⟨ret_eq (int_eq (w_sub _ _)), Ext.alloc2 _ _ _⟩

set_option maxRecDepth 100000 in
set_option maxHeartbeats 1000000 in
theorem vdot (x1 y1 x2 y2 : Int) (w : World) : Calls Try.prog 17 #[.agg #[.int .i64 x1, .int .i64 y1], .agg #[.int .i64 x2, .int .i64 y2]] w fun e w' => e = .returned (.int .i64 (dotZ x1 y1 x2 y2)) ∧ Ext w w' := by
  go_enter Try.func17, Try.ntmps17
  go_wp2_with fail
  go_ret
  exact ⟨ret_eq (int_eq (w_add _ _)), Ext.alloc2 _ _ _⟩

set_option maxRecDepth 100000 in
set_option maxHeartbeats 1000000 in
theorem radd (x1 y1 x2 y2 : Int) (w : World) : Calls Try.prog 12 #[.agg #[.int .i64 x1, .int .i64 y1], .agg #[.int .i64 x2, .int .i64 y2]] w fun e w' => e = .returned (.agg #[.int .i64 (wrap64 (x1 + x2)), .int .i64 (wrap64 (y1 + y2))]) ∧ Ext w w' := by
  go_enter Try.func12, Try.ntmps12
  go_wp2_with fail
  exact ret_pt rfl _ rfl _ _ _ (RowAt.new' _ _ (by simp)) ⟨rfl, Ext.alloc3 _ _ _ _⟩

set_option maxRecDepth 100000 in
set_option maxHeartbeats 1000000 in
theorem rsub (x1 y1 x2 y2 : Int) (w : World) : Calls Try.prog 14 #[.agg #[.int .i64 x1, .int .i64 y1], .agg #[.int .i64 x2, .int .i64 y2]] w fun e w' => e = .returned (.agg #[.int .i64 (wrap64 (x1 - x2)), .int .i64 (wrap64 (y1 - y2))]) ∧ Ext w w' := by
  go_enter Try.func14, Try.ntmps14
  go_wp2_with fail
  exact ret_pt rfl _ rfl _ _ _ (RowAt.new' _ _ (by simp)) ⟨rfl, Ext.alloc3 _ _ _ _⟩

set_option maxRecDepth 100000 in
set_option maxHeartbeats 1000000 in
theorem rcross (x1 y1 x2 y2 : Int) (w : World) : Calls Try.prog 16 #[.agg #[.int .i64 x1, .int .i64 y1], .agg #[.int .i64 x2, .int .i64 y2]] w fun e w' => e = .returned (.int .i64 (crossZ x1 y1 x2 y2)) ∧ Ext w w' := by
  go_enter Try.func16, Try.ntmps16
  go_wp2_with fail
  go_ret
  exact ⟨ret_eq (int_eq (w_sub _ _)), Ext.alloc2 _ _ _⟩

set_option maxRecDepth 100000 in
set_option maxHeartbeats 1000000 in
theorem rdot (x1 y1 x2 y2 : Int) (w : World) : Calls Try.prog 18 #[.agg #[.int .i64 x1, .int .i64 y1], .agg #[.int .i64 x2, .int .i64 y2]] w fun e w' => e = .returned (.int .i64 (dotZ x1 y1 x2 y2)) ∧ Ext w w' := by
  go_enter Try.func18, Try.ntmps18
  go_wp2_with fail
  go_ret
  exact ⟨ret_eq (int_eq (w_add _ _)), Ext.alloc2 _ _ _⟩

set_option maxRecDepth 100000 in
set_option maxHeartbeats 1000000 in
theorem lat (x y : Int) (w : World) : Calls Try.prog 23 #[.int .i64 x, .int .i64 y] w fun e w' => e = .returned (.agg #[.int .i64 x, .int .i64 y]) ∧ Ext w w' := by
  go_enter Try.func23, Try.ntmps23
  go_wp2_with fail
  exact ret_pt rfl _ rfl _ _ _ (RowAt.new' _ _ (by simp)) ⟨rfl, Ext.alloc _ _⟩

set_option maxRecDepth 100000 in
set_option maxHeartbeats 1000000 in
theorem vbounded (n : Int) (w : World) : Calls Try.prog 30 #[.int .i64 n] w fun e w' => e = .returned (.bool (inB n)) ∧ w = w' := by
  obtain ⟨b, hb⟩ : ∃ b, b = inB n := ⟨_, rfl⟩
  rw [← hb]
  unfold inB at hb
  by_cases h1 : -67108864 ≤ n
  · by_cases h2 : n ≤ 67108864
    · have hb' : b = true := by rw [hb]; simp; omega
      subst hb'; clear hb
      go_enter Try.func30, Try.ntmps30
      go_wp2_with fail
      go_ret
      exact ⟨rfl, rfl⟩
    · have hb' : b = false := by rw [hb]; simp; omega
      subst hb'; clear hb
      go_enter Try.func30, Try.ntmps30
      go_wp2_with fail
      go_ret
      exact ⟨rfl, rfl⟩
  · have hb' : b = false := by rw [hb]; simp; omega
    subst hb'; clear hb
    go_enter Try.func30, Try.ntmps30
    go_wp2_with fail
    go_ret
    exact ⟨rfl, rfl⟩

set_option maxRecDepth 100000 in
set_option maxHeartbeats 1000000 in
theorem rturns (t : Int) (w : World) : Calls Try.prog 35 #[.int .i64 t] w fun e w' => e = .returned (.int .i64 (t % 4)) ∧ w = w' := by
  go_enter Try.func35, Try.ntmps35
  go_wp2_with fail
  go_ret
  exact ⟨ret_eq (int_eq (w_tdiv t)), rfl⟩

set_option maxRecDepth 100000 in
set_option maxHeartbeats 1000000 in
theorem vturns (t : Int) (w : World) : Calls Try.prog 32 #[.int .i64 t] w fun e w' => e = .returned (.int .i64 (t % 4)) ∧ w = w' := by
  go_enter Try.func32, Try.ntmps32
  go_wp2_with fail
  go_ret
  exact ⟨ret_eq (int_eq (w_tdiv t)), rfl⟩

set_option maxRecDepth 100000 in
set_option maxHeartbeats 1000000 in
theorem isnan (t : Int) (w : World) : Calls Try.prog 36 #[.int .i64 t] w fun e w' => e = .returned (.bool false) ∧ w = w' := by
  go_enter Try.func36, Try.ntmps36
  go_wp2_with fail
  go_ret
  exact ⟨by simp, rfl⟩

set_option maxRecDepth 100000 in
set_option maxHeartbeats 1000000 in
theorem cmpi (a b : Int) (w : World) : Calls Try.prog 31 #[.int .i64 a, .int .i64 b] w fun e w' => e = .returned (.int .i64 (sgnZ (a - b))) ∧ w = w' := by
  obtain ⟨s, hs⟩ : ∃ s, s = sgnZ (a - b) := ⟨_, rfl⟩
  rw [← hs]
  unfold sgnZ at hs
  have HS := Lib.hid hs
  clear hs
  rcases Int.lt_trichotomy a b with h | h | h
  · have hs' : s = -1 := by rw [HS.out, if_neg (by omega), if_pos (by omega)]
    subst hs'; clear HS
    go_enter Try.func31, Try.ntmps31
    go_wp2_with (refine (isnan _ _).mono ?_; rintro e w' ⟨rfl, rfl⟩)
    go_ret
    exact ⟨rfl, rfl⟩
  · have hs' : s = 0 := by rw [HS.out, if_neg (by omega), if_neg (by omega)]
    subst hs' h; clear HS
    go_enter Try.func31, Try.ntmps31
    go_wp2_with (refine (isnan _ _).mono ?_; rintro e w' ⟨rfl, rfl⟩)
    go_ret
    exact ⟨rfl, rfl⟩
  · have hs' : s = 1 := by rw [HS.out, if_pos (by omega)]
    subst hs'; clear HS
    have h2 : ¬ a < b := by omega
    go_enter Try.func31, Try.ntmps31
    go_wp2_with (refine (isnan _ _).mono ?_; rintro e w' ⟨rfl, rfl⟩)
    go_ret
    exact ⟨rfl, rfl⟩

end Go.Proofs.Ytapnoijnegcmfaa
