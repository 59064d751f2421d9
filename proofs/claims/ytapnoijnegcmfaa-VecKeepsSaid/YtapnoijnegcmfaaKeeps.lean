/- VecKeeps, as a walk. -/
import Derived.Test.YtapnoijnegcmfaaOws
import Derived.Deep.Cut
set_option linter.all false
namespace Go.Proofs.Ytapnoijnegcmfaa
open Go Go.RowKit Go.Shelf

def b7 (x : Int) : Prop := -10000000 ≤ x ∧ x ≤ 10000000
theorem tmod7 (x : Int) : b7 (x.tmod 10000000) := by
  have h4 : x.tmod 10000000 = if 0 ≤ x then x % 10000000 else -((-x) % 10000000) := by
    split
    · exact Int.tmod_eq_emod_of_nonneg (by assumption)
    · rw [show x.tmod 10000000 = -((-x).tmod 10000000) by rw [Int.neg_tmod, Int.neg_neg], Int.tmod_eq_emod_of_nonneg (by omega)]
  unfold b7; rw [h4]; split <;> omega
def sg (m : Bool) : Int := if m then -1 else 1
theorem ru_sub (t : Int) (m : Bool) (x y a b : Int) : ruX t m x y - ruX t m a b = ruX t m (x - a) (y - b) ∧ ruY t m x y - ruY t m a b = ruY t m (x - a) (y - b) := by
  unfold ruX ruY
  rcases four t with h | h | h | h <;> cases m <;> simp [h] <;> omega
theorem ru_in (t : Int) (m : Bool) {x y c : Int} (hx : -c ≤ x ∧ x ≤ c) (hy : -c ≤ y ∧ y ≤ c) : (-c ≤ ruX t m x y ∧ ruX t m x y ≤ c) ∧ (-c ≤ ruY t m x y ∧ ruY t m x y ≤ c) := by
  unfold ruX ruY
  rcases four t with h | h | h | h <;> cases m <;> simp [h] <;> omega
theorem ru_dot (t : Int) (m : Bool) (x y a b : Int) : ruX t m x y * ruX t m a b + ruY t m x y * ruY t m a b = x * a + y * b := by
  unfold ruX ruY
  rcases four t with h | h | h | h <;> cases m <;> simp [h] <;> grind
theorem ru_cross (t : Int) (m : Bool) (x y a b : Int) : ruX t m x y * ruY t m a b - ruY t m x y * ruX t m a b = sg m * (x * b - y * a) := by
  unfold ruX ruY sg
  rcases four t with h | h | h | h <;> cases m <;> simp [h] <;> grind
theorem mul7 {p a c d : Int} (hp : -c ≤ p ∧ p ≤ c) (ha : -d ≤ a ∧ a ≤ d) : -(c * d) ≤ p * a ∧ p * a ≤ c * d := by
  have h1 : 0 ≤ (p + c) * (a + d) := Int.mul_nonneg (by omega) (by omega)
  have h2 : 0 ≤ (c - p) * (d - a) := Int.mul_nonneg (by omega) (by omega)
  have h3 : 0 ≤ (p + c) * (d - a) := Int.mul_nonneg (by omega) (by omega)
  have h4 : 0 ≤ (c - p) * (a + d) := Int.mul_nonneg (by omega) (by omega)
  constructor <;> grind
/-- A moved point, where nothing wraps. -/
theorem ap_in (t : Int) (m : Bool) {a b x y : Int} (ha : b7 a) (hb : b7 b) (hx : b7 x) (hy : b7 y) : apX a t m x y = ruX t m x y + a ∧ apY b t m x y = ruY t m x y + b := by
  unfold b7 at *
  have h := ru_in t m (c := 10000000) hx hy
  rw [apX_ru, apY_ru]
  exact ⟨w_in (by omega) (by omega), w_in (by omega) (by omega)⟩
theorem sub_in {x a : Int} (hx : b7 x) (ha : b7 a) : wrap64 (x - a) = x - a ∧ (-20000000 ≤ x - a ∧ x - a ≤ 20000000) := by
  unfold b7 at *
  exact ⟨w_in (by omega) (by omega), by omega, by omega⟩
section
variable {t : Int} {m : Bool} {a b x0 y0 x1 y1 x2 y2 s0 u0 s1 u1 s2 u2 : Int}
theorem keep_sub (ha : b7 a) (hb : b7 b) (h0 : b7 x0) (g0 : b7 y0) (h1 : b7 x1) (g1 : b7 y1) : wrap64 (apX a t m x1 y1 - apX a t m x0 y0) = ruX t m (x1 - x0) (y1 - y0) ∧ wrap64 (apY b t m x1 y1 - apY b t m x0 y0) = ruY t m (x1 - x0) (y1 - y0) := by
  have e0 := ap_in t m ha hb h0 g0
  have e1 := ap_in t m ha hb h1 g1
  have d := ru_sub t m x1 y1 x0 y0
  have i := ru_in t m (c := 20000000) (sub_in h1 h0).2 (sub_in g1 g0).2
  rw [e0.1, e0.2, e1.1, e1.2, ← d.1, ← d.2]
  rw [← d.1, ← d.2] at i
  exact ⟨(w_in (by omega) (by omega)).trans (by omega), (w_in (by omega) (by omega)).trans (by omega)⟩
theorem keep_dot (ha : b7 a) (hb : b7 b) (h0 : b7 x0) (g0 : b7 y0) (h1 : b7 x1) (g1 : b7 y1) (h2 : b7 x2) (g2 : b7 y2) :
    dotZ (wrap64 (x1 - x0)) (wrap64 (y1 - y0)) (wrap64 (x2 - x0)) (wrap64 (y2 - y0)) = dotZ (wrap64 (apX a t m x1 y1 - apX a t m x0 y0)) (wrap64 (apY b t m x1 y1 - apY b t m x0 y0)) (wrap64 (apX a t m x2 y2 - apX a t m x0 y0)) (wrap64 (apY b t m x2 y2 - apY b t m x0 y0)) := by
  rw [(keep_sub ha hb h0 g0 h1 g1).1, (keep_sub ha hb h0 g0 h1 g1).2, (keep_sub ha hb h0 g0 h2 g2).1, (keep_sub ha hb h0 g0 h2 g2).2, (sub_in h1 h0).1, (sub_in g1 g0).1, (sub_in h2 h0).1, (sub_in g2 g0).1]
  unfold dotZ
  rw [ru_dot]
theorem cross_in (h0 : b7 x0) (g0 : b7 y0) (h1 : b7 x1) (g1 : b7 y1) (h2 : b7 x2) (g2 : b7 y2) : crossZ (wrap64 (x1 - x0)) (wrap64 (y1 - y0)) (wrap64 (x2 - x0)) (wrap64 (y2 - y0)) = (x1 - x0) * (y2 - y0) - (y1 - y0) * (x2 - x0) ∧ -800000000000000 ≤ (x1 - x0) * (y2 - y0) - (y1 - y0) * (x2 - x0) ∧ (x1 - x0) * (y2 - y0) - (y1 - y0) * (x2 - x0) ≤ 800000000000000 := by
  rw [(sub_in h1 h0).1, (sub_in g1 g0).1, (sub_in h2 h0).1, (sub_in g2 g0).1]
  have i1 := mul7 (c := 20000000) (d := 20000000) (sub_in h1 h0).2 (sub_in g2 g0).2
  have i2 := mul7 (c := 20000000) (d := 20000000) (sub_in g1 g0).2 (sub_in h2 h0).2
  exact ⟨w_in (by omega) (by omega), by omega, by omega⟩
theorem keep_cross (ha : b7 a) (hb : b7 b) (h0 : b7 x0) (g0 : b7 y0) (h1 : b7 x1) (g1 : b7 y1) (h2 : b7 x2) (g2 : b7 y2) :
    crossZ (wrap64 (apX a t m x1 y1 - apX a t m x0 y0)) (wrap64 (apY b t m x1 y1 - apY b t m x0 y0)) (wrap64 (apX a t m x2 y2 - apX a t m x0 y0)) (wrap64 (apY b t m x2 y2 - apY b t m x0 y0)) = sg m * crossZ (wrap64 (x1 - x0)) (wrap64 (y1 - y0)) (wrap64 (x2 - x0)) (wrap64 (y2 - y0)) := by
  have i := cross_in h0 g0 h1 g1 h2 g2
  rw [i.1, (keep_sub ha hb h0 g0 h1 g1).1, (keep_sub ha hb h0 g0 h1 g1).2, (keep_sub ha hb h0 g0 h2 g2).1, (keep_sub ha hb h0 g0 h2 g2).2]
  unfold crossZ
  rw [ru_cross]
  cases m <;> simp only [sg] <;> exact w_in (by simp; omega) (by simp; omega)
theorem keep_cross2 (ha : b7 a) (hb : b7 b) (h0 : b7 x0) (g0 : b7 y0) (h1 : b7 x1) (g1 : b7 y1) (h2 : b7 x2) (g2 : b7 y2) :
    crossZ (wrap64 (x1 - x0)) (wrap64 (y1 - y0)) (wrap64 (x2 - x0)) (wrap64 (y2 - y0)) = wrap64 (sg m * crossZ (wrap64 (apX a t m x1 y1 - apX a t m x0 y0)) (wrap64 (apY b t m x1 y1 - apY b t m x0 y0)) (wrap64 (apX a t m x2 y2 - apX a t m x0 y0)) (wrap64 (apY b t m x2 y2 - apY b t m x0 y0))) := by
  have i := cross_in h0 g0 h1 g1 h2 g2
  rw [keep_cross ha hb h0 g0 h1 g1 h2 g2, i.1]
  have hs : ∀ z : Int, sg m * (sg m * z) = z := by intro z; cases m <;> simp [sg]
  rw [hs]
  exact (w_in (by omega) (by omega)).symm
theorem sgn_sg (m : Bool) (z : Int) : sgnZ z = wrap64 (sg m * sgnZ (sg m * z)) := by
  have h : sg m * sgnZ (sg m * z) = sgnZ z := by
    unfold sgnZ sg
    cases m <;> simp <;> (repeat' split) <;> omega
  rw [h]
  unfold sgnZ
  refine (w_in ?_ ?_).symm <;> (repeat' split) <;> omega
theorem keep_side (ha : b7 a) (hb : b7 b) (h0 : b7 x0) (g0 : b7 y0) (h1 : b7 x1) (g1 : b7 y1) (h2 : b7 x2) (g2 : b7 y2) :
    sideZ x0 y0 x1 y1 x2 y2 = wrap64 (sg m * sideZ (apX a t m x0 y0) (apY b t m x0 y0) (apX a t m x1 y1) (apY b t m x1 y1) (apX a t m x2 y2) (apY b t m x2 y2)) := by
  unfold sideZ
  rw [keep_cross ha hb h0 g0 h1 g1 h2 g2]
  exact sgn_sg m _
end

def kpt3V (w : World) (x y t : Int) (x0 y0 x1 y1 x2 y2 : Int) (W0 : World) (w1 : World) (W1 : World) : Nat → Value
  | 0 => .pointer (some ⟨w.heap.size, 0, none⟩)
  | 1 => .pointer (some ⟨w.heap.size, 0, none⟩)
  | 2 => .int .i64 x
  | 3 => .int .i64 (x.tmod 10000000)
  | 4 => .pointer (some ⟨w.heap.size, 0, none⟩)
  | 5 => .pointer (some ⟨w.heap.size, 1, none⟩)
  | 6 => .int .i64 y
  | 7 => .int .i64 (y.tmod 10000000)
  | 8 => .agg #[.int .i64 (x.tmod 10000000), .int .i64 (y.tmod 10000000)]
  | _ => undef
def kpt3F (w : World) (x y t : Int) (x0 y0 x1 y1 x2 y2 : Int) (W0 : World) (w1 : World) (W1 : World) (j : Nat) (v : Value) : Prop := v = kpt3V w x y t x0 y0 x1 y1 x2 y2 W0 w1 W1 j
def kpt7_0V (w : World) (x y t : Int) (x0 y0 x1 y1 x2 y2 : Int) (W0 : World) (w1 : World) (W1 : World) (wfkpt3 : World) (tvkpt3 : Nat → Value) (mx my : Int) (Wm : World) : Nat → Value
  | 0 => .int .i64 0
  | 1 => .int .i64 0
  | 2 => .pointer (some ⟨w.heap.size + 1, 0, none⟩)
  | 3 => .pointer (some ⟨w.heap.size + 1, 0, none⟩)
  | 4 => .int .i64 x0
  | 5 => .int .i64 (x0.tmod 10000000)
  | 6 => .int .i64 0
  | 7 => .pointer (some ⟨w.heap.size + 1, 0, none⟩)
  | 8 => .pointer (some ⟨w.heap.size + 1, 1, none⟩)
  | 9 => .int .i64 y0
  | 10 => .int .i64 (y0.tmod 10000000)
  | 11 => .agg #[.int .i64 (x0.tmod 10000000), .int .i64 (y0.tmod 10000000)]
  | _ => undef
def kpt7_0F (w : World) (x y t : Int) (x0 y0 x1 y1 x2 y2 : Int) (W0 : World) (w1 : World) (W1 : World) (wfkpt3 : World) (tvkpt3 : Nat → Value) (mx my : Int) (Wm : World) (j : Nat) (v : Value) : Prop := v = kpt7_0V w x y t x0 y0 x1 y1 x2 y2 W0 w1 W1 wfkpt3 tvkpt3 mx my Wm j
def kpt8_0V (w : World) (x y t : Int) (x0 y0 x1 y1 x2 y2 : Int) (W0 : World) (w1 : World) (W1 : World) (wfkpt3 : World) (tvkpt3 : Nat → Value) (mx my : Int) (Wm : World) (wfkpt7_0 : World) (tvkpt7_0 : Nat → Value) (p0 q0 : Int) (Wl0 : World) : Nat → Value
  | 0 => .int .i64 0
  | 1 => .agg #[.int .i64 mx, .int .i64 my, .int .i64 t, .bool true]
  | 2 => .int .i64 0
  | 3 => .pointer (some ⟨w.heap.size + 1, 0, none⟩)
  | 4 => .agg #[.int .i64 p0, .int .i64 q0]
  | 5 => .agg #[.int .i64 (apX mx t true p0 q0), .int .i64 (apY my t true p0 q0)]
  | _ => undef
def kpt8_0F (w : World) (x y t : Int) (x0 y0 x1 y1 x2 y2 : Int) (W0 : World) (w1 : World) (W1 : World) (wfkpt3 : World) (tvkpt3 : Nat → Value) (mx my : Int) (Wm : World) (wfkpt7_0 : World) (tvkpt7_0 : Nat → Value) (p0 q0 : Int) (Wl0 : World) (j : Nat) (v : Value) : Prop := v = kpt8_0V w x y t x0 y0 x1 y1 x2 y2 W0 w1 W1 wfkpt3 tvkpt3 mx my Wm wfkpt7_0 tvkpt7_0 p0 q0 Wl0 j
def kpt7_1V (w : World) (x y t : Int) (x0 y0 x1 y1 x2 y2 : Int) (W0 : World) (w1 : World) (W1 : World) (wfkpt3 : World) (tvkpt3 : Nat → Value) (mx my : Int) (Wm : World) (wfkpt7_0 : World) (tvkpt7_0 : Nat → Value) (p0 q0 : Int) (Wl0 : World) (wfkpt8_0 : World) (tvkpt8_0 : Nat → Value) (s0 u0 : Int) (Wv0 : World) : Nat → Value
  | 0 => .int .i64 1
  | 1 => .int .i64 1
  | 2 => .pointer (some ⟨w.heap.size + 1, 2, none⟩)
  | 3 => .pointer (some ⟨w.heap.size + 1, 2, none⟩)
  | 4 => .int .i64 x1
  | 5 => .int .i64 (x1.tmod 10000000)
  | 6 => .int .i64 1
  | 7 => .pointer (some ⟨w.heap.size + 1, 2, none⟩)
  | 8 => .pointer (some ⟨w.heap.size + 1, 3, none⟩)
  | 9 => .int .i64 y1
  | 10 => .int .i64 (y1.tmod 10000000)
  | 11 => .agg #[.int .i64 (x1.tmod 10000000), .int .i64 (y1.tmod 10000000)]
  | _ => undef
def kpt7_1F (w : World) (x y t : Int) (x0 y0 x1 y1 x2 y2 : Int) (W0 : World) (w1 : World) (W1 : World) (wfkpt3 : World) (tvkpt3 : Nat → Value) (mx my : Int) (Wm : World) (wfkpt7_0 : World) (tvkpt7_0 : Nat → Value) (p0 q0 : Int) (Wl0 : World) (wfkpt8_0 : World) (tvkpt8_0 : Nat → Value) (s0 u0 : Int) (Wv0 : World) (j : Nat) (v : Value) : Prop := v = kpt7_1V w x y t x0 y0 x1 y1 x2 y2 W0 w1 W1 wfkpt3 tvkpt3 mx my Wm wfkpt7_0 tvkpt7_0 p0 q0 Wl0 wfkpt8_0 tvkpt8_0 s0 u0 Wv0 j
def kpt8_1V (w : World) (x y t : Int) (x0 y0 x1 y1 x2 y2 : Int) (W0 : World) (w1 : World) (W1 : World) (wfkpt3 : World) (tvkpt3 : Nat → Value) (mx my : Int) (Wm : World) (wfkpt7_0 : World) (tvkpt7_0 : Nat → Value) (p0 q0 : Int) (Wl0 : World) (wfkpt8_0 : World) (tvkpt8_0 : Nat → Value) (s0 u0 : Int) (Wv0 : World) (wfkpt7_1 : World) (tvkpt7_1 : Nat → Value) (p1 q1 : Int) (Wl1 : World) : Nat → Value
  | 0 => .int .i64 1
  | 1 => .agg #[.int .i64 mx, .int .i64 my, .int .i64 t, .bool true]
  | 2 => .int .i64 1
  | 3 => .pointer (some ⟨w.heap.size + 1, 2, none⟩)
  | 4 => .agg #[.int .i64 p1, .int .i64 q1]
  | 5 => .agg #[.int .i64 (apX mx t true p1 q1), .int .i64 (apY my t true p1 q1)]
  | _ => undef
def kpt8_1F (w : World) (x y t : Int) (x0 y0 x1 y1 x2 y2 : Int) (W0 : World) (w1 : World) (W1 : World) (wfkpt3 : World) (tvkpt3 : Nat → Value) (mx my : Int) (Wm : World) (wfkpt7_0 : World) (tvkpt7_0 : Nat → Value) (p0 q0 : Int) (Wl0 : World) (wfkpt8_0 : World) (tvkpt8_0 : Nat → Value) (s0 u0 : Int) (Wv0 : World) (wfkpt7_1 : World) (tvkpt7_1 : Nat → Value) (p1 q1 : Int) (Wl1 : World) (j : Nat) (v : Value) : Prop := v = kpt8_1V w x y t x0 y0 x1 y1 x2 y2 W0 w1 W1 wfkpt3 tvkpt3 mx my Wm wfkpt7_0 tvkpt7_0 p0 q0 Wl0 wfkpt8_0 tvkpt8_0 s0 u0 Wv0 wfkpt7_1 tvkpt7_1 p1 q1 Wl1 j
def kpt7_2V (w : World) (x y t : Int) (x0 y0 x1 y1 x2 y2 : Int) (W0 : World) (w1 : World) (W1 : World) (wfkpt3 : World) (tvkpt3 : Nat → Value) (mx my : Int) (Wm : World) (wfkpt7_0 : World) (tvkpt7_0 : Nat → Value) (p0 q0 : Int) (Wl0 : World) (wfkpt8_0 : World) (tvkpt8_0 : Nat → Value) (s0 u0 : Int) (Wv0 : World) (wfkpt7_1 : World) (tvkpt7_1 : Nat → Value) (p1 q1 : Int) (Wl1 : World) (wfkpt8_1 : World) (tvkpt8_1 : Nat → Value) (s1 u1 : Int) (Wv1 : World) : Nat → Value
  | 0 => .int .i64 2
  | 1 => .int .i64 2
  | 2 => .pointer (some ⟨w.heap.size + 1, 4, none⟩)
  | 3 => .pointer (some ⟨w.heap.size + 1, 4, none⟩)
  | 4 => .int .i64 x2
  | 5 => .int .i64 (x2.tmod 10000000)
  | 6 => .int .i64 2
  | 7 => .pointer (some ⟨w.heap.size + 1, 4, none⟩)
  | 8 => .pointer (some ⟨w.heap.size + 1, 5, none⟩)
  | 9 => .int .i64 y2
  | 10 => .int .i64 (y2.tmod 10000000)
  | 11 => .agg #[.int .i64 (x2.tmod 10000000), .int .i64 (y2.tmod 10000000)]
  | _ => undef
def kpt7_2F (w : World) (x y t : Int) (x0 y0 x1 y1 x2 y2 : Int) (W0 : World) (w1 : World) (W1 : World) (wfkpt3 : World) (tvkpt3 : Nat → Value) (mx my : Int) (Wm : World) (wfkpt7_0 : World) (tvkpt7_0 : Nat → Value) (p0 q0 : Int) (Wl0 : World) (wfkpt8_0 : World) (tvkpt8_0 : Nat → Value) (s0 u0 : Int) (Wv0 : World) (wfkpt7_1 : World) (tvkpt7_1 : Nat → Value) (p1 q1 : Int) (Wl1 : World) (wfkpt8_1 : World) (tvkpt8_1 : Nat → Value) (s1 u1 : Int) (Wv1 : World) (j : Nat) (v : Value) : Prop := v = kpt7_2V w x y t x0 y0 x1 y1 x2 y2 W0 w1 W1 wfkpt3 tvkpt3 mx my Wm wfkpt7_0 tvkpt7_0 p0 q0 Wl0 wfkpt8_0 tvkpt8_0 s0 u0 Wv0 wfkpt7_1 tvkpt7_1 p1 q1 Wl1 wfkpt8_1 tvkpt8_1 s1 u1 Wv1 j
def kpt8_2V (w : World) (x y t : Int) (x0 y0 x1 y1 x2 y2 : Int) (W0 : World) (w1 : World) (W1 : World) (wfkpt3 : World) (tvkpt3 : Nat → Value) (mx my : Int) (Wm : World) (wfkpt7_0 : World) (tvkpt7_0 : Nat → Value) (p0 q0 : Int) (Wl0 : World) (wfkpt8_0 : World) (tvkpt8_0 : Nat → Value) (s0 u0 : Int) (Wv0 : World) (wfkpt7_1 : World) (tvkpt7_1 : Nat → Value) (p1 q1 : Int) (Wl1 : World) (wfkpt8_1 : World) (tvkpt8_1 : Nat → Value) (s1 u1 : Int) (Wv1 : World) (wfkpt7_2 : World) (tvkpt7_2 : Nat → Value) (p2 q2 : Int) (Wl2 : World) : Nat → Value
  | 0 => .int .i64 2
  | 1 => .agg #[.int .i64 mx, .int .i64 my, .int .i64 t, .bool true]
  | 2 => .int .i64 2
  | 3 => .pointer (some ⟨w.heap.size + 1, 4, none⟩)
  | 4 => .agg #[.int .i64 p2, .int .i64 q2]
  | 5 => .agg #[.int .i64 (apX mx t true p2 q2), .int .i64 (apY my t true p2 q2)]
  | _ => undef
def kpt8_2F (w : World) (x y t : Int) (x0 y0 x1 y1 x2 y2 : Int) (W0 : World) (w1 : World) (W1 : World) (wfkpt3 : World) (tvkpt3 : Nat → Value) (mx my : Int) (Wm : World) (wfkpt7_0 : World) (tvkpt7_0 : Nat → Value) (p0 q0 : Int) (Wl0 : World) (wfkpt8_0 : World) (tvkpt8_0 : Nat → Value) (s0 u0 : Int) (Wv0 : World) (wfkpt7_1 : World) (tvkpt7_1 : Nat → Value) (p1 q1 : Int) (Wl1 : World) (wfkpt8_1 : World) (tvkpt8_1 : Nat → Value) (s1 u1 : Int) (Wv1 : World) (wfkpt7_2 : World) (tvkpt7_2 : Nat → Value) (p2 q2 : Int) (Wl2 : World) (j : Nat) (v : Value) : Prop := v = kpt8_2V w x y t x0 y0 x1 y1 x2 y2 W0 w1 W1 wfkpt3 tvkpt3 mx my Wm wfkpt7_0 tvkpt7_0 p0 q0 Wl0 wfkpt8_0 tvkpt8_0 s0 u0 Wv0 wfkpt7_1 tvkpt7_1 p1 q1 Wl1 wfkpt8_1 tvkpt8_1 s1 u1 Wv1 wfkpt7_2 tvkpt7_2 p2 q2 Wl2 j
def kpt9V (w : World) (x y t : Int) (x0 y0 x1 y1 x2 y2 : Int) (W0 : World) (w1 : World) (W1 : World) (wfkpt3 : World) (tvkpt3 : Nat → Value) (mx my : Int) (Wm : World) (wfkpt7_0 : World) (tvkpt7_0 : Nat → Value) (p0 q0 : Int) (Wl0 : World) (wfkpt8_0 : World) (tvkpt8_0 : Nat → Value) (s0 u0 : Int) (Wv0 : World) (wfkpt7_1 : World) (tvkpt7_1 : Nat → Value) (p1 q1 : Int) (Wl1 : World) (wfkpt8_1 : World) (tvkpt8_1 : Nat → Value) (s1 u1 : Int) (Wv1 : World) (wfkpt7_2 : World) (tvkpt7_2 : Nat → Value) (p2 q2 : Int) (Wl2 : World) (wfkpt8_2 : World) (tvkpt8_2 : Nat → Value) (s2 u2 : Int) (Wv2 : World) : Nat → Value
  | 0 => .pointer (some ⟨w.heap.size + 1, 2, none⟩)
  | 1 => .agg #[.int .i64 p1, .int .i64 q1]
  | 2 => .pointer (some ⟨w.heap.size + 1, 0, none⟩)
  | 3 => .agg #[.int .i64 p0, .int .i64 q0]
  | 4 => .agg #[.int .i64 (wrap64 (p1 - p0)), .int .i64 (wrap64 (q1 - q0))]
  | 5 => .pointer (some ⟨w.heap.size + 1, 4, none⟩)
  | 6 => .agg #[.int .i64 p2, .int .i64 q2]
  | 7 => .pointer (some ⟨w.heap.size + 1, 0, none⟩)
  | 8 => .agg #[.int .i64 p0, .int .i64 q0]
  | 9 => .agg #[.int .i64 (wrap64 (p2 - p0)), .int .i64 (wrap64 (q2 - q0))]
  | _ => undef
def kpt9F (w : World) (x y t : Int) (x0 y0 x1 y1 x2 y2 : Int) (W0 : World) (w1 : World) (W1 : World) (wfkpt3 : World) (tvkpt3 : Nat → Value) (mx my : Int) (Wm : World) (wfkpt7_0 : World) (tvkpt7_0 : Nat → Value) (p0 q0 : Int) (Wl0 : World) (wfkpt8_0 : World) (tvkpt8_0 : Nat → Value) (s0 u0 : Int) (Wv0 : World) (wfkpt7_1 : World) (tvkpt7_1 : Nat → Value) (p1 q1 : Int) (Wl1 : World) (wfkpt8_1 : World) (tvkpt8_1 : Nat → Value) (s1 u1 : Int) (Wv1 : World) (wfkpt7_2 : World) (tvkpt7_2 : Nat → Value) (p2 q2 : Int) (Wl2 : World) (wfkpt8_2 : World) (tvkpt8_2 : Nat → Value) (s2 u2 : Int) (Wv2 : World) : Nat → Value → Prop
  | 10, _ => True
  | 11, _ => True
  | 12, _ => True
  | 13, _ => True
  | j, v => v = kpt9V w x y t x0 y0 x1 y1 x2 y2 W0 w1 W1 wfkpt3 tvkpt3 mx my Wm wfkpt7_0 tvkpt7_0 p0 q0 Wl0 wfkpt8_0 tvkpt8_0 s0 u0 Wv0 wfkpt7_1 tvkpt7_1 p1 q1 Wl1 wfkpt8_1 tvkpt8_1 s1 u1 Wv1 wfkpt7_2 tvkpt7_2 p2 q2 Wl2 wfkpt8_2 tvkpt8_2 s2 u2 Wv2 j
def kpt10V (w : World) (x y t : Int) (x0 y0 x1 y1 x2 y2 : Int) (W0 : World) (w1 : World) (W1 : World) (wfkpt3 : World) (tvkpt3 : Nat → Value) (mx my : Int) (Wm : World) (wfkpt7_0 : World) (tvkpt7_0 : Nat → Value) (p0 q0 : Int) (Wl0 : World) (wfkpt8_0 : World) (tvkpt8_0 : Nat → Value) (s0 u0 : Int) (Wv0 : World) (wfkpt7_1 : World) (tvkpt7_1 : Nat → Value) (p1 q1 : Int) (Wl1 : World) (wfkpt8_1 : World) (tvkpt8_1 : Nat → Value) (s1 u1 : Int) (Wv1 : World) (wfkpt7_2 : World) (tvkpt7_2 : Nat → Value) (p2 q2 : Int) (Wl2 : World) (wfkpt8_2 : World) (tvkpt8_2 : Nat → Value) (s2 u2 : Int) (Wv2 : World) (wfkpt9 : World) (ga gb : Nat) (tvk9 : Nat → Value) : Nat → Value
  | 0 => .pointer (some ⟨w1.heap.size, 2, none⟩)
  | 1 => .agg #[.int .i64 s1, .int .i64 u1]
  | 2 => .pointer (some ⟨w1.heap.size, 0, none⟩)
  | 3 => .agg #[.int .i64 s0, .int .i64 u0]
  | 4 => .agg #[.int .i64 (wrap64 (s1 - s0)), .int .i64 (wrap64 (u1 - u0))]
  | 5 => .pointer (some ⟨w1.heap.size, 4, none⟩)
  | 6 => .agg #[.int .i64 s2, .int .i64 u2]
  | 7 => .pointer (some ⟨w1.heap.size, 0, none⟩)
  | 8 => .agg #[.int .i64 s0, .int .i64 u0]
  | 9 => .agg #[.int .i64 (wrap64 (s2 - s0)), .int .i64 (wrap64 (u2 - u0))]
  | _ => undef
def kpt10F (w : World) (x y t : Int) (x0 y0 x1 y1 x2 y2 : Int) (W0 : World) (w1 : World) (W1 : World) (wfkpt3 : World) (tvkpt3 : Nat → Value) (mx my : Int) (Wm : World) (wfkpt7_0 : World) (tvkpt7_0 : Nat → Value) (p0 q0 : Int) (Wl0 : World) (wfkpt8_0 : World) (tvkpt8_0 : Nat → Value) (s0 u0 : Int) (Wv0 : World) (wfkpt7_1 : World) (tvkpt7_1 : Nat → Value) (p1 q1 : Int) (Wl1 : World) (wfkpt8_1 : World) (tvkpt8_1 : Nat → Value) (s1 u1 : Int) (Wv1 : World) (wfkpt7_2 : World) (tvkpt7_2 : Nat → Value) (p2 q2 : Int) (Wl2 : World) (wfkpt8_2 : World) (tvkpt8_2 : Nat → Value) (s2 u2 : Int) (Wv2 : World) (wfkpt9 : World) (ga gb : Nat) (tvk9 : Nat → Value) : Nat → Value → Prop
  | 10, _ => True
  | 11, _ => True
  | 12, _ => True
  | 13, _ => True
  | j, v => v = kpt10V w x y t x0 y0 x1 y1 x2 y2 W0 w1 W1 wfkpt3 tvkpt3 mx my Wm wfkpt7_0 tvkpt7_0 p0 q0 Wl0 wfkpt8_0 tvkpt8_0 s0 u0 Wv0 wfkpt7_1 tvkpt7_1 p1 q1 Wl1 wfkpt8_1 tvkpt8_1 s1 u1 Wv1 wfkpt7_2 tvkpt7_2 p2 q2 Wl2 wfkpt8_2 tvkpt8_2 s2 u2 Wv2 wfkpt9 ga gb tvk9 j
def kpt14V (w : World) (x y t : Int) (x0 y0 x1 y1 x2 y2 : Int) (W0 : World) (w1 : World) (W1 : World) (wfkpt3 : World) (tvkpt3 : Nat → Value) (mx my : Int) (Wm : World) (wfkpt7_0 : World) (tvkpt7_0 : Nat → Value) (p0 q0 : Int) (Wl0 : World) (wfkpt8_0 : World) (tvkpt8_0 : Nat → Value) (s0 u0 : Int) (Wv0 : World) (wfkpt7_1 : World) (tvkpt7_1 : Nat → Value) (p1 q1 : Int) (Wl1 : World) (wfkpt8_1 : World) (tvkpt8_1 : Nat → Value) (s1 u1 : Int) (Wv1 : World) (wfkpt7_2 : World) (tvkpt7_2 : Nat → Value) (p2 q2 : Int) (Wl2 : World) (wfkpt8_2 : World) (tvkpt8_2 : Nat → Value) (s2 u2 : Int) (Wv2 : World) (wfkpt9 : World) (ga gb : Nat) (tvk9 : Nat → Value) (wfkpt10 : World) (gc gd : Nat) (tvk10 : Nat → Value) : Nat → Value
  | 0 => .bool true
  | 1 => .bool true
  | 2 => .agg #[.int .i64 (wrap64 (p1 - p0)), .int .i64 (wrap64 (q1 - q0))]
  | 3 => .agg #[.int .i64 (wrap64 (p2 - p0)), .int .i64 (wrap64 (q2 - q0))]
  | 4 => .int .i64 (dotZ (wrap64 (p1 - p0)) (wrap64 (q1 - q0)) (wrap64 (p2 - p0)) (wrap64 (q2 - q0)))
  | 5 => .agg #[.int .i64 (wrap64 (s1 - s0)), .int .i64 (wrap64 (u1 - u0))]
  | 6 => .agg #[.int .i64 (wrap64 (s2 - s0)), .int .i64 (wrap64 (u2 - u0))]
  | 7 => .int .i64 (dotZ (wrap64 (s1 - s0)) (wrap64 (u1 - u0)) (wrap64 (s2 - s0)) (wrap64 (u2 - u0)))
  | 8 => .bool true
  | 9 => .bool true
  | 10 => .bool true
  | 11 => .agg #[.int .i64 (wrap64 (p1 - p0)), .int .i64 (wrap64 (q1 - q0))]
  | 12 => .agg #[.int .i64 (wrap64 (p2 - p0)), .int .i64 (wrap64 (q2 - q0))]
  | 13 => .int .i64 (crossZ (wrap64 (p1 - p0)) (wrap64 (q1 - q0)) (wrap64 (p2 - p0)) (wrap64 (q2 - q0)))
  | 14 => .int .i64 (-1)
  | 15 => .agg #[.int .i64 (wrap64 (s1 - s0)), .int .i64 (wrap64 (u1 - u0))]
  | 16 => .agg #[.int .i64 (wrap64 (s2 - s0)), .int .i64 (wrap64 (u2 - u0))]
  | 17 => .int .i64 (crossZ (wrap64 (s1 - s0)) (wrap64 (u1 - u0)) (wrap64 (s2 - s0)) (wrap64 (u2 - u0)))
  | 18 => .int .i64 (wrap64 ((-1) * (crossZ (wrap64 (s1 - s0)) (wrap64 (u1 - u0)) (wrap64 (s2 - s0)) (wrap64 (u2 - u0)))))
  | 19 => .bool true
  | 20 => .bool true
  | 21 => .bool true
  | 22 => .pointer (some ⟨w.heap.size + 1, 0, none⟩)
  | 23 => .agg #[.int .i64 p0, .int .i64 q0]
  | 24 => .pointer (some ⟨w.heap.size + 1, 2, none⟩)
  | 25 => .agg #[.int .i64 p1, .int .i64 q1]
  | 26 => .pointer (some ⟨w.heap.size + 1, 4, none⟩)
  | 27 => .agg #[.int .i64 p2, .int .i64 q2]
  | 28 => .int .i64 (sideZ p0 q0 p1 q1 p2 q2)
  | 29 => .int .i64 (-1)
  | 30 => .pointer (some ⟨w1.heap.size, 0, none⟩)
  | 31 => .agg #[.int .i64 s0, .int .i64 u0]
  | 32 => .pointer (some ⟨w1.heap.size, 2, none⟩)
  | 33 => .agg #[.int .i64 s1, .int .i64 u1]
  | 34 => .pointer (some ⟨w1.heap.size, 4, none⟩)
  | 35 => .agg #[.int .i64 s2, .int .i64 u2]
  | 36 => .int .i64 (sideZ s0 u0 s1 u1 s2 u2)
  | 37 => .int .i64 (wrap64 ((-1) * (sideZ s0 u0 s1 u1 s2 u2)))
  | 38 => .bool true
  | 39 => .bool true
  | _ => undef
def kpt14F (w : World) (x y t : Int) (x0 y0 x1 y1 x2 y2 : Int) (W0 : World) (w1 : World) (W1 : World) (wfkpt3 : World) (tvkpt3 : Nat → Value) (mx my : Int) (Wm : World) (wfkpt7_0 : World) (tvkpt7_0 : Nat → Value) (p0 q0 : Int) (Wl0 : World) (wfkpt8_0 : World) (tvkpt8_0 : Nat → Value) (s0 u0 : Int) (Wv0 : World) (wfkpt7_1 : World) (tvkpt7_1 : Nat → Value) (p1 q1 : Int) (Wl1 : World) (wfkpt8_1 : World) (tvkpt8_1 : Nat → Value) (s1 u1 : Int) (Wv1 : World) (wfkpt7_2 : World) (tvkpt7_2 : Nat → Value) (p2 q2 : Int) (Wl2 : World) (wfkpt8_2 : World) (tvkpt8_2 : Nat → Value) (s2 u2 : Int) (Wv2 : World) (wfkpt9 : World) (ga gb : Nat) (tvk9 : Nat → Value) (wfkpt10 : World) (gc gd : Nat) (tvk10 : Nat → Value) (j : Nat) (v : Value) : Prop := v = kpt14V w x y t x0 y0 x1 y1 x2 y2 W0 w1 W1 wfkpt3 tvkpt3 mx my Wm wfkpt7_0 tvkpt7_0 p0 q0 Wl0 wfkpt8_0 tvkpt8_0 s0 u0 Wv0 wfkpt7_1 tvkpt7_1 p1 q1 Wl1 wfkpt8_1 tvkpt8_1 s1 u1 Wv1 wfkpt7_2 tvkpt7_2 p2 q2 Wl2 wfkpt8_2 tvkpt8_2 s2 u2 Wv2 wfkpt9 ga gb tvk9 wfkpt10 gc gd tvk10 j
set_option maxRecDepth 100000 in
set_option maxHeartbeats 4000000 in
theorem vecKeeps_t (x y t : Int) (x0 y0 x1 y1 x2 y2 : Int) (w : World) : Calls Try.prog 6 #[.agg #[.int .i64 x, .int .i64 y, .int .i64 t, .bool true], .agg #[.int .i64 x0, .int .i64 y0, .int .i64 x1, .int .i64 y1, .int .i64 x2, .int .i64 y2]] w fun e w' => e = .returned (.bool true) ∧ Ext w w' := by
  have E0 := Lib.hid (Ext.refl w)
  go_enter Try.func6, Try.ntmps6
  go_wp2_with fail
  obtain ⟨W0, hW0⟩ : ∃ W0, W0 = ((w.alloc (.cells #[.int .i64 x, .int .i64 y, .int .i64 t, .bool true] 34)).alloc (.cells #[.int .i64 x0, .int .i64 y0, .int .i64 x1, .int .i64 y1, .int .i64 x2, .int .i64 y2] 24)) := ⟨_, rfl⟩
  have hx : Ext w W0 := by rw [hW0]; exact (Ext.alloc _ _).trans (Ext.alloc _ _)
  have M_0 := Lib.hid (show RowAt W0 (w.heap.size) 34 #[.int .i64 x, .int .i64 y, .int .i64 t, .bool true] from by rw [hW0]; exact ((RowAt.new' _ _ (by simp)).alloc _))
  have L_0 := Lib.hid (show RowAt W0 (w.heap.size + 1) 24 #[.int .i64 x0, .int .i64 y0, .int .i64 x1, .int .i64 y1, .int .i64 x2, .int .i64 y2] from by rw [hW0]; exact (RowAt.new' _ _ (by simp)))
  have SZW0 := Lib.hid (show W0.heap.size = w.heap.size + 1 + 1 from by rw [hW0]; simp)
  have E1 := Lib.hid (E0.out.trans hx)
  clear E0
  clear hx
  rw [← hW0]
  clear hW0
  refine (sanity_c _).mono ?_; rintro e w1 ⟨rfl, hx⟩
  have E2 := Lib.hid (E1.out.trans hx)
  have M_2 := Lib.hid (hx.row M_0.out)
  have L_2 := Lib.hid (hx.row L_0.out)
  clear E1 M_0 L_0
  clear hx
  have NE := Lib.hid (show w.heap.size + 1 < w1.heap.size from L_2.out.lt)
  go_upto_region 3 with (fail)
  obtain ⟨W1, hW1⟩ : ∃ W1, W1 = (w1.alloc (.cells #[.int .i64 0, .int .i64 0, .int .i64 0, .int .i64 0, .int .i64 0, .int .i64 0] 24)) := ⟨_, rfl⟩
  have hx : Ext w1 W1 := by rw [hW1]; exact Ext.alloc _ _
  have V_0 := Lib.hid (show RowAt W1 (w1.heap.size) 24 #[.int .i64 0, .int .i64 0, .int .i64 0, .int .i64 0, .int .i64 0, .int .i64 0] from by rw [hW1]; exact (RowAt.new' _ _ (by simp)))
  have SZW1 := Lib.hid (show W1.heap.size = w1.heap.size + 1 from by rw [hW1]; simp)
  have E3 := Lib.hid (E2.out.trans hx)
  have M_3 := Lib.hid (hx.row M_2.out)
  have L_3 := Lib.hid (hx.row L_2.out)
  clear E2 M_2 L_2
  clear hx
  rw [← hW1]
  clear hW1
  refine wp_region_seq (fun D ac w' => ∃ vs : Nat → Value, ac = { tmps := #[Value.agg #[Value.int IntKind.i64 x, Value.int IntKind.i64 y, Value.int IntKind.i64 t, Value.bool true], Value.agg #[Value.int IntKind.i64 x0, Value.int IntKind.i64 y0, Value.int IntKind.i64 x1, Value.int IntKind.i64 y1, Value.int IntKind.i64 x2, Value.int IntKind.i64 y2], Value.pointer (some { block := w.heap.size, off := 0 }), Value.pointer (some { block := w.heap.size + 1, off := 0 }), Value.bool false, Value.bool true, Value.pointer (some { block := w1.heap.size, off := 0 }), undef, undef, undef, undef, undef, undef, Value.bool true, vs 0, vs 1, vs 2, vs 3, vs 4, vs 5, vs 6, vs 7, vs 8, undef, undef, undef, undef, undef, undef, undef, undef, undef, undef, undef, undef, undef, undef, undef, undef, undef, undef, undef, undef, undef, undef, undef, undef, undef, undef, undef, undef, undef, undef, undef, undef, undef, undef, undef, undef, undef, undef, undef, undef, undef, undef, undef, undef, undef, undef, undef, undef, undef, undef, undef, undef, undef, undef, undef, undef, undef, undef, undef, undef, undef, undef, undef, undef, undef, undef, undef, undef, undef, undef, undef, undef, undef, undef, undef, undef, undef, undef, undef, undef, undef, undef, undef, undef, undef, undef, undef], defers := [] } ∧ Ext W1 w' ∧ ∀ j, D j → kpt3F w x y t x0 y0 x1 y1 x2 y2 W0 w1 W1 j (vs j)) 9 (by kernel_rfl) (by kernel_rfl) ?startkpt3 ?stepkpt3 ?finkpt3
  case startkpt3 => exact ⟨fun _ => undef, rfl, Ext.refl _, fun _ h => h.elim⟩
  case stepkpt3 =>
    rintro i o D ac wz hin hio hnd he ⟨vs, rfl, k0, hF⟩
    rcases i with _ | _ | _ | _ | _ | _ | _ | _ | _ | i
    rotate_left 9
    · exact absurd hin (by omega)
    all_goals (obtain rfl := Option.some.inj (hio.symm.trans (by rfl)))
    · refine step_yes (wanted_of_none rfl _) ?_
      exact wp_of_run (run_fld_mo0 (.tmp 2) rfl _ _ rfl) ⟨upd vs 0 _, rfl, k0, inv_same hF rfl⟩
    · refine step_yes (wanted_of_none rfl _) ?_
      exact wp_of_run (run_fld_pt0 (.tmp 14) rfl _ _ (by exact (hF 0 (he ⟨0, .data⟩ (by simp) rfl)))) ⟨upd vs 1 _, rfl, k0, inv_same hF rfl⟩
    · refine step_yes (wanted_of_none rfl _) ?_
      exact wp_of_run (run_ldi (.tmp 15) rfl _ _ (by exact (hF 1 (he ⟨1, .data⟩ (by simp) rfl))) _ ((k0.row M_3.out).cell 0)) ⟨upd vs 2 _, rfl, k0, inv_same hF rfl⟩
    · refine step_yes (wanted_of_none rfl _) ?_
      exact wp_of_run (run_remi (.tmp 16) (.const (.int .i64 10000000)) rfl rfl _ 10000000 (by decide) (by decide) (by exact (hF 2 (he ⟨2, .data⟩ (by simp) rfl))) rfl) ⟨upd vs 3 _, rfl, k0, inv_same hF rfl⟩
    · refine step_yes (wanted_of_none rfl _) ?_
      exact wp_of_run (run_fld_mo0 (.tmp 2) rfl _ _ rfl) ⟨upd vs 4 _, rfl, k0, inv_same hF rfl⟩
    · refine step_yes (wanted_of_none rfl _) ?_
      exact wp_of_run (run_fld_pt1 (.tmp 18) rfl _ _ (by exact (hF 4 (he ⟨4, .data⟩ (by simp) rfl)))) ⟨upd vs 5 _, rfl, k0, inv_same hF rfl⟩
    · refine step_yes (wanted_of_none rfl _) ?_
      exact wp_of_run (run_ldi (.tmp 19) rfl _ _ (by exact (hF 5 (he ⟨5, .data⟩ (by simp) rfl))) _ ((k0.row M_3.out).cell 1)) ⟨upd vs 6 _, rfl, k0, inv_same hF rfl⟩
    · refine step_yes (wanted_of_none rfl _) ?_
      exact wp_of_run (run_remi (.tmp 20) (.const (.int .i64 10000000)) rfl rfl _ 10000000 (by decide) (by decide) (by exact (hF 6 (he ⟨6, .data⟩ (by simp) rfl))) rfl) ⟨upd vs 7 _, rfl, k0, inv_same hF rfl⟩
    · refine step_yes (wanted_of_none rfl _) ?_
      refine wp_of_callE (run_enter2 23 (.tmp 17) (.tmp 21) _ rfl _ _ (by exact (hF 3 (he ⟨3, .data⟩ (by simp) rfl))) (by exact (hF 7 (he ⟨7, .data⟩ (by simp) rfl))) (fun args w => enters_of Try.func23 (by kernel_rfl) rfl args w)) (lat (x.tmod 10000000) (y.tmod 10000000) wz) ?_
      rintro e w' ⟨rfl, hx⟩
      exact ⟨_, rfl, upd vs 8 _, rfl, k0.trans hx, inv_same hF rfl⟩
  case finkpt3 =>
    rintro D ac wfkpt3 hD ⟨vs, rfl, k0, hF⟩
    change wpList _ _ _ [_, _] _ _
    have hl8 : vs 8 = .agg #[.int .i64 (x.tmod 10000000), .int .i64 (y.tmod 10000000)] := hF 8 (hD 8 (by decide))
    rw [hl8]
    clear hl8
    clear hF hD
    generalize vs = tvkpt3
    have E4 := Lib.hid (E3.out.trans k0)
    have M_4 := Lib.hid (k0.row M_3.out)
    have L_4 := Lib.hid (k0.row L_3.out)
    have V_4 := Lib.hid (k0.row V_0.out)
    clear E3 M_3 L_3 V_0
    clear k0
    obtain ⟨mx, hmx⟩ : ∃ z : Int, z = x.tmod 10000000 := ⟨_, rfl⟩
    obtain ⟨my, hmy⟩ : ∃ z : Int, z = y.tmod 10000000 := ⟨_, rfl⟩
    rw [← hmx, ← hmy]
    have Bmx := Lib.hid (show b7 mx from by rw [hmx]; exact tmod7 _)
    have Bmy := Lib.hid (show b7 my from by rw [hmy]; exact tmod7 _)
    clear hmx hmy
    obtain ⟨Wm, hWm⟩ : ∃ Wm, Wm = wfkpt3.setRow (w.heap.size) (#[.int .i64 mx, .int .i64 my, .int .i64 t, .bool true]) := ⟨_, rfl⟩
    have M_Wm := Lib.hid (show RowAt Wm (w.heap.size) 34 (#[.int .i64 mx, .int .i64 my, .int .i64 t, .bool true]) from by rw [hWm]; exact M_4.out.setRow _)
    have L_Wm := Lib.hid (show RowAt Wm (w.heap.size + 1) _ _ from by rw [hWm]; exact L_4.out.setRowOther _ (by have := NE.out; omega))
    have V_Wm := Lib.hid (show RowAt Wm (w1.heap.size) _ _ from by rw [hWm]; exact V_4.out.setRowOther _ (by have := NE.out; omega))
    have EWm := Lib.hid (show Ext w Wm from by rw [hWm]; exact ext_setRow E4.out (by have := NE.out; omega) _)
    have HWm := Lib.hid hWm
    clear hWm
    go_wp2_with (refine store_pt_at rfl (.tmp 23) (.tmp 22) rfl (w.heap.size) 0 rfl _ _ rfl _ _ _ _ (#[.int .i64 mx, .int .i64 my, .int .i64 t, .bool true]) M_4.out rfl rfl rfl ?_; rw [← HWm.out])
    refine wp_loop_rounds 4 ?_
    rw [rounds_succ]
    go_wp2_with fail
    refine wp_region_tail (fun D ac w' => ∃ vs : Nat → Value, ac = { tmps := #[Value.agg #[Value.int IntKind.i64 x, Value.int IntKind.i64 y, Value.int IntKind.i64 t, Value.bool true], Value.agg #[Value.int IntKind.i64 x0, Value.int IntKind.i64 y0, Value.int IntKind.i64 x1, Value.int IntKind.i64 y1, Value.int IntKind.i64 x2, Value.int IntKind.i64 y2], Value.pointer (some { block := w.heap.size, off := 0 }), Value.pointer (some { block := w.heap.size + 1, off := 0 }), Value.bool false, Value.bool true, Value.pointer (some { block := w1.heap.size, off := 0 }), Value.int IntKind.i64 0, undef, undef, undef, undef, undef, Value.bool true, tvkpt3 0, tvkpt3 1, tvkpt3 2, tvkpt3 3, tvkpt3 4, tvkpt3 5, tvkpt3 6, tvkpt3 7, Value.agg #[Value.int IntKind.i64 mx, Value.int IntKind.i64 my], Value.pointer (some { block := w.heap.size, off := 0 }), Value.int IntKind.i64 0, Value.bool true, undef, undef, vs 0, vs 1, vs 2, vs 3, vs 4, vs 5, vs 6, vs 7, vs 8, vs 9, vs 10, vs 11, undef, undef, undef, undef, undef, undef, undef, undef, undef, undef, undef, undef, undef, undef, undef, undef, undef, undef, undef, undef, undef, undef, undef, undef, undef, undef, undef, undef, undef, undef, undef, undef, undef, undef, undef, undef, undef, undef, undef, undef, undef, undef, undef, undef, undef, undef, undef, undef, undef, undef, undef, undef, undef, undef, undef, undef, undef, undef, undef, undef, undef, undef, undef, undef, undef, undef, undef, undef, undef, undef], defers := [] } ∧ Ext Wm w' ∧ ∀ j, D j → kpt7_0F w x y t x0 y0 x1 y1 x2 y2 W0 w1 W1 wfkpt3 tvkpt3 mx my Wm j (vs j)) 12 (by kernel_rfl) (by kernel_rfl) (by kernel_rfl) ?startkpt7_0 ?stepkpt7_0 ?finkpt7_0
    case startkpt7_0 => exact ⟨fun _ => undef, rfl, Ext.drew _, fun _ h => h.elim⟩
    case stepkpt7_0 =>
      rintro i o D ac wz hin hio hnd he ⟨vs, rfl, k0, hF⟩
      rcases i with _ | _ | _ | _ | _ | _ | _ | _ | _ | _ | _ | _ | i
      rotate_left 12
      · exact absurd hin (by omega)
      all_goals (obtain rfl := Option.some.inj (hio.symm.trans (by rfl)))
      · refine step_yes (wanted_of_none rfl _) ?_
        exact wp_of_run (run_mov (.tmp 7) rfl _ rfl) ⟨upd vs 0 _, rfl, k0, inv_same hF rfl⟩
      · refine step_yes (wanted_of_none rfl _) ?_
        exact wp_of_run (run_mov (.tmp 7) rfl _ rfl) ⟨upd vs 1 _, rfl, k0, inv_same hF rfl⟩
      · refine step_yes (wanted_of_none rfl _) ?_
        exact wp_of_run (run_ixa3_2 (.tmp 3) (.tmp 29) rfl _ _ rfl 0 (by exact (hF 1 (he ⟨1, .data⟩ (by simp) rfl))) (by decide)) ⟨upd vs 2 _, rfl, k0, inv_same hF rfl⟩
      · refine step_yes (wanted_of_none rfl _) ?_
        exact wp_of_run (run_fld_pt0 (.tmp 30) rfl _ _ (by exact (hF 2 (he ⟨2, .data⟩ (by simp) rfl)))) ⟨upd vs 3 _, rfl, k0, inv_same hF rfl⟩
      · refine step_yes (wanted_of_none rfl _) ?_
        exact wp_of_run (run_ldi (.tmp 31) rfl _ _ (by exact (hF 3 (he ⟨3, .data⟩ (by simp) rfl))) _ ((k0.row L_Wm.out).cell 0)) ⟨upd vs 4 _, rfl, k0, inv_same hF rfl⟩
      · refine step_yes (wanted_of_none rfl _) ?_
        exact wp_of_run (run_remi (.tmp 32) (.const (.int .i64 10000000)) rfl rfl _ 10000000 (by decide) (by decide) (by exact (hF 4 (he ⟨4, .data⟩ (by simp) rfl))) rfl) ⟨upd vs 5 _, rfl, k0, inv_same hF rfl⟩
      · refine step_yes (wanted_of_none rfl _) ?_
        exact wp_of_run (run_mov (.tmp 7) rfl _ rfl) ⟨upd vs 6 _, rfl, k0, inv_same hF rfl⟩
      · refine step_yes (wanted_of_none rfl _) ?_
        exact wp_of_run (run_ixa3_2 (.tmp 3) (.tmp 34) rfl _ _ rfl 0 (by exact (hF 6 (he ⟨6, .data⟩ (by simp) rfl))) (by decide)) ⟨upd vs 7 _, rfl, k0, inv_same hF rfl⟩
      · refine step_yes (wanted_of_none rfl _) ?_
        exact wp_of_run (run_fld_pt1 (.tmp 35) rfl _ _ (by exact (hF 7 (he ⟨7, .data⟩ (by simp) rfl)))) ⟨upd vs 8 _, rfl, k0, inv_same hF rfl⟩
      · refine step_yes (wanted_of_none rfl _) ?_
        exact wp_of_run (run_ldi (.tmp 36) rfl _ _ (by exact (hF 8 (he ⟨8, .data⟩ (by simp) rfl))) _ ((k0.row L_Wm.out).cell 1)) ⟨upd vs 9 _, rfl, k0, inv_same hF rfl⟩
      · refine step_yes (wanted_of_none rfl _) ?_
        exact wp_of_run (run_remi (.tmp 37) (.const (.int .i64 10000000)) rfl rfl _ 10000000 (by decide) (by decide) (by exact (hF 9 (he ⟨9, .data⟩ (by simp) rfl))) rfl) ⟨upd vs 10 _, rfl, k0, inv_same hF rfl⟩
      · refine step_yes (wanted_of_none rfl _) ?_
        refine wp_of_callE (run_enter2 23 (.tmp 33) (.tmp 38) _ rfl _ _ (by exact (hF 5 (he ⟨5, .data⟩ (by simp) rfl))) (by exact (hF 10 (he ⟨10, .data⟩ (by simp) rfl))) (fun args w => enters_of Try.func23 (by kernel_rfl) rfl args w)) (lat (x0.tmod 10000000) (y0.tmod 10000000) wz) ?_
        rintro e w' ⟨rfl, hx⟩
        exact ⟨_, rfl, upd vs 11 _, rfl, k0.trans hx, inv_same hF rfl⟩
    case finkpt7_0 =>
      rintro D ac wfkpt7_0 hD ⟨vs, rfl, k0, hF⟩
      change wpList _ _ _ [_, _] _ _
      have hl0 : vs 0 = .int .i64 0 := hF 0 (hD 0 (by decide))
      rw [hl0]
      clear hl0
      have hl11 : vs 11 = .agg #[.int .i64 (x0.tmod 10000000), .int .i64 (y0.tmod 10000000)] := hF 11 (hD 11 (by decide))
      rw [hl11]
      clear hl11
      clear hF hD
      generalize vs = tvkpt7_0
      have E5 := Lib.hid (EWm.out.trans k0)
      have M_5 := Lib.hid (k0.row M_Wm.out)
      have L_5 := Lib.hid (k0.row L_Wm.out)
      have V_5 := Lib.hid (k0.row V_Wm.out)
      clear EWm M_Wm L_Wm V_Wm
      clear k0
      obtain ⟨p0, hp0⟩ : ∃ z : Int, z = (x0.tmod 10000000) := ⟨_, rfl⟩
      obtain ⟨q0, hq0⟩ : ∃ z : Int, z = (y0.tmod 10000000) := ⟨_, rfl⟩
      rw [← hp0, ← hq0]
      have Bp0 := Lib.hid (show b7 p0 from by rw [hp0]; exact tmod7 _)
      have Bq0 := Lib.hid (show b7 q0 from by rw [hq0]; exact tmod7 _)
      clear hp0 hq0
      obtain ⟨Wl0, hWl0⟩ : ∃ Wl0, Wl0 = wfkpt7_0.setRow (w.heap.size + 1) (#[.int .i64 p0, .int .i64 q0, .int .i64 x1, .int .i64 y1, .int .i64 x2, .int .i64 y2]) := ⟨_, rfl⟩
      have M_Wl0 := Lib.hid (show RowAt Wl0 (w.heap.size) _ _ from by rw [hWl0]; exact M_5.out.setRowOther _ (by have := NE.out; omega))
      have L_Wl0 := Lib.hid (show RowAt Wl0 (w.heap.size + 1) 24 (#[.int .i64 p0, .int .i64 q0, .int .i64 x1, .int .i64 y1, .int .i64 x2, .int .i64 y2]) from by rw [hWl0]; exact L_5.out.setRow _)
      have V_Wl0 := Lib.hid (show RowAt Wl0 (w1.heap.size) _ _ from by rw [hWl0]; exact V_5.out.setRowOther _ (by have := NE.out; omega))
      have EWl0 := Lib.hid (show Ext w Wl0 from by rw [hWl0]; exact ext_setRow E5.out (by have := NE.out; omega) _)
      have HWl0 := Lib.hid hWl0
      clear hWl0
      go_wp2_with (refine store_pt_at rfl (.tmp 40) (.tmp 39) rfl (w.heap.size + 1) 0 rfl _ _ rfl _ _ _ _ (#[.int .i64 p0, .int .i64 q0, .int .i64 x1, .int .i64 y1, .int .i64 x2, .int .i64 y2]) L_5.out rfl rfl rfl ?_; rw [← HWl0.out])
      refine wp_region_tail (fun D ac w' => ∃ vs : Nat → Value, ac = { tmps := #[Value.agg #[Value.int IntKind.i64 x, Value.int IntKind.i64 y, Value.int IntKind.i64 t, Value.bool true], Value.agg #[Value.int IntKind.i64 x0, Value.int IntKind.i64 y0, Value.int IntKind.i64 x1, Value.int IntKind.i64 y1, Value.int IntKind.i64 x2, Value.int IntKind.i64 y2], Value.pointer (some { block := w.heap.size, off := 0 }), Value.pointer (some { block := w.heap.size + 1, off := 0 }), Value.bool false, Value.bool true, Value.pointer (some { block := w1.heap.size, off := 0 }), Value.int IntKind.i64 0, undef, undef, undef, undef, undef, Value.bool true, tvkpt3 0, tvkpt3 1, tvkpt3 2, tvkpt3 3, tvkpt3 4, tvkpt3 5, tvkpt3 6, tvkpt3 7, Value.agg #[Value.int IntKind.i64 mx, Value.int IntKind.i64 my], Value.pointer (some { block := w.heap.size, off := 0 }), Value.int IntKind.i64 0, Value.bool true, undef, undef, Value.int IntKind.i64 0, tvkpt7_0 1, tvkpt7_0 2, tvkpt7_0 3, tvkpt7_0 4, tvkpt7_0 5, tvkpt7_0 6, tvkpt7_0 7, tvkpt7_0 8, tvkpt7_0 9, tvkpt7_0 10, Value.agg #[Value.int IntKind.i64 p0, Value.int IntKind.i64 q0], Value.pointer (some { block := w.heap.size + 1, off := 0 }), vs 0, vs 1, vs 2, vs 3, vs 4, vs 5, undef, undef, undef, undef, undef, undef, undef, undef, undef, undef, undef, undef, undef, undef, undef, undef, undef, undef, undef, undef, undef, undef, undef, undef, undef, undef, undef, undef, undef, undef, undef, undef, undef, undef, undef, undef, undef, undef, undef, undef, undef, undef, undef, undef, undef, undef, undef, undef, undef, undef, undef, undef, undef, undef, undef, undef, undef, undef, undef, undef, undef, undef, undef], defers := [] } ∧ Ext Wl0 w' ∧ ∀ j, D j → kpt8_0F w x y t x0 y0 x1 y1 x2 y2 W0 w1 W1 wfkpt3 tvkpt3 mx my Wm wfkpt7_0 tvkpt7_0 p0 q0 Wl0 j (vs j)) 6 (by kernel_rfl) (by kernel_rfl) (by kernel_rfl) ?startkpt8_0 ?stepkpt8_0 ?finkpt8_0
      case startkpt8_0 => exact ⟨fun _ => undef, rfl, Ext.drew _, fun _ h => h.elim⟩
      case stepkpt8_0 =>
        rintro i o D ac wz hin hio hnd he ⟨vs, rfl, k0, hF⟩
        rcases i with _ | _ | _ | _ | _ | _ | i
        rotate_left 6
        · exact absurd hin (by omega)
        all_goals (obtain rfl := Option.some.inj (hio.symm.trans (by rfl)))
        · refine step_yes (wanted_of_none rfl _) ?_
          exact wp_of_run (run_mov (.tmp 7) rfl _ rfl) ⟨upd vs 0 _, rfl, k0, inv_same hF rfl⟩
        · refine step_yes (wanted_of_none rfl _) ?_
          exact wp_of_run (run_ld_mo (.tmp 2) rfl _ _ rfl _ _ _ _ ((k0.row M_Wl0.out).cell 0) ((k0.row M_Wl0.out).cell 1) ((k0.row M_Wl0.out).cell 2) ((k0.row M_Wl0.out).cell 3)) ⟨upd vs 1 _, rfl, k0, inv_same hF rfl⟩
        · refine step_yes (wanted_of_none rfl _) ?_
          exact wp_of_run (run_mov (.tmp 7) rfl _ rfl) ⟨upd vs 2 _, rfl, k0, inv_same hF rfl⟩
        · refine step_yes (wanted_of_none rfl _) ?_
          exact wp_of_run (run_ixa3_2 (.tmp 3) (.tmp 43) rfl _ _ rfl 0 (by exact (hF 2 (he ⟨2, .data⟩ (by simp) rfl))) (by decide)) ⟨upd vs 3 _, rfl, k0, inv_same hF rfl⟩
        · refine step_yes (wanted_of_none rfl _) ?_
          exact wp_of_run (run_ld_pt (.tmp 44) rfl _ _ (by exact (hF 3 (he ⟨3, .data⟩ (by simp) rfl))) _ _ ((k0.row L_Wl0.out).cell 0) ((k0.row L_Wl0.out).cell 1)) ⟨upd vs 4 _, rfl, k0, inv_same hF rfl⟩
        · refine step_yes (wanted_of_none rfl _) ?_
          refine wp_of_callE (run_enter2 24 (.tmp 42) (.tmp 45) _ rfl _ _ (by exact (hF 1 (he ⟨1, .data⟩ (by simp) rfl))) (by exact (hF 4 (he ⟨4, .data⟩ (by simp) rfl))) (fun args w => enters_of Try.func24 (by kernel_rfl) rfl args w)) (vapply mx my t true p0 q0 wz) ?_
          rintro e w' ⟨rfl, hx⟩
          exact ⟨_, rfl, upd vs 5 _, rfl, k0.trans hx, inv_same hF rfl⟩
      case finkpt8_0 =>
        rintro D ac wfkpt8_0 hD ⟨vs, rfl, k0, hF⟩
        change wpList _ _ _ [_, _] _ _
        have hl0 : vs 0 = .int .i64 0 := hF 0 (hD 0 (by decide))
        rw [hl0]
        clear hl0
        have hl5 : vs 5 = .agg #[.int .i64 (apX mx t true p0 q0), .int .i64 (apY my t true p0 q0)] := hF 5 (hD 5 (by decide))
        rw [hl5]
        clear hl5
        clear hF hD
        generalize vs = tvkpt8_0
        have E6 := Lib.hid (EWl0.out.trans k0)
        have M_6 := Lib.hid (k0.row M_Wl0.out)
        have L_6 := Lib.hid (k0.row L_Wl0.out)
        have V_6 := Lib.hid (k0.row V_Wl0.out)
        clear EWl0 M_Wl0 L_Wl0 V_Wl0
        clear k0
        obtain ⟨s0, hs0⟩ : ∃ z : Int, z = apX mx t true p0 q0 := ⟨_, rfl⟩
        obtain ⟨u0, hu0⟩ : ∃ z : Int, z = apY my t true p0 q0 := ⟨_, rfl⟩
        rw [← hs0, ← hu0]
        have Qs0 := Lib.hid hs0
        have Qu0 := Lib.hid hu0
        clear hs0 hu0
        obtain ⟨Wv0, hWv0⟩ : ∃ Wv0, Wv0 = wfkpt8_0.setRow (w1.heap.size) (#[.int .i64 s0, .int .i64 u0, .int .i64 0, .int .i64 0, .int .i64 0, .int .i64 0]) := ⟨_, rfl⟩
        have M_Wv0 := Lib.hid (show RowAt Wv0 (w.heap.size) _ _ from by rw [hWv0]; exact M_6.out.setRowOther _ (by have := NE.out; omega))
        have L_Wv0 := Lib.hid (show RowAt Wv0 (w.heap.size + 1) _ _ from by rw [hWv0]; exact L_6.out.setRowOther _ (by have := NE.out; omega))
        have V_Wv0 := Lib.hid (show RowAt Wv0 (w1.heap.size) 24 (#[.int .i64 s0, .int .i64 u0, .int .i64 0, .int .i64 0, .int .i64 0, .int .i64 0]) from by rw [hWv0]; exact V_6.out.setRow _)
        have EWv0 := Lib.hid (show Ext w Wv0 from by rw [hWv0]; exact ext_setRow E6.out (by have := NE.out; omega) _)
        have HWv0 := Lib.hid hWv0
        clear hWv0
        go_wp2_with (refine store_pt_at rfl (.tmp 47) (.tmp 46) rfl (w1.heap.size) 0 rfl _ _ rfl _ _ _ _ (#[.int .i64 s0, .int .i64 u0, .int .i64 0, .int .i64 0, .int .i64 0, .int .i64 0]) V_6.out rfl rfl rfl ?_; rw [← HWv0.out])
        rw [rounds_succ]
        go_wp2_with fail
        refine wp_region_tail (fun D ac w' => ∃ vs : Nat → Value, ac = { tmps := #[Value.agg #[Value.int IntKind.i64 x, Value.int IntKind.i64 y, Value.int IntKind.i64 t, Value.bool true], Value.agg #[Value.int IntKind.i64 x0, Value.int IntKind.i64 y0, Value.int IntKind.i64 x1, Value.int IntKind.i64 y1, Value.int IntKind.i64 x2, Value.int IntKind.i64 y2], Value.pointer (some { block := w.heap.size, off := 0 }), Value.pointer (some { block := w.heap.size + 1, off := 0 }), Value.bool false, Value.bool true, Value.pointer (some { block := w1.heap.size, off := 0 }), Value.int IntKind.i64 1, undef, undef, undef, undef, undef, Value.bool true, tvkpt3 0, tvkpt3 1, tvkpt3 2, tvkpt3 3, tvkpt3 4, tvkpt3 5, tvkpt3 6, tvkpt3 7, Value.agg #[Value.int IntKind.i64 mx, Value.int IntKind.i64 my], Value.pointer (some { block := w.heap.size, off := 0 }), Value.int IntKind.i64 1, Value.bool true, Value.int IntKind.i64 0, Value.int IntKind.i64 1, vs 0, vs 1, vs 2, vs 3, vs 4, vs 5, vs 6, vs 7, vs 8, vs 9, vs 10, vs 11, Value.pointer (some { block := w.heap.size + 1, off := 0 }), Value.int IntKind.i64 0, tvkpt8_0 1, tvkpt8_0 2, tvkpt8_0 3, tvkpt8_0 4, Value.agg #[Value.int IntKind.i64 s0, Value.int IntKind.i64 u0], Value.pointer (some { block := w1.heap.size, off := 0 }), undef, undef, undef, undef, undef, undef, undef, undef, undef, undef, undef, undef, undef, undef, undef, undef, undef, undef, undef, undef, undef, undef, undef, undef, undef, undef, undef, undef, undef, undef, undef, undef, undef, undef, undef, undef, undef, undef, undef, undef, undef, undef, undef, undef, undef, undef, undef, undef, undef, undef, undef, undef, undef, undef, undef, undef, undef, undef, undef, undef, undef, undef], defers := [] } ∧ Ext Wv0 w' ∧ ∀ j, D j → kpt7_1F w x y t x0 y0 x1 y1 x2 y2 W0 w1 W1 wfkpt3 tvkpt3 mx my Wm wfkpt7_0 tvkpt7_0 p0 q0 Wl0 wfkpt8_0 tvkpt8_0 s0 u0 Wv0 j (vs j)) 12 (by kernel_rfl) (by kernel_rfl) (by kernel_rfl) ?startkpt7_1 ?stepkpt7_1 ?finkpt7_1
        case startkpt7_1 => exact ⟨fun j => match j with | 0 => Value.int IntKind.i64 0 | 1 => tvkpt7_0 1 | 2 => tvkpt7_0 2 | 3 => tvkpt7_0 3 | 4 => tvkpt7_0 4 | 5 => tvkpt7_0 5 | 6 => tvkpt7_0 6 | 7 => tvkpt7_0 7 | 8 => tvkpt7_0 8 | 9 => tvkpt7_0 9 | 10 => tvkpt7_0 10 | 11 => Value.agg #[Value.int IntKind.i64 p0, Value.int IntKind.i64 q0] | _ => undef, rfl, Ext.drew _, fun _ h => h.elim⟩
        case stepkpt7_1 =>
          rintro i o D ac wz hin hio hnd he ⟨vs, rfl, k0, hF⟩
          rcases i with _ | _ | _ | _ | _ | _ | _ | _ | _ | _ | _ | _ | i
          rotate_left 12
          · exact absurd hin (by omega)
          all_goals (obtain rfl := Option.some.inj (hio.symm.trans (by rfl)))
          · refine step_yes (wanted_of_none rfl _) ?_
            exact wp_of_run (run_mov (.tmp 7) rfl _ rfl) ⟨upd vs 0 _, rfl, k0, inv_same hF rfl⟩
          · refine step_yes (wanted_of_none rfl _) ?_
            exact wp_of_run (run_mov (.tmp 7) rfl _ rfl) ⟨upd vs 1 _, rfl, k0, inv_same hF rfl⟩
          · refine step_yes (wanted_of_none rfl _) ?_
            exact wp_of_run (run_ixa3_2 (.tmp 3) (.tmp 29) rfl _ _ rfl 1 (by exact (hF 1 (he ⟨1, .data⟩ (by simp) rfl))) (by decide)) ⟨upd vs 2 _, rfl, k0, inv_same hF rfl⟩
          · refine step_yes (wanted_of_none rfl _) ?_
            exact wp_of_run (run_fld_pt0 (.tmp 30) rfl _ _ (by exact (hF 2 (he ⟨2, .data⟩ (by simp) rfl)))) ⟨upd vs 3 _, rfl, k0, inv_same hF rfl⟩
          · refine step_yes (wanted_of_none rfl _) ?_
            exact wp_of_run (run_ldi (.tmp 31) rfl _ _ (by exact (hF 3 (he ⟨3, .data⟩ (by simp) rfl))) _ ((k0.row L_Wv0.out).cell 2)) ⟨upd vs 4 _, rfl, k0, inv_same hF rfl⟩
          · refine step_yes (wanted_of_none rfl _) ?_
            exact wp_of_run (run_remi (.tmp 32) (.const (.int .i64 10000000)) rfl rfl _ 10000000 (by decide) (by decide) (by exact (hF 4 (he ⟨4, .data⟩ (by simp) rfl))) rfl) ⟨upd vs 5 _, rfl, k0, inv_same hF rfl⟩
          · refine step_yes (wanted_of_none rfl _) ?_
            exact wp_of_run (run_mov (.tmp 7) rfl _ rfl) ⟨upd vs 6 _, rfl, k0, inv_same hF rfl⟩
          · refine step_yes (wanted_of_none rfl _) ?_
            exact wp_of_run (run_ixa3_2 (.tmp 3) (.tmp 34) rfl _ _ rfl 1 (by exact (hF 6 (he ⟨6, .data⟩ (by simp) rfl))) (by decide)) ⟨upd vs 7 _, rfl, k0, inv_same hF rfl⟩
          · refine step_yes (wanted_of_none rfl _) ?_
            exact wp_of_run (run_fld_pt1 (.tmp 35) rfl _ _ (by exact (hF 7 (he ⟨7, .data⟩ (by simp) rfl)))) ⟨upd vs 8 _, rfl, k0, inv_same hF rfl⟩
          · refine step_yes (wanted_of_none rfl _) ?_
            exact wp_of_run (run_ldi (.tmp 36) rfl _ _ (by exact (hF 8 (he ⟨8, .data⟩ (by simp) rfl))) _ ((k0.row L_Wv0.out).cell 3)) ⟨upd vs 9 _, rfl, k0, inv_same hF rfl⟩
          · refine step_yes (wanted_of_none rfl _) ?_
            exact wp_of_run (run_remi (.tmp 37) (.const (.int .i64 10000000)) rfl rfl _ 10000000 (by decide) (by decide) (by exact (hF 9 (he ⟨9, .data⟩ (by simp) rfl))) rfl) ⟨upd vs 10 _, rfl, k0, inv_same hF rfl⟩
          · refine step_yes (wanted_of_none rfl _) ?_
            refine wp_of_callE (run_enter2 23 (.tmp 33) (.tmp 38) _ rfl _ _ (by exact (hF 5 (he ⟨5, .data⟩ (by simp) rfl))) (by exact (hF 10 (he ⟨10, .data⟩ (by simp) rfl))) (fun args w => enters_of Try.func23 (by kernel_rfl) rfl args w)) (lat (x1.tmod 10000000) (y1.tmod 10000000) wz) ?_
            rintro e w' ⟨rfl, hx⟩
            exact ⟨_, rfl, upd vs 11 _, rfl, k0.trans hx, inv_same hF rfl⟩
        case finkpt7_1 =>
          rintro D ac wfkpt7_1 hD ⟨vs, rfl, k0, hF⟩
          change wpList _ _ _ [_, _] _ _
          have hl0 : vs 0 = .int .i64 1 := hF 0 (hD 0 (by decide))
          rw [hl0]
          clear hl0
          have hl11 : vs 11 = .agg #[.int .i64 (x1.tmod 10000000), .int .i64 (y1.tmod 10000000)] := hF 11 (hD 11 (by decide))
          rw [hl11]
          clear hl11
          clear hF hD
          generalize vs = tvkpt7_1
          have E7 := Lib.hid (EWv0.out.trans k0)
          have M_7 := Lib.hid (k0.row M_Wv0.out)
          have L_7 := Lib.hid (k0.row L_Wv0.out)
          have V_7 := Lib.hid (k0.row V_Wv0.out)
          clear EWv0 M_Wv0 L_Wv0 V_Wv0
          clear k0
          obtain ⟨p1, hp1⟩ : ∃ z : Int, z = (x1.tmod 10000000) := ⟨_, rfl⟩
          obtain ⟨q1, hq1⟩ : ∃ z : Int, z = (y1.tmod 10000000) := ⟨_, rfl⟩
          rw [← hp1, ← hq1]
          have Bp1 := Lib.hid (show b7 p1 from by rw [hp1]; exact tmod7 _)
          have Bq1 := Lib.hid (show b7 q1 from by rw [hq1]; exact tmod7 _)
          clear hp1 hq1
          obtain ⟨Wl1, hWl1⟩ : ∃ Wl1, Wl1 = wfkpt7_1.setRow (w.heap.size + 1) (#[.int .i64 p0, .int .i64 q0, .int .i64 p1, .int .i64 q1, .int .i64 x2, .int .i64 y2]) := ⟨_, rfl⟩
          have M_Wl1 := Lib.hid (show RowAt Wl1 (w.heap.size) _ _ from by rw [hWl1]; exact M_7.out.setRowOther _ (by have := NE.out; omega))
          have L_Wl1 := Lib.hid (show RowAt Wl1 (w.heap.size + 1) 24 (#[.int .i64 p0, .int .i64 q0, .int .i64 p1, .int .i64 q1, .int .i64 x2, .int .i64 y2]) from by rw [hWl1]; exact L_7.out.setRow _)
          have V_Wl1 := Lib.hid (show RowAt Wl1 (w1.heap.size) _ _ from by rw [hWl1]; exact V_7.out.setRowOther _ (by have := NE.out; omega))
          have EWl1 := Lib.hid (show Ext w Wl1 from by rw [hWl1]; exact ext_setRow E7.out (by have := NE.out; omega) _)
          have HWl1 := Lib.hid hWl1
          clear hWl1
          go_wp2_with (refine store_pt_at rfl (.tmp 40) (.tmp 39) rfl (w.heap.size + 1) 2 rfl _ _ rfl _ _ _ _ (#[.int .i64 p0, .int .i64 q0, .int .i64 p1, .int .i64 q1, .int .i64 x2, .int .i64 y2]) L_7.out rfl rfl rfl ?_; rw [← HWl1.out])
          refine wp_region_tail (fun D ac w' => ∃ vs : Nat → Value, ac = { tmps := #[Value.agg #[Value.int IntKind.i64 x, Value.int IntKind.i64 y, Value.int IntKind.i64 t, Value.bool true], Value.agg #[Value.int IntKind.i64 x0, Value.int IntKind.i64 y0, Value.int IntKind.i64 x1, Value.int IntKind.i64 y1, Value.int IntKind.i64 x2, Value.int IntKind.i64 y2], Value.pointer (some { block := w.heap.size, off := 0 }), Value.pointer (some { block := w.heap.size + 1, off := 0 }), Value.bool false, Value.bool true, Value.pointer (some { block := w1.heap.size, off := 0 }), Value.int IntKind.i64 1, undef, undef, undef, undef, undef, Value.bool true, tvkpt3 0, tvkpt3 1, tvkpt3 2, tvkpt3 3, tvkpt3 4, tvkpt3 5, tvkpt3 6, tvkpt3 7, Value.agg #[Value.int IntKind.i64 mx, Value.int IntKind.i64 my], Value.pointer (some { block := w.heap.size, off := 0 }), Value.int IntKind.i64 1, Value.bool true, Value.int IntKind.i64 0, Value.int IntKind.i64 1, Value.int IntKind.i64 1, tvkpt7_1 1, tvkpt7_1 2, tvkpt7_1 3, tvkpt7_1 4, tvkpt7_1 5, tvkpt7_1 6, tvkpt7_1 7, tvkpt7_1 8, tvkpt7_1 9, tvkpt7_1 10, Value.agg #[Value.int IntKind.i64 p1, Value.int IntKind.i64 q1], Value.pointer (some { block := w.heap.size + 1, off := 2 }), vs 0, vs 1, vs 2, vs 3, vs 4, vs 5, Value.pointer (some { block := w1.heap.size, off := 0 }), undef, undef, undef, undef, undef, undef, undef, undef, undef, undef, undef, undef, undef, undef, undef, undef, undef, undef, undef, undef, undef, undef, undef, undef, undef, undef, undef, undef, undef, undef, undef, undef, undef, undef, undef, undef, undef, undef, undef, undef, undef, undef, undef, undef, undef, undef, undef, undef, undef, undef, undef, undef, undef, undef, undef, undef, undef, undef, undef, undef, undef, undef], defers := [] } ∧ Ext Wl1 w' ∧ ∀ j, D j → kpt8_1F w x y t x0 y0 x1 y1 x2 y2 W0 w1 W1 wfkpt3 tvkpt3 mx my Wm wfkpt7_0 tvkpt7_0 p0 q0 Wl0 wfkpt8_0 tvkpt8_0 s0 u0 Wv0 wfkpt7_1 tvkpt7_1 p1 q1 Wl1 j (vs j)) 6 (by kernel_rfl) (by kernel_rfl) (by kernel_rfl) ?startkpt8_1 ?stepkpt8_1 ?finkpt8_1
          case startkpt8_1 => exact ⟨fun j => match j with | 0 => Value.int IntKind.i64 0 | 1 => tvkpt8_0 1 | 2 => tvkpt8_0 2 | 3 => tvkpt8_0 3 | 4 => tvkpt8_0 4 | 5 => Value.agg #[Value.int IntKind.i64 s0, Value.int IntKind.i64 u0] | _ => undef, rfl, Ext.drew _, fun _ h => h.elim⟩
          case stepkpt8_1 =>
            rintro i o D ac wz hin hio hnd he ⟨vs, rfl, k0, hF⟩
            rcases i with _ | _ | _ | _ | _ | _ | i
            rotate_left 6
            · exact absurd hin (by omega)
            all_goals (obtain rfl := Option.some.inj (hio.symm.trans (by rfl)))
            · refine step_yes (wanted_of_none rfl _) ?_
              exact wp_of_run (run_mov (.tmp 7) rfl _ rfl) ⟨upd vs 0 _, rfl, k0, inv_same hF rfl⟩
            · refine step_yes (wanted_of_none rfl _) ?_
              exact wp_of_run (run_ld_mo (.tmp 2) rfl _ _ rfl _ _ _ _ ((k0.row M_Wl1.out).cell 0) ((k0.row M_Wl1.out).cell 1) ((k0.row M_Wl1.out).cell 2) ((k0.row M_Wl1.out).cell 3)) ⟨upd vs 1 _, rfl, k0, inv_same hF rfl⟩
            · refine step_yes (wanted_of_none rfl _) ?_
              exact wp_of_run (run_mov (.tmp 7) rfl _ rfl) ⟨upd vs 2 _, rfl, k0, inv_same hF rfl⟩
            · refine step_yes (wanted_of_none rfl _) ?_
              exact wp_of_run (run_ixa3_2 (.tmp 3) (.tmp 43) rfl _ _ rfl 1 (by exact (hF 2 (he ⟨2, .data⟩ (by simp) rfl))) (by decide)) ⟨upd vs 3 _, rfl, k0, inv_same hF rfl⟩
            · refine step_yes (wanted_of_none rfl _) ?_
              exact wp_of_run (run_ld_pt (.tmp 44) rfl _ _ (by exact (hF 3 (he ⟨3, .data⟩ (by simp) rfl))) _ _ ((k0.row L_Wl1.out).cell 2) ((k0.row L_Wl1.out).cell 3)) ⟨upd vs 4 _, rfl, k0, inv_same hF rfl⟩
            · refine step_yes (wanted_of_none rfl _) ?_
              refine wp_of_callE (run_enter2 24 (.tmp 42) (.tmp 45) _ rfl _ _ (by exact (hF 1 (he ⟨1, .data⟩ (by simp) rfl))) (by exact (hF 4 (he ⟨4, .data⟩ (by simp) rfl))) (fun args w => enters_of Try.func24 (by kernel_rfl) rfl args w)) (vapply mx my t true p1 q1 wz) ?_
              rintro e w' ⟨rfl, hx⟩
              exact ⟨_, rfl, upd vs 5 _, rfl, k0.trans hx, inv_same hF rfl⟩
          case finkpt8_1 =>
            rintro D ac wfkpt8_1 hD ⟨vs, rfl, k0, hF⟩
            change wpList _ _ _ [_, _] _ _
            have hl0 : vs 0 = .int .i64 1 := hF 0 (hD 0 (by decide))
            rw [hl0]
            clear hl0
            have hl5 : vs 5 = .agg #[.int .i64 (apX mx t true p1 q1), .int .i64 (apY my t true p1 q1)] := hF 5 (hD 5 (by decide))
            rw [hl5]
            clear hl5
            clear hF hD
            generalize vs = tvkpt8_1
            have E8 := Lib.hid (EWl1.out.trans k0)
            have M_8 := Lib.hid (k0.row M_Wl1.out)
            have L_8 := Lib.hid (k0.row L_Wl1.out)
            have V_8 := Lib.hid (k0.row V_Wl1.out)
            clear EWl1 M_Wl1 L_Wl1 V_Wl1
            clear k0
            obtain ⟨s1, hs1⟩ : ∃ z : Int, z = apX mx t true p1 q1 := ⟨_, rfl⟩
            obtain ⟨u1, hu1⟩ : ∃ z : Int, z = apY my t true p1 q1 := ⟨_, rfl⟩
            rw [← hs1, ← hu1]
            have Qs1 := Lib.hid hs1
            have Qu1 := Lib.hid hu1
            clear hs1 hu1
            obtain ⟨Wv1, hWv1⟩ : ∃ Wv1, Wv1 = wfkpt8_1.setRow (w1.heap.size) (#[.int .i64 s0, .int .i64 u0, .int .i64 s1, .int .i64 u1, .int .i64 0, .int .i64 0]) := ⟨_, rfl⟩
            have M_Wv1 := Lib.hid (show RowAt Wv1 (w.heap.size) _ _ from by rw [hWv1]; exact M_8.out.setRowOther _ (by have := NE.out; omega))
            have L_Wv1 := Lib.hid (show RowAt Wv1 (w.heap.size + 1) _ _ from by rw [hWv1]; exact L_8.out.setRowOther _ (by have := NE.out; omega))
            have V_Wv1 := Lib.hid (show RowAt Wv1 (w1.heap.size) 24 (#[.int .i64 s0, .int .i64 u0, .int .i64 s1, .int .i64 u1, .int .i64 0, .int .i64 0]) from by rw [hWv1]; exact V_8.out.setRow _)
            have EWv1 := Lib.hid (show Ext w Wv1 from by rw [hWv1]; exact ext_setRow E8.out (by have := NE.out; omega) _)
            have HWv1 := Lib.hid hWv1
            clear hWv1
            go_wp2_with (refine store_pt_at rfl (.tmp 47) (.tmp 46) rfl (w1.heap.size) 2 rfl _ _ rfl _ _ _ _ (#[.int .i64 s0, .int .i64 u0, .int .i64 s1, .int .i64 u1, .int .i64 0, .int .i64 0]) V_8.out rfl rfl rfl ?_; rw [← HWv1.out])
            rw [rounds_succ]
            go_wp2_with fail
            refine wp_region_tail (fun D ac w' => ∃ vs : Nat → Value, ac = { tmps := #[Value.agg #[Value.int IntKind.i64 x, Value.int IntKind.i64 y, Value.int IntKind.i64 t, Value.bool true], Value.agg #[Value.int IntKind.i64 x0, Value.int IntKind.i64 y0, Value.int IntKind.i64 x1, Value.int IntKind.i64 y1, Value.int IntKind.i64 x2, Value.int IntKind.i64 y2], Value.pointer (some { block := w.heap.size, off := 0 }), Value.pointer (some { block := w.heap.size + 1, off := 0 }), Value.bool false, Value.bool true, Value.pointer (some { block := w1.heap.size, off := 0 }), Value.int IntKind.i64 2, undef, undef, undef, undef, undef, Value.bool true, tvkpt3 0, tvkpt3 1, tvkpt3 2, tvkpt3 3, tvkpt3 4, tvkpt3 5, tvkpt3 6, tvkpt3 7, Value.agg #[Value.int IntKind.i64 mx, Value.int IntKind.i64 my], Value.pointer (some { block := w.heap.size, off := 0 }), Value.int IntKind.i64 2, Value.bool true, Value.int IntKind.i64 1, Value.int IntKind.i64 2, vs 0, vs 1, vs 2, vs 3, vs 4, vs 5, vs 6, vs 7, vs 8, vs 9, vs 10, vs 11, Value.pointer (some { block := w.heap.size + 1, off := 2 }), Value.int IntKind.i64 1, tvkpt8_1 1, tvkpt8_1 2, tvkpt8_1 3, tvkpt8_1 4, Value.agg #[Value.int IntKind.i64 s1, Value.int IntKind.i64 u1], Value.pointer (some { block := w1.heap.size, off := 2 }), undef, undef, undef, undef, undef, undef, undef, undef, undef, undef, undef, undef, undef, undef, undef, undef, undef, undef, undef, undef, undef, undef, undef, undef, undef, undef, undef, undef, undef, undef, undef, undef, undef, undef, undef, undef, undef, undef, undef, undef, undef, undef, undef, undef, undef, undef, undef, undef, undef, undef, undef, undef, undef, undef, undef, undef, undef, undef, undef, undef, undef, undef], defers := [] } ∧ Ext Wv1 w' ∧ ∀ j, D j → kpt7_2F w x y t x0 y0 x1 y1 x2 y2 W0 w1 W1 wfkpt3 tvkpt3 mx my Wm wfkpt7_0 tvkpt7_0 p0 q0 Wl0 wfkpt8_0 tvkpt8_0 s0 u0 Wv0 wfkpt7_1 tvkpt7_1 p1 q1 Wl1 wfkpt8_1 tvkpt8_1 s1 u1 Wv1 j (vs j)) 12 (by kernel_rfl) (by kernel_rfl) (by kernel_rfl) ?startkpt7_2 ?stepkpt7_2 ?finkpt7_2
            case startkpt7_2 => exact ⟨fun j => match j with | 0 => Value.int IntKind.i64 1 | 1 => tvkpt7_1 1 | 2 => tvkpt7_1 2 | 3 => tvkpt7_1 3 | 4 => tvkpt7_1 4 | 5 => tvkpt7_1 5 | 6 => tvkpt7_1 6 | 7 => tvkpt7_1 7 | 8 => tvkpt7_1 8 | 9 => tvkpt7_1 9 | 10 => tvkpt7_1 10 | 11 => Value.agg #[Value.int IntKind.i64 p1, Value.int IntKind.i64 q1] | _ => undef, rfl, Ext.drew _, fun _ h => h.elim⟩
            case stepkpt7_2 =>
              rintro i o D ac wz hin hio hnd he ⟨vs, rfl, k0, hF⟩
              rcases i with _ | _ | _ | _ | _ | _ | _ | _ | _ | _ | _ | _ | i
              rotate_left 12
              · exact absurd hin (by omega)
              all_goals (obtain rfl := Option.some.inj (hio.symm.trans (by rfl)))
              · refine step_yes (wanted_of_none rfl _) ?_
                exact wp_of_run (run_mov (.tmp 7) rfl _ rfl) ⟨upd vs 0 _, rfl, k0, inv_same hF rfl⟩
              · refine step_yes (wanted_of_none rfl _) ?_
                exact wp_of_run (run_mov (.tmp 7) rfl _ rfl) ⟨upd vs 1 _, rfl, k0, inv_same hF rfl⟩
              · refine step_yes (wanted_of_none rfl _) ?_
                exact wp_of_run (run_ixa3_2 (.tmp 3) (.tmp 29) rfl _ _ rfl 2 (by exact (hF 1 (he ⟨1, .data⟩ (by simp) rfl))) (by decide)) ⟨upd vs 2 _, rfl, k0, inv_same hF rfl⟩
              · refine step_yes (wanted_of_none rfl _) ?_
                exact wp_of_run (run_fld_pt0 (.tmp 30) rfl _ _ (by exact (hF 2 (he ⟨2, .data⟩ (by simp) rfl)))) ⟨upd vs 3 _, rfl, k0, inv_same hF rfl⟩
              · refine step_yes (wanted_of_none rfl _) ?_
                exact wp_of_run (run_ldi (.tmp 31) rfl _ _ (by exact (hF 3 (he ⟨3, .data⟩ (by simp) rfl))) _ ((k0.row L_Wv1.out).cell 4)) ⟨upd vs 4 _, rfl, k0, inv_same hF rfl⟩
              · refine step_yes (wanted_of_none rfl _) ?_
                exact wp_of_run (run_remi (.tmp 32) (.const (.int .i64 10000000)) rfl rfl _ 10000000 (by decide) (by decide) (by exact (hF 4 (he ⟨4, .data⟩ (by simp) rfl))) rfl) ⟨upd vs 5 _, rfl, k0, inv_same hF rfl⟩
              · refine step_yes (wanted_of_none rfl _) ?_
                exact wp_of_run (run_mov (.tmp 7) rfl _ rfl) ⟨upd vs 6 _, rfl, k0, inv_same hF rfl⟩
              · refine step_yes (wanted_of_none rfl _) ?_
                exact wp_of_run (run_ixa3_2 (.tmp 3) (.tmp 34) rfl _ _ rfl 2 (by exact (hF 6 (he ⟨6, .data⟩ (by simp) rfl))) (by decide)) ⟨upd vs 7 _, rfl, k0, inv_same hF rfl⟩
              · refine step_yes (wanted_of_none rfl _) ?_
                exact wp_of_run (run_fld_pt1 (.tmp 35) rfl _ _ (by exact (hF 7 (he ⟨7, .data⟩ (by simp) rfl)))) ⟨upd vs 8 _, rfl, k0, inv_same hF rfl⟩
              · refine step_yes (wanted_of_none rfl _) ?_
                exact wp_of_run (run_ldi (.tmp 36) rfl _ _ (by exact (hF 8 (he ⟨8, .data⟩ (by simp) rfl))) _ ((k0.row L_Wv1.out).cell 5)) ⟨upd vs 9 _, rfl, k0, inv_same hF rfl⟩
              · refine step_yes (wanted_of_none rfl _) ?_
                exact wp_of_run (run_remi (.tmp 37) (.const (.int .i64 10000000)) rfl rfl _ 10000000 (by decide) (by decide) (by exact (hF 9 (he ⟨9, .data⟩ (by simp) rfl))) rfl) ⟨upd vs 10 _, rfl, k0, inv_same hF rfl⟩
              · refine step_yes (wanted_of_none rfl _) ?_
                refine wp_of_callE (run_enter2 23 (.tmp 33) (.tmp 38) _ rfl _ _ (by exact (hF 5 (he ⟨5, .data⟩ (by simp) rfl))) (by exact (hF 10 (he ⟨10, .data⟩ (by simp) rfl))) (fun args w => enters_of Try.func23 (by kernel_rfl) rfl args w)) (lat (x2.tmod 10000000) (y2.tmod 10000000) wz) ?_
                rintro e w' ⟨rfl, hx⟩
                exact ⟨_, rfl, upd vs 11 _, rfl, k0.trans hx, inv_same hF rfl⟩
            case finkpt7_2 =>
              rintro D ac wfkpt7_2 hD ⟨vs, rfl, k0, hF⟩
              change wpList _ _ _ [_, _] _ _
              have hl0 : vs 0 = .int .i64 2 := hF 0 (hD 0 (by decide))
              rw [hl0]
              clear hl0
              have hl11 : vs 11 = .agg #[.int .i64 (x2.tmod 10000000), .int .i64 (y2.tmod 10000000)] := hF 11 (hD 11 (by decide))
              rw [hl11]
              clear hl11
              clear hF hD
              generalize vs = tvkpt7_2
              have E9 := Lib.hid (EWv1.out.trans k0)
              have M_9 := Lib.hid (k0.row M_Wv1.out)
              have L_9 := Lib.hid (k0.row L_Wv1.out)
              have V_9 := Lib.hid (k0.row V_Wv1.out)
              clear EWv1 M_Wv1 L_Wv1 V_Wv1
              clear k0
              obtain ⟨p2, hp2⟩ : ∃ z : Int, z = (x2.tmod 10000000) := ⟨_, rfl⟩
              obtain ⟨q2, hq2⟩ : ∃ z : Int, z = (y2.tmod 10000000) := ⟨_, rfl⟩
              rw [← hp2, ← hq2]
              have Bp2 := Lib.hid (show b7 p2 from by rw [hp2]; exact tmod7 _)
              have Bq2 := Lib.hid (show b7 q2 from by rw [hq2]; exact tmod7 _)
              clear hp2 hq2
              obtain ⟨Wl2, hWl2⟩ : ∃ Wl2, Wl2 = wfkpt7_2.setRow (w.heap.size + 1) (#[.int .i64 p0, .int .i64 q0, .int .i64 p1, .int .i64 q1, .int .i64 p2, .int .i64 q2]) := ⟨_, rfl⟩
              have M_Wl2 := Lib.hid (show RowAt Wl2 (w.heap.size) _ _ from by rw [hWl2]; exact M_9.out.setRowOther _ (by have := NE.out; omega))
              have L_Wl2 := Lib.hid (show RowAt Wl2 (w.heap.size + 1) 24 (#[.int .i64 p0, .int .i64 q0, .int .i64 p1, .int .i64 q1, .int .i64 p2, .int .i64 q2]) from by rw [hWl2]; exact L_9.out.setRow _)
              have V_Wl2 := Lib.hid (show RowAt Wl2 (w1.heap.size) _ _ from by rw [hWl2]; exact V_9.out.setRowOther _ (by have := NE.out; omega))
              have EWl2 := Lib.hid (show Ext w Wl2 from by rw [hWl2]; exact ext_setRow E9.out (by have := NE.out; omega) _)
              have HWl2 := Lib.hid hWl2
              clear hWl2
              go_wp2_with (refine store_pt_at rfl (.tmp 40) (.tmp 39) rfl (w.heap.size + 1) 4 rfl _ _ rfl _ _ _ _ (#[.int .i64 p0, .int .i64 q0, .int .i64 p1, .int .i64 q1, .int .i64 p2, .int .i64 q2]) L_9.out rfl rfl rfl ?_; rw [← HWl2.out])
              refine wp_region_tail (fun D ac w' => ∃ vs : Nat → Value, ac = { tmps := #[Value.agg #[Value.int IntKind.i64 x, Value.int IntKind.i64 y, Value.int IntKind.i64 t, Value.bool true], Value.agg #[Value.int IntKind.i64 x0, Value.int IntKind.i64 y0, Value.int IntKind.i64 x1, Value.int IntKind.i64 y1, Value.int IntKind.i64 x2, Value.int IntKind.i64 y2], Value.pointer (some { block := w.heap.size, off := 0 }), Value.pointer (some { block := w.heap.size + 1, off := 0 }), Value.bool false, Value.bool true, Value.pointer (some { block := w1.heap.size, off := 0 }), Value.int IntKind.i64 2, undef, undef, undef, undef, undef, Value.bool true, tvkpt3 0, tvkpt3 1, tvkpt3 2, tvkpt3 3, tvkpt3 4, tvkpt3 5, tvkpt3 6, tvkpt3 7, Value.agg #[Value.int IntKind.i64 mx, Value.int IntKind.i64 my], Value.pointer (some { block := w.heap.size, off := 0 }), Value.int IntKind.i64 2, Value.bool true, Value.int IntKind.i64 1, Value.int IntKind.i64 2, Value.int IntKind.i64 2, tvkpt7_2 1, tvkpt7_2 2, tvkpt7_2 3, tvkpt7_2 4, tvkpt7_2 5, tvkpt7_2 6, tvkpt7_2 7, tvkpt7_2 8, tvkpt7_2 9, tvkpt7_2 10, Value.agg #[Value.int IntKind.i64 p2, Value.int IntKind.i64 q2], Value.pointer (some { block := w.heap.size + 1, off := 4 }), vs 0, vs 1, vs 2, vs 3, vs 4, vs 5, Value.pointer (some { block := w1.heap.size, off := 2 }), undef, undef, undef, undef, undef, undef, undef, undef, undef, undef, undef, undef, undef, undef, undef, undef, undef, undef, undef, undef, undef, undef, undef, undef, undef, undef, undef, undef, undef, undef, undef, undef, undef, undef, undef, undef, undef, undef, undef, undef, undef, undef, undef, undef, undef, undef, undef, undef, undef, undef, undef, undef, undef, undef, undef, undef, undef, undef, undef, undef, undef, undef], defers := [] } ∧ Ext Wl2 w' ∧ ∀ j, D j → kpt8_2F w x y t x0 y0 x1 y1 x2 y2 W0 w1 W1 wfkpt3 tvkpt3 mx my Wm wfkpt7_0 tvkpt7_0 p0 q0 Wl0 wfkpt8_0 tvkpt8_0 s0 u0 Wv0 wfkpt7_1 tvkpt7_1 p1 q1 Wl1 wfkpt8_1 tvkpt8_1 s1 u1 Wv1 wfkpt7_2 tvkpt7_2 p2 q2 Wl2 j (vs j)) 6 (by kernel_rfl) (by kernel_rfl) (by kernel_rfl) ?startkpt8_2 ?stepkpt8_2 ?finkpt8_2
              case startkpt8_2 => exact ⟨fun j => match j with | 0 => Value.int IntKind.i64 1 | 1 => tvkpt8_1 1 | 2 => tvkpt8_1 2 | 3 => tvkpt8_1 3 | 4 => tvkpt8_1 4 | 5 => Value.agg #[Value.int IntKind.i64 s1, Value.int IntKind.i64 u1] | _ => undef, rfl, Ext.drew _, fun _ h => h.elim⟩
              case stepkpt8_2 =>
                rintro i o D ac wz hin hio hnd he ⟨vs, rfl, k0, hF⟩
                rcases i with _ | _ | _ | _ | _ | _ | i
                rotate_left 6
                · exact absurd hin (by omega)
                all_goals (obtain rfl := Option.some.inj (hio.symm.trans (by rfl)))
                · refine step_yes (wanted_of_none rfl _) ?_
                  exact wp_of_run (run_mov (.tmp 7) rfl _ rfl) ⟨upd vs 0 _, rfl, k0, inv_same hF rfl⟩
                · refine step_yes (wanted_of_none rfl _) ?_
                  exact wp_of_run (run_ld_mo (.tmp 2) rfl _ _ rfl _ _ _ _ ((k0.row M_Wl2.out).cell 0) ((k0.row M_Wl2.out).cell 1) ((k0.row M_Wl2.out).cell 2) ((k0.row M_Wl2.out).cell 3)) ⟨upd vs 1 _, rfl, k0, inv_same hF rfl⟩
                · refine step_yes (wanted_of_none rfl _) ?_
                  exact wp_of_run (run_mov (.tmp 7) rfl _ rfl) ⟨upd vs 2 _, rfl, k0, inv_same hF rfl⟩
                · refine step_yes (wanted_of_none rfl _) ?_
                  exact wp_of_run (run_ixa3_2 (.tmp 3) (.tmp 43) rfl _ _ rfl 2 (by exact (hF 2 (he ⟨2, .data⟩ (by simp) rfl))) (by decide)) ⟨upd vs 3 _, rfl, k0, inv_same hF rfl⟩
                · refine step_yes (wanted_of_none rfl _) ?_
                  exact wp_of_run (run_ld_pt (.tmp 44) rfl _ _ (by exact (hF 3 (he ⟨3, .data⟩ (by simp) rfl))) _ _ ((k0.row L_Wl2.out).cell 4) ((k0.row L_Wl2.out).cell 5)) ⟨upd vs 4 _, rfl, k0, inv_same hF rfl⟩
                · refine step_yes (wanted_of_none rfl _) ?_
                  refine wp_of_callE (run_enter2 24 (.tmp 42) (.tmp 45) _ rfl _ _ (by exact (hF 1 (he ⟨1, .data⟩ (by simp) rfl))) (by exact (hF 4 (he ⟨4, .data⟩ (by simp) rfl))) (fun args w => enters_of Try.func24 (by kernel_rfl) rfl args w)) (vapply mx my t true p2 q2 wz) ?_
                  rintro e w' ⟨rfl, hx⟩
                  exact ⟨_, rfl, upd vs 5 _, rfl, k0.trans hx, inv_same hF rfl⟩
              case finkpt8_2 =>
                rintro D ac wfkpt8_2 hD ⟨vs, rfl, k0, hF⟩
                change wpList _ _ _ [_, _] _ _
                have hl0 : vs 0 = .int .i64 2 := hF 0 (hD 0 (by decide))
                rw [hl0]
                clear hl0
                have hl5 : vs 5 = .agg #[.int .i64 (apX mx t true p2 q2), .int .i64 (apY my t true p2 q2)] := hF 5 (hD 5 (by decide))
                rw [hl5]
                clear hl5
                clear hF hD
                generalize vs = tvkpt8_2
                have E10 := Lib.hid (EWl2.out.trans k0)
                have M_10 := Lib.hid (k0.row M_Wl2.out)
                have L_10 := Lib.hid (k0.row L_Wl2.out)
                have V_10 := Lib.hid (k0.row V_Wl2.out)
                clear EWl2 M_Wl2 L_Wl2 V_Wl2
                clear k0
                obtain ⟨s2, hs2⟩ : ∃ z : Int, z = apX mx t true p2 q2 := ⟨_, rfl⟩
                obtain ⟨u2, hu2⟩ : ∃ z : Int, z = apY my t true p2 q2 := ⟨_, rfl⟩
                rw [← hs2, ← hu2]
                have Qs2 := Lib.hid hs2
                have Qu2 := Lib.hid hu2
                clear hs2 hu2
                obtain ⟨Wv2, hWv2⟩ : ∃ Wv2, Wv2 = wfkpt8_2.setRow (w1.heap.size) (#[.int .i64 s0, .int .i64 u0, .int .i64 s1, .int .i64 u1, .int .i64 s2, .int .i64 u2]) := ⟨_, rfl⟩
                have M_Wv2 := Lib.hid (show RowAt Wv2 (w.heap.size) _ _ from by rw [hWv2]; exact M_10.out.setRowOther _ (by have := NE.out; omega))
                have L_Wv2 := Lib.hid (show RowAt Wv2 (w.heap.size + 1) _ _ from by rw [hWv2]; exact L_10.out.setRowOther _ (by have := NE.out; omega))
                have V_Wv2 := Lib.hid (show RowAt Wv2 (w1.heap.size) 24 (#[.int .i64 s0, .int .i64 u0, .int .i64 s1, .int .i64 u1, .int .i64 s2, .int .i64 u2]) from by rw [hWv2]; exact V_10.out.setRow _)
                have EWv2 := Lib.hid (show Ext w Wv2 from by rw [hWv2]; exact ext_setRow E10.out (by have := NE.out; omega) _)
                have HWv2 := Lib.hid hWv2
                clear hWv2
                go_wp2_with (refine store_pt_at rfl (.tmp 47) (.tmp 46) rfl (w1.heap.size) 4 rfl _ _ rfl _ _ _ _ (#[.int .i64 s0, .int .i64 u0, .int .i64 s1, .int .i64 u1, .int .i64 s2, .int .i64 u2]) V_10.out rfl rfl rfl ?_; rw [← HWv2.out])
                rw [rounds_succ]
                go_wp2_with fail
                refine wp_region_tail (fun D ac w' => ∃ vs : Nat → Value, ac = { tmps := #[Value.agg #[Value.int IntKind.i64 x, Value.int IntKind.i64 y, Value.int IntKind.i64 t, Value.bool true], Value.agg #[Value.int IntKind.i64 x0, Value.int IntKind.i64 y0, Value.int IntKind.i64 x1, Value.int IntKind.i64 y1, Value.int IntKind.i64 x2, Value.int IntKind.i64 y2], Value.pointer (some { block := w.heap.size, off := 0 }), Value.pointer (some { block := w.heap.size + 1, off := 0 }), Value.bool false, Value.bool true, Value.pointer (some { block := w1.heap.size, off := 0 }), Value.int IntKind.i64 3, vs 10, vs 11, undef, undef, undef, Value.bool true, tvkpt3 0, tvkpt3 1, tvkpt3 2, tvkpt3 3, tvkpt3 4, tvkpt3 5, tvkpt3 6, tvkpt3 7, Value.agg #[Value.int IntKind.i64 mx, Value.int IntKind.i64 my], Value.pointer (some { block := w.heap.size, off := 0 }), Value.int IntKind.i64 3, Value.bool false, Value.int IntKind.i64 2, Value.int IntKind.i64 3, Value.int IntKind.i64 2, tvkpt7_2 1, tvkpt7_2 2, tvkpt7_2 3, tvkpt7_2 4, tvkpt7_2 5, tvkpt7_2 6, tvkpt7_2 7, tvkpt7_2 8, tvkpt7_2 9, tvkpt7_2 10, Value.agg #[Value.int IntKind.i64 p2, Value.int IntKind.i64 q2], Value.pointer (some { block := w.heap.size + 1, off := 4 }), Value.int IntKind.i64 2, tvkpt8_2 1, tvkpt8_2 2, tvkpt8_2 3, tvkpt8_2 4, Value.agg #[Value.int IntKind.i64 s2, Value.int IntKind.i64 u2], Value.pointer (some { block := w1.heap.size, off := 4 }), vs 0, vs 1, vs 2, vs 3, vs 4, vs 5, vs 6, vs 7, vs 8, vs 9, undef, undef, undef, undef, undef, undef, undef, undef, undef, undef, undef, undef, undef, undef, undef, undef, undef, undef, undef, undef, undef, undef, undef, undef, undef, undef, undef, undef, undef, undef, undef, undef, undef, undef, undef, undef, undef, undef, undef, undef, undef, undef, undef, undef, undef, undef, undef, undef, undef, undef, undef, undef], defers := [] } ∧ Ext Wv2 w' ∧ (∀ j, D j → kpt9F w x y t x0 y0 x1 y1 x2 y2 W0 w1 W1 wfkpt3 tvkpt3 mx my Wm wfkpt7_0 tvkpt7_0 p0 q0 Wl0 wfkpt8_0 tvkpt8_0 s0 u0 Wv0 wfkpt7_1 tvkpt7_1 p1 q1 Wl1 wfkpt8_1 tvkpt8_1 s1 u1 Wv1 wfkpt7_2 tvkpt7_2 p2 q2 Wl2 wfkpt8_2 tvkpt8_2 s2 u2 Wv2 j (vs j)) ∧ Ows Wv2.heap.size [(10, 12), (11, 13)] (fun _ => 23) (fun _ => #[.int .i64 0, .int .i64 0]) (fun k => match k with | 10 => #[.int .i64 (wrap64 (p1 - p0)), .int .i64 (wrap64 (q1 - q0))] | 11 => #[.int .i64 (wrap64 (p2 - p0)), .int .i64 (wrap64 (q2 - q0))] | _ => #[]) D vs w') 14 (by kernel_rfl) (by kernel_rfl) (by kernel_rfl) ?startkpt9 ?stepkpt9 ?finkpt9
                case startkpt9 => exact ⟨fun _ => undef, rfl, Ext.drew _, fun _ h => h.elim, ows_none⟩
                case stepkpt9 =>
                  rintro i o D ac wz hin hio hnd he ⟨vs, rfl, k0, hF, hO⟩
                  rcases i with _ | _ | _ | _ | _ | _ | _ | _ | _ | _ | _ | _ | _ | _ | i
                  rotate_left 14
                  · exact absurd hin (by omega)
                  all_goals (obtain rfl := Option.some.inj (hio.symm.trans (by rfl)))
                  · refine step_yes (wanted_of_none rfl _) ?_
                    exact wp_of_run (run_ixa3_2 (.tmp 3) (.const (.int .i64 1)) rfl _ _ rfl 1 rfl (by decide)) ⟨upd vs 0 _, rfl, k0, inv_same hF rfl, ows_pure hO (Ext.refl _) rfl⟩
                  · refine step_yes (wanted_of_none rfl _) ?_
                    exact wp_of_run (run_ld_pt (.tmp 48) rfl _ _ (by exact (hF 0 (he ⟨0, .data⟩ (by simp) rfl))) _ _ ((k0.row L_Wv2.out).cell 2) ((k0.row L_Wv2.out).cell 3)) ⟨upd vs 1 _, rfl, k0, inv_same hF rfl, ows_pure hO (Ext.refl _) rfl⟩
                  · refine step_yes (wanted_of_none rfl _) ?_
                    exact wp_of_run (run_ixa3_2 (.tmp 3) (.const (.int .i64 0)) rfl _ _ rfl 0 rfl (by decide)) ⟨upd vs 2 _, rfl, k0, inv_same hF rfl, ows_pure hO (Ext.refl _) rfl⟩
                  · refine step_yes (wanted_of_none rfl _) ?_
                    exact wp_of_run (run_ld_pt (.tmp 50) rfl _ _ (by exact (hF 2 (he ⟨2, .data⟩ (by simp) rfl))) _ _ ((k0.row L_Wv2.out).cell 0) ((k0.row L_Wv2.out).cell 1)) ⟨upd vs 3 _, rfl, k0, inv_same hF rfl, ows_pure hO (Ext.refl _) rfl⟩
                  · refine step_yes (wanted_of_none rfl _) ?_
                    refine wp_of_callE (run_enter2 13 (.tmp 49) (.tmp 51) _ rfl _ _ (by exact (hF 1 (he ⟨1, .data⟩ (by simp) rfl))) (by exact (hF 3 (he ⟨3, .data⟩ (by simp) rfl))) (fun args w => enters_of Try.func13 (by kernel_rfl) rfl args w)) (vsub p1 q1 p0 q0 wz) ?_
                    rintro e w' ⟨rfl, hx⟩
                    exact ⟨_, rfl, upd vs 4 _, rfl, k0.trans hx, inv_same hF rfl, ows_pure hO hx rfl⟩
                  · refine step_yes (wanted_of_none rfl _) ?_
                    exact wp_of_run (run_ixa3_2 (.tmp 3) (.const (.int .i64 2)) rfl _ _ rfl 2 rfl (by decide)) ⟨upd vs 5 _, rfl, k0, inv_same hF rfl, ows_pure hO (Ext.refl _) rfl⟩
                  · refine step_yes (wanted_of_none rfl _) ?_
                    exact wp_of_run (run_ld_pt (.tmp 53) rfl _ _ (by exact (hF 5 (he ⟨5, .data⟩ (by simp) rfl))) _ _ ((k0.row L_Wv2.out).cell 4) ((k0.row L_Wv2.out).cell 5)) ⟨upd vs 6 _, rfl, k0, inv_same hF rfl, ows_pure hO (Ext.refl _) rfl⟩
                  · refine step_yes (wanted_of_none rfl _) ?_
                    exact wp_of_run (run_ixa3_2 (.tmp 3) (.const (.int .i64 0)) rfl _ _ rfl 0 rfl (by decide)) ⟨upd vs 7 _, rfl, k0, inv_same hF rfl, ows_pure hO (Ext.refl _) rfl⟩
                  · refine step_yes (wanted_of_none rfl _) ?_
                    exact wp_of_run (run_ld_pt (.tmp 55) rfl _ _ (by exact (hF 7 (he ⟨7, .data⟩ (by simp) rfl))) _ _ ((k0.row L_Wv2.out).cell 0) ((k0.row L_Wv2.out).cell 1)) ⟨upd vs 8 _, rfl, k0, inv_same hF rfl, ows_pure hO (Ext.refl _) rfl⟩
                  · refine step_yes (wanted_of_none rfl _) ?_
                    refine wp_of_callE (run_enter2 13 (.tmp 54) (.tmp 56) _ rfl _ _ (by exact (hF 6 (he ⟨6, .data⟩ (by simp) rfl))) (by exact (hF 8 (he ⟨8, .data⟩ (by simp) rfl))) (fun args w => enters_of Try.func13 (by kernel_rfl) rfl args w)) (vsub p2 q2 p0 q0 wz) ?_
                    rintro e w' ⟨rfl, hx⟩
                    exact ⟨_, rfl, upd vs 9 _, rfl, k0.trans hx, inv_same hF rfl, ows_pure hO hx rfl⟩
                  · refine step_yes (wanted_of_none rfl _) ?_
                    exact wp_of_run (run_alloc_pt rfl) ⟨upd vs 10 _, rfl, k0.trans (Ext.alloc _ _), inv_same hF trivial, ows_alloc (s := 12) rfl (by simp) hO (Below.size k0) hnd⟩
                  · refine step_yes (wanted_of_none rfl _) ?_
                    exact wp_of_run (run_alloc_pt rfl) ⟨upd vs 11 _, rfl, k0.trans (Ext.alloc _ _), inv_same hF trivial, ows_alloc (s := 13) rfl (by simp) hO (Below.size k0) hnd⟩
                  · refine step_yes (wanted_of_none rfl _) ?_
                    obtain ⟨g, hg, hle, hr, hO2⟩ := ows_store (a := 10) (s := 12) rfl (by simp) hO (he ⟨10, .data⟩ (by simp) rfl) hnd
                    exact wp_of_skip (run_st_pt (.tmp 8) (.tmp 52) rfl g 0 (by exact hg) _ _ (by exact (hF 4 (he ⟨4, .data⟩ (by simp) rfl))) _ _ _ _ (#[.int .i64 (wrap64 (p1 - p0)), .int .i64 (wrap64 (q1 - q0))]) hr rfl rfl rfl) ⟨vs, rfl, ext_setRow k0 (by exact hle) _, inv_skip hF trivial, hO2⟩
                  · refine step_yes (wanted_of_none rfl _) ?_
                    obtain ⟨g, hg, hle, hr, hO2⟩ := ows_store (a := 11) (s := 13) rfl (by simp) hO (he ⟨11, .data⟩ (by simp) rfl) hnd
                    exact wp_of_skip (run_st_pt (.tmp 9) (.tmp 57) rfl g 0 (by exact hg) _ _ (by exact (hF 9 (he ⟨9, .data⟩ (by simp) rfl))) _ _ _ _ (#[.int .i64 (wrap64 (p2 - p0)), .int .i64 (wrap64 (q2 - q0))]) hr rfl rfl rfl) ⟨vs, rfl, ext_setRow k0 (by exact hle) _, inv_skip hF trivial, hO2⟩
                case finkpt9 =>
                  rintro D ac wfkpt9 hD ⟨vs, rfl, k0, hF, hO⟩
                  change wpList _ _ _ [] _ _
                  unfold wpList
                  have E11 := Lib.hid (EWv2.out.trans k0)
                  have M_11 := Lib.hid (k0.row M_Wv2.out)
                  have L_11 := Lib.hid (k0.row L_Wv2.out)
                  have V_11 := Lib.hid (k0.row V_Wv2.out)
                  clear EWv2 M_Wv2 L_Wv2 V_Wv2
                  clear k0
                  obtain ⟨ga, hga, -, rga⟩ := ows_get (a := 10) (s := 12) hO (by simp) (hD 10 (by decide)) (hD 12 (by decide))
                  rw [hga]
                  obtain ⟨gb, hgb, -, rgb⟩ := ows_get (a := 11) (s := 13) hO (by simp) (hD 11 (by decide)) (hD 13 (by decide))
                  rw [hgb]
                  clear hF hD hO hga hgb
                  generalize vs = tvk9
                  have GA_0 := Lib.hid rga
                  clear rga
                  have GB_0 := Lib.hid rgb
                  clear rgb
                  go_wp2_with fail
                  refine wp_region_tail (fun D ac w' => ∃ vs : Nat → Value, ac = { tmps := #[Value.agg #[Value.int IntKind.i64 x, Value.int IntKind.i64 y, Value.int IntKind.i64 t, Value.bool true], Value.agg #[Value.int IntKind.i64 x0, Value.int IntKind.i64 y0, Value.int IntKind.i64 x1, Value.int IntKind.i64 y1, Value.int IntKind.i64 x2, Value.int IntKind.i64 y2], Value.pointer (some { block := w.heap.size, off := 0 }), Value.pointer (some { block := w.heap.size + 1, off := 0 }), Value.bool false, Value.bool true, Value.pointer (some { block := w1.heap.size, off := 0 }), Value.int IntKind.i64 3, Value.pointer (some { block := ga, off := 0 }), Value.pointer (some { block := gb, off := 0 }), vs 10, vs 11, undef, Value.bool true, tvkpt3 0, tvkpt3 1, tvkpt3 2, tvkpt3 3, tvkpt3 4, tvkpt3 5, tvkpt3 6, tvkpt3 7, Value.agg #[Value.int IntKind.i64 mx, Value.int IntKind.i64 my], Value.pointer (some { block := w.heap.size, off := 0 }), Value.int IntKind.i64 3, Value.bool false, Value.int IntKind.i64 2, Value.int IntKind.i64 3, Value.int IntKind.i64 2, tvkpt7_2 1, tvkpt7_2 2, tvkpt7_2 3, tvkpt7_2 4, tvkpt7_2 5, tvkpt7_2 6, tvkpt7_2 7, tvkpt7_2 8, tvkpt7_2 9, tvkpt7_2 10, Value.agg #[Value.int IntKind.i64 p2, Value.int IntKind.i64 q2], Value.pointer (some { block := w.heap.size + 1, off := 4 }), Value.int IntKind.i64 2, tvkpt8_2 1, tvkpt8_2 2, tvkpt8_2 3, tvkpt8_2 4, Value.agg #[Value.int IntKind.i64 s2, Value.int IntKind.i64 u2], Value.pointer (some { block := w1.heap.size, off := 4 }), tvk9 0, tvk9 1, tvk9 2, tvk9 3, tvk9 4, tvk9 5, tvk9 6, tvk9 7, tvk9 8, tvk9 9, vs 0, vs 1, vs 2, vs 3, vs 4, vs 5, vs 6, vs 7, vs 8, vs 9, undef, undef, undef, undef, undef, undef, undef, undef, undef, undef, undef, undef, undef, undef, undef, undef, undef, undef, undef, undef, undef, undef, undef, undef, undef, undef, undef, undef, undef, undef, undef, undef, undef, undef, undef, undef, undef, undef, undef, undef, undef, undef], defers := [] } ∧ Ext wfkpt9 w' ∧ (∀ j, D j → kpt10F w x y t x0 y0 x1 y1 x2 y2 W0 w1 W1 wfkpt3 tvkpt3 mx my Wm wfkpt7_0 tvkpt7_0 p0 q0 Wl0 wfkpt8_0 tvkpt8_0 s0 u0 Wv0 wfkpt7_1 tvkpt7_1 p1 q1 Wl1 wfkpt8_1 tvkpt8_1 s1 u1 Wv1 wfkpt7_2 tvkpt7_2 p2 q2 Wl2 wfkpt8_2 tvkpt8_2 s2 u2 Wv2 wfkpt9 ga gb tvk9 j (vs j)) ∧ Ows wfkpt9.heap.size [(10, 12), (11, 13)] (fun _ => 23) (fun _ => #[.int .i64 0, .int .i64 0]) (fun k => match k with | 10 => #[.int .i64 (wrap64 (s1 - s0)), .int .i64 (wrap64 (u1 - u0))] | 11 => #[.int .i64 (wrap64 (s2 - s0)), .int .i64 (wrap64 (u2 - u0))] | _ => #[]) D vs w') 14 (by kernel_rfl) (by kernel_rfl) (by kernel_rfl) ?startkpt10 ?stepkpt10 ?finkpt10
                  case startkpt10 => exact ⟨fun _ => undef, rfl, Ext.drew _, fun _ h => h.elim, ows_none⟩
                  case stepkpt10 =>
                    rintro i o D ac wz hin hio hnd he ⟨vs, rfl, k0, hF, hO⟩
                    rcases i with _ | _ | _ | _ | _ | _ | _ | _ | _ | _ | _ | _ | _ | _ | i
                    rotate_left 14
                    · exact absurd hin (by omega)
                    all_goals (obtain rfl := Option.some.inj (hio.symm.trans (by rfl)))
                    · refine step_yes (wanted_of_none rfl _) ?_
                      exact wp_of_run (run_ixa3_2 (.tmp 6) (.const (.int .i64 1)) rfl _ _ rfl 1 rfl (by decide)) ⟨upd vs 0 _, rfl, k0, inv_same hF rfl, ows_pure hO (Ext.refl _) rfl⟩
                    · refine step_yes (wanted_of_none rfl _) ?_
                      exact wp_of_run (run_ld_pt (.tmp 58) rfl _ _ (by exact (hF 0 (he ⟨0, .data⟩ (by simp) rfl))) _ _ ((k0.row V_11.out).cell 2) ((k0.row V_11.out).cell 3)) ⟨upd vs 1 _, rfl, k0, inv_same hF rfl, ows_pure hO (Ext.refl _) rfl⟩
                    · refine step_yes (wanted_of_none rfl _) ?_
                      exact wp_of_run (run_ixa3_2 (.tmp 6) (.const (.int .i64 0)) rfl _ _ rfl 0 rfl (by decide)) ⟨upd vs 2 _, rfl, k0, inv_same hF rfl, ows_pure hO (Ext.refl _) rfl⟩
                    · refine step_yes (wanted_of_none rfl _) ?_
                      exact wp_of_run (run_ld_pt (.tmp 60) rfl _ _ (by exact (hF 2 (he ⟨2, .data⟩ (by simp) rfl))) _ _ ((k0.row V_11.out).cell 0) ((k0.row V_11.out).cell 1)) ⟨upd vs 3 _, rfl, k0, inv_same hF rfl, ows_pure hO (Ext.refl _) rfl⟩
                    · refine step_yes (wanted_of_none rfl _) ?_
                      refine wp_of_callE (run_enter2 13 (.tmp 59) (.tmp 61) _ rfl _ _ (by exact (hF 1 (he ⟨1, .data⟩ (by simp) rfl))) (by exact (hF 3 (he ⟨3, .data⟩ (by simp) rfl))) (fun args w => enters_of Try.func13 (by kernel_rfl) rfl args w)) (vsub s1 u1 s0 u0 wz) ?_
                      rintro e w' ⟨rfl, hx⟩
                      exact ⟨_, rfl, upd vs 4 _, rfl, k0.trans hx, inv_same hF rfl, ows_pure hO hx rfl⟩
                    · refine step_yes (wanted_of_none rfl _) ?_
                      exact wp_of_run (run_ixa3_2 (.tmp 6) (.const (.int .i64 2)) rfl _ _ rfl 2 rfl (by decide)) ⟨upd vs 5 _, rfl, k0, inv_same hF rfl, ows_pure hO (Ext.refl _) rfl⟩
                    · refine step_yes (wanted_of_none rfl _) ?_
                      exact wp_of_run (run_ld_pt (.tmp 63) rfl _ _ (by exact (hF 5 (he ⟨5, .data⟩ (by simp) rfl))) _ _ ((k0.row V_11.out).cell 4) ((k0.row V_11.out).cell 5)) ⟨upd vs 6 _, rfl, k0, inv_same hF rfl, ows_pure hO (Ext.refl _) rfl⟩
                    · refine step_yes (wanted_of_none rfl _) ?_
                      exact wp_of_run (run_ixa3_2 (.tmp 6) (.const (.int .i64 0)) rfl _ _ rfl 0 rfl (by decide)) ⟨upd vs 7 _, rfl, k0, inv_same hF rfl, ows_pure hO (Ext.refl _) rfl⟩
                    · refine step_yes (wanted_of_none rfl _) ?_
                      exact wp_of_run (run_ld_pt (.tmp 65) rfl _ _ (by exact (hF 7 (he ⟨7, .data⟩ (by simp) rfl))) _ _ ((k0.row V_11.out).cell 0) ((k0.row V_11.out).cell 1)) ⟨upd vs 8 _, rfl, k0, inv_same hF rfl, ows_pure hO (Ext.refl _) rfl⟩
                    · refine step_yes (wanted_of_none rfl _) ?_
                      refine wp_of_callE (run_enter2 13 (.tmp 64) (.tmp 66) _ rfl _ _ (by exact (hF 6 (he ⟨6, .data⟩ (by simp) rfl))) (by exact (hF 8 (he ⟨8, .data⟩ (by simp) rfl))) (fun args w => enters_of Try.func13 (by kernel_rfl) rfl args w)) (vsub s2 u2 s0 u0 wz) ?_
                      rintro e w' ⟨rfl, hx⟩
                      exact ⟨_, rfl, upd vs 9 _, rfl, k0.trans hx, inv_same hF rfl, ows_pure hO hx rfl⟩
                    · refine step_yes (wanted_of_none rfl _) ?_
                      exact wp_of_run (run_alloc_pt rfl) ⟨upd vs 10 _, rfl, k0.trans (Ext.alloc _ _), inv_same hF trivial, ows_alloc (s := 12) rfl (by simp) hO (Below.size k0) hnd⟩
                    · refine step_yes (wanted_of_none rfl _) ?_
                      exact wp_of_run (run_alloc_pt rfl) ⟨upd vs 11 _, rfl, k0.trans (Ext.alloc _ _), inv_same hF trivial, ows_alloc (s := 13) rfl (by simp) hO (Below.size k0) hnd⟩
                    · refine step_yes (wanted_of_none rfl _) ?_
                      obtain ⟨g, hg, hle, hr, hO2⟩ := ows_store (a := 10) (s := 12) rfl (by simp) hO (he ⟨10, .data⟩ (by simp) rfl) hnd
                      exact wp_of_skip (run_st_pt (.tmp 10) (.tmp 62) rfl g 0 (by exact hg) _ _ (by exact (hF 4 (he ⟨4, .data⟩ (by simp) rfl))) _ _ _ _ (#[.int .i64 (wrap64 (s1 - s0)), .int .i64 (wrap64 (u1 - u0))]) hr rfl rfl rfl) ⟨vs, rfl, ext_setRow k0 (by exact hle) _, inv_skip hF trivial, hO2⟩
                    · refine step_yes (wanted_of_none rfl _) ?_
                      obtain ⟨g, hg, hle, hr, hO2⟩ := ows_store (a := 11) (s := 13) rfl (by simp) hO (he ⟨11, .data⟩ (by simp) rfl) hnd
                      exact wp_of_skip (run_st_pt (.tmp 11) (.tmp 67) rfl g 0 (by exact hg) _ _ (by exact (hF 9 (he ⟨9, .data⟩ (by simp) rfl))) _ _ _ _ (#[.int .i64 (wrap64 (s2 - s0)), .int .i64 (wrap64 (u2 - u0))]) hr rfl rfl rfl) ⟨vs, rfl, ext_setRow k0 (by exact hle) _, inv_skip hF trivial, hO2⟩
                  case finkpt10 =>
                    rintro D ac wfkpt10 hD ⟨vs, rfl, k0, hF, hO⟩
                    change wpList _ _ _ [] _ _
                    unfold wpList
                    have E12 := Lib.hid (E11.out.trans k0)
                    have M_12 := Lib.hid (k0.row M_11.out)
                    have L_12 := Lib.hid (k0.row L_11.out)
                    have V_12 := Lib.hid (k0.row V_11.out)
                    have GA_12 := Lib.hid (k0.row GA_0.out)
                    have GB_12 := Lib.hid (k0.row GB_0.out)
                    clear E11 M_11 L_11 V_11 GA_0 GB_0
                    clear k0
                    obtain ⟨gc, hgc, -, rgc⟩ := ows_get (a := 10) (s := 12) hO (by simp) (hD 10 (by decide)) (hD 12 (by decide))
                    rw [hgc]
                    obtain ⟨gd, hgd, -, rgd⟩ := ows_get (a := 11) (s := 13) hO (by simp) (hD 11 (by decide)) (hD 13 (by decide))
                    rw [hgd]
                    clear hF hD hO hgc hgd
                    generalize vs = tvk10
                    have GC_0 := Lib.hid rgc
                    clear rgc
                    have GD_0 := Lib.hid rgd
                    clear rgd
                    have hc3 := M_12.out.cell 3
                    simp at hc3
                    go_wp2_with fail
                    clear hc3
                    refine wp_region_tail (fun D ac w' => ∃ vs : Nat → Value, ac = { tmps := #[Value.agg #[Value.int IntKind.i64 x, Value.int IntKind.i64 y, Value.int IntKind.i64 t, Value.bool true], Value.agg #[Value.int IntKind.i64 x0, Value.int IntKind.i64 y0, Value.int IntKind.i64 x1, Value.int IntKind.i64 y1, Value.int IntKind.i64 x2, Value.int IntKind.i64 y2], Value.pointer (some { block := w.heap.size, off := 0 }), Value.pointer (some { block := w.heap.size + 1, off := 0 }), Value.bool false, Value.bool true, Value.pointer (some { block := w1.heap.size, off := 0 }), Value.int IntKind.i64 3, Value.pointer (some { block := ga, off := 0 }), Value.pointer (some { block := gb, off := 0 }), Value.pointer (some { block := gc, off := 0 }), Value.pointer (some { block := gd, off := 0 }), Value.int IntKind.i64 (-1), Value.bool true, tvkpt3 0, tvkpt3 1, tvkpt3 2, tvkpt3 3, tvkpt3 4, tvkpt3 5, tvkpt3 6, tvkpt3 7, Value.agg #[Value.int IntKind.i64 mx, Value.int IntKind.i64 my], Value.pointer (some { block := w.heap.size, off := 0 }), Value.int IntKind.i64 3, Value.bool false, Value.int IntKind.i64 2, Value.int IntKind.i64 3, Value.int IntKind.i64 2, tvkpt7_2 1, tvkpt7_2 2, tvkpt7_2 3, tvkpt7_2 4, tvkpt7_2 5, tvkpt7_2 6, tvkpt7_2 7, tvkpt7_2 8, tvkpt7_2 9, tvkpt7_2 10, Value.agg #[Value.int IntKind.i64 p2, Value.int IntKind.i64 q2], Value.pointer (some { block := w.heap.size + 1, off := 4 }), Value.int IntKind.i64 2, tvkpt8_2 1, tvkpt8_2 2, tvkpt8_2 3, tvkpt8_2 4, Value.agg #[Value.int IntKind.i64 s2, Value.int IntKind.i64 u2], Value.pointer (some { block := w1.heap.size, off := 4 }), tvk9 0, tvk9 1, tvk9 2, tvk9 3, tvk9 4, tvk9 5, tvk9 6, tvk9 7, tvk9 8, tvk9 9, tvk10 0, tvk10 1, tvk10 2, tvk10 3, tvk10 4, tvk10 5, tvk10 6, tvk10 7, tvk10 8, tvk10 9, Value.pointer (some { block := w.heap.size, off := 3 }), Value.bool true, vs 0, vs 1, vs 2, vs 3, vs 4, vs 5, vs 6, vs 7, vs 8, vs 9, vs 10, vs 11, vs 12, vs 13, vs 14, vs 15, vs 16, vs 17, vs 18, vs 19, vs 20, vs 21, vs 22, vs 23, vs 24, vs 25, vs 26, vs 27, vs 28, vs 29, vs 30, vs 31, vs 32, vs 33, vs 34, vs 35, vs 36, vs 37, vs 38, vs 39], defers := [] } ∧ Ext wfkpt10 w' ∧ ∀ j, D j → kpt14F w x y t x0 y0 x1 y1 x2 y2 W0 w1 W1 wfkpt3 tvkpt3 mx my Wm wfkpt7_0 tvkpt7_0 p0 q0 Wl0 wfkpt8_0 tvkpt8_0 s0 u0 Wv0 wfkpt7_1 tvkpt7_1 p1 q1 Wl1 wfkpt8_1 tvkpt8_1 s1 u1 Wv1 wfkpt7_2 tvkpt7_2 p2 q2 Wl2 wfkpt8_2 tvkpt8_2 s2 u2 Wv2 wfkpt9 ga gb tvk9 wfkpt10 gc gd tvk10 j (vs j)) 40 (by kernel_rfl) (by kernel_rfl) (by kernel_rfl) ?startkpt14 ?stepkpt14 ?finkpt14
                    case startkpt14 => exact ⟨fun _ => undef, rfl, Ext.drew _, fun _ h => h.elim⟩
                    case stepkpt14 =>
                      rintro i o D ac wz hin hio hnd he ⟨vs, rfl, k0, hF⟩
                      rcases i with _ | _ | _ | _ | _ | _ | _ | _ | _ | _ | _ | _ | _ | _ | _ | _ | _ | _ | _ | _ | _ | _ | _ | _ | _ | _ | _ | _ | _ | _ | _ | _ | _ | _ | _ | _ | _ | _ | _ | _ | i
                      rotate_left 40
                      · exact absurd hin (by omega)
                      all_goals (obtain rfl := Option.some.inj (hio.symm.trans (by rfl)))
                      · refine step_yes (wanted_of_none rfl _) ?_
                        exact wp_of_run (run_mov (.tmp 5) rfl _ rfl) ⟨upd vs 0 _, rfl, k0, inv_same hF rfl⟩
                      · refine step_yes (wanted_of_none rfl _) ?_
                        exact wp_of_run (run_mov (.tmp 70) rfl _ (by exact (hF 0 (he ⟨0, .data⟩ (by simp) rfl)))) ⟨upd vs 1 _, rfl, k0, inv_same hF rfl⟩
                      · refine step_yes (wanted_g (j := 1) (d := 71) rfl rfl rfl (hF 1 (he ⟨1, .guard⟩ (by simp) rfl))) ?_
                        exact wp_of_run (run_ld_pt (.tmp 8) rfl _ _ rfl _ _ ((k0.row GA_12.out).cell 0) ((k0.row GA_12.out).cell 1)) ⟨upd vs 2 _, rfl, k0, inv_same hF rfl⟩
                      · refine step_yes (wanted_g (j := 1) (d := 71) rfl rfl rfl (hF 1 (he ⟨1, .guard⟩ (by simp) rfl))) ?_
                        exact wp_of_run (run_ld_pt (.tmp 9) rfl _ _ rfl _ _ ((k0.row GB_12.out).cell 0) ((k0.row GB_12.out).cell 1)) ⟨upd vs 3 _, rfl, k0, inv_same hF rfl⟩
                      · refine step_yes (wanted_g (j := 1) (d := 71) rfl rfl rfl (hF 1 (he ⟨1, .chain⟩ (by simp) rfl))) ?_
                        refine wp_of_callE (run_enter2 17 (.tmp 72) (.tmp 73) _ rfl _ _ (by exact (hF 2 (he ⟨2, .data⟩ (by simp) rfl))) (by exact (hF 3 (he ⟨3, .data⟩ (by simp) rfl))) (fun args w => enters_of Try.func17 (by kernel_rfl) rfl args w)) (vdot (wrap64 (p1 - p0)) (wrap64 (q1 - q0)) (wrap64 (p2 - p0)) (wrap64 (q2 - q0)) wz) ?_
                        rintro e w' ⟨rfl, hx⟩
                        exact ⟨_, rfl, upd vs 4 _, rfl, k0.trans hx, inv_same hF rfl⟩
                      · refine step_yes (wanted_g (j := 1) (d := 71) rfl rfl rfl (hF 1 (he ⟨1, .guard⟩ (by simp) rfl))) ?_
                        exact wp_of_run (run_ld_pt (.tmp 10) rfl _ _ rfl _ _ ((k0.row GC_0.out).cell 0) ((k0.row GC_0.out).cell 1)) ⟨upd vs 5 _, rfl, k0, inv_same hF rfl⟩
                      · refine step_yes (wanted_g (j := 1) (d := 71) rfl rfl rfl (hF 1 (he ⟨1, .guard⟩ (by simp) rfl))) ?_
                        exact wp_of_run (run_ld_pt (.tmp 11) rfl _ _ rfl _ _ ((k0.row GD_0.out).cell 0) ((k0.row GD_0.out).cell 1)) ⟨upd vs 6 _, rfl, k0, inv_same hF rfl⟩
                      · refine step_yes (wanted_g (j := 1) (d := 71) rfl rfl rfl (hF 1 (he ⟨1, .guard⟩ (by simp) rfl))) ?_
                        refine wp_of_callE (run_enter2 17 (.tmp 75) (.tmp 76) _ rfl _ _ (by exact (hF 5 (he ⟨5, .data⟩ (by simp) rfl))) (by exact (hF 6 (he ⟨6, .data⟩ (by simp) rfl))) (fun args w => enters_of Try.func17 (by kernel_rfl) rfl args w)) (vdot (wrap64 (s1 - s0)) (wrap64 (u1 - u0)) (wrap64 (s2 - s0)) (wrap64 (u2 - u0)) wz) ?_
                        rintro e w' ⟨rfl, hx⟩
                        exact ⟨_, rfl, upd vs 7 _, rfl, k0.trans hx, inv_same hF rfl⟩
                      · refine step_yes (wanted_g (j := 1) (d := 71) rfl rfl rfl (hF 1 (he ⟨1, .guard⟩ (by simp) rfl))) ?_
                        exact wp_of_run (run_eqi (.tmp 74) (.tmp 77) rfl _ _ (by exact (hF 4 (he ⟨4, .data⟩ (by simp) rfl))) (by exact (hF 7 (he ⟨7, .data⟩ (by simp) rfl))) _ (decide_eq_true (by rw [Qs0.out, Qu0.out, Qs1.out, Qu1.out, Qs2.out, Qu2.out]; exact keep_dot (t := t) (m := true) Bmx.out Bmy.out Bp0.out Bq0.out Bp1.out Bq1.out Bp2.out Bq2.out))) ⟨upd vs 8 _, rfl, k0, inv_same hF rfl⟩
                      · refine step_yes (wanted_of_none rfl _) ?_
                        exact wp_of_run (run_pick_t (.tmp 71) (.tmp 78) (.const (.bool false)) rfl (by exact (hF 1 (he ⟨1, .data⟩ (by simp) rfl))) _ (by exact (hF 8 (he ⟨8, .data⟩ (by simp) rfl)))) ⟨upd vs 9 _, rfl, k0, inv_same hF rfl⟩
                      · refine step_yes (wanted_of_none rfl _) ?_
                        exact wp_of_run (run_mov (.tmp 79) rfl _ (by exact (hF 9 (he ⟨9, .data⟩ (by simp) rfl)))) ⟨upd vs 10 _, rfl, k0, inv_same hF rfl⟩
                      · refine step_yes (wanted_g (j := 10) (d := 80) rfl rfl rfl (hF 10 (he ⟨10, .guard⟩ (by simp) rfl))) ?_
                        exact wp_of_run (run_ld_pt (.tmp 8) rfl _ _ rfl _ _ ((k0.row GA_12.out).cell 0) ((k0.row GA_12.out).cell 1)) ⟨upd vs 11 _, rfl, k0, inv_same hF rfl⟩
                      · refine step_yes (wanted_g (j := 10) (d := 80) rfl rfl rfl (hF 10 (he ⟨10, .guard⟩ (by simp) rfl))) ?_
                        exact wp_of_run (run_ld_pt (.tmp 9) rfl _ _ rfl _ _ ((k0.row GB_12.out).cell 0) ((k0.row GB_12.out).cell 1)) ⟨upd vs 12 _, rfl, k0, inv_same hF rfl⟩
                      · refine step_yes (wanted_g (j := 10) (d := 80) rfl rfl rfl (hF 10 (he ⟨10, .chain⟩ (by simp) rfl))) ?_
                        refine wp_of_callE (run_enter2 15 (.tmp 81) (.tmp 82) _ rfl _ _ (by exact (hF 11 (he ⟨11, .data⟩ (by simp) rfl))) (by exact (hF 12 (he ⟨12, .data⟩ (by simp) rfl))) (fun args w => enters_of Try.func15 (by kernel_rfl) rfl args w)) (vcross (wrap64 (p1 - p0)) (wrap64 (q1 - q0)) (wrap64 (p2 - p0)) (wrap64 (q2 - q0)) wz) ?_
                        rintro e w' ⟨rfl, hx⟩
                        exact ⟨_, rfl, upd vs 13 _, rfl, k0.trans hx, inv_same hF rfl⟩
                      · refine step_yes (wanted_g (j := 10) (d := 80) rfl rfl rfl (hF 10 (he ⟨10, .guard⟩ (by simp) rfl))) ?_
                        exact wp_of_run (run_mov (.tmp 12) rfl _ rfl) ⟨upd vs 14 _, rfl, k0, inv_same hF rfl⟩
                      · refine step_yes (wanted_g (j := 10) (d := 80) rfl rfl rfl (hF 10 (he ⟨10, .guard⟩ (by simp) rfl))) ?_
                        exact wp_of_run (run_ld_pt (.tmp 10) rfl _ _ rfl _ _ ((k0.row GC_0.out).cell 0) ((k0.row GC_0.out).cell 1)) ⟨upd vs 15 _, rfl, k0, inv_same hF rfl⟩
                      · refine step_yes (wanted_g (j := 10) (d := 80) rfl rfl rfl (hF 10 (he ⟨10, .guard⟩ (by simp) rfl))) ?_
                        exact wp_of_run (run_ld_pt (.tmp 11) rfl _ _ rfl _ _ ((k0.row GD_0.out).cell 0) ((k0.row GD_0.out).cell 1)) ⟨upd vs 16 _, rfl, k0, inv_same hF rfl⟩
                      · refine step_yes (wanted_g (j := 10) (d := 80) rfl rfl rfl (hF 10 (he ⟨10, .guard⟩ (by simp) rfl))) ?_
                        refine wp_of_callE (run_enter2 15 (.tmp 85) (.tmp 86) _ rfl _ _ (by exact (hF 15 (he ⟨15, .data⟩ (by simp) rfl))) (by exact (hF 16 (he ⟨16, .data⟩ (by simp) rfl))) (fun args w => enters_of Try.func15 (by kernel_rfl) rfl args w)) (vcross (wrap64 (s1 - s0)) (wrap64 (u1 - u0)) (wrap64 (s2 - s0)) (wrap64 (u2 - u0)) wz) ?_
                        rintro e w' ⟨rfl, hx⟩
                        exact ⟨_, rfl, upd vs 17 _, rfl, k0.trans hx, inv_same hF rfl⟩
                      · refine step_yes (wanted_g (j := 10) (d := 80) rfl rfl rfl (hF 10 (he ⟨10, .guard⟩ (by simp) rfl))) ?_
                        exact wp_of_run (run_muli (.tmp 84) (.tmp 87) rfl rfl _ _ (by exact (hF 14 (he ⟨14, .data⟩ (by simp) rfl))) (by exact (hF 17 (he ⟨17, .data⟩ (by simp) rfl)))) ⟨upd vs 18 _, rfl, k0, inv_same hF rfl⟩
                      · refine step_yes (wanted_g (j := 10) (d := 80) rfl rfl rfl (hF 10 (he ⟨10, .guard⟩ (by simp) rfl))) ?_
                        exact wp_of_run (run_eqi (.tmp 83) (.tmp 88) rfl _ _ (by exact (hF 13 (he ⟨13, .data⟩ (by simp) rfl))) (by exact (hF 18 (he ⟨18, .data⟩ (by simp) rfl))) _ (decide_eq_true (by rw [Qs0.out, Qu0.out, Qs1.out, Qu1.out, Qs2.out, Qu2.out]; exact keep_cross2 (t := t) (m := true) Bmx.out Bmy.out Bp0.out Bq0.out Bp1.out Bq1.out Bp2.out Bq2.out))) ⟨upd vs 19 _, rfl, k0, inv_same hF rfl⟩
                      · refine step_yes (wanted_of_none rfl _) ?_
                        exact wp_of_run (run_pick_t (.tmp 80) (.tmp 89) (.const (.bool false)) rfl (by exact (hF 10 (he ⟨10, .data⟩ (by simp) rfl))) _ (by exact (hF 19 (he ⟨19, .data⟩ (by simp) rfl)))) ⟨upd vs 20 _, rfl, k0, inv_same hF rfl⟩
                      · refine step_yes (wanted_of_none rfl _) ?_
                        exact wp_of_run (run_mov (.tmp 90) rfl _ (by exact (hF 20 (he ⟨20, .data⟩ (by simp) rfl)))) ⟨upd vs 21 _, rfl, k0, inv_same hF rfl⟩
                      · refine step_yes (wanted_g (j := 21) (d := 91) rfl rfl rfl (hF 21 (he ⟨21, .guard⟩ (by simp) rfl))) ?_
                        exact wp_of_run (run_ixa3_2 (.tmp 3) (.const (.int .i64 0)) rfl _ _ rfl 0 rfl (by decide)) ⟨upd vs 22 _, rfl, k0, inv_same hF rfl⟩
                      · refine step_yes (wanted_g (j := 21) (d := 91) rfl rfl rfl (hF 21 (he ⟨21, .guard⟩ (by simp) rfl))) ?_
                        exact wp_of_run (run_ld_pt (.tmp 92) rfl _ _ (by exact (hF 22 (he ⟨22, .data⟩ (by simp) rfl))) _ _ ((k0.row L_12.out).cell 0) ((k0.row L_12.out).cell 1)) ⟨upd vs 23 _, rfl, k0, inv_same hF rfl⟩
                      · refine step_yes (wanted_g (j := 21) (d := 91) rfl rfl rfl (hF 21 (he ⟨21, .guard⟩ (by simp) rfl))) ?_
                        exact wp_of_run (run_ixa3_2 (.tmp 3) (.const (.int .i64 1)) rfl _ _ rfl 1 rfl (by decide)) ⟨upd vs 24 _, rfl, k0, inv_same hF rfl⟩
                      · refine step_yes (wanted_g (j := 21) (d := 91) rfl rfl rfl (hF 21 (he ⟨21, .guard⟩ (by simp) rfl))) ?_
                        exact wp_of_run (run_ld_pt (.tmp 94) rfl _ _ (by exact (hF 24 (he ⟨24, .data⟩ (by simp) rfl))) _ _ ((k0.row L_12.out).cell 2) ((k0.row L_12.out).cell 3)) ⟨upd vs 25 _, rfl, k0, inv_same hF rfl⟩
                      · refine step_yes (wanted_g (j := 21) (d := 91) rfl rfl rfl (hF 21 (he ⟨21, .guard⟩ (by simp) rfl))) ?_
                        exact wp_of_run (run_ixa3_2 (.tmp 3) (.const (.int .i64 2)) rfl _ _ rfl 2 rfl (by decide)) ⟨upd vs 26 _, rfl, k0, inv_same hF rfl⟩
                      · refine step_yes (wanted_g (j := 21) (d := 91) rfl rfl rfl (hF 21 (he ⟨21, .guard⟩ (by simp) rfl))) ?_
                        exact wp_of_run (run_ld_pt (.tmp 96) rfl _ _ (by exact (hF 26 (he ⟨26, .data⟩ (by simp) rfl))) _ _ ((k0.row L_12.out).cell 4) ((k0.row L_12.out).cell 5)) ⟨upd vs 27 _, rfl, k0, inv_same hF rfl⟩
                      · refine step_yes (wanted_g (j := 21) (d := 91) rfl rfl rfl (hF 21 (he ⟨21, .chain⟩ (by simp) rfl))) ?_
                        refine wp_of_callE (run_enter3 19 (.tmp 93) (.tmp 95) (.tmp 97) _ rfl _ _ _ (by exact (hF 23 (he ⟨23, .data⟩ (by simp) rfl))) (by exact (hF 25 (he ⟨25, .data⟩ (by simp) rfl))) (by exact (hF 27 (he ⟨27, .data⟩ (by simp) rfl))) (fun args w => enters_of Try.func19 (by kernel_rfl) rfl args w)) (vside p0 q0 p1 q1 p2 q2 wz) ?_
                        rintro e w' ⟨rfl, hx⟩
                        exact ⟨_, rfl, upd vs 28 _, rfl, k0.trans hx, inv_same hF rfl⟩
                      · refine step_yes (wanted_g (j := 21) (d := 91) rfl rfl rfl (hF 21 (he ⟨21, .guard⟩ (by simp) rfl))) ?_
                        exact wp_of_run (run_mov (.tmp 12) rfl _ rfl) ⟨upd vs 29 _, rfl, k0, inv_same hF rfl⟩
                      · refine step_yes (wanted_g (j := 21) (d := 91) rfl rfl rfl (hF 21 (he ⟨21, .guard⟩ (by simp) rfl))) ?_
                        exact wp_of_run (run_ixa3_2 (.tmp 6) (.const (.int .i64 0)) rfl _ _ rfl 0 rfl (by decide)) ⟨upd vs 30 _, rfl, k0, inv_same hF rfl⟩
                      · refine step_yes (wanted_g (j := 21) (d := 91) rfl rfl rfl (hF 21 (he ⟨21, .guard⟩ (by simp) rfl))) ?_
                        exact wp_of_run (run_ld_pt (.tmp 100) rfl _ _ (by exact (hF 30 (he ⟨30, .data⟩ (by simp) rfl))) _ _ ((k0.row V_12.out).cell 0) ((k0.row V_12.out).cell 1)) ⟨upd vs 31 _, rfl, k0, inv_same hF rfl⟩
                      · refine step_yes (wanted_g (j := 21) (d := 91) rfl rfl rfl (hF 21 (he ⟨21, .guard⟩ (by simp) rfl))) ?_
                        exact wp_of_run (run_ixa3_2 (.tmp 6) (.const (.int .i64 1)) rfl _ _ rfl 1 rfl (by decide)) ⟨upd vs 32 _, rfl, k0, inv_same hF rfl⟩
                      · refine step_yes (wanted_g (j := 21) (d := 91) rfl rfl rfl (hF 21 (he ⟨21, .guard⟩ (by simp) rfl))) ?_
                        exact wp_of_run (run_ld_pt (.tmp 102) rfl _ _ (by exact (hF 32 (he ⟨32, .data⟩ (by simp) rfl))) _ _ ((k0.row V_12.out).cell 2) ((k0.row V_12.out).cell 3)) ⟨upd vs 33 _, rfl, k0, inv_same hF rfl⟩
                      · refine step_yes (wanted_g (j := 21) (d := 91) rfl rfl rfl (hF 21 (he ⟨21, .guard⟩ (by simp) rfl))) ?_
                        exact wp_of_run (run_ixa3_2 (.tmp 6) (.const (.int .i64 2)) rfl _ _ rfl 2 rfl (by decide)) ⟨upd vs 34 _, rfl, k0, inv_same hF rfl⟩
                      · refine step_yes (wanted_g (j := 21) (d := 91) rfl rfl rfl (hF 21 (he ⟨21, .guard⟩ (by simp) rfl))) ?_
                        exact wp_of_run (run_ld_pt (.tmp 104) rfl _ _ (by exact (hF 34 (he ⟨34, .data⟩ (by simp) rfl))) _ _ ((k0.row V_12.out).cell 4) ((k0.row V_12.out).cell 5)) ⟨upd vs 35 _, rfl, k0, inv_same hF rfl⟩
                      · refine step_yes (wanted_g (j := 21) (d := 91) rfl rfl rfl (hF 21 (he ⟨21, .guard⟩ (by simp) rfl))) ?_
                        refine wp_of_callE (run_enter3 19 (.tmp 101) (.tmp 103) (.tmp 105) _ rfl _ _ _ (by exact (hF 31 (he ⟨31, .data⟩ (by simp) rfl))) (by exact (hF 33 (he ⟨33, .data⟩ (by simp) rfl))) (by exact (hF 35 (he ⟨35, .data⟩ (by simp) rfl))) (fun args w => enters_of Try.func19 (by kernel_rfl) rfl args w)) (vside s0 u0 s1 u1 s2 u2 wz) ?_
                        rintro e w' ⟨rfl, hx⟩
                        exact ⟨_, rfl, upd vs 36 _, rfl, k0.trans hx, inv_same hF rfl⟩
                      · refine step_yes (wanted_g (j := 21) (d := 91) rfl rfl rfl (hF 21 (he ⟨21, .guard⟩ (by simp) rfl))) ?_
                        exact wp_of_run (run_muli (.tmp 99) (.tmp 106) rfl rfl _ _ (by exact (hF 29 (he ⟨29, .data⟩ (by simp) rfl))) (by exact (hF 36 (he ⟨36, .data⟩ (by simp) rfl)))) ⟨upd vs 37 _, rfl, k0, inv_same hF rfl⟩
                      · refine step_yes (wanted_g (j := 21) (d := 91) rfl rfl rfl (hF 21 (he ⟨21, .guard⟩ (by simp) rfl))) ?_
                        exact wp_of_run (run_eqi (.tmp 98) (.tmp 107) rfl _ _ (by exact (hF 28 (he ⟨28, .data⟩ (by simp) rfl))) (by exact (hF 37 (he ⟨37, .data⟩ (by simp) rfl))) _ (decide_eq_true (by rw [Qs0.out, Qu0.out, Qs1.out, Qu1.out, Qs2.out, Qu2.out]; exact keep_side (t := t) (m := true) Bmx.out Bmy.out Bp0.out Bq0.out Bp1.out Bq1.out Bp2.out Bq2.out))) ⟨upd vs 38 _, rfl, k0, inv_same hF rfl⟩
                      · refine step_yes (wanted_of_none rfl _) ?_
                        exact wp_of_run (run_pick_t (.tmp 91) (.tmp 108) (.const (.bool false)) rfl (by exact (hF 21 (he ⟨21, .data⟩ (by simp) rfl))) _ (by exact (hF 38 (he ⟨38, .data⟩ (by simp) rfl)))) ⟨upd vs 39 _, rfl, k0, inv_same hF rfl⟩
                    case finkpt14 =>
                      rintro D ac wfkpt14 hD ⟨vs, rfl, k0, hF⟩
                      change wpList _ _ _ [_] _ _
                      have hl39 : vs 39 = .bool true := hF 39 (hD 39 (by decide))
                      rw [hl39]
                      clear hl39
                      clear hF hD
                      generalize vs = tvkpt14
                      have E13 := Lib.hid (E12.out.trans k0)
                      have M_13 := Lib.hid (k0.row M_12.out)
                      have L_13 := Lib.hid (k0.row L_12.out)
                      have V_13 := Lib.hid (k0.row V_12.out)
                      have GA_13 := Lib.hid (k0.row GA_12.out)
                      have GB_13 := Lib.hid (k0.row GB_12.out)
                      have GC_13 := Lib.hid (k0.row GC_0.out)
                      have GD_13 := Lib.hid (k0.row GD_0.out)
                      clear E12 M_12 L_12 V_12 GA_12 GB_12 GC_0 GD_0
                      clear k0
                      go_wp2_with fail
                      go_ret
                      exact ⟨rfl, E13.out⟩

def kpf3V (w : World) (x y t : Int) (x0 y0 x1 y1 x2 y2 : Int) (W0 : World) (w1 : World) (W1 : World) : Nat → Value
  | 0 => .pointer (some ⟨w.heap.size, 0, none⟩)
  | 1 => .pointer (some ⟨w.heap.size, 0, none⟩)
  | 2 => .int .i64 x
  | 3 => .int .i64 (x.tmod 10000000)
  | 4 => .pointer (some ⟨w.heap.size, 0, none⟩)
  | 5 => .pointer (some ⟨w.heap.size, 1, none⟩)
  | 6 => .int .i64 y
  | 7 => .int .i64 (y.tmod 10000000)
  | 8 => .agg #[.int .i64 (x.tmod 10000000), .int .i64 (y.tmod 10000000)]
  | _ => undef
def kpf3F (w : World) (x y t : Int) (x0 y0 x1 y1 x2 y2 : Int) (W0 : World) (w1 : World) (W1 : World) (j : Nat) (v : Value) : Prop := v = kpf3V w x y t x0 y0 x1 y1 x2 y2 W0 w1 W1 j
def kpf7_0V (w : World) (x y t : Int) (x0 y0 x1 y1 x2 y2 : Int) (W0 : World) (w1 : World) (W1 : World) (wfkpf3 : World) (tvkpf3 : Nat → Value) (mx my : Int) (Wm : World) : Nat → Value
  | 0 => .int .i64 0
  | 1 => .int .i64 0
  | 2 => .pointer (some ⟨w.heap.size + 1, 0, none⟩)
  | 3 => .pointer (some ⟨w.heap.size + 1, 0, none⟩)
  | 4 => .int .i64 x0
  | 5 => .int .i64 (x0.tmod 10000000)
  | 6 => .int .i64 0
  | 7 => .pointer (some ⟨w.heap.size + 1, 0, none⟩)
  | 8 => .pointer (some ⟨w.heap.size + 1, 1, none⟩)
  | 9 => .int .i64 y0
  | 10 => .int .i64 (y0.tmod 10000000)
  | 11 => .agg #[.int .i64 (x0.tmod 10000000), .int .i64 (y0.tmod 10000000)]
  | _ => undef
def kpf7_0F (w : World) (x y t : Int) (x0 y0 x1 y1 x2 y2 : Int) (W0 : World) (w1 : World) (W1 : World) (wfkpf3 : World) (tvkpf3 : Nat → Value) (mx my : Int) (Wm : World) (j : Nat) (v : Value) : Prop := v = kpf7_0V w x y t x0 y0 x1 y1 x2 y2 W0 w1 W1 wfkpf3 tvkpf3 mx my Wm j
def kpf8_0V (w : World) (x y t : Int) (x0 y0 x1 y1 x2 y2 : Int) (W0 : World) (w1 : World) (W1 : World) (wfkpf3 : World) (tvkpf3 : Nat → Value) (mx my : Int) (Wm : World) (wfkpf7_0 : World) (tvkpf7_0 : Nat → Value) (p0 q0 : Int) (Wl0 : World) : Nat → Value
  | 0 => .int .i64 0
  | 1 => .agg #[.int .i64 mx, .int .i64 my, .int .i64 t, .bool false]
  | 2 => .int .i64 0
  | 3 => .pointer (some ⟨w.heap.size + 1, 0, none⟩)
  | 4 => .agg #[.int .i64 p0, .int .i64 q0]
  | 5 => .agg #[.int .i64 (apX mx t false p0 q0), .int .i64 (apY my t false p0 q0)]
  | _ => undef
def kpf8_0F (w : World) (x y t : Int) (x0 y0 x1 y1 x2 y2 : Int) (W0 : World) (w1 : World) (W1 : World) (wfkpf3 : World) (tvkpf3 : Nat → Value) (mx my : Int) (Wm : World) (wfkpf7_0 : World) (tvkpf7_0 : Nat → Value) (p0 q0 : Int) (Wl0 : World) (j : Nat) (v : Value) : Prop := v = kpf8_0V w x y t x0 y0 x1 y1 x2 y2 W0 w1 W1 wfkpf3 tvkpf3 mx my Wm wfkpf7_0 tvkpf7_0 p0 q0 Wl0 j
def kpf7_1V (w : World) (x y t : Int) (x0 y0 x1 y1 x2 y2 : Int) (W0 : World) (w1 : World) (W1 : World) (wfkpf3 : World) (tvkpf3 : Nat → Value) (mx my : Int) (Wm : World) (wfkpf7_0 : World) (tvkpf7_0 : Nat → Value) (p0 q0 : Int) (Wl0 : World) (wfkpf8_0 : World) (tvkpf8_0 : Nat → Value) (s0 u0 : Int) (Wv0 : World) : Nat → Value
  | 0 => .int .i64 1
  | 1 => .int .i64 1
  | 2 => .pointer (some ⟨w.heap.size + 1, 2, none⟩)
  | 3 => .pointer (some ⟨w.heap.size + 1, 2, none⟩)
  | 4 => .int .i64 x1
  | 5 => .int .i64 (x1.tmod 10000000)
  | 6 => .int .i64 1
  | 7 => .pointer (some ⟨w.heap.size + 1, 2, none⟩)
  | 8 => .pointer (some ⟨w.heap.size + 1, 3, none⟩)
  | 9 => .int .i64 y1
  | 10 => .int .i64 (y1.tmod 10000000)
  | 11 => .agg #[.int .i64 (x1.tmod 10000000), .int .i64 (y1.tmod 10000000)]
  | _ => undef
def kpf7_1F (w : World) (x y t : Int) (x0 y0 x1 y1 x2 y2 : Int) (W0 : World) (w1 : World) (W1 : World) (wfkpf3 : World) (tvkpf3 : Nat → Value) (mx my : Int) (Wm : World) (wfkpf7_0 : World) (tvkpf7_0 : Nat → Value) (p0 q0 : Int) (Wl0 : World) (wfkpf8_0 : World) (tvkpf8_0 : Nat → Value) (s0 u0 : Int) (Wv0 : World) (j : Nat) (v : Value) : Prop := v = kpf7_1V w x y t x0 y0 x1 y1 x2 y2 W0 w1 W1 wfkpf3 tvkpf3 mx my Wm wfkpf7_0 tvkpf7_0 p0 q0 Wl0 wfkpf8_0 tvkpf8_0 s0 u0 Wv0 j
def kpf8_1V (w : World) (x y t : Int) (x0 y0 x1 y1 x2 y2 : Int) (W0 : World) (w1 : World) (W1 : World) (wfkpf3 : World) (tvkpf3 : Nat → Value) (mx my : Int) (Wm : World) (wfkpf7_0 : World) (tvkpf7_0 : Nat → Value) (p0 q0 : Int) (Wl0 : World) (wfkpf8_0 : World) (tvkpf8_0 : Nat → Value) (s0 u0 : Int) (Wv0 : World) (wfkpf7_1 : World) (tvkpf7_1 : Nat → Value) (p1 q1 : Int) (Wl1 : World) : Nat → Value
  | 0 => .int .i64 1
  | 1 => .agg #[.int .i64 mx, .int .i64 my, .int .i64 t, .bool false]
  | 2 => .int .i64 1
  | 3 => .pointer (some ⟨w.heap.size + 1, 2, none⟩)
  | 4 => .agg #[.int .i64 p1, .int .i64 q1]
  | 5 => .agg #[.int .i64 (apX mx t false p1 q1), .int .i64 (apY my t false p1 q1)]
  | _ => undef
def kpf8_1F (w : World) (x y t : Int) (x0 y0 x1 y1 x2 y2 : Int) (W0 : World) (w1 : World) (W1 : World) (wfkpf3 : World) (tvkpf3 : Nat → Value) (mx my : Int) (Wm : World) (wfkpf7_0 : World) (tvkpf7_0 : Nat → Value) (p0 q0 : Int) (Wl0 : World) (wfkpf8_0 : World) (tvkpf8_0 : Nat → Value) (s0 u0 : Int) (Wv0 : World) (wfkpf7_1 : World) (tvkpf7_1 : Nat → Value) (p1 q1 : Int) (Wl1 : World) (j : Nat) (v : Value) : Prop := v = kpf8_1V w x y t x0 y0 x1 y1 x2 y2 W0 w1 W1 wfkpf3 tvkpf3 mx my Wm wfkpf7_0 tvkpf7_0 p0 q0 Wl0 wfkpf8_0 tvkpf8_0 s0 u0 Wv0 wfkpf7_1 tvkpf7_1 p1 q1 Wl1 j
def kpf7_2V (w : World) (x y t : Int) (x0 y0 x1 y1 x2 y2 : Int) (W0 : World) (w1 : World) (W1 : World) (wfkpf3 : World) (tvkpf3 : Nat → Value) (mx my : Int) (Wm : World) (wfkpf7_0 : World) (tvkpf7_0 : Nat → Value) (p0 q0 : Int) (Wl0 : World) (wfkpf8_0 : World) (tvkpf8_0 : Nat → Value) (s0 u0 : Int) (Wv0 : World) (wfkpf7_1 : World) (tvkpf7_1 : Nat → Value) (p1 q1 : Int) (Wl1 : World) (wfkpf8_1 : World) (tvkpf8_1 : Nat → Value) (s1 u1 : Int) (Wv1 : World) : Nat → Value
  | 0 => .int .i64 2
  | 1 => .int .i64 2
  | 2 => .pointer (some ⟨w.heap.size + 1, 4, none⟩)
  | 3 => .pointer (some ⟨w.heap.size + 1, 4, none⟩)
  | 4 => .int .i64 x2
  | 5 => .int .i64 (x2.tmod 10000000)
  | 6 => .int .i64 2
  | 7 => .pointer (some ⟨w.heap.size + 1, 4, none⟩)
  | 8 => .pointer (some ⟨w.heap.size + 1, 5, none⟩)
  | 9 => .int .i64 y2
  | 10 => .int .i64 (y2.tmod 10000000)
  | 11 => .agg #[.int .i64 (x2.tmod 10000000), .int .i64 (y2.tmod 10000000)]
  | _ => undef
def kpf7_2F (w : World) (x y t : Int) (x0 y0 x1 y1 x2 y2 : Int) (W0 : World) (w1 : World) (W1 : World) (wfkpf3 : World) (tvkpf3 : Nat → Value) (mx my : Int) (Wm : World) (wfkpf7_0 : World) (tvkpf7_0 : Nat → Value) (p0 q0 : Int) (Wl0 : World) (wfkpf8_0 : World) (tvkpf8_0 : Nat → Value) (s0 u0 : Int) (Wv0 : World) (wfkpf7_1 : World) (tvkpf7_1 : Nat → Value) (p1 q1 : Int) (Wl1 : World) (wfkpf8_1 : World) (tvkpf8_1 : Nat → Value) (s1 u1 : Int) (Wv1 : World) (j : Nat) (v : Value) : Prop := v = kpf7_2V w x y t x0 y0 x1 y1 x2 y2 W0 w1 W1 wfkpf3 tvkpf3 mx my Wm wfkpf7_0 tvkpf7_0 p0 q0 Wl0 wfkpf8_0 tvkpf8_0 s0 u0 Wv0 wfkpf7_1 tvkpf7_1 p1 q1 Wl1 wfkpf8_1 tvkpf8_1 s1 u1 Wv1 j
def kpf8_2V (w : World) (x y t : Int) (x0 y0 x1 y1 x2 y2 : Int) (W0 : World) (w1 : World) (W1 : World) (wfkpf3 : World) (tvkpf3 : Nat → Value) (mx my : Int) (Wm : World) (wfkpf7_0 : World) (tvkpf7_0 : Nat → Value) (p0 q0 : Int) (Wl0 : World) (wfkpf8_0 : World) (tvkpf8_0 : Nat → Value) (s0 u0 : Int) (Wv0 : World) (wfkpf7_1 : World) (tvkpf7_1 : Nat → Value) (p1 q1 : Int) (Wl1 : World) (wfkpf8_1 : World) (tvkpf8_1 : Nat → Value) (s1 u1 : Int) (Wv1 : World) (wfkpf7_2 : World) (tvkpf7_2 : Nat → Value) (p2 q2 : Int) (Wl2 : World) : Nat → Value
  | 0 => .int .i64 2
  | 1 => .agg #[.int .i64 mx, .int .i64 my, .int .i64 t, .bool false]
  | 2 => .int .i64 2
  | 3 => .pointer (some ⟨w.heap.size + 1, 4, none⟩)
  | 4 => .agg #[.int .i64 p2, .int .i64 q2]
  | 5 => .agg #[.int .i64 (apX mx t false p2 q2), .int .i64 (apY my t false p2 q2)]
  | _ => undef
def kpf8_2F (w : World) (x y t : Int) (x0 y0 x1 y1 x2 y2 : Int) (W0 : World) (w1 : World) (W1 : World) (wfkpf3 : World) (tvkpf3 : Nat → Value) (mx my : Int) (Wm : World) (wfkpf7_0 : World) (tvkpf7_0 : Nat → Value) (p0 q0 : Int) (Wl0 : World) (wfkpf8_0 : World) (tvkpf8_0 : Nat → Value) (s0 u0 : Int) (Wv0 : World) (wfkpf7_1 : World) (tvkpf7_1 : Nat → Value) (p1 q1 : Int) (Wl1 : World) (wfkpf8_1 : World) (tvkpf8_1 : Nat → Value) (s1 u1 : Int) (Wv1 : World) (wfkpf7_2 : World) (tvkpf7_2 : Nat → Value) (p2 q2 : Int) (Wl2 : World) (j : Nat) (v : Value) : Prop := v = kpf8_2V w x y t x0 y0 x1 y1 x2 y2 W0 w1 W1 wfkpf3 tvkpf3 mx my Wm wfkpf7_0 tvkpf7_0 p0 q0 Wl0 wfkpf8_0 tvkpf8_0 s0 u0 Wv0 wfkpf7_1 tvkpf7_1 p1 q1 Wl1 wfkpf8_1 tvkpf8_1 s1 u1 Wv1 wfkpf7_2 tvkpf7_2 p2 q2 Wl2 j
def kpf9V (w : World) (x y t : Int) (x0 y0 x1 y1 x2 y2 : Int) (W0 : World) (w1 : World) (W1 : World) (wfkpf3 : World) (tvkpf3 : Nat → Value) (mx my : Int) (Wm : World) (wfkpf7_0 : World) (tvkpf7_0 : Nat → Value) (p0 q0 : Int) (Wl0 : World) (wfkpf8_0 : World) (tvkpf8_0 : Nat → Value) (s0 u0 : Int) (Wv0 : World) (wfkpf7_1 : World) (tvkpf7_1 : Nat → Value) (p1 q1 : Int) (Wl1 : World) (wfkpf8_1 : World) (tvkpf8_1 : Nat → Value) (s1 u1 : Int) (Wv1 : World) (wfkpf7_2 : World) (tvkpf7_2 : Nat → Value) (p2 q2 : Int) (Wl2 : World) (wfkpf8_2 : World) (tvkpf8_2 : Nat → Value) (s2 u2 : Int) (Wv2 : World) : Nat → Value
  | 0 => .pointer (some ⟨w.heap.size + 1, 2, none⟩)
  | 1 => .agg #[.int .i64 p1, .int .i64 q1]
  | 2 => .pointer (some ⟨w.heap.size + 1, 0, none⟩)
  | 3 => .agg #[.int .i64 p0, .int .i64 q0]
  | 4 => .agg #[.int .i64 (wrap64 (p1 - p0)), .int .i64 (wrap64 (q1 - q0))]
  | 5 => .pointer (some ⟨w.heap.size + 1, 4, none⟩)
  | 6 => .agg #[.int .i64 p2, .int .i64 q2]
  | 7 => .pointer (some ⟨w.heap.size + 1, 0, none⟩)
  | 8 => .agg #[.int .i64 p0, .int .i64 q0]
  | 9 => .agg #[.int .i64 (wrap64 (p2 - p0)), .int .i64 (wrap64 (q2 - q0))]
  | _ => undef
def kpf9F (w : World) (x y t : Int) (x0 y0 x1 y1 x2 y2 : Int) (W0 : World) (w1 : World) (W1 : World) (wfkpf3 : World) (tvkpf3 : Nat → Value) (mx my : Int) (Wm : World) (wfkpf7_0 : World) (tvkpf7_0 : Nat → Value) (p0 q0 : Int) (Wl0 : World) (wfkpf8_0 : World) (tvkpf8_0 : Nat → Value) (s0 u0 : Int) (Wv0 : World) (wfkpf7_1 : World) (tvkpf7_1 : Nat → Value) (p1 q1 : Int) (Wl1 : World) (wfkpf8_1 : World) (tvkpf8_1 : Nat → Value) (s1 u1 : Int) (Wv1 : World) (wfkpf7_2 : World) (tvkpf7_2 : Nat → Value) (p2 q2 : Int) (Wl2 : World) (wfkpf8_2 : World) (tvkpf8_2 : Nat → Value) (s2 u2 : Int) (Wv2 : World) : Nat → Value → Prop
  | 10, _ => True
  | 11, _ => True
  | 12, _ => True
  | 13, _ => True
  | j, v => v = kpf9V w x y t x0 y0 x1 y1 x2 y2 W0 w1 W1 wfkpf3 tvkpf3 mx my Wm wfkpf7_0 tvkpf7_0 p0 q0 Wl0 wfkpf8_0 tvkpf8_0 s0 u0 Wv0 wfkpf7_1 tvkpf7_1 p1 q1 Wl1 wfkpf8_1 tvkpf8_1 s1 u1 Wv1 wfkpf7_2 tvkpf7_2 p2 q2 Wl2 wfkpf8_2 tvkpf8_2 s2 u2 Wv2 j
def kpf10V (w : World) (x y t : Int) (x0 y0 x1 y1 x2 y2 : Int) (W0 : World) (w1 : World) (W1 : World) (wfkpf3 : World) (tvkpf3 : Nat → Value) (mx my : Int) (Wm : World) (wfkpf7_0 : World) (tvkpf7_0 : Nat → Value) (p0 q0 : Int) (Wl0 : World) (wfkpf8_0 : World) (tvkpf8_0 : Nat → Value) (s0 u0 : Int) (Wv0 : World) (wfkpf7_1 : World) (tvkpf7_1 : Nat → Value) (p1 q1 : Int) (Wl1 : World) (wfkpf8_1 : World) (tvkpf8_1 : Nat → Value) (s1 u1 : Int) (Wv1 : World) (wfkpf7_2 : World) (tvkpf7_2 : Nat → Value) (p2 q2 : Int) (Wl2 : World) (wfkpf8_2 : World) (tvkpf8_2 : Nat → Value) (s2 u2 : Int) (Wv2 : World) (wfkpf9 : World) (ga gb : Nat) (tvk9 : Nat → Value) : Nat → Value
  | 0 => .pointer (some ⟨w1.heap.size, 2, none⟩)
  | 1 => .agg #[.int .i64 s1, .int .i64 u1]
  | 2 => .pointer (some ⟨w1.heap.size, 0, none⟩)
  | 3 => .agg #[.int .i64 s0, .int .i64 u0]
  | 4 => .agg #[.int .i64 (wrap64 (s1 - s0)), .int .i64 (wrap64 (u1 - u0))]
  | 5 => .pointer (some ⟨w1.heap.size, 4, none⟩)
  | 6 => .agg #[.int .i64 s2, .int .i64 u2]
  | 7 => .pointer (some ⟨w1.heap.size, 0, none⟩)
  | 8 => .agg #[.int .i64 s0, .int .i64 u0]
  | 9 => .agg #[.int .i64 (wrap64 (s2 - s0)), .int .i64 (wrap64 (u2 - u0))]
  | _ => undef
def kpf10F (w : World) (x y t : Int) (x0 y0 x1 y1 x2 y2 : Int) (W0 : World) (w1 : World) (W1 : World) (wfkpf3 : World) (tvkpf3 : Nat → Value) (mx my : Int) (Wm : World) (wfkpf7_0 : World) (tvkpf7_0 : Nat → Value) (p0 q0 : Int) (Wl0 : World) (wfkpf8_0 : World) (tvkpf8_0 : Nat → Value) (s0 u0 : Int) (Wv0 : World) (wfkpf7_1 : World) (tvkpf7_1 : Nat → Value) (p1 q1 : Int) (Wl1 : World) (wfkpf8_1 : World) (tvkpf8_1 : Nat → Value) (s1 u1 : Int) (Wv1 : World) (wfkpf7_2 : World) (tvkpf7_2 : Nat → Value) (p2 q2 : Int) (Wl2 : World) (wfkpf8_2 : World) (tvkpf8_2 : Nat → Value) (s2 u2 : Int) (Wv2 : World) (wfkpf9 : World) (ga gb : Nat) (tvk9 : Nat → Value) : Nat → Value → Prop
  | 10, _ => True
  | 11, _ => True
  | 12, _ => True
  | 13, _ => True
  | j, v => v = kpf10V w x y t x0 y0 x1 y1 x2 y2 W0 w1 W1 wfkpf3 tvkpf3 mx my Wm wfkpf7_0 tvkpf7_0 p0 q0 Wl0 wfkpf8_0 tvkpf8_0 s0 u0 Wv0 wfkpf7_1 tvkpf7_1 p1 q1 Wl1 wfkpf8_1 tvkpf8_1 s1 u1 Wv1 wfkpf7_2 tvkpf7_2 p2 q2 Wl2 wfkpf8_2 tvkpf8_2 s2 u2 Wv2 wfkpf9 ga gb tvk9 j
def kpf14V (w : World) (x y t : Int) (x0 y0 x1 y1 x2 y2 : Int) (W0 : World) (w1 : World) (W1 : World) (wfkpf3 : World) (tvkpf3 : Nat → Value) (mx my : Int) (Wm : World) (wfkpf7_0 : World) (tvkpf7_0 : Nat → Value) (p0 q0 : Int) (Wl0 : World) (wfkpf8_0 : World) (tvkpf8_0 : Nat → Value) (s0 u0 : Int) (Wv0 : World) (wfkpf7_1 : World) (tvkpf7_1 : Nat → Value) (p1 q1 : Int) (Wl1 : World) (wfkpf8_1 : World) (tvkpf8_1 : Nat → Value) (s1 u1 : Int) (Wv1 : World) (wfkpf7_2 : World) (tvkpf7_2 : Nat → Value) (p2 q2 : Int) (Wl2 : World) (wfkpf8_2 : World) (tvkpf8_2 : Nat → Value) (s2 u2 : Int) (Wv2 : World) (wfkpf9 : World) (ga gb : Nat) (tvk9 : Nat → Value) (wfkpf10 : World) (gc gd : Nat) (tvk10 : Nat → Value) : Nat → Value
  | 0 => .bool true
  | 1 => .bool true
  | 2 => .agg #[.int .i64 (wrap64 (p1 - p0)), .int .i64 (wrap64 (q1 - q0))]
  | 3 => .agg #[.int .i64 (wrap64 (p2 - p0)), .int .i64 (wrap64 (q2 - q0))]
  | 4 => .int .i64 (dotZ (wrap64 (p1 - p0)) (wrap64 (q1 - q0)) (wrap64 (p2 - p0)) (wrap64 (q2 - q0)))
  | 5 => .agg #[.int .i64 (wrap64 (s1 - s0)), .int .i64 (wrap64 (u1 - u0))]
  | 6 => .agg #[.int .i64 (wrap64 (s2 - s0)), .int .i64 (wrap64 (u2 - u0))]
  | 7 => .int .i64 (dotZ (wrap64 (s1 - s0)) (wrap64 (u1 - u0)) (wrap64 (s2 - s0)) (wrap64 (u2 - u0)))
  | 8 => .bool true
  | 9 => .bool true
  | 10 => .bool true
  | 11 => .agg #[.int .i64 (wrap64 (p1 - p0)), .int .i64 (wrap64 (q1 - q0))]
  | 12 => .agg #[.int .i64 (wrap64 (p2 - p0)), .int .i64 (wrap64 (q2 - q0))]
  | 13 => .int .i64 (crossZ (wrap64 (p1 - p0)) (wrap64 (q1 - q0)) (wrap64 (p2 - p0)) (wrap64 (q2 - q0)))
  | 14 => .int .i64 1
  | 15 => .agg #[.int .i64 (wrap64 (s1 - s0)), .int .i64 (wrap64 (u1 - u0))]
  | 16 => .agg #[.int .i64 (wrap64 (s2 - s0)), .int .i64 (wrap64 (u2 - u0))]
  | 17 => .int .i64 (crossZ (wrap64 (s1 - s0)) (wrap64 (u1 - u0)) (wrap64 (s2 - s0)) (wrap64 (u2 - u0)))
  | 18 => .int .i64 (wrap64 (1 * (crossZ (wrap64 (s1 - s0)) (wrap64 (u1 - u0)) (wrap64 (s2 - s0)) (wrap64 (u2 - u0)))))
  | 19 => .bool true
  | 20 => .bool true
  | 21 => .bool true
  | 22 => .pointer (some ⟨w.heap.size + 1, 0, none⟩)
  | 23 => .agg #[.int .i64 p0, .int .i64 q0]
  | 24 => .pointer (some ⟨w.heap.size + 1, 2, none⟩)
  | 25 => .agg #[.int .i64 p1, .int .i64 q1]
  | 26 => .pointer (some ⟨w.heap.size + 1, 4, none⟩)
  | 27 => .agg #[.int .i64 p2, .int .i64 q2]
  | 28 => .int .i64 (sideZ p0 q0 p1 q1 p2 q2)
  | 29 => .int .i64 1
  | 30 => .pointer (some ⟨w1.heap.size, 0, none⟩)
  | 31 => .agg #[.int .i64 s0, .int .i64 u0]
  | 32 => .pointer (some ⟨w1.heap.size, 2, none⟩)
  | 33 => .agg #[.int .i64 s1, .int .i64 u1]
  | 34 => .pointer (some ⟨w1.heap.size, 4, none⟩)
  | 35 => .agg #[.int .i64 s2, .int .i64 u2]
  | 36 => .int .i64 (sideZ s0 u0 s1 u1 s2 u2)
  | 37 => .int .i64 (wrap64 (1 * (sideZ s0 u0 s1 u1 s2 u2)))
  | 38 => .bool true
  | 39 => .bool true
  | _ => undef
def kpf14F (w : World) (x y t : Int) (x0 y0 x1 y1 x2 y2 : Int) (W0 : World) (w1 : World) (W1 : World) (wfkpf3 : World) (tvkpf3 : Nat → Value) (mx my : Int) (Wm : World) (wfkpf7_0 : World) (tvkpf7_0 : Nat → Value) (p0 q0 : Int) (Wl0 : World) (wfkpf8_0 : World) (tvkpf8_0 : Nat → Value) (s0 u0 : Int) (Wv0 : World) (wfkpf7_1 : World) (tvkpf7_1 : Nat → Value) (p1 q1 : Int) (Wl1 : World) (wfkpf8_1 : World) (tvkpf8_1 : Nat → Value) (s1 u1 : Int) (Wv1 : World) (wfkpf7_2 : World) (tvkpf7_2 : Nat → Value) (p2 q2 : Int) (Wl2 : World) (wfkpf8_2 : World) (tvkpf8_2 : Nat → Value) (s2 u2 : Int) (Wv2 : World) (wfkpf9 : World) (ga gb : Nat) (tvk9 : Nat → Value) (wfkpf10 : World) (gc gd : Nat) (tvk10 : Nat → Value) (j : Nat) (v : Value) : Prop := v = kpf14V w x y t x0 y0 x1 y1 x2 y2 W0 w1 W1 wfkpf3 tvkpf3 mx my Wm wfkpf7_0 tvkpf7_0 p0 q0 Wl0 wfkpf8_0 tvkpf8_0 s0 u0 Wv0 wfkpf7_1 tvkpf7_1 p1 q1 Wl1 wfkpf8_1 tvkpf8_1 s1 u1 Wv1 wfkpf7_2 tvkpf7_2 p2 q2 Wl2 wfkpf8_2 tvkpf8_2 s2 u2 Wv2 wfkpf9 ga gb tvk9 wfkpf10 gc gd tvk10 j
set_option maxRecDepth 100000 in
set_option maxHeartbeats 4000000 in
theorem vecKeeps_f (x y t : Int) (x0 y0 x1 y1 x2 y2 : Int) (w : World) : Calls Try.prog 6 #[.agg #[.int .i64 x, .int .i64 y, .int .i64 t, .bool false], .agg #[.int .i64 x0, .int .i64 y0, .int .i64 x1, .int .i64 y1, .int .i64 x2, .int .i64 y2]] w fun e w' => e = .returned (.bool true) ∧ Ext w w' := by
  have E0 := Lib.hid (Ext.refl w)
  go_enter Try.func6, Try.ntmps6
  go_wp2_with fail
  obtain ⟨W0, hW0⟩ : ∃ W0, W0 = ((w.alloc (.cells #[.int .i64 x, .int .i64 y, .int .i64 t, .bool false] 34)).alloc (.cells #[.int .i64 x0, .int .i64 y0, .int .i64 x1, .int .i64 y1, .int .i64 x2, .int .i64 y2] 24)) := ⟨_, rfl⟩
  have hx : Ext w W0 := by rw [hW0]; exact (Ext.alloc _ _).trans (Ext.alloc _ _)
  have M_0 := Lib.hid (show RowAt W0 (w.heap.size) 34 #[.int .i64 x, .int .i64 y, .int .i64 t, .bool false] from by rw [hW0]; exact ((RowAt.new' _ _ (by simp)).alloc _))
  have L_0 := Lib.hid (show RowAt W0 (w.heap.size + 1) 24 #[.int .i64 x0, .int .i64 y0, .int .i64 x1, .int .i64 y1, .int .i64 x2, .int .i64 y2] from by rw [hW0]; exact (RowAt.new' _ _ (by simp)))
  have SZW0 := Lib.hid (show W0.heap.size = w.heap.size + 1 + 1 from by rw [hW0]; simp)
  have E1 := Lib.hid (E0.out.trans hx)
  clear E0
  clear hx
  rw [← hW0]
  clear hW0
  refine (sanity_c _).mono ?_; rintro e w1 ⟨rfl, hx⟩
  have E2 := Lib.hid (E1.out.trans hx)
  have M_2 := Lib.hid (hx.row M_0.out)
  have L_2 := Lib.hid (hx.row L_0.out)
  clear E1 M_0 L_0
  clear hx
  have NE := Lib.hid (show w.heap.size + 1 < w1.heap.size from L_2.out.lt)
  go_upto_region 3 with (fail)
  obtain ⟨W1, hW1⟩ : ∃ W1, W1 = (w1.alloc (.cells #[.int .i64 0, .int .i64 0, .int .i64 0, .int .i64 0, .int .i64 0, .int .i64 0] 24)) := ⟨_, rfl⟩
  have hx : Ext w1 W1 := by rw [hW1]; exact Ext.alloc _ _
  have V_0 := Lib.hid (show RowAt W1 (w1.heap.size) 24 #[.int .i64 0, .int .i64 0, .int .i64 0, .int .i64 0, .int .i64 0, .int .i64 0] from by rw [hW1]; exact (RowAt.new' _ _ (by simp)))
  have SZW1 := Lib.hid (show W1.heap.size = w1.heap.size + 1 from by rw [hW1]; simp)
  have E3 := Lib.hid (E2.out.trans hx)
  have M_3 := Lib.hid (hx.row M_2.out)
  have L_3 := Lib.hid (hx.row L_2.out)
  clear E2 M_2 L_2
  clear hx
  rw [← hW1]
  clear hW1
  refine wp_region_seq (fun D ac w' => ∃ vs : Nat → Value, ac = { tmps := #[Value.agg #[Value.int IntKind.i64 x, Value.int IntKind.i64 y, Value.int IntKind.i64 t, Value.bool false], Value.agg #[Value.int IntKind.i64 x0, Value.int IntKind.i64 y0, Value.int IntKind.i64 x1, Value.int IntKind.i64 y1, Value.int IntKind.i64 x2, Value.int IntKind.i64 y2], Value.pointer (some { block := w.heap.size, off := 0 }), Value.pointer (some { block := w.heap.size + 1, off := 0 }), Value.bool false, Value.bool true, Value.pointer (some { block := w1.heap.size, off := 0 }), undef, undef, undef, undef, undef, undef, Value.bool true, vs 0, vs 1, vs 2, vs 3, vs 4, vs 5, vs 6, vs 7, vs 8, undef, undef, undef, undef, undef, undef, undef, undef, undef, undef, undef, undef, undef, undef, undef, undef, undef, undef, undef, undef, undef, undef, undef, undef, undef, undef, undef, undef, undef, undef, undef, undef, undef, undef, undef, undef, undef, undef, undef, undef, undef, undef, undef, undef, undef, undef, undef, undef, undef, undef, undef, undef, undef, undef, undef, undef, undef, undef, undef, undef, undef, undef, undef, undef, undef, undef, undef, undef, undef, undef, undef, undef, undef, undef, undef, undef, undef, undef, undef, undef, undef, undef, undef, undef, undef, undef, undef], defers := [] } ∧ Ext W1 w' ∧ ∀ j, D j → kpf3F w x y t x0 y0 x1 y1 x2 y2 W0 w1 W1 j (vs j)) 9 (by kernel_rfl) (by kernel_rfl) ?startkpf3 ?stepkpf3 ?finkpf3
  case startkpf3 => exact ⟨fun _ => undef, rfl, Ext.refl _, fun _ h => h.elim⟩
  case stepkpf3 =>
    rintro i o D ac wz hin hio hnd he ⟨vs, rfl, k0, hF⟩
    rcases i with _ | _ | _ | _ | _ | _ | _ | _ | _ | i
    rotate_left 9
    · exact absurd hin (by omega)
    all_goals (obtain rfl := Option.some.inj (hio.symm.trans (by rfl)))
    · refine step_yes (wanted_of_none rfl _) ?_
      exact wp_of_run (run_fld_mo0 (.tmp 2) rfl _ _ rfl) ⟨upd vs 0 _, rfl, k0, inv_same hF rfl⟩
    · refine step_yes (wanted_of_none rfl _) ?_
      exact wp_of_run (run_fld_pt0 (.tmp 14) rfl _ _ (by exact (hF 0 (he ⟨0, .data⟩ (by simp) rfl)))) ⟨upd vs 1 _, rfl, k0, inv_same hF rfl⟩
    · refine step_yes (wanted_of_none rfl _) ?_
      exact wp_of_run (run_ldi (.tmp 15) rfl _ _ (by exact (hF 1 (he ⟨1, .data⟩ (by simp) rfl))) _ ((k0.row M_3.out).cell 0)) ⟨upd vs 2 _, rfl, k0, inv_same hF rfl⟩
    · refine step_yes (wanted_of_none rfl _) ?_
      exact wp_of_run (run_remi (.tmp 16) (.const (.int .i64 10000000)) rfl rfl _ 10000000 (by decide) (by decide) (by exact (hF 2 (he ⟨2, .data⟩ (by simp) rfl))) rfl) ⟨upd vs 3 _, rfl, k0, inv_same hF rfl⟩
    · refine step_yes (wanted_of_none rfl _) ?_
      exact wp_of_run (run_fld_mo0 (.tmp 2) rfl _ _ rfl) ⟨upd vs 4 _, rfl, k0, inv_same hF rfl⟩
    · refine step_yes (wanted_of_none rfl _) ?_
      exact wp_of_run (run_fld_pt1 (.tmp 18) rfl _ _ (by exact (hF 4 (he ⟨4, .data⟩ (by simp) rfl)))) ⟨upd vs 5 _, rfl, k0, inv_same hF rfl⟩
    · refine step_yes (wanted_of_none rfl _) ?_
      exact wp_of_run (run_ldi (.tmp 19) rfl _ _ (by exact (hF 5 (he ⟨5, .data⟩ (by simp) rfl))) _ ((k0.row M_3.out).cell 1)) ⟨upd vs 6 _, rfl, k0, inv_same hF rfl⟩
    · refine step_yes (wanted_of_none rfl _) ?_
      exact wp_of_run (run_remi (.tmp 20) (.const (.int .i64 10000000)) rfl rfl _ 10000000 (by decide) (by decide) (by exact (hF 6 (he ⟨6, .data⟩ (by simp) rfl))) rfl) ⟨upd vs 7 _, rfl, k0, inv_same hF rfl⟩
    · refine step_yes (wanted_of_none rfl _) ?_
      refine wp_of_callE (run_enter2 23 (.tmp 17) (.tmp 21) _ rfl _ _ (by exact (hF 3 (he ⟨3, .data⟩ (by simp) rfl))) (by exact (hF 7 (he ⟨7, .data⟩ (by simp) rfl))) (fun args w => enters_of Try.func23 (by kernel_rfl) rfl args w)) (lat (x.tmod 10000000) (y.tmod 10000000) wz) ?_
      rintro e w' ⟨rfl, hx⟩
      exact ⟨_, rfl, upd vs 8 _, rfl, k0.trans hx, inv_same hF rfl⟩
  case finkpf3 =>
    rintro D ac wfkpf3 hD ⟨vs, rfl, k0, hF⟩
    change wpList _ _ _ [_, _] _ _
    have hl8 : vs 8 = .agg #[.int .i64 (x.tmod 10000000), .int .i64 (y.tmod 10000000)] := hF 8 (hD 8 (by decide))
    rw [hl8]
    clear hl8
    clear hF hD
    generalize vs = tvkpf3
    have E4 := Lib.hid (E3.out.trans k0)
    have M_4 := Lib.hid (k0.row M_3.out)
    have L_4 := Lib.hid (k0.row L_3.out)
    have V_4 := Lib.hid (k0.row V_0.out)
    clear E3 M_3 L_3 V_0
    clear k0
    obtain ⟨mx, hmx⟩ : ∃ z : Int, z = x.tmod 10000000 := ⟨_, rfl⟩
    obtain ⟨my, hmy⟩ : ∃ z : Int, z = y.tmod 10000000 := ⟨_, rfl⟩
    rw [← hmx, ← hmy]
    have Bmx := Lib.hid (show b7 mx from by rw [hmx]; exact tmod7 _)
    have Bmy := Lib.hid (show b7 my from by rw [hmy]; exact tmod7 _)
    clear hmx hmy
    obtain ⟨Wm, hWm⟩ : ∃ Wm, Wm = wfkpf3.setRow (w.heap.size) (#[.int .i64 mx, .int .i64 my, .int .i64 t, .bool false]) := ⟨_, rfl⟩
    have M_Wm := Lib.hid (show RowAt Wm (w.heap.size) 34 (#[.int .i64 mx, .int .i64 my, .int .i64 t, .bool false]) from by rw [hWm]; exact M_4.out.setRow _)
    have L_Wm := Lib.hid (show RowAt Wm (w.heap.size + 1) _ _ from by rw [hWm]; exact L_4.out.setRowOther _ (by have := NE.out; omega))
    have V_Wm := Lib.hid (show RowAt Wm (w1.heap.size) _ _ from by rw [hWm]; exact V_4.out.setRowOther _ (by have := NE.out; omega))
    have EWm := Lib.hid (show Ext w Wm from by rw [hWm]; exact ext_setRow E4.out (by have := NE.out; omega) _)
    have HWm := Lib.hid hWm
    clear hWm
    go_wp2_with (refine store_pt_at rfl (.tmp 23) (.tmp 22) rfl (w.heap.size) 0 rfl _ _ rfl _ _ _ _ (#[.int .i64 mx, .int .i64 my, .int .i64 t, .bool false]) M_4.out rfl rfl rfl ?_; rw [← HWm.out])
    refine wp_loop_rounds 4 ?_
    rw [rounds_succ]
    go_wp2_with fail
    refine wp_region_tail (fun D ac w' => ∃ vs : Nat → Value, ac = { tmps := #[Value.agg #[Value.int IntKind.i64 x, Value.int IntKind.i64 y, Value.int IntKind.i64 t, Value.bool false], Value.agg #[Value.int IntKind.i64 x0, Value.int IntKind.i64 y0, Value.int IntKind.i64 x1, Value.int IntKind.i64 y1, Value.int IntKind.i64 x2, Value.int IntKind.i64 y2], Value.pointer (some { block := w.heap.size, off := 0 }), Value.pointer (some { block := w.heap.size + 1, off := 0 }), Value.bool false, Value.bool true, Value.pointer (some { block := w1.heap.size, off := 0 }), Value.int IntKind.i64 0, undef, undef, undef, undef, undef, Value.bool true, tvkpf3 0, tvkpf3 1, tvkpf3 2, tvkpf3 3, tvkpf3 4, tvkpf3 5, tvkpf3 6, tvkpf3 7, Value.agg #[Value.int IntKind.i64 mx, Value.int IntKind.i64 my], Value.pointer (some { block := w.heap.size, off := 0 }), Value.int IntKind.i64 0, Value.bool true, undef, undef, vs 0, vs 1, vs 2, vs 3, vs 4, vs 5, vs 6, vs 7, vs 8, vs 9, vs 10, vs 11, undef, undef, undef, undef, undef, undef, undef, undef, undef, undef, undef, undef, undef, undef, undef, undef, undef, undef, undef, undef, undef, undef, undef, undef, undef, undef, undef, undef, undef, undef, undef, undef, undef, undef, undef, undef, undef, undef, undef, undef, undef, undef, undef, undef, undef, undef, undef, undef, undef, undef, undef, undef, undef, undef, undef, undef, undef, undef, undef, undef, undef, undef, undef, undef, undef, undef, undef, undef, undef, undef], defers := [] } ∧ Ext Wm w' ∧ ∀ j, D j → kpf7_0F w x y t x0 y0 x1 y1 x2 y2 W0 w1 W1 wfkpf3 tvkpf3 mx my Wm j (vs j)) 12 (by kernel_rfl) (by kernel_rfl) (by kernel_rfl) ?startkpf7_0 ?stepkpf7_0 ?finkpf7_0
    case startkpf7_0 => exact ⟨fun _ => undef, rfl, Ext.drew _, fun _ h => h.elim⟩
    case stepkpf7_0 =>
      rintro i o D ac wz hin hio hnd he ⟨vs, rfl, k0, hF⟩
      rcases i with _ | _ | _ | _ | _ | _ | _ | _ | _ | _ | _ | _ | i
      rotate_left 12
      · exact absurd hin (by omega)
      all_goals (obtain rfl := Option.some.inj (hio.symm.trans (by rfl)))
      · refine step_yes (wanted_of_none rfl _) ?_
        exact wp_of_run (run_mov (.tmp 7) rfl _ rfl) ⟨upd vs 0 _, rfl, k0, inv_same hF rfl⟩
      · refine step_yes (wanted_of_none rfl _) ?_
        exact wp_of_run (run_mov (.tmp 7) rfl _ rfl) ⟨upd vs 1 _, rfl, k0, inv_same hF rfl⟩
      · refine step_yes (wanted_of_none rfl _) ?_
        exact wp_of_run (run_ixa3_2 (.tmp 3) (.tmp 29) rfl _ _ rfl 0 (by exact (hF 1 (he ⟨1, .data⟩ (by simp) rfl))) (by decide)) ⟨upd vs 2 _, rfl, k0, inv_same hF rfl⟩
      · refine step_yes (wanted_of_none rfl _) ?_
        exact wp_of_run (run_fld_pt0 (.tmp 30) rfl _ _ (by exact (hF 2 (he ⟨2, .data⟩ (by simp) rfl)))) ⟨upd vs 3 _, rfl, k0, inv_same hF rfl⟩
      · refine step_yes (wanted_of_none rfl _) ?_
        exact wp_of_run (run_ldi (.tmp 31) rfl _ _ (by exact (hF 3 (he ⟨3, .data⟩ (by simp) rfl))) _ ((k0.row L_Wm.out).cell 0)) ⟨upd vs 4 _, rfl, k0, inv_same hF rfl⟩
      · refine step_yes (wanted_of_none rfl _) ?_
        exact wp_of_run (run_remi (.tmp 32) (.const (.int .i64 10000000)) rfl rfl _ 10000000 (by decide) (by decide) (by exact (hF 4 (he ⟨4, .data⟩ (by simp) rfl))) rfl) ⟨upd vs 5 _, rfl, k0, inv_same hF rfl⟩
      · refine step_yes (wanted_of_none rfl _) ?_
        exact wp_of_run (run_mov (.tmp 7) rfl _ rfl) ⟨upd vs 6 _, rfl, k0, inv_same hF rfl⟩
      · refine step_yes (wanted_of_none rfl _) ?_
        exact wp_of_run (run_ixa3_2 (.tmp 3) (.tmp 34) rfl _ _ rfl 0 (by exact (hF 6 (he ⟨6, .data⟩ (by simp) rfl))) (by decide)) ⟨upd vs 7 _, rfl, k0, inv_same hF rfl⟩
      · refine step_yes (wanted_of_none rfl _) ?_
        exact wp_of_run (run_fld_pt1 (.tmp 35) rfl _ _ (by exact (hF 7 (he ⟨7, .data⟩ (by simp) rfl)))) ⟨upd vs 8 _, rfl, k0, inv_same hF rfl⟩
      · refine step_yes (wanted_of_none rfl _) ?_
        exact wp_of_run (run_ldi (.tmp 36) rfl _ _ (by exact (hF 8 (he ⟨8, .data⟩ (by simp) rfl))) _ ((k0.row L_Wm.out).cell 1)) ⟨upd vs 9 _, rfl, k0, inv_same hF rfl⟩
      · refine step_yes (wanted_of_none rfl _) ?_
        exact wp_of_run (run_remi (.tmp 37) (.const (.int .i64 10000000)) rfl rfl _ 10000000 (by decide) (by decide) (by exact (hF 9 (he ⟨9, .data⟩ (by simp) rfl))) rfl) ⟨upd vs 10 _, rfl, k0, inv_same hF rfl⟩
      · refine step_yes (wanted_of_none rfl _) ?_
        refine wp_of_callE (run_enter2 23 (.tmp 33) (.tmp 38) _ rfl _ _ (by exact (hF 5 (he ⟨5, .data⟩ (by simp) rfl))) (by exact (hF 10 (he ⟨10, .data⟩ (by simp) rfl))) (fun args w => enters_of Try.func23 (by kernel_rfl) rfl args w)) (lat (x0.tmod 10000000) (y0.tmod 10000000) wz) ?_
        rintro e w' ⟨rfl, hx⟩
        exact ⟨_, rfl, upd vs 11 _, rfl, k0.trans hx, inv_same hF rfl⟩
    case finkpf7_0 =>
      rintro D ac wfkpf7_0 hD ⟨vs, rfl, k0, hF⟩
      change wpList _ _ _ [_, _] _ _
      have hl0 : vs 0 = .int .i64 0 := hF 0 (hD 0 (by decide))
      rw [hl0]
      clear hl0
      have hl11 : vs 11 = .agg #[.int .i64 (x0.tmod 10000000), .int .i64 (y0.tmod 10000000)] := hF 11 (hD 11 (by decide))
      rw [hl11]
      clear hl11
      clear hF hD
      generalize vs = tvkpf7_0
      have E5 := Lib.hid (EWm.out.trans k0)
      have M_5 := Lib.hid (k0.row M_Wm.out)
      have L_5 := Lib.hid (k0.row L_Wm.out)
      have V_5 := Lib.hid (k0.row V_Wm.out)
      clear EWm M_Wm L_Wm V_Wm
      clear k0
      obtain ⟨p0, hp0⟩ : ∃ z : Int, z = (x0.tmod 10000000) := ⟨_, rfl⟩
      obtain ⟨q0, hq0⟩ : ∃ z : Int, z = (y0.tmod 10000000) := ⟨_, rfl⟩
      rw [← hp0, ← hq0]
      have Bp0 := Lib.hid (show b7 p0 from by rw [hp0]; exact tmod7 _)
      have Bq0 := Lib.hid (show b7 q0 from by rw [hq0]; exact tmod7 _)
      clear hp0 hq0
      obtain ⟨Wl0, hWl0⟩ : ∃ Wl0, Wl0 = wfkpf7_0.setRow (w.heap.size + 1) (#[.int .i64 p0, .int .i64 q0, .int .i64 x1, .int .i64 y1, .int .i64 x2, .int .i64 y2]) := ⟨_, rfl⟩
      have M_Wl0 := Lib.hid (show RowAt Wl0 (w.heap.size) _ _ from by rw [hWl0]; exact M_5.out.setRowOther _ (by have := NE.out; omega))
      have L_Wl0 := Lib.hid (show RowAt Wl0 (w.heap.size + 1) 24 (#[.int .i64 p0, .int .i64 q0, .int .i64 x1, .int .i64 y1, .int .i64 x2, .int .i64 y2]) from by rw [hWl0]; exact L_5.out.setRow _)
      have V_Wl0 := Lib.hid (show RowAt Wl0 (w1.heap.size) _ _ from by rw [hWl0]; exact V_5.out.setRowOther _ (by have := NE.out; omega))
      have EWl0 := Lib.hid (show Ext w Wl0 from by rw [hWl0]; exact ext_setRow E5.out (by have := NE.out; omega) _)
      have HWl0 := Lib.hid hWl0
      clear hWl0
      go_wp2_with (refine store_pt_at rfl (.tmp 40) (.tmp 39) rfl (w.heap.size + 1) 0 rfl _ _ rfl _ _ _ _ (#[.int .i64 p0, .int .i64 q0, .int .i64 x1, .int .i64 y1, .int .i64 x2, .int .i64 y2]) L_5.out rfl rfl rfl ?_; rw [← HWl0.out])
      refine wp_region_tail (fun D ac w' => ∃ vs : Nat → Value, ac = { tmps := #[Value.agg #[Value.int IntKind.i64 x, Value.int IntKind.i64 y, Value.int IntKind.i64 t, Value.bool false], Value.agg #[Value.int IntKind.i64 x0, Value.int IntKind.i64 y0, Value.int IntKind.i64 x1, Value.int IntKind.i64 y1, Value.int IntKind.i64 x2, Value.int IntKind.i64 y2], Value.pointer (some { block := w.heap.size, off := 0 }), Value.pointer (some { block := w.heap.size + 1, off := 0 }), Value.bool false, Value.bool true, Value.pointer (some { block := w1.heap.size, off := 0 }), Value.int IntKind.i64 0, undef, undef, undef, undef, undef, Value.bool true, tvkpf3 0, tvkpf3 1, tvkpf3 2, tvkpf3 3, tvkpf3 4, tvkpf3 5, tvkpf3 6, tvkpf3 7, Value.agg #[Value.int IntKind.i64 mx, Value.int IntKind.i64 my], Value.pointer (some { block := w.heap.size, off := 0 }), Value.int IntKind.i64 0, Value.bool true, undef, undef, Value.int IntKind.i64 0, tvkpf7_0 1, tvkpf7_0 2, tvkpf7_0 3, tvkpf7_0 4, tvkpf7_0 5, tvkpf7_0 6, tvkpf7_0 7, tvkpf7_0 8, tvkpf7_0 9, tvkpf7_0 10, Value.agg #[Value.int IntKind.i64 p0, Value.int IntKind.i64 q0], Value.pointer (some { block := w.heap.size + 1, off := 0 }), vs 0, vs 1, vs 2, vs 3, vs 4, vs 5, undef, undef, undef, undef, undef, undef, undef, undef, undef, undef, undef, undef, undef, undef, undef, undef, undef, undef, undef, undef, undef, undef, undef, undef, undef, undef, undef, undef, undef, undef, undef, undef, undef, undef, undef, undef, undef, undef, undef, undef, undef, undef, undef, undef, undef, undef, undef, undef, undef, undef, undef, undef, undef, undef, undef, undef, undef, undef, undef, undef, undef, undef, undef], defers := [] } ∧ Ext Wl0 w' ∧ ∀ j, D j → kpf8_0F w x y t x0 y0 x1 y1 x2 y2 W0 w1 W1 wfkpf3 tvkpf3 mx my Wm wfkpf7_0 tvkpf7_0 p0 q0 Wl0 j (vs j)) 6 (by kernel_rfl) (by kernel_rfl) (by kernel_rfl) ?startkpf8_0 ?stepkpf8_0 ?finkpf8_0
      case startkpf8_0 => exact ⟨fun _ => undef, rfl, Ext.drew _, fun _ h => h.elim⟩
      case stepkpf8_0 =>
        rintro i o D ac wz hin hio hnd he ⟨vs, rfl, k0, hF⟩
        rcases i with _ | _ | _ | _ | _ | _ | i
        rotate_left 6
        · exact absurd hin (by omega)
        all_goals (obtain rfl := Option.some.inj (hio.symm.trans (by rfl)))
        · refine step_yes (wanted_of_none rfl _) ?_
          exact wp_of_run (run_mov (.tmp 7) rfl _ rfl) ⟨upd vs 0 _, rfl, k0, inv_same hF rfl⟩
        · refine step_yes (wanted_of_none rfl _) ?_
          exact wp_of_run (run_ld_mo (.tmp 2) rfl _ _ rfl _ _ _ _ ((k0.row M_Wl0.out).cell 0) ((k0.row M_Wl0.out).cell 1) ((k0.row M_Wl0.out).cell 2) ((k0.row M_Wl0.out).cell 3)) ⟨upd vs 1 _, rfl, k0, inv_same hF rfl⟩
        · refine step_yes (wanted_of_none rfl _) ?_
          exact wp_of_run (run_mov (.tmp 7) rfl _ rfl) ⟨upd vs 2 _, rfl, k0, inv_same hF rfl⟩
        · refine step_yes (wanted_of_none rfl _) ?_
          exact wp_of_run (run_ixa3_2 (.tmp 3) (.tmp 43) rfl _ _ rfl 0 (by exact (hF 2 (he ⟨2, .data⟩ (by simp) rfl))) (by decide)) ⟨upd vs 3 _, rfl, k0, inv_same hF rfl⟩
        · refine step_yes (wanted_of_none rfl _) ?_
          exact wp_of_run (run_ld_pt (.tmp 44) rfl _ _ (by exact (hF 3 (he ⟨3, .data⟩ (by simp) rfl))) _ _ ((k0.row L_Wl0.out).cell 0) ((k0.row L_Wl0.out).cell 1)) ⟨upd vs 4 _, rfl, k0, inv_same hF rfl⟩
        · refine step_yes (wanted_of_none rfl _) ?_
          refine wp_of_callE (run_enter2 24 (.tmp 42) (.tmp 45) _ rfl _ _ (by exact (hF 1 (he ⟨1, .data⟩ (by simp) rfl))) (by exact (hF 4 (he ⟨4, .data⟩ (by simp) rfl))) (fun args w => enters_of Try.func24 (by kernel_rfl) rfl args w)) (vapply mx my t false p0 q0 wz) ?_
          rintro e w' ⟨rfl, hx⟩
          exact ⟨_, rfl, upd vs 5 _, rfl, k0.trans hx, inv_same hF rfl⟩
      case finkpf8_0 =>
        rintro D ac wfkpf8_0 hD ⟨vs, rfl, k0, hF⟩
        change wpList _ _ _ [_, _] _ _
        have hl0 : vs 0 = .int .i64 0 := hF 0 (hD 0 (by decide))
        rw [hl0]
        clear hl0
        have hl5 : vs 5 = .agg #[.int .i64 (apX mx t false p0 q0), .int .i64 (apY my t false p0 q0)] := hF 5 (hD 5 (by decide))
        rw [hl5]
        clear hl5
        clear hF hD
        generalize vs = tvkpf8_0
        have E6 := Lib.hid (EWl0.out.trans k0)
        have M_6 := Lib.hid (k0.row M_Wl0.out)
        have L_6 := Lib.hid (k0.row L_Wl0.out)
        have V_6 := Lib.hid (k0.row V_Wl0.out)
        clear EWl0 M_Wl0 L_Wl0 V_Wl0
        clear k0
        obtain ⟨s0, hs0⟩ : ∃ z : Int, z = apX mx t false p0 q0 := ⟨_, rfl⟩
        obtain ⟨u0, hu0⟩ : ∃ z : Int, z = apY my t false p0 q0 := ⟨_, rfl⟩
        rw [← hs0, ← hu0]
        have Qs0 := Lib.hid hs0
        have Qu0 := Lib.hid hu0
        clear hs0 hu0
        obtain ⟨Wv0, hWv0⟩ : ∃ Wv0, Wv0 = wfkpf8_0.setRow (w1.heap.size) (#[.int .i64 s0, .int .i64 u0, .int .i64 0, .int .i64 0, .int .i64 0, .int .i64 0]) := ⟨_, rfl⟩
        have M_Wv0 := Lib.hid (show RowAt Wv0 (w.heap.size) _ _ from by rw [hWv0]; exact M_6.out.setRowOther _ (by have := NE.out; omega))
        have L_Wv0 := Lib.hid (show RowAt Wv0 (w.heap.size + 1) _ _ from by rw [hWv0]; exact L_6.out.setRowOther _ (by have := NE.out; omega))
        have V_Wv0 := Lib.hid (show RowAt Wv0 (w1.heap.size) 24 (#[.int .i64 s0, .int .i64 u0, .int .i64 0, .int .i64 0, .int .i64 0, .int .i64 0]) from by rw [hWv0]; exact V_6.out.setRow _)
        have EWv0 := Lib.hid (show Ext w Wv0 from by rw [hWv0]; exact ext_setRow E6.out (by have := NE.out; omega) _)
        have HWv0 := Lib.hid hWv0
        clear hWv0
        go_wp2_with (refine store_pt_at rfl (.tmp 47) (.tmp 46) rfl (w1.heap.size) 0 rfl _ _ rfl _ _ _ _ (#[.int .i64 s0, .int .i64 u0, .int .i64 0, .int .i64 0, .int .i64 0, .int .i64 0]) V_6.out rfl rfl rfl ?_; rw [← HWv0.out])
        rw [rounds_succ]
        go_wp2_with fail
        refine wp_region_tail (fun D ac w' => ∃ vs : Nat → Value, ac = { tmps := #[Value.agg #[Value.int IntKind.i64 x, Value.int IntKind.i64 y, Value.int IntKind.i64 t, Value.bool false], Value.agg #[Value.int IntKind.i64 x0, Value.int IntKind.i64 y0, Value.int IntKind.i64 x1, Value.int IntKind.i64 y1, Value.int IntKind.i64 x2, Value.int IntKind.i64 y2], Value.pointer (some { block := w.heap.size, off := 0 }), Value.pointer (some { block := w.heap.size + 1, off := 0 }), Value.bool false, Value.bool true, Value.pointer (some { block := w1.heap.size, off := 0 }), Value.int IntKind.i64 1, undef, undef, undef, undef, undef, Value.bool true, tvkpf3 0, tvkpf3 1, tvkpf3 2, tvkpf3 3, tvkpf3 4, tvkpf3 5, tvkpf3 6, tvkpf3 7, Value.agg #[Value.int IntKind.i64 mx, Value.int IntKind.i64 my], Value.pointer (some { block := w.heap.size, off := 0 }), Value.int IntKind.i64 1, Value.bool true, Value.int IntKind.i64 0, Value.int IntKind.i64 1, vs 0, vs 1, vs 2, vs 3, vs 4, vs 5, vs 6, vs 7, vs 8, vs 9, vs 10, vs 11, Value.pointer (some { block := w.heap.size + 1, off := 0 }), Value.int IntKind.i64 0, tvkpf8_0 1, tvkpf8_0 2, tvkpf8_0 3, tvkpf8_0 4, Value.agg #[Value.int IntKind.i64 s0, Value.int IntKind.i64 u0], Value.pointer (some { block := w1.heap.size, off := 0 }), undef, undef, undef, undef, undef, undef, undef, undef, undef, undef, undef, undef, undef, undef, undef, undef, undef, undef, undef, undef, undef, undef, undef, undef, undef, undef, undef, undef, undef, undef, undef, undef, undef, undef, undef, undef, undef, undef, undef, undef, undef, undef, undef, undef, undef, undef, undef, undef, undef, undef, undef, undef, undef, undef, undef, undef, undef, undef, undef, undef, undef, undef], defers := [] } ∧ Ext Wv0 w' ∧ ∀ j, D j → kpf7_1F w x y t x0 y0 x1 y1 x2 y2 W0 w1 W1 wfkpf3 tvkpf3 mx my Wm wfkpf7_0 tvkpf7_0 p0 q0 Wl0 wfkpf8_0 tvkpf8_0 s0 u0 Wv0 j (vs j)) 12 (by kernel_rfl) (by kernel_rfl) (by kernel_rfl) ?startkpf7_1 ?stepkpf7_1 ?finkpf7_1
        case startkpf7_1 => exact ⟨fun j => match j with | 0 => Value.int IntKind.i64 0 | 1 => tvkpf7_0 1 | 2 => tvkpf7_0 2 | 3 => tvkpf7_0 3 | 4 => tvkpf7_0 4 | 5 => tvkpf7_0 5 | 6 => tvkpf7_0 6 | 7 => tvkpf7_0 7 | 8 => tvkpf7_0 8 | 9 => tvkpf7_0 9 | 10 => tvkpf7_0 10 | 11 => Value.agg #[Value.int IntKind.i64 p0, Value.int IntKind.i64 q0] | _ => undef, rfl, Ext.drew _, fun _ h => h.elim⟩
        case stepkpf7_1 =>
          rintro i o D ac wz hin hio hnd he ⟨vs, rfl, k0, hF⟩
          rcases i with _ | _ | _ | _ | _ | _ | _ | _ | _ | _ | _ | _ | i
          rotate_left 12
          · exact absurd hin (by omega)
          all_goals (obtain rfl := Option.some.inj (hio.symm.trans (by rfl)))
          · refine step_yes (wanted_of_none rfl _) ?_
            exact wp_of_run (run_mov (.tmp 7) rfl _ rfl) ⟨upd vs 0 _, rfl, k0, inv_same hF rfl⟩
          · refine step_yes (wanted_of_none rfl _) ?_
            exact wp_of_run (run_mov (.tmp 7) rfl _ rfl) ⟨upd vs 1 _, rfl, k0, inv_same hF rfl⟩
          · refine step_yes (wanted_of_none rfl _) ?_
            exact wp_of_run (run_ixa3_2 (.tmp 3) (.tmp 29) rfl _ _ rfl 1 (by exact (hF 1 (he ⟨1, .data⟩ (by simp) rfl))) (by decide)) ⟨upd vs 2 _, rfl, k0, inv_same hF rfl⟩
          · refine step_yes (wanted_of_none rfl _) ?_
            exact wp_of_run (run_fld_pt0 (.tmp 30) rfl _ _ (by exact (hF 2 (he ⟨2, .data⟩ (by simp) rfl)))) ⟨upd vs 3 _, rfl, k0, inv_same hF rfl⟩
          · refine step_yes (wanted_of_none rfl _) ?_
            exact wp_of_run (run_ldi (.tmp 31) rfl _ _ (by exact (hF 3 (he ⟨3, .data⟩ (by simp) rfl))) _ ((k0.row L_Wv0.out).cell 2)) ⟨upd vs 4 _, rfl, k0, inv_same hF rfl⟩
          · refine step_yes (wanted_of_none rfl _) ?_
            exact wp_of_run (run_remi (.tmp 32) (.const (.int .i64 10000000)) rfl rfl _ 10000000 (by decide) (by decide) (by exact (hF 4 (he ⟨4, .data⟩ (by simp) rfl))) rfl) ⟨upd vs 5 _, rfl, k0, inv_same hF rfl⟩
          · refine step_yes (wanted_of_none rfl _) ?_
            exact wp_of_run (run_mov (.tmp 7) rfl _ rfl) ⟨upd vs 6 _, rfl, k0, inv_same hF rfl⟩
          · refine step_yes (wanted_of_none rfl _) ?_
            exact wp_of_run (run_ixa3_2 (.tmp 3) (.tmp 34) rfl _ _ rfl 1 (by exact (hF 6 (he ⟨6, .data⟩ (by simp) rfl))) (by decide)) ⟨upd vs 7 _, rfl, k0, inv_same hF rfl⟩
          · refine step_yes (wanted_of_none rfl _) ?_
            exact wp_of_run (run_fld_pt1 (.tmp 35) rfl _ _ (by exact (hF 7 (he ⟨7, .data⟩ (by simp) rfl)))) ⟨upd vs 8 _, rfl, k0, inv_same hF rfl⟩
          · refine step_yes (wanted_of_none rfl _) ?_
            exact wp_of_run (run_ldi (.tmp 36) rfl _ _ (by exact (hF 8 (he ⟨8, .data⟩ (by simp) rfl))) _ ((k0.row L_Wv0.out).cell 3)) ⟨upd vs 9 _, rfl, k0, inv_same hF rfl⟩
          · refine step_yes (wanted_of_none rfl _) ?_
            exact wp_of_run (run_remi (.tmp 37) (.const (.int .i64 10000000)) rfl rfl _ 10000000 (by decide) (by decide) (by exact (hF 9 (he ⟨9, .data⟩ (by simp) rfl))) rfl) ⟨upd vs 10 _, rfl, k0, inv_same hF rfl⟩
          · refine step_yes (wanted_of_none rfl _) ?_
            refine wp_of_callE (run_enter2 23 (.tmp 33) (.tmp 38) _ rfl _ _ (by exact (hF 5 (he ⟨5, .data⟩ (by simp) rfl))) (by exact (hF 10 (he ⟨10, .data⟩ (by simp) rfl))) (fun args w => enters_of Try.func23 (by kernel_rfl) rfl args w)) (lat (x1.tmod 10000000) (y1.tmod 10000000) wz) ?_
            rintro e w' ⟨rfl, hx⟩
            exact ⟨_, rfl, upd vs 11 _, rfl, k0.trans hx, inv_same hF rfl⟩
        case finkpf7_1 =>
          rintro D ac wfkpf7_1 hD ⟨vs, rfl, k0, hF⟩
          change wpList _ _ _ [_, _] _ _
          have hl0 : vs 0 = .int .i64 1 := hF 0 (hD 0 (by decide))
          rw [hl0]
          clear hl0
          have hl11 : vs 11 = .agg #[.int .i64 (x1.tmod 10000000), .int .i64 (y1.tmod 10000000)] := hF 11 (hD 11 (by decide))
          rw [hl11]
          clear hl11
          clear hF hD
          generalize vs = tvkpf7_1
          have E7 := Lib.hid (EWv0.out.trans k0)
          have M_7 := Lib.hid (k0.row M_Wv0.out)
          have L_7 := Lib.hid (k0.row L_Wv0.out)
          have V_7 := Lib.hid (k0.row V_Wv0.out)
          clear EWv0 M_Wv0 L_Wv0 V_Wv0
          clear k0
          obtain ⟨p1, hp1⟩ : ∃ z : Int, z = (x1.tmod 10000000) := ⟨_, rfl⟩
          obtain ⟨q1, hq1⟩ : ∃ z : Int, z = (y1.tmod 10000000) := ⟨_, rfl⟩
          rw [← hp1, ← hq1]
          have Bp1 := Lib.hid (show b7 p1 from by rw [hp1]; exact tmod7 _)
          have Bq1 := Lib.hid (show b7 q1 from by rw [hq1]; exact tmod7 _)
          clear hp1 hq1
          obtain ⟨Wl1, hWl1⟩ : ∃ Wl1, Wl1 = wfkpf7_1.setRow (w.heap.size + 1) (#[.int .i64 p0, .int .i64 q0, .int .i64 p1, .int .i64 q1, .int .i64 x2, .int .i64 y2]) := ⟨_, rfl⟩
          have M_Wl1 := Lib.hid (show RowAt Wl1 (w.heap.size) _ _ from by rw [hWl1]; exact M_7.out.setRowOther _ (by have := NE.out; omega))
          have L_Wl1 := Lib.hid (show RowAt Wl1 (w.heap.size + 1) 24 (#[.int .i64 p0, .int .i64 q0, .int .i64 p1, .int .i64 q1, .int .i64 x2, .int .i64 y2]) from by rw [hWl1]; exact L_7.out.setRow _)
          have V_Wl1 := Lib.hid (show RowAt Wl1 (w1.heap.size) _ _ from by rw [hWl1]; exact V_7.out.setRowOther _ (by have := NE.out; omega))
          have EWl1 := Lib.hid (show Ext w Wl1 from by rw [hWl1]; exact ext_setRow E7.out (by have := NE.out; omega) _)
          have HWl1 := Lib.hid hWl1
          clear hWl1
          go_wp2_with (refine store_pt_at rfl (.tmp 40) (.tmp 39) rfl (w.heap.size + 1) 2 rfl _ _ rfl _ _ _ _ (#[.int .i64 p0, .int .i64 q0, .int .i64 p1, .int .i64 q1, .int .i64 x2, .int .i64 y2]) L_7.out rfl rfl rfl ?_; rw [← HWl1.out])
          refine wp_region_tail (fun D ac w' => ∃ vs : Nat → Value, ac = { tmps := #[Value.agg #[Value.int IntKind.i64 x, Value.int IntKind.i64 y, Value.int IntKind.i64 t, Value.bool false], Value.agg #[Value.int IntKind.i64 x0, Value.int IntKind.i64 y0, Value.int IntKind.i64 x1, Value.int IntKind.i64 y1, Value.int IntKind.i64 x2, Value.int IntKind.i64 y2], Value.pointer (some { block := w.heap.size, off := 0 }), Value.pointer (some { block := w.heap.size + 1, off := 0 }), Value.bool false, Value.bool true, Value.pointer (some { block := w1.heap.size, off := 0 }), Value.int IntKind.i64 1, undef, undef, undef, undef, undef, Value.bool true, tvkpf3 0, tvkpf3 1, tvkpf3 2, tvkpf3 3, tvkpf3 4, tvkpf3 5, tvkpf3 6, tvkpf3 7, Value.agg #[Value.int IntKind.i64 mx, Value.int IntKind.i64 my], Value.pointer (some { block := w.heap.size, off := 0 }), Value.int IntKind.i64 1, Value.bool true, Value.int IntKind.i64 0, Value.int IntKind.i64 1, Value.int IntKind.i64 1, tvkpf7_1 1, tvkpf7_1 2, tvkpf7_1 3, tvkpf7_1 4, tvkpf7_1 5, tvkpf7_1 6, tvkpf7_1 7, tvkpf7_1 8, tvkpf7_1 9, tvkpf7_1 10, Value.agg #[Value.int IntKind.i64 p1, Value.int IntKind.i64 q1], Value.pointer (some { block := w.heap.size + 1, off := 2 }), vs 0, vs 1, vs 2, vs 3, vs 4, vs 5, Value.pointer (some { block := w1.heap.size, off := 0 }), undef, undef, undef, undef, undef, undef, undef, undef, undef, undef, undef, undef, undef, undef, undef, undef, undef, undef, undef, undef, undef, undef, undef, undef, undef, undef, undef, undef, undef, undef, undef, undef, undef, undef, undef, undef, undef, undef, undef, undef, undef, undef, undef, undef, undef, undef, undef, undef, undef, undef, undef, undef, undef, undef, undef, undef, undef, undef, undef, undef, undef, undef], defers := [] } ∧ Ext Wl1 w' ∧ ∀ j, D j → kpf8_1F w x y t x0 y0 x1 y1 x2 y2 W0 w1 W1 wfkpf3 tvkpf3 mx my Wm wfkpf7_0 tvkpf7_0 p0 q0 Wl0 wfkpf8_0 tvkpf8_0 s0 u0 Wv0 wfkpf7_1 tvkpf7_1 p1 q1 Wl1 j (vs j)) 6 (by kernel_rfl) (by kernel_rfl) (by kernel_rfl) ?startkpf8_1 ?stepkpf8_1 ?finkpf8_1
          case startkpf8_1 => exact ⟨fun j => match j with | 0 => Value.int IntKind.i64 0 | 1 => tvkpf8_0 1 | 2 => tvkpf8_0 2 | 3 => tvkpf8_0 3 | 4 => tvkpf8_0 4 | 5 => Value.agg #[Value.int IntKind.i64 s0, Value.int IntKind.i64 u0] | _ => undef, rfl, Ext.drew _, fun _ h => h.elim⟩
          case stepkpf8_1 =>
            rintro i o D ac wz hin hio hnd he ⟨vs, rfl, k0, hF⟩
            rcases i with _ | _ | _ | _ | _ | _ | i
            rotate_left 6
            · exact absurd hin (by omega)
            all_goals (obtain rfl := Option.some.inj (hio.symm.trans (by rfl)))
            · refine step_yes (wanted_of_none rfl _) ?_
              exact wp_of_run (run_mov (.tmp 7) rfl _ rfl) ⟨upd vs 0 _, rfl, k0, inv_same hF rfl⟩
            · refine step_yes (wanted_of_none rfl _) ?_
              exact wp_of_run (run_ld_mo (.tmp 2) rfl _ _ rfl _ _ _ _ ((k0.row M_Wl1.out).cell 0) ((k0.row M_Wl1.out).cell 1) ((k0.row M_Wl1.out).cell 2) ((k0.row M_Wl1.out).cell 3)) ⟨upd vs 1 _, rfl, k0, inv_same hF rfl⟩
            · refine step_yes (wanted_of_none rfl _) ?_
              exact wp_of_run (run_mov (.tmp 7) rfl _ rfl) ⟨upd vs 2 _, rfl, k0, inv_same hF rfl⟩
            · refine step_yes (wanted_of_none rfl _) ?_
              exact wp_of_run (run_ixa3_2 (.tmp 3) (.tmp 43) rfl _ _ rfl 1 (by exact (hF 2 (he ⟨2, .data⟩ (by simp) rfl))) (by decide)) ⟨upd vs 3 _, rfl, k0, inv_same hF rfl⟩
            · refine step_yes (wanted_of_none rfl _) ?_
              exact wp_of_run (run_ld_pt (.tmp 44) rfl _ _ (by exact (hF 3 (he ⟨3, .data⟩ (by simp) rfl))) _ _ ((k0.row L_Wl1.out).cell 2) ((k0.row L_Wl1.out).cell 3)) ⟨upd vs 4 _, rfl, k0, inv_same hF rfl⟩
            · refine step_yes (wanted_of_none rfl _) ?_
              refine wp_of_callE (run_enter2 24 (.tmp 42) (.tmp 45) _ rfl _ _ (by exact (hF 1 (he ⟨1, .data⟩ (by simp) rfl))) (by exact (hF 4 (he ⟨4, .data⟩ (by simp) rfl))) (fun args w => enters_of Try.func24 (by kernel_rfl) rfl args w)) (vapply mx my t false p1 q1 wz) ?_
              rintro e w' ⟨rfl, hx⟩
              exact ⟨_, rfl, upd vs 5 _, rfl, k0.trans hx, inv_same hF rfl⟩
          case finkpf8_1 =>
            rintro D ac wfkpf8_1 hD ⟨vs, rfl, k0, hF⟩
            change wpList _ _ _ [_, _] _ _
            have hl0 : vs 0 = .int .i64 1 := hF 0 (hD 0 (by decide))
            rw [hl0]
            clear hl0
            have hl5 : vs 5 = .agg #[.int .i64 (apX mx t false p1 q1), .int .i64 (apY my t false p1 q1)] := hF 5 (hD 5 (by decide))
            rw [hl5]
            clear hl5
            clear hF hD
            generalize vs = tvkpf8_1
            have E8 := Lib.hid (EWl1.out.trans k0)
            have M_8 := Lib.hid (k0.row M_Wl1.out)
            have L_8 := Lib.hid (k0.row L_Wl1.out)
            have V_8 := Lib.hid (k0.row V_Wl1.out)
            clear EWl1 M_Wl1 L_Wl1 V_Wl1
            clear k0
            obtain ⟨s1, hs1⟩ : ∃ z : Int, z = apX mx t false p1 q1 := ⟨_, rfl⟩
            obtain ⟨u1, hu1⟩ : ∃ z : Int, z = apY my t false p1 q1 := ⟨_, rfl⟩
            rw [← hs1, ← hu1]
            have Qs1 := Lib.hid hs1
            have Qu1 := Lib.hid hu1
            clear hs1 hu1
            obtain ⟨Wv1, hWv1⟩ : ∃ Wv1, Wv1 = wfkpf8_1.setRow (w1.heap.size) (#[.int .i64 s0, .int .i64 u0, .int .i64 s1, .int .i64 u1, .int .i64 0, .int .i64 0]) := ⟨_, rfl⟩
            have M_Wv1 := Lib.hid (show RowAt Wv1 (w.heap.size) _ _ from by rw [hWv1]; exact M_8.out.setRowOther _ (by have := NE.out; omega))
            have L_Wv1 := Lib.hid (show RowAt Wv1 (w.heap.size + 1) _ _ from by rw [hWv1]; exact L_8.out.setRowOther _ (by have := NE.out; omega))
            have V_Wv1 := Lib.hid (show RowAt Wv1 (w1.heap.size) 24 (#[.int .i64 s0, .int .i64 u0, .int .i64 s1, .int .i64 u1, .int .i64 0, .int .i64 0]) from by rw [hWv1]; exact V_8.out.setRow _)
            have EWv1 := Lib.hid (show Ext w Wv1 from by rw [hWv1]; exact ext_setRow E8.out (by have := NE.out; omega) _)
            have HWv1 := Lib.hid hWv1
            clear hWv1
            go_wp2_with (refine store_pt_at rfl (.tmp 47) (.tmp 46) rfl (w1.heap.size) 2 rfl _ _ rfl _ _ _ _ (#[.int .i64 s0, .int .i64 u0, .int .i64 s1, .int .i64 u1, .int .i64 0, .int .i64 0]) V_8.out rfl rfl rfl ?_; rw [← HWv1.out])
            rw [rounds_succ]
            go_wp2_with fail
            refine wp_region_tail (fun D ac w' => ∃ vs : Nat → Value, ac = { tmps := #[Value.agg #[Value.int IntKind.i64 x, Value.int IntKind.i64 y, Value.int IntKind.i64 t, Value.bool false], Value.agg #[Value.int IntKind.i64 x0, Value.int IntKind.i64 y0, Value.int IntKind.i64 x1, Value.int IntKind.i64 y1, Value.int IntKind.i64 x2, Value.int IntKind.i64 y2], Value.pointer (some { block := w.heap.size, off := 0 }), Value.pointer (some { block := w.heap.size + 1, off := 0 }), Value.bool false, Value.bool true, Value.pointer (some { block := w1.heap.size, off := 0 }), Value.int IntKind.i64 2, undef, undef, undef, undef, undef, Value.bool true, tvkpf3 0, tvkpf3 1, tvkpf3 2, tvkpf3 3, tvkpf3 4, tvkpf3 5, tvkpf3 6, tvkpf3 7, Value.agg #[Value.int IntKind.i64 mx, Value.int IntKind.i64 my], Value.pointer (some { block := w.heap.size, off := 0 }), Value.int IntKind.i64 2, Value.bool true, Value.int IntKind.i64 1, Value.int IntKind.i64 2, vs 0, vs 1, vs 2, vs 3, vs 4, vs 5, vs 6, vs 7, vs 8, vs 9, vs 10, vs 11, Value.pointer (some { block := w.heap.size + 1, off := 2 }), Value.int IntKind.i64 1, tvkpf8_1 1, tvkpf8_1 2, tvkpf8_1 3, tvkpf8_1 4, Value.agg #[Value.int IntKind.i64 s1, Value.int IntKind.i64 u1], Value.pointer (some { block := w1.heap.size, off := 2 }), undef, undef, undef, undef, undef, undef, undef, undef, undef, undef, undef, undef, undef, undef, undef, undef, undef, undef, undef, undef, undef, undef, undef, undef, undef, undef, undef, undef, undef, undef, undef, undef, undef, undef, undef, undef, undef, undef, undef, undef, undef, undef, undef, undef, undef, undef, undef, undef, undef, undef, undef, undef, undef, undef, undef, undef, undef, undef, undef, undef, undef, undef], defers := [] } ∧ Ext Wv1 w' ∧ ∀ j, D j → kpf7_2F w x y t x0 y0 x1 y1 x2 y2 W0 w1 W1 wfkpf3 tvkpf3 mx my Wm wfkpf7_0 tvkpf7_0 p0 q0 Wl0 wfkpf8_0 tvkpf8_0 s0 u0 Wv0 wfkpf7_1 tvkpf7_1 p1 q1 Wl1 wfkpf8_1 tvkpf8_1 s1 u1 Wv1 j (vs j)) 12 (by kernel_rfl) (by kernel_rfl) (by kernel_rfl) ?startkpf7_2 ?stepkpf7_2 ?finkpf7_2
            case startkpf7_2 => exact ⟨fun j => match j with | 0 => Value.int IntKind.i64 1 | 1 => tvkpf7_1 1 | 2 => tvkpf7_1 2 | 3 => tvkpf7_1 3 | 4 => tvkpf7_1 4 | 5 => tvkpf7_1 5 | 6 => tvkpf7_1 6 | 7 => tvkpf7_1 7 | 8 => tvkpf7_1 8 | 9 => tvkpf7_1 9 | 10 => tvkpf7_1 10 | 11 => Value.agg #[Value.int IntKind.i64 p1, Value.int IntKind.i64 q1] | _ => undef, rfl, Ext.drew _, fun _ h => h.elim⟩
            case stepkpf7_2 =>
              rintro i o D ac wz hin hio hnd he ⟨vs, rfl, k0, hF⟩
              rcases i with _ | _ | _ | _ | _ | _ | _ | _ | _ | _ | _ | _ | i
              rotate_left 12
              · exact absurd hin (by omega)
              all_goals (obtain rfl := Option.some.inj (hio.symm.trans (by rfl)))
              · refine step_yes (wanted_of_none rfl _) ?_
                exact wp_of_run (run_mov (.tmp 7) rfl _ rfl) ⟨upd vs 0 _, rfl, k0, inv_same hF rfl⟩
              · refine step_yes (wanted_of_none rfl _) ?_
                exact wp_of_run (run_mov (.tmp 7) rfl _ rfl) ⟨upd vs 1 _, rfl, k0, inv_same hF rfl⟩
              · refine step_yes (wanted_of_none rfl _) ?_
                exact wp_of_run (run_ixa3_2 (.tmp 3) (.tmp 29) rfl _ _ rfl 2 (by exact (hF 1 (he ⟨1, .data⟩ (by simp) rfl))) (by decide)) ⟨upd vs 2 _, rfl, k0, inv_same hF rfl⟩
              · refine step_yes (wanted_of_none rfl _) ?_
                exact wp_of_run (run_fld_pt0 (.tmp 30) rfl _ _ (by exact (hF 2 (he ⟨2, .data⟩ (by simp) rfl)))) ⟨upd vs 3 _, rfl, k0, inv_same hF rfl⟩
              · refine step_yes (wanted_of_none rfl _) ?_
                exact wp_of_run (run_ldi (.tmp 31) rfl _ _ (by exact (hF 3 (he ⟨3, .data⟩ (by simp) rfl))) _ ((k0.row L_Wv1.out).cell 4)) ⟨upd vs 4 _, rfl, k0, inv_same hF rfl⟩
              · refine step_yes (wanted_of_none rfl _) ?_
                exact wp_of_run (run_remi (.tmp 32) (.const (.int .i64 10000000)) rfl rfl _ 10000000 (by decide) (by decide) (by exact (hF 4 (he ⟨4, .data⟩ (by simp) rfl))) rfl) ⟨upd vs 5 _, rfl, k0, inv_same hF rfl⟩
              · refine step_yes (wanted_of_none rfl _) ?_
                exact wp_of_run (run_mov (.tmp 7) rfl _ rfl) ⟨upd vs 6 _, rfl, k0, inv_same hF rfl⟩
              · refine step_yes (wanted_of_none rfl _) ?_
                exact wp_of_run (run_ixa3_2 (.tmp 3) (.tmp 34) rfl _ _ rfl 2 (by exact (hF 6 (he ⟨6, .data⟩ (by simp) rfl))) (by decide)) ⟨upd vs 7 _, rfl, k0, inv_same hF rfl⟩
              · refine step_yes (wanted_of_none rfl _) ?_
                exact wp_of_run (run_fld_pt1 (.tmp 35) rfl _ _ (by exact (hF 7 (he ⟨7, .data⟩ (by simp) rfl)))) ⟨upd vs 8 _, rfl, k0, inv_same hF rfl⟩
              · refine step_yes (wanted_of_none rfl _) ?_
                exact wp_of_run (run_ldi (.tmp 36) rfl _ _ (by exact (hF 8 (he ⟨8, .data⟩ (by simp) rfl))) _ ((k0.row L_Wv1.out).cell 5)) ⟨upd vs 9 _, rfl, k0, inv_same hF rfl⟩
              · refine step_yes (wanted_of_none rfl _) ?_
                exact wp_of_run (run_remi (.tmp 37) (.const (.int .i64 10000000)) rfl rfl _ 10000000 (by decide) (by decide) (by exact (hF 9 (he ⟨9, .data⟩ (by simp) rfl))) rfl) ⟨upd vs 10 _, rfl, k0, inv_same hF rfl⟩
              · refine step_yes (wanted_of_none rfl _) ?_
                refine wp_of_callE (run_enter2 23 (.tmp 33) (.tmp 38) _ rfl _ _ (by exact (hF 5 (he ⟨5, .data⟩ (by simp) rfl))) (by exact (hF 10 (he ⟨10, .data⟩ (by simp) rfl))) (fun args w => enters_of Try.func23 (by kernel_rfl) rfl args w)) (lat (x2.tmod 10000000) (y2.tmod 10000000) wz) ?_
                rintro e w' ⟨rfl, hx⟩
                exact ⟨_, rfl, upd vs 11 _, rfl, k0.trans hx, inv_same hF rfl⟩
            case finkpf7_2 =>
              rintro D ac wfkpf7_2 hD ⟨vs, rfl, k0, hF⟩
              change wpList _ _ _ [_, _] _ _
              have hl0 : vs 0 = .int .i64 2 := hF 0 (hD 0 (by decide))
              rw [hl0]
              clear hl0
              have hl11 : vs 11 = .agg #[.int .i64 (x2.tmod 10000000), .int .i64 (y2.tmod 10000000)] := hF 11 (hD 11 (by decide))
              rw [hl11]
              clear hl11
              clear hF hD
              generalize vs = tvkpf7_2
              have E9 := Lib.hid (EWv1.out.trans k0)
              have M_9 := Lib.hid (k0.row M_Wv1.out)
              have L_9 := Lib.hid (k0.row L_Wv1.out)
              have V_9 := Lib.hid (k0.row V_Wv1.out)
              clear EWv1 M_Wv1 L_Wv1 V_Wv1
              clear k0
              obtain ⟨p2, hp2⟩ : ∃ z : Int, z = (x2.tmod 10000000) := ⟨_, rfl⟩
              obtain ⟨q2, hq2⟩ : ∃ z : Int, z = (y2.tmod 10000000) := ⟨_, rfl⟩
              rw [← hp2, ← hq2]
              have Bp2 := Lib.hid (show b7 p2 from by rw [hp2]; exact tmod7 _)
              have Bq2 := Lib.hid (show b7 q2 from by rw [hq2]; exact tmod7 _)
              clear hp2 hq2
              obtain ⟨Wl2, hWl2⟩ : ∃ Wl2, Wl2 = wfkpf7_2.setRow (w.heap.size + 1) (#[.int .i64 p0, .int .i64 q0, .int .i64 p1, .int .i64 q1, .int .i64 p2, .int .i64 q2]) := ⟨_, rfl⟩
              have M_Wl2 := Lib.hid (show RowAt Wl2 (w.heap.size) _ _ from by rw [hWl2]; exact M_9.out.setRowOther _ (by have := NE.out; omega))
              have L_Wl2 := Lib.hid (show RowAt Wl2 (w.heap.size + 1) 24 (#[.int .i64 p0, .int .i64 q0, .int .i64 p1, .int .i64 q1, .int .i64 p2, .int .i64 q2]) from by rw [hWl2]; exact L_9.out.setRow _)
              have V_Wl2 := Lib.hid (show RowAt Wl2 (w1.heap.size) _ _ from by rw [hWl2]; exact V_9.out.setRowOther _ (by have := NE.out; omega))
              have EWl2 := Lib.hid (show Ext w Wl2 from by rw [hWl2]; exact ext_setRow E9.out (by have := NE.out; omega) _)
              have HWl2 := Lib.hid hWl2
              clear hWl2
              go_wp2_with (refine store_pt_at rfl (.tmp 40) (.tmp 39) rfl (w.heap.size + 1) 4 rfl _ _ rfl _ _ _ _ (#[.int .i64 p0, .int .i64 q0, .int .i64 p1, .int .i64 q1, .int .i64 p2, .int .i64 q2]) L_9.out rfl rfl rfl ?_; rw [← HWl2.out])
              refine wp_region_tail (fun D ac w' => ∃ vs : Nat → Value, ac = { tmps := #[Value.agg #[Value.int IntKind.i64 x, Value.int IntKind.i64 y, Value.int IntKind.i64 t, Value.bool false], Value.agg #[Value.int IntKind.i64 x0, Value.int IntKind.i64 y0, Value.int IntKind.i64 x1, Value.int IntKind.i64 y1, Value.int IntKind.i64 x2, Value.int IntKind.i64 y2], Value.pointer (some { block := w.heap.size, off := 0 }), Value.pointer (some { block := w.heap.size + 1, off := 0 }), Value.bool false, Value.bool true, Value.pointer (some { block := w1.heap.size, off := 0 }), Value.int IntKind.i64 2, undef, undef, undef, undef, undef, Value.bool true, tvkpf3 0, tvkpf3 1, tvkpf3 2, tvkpf3 3, tvkpf3 4, tvkpf3 5, tvkpf3 6, tvkpf3 7, Value.agg #[Value.int IntKind.i64 mx, Value.int IntKind.i64 my], Value.pointer (some { block := w.heap.size, off := 0 }), Value.int IntKind.i64 2, Value.bool true, Value.int IntKind.i64 1, Value.int IntKind.i64 2, Value.int IntKind.i64 2, tvkpf7_2 1, tvkpf7_2 2, tvkpf7_2 3, tvkpf7_2 4, tvkpf7_2 5, tvkpf7_2 6, tvkpf7_2 7, tvkpf7_2 8, tvkpf7_2 9, tvkpf7_2 10, Value.agg #[Value.int IntKind.i64 p2, Value.int IntKind.i64 q2], Value.pointer (some { block := w.heap.size + 1, off := 4 }), vs 0, vs 1, vs 2, vs 3, vs 4, vs 5, Value.pointer (some { block := w1.heap.size, off := 2 }), undef, undef, undef, undef, undef, undef, undef, undef, undef, undef, undef, undef, undef, undef, undef, undef, undef, undef, undef, undef, undef, undef, undef, undef, undef, undef, undef, undef, undef, undef, undef, undef, undef, undef, undef, undef, undef, undef, undef, undef, undef, undef, undef, undef, undef, undef, undef, undef, undef, undef, undef, undef, undef, undef, undef, undef, undef, undef, undef, undef, undef, undef], defers := [] } ∧ Ext Wl2 w' ∧ ∀ j, D j → kpf8_2F w x y t x0 y0 x1 y1 x2 y2 W0 w1 W1 wfkpf3 tvkpf3 mx my Wm wfkpf7_0 tvkpf7_0 p0 q0 Wl0 wfkpf8_0 tvkpf8_0 s0 u0 Wv0 wfkpf7_1 tvkpf7_1 p1 q1 Wl1 wfkpf8_1 tvkpf8_1 s1 u1 Wv1 wfkpf7_2 tvkpf7_2 p2 q2 Wl2 j (vs j)) 6 (by kernel_rfl) (by kernel_rfl) (by kernel_rfl) ?startkpf8_2 ?stepkpf8_2 ?finkpf8_2
              case startkpf8_2 => exact ⟨fun j => match j with | 0 => Value.int IntKind.i64 1 | 1 => tvkpf8_1 1 | 2 => tvkpf8_1 2 | 3 => tvkpf8_1 3 | 4 => tvkpf8_1 4 | 5 => Value.agg #[Value.int IntKind.i64 s1, Value.int IntKind.i64 u1] | _ => undef, rfl, Ext.drew _, fun _ h => h.elim⟩
              case stepkpf8_2 =>
                rintro i o D ac wz hin hio hnd he ⟨vs, rfl, k0, hF⟩
                rcases i with _ | _ | _ | _ | _ | _ | i
                rotate_left 6
                · exact absurd hin (by omega)
                all_goals (obtain rfl := Option.some.inj (hio.symm.trans (by rfl)))
                · refine step_yes (wanted_of_none rfl _) ?_
                  exact wp_of_run (run_mov (.tmp 7) rfl _ rfl) ⟨upd vs 0 _, rfl, k0, inv_same hF rfl⟩
                · refine step_yes (wanted_of_none rfl _) ?_
                  exact wp_of_run (run_ld_mo (.tmp 2) rfl _ _ rfl _ _ _ _ ((k0.row M_Wl2.out).cell 0) ((k0.row M_Wl2.out).cell 1) ((k0.row M_Wl2.out).cell 2) ((k0.row M_Wl2.out).cell 3)) ⟨upd vs 1 _, rfl, k0, inv_same hF rfl⟩
                · refine step_yes (wanted_of_none rfl _) ?_
                  exact wp_of_run (run_mov (.tmp 7) rfl _ rfl) ⟨upd vs 2 _, rfl, k0, inv_same hF rfl⟩
                · refine step_yes (wanted_of_none rfl _) ?_
                  exact wp_of_run (run_ixa3_2 (.tmp 3) (.tmp 43) rfl _ _ rfl 2 (by exact (hF 2 (he ⟨2, .data⟩ (by simp) rfl))) (by decide)) ⟨upd vs 3 _, rfl, k0, inv_same hF rfl⟩
                · refine step_yes (wanted_of_none rfl _) ?_
                  exact wp_of_run (run_ld_pt (.tmp 44) rfl _ _ (by exact (hF 3 (he ⟨3, .data⟩ (by simp) rfl))) _ _ ((k0.row L_Wl2.out).cell 4) ((k0.row L_Wl2.out).cell 5)) ⟨upd vs 4 _, rfl, k0, inv_same hF rfl⟩
                · refine step_yes (wanted_of_none rfl _) ?_
                  refine wp_of_callE (run_enter2 24 (.tmp 42) (.tmp 45) _ rfl _ _ (by exact (hF 1 (he ⟨1, .data⟩ (by simp) rfl))) (by exact (hF 4 (he ⟨4, .data⟩ (by simp) rfl))) (fun args w => enters_of Try.func24 (by kernel_rfl) rfl args w)) (vapply mx my t false p2 q2 wz) ?_
                  rintro e w' ⟨rfl, hx⟩
                  exact ⟨_, rfl, upd vs 5 _, rfl, k0.trans hx, inv_same hF rfl⟩
              case finkpf8_2 =>
                rintro D ac wfkpf8_2 hD ⟨vs, rfl, k0, hF⟩
                change wpList _ _ _ [_, _] _ _
                have hl0 : vs 0 = .int .i64 2 := hF 0 (hD 0 (by decide))
                rw [hl0]
                clear hl0
                have hl5 : vs 5 = .agg #[.int .i64 (apX mx t false p2 q2), .int .i64 (apY my t false p2 q2)] := hF 5 (hD 5 (by decide))
                rw [hl5]
                clear hl5
                clear hF hD
                generalize vs = tvkpf8_2
                have E10 := Lib.hid (EWl2.out.trans k0)
                have M_10 := Lib.hid (k0.row M_Wl2.out)
                have L_10 := Lib.hid (k0.row L_Wl2.out)
                have V_10 := Lib.hid (k0.row V_Wl2.out)
                clear EWl2 M_Wl2 L_Wl2 V_Wl2
                clear k0
                obtain ⟨s2, hs2⟩ : ∃ z : Int, z = apX mx t false p2 q2 := ⟨_, rfl⟩
                obtain ⟨u2, hu2⟩ : ∃ z : Int, z = apY my t false p2 q2 := ⟨_, rfl⟩
                rw [← hs2, ← hu2]
                have Qs2 := Lib.hid hs2
                have Qu2 := Lib.hid hu2
                clear hs2 hu2
                obtain ⟨Wv2, hWv2⟩ : ∃ Wv2, Wv2 = wfkpf8_2.setRow (w1.heap.size) (#[.int .i64 s0, .int .i64 u0, .int .i64 s1, .int .i64 u1, .int .i64 s2, .int .i64 u2]) := ⟨_, rfl⟩
                have M_Wv2 := Lib.hid (show RowAt Wv2 (w.heap.size) _ _ from by rw [hWv2]; exact M_10.out.setRowOther _ (by have := NE.out; omega))
                have L_Wv2 := Lib.hid (show RowAt Wv2 (w.heap.size + 1) _ _ from by rw [hWv2]; exact L_10.out.setRowOther _ (by have := NE.out; omega))
                have V_Wv2 := Lib.hid (show RowAt Wv2 (w1.heap.size) 24 (#[.int .i64 s0, .int .i64 u0, .int .i64 s1, .int .i64 u1, .int .i64 s2, .int .i64 u2]) from by rw [hWv2]; exact V_10.out.setRow _)
                have EWv2 := Lib.hid (show Ext w Wv2 from by rw [hWv2]; exact ext_setRow E10.out (by have := NE.out; omega) _)
                have HWv2 := Lib.hid hWv2
                clear hWv2
                go_wp2_with (refine store_pt_at rfl (.tmp 47) (.tmp 46) rfl (w1.heap.size) 4 rfl _ _ rfl _ _ _ _ (#[.int .i64 s0, .int .i64 u0, .int .i64 s1, .int .i64 u1, .int .i64 s2, .int .i64 u2]) V_10.out rfl rfl rfl ?_; rw [← HWv2.out])
                rw [rounds_succ]
                go_wp2_with fail
                refine wp_region_tail (fun D ac w' => ∃ vs : Nat → Value, ac = { tmps := #[Value.agg #[Value.int IntKind.i64 x, Value.int IntKind.i64 y, Value.int IntKind.i64 t, Value.bool false], Value.agg #[Value.int IntKind.i64 x0, Value.int IntKind.i64 y0, Value.int IntKind.i64 x1, Value.int IntKind.i64 y1, Value.int IntKind.i64 x2, Value.int IntKind.i64 y2], Value.pointer (some { block := w.heap.size, off := 0 }), Value.pointer (some { block := w.heap.size + 1, off := 0 }), Value.bool false, Value.bool true, Value.pointer (some { block := w1.heap.size, off := 0 }), Value.int IntKind.i64 3, vs 10, vs 11, undef, undef, undef, Value.bool true, tvkpf3 0, tvkpf3 1, tvkpf3 2, tvkpf3 3, tvkpf3 4, tvkpf3 5, tvkpf3 6, tvkpf3 7, Value.agg #[Value.int IntKind.i64 mx, Value.int IntKind.i64 my], Value.pointer (some { block := w.heap.size, off := 0 }), Value.int IntKind.i64 3, Value.bool false, Value.int IntKind.i64 2, Value.int IntKind.i64 3, Value.int IntKind.i64 2, tvkpf7_2 1, tvkpf7_2 2, tvkpf7_2 3, tvkpf7_2 4, tvkpf7_2 5, tvkpf7_2 6, tvkpf7_2 7, tvkpf7_2 8, tvkpf7_2 9, tvkpf7_2 10, Value.agg #[Value.int IntKind.i64 p2, Value.int IntKind.i64 q2], Value.pointer (some { block := w.heap.size + 1, off := 4 }), Value.int IntKind.i64 2, tvkpf8_2 1, tvkpf8_2 2, tvkpf8_2 3, tvkpf8_2 4, Value.agg #[Value.int IntKind.i64 s2, Value.int IntKind.i64 u2], Value.pointer (some { block := w1.heap.size, off := 4 }), vs 0, vs 1, vs 2, vs 3, vs 4, vs 5, vs 6, vs 7, vs 8, vs 9, undef, undef, undef, undef, undef, undef, undef, undef, undef, undef, undef, undef, undef, undef, undef, undef, undef, undef, undef, undef, undef, undef, undef, undef, undef, undef, undef, undef, undef, undef, undef, undef, undef, undef, undef, undef, undef, undef, undef, undef, undef, undef, undef, undef, undef, undef, undef, undef, undef, undef, undef, undef], defers := [] } ∧ Ext Wv2 w' ∧ (∀ j, D j → kpf9F w x y t x0 y0 x1 y1 x2 y2 W0 w1 W1 wfkpf3 tvkpf3 mx my Wm wfkpf7_0 tvkpf7_0 p0 q0 Wl0 wfkpf8_0 tvkpf8_0 s0 u0 Wv0 wfkpf7_1 tvkpf7_1 p1 q1 Wl1 wfkpf8_1 tvkpf8_1 s1 u1 Wv1 wfkpf7_2 tvkpf7_2 p2 q2 Wl2 wfkpf8_2 tvkpf8_2 s2 u2 Wv2 j (vs j)) ∧ Ows Wv2.heap.size [(10, 12), (11, 13)] (fun _ => 23) (fun _ => #[.int .i64 0, .int .i64 0]) (fun k => match k with | 10 => #[.int .i64 (wrap64 (p1 - p0)), .int .i64 (wrap64 (q1 - q0))] | 11 => #[.int .i64 (wrap64 (p2 - p0)), .int .i64 (wrap64 (q2 - q0))] | _ => #[]) D vs w') 14 (by kernel_rfl) (by kernel_rfl) (by kernel_rfl) ?startkpf9 ?stepkpf9 ?finkpf9
                case startkpf9 => exact ⟨fun _ => undef, rfl, Ext.drew _, fun _ h => h.elim, ows_none⟩
                case stepkpf9 =>
                  rintro i o D ac wz hin hio hnd he ⟨vs, rfl, k0, hF, hO⟩
                  rcases i with _ | _ | _ | _ | _ | _ | _ | _ | _ | _ | _ | _ | _ | _ | i
                  rotate_left 14
                  · exact absurd hin (by omega)
                  all_goals (obtain rfl := Option.some.inj (hio.symm.trans (by rfl)))
                  · refine step_yes (wanted_of_none rfl _) ?_
                    exact wp_of_run (run_ixa3_2 (.tmp 3) (.const (.int .i64 1)) rfl _ _ rfl 1 rfl (by decide)) ⟨upd vs 0 _, rfl, k0, inv_same hF rfl, ows_pure hO (Ext.refl _) rfl⟩
                  · refine step_yes (wanted_of_none rfl _) ?_
                    exact wp_of_run (run_ld_pt (.tmp 48) rfl _ _ (by exact (hF 0 (he ⟨0, .data⟩ (by simp) rfl))) _ _ ((k0.row L_Wv2.out).cell 2) ((k0.row L_Wv2.out).cell 3)) ⟨upd vs 1 _, rfl, k0, inv_same hF rfl, ows_pure hO (Ext.refl _) rfl⟩
                  · refine step_yes (wanted_of_none rfl _) ?_
                    exact wp_of_run (run_ixa3_2 (.tmp 3) (.const (.int .i64 0)) rfl _ _ rfl 0 rfl (by decide)) ⟨upd vs 2 _, rfl, k0, inv_same hF rfl, ows_pure hO (Ext.refl _) rfl⟩
                  · refine step_yes (wanted_of_none rfl _) ?_
                    exact wp_of_run (run_ld_pt (.tmp 50) rfl _ _ (by exact (hF 2 (he ⟨2, .data⟩ (by simp) rfl))) _ _ ((k0.row L_Wv2.out).cell 0) ((k0.row L_Wv2.out).cell 1)) ⟨upd vs 3 _, rfl, k0, inv_same hF rfl, ows_pure hO (Ext.refl _) rfl⟩
                  · refine step_yes (wanted_of_none rfl _) ?_
                    refine wp_of_callE (run_enter2 13 (.tmp 49) (.tmp 51) _ rfl _ _ (by exact (hF 1 (he ⟨1, .data⟩ (by simp) rfl))) (by exact (hF 3 (he ⟨3, .data⟩ (by simp) rfl))) (fun args w => enters_of Try.func13 (by kernel_rfl) rfl args w)) (vsub p1 q1 p0 q0 wz) ?_
                    rintro e w' ⟨rfl, hx⟩
                    exact ⟨_, rfl, upd vs 4 _, rfl, k0.trans hx, inv_same hF rfl, ows_pure hO hx rfl⟩
                  · refine step_yes (wanted_of_none rfl _) ?_
                    exact wp_of_run (run_ixa3_2 (.tmp 3) (.const (.int .i64 2)) rfl _ _ rfl 2 rfl (by decide)) ⟨upd vs 5 _, rfl, k0, inv_same hF rfl, ows_pure hO (Ext.refl _) rfl⟩
                  · refine step_yes (wanted_of_none rfl _) ?_
                    exact wp_of_run (run_ld_pt (.tmp 53) rfl _ _ (by exact (hF 5 (he ⟨5, .data⟩ (by simp) rfl))) _ _ ((k0.row L_Wv2.out).cell 4) ((k0.row L_Wv2.out).cell 5)) ⟨upd vs 6 _, rfl, k0, inv_same hF rfl, ows_pure hO (Ext.refl _) rfl⟩
                  · refine step_yes (wanted_of_none rfl _) ?_
                    exact wp_of_run (run_ixa3_2 (.tmp 3) (.const (.int .i64 0)) rfl _ _ rfl 0 rfl (by decide)) ⟨upd vs 7 _, rfl, k0, inv_same hF rfl, ows_pure hO (Ext.refl _) rfl⟩
                  · refine step_yes (wanted_of_none rfl _) ?_
                    exact wp_of_run (run_ld_pt (.tmp 55) rfl _ _ (by exact (hF 7 (he ⟨7, .data⟩ (by simp) rfl))) _ _ ((k0.row L_Wv2.out).cell 0) ((k0.row L_Wv2.out).cell 1)) ⟨upd vs 8 _, rfl, k0, inv_same hF rfl, ows_pure hO (Ext.refl _) rfl⟩
                  · refine step_yes (wanted_of_none rfl _) ?_
                    refine wp_of_callE (run_enter2 13 (.tmp 54) (.tmp 56) _ rfl _ _ (by exact (hF 6 (he ⟨6, .data⟩ (by simp) rfl))) (by exact (hF 8 (he ⟨8, .data⟩ (by simp) rfl))) (fun args w => enters_of Try.func13 (by kernel_rfl) rfl args w)) (vsub p2 q2 p0 q0 wz) ?_
                    rintro e w' ⟨rfl, hx⟩
                    exact ⟨_, rfl, upd vs 9 _, rfl, k0.trans hx, inv_same hF rfl, ows_pure hO hx rfl⟩
                  · refine step_yes (wanted_of_none rfl _) ?_
                    exact wp_of_run (run_alloc_pt rfl) ⟨upd vs 10 _, rfl, k0.trans (Ext.alloc _ _), inv_same hF trivial, ows_alloc (s := 12) rfl (by simp) hO (Below.size k0) hnd⟩
                  · refine step_yes (wanted_of_none rfl _) ?_
                    exact wp_of_run (run_alloc_pt rfl) ⟨upd vs 11 _, rfl, k0.trans (Ext.alloc _ _), inv_same hF trivial, ows_alloc (s := 13) rfl (by simp) hO (Below.size k0) hnd⟩
                  · refine step_yes (wanted_of_none rfl _) ?_
                    obtain ⟨g, hg, hle, hr, hO2⟩ := ows_store (a := 10) (s := 12) rfl (by simp) hO (he ⟨10, .data⟩ (by simp) rfl) hnd
                    exact wp_of_skip (run_st_pt (.tmp 8) (.tmp 52) rfl g 0 (by exact hg) _ _ (by exact (hF 4 (he ⟨4, .data⟩ (by simp) rfl))) _ _ _ _ (#[.int .i64 (wrap64 (p1 - p0)), .int .i64 (wrap64 (q1 - q0))]) hr rfl rfl rfl) ⟨vs, rfl, ext_setRow k0 (by exact hle) _, inv_skip hF trivial, hO2⟩
                  · refine step_yes (wanted_of_none rfl _) ?_
                    obtain ⟨g, hg, hle, hr, hO2⟩ := ows_store (a := 11) (s := 13) rfl (by simp) hO (he ⟨11, .data⟩ (by simp) rfl) hnd
                    exact wp_of_skip (run_st_pt (.tmp 9) (.tmp 57) rfl g 0 (by exact hg) _ _ (by exact (hF 9 (he ⟨9, .data⟩ (by simp) rfl))) _ _ _ _ (#[.int .i64 (wrap64 (p2 - p0)), .int .i64 (wrap64 (q2 - q0))]) hr rfl rfl rfl) ⟨vs, rfl, ext_setRow k0 (by exact hle) _, inv_skip hF trivial, hO2⟩
                case finkpf9 =>
                  rintro D ac wfkpf9 hD ⟨vs, rfl, k0, hF, hO⟩
                  change wpList _ _ _ [] _ _
                  unfold wpList
                  have E11 := Lib.hid (EWv2.out.trans k0)
                  have M_11 := Lib.hid (k0.row M_Wv2.out)
                  have L_11 := Lib.hid (k0.row L_Wv2.out)
                  have V_11 := Lib.hid (k0.row V_Wv2.out)
                  clear EWv2 M_Wv2 L_Wv2 V_Wv2
                  clear k0
                  obtain ⟨ga, hga, -, rga⟩ := ows_get (a := 10) (s := 12) hO (by simp) (hD 10 (by decide)) (hD 12 (by decide))
                  rw [hga]
                  obtain ⟨gb, hgb, -, rgb⟩ := ows_get (a := 11) (s := 13) hO (by simp) (hD 11 (by decide)) (hD 13 (by decide))
                  rw [hgb]
                  clear hF hD hO hga hgb
                  generalize vs = tvk9
                  have GA_0 := Lib.hid rga
                  clear rga
                  have GB_0 := Lib.hid rgb
                  clear rgb
                  go_wp2_with fail
                  refine wp_region_tail (fun D ac w' => ∃ vs : Nat → Value, ac = { tmps := #[Value.agg #[Value.int IntKind.i64 x, Value.int IntKind.i64 y, Value.int IntKind.i64 t, Value.bool false], Value.agg #[Value.int IntKind.i64 x0, Value.int IntKind.i64 y0, Value.int IntKind.i64 x1, Value.int IntKind.i64 y1, Value.int IntKind.i64 x2, Value.int IntKind.i64 y2], Value.pointer (some { block := w.heap.size, off := 0 }), Value.pointer (some { block := w.heap.size + 1, off := 0 }), Value.bool false, Value.bool true, Value.pointer (some { block := w1.heap.size, off := 0 }), Value.int IntKind.i64 3, Value.pointer (some { block := ga, off := 0 }), Value.pointer (some { block := gb, off := 0 }), vs 10, vs 11, undef, Value.bool true, tvkpf3 0, tvkpf3 1, tvkpf3 2, tvkpf3 3, tvkpf3 4, tvkpf3 5, tvkpf3 6, tvkpf3 7, Value.agg #[Value.int IntKind.i64 mx, Value.int IntKind.i64 my], Value.pointer (some { block := w.heap.size, off := 0 }), Value.int IntKind.i64 3, Value.bool false, Value.int IntKind.i64 2, Value.int IntKind.i64 3, Value.int IntKind.i64 2, tvkpf7_2 1, tvkpf7_2 2, tvkpf7_2 3, tvkpf7_2 4, tvkpf7_2 5, tvkpf7_2 6, tvkpf7_2 7, tvkpf7_2 8, tvkpf7_2 9, tvkpf7_2 10, Value.agg #[Value.int IntKind.i64 p2, Value.int IntKind.i64 q2], Value.pointer (some { block := w.heap.size + 1, off := 4 }), Value.int IntKind.i64 2, tvkpf8_2 1, tvkpf8_2 2, tvkpf8_2 3, tvkpf8_2 4, Value.agg #[Value.int IntKind.i64 s2, Value.int IntKind.i64 u2], Value.pointer (some { block := w1.heap.size, off := 4 }), tvk9 0, tvk9 1, tvk9 2, tvk9 3, tvk9 4, tvk9 5, tvk9 6, tvk9 7, tvk9 8, tvk9 9, vs 0, vs 1, vs 2, vs 3, vs 4, vs 5, vs 6, vs 7, vs 8, vs 9, undef, undef, undef, undef, undef, undef, undef, undef, undef, undef, undef, undef, undef, undef, undef, undef, undef, undef, undef, undef, undef, undef, undef, undef, undef, undef, undef, undef, undef, undef, undef, undef, undef, undef, undef, undef, undef, undef, undef, undef, undef, undef], defers := [] } ∧ Ext wfkpf9 w' ∧ (∀ j, D j → kpf10F w x y t x0 y0 x1 y1 x2 y2 W0 w1 W1 wfkpf3 tvkpf3 mx my Wm wfkpf7_0 tvkpf7_0 p0 q0 Wl0 wfkpf8_0 tvkpf8_0 s0 u0 Wv0 wfkpf7_1 tvkpf7_1 p1 q1 Wl1 wfkpf8_1 tvkpf8_1 s1 u1 Wv1 wfkpf7_2 tvkpf7_2 p2 q2 Wl2 wfkpf8_2 tvkpf8_2 s2 u2 Wv2 wfkpf9 ga gb tvk9 j (vs j)) ∧ Ows wfkpf9.heap.size [(10, 12), (11, 13)] (fun _ => 23) (fun _ => #[.int .i64 0, .int .i64 0]) (fun k => match k with | 10 => #[.int .i64 (wrap64 (s1 - s0)), .int .i64 (wrap64 (u1 - u0))] | 11 => #[.int .i64 (wrap64 (s2 - s0)), .int .i64 (wrap64 (u2 - u0))] | _ => #[]) D vs w') 14 (by kernel_rfl) (by kernel_rfl) (by kernel_rfl) ?startkpf10 ?stepkpf10 ?finkpf10
                  case startkpf10 => exact ⟨fun _ => undef, rfl, Ext.drew _, fun _ h => h.elim, ows_none⟩
                  case stepkpf10 =>
                    rintro i o D ac wz hin hio hnd he ⟨vs, rfl, k0, hF, hO⟩
                    rcases i with _ | _ | _ | _ | _ | _ | _ | _ | _ | _ | _ | _ | _ | _ | i
                    rotate_left 14
                    · exact absurd hin (by omega)
                    all_goals (obtain rfl := Option.some.inj (hio.symm.trans (by rfl)))
                    · refine step_yes (wanted_of_none rfl _) ?_
                      exact wp_of_run (run_ixa3_2 (.tmp 6) (.const (.int .i64 1)) rfl _ _ rfl 1 rfl (by decide)) ⟨upd vs 0 _, rfl, k0, inv_same hF rfl, ows_pure hO (Ext.refl _) rfl⟩
                    · refine step_yes (wanted_of_none rfl _) ?_
                      exact wp_of_run (run_ld_pt (.tmp 58) rfl _ _ (by exact (hF 0 (he ⟨0, .data⟩ (by simp) rfl))) _ _ ((k0.row V_11.out).cell 2) ((k0.row V_11.out).cell 3)) ⟨upd vs 1 _, rfl, k0, inv_same hF rfl, ows_pure hO (Ext.refl _) rfl⟩
                    · refine step_yes (wanted_of_none rfl _) ?_
                      exact wp_of_run (run_ixa3_2 (.tmp 6) (.const (.int .i64 0)) rfl _ _ rfl 0 rfl (by decide)) ⟨upd vs 2 _, rfl, k0, inv_same hF rfl, ows_pure hO (Ext.refl _) rfl⟩
                    · refine step_yes (wanted_of_none rfl _) ?_
                      exact wp_of_run (run_ld_pt (.tmp 60) rfl _ _ (by exact (hF 2 (he ⟨2, .data⟩ (by simp) rfl))) _ _ ((k0.row V_11.out).cell 0) ((k0.row V_11.out).cell 1)) ⟨upd vs 3 _, rfl, k0, inv_same hF rfl, ows_pure hO (Ext.refl _) rfl⟩
                    · refine step_yes (wanted_of_none rfl _) ?_
                      refine wp_of_callE (run_enter2 13 (.tmp 59) (.tmp 61) _ rfl _ _ (by exact (hF 1 (he ⟨1, .data⟩ (by simp) rfl))) (by exact (hF 3 (he ⟨3, .data⟩ (by simp) rfl))) (fun args w => enters_of Try.func13 (by kernel_rfl) rfl args w)) (vsub s1 u1 s0 u0 wz) ?_
                      rintro e w' ⟨rfl, hx⟩
                      exact ⟨_, rfl, upd vs 4 _, rfl, k0.trans hx, inv_same hF rfl, ows_pure hO hx rfl⟩
                    · refine step_yes (wanted_of_none rfl _) ?_
                      exact wp_of_run (run_ixa3_2 (.tmp 6) (.const (.int .i64 2)) rfl _ _ rfl 2 rfl (by decide)) ⟨upd vs 5 _, rfl, k0, inv_same hF rfl, ows_pure hO (Ext.refl _) rfl⟩
                    · refine step_yes (wanted_of_none rfl _) ?_
                      exact wp_of_run (run_ld_pt (.tmp 63) rfl _ _ (by exact (hF 5 (he ⟨5, .data⟩ (by simp) rfl))) _ _ ((k0.row V_11.out).cell 4) ((k0.row V_11.out).cell 5)) ⟨upd vs 6 _, rfl, k0, inv_same hF rfl, ows_pure hO (Ext.refl _) rfl⟩
                    · refine step_yes (wanted_of_none rfl _) ?_
                      exact wp_of_run (run_ixa3_2 (.tmp 6) (.const (.int .i64 0)) rfl _ _ rfl 0 rfl (by decide)) ⟨upd vs 7 _, rfl, k0, inv_same hF rfl, ows_pure hO (Ext.refl _) rfl⟩
                    · refine step_yes (wanted_of_none rfl _) ?_
                      exact wp_of_run (run_ld_pt (.tmp 65) rfl _ _ (by exact (hF 7 (he ⟨7, .data⟩ (by simp) rfl))) _ _ ((k0.row V_11.out).cell 0) ((k0.row V_11.out).cell 1)) ⟨upd vs 8 _, rfl, k0, inv_same hF rfl, ows_pure hO (Ext.refl _) rfl⟩
                    · refine step_yes (wanted_of_none rfl _) ?_
                      refine wp_of_callE (run_enter2 13 (.tmp 64) (.tmp 66) _ rfl _ _ (by exact (hF 6 (he ⟨6, .data⟩ (by simp) rfl))) (by exact (hF 8 (he ⟨8, .data⟩ (by simp) rfl))) (fun args w => enters_of Try.func13 (by kernel_rfl) rfl args w)) (vsub s2 u2 s0 u0 wz) ?_
                      rintro e w' ⟨rfl, hx⟩
                      exact ⟨_, rfl, upd vs 9 _, rfl, k0.trans hx, inv_same hF rfl, ows_pure hO hx rfl⟩
                    · refine step_yes (wanted_of_none rfl _) ?_
                      exact wp_of_run (run_alloc_pt rfl) ⟨upd vs 10 _, rfl, k0.trans (Ext.alloc _ _), inv_same hF trivial, ows_alloc (s := 12) rfl (by simp) hO (Below.size k0) hnd⟩
                    · refine step_yes (wanted_of_none rfl _) ?_
                      exact wp_of_run (run_alloc_pt rfl) ⟨upd vs 11 _, rfl, k0.trans (Ext.alloc _ _), inv_same hF trivial, ows_alloc (s := 13) rfl (by simp) hO (Below.size k0) hnd⟩
                    · refine step_yes (wanted_of_none rfl _) ?_
                      obtain ⟨g, hg, hle, hr, hO2⟩ := ows_store (a := 10) (s := 12) rfl (by simp) hO (he ⟨10, .data⟩ (by simp) rfl) hnd
                      exact wp_of_skip (run_st_pt (.tmp 10) (.tmp 62) rfl g 0 (by exact hg) _ _ (by exact (hF 4 (he ⟨4, .data⟩ (by simp) rfl))) _ _ _ _ (#[.int .i64 (wrap64 (s1 - s0)), .int .i64 (wrap64 (u1 - u0))]) hr rfl rfl rfl) ⟨vs, rfl, ext_setRow k0 (by exact hle) _, inv_skip hF trivial, hO2⟩
                    · refine step_yes (wanted_of_none rfl _) ?_
                      obtain ⟨g, hg, hle, hr, hO2⟩ := ows_store (a := 11) (s := 13) rfl (by simp) hO (he ⟨11, .data⟩ (by simp) rfl) hnd
                      exact wp_of_skip (run_st_pt (.tmp 11) (.tmp 67) rfl g 0 (by exact hg) _ _ (by exact (hF 9 (he ⟨9, .data⟩ (by simp) rfl))) _ _ _ _ (#[.int .i64 (wrap64 (s2 - s0)), .int .i64 (wrap64 (u2 - u0))]) hr rfl rfl rfl) ⟨vs, rfl, ext_setRow k0 (by exact hle) _, inv_skip hF trivial, hO2⟩
                  case finkpf10 =>
                    rintro D ac wfkpf10 hD ⟨vs, rfl, k0, hF, hO⟩
                    change wpList _ _ _ [] _ _
                    unfold wpList
                    have E12 := Lib.hid (E11.out.trans k0)
                    have M_12 := Lib.hid (k0.row M_11.out)
                    have L_12 := Lib.hid (k0.row L_11.out)
                    have V_12 := Lib.hid (k0.row V_11.out)
                    have GA_12 := Lib.hid (k0.row GA_0.out)
                    have GB_12 := Lib.hid (k0.row GB_0.out)
                    clear E11 M_11 L_11 V_11 GA_0 GB_0
                    clear k0
                    obtain ⟨gc, hgc, -, rgc⟩ := ows_get (a := 10) (s := 12) hO (by simp) (hD 10 (by decide)) (hD 12 (by decide))
                    rw [hgc]
                    obtain ⟨gd, hgd, -, rgd⟩ := ows_get (a := 11) (s := 13) hO (by simp) (hD 11 (by decide)) (hD 13 (by decide))
                    rw [hgd]
                    clear hF hD hO hgc hgd
                    generalize vs = tvk10
                    have GC_0 := Lib.hid rgc
                    clear rgc
                    have GD_0 := Lib.hid rgd
                    clear rgd
                    have hc3 := M_12.out.cell 3
                    simp at hc3
                    go_wp2_with fail
                    clear hc3
                    refine wp_region_tail (fun D ac w' => ∃ vs : Nat → Value, ac = { tmps := #[Value.agg #[Value.int IntKind.i64 x, Value.int IntKind.i64 y, Value.int IntKind.i64 t, Value.bool false], Value.agg #[Value.int IntKind.i64 x0, Value.int IntKind.i64 y0, Value.int IntKind.i64 x1, Value.int IntKind.i64 y1, Value.int IntKind.i64 x2, Value.int IntKind.i64 y2], Value.pointer (some { block := w.heap.size, off := 0 }), Value.pointer (some { block := w.heap.size + 1, off := 0 }), Value.bool false, Value.bool true, Value.pointer (some { block := w1.heap.size, off := 0 }), Value.int IntKind.i64 3, Value.pointer (some { block := ga, off := 0 }), Value.pointer (some { block := gb, off := 0 }), Value.pointer (some { block := gc, off := 0 }), Value.pointer (some { block := gd, off := 0 }), Value.int IntKind.i64 1, Value.bool true, tvkpf3 0, tvkpf3 1, tvkpf3 2, tvkpf3 3, tvkpf3 4, tvkpf3 5, tvkpf3 6, tvkpf3 7, Value.agg #[Value.int IntKind.i64 mx, Value.int IntKind.i64 my], Value.pointer (some { block := w.heap.size, off := 0 }), Value.int IntKind.i64 3, Value.bool false, Value.int IntKind.i64 2, Value.int IntKind.i64 3, Value.int IntKind.i64 2, tvkpf7_2 1, tvkpf7_2 2, tvkpf7_2 3, tvkpf7_2 4, tvkpf7_2 5, tvkpf7_2 6, tvkpf7_2 7, tvkpf7_2 8, tvkpf7_2 9, tvkpf7_2 10, Value.agg #[Value.int IntKind.i64 p2, Value.int IntKind.i64 q2], Value.pointer (some { block := w.heap.size + 1, off := 4 }), Value.int IntKind.i64 2, tvkpf8_2 1, tvkpf8_2 2, tvkpf8_2 3, tvkpf8_2 4, Value.agg #[Value.int IntKind.i64 s2, Value.int IntKind.i64 u2], Value.pointer (some { block := w1.heap.size, off := 4 }), tvk9 0, tvk9 1, tvk9 2, tvk9 3, tvk9 4, tvk9 5, tvk9 6, tvk9 7, tvk9 8, tvk9 9, tvk10 0, tvk10 1, tvk10 2, tvk10 3, tvk10 4, tvk10 5, tvk10 6, tvk10 7, tvk10 8, tvk10 9, Value.pointer (some { block := w.heap.size, off := 3 }), Value.bool false, vs 0, vs 1, vs 2, vs 3, vs 4, vs 5, vs 6, vs 7, vs 8, vs 9, vs 10, vs 11, vs 12, vs 13, vs 14, vs 15, vs 16, vs 17, vs 18, vs 19, vs 20, vs 21, vs 22, vs 23, vs 24, vs 25, vs 26, vs 27, vs 28, vs 29, vs 30, vs 31, vs 32, vs 33, vs 34, vs 35, vs 36, vs 37, vs 38, vs 39], defers := [] } ∧ Ext wfkpf10 w' ∧ ∀ j, D j → kpf14F w x y t x0 y0 x1 y1 x2 y2 W0 w1 W1 wfkpf3 tvkpf3 mx my Wm wfkpf7_0 tvkpf7_0 p0 q0 Wl0 wfkpf8_0 tvkpf8_0 s0 u0 Wv0 wfkpf7_1 tvkpf7_1 p1 q1 Wl1 wfkpf8_1 tvkpf8_1 s1 u1 Wv1 wfkpf7_2 tvkpf7_2 p2 q2 Wl2 wfkpf8_2 tvkpf8_2 s2 u2 Wv2 wfkpf9 ga gb tvk9 wfkpf10 gc gd tvk10 j (vs j)) 40 (by kernel_rfl) (by kernel_rfl) (by kernel_rfl) ?startkpf14 ?stepkpf14 ?finkpf14
                    case startkpf14 => exact ⟨fun _ => undef, rfl, Ext.drew _, fun _ h => h.elim⟩
                    case stepkpf14 =>
                      rintro i o D ac wz hin hio hnd he ⟨vs, rfl, k0, hF⟩
                      rcases i with _ | _ | _ | _ | _ | _ | _ | _ | _ | _ | _ | _ | _ | _ | _ | _ | _ | _ | _ | _ | _ | _ | _ | _ | _ | _ | _ | _ | _ | _ | _ | _ | _ | _ | _ | _ | _ | _ | _ | _ | i
                      rotate_left 40
                      · exact absurd hin (by omega)
                      all_goals (obtain rfl := Option.some.inj (hio.symm.trans (by rfl)))
                      · refine step_yes (wanted_of_none rfl _) ?_
                        exact wp_of_run (run_mov (.tmp 5) rfl _ rfl) ⟨upd vs 0 _, rfl, k0, inv_same hF rfl⟩
                      · refine step_yes (wanted_of_none rfl _) ?_
                        exact wp_of_run (run_mov (.tmp 70) rfl _ (by exact (hF 0 (he ⟨0, .data⟩ (by simp) rfl)))) ⟨upd vs 1 _, rfl, k0, inv_same hF rfl⟩
                      · refine step_yes (wanted_g (j := 1) (d := 71) rfl rfl rfl (hF 1 (he ⟨1, .guard⟩ (by simp) rfl))) ?_
                        exact wp_of_run (run_ld_pt (.tmp 8) rfl _ _ rfl _ _ ((k0.row GA_12.out).cell 0) ((k0.row GA_12.out).cell 1)) ⟨upd vs 2 _, rfl, k0, inv_same hF rfl⟩
                      · refine step_yes (wanted_g (j := 1) (d := 71) rfl rfl rfl (hF 1 (he ⟨1, .guard⟩ (by simp) rfl))) ?_
                        exact wp_of_run (run_ld_pt (.tmp 9) rfl _ _ rfl _ _ ((k0.row GB_12.out).cell 0) ((k0.row GB_12.out).cell 1)) ⟨upd vs 3 _, rfl, k0, inv_same hF rfl⟩
                      · refine step_yes (wanted_g (j := 1) (d := 71) rfl rfl rfl (hF 1 (he ⟨1, .chain⟩ (by simp) rfl))) ?_
                        refine wp_of_callE (run_enter2 17 (.tmp 72) (.tmp 73) _ rfl _ _ (by exact (hF 2 (he ⟨2, .data⟩ (by simp) rfl))) (by exact (hF 3 (he ⟨3, .data⟩ (by simp) rfl))) (fun args w => enters_of Try.func17 (by kernel_rfl) rfl args w)) (vdot (wrap64 (p1 - p0)) (wrap64 (q1 - q0)) (wrap64 (p2 - p0)) (wrap64 (q2 - q0)) wz) ?_
                        rintro e w' ⟨rfl, hx⟩
                        exact ⟨_, rfl, upd vs 4 _, rfl, k0.trans hx, inv_same hF rfl⟩
                      · refine step_yes (wanted_g (j := 1) (d := 71) rfl rfl rfl (hF 1 (he ⟨1, .guard⟩ (by simp) rfl))) ?_
                        exact wp_of_run (run_ld_pt (.tmp 10) rfl _ _ rfl _ _ ((k0.row GC_0.out).cell 0) ((k0.row GC_0.out).cell 1)) ⟨upd vs 5 _, rfl, k0, inv_same hF rfl⟩
                      · refine step_yes (wanted_g (j := 1) (d := 71) rfl rfl rfl (hF 1 (he ⟨1, .guard⟩ (by simp) rfl))) ?_
                        exact wp_of_run (run_ld_pt (.tmp 11) rfl _ _ rfl _ _ ((k0.row GD_0.out).cell 0) ((k0.row GD_0.out).cell 1)) ⟨upd vs 6 _, rfl, k0, inv_same hF rfl⟩
                      · refine step_yes (wanted_g (j := 1) (d := 71) rfl rfl rfl (hF 1 (he ⟨1, .guard⟩ (by simp) rfl))) ?_
                        refine wp_of_callE (run_enter2 17 (.tmp 75) (.tmp 76) _ rfl _ _ (by exact (hF 5 (he ⟨5, .data⟩ (by simp) rfl))) (by exact (hF 6 (he ⟨6, .data⟩ (by simp) rfl))) (fun args w => enters_of Try.func17 (by kernel_rfl) rfl args w)) (vdot (wrap64 (s1 - s0)) (wrap64 (u1 - u0)) (wrap64 (s2 - s0)) (wrap64 (u2 - u0)) wz) ?_
                        rintro e w' ⟨rfl, hx⟩
                        exact ⟨_, rfl, upd vs 7 _, rfl, k0.trans hx, inv_same hF rfl⟩
                      · refine step_yes (wanted_g (j := 1) (d := 71) rfl rfl rfl (hF 1 (he ⟨1, .guard⟩ (by simp) rfl))) ?_
                        exact wp_of_run (run_eqi (.tmp 74) (.tmp 77) rfl _ _ (by exact (hF 4 (he ⟨4, .data⟩ (by simp) rfl))) (by exact (hF 7 (he ⟨7, .data⟩ (by simp) rfl))) _ (decide_eq_true (by rw [Qs0.out, Qu0.out, Qs1.out, Qu1.out, Qs2.out, Qu2.out]; exact keep_dot (t := t) (m := false) Bmx.out Bmy.out Bp0.out Bq0.out Bp1.out Bq1.out Bp2.out Bq2.out))) ⟨upd vs 8 _, rfl, k0, inv_same hF rfl⟩
                      · refine step_yes (wanted_of_none rfl _) ?_
                        exact wp_of_run (run_pick_t (.tmp 71) (.tmp 78) (.const (.bool false)) rfl (by exact (hF 1 (he ⟨1, .data⟩ (by simp) rfl))) _ (by exact (hF 8 (he ⟨8, .data⟩ (by simp) rfl)))) ⟨upd vs 9 _, rfl, k0, inv_same hF rfl⟩
                      · refine step_yes (wanted_of_none rfl _) ?_
                        exact wp_of_run (run_mov (.tmp 79) rfl _ (by exact (hF 9 (he ⟨9, .data⟩ (by simp) rfl)))) ⟨upd vs 10 _, rfl, k0, inv_same hF rfl⟩
                      · refine step_yes (wanted_g (j := 10) (d := 80) rfl rfl rfl (hF 10 (he ⟨10, .guard⟩ (by simp) rfl))) ?_
                        exact wp_of_run (run_ld_pt (.tmp 8) rfl _ _ rfl _ _ ((k0.row GA_12.out).cell 0) ((k0.row GA_12.out).cell 1)) ⟨upd vs 11 _, rfl, k0, inv_same hF rfl⟩
                      · refine step_yes (wanted_g (j := 10) (d := 80) rfl rfl rfl (hF 10 (he ⟨10, .guard⟩ (by simp) rfl))) ?_
                        exact wp_of_run (run_ld_pt (.tmp 9) rfl _ _ rfl _ _ ((k0.row GB_12.out).cell 0) ((k0.row GB_12.out).cell 1)) ⟨upd vs 12 _, rfl, k0, inv_same hF rfl⟩
                      · refine step_yes (wanted_g (j := 10) (d := 80) rfl rfl rfl (hF 10 (he ⟨10, .chain⟩ (by simp) rfl))) ?_
                        refine wp_of_callE (run_enter2 15 (.tmp 81) (.tmp 82) _ rfl _ _ (by exact (hF 11 (he ⟨11, .data⟩ (by simp) rfl))) (by exact (hF 12 (he ⟨12, .data⟩ (by simp) rfl))) (fun args w => enters_of Try.func15 (by kernel_rfl) rfl args w)) (vcross (wrap64 (p1 - p0)) (wrap64 (q1 - q0)) (wrap64 (p2 - p0)) (wrap64 (q2 - q0)) wz) ?_
                        rintro e w' ⟨rfl, hx⟩
                        exact ⟨_, rfl, upd vs 13 _, rfl, k0.trans hx, inv_same hF rfl⟩
                      · refine step_yes (wanted_g (j := 10) (d := 80) rfl rfl rfl (hF 10 (he ⟨10, .guard⟩ (by simp) rfl))) ?_
                        exact wp_of_run (run_mov (.tmp 12) rfl _ rfl) ⟨upd vs 14 _, rfl, k0, inv_same hF rfl⟩
                      · refine step_yes (wanted_g (j := 10) (d := 80) rfl rfl rfl (hF 10 (he ⟨10, .guard⟩ (by simp) rfl))) ?_
                        exact wp_of_run (run_ld_pt (.tmp 10) rfl _ _ rfl _ _ ((k0.row GC_0.out).cell 0) ((k0.row GC_0.out).cell 1)) ⟨upd vs 15 _, rfl, k0, inv_same hF rfl⟩
                      · refine step_yes (wanted_g (j := 10) (d := 80) rfl rfl rfl (hF 10 (he ⟨10, .guard⟩ (by simp) rfl))) ?_
                        exact wp_of_run (run_ld_pt (.tmp 11) rfl _ _ rfl _ _ ((k0.row GD_0.out).cell 0) ((k0.row GD_0.out).cell 1)) ⟨upd vs 16 _, rfl, k0, inv_same hF rfl⟩
                      · refine step_yes (wanted_g (j := 10) (d := 80) rfl rfl rfl (hF 10 (he ⟨10, .guard⟩ (by simp) rfl))) ?_
                        refine wp_of_callE (run_enter2 15 (.tmp 85) (.tmp 86) _ rfl _ _ (by exact (hF 15 (he ⟨15, .data⟩ (by simp) rfl))) (by exact (hF 16 (he ⟨16, .data⟩ (by simp) rfl))) (fun args w => enters_of Try.func15 (by kernel_rfl) rfl args w)) (vcross (wrap64 (s1 - s0)) (wrap64 (u1 - u0)) (wrap64 (s2 - s0)) (wrap64 (u2 - u0)) wz) ?_
                        rintro e w' ⟨rfl, hx⟩
                        exact ⟨_, rfl, upd vs 17 _, rfl, k0.trans hx, inv_same hF rfl⟩
                      · refine step_yes (wanted_g (j := 10) (d := 80) rfl rfl rfl (hF 10 (he ⟨10, .guard⟩ (by simp) rfl))) ?_
                        exact wp_of_run (run_muli (.tmp 84) (.tmp 87) rfl rfl _ _ (by exact (hF 14 (he ⟨14, .data⟩ (by simp) rfl))) (by exact (hF 17 (he ⟨17, .data⟩ (by simp) rfl)))) ⟨upd vs 18 _, rfl, k0, inv_same hF rfl⟩
                      · refine step_yes (wanted_g (j := 10) (d := 80) rfl rfl rfl (hF 10 (he ⟨10, .guard⟩ (by simp) rfl))) ?_
                        exact wp_of_run (run_eqi (.tmp 83) (.tmp 88) rfl _ _ (by exact (hF 13 (he ⟨13, .data⟩ (by simp) rfl))) (by exact (hF 18 (he ⟨18, .data⟩ (by simp) rfl))) _ (decide_eq_true (by rw [Qs0.out, Qu0.out, Qs1.out, Qu1.out, Qs2.out, Qu2.out]; exact keep_cross2 (t := t) (m := false) Bmx.out Bmy.out Bp0.out Bq0.out Bp1.out Bq1.out Bp2.out Bq2.out))) ⟨upd vs 19 _, rfl, k0, inv_same hF rfl⟩
                      · refine step_yes (wanted_of_none rfl _) ?_
                        exact wp_of_run (run_pick_t (.tmp 80) (.tmp 89) (.const (.bool false)) rfl (by exact (hF 10 (he ⟨10, .data⟩ (by simp) rfl))) _ (by exact (hF 19 (he ⟨19, .data⟩ (by simp) rfl)))) ⟨upd vs 20 _, rfl, k0, inv_same hF rfl⟩
                      · refine step_yes (wanted_of_none rfl _) ?_
                        exact wp_of_run (run_mov (.tmp 90) rfl _ (by exact (hF 20 (he ⟨20, .data⟩ (by simp) rfl)))) ⟨upd vs 21 _, rfl, k0, inv_same hF rfl⟩
                      · refine step_yes (wanted_g (j := 21) (d := 91) rfl rfl rfl (hF 21 (he ⟨21, .guard⟩ (by simp) rfl))) ?_
                        exact wp_of_run (run_ixa3_2 (.tmp 3) (.const (.int .i64 0)) rfl _ _ rfl 0 rfl (by decide)) ⟨upd vs 22 _, rfl, k0, inv_same hF rfl⟩
                      · refine step_yes (wanted_g (j := 21) (d := 91) rfl rfl rfl (hF 21 (he ⟨21, .guard⟩ (by simp) rfl))) ?_
                        exact wp_of_run (run_ld_pt (.tmp 92) rfl _ _ (by exact (hF 22 (he ⟨22, .data⟩ (by simp) rfl))) _ _ ((k0.row L_12.out).cell 0) ((k0.row L_12.out).cell 1)) ⟨upd vs 23 _, rfl, k0, inv_same hF rfl⟩
                      · refine step_yes (wanted_g (j := 21) (d := 91) rfl rfl rfl (hF 21 (he ⟨21, .guard⟩ (by simp) rfl))) ?_
                        exact wp_of_run (run_ixa3_2 (.tmp 3) (.const (.int .i64 1)) rfl _ _ rfl 1 rfl (by decide)) ⟨upd vs 24 _, rfl, k0, inv_same hF rfl⟩
                      · refine step_yes (wanted_g (j := 21) (d := 91) rfl rfl rfl (hF 21 (he ⟨21, .guard⟩ (by simp) rfl))) ?_
                        exact wp_of_run (run_ld_pt (.tmp 94) rfl _ _ (by exact (hF 24 (he ⟨24, .data⟩ (by simp) rfl))) _ _ ((k0.row L_12.out).cell 2) ((k0.row L_12.out).cell 3)) ⟨upd vs 25 _, rfl, k0, inv_same hF rfl⟩
                      · refine step_yes (wanted_g (j := 21) (d := 91) rfl rfl rfl (hF 21 (he ⟨21, .guard⟩ (by simp) rfl))) ?_
                        exact wp_of_run (run_ixa3_2 (.tmp 3) (.const (.int .i64 2)) rfl _ _ rfl 2 rfl (by decide)) ⟨upd vs 26 _, rfl, k0, inv_same hF rfl⟩
                      · refine step_yes (wanted_g (j := 21) (d := 91) rfl rfl rfl (hF 21 (he ⟨21, .guard⟩ (by simp) rfl))) ?_
                        exact wp_of_run (run_ld_pt (.tmp 96) rfl _ _ (by exact (hF 26 (he ⟨26, .data⟩ (by simp) rfl))) _ _ ((k0.row L_12.out).cell 4) ((k0.row L_12.out).cell 5)) ⟨upd vs 27 _, rfl, k0, inv_same hF rfl⟩
                      · refine step_yes (wanted_g (j := 21) (d := 91) rfl rfl rfl (hF 21 (he ⟨21, .chain⟩ (by simp) rfl))) ?_
                        refine wp_of_callE (run_enter3 19 (.tmp 93) (.tmp 95) (.tmp 97) _ rfl _ _ _ (by exact (hF 23 (he ⟨23, .data⟩ (by simp) rfl))) (by exact (hF 25 (he ⟨25, .data⟩ (by simp) rfl))) (by exact (hF 27 (he ⟨27, .data⟩ (by simp) rfl))) (fun args w => enters_of Try.func19 (by kernel_rfl) rfl args w)) (vside p0 q0 p1 q1 p2 q2 wz) ?_
                        rintro e w' ⟨rfl, hx⟩
                        exact ⟨_, rfl, upd vs 28 _, rfl, k0.trans hx, inv_same hF rfl⟩
                      · refine step_yes (wanted_g (j := 21) (d := 91) rfl rfl rfl (hF 21 (he ⟨21, .guard⟩ (by simp) rfl))) ?_
                        exact wp_of_run (run_mov (.tmp 12) rfl _ rfl) ⟨upd vs 29 _, rfl, k0, inv_same hF rfl⟩
                      · refine step_yes (wanted_g (j := 21) (d := 91) rfl rfl rfl (hF 21 (he ⟨21, .guard⟩ (by simp) rfl))) ?_
                        exact wp_of_run (run_ixa3_2 (.tmp 6) (.const (.int .i64 0)) rfl _ _ rfl 0 rfl (by decide)) ⟨upd vs 30 _, rfl, k0, inv_same hF rfl⟩
                      · refine step_yes (wanted_g (j := 21) (d := 91) rfl rfl rfl (hF 21 (he ⟨21, .guard⟩ (by simp) rfl))) ?_
                        exact wp_of_run (run_ld_pt (.tmp 100) rfl _ _ (by exact (hF 30 (he ⟨30, .data⟩ (by simp) rfl))) _ _ ((k0.row V_12.out).cell 0) ((k0.row V_12.out).cell 1)) ⟨upd vs 31 _, rfl, k0, inv_same hF rfl⟩
                      · refine step_yes (wanted_g (j := 21) (d := 91) rfl rfl rfl (hF 21 (he ⟨21, .guard⟩ (by simp) rfl))) ?_
                        exact wp_of_run (run_ixa3_2 (.tmp 6) (.const (.int .i64 1)) rfl _ _ rfl 1 rfl (by decide)) ⟨upd vs 32 _, rfl, k0, inv_same hF rfl⟩
                      · refine step_yes (wanted_g (j := 21) (d := 91) rfl rfl rfl (hF 21 (he ⟨21, .guard⟩ (by simp) rfl))) ?_
                        exact wp_of_run (run_ld_pt (.tmp 102) rfl _ _ (by exact (hF 32 (he ⟨32, .data⟩ (by simp) rfl))) _ _ ((k0.row V_12.out).cell 2) ((k0.row V_12.out).cell 3)) ⟨upd vs 33 _, rfl, k0, inv_same hF rfl⟩
                      · refine step_yes (wanted_g (j := 21) (d := 91) rfl rfl rfl (hF 21 (he ⟨21, .guard⟩ (by simp) rfl))) ?_
                        exact wp_of_run (run_ixa3_2 (.tmp 6) (.const (.int .i64 2)) rfl _ _ rfl 2 rfl (by decide)) ⟨upd vs 34 _, rfl, k0, inv_same hF rfl⟩
                      · refine step_yes (wanted_g (j := 21) (d := 91) rfl rfl rfl (hF 21 (he ⟨21, .guard⟩ (by simp) rfl))) ?_
                        exact wp_of_run (run_ld_pt (.tmp 104) rfl _ _ (by exact (hF 34 (he ⟨34, .data⟩ (by simp) rfl))) _ _ ((k0.row V_12.out).cell 4) ((k0.row V_12.out).cell 5)) ⟨upd vs 35 _, rfl, k0, inv_same hF rfl⟩
                      · refine step_yes (wanted_g (j := 21) (d := 91) rfl rfl rfl (hF 21 (he ⟨21, .guard⟩ (by simp) rfl))) ?_
                        refine wp_of_callE (run_enter3 19 (.tmp 101) (.tmp 103) (.tmp 105) _ rfl _ _ _ (by exact (hF 31 (he ⟨31, .data⟩ (by simp) rfl))) (by exact (hF 33 (he ⟨33, .data⟩ (by simp) rfl))) (by exact (hF 35 (he ⟨35, .data⟩ (by simp) rfl))) (fun args w => enters_of Try.func19 (by kernel_rfl) rfl args w)) (vside s0 u0 s1 u1 s2 u2 wz) ?_
                        rintro e w' ⟨rfl, hx⟩
                        exact ⟨_, rfl, upd vs 36 _, rfl, k0.trans hx, inv_same hF rfl⟩
                      · refine step_yes (wanted_g (j := 21) (d := 91) rfl rfl rfl (hF 21 (he ⟨21, .guard⟩ (by simp) rfl))) ?_
                        exact wp_of_run (run_muli (.tmp 99) (.tmp 106) rfl rfl _ _ (by exact (hF 29 (he ⟨29, .data⟩ (by simp) rfl))) (by exact (hF 36 (he ⟨36, .data⟩ (by simp) rfl)))) ⟨upd vs 37 _, rfl, k0, inv_same hF rfl⟩
                      · refine step_yes (wanted_g (j := 21) (d := 91) rfl rfl rfl (hF 21 (he ⟨21, .guard⟩ (by simp) rfl))) ?_
                        exact wp_of_run (run_eqi (.tmp 98) (.tmp 107) rfl _ _ (by exact (hF 28 (he ⟨28, .data⟩ (by simp) rfl))) (by exact (hF 37 (he ⟨37, .data⟩ (by simp) rfl))) _ (decide_eq_true (by rw [Qs0.out, Qu0.out, Qs1.out, Qu1.out, Qs2.out, Qu2.out]; exact keep_side (t := t) (m := false) Bmx.out Bmy.out Bp0.out Bq0.out Bp1.out Bq1.out Bp2.out Bq2.out))) ⟨upd vs 38 _, rfl, k0, inv_same hF rfl⟩
                      · refine step_yes (wanted_of_none rfl _) ?_
                        exact wp_of_run (run_pick_t (.tmp 91) (.tmp 108) (.const (.bool false)) rfl (by exact (hF 21 (he ⟨21, .data⟩ (by simp) rfl))) _ (by exact (hF 38 (he ⟨38, .data⟩ (by simp) rfl)))) ⟨upd vs 39 _, rfl, k0, inv_same hF rfl⟩
                    case finkpf14 =>
                      rintro D ac wfkpf14 hD ⟨vs, rfl, k0, hF⟩
                      change wpList _ _ _ [_] _ _
                      have hl39 : vs 39 = .bool true := hF 39 (hD 39 (by decide))
                      rw [hl39]
                      clear hl39
                      clear hF hD
                      generalize vs = tvkpf14
                      have E13 := Lib.hid (E12.out.trans k0)
                      have M_13 := Lib.hid (k0.row M_12.out)
                      have L_13 := Lib.hid (k0.row L_12.out)
                      have V_13 := Lib.hid (k0.row V_12.out)
                      have GA_13 := Lib.hid (k0.row GA_12.out)
                      have GB_13 := Lib.hid (k0.row GB_12.out)
                      have GC_13 := Lib.hid (k0.row GC_0.out)
                      have GD_13 := Lib.hid (k0.row GD_0.out)
                      clear E12 M_12 L_12 V_12 GA_12 GB_12 GC_0 GD_0
                      clear k0
                      go_wp2_with fail
                      go_ret
                      exact ⟨rfl, E13.out⟩

theorem vecKeeps_walk (x y t : Int) (m : Bool) (x0 y0 x1 y1 x2 y2 : Int) (w : World) : Calls Try.prog 6 #[.agg #[.int .i64 x, .int .i64 y, .int .i64 t, .bool m], .agg #[.int .i64 x0, .int .i64 y0, .int .i64 x1, .int .i64 y1, .int .i64 x2, .int .i64 y2]] w fun e w' => e = .returned (.bool true) ∧ Ext w w' := by
  cases m
  · exact vecKeeps_f x y t x0 y0 x1 y1 x2 y2 w
  · exact vecKeeps_t x y t x0 y0 x1 y1 x2 y2 w

end Go.Proofs.Ytapnoijnegcmfaa
