/- Edges that are moved: mathematics. -/
import Derived.Test.YtpmdmcdjhibblaaEdG
set_option linter.all false
namespace Go.Proofs.Ytpmdmcdjhibblaa.Sx
open Go Go.RowKit

def mvX (r : Int) (m : Bool) (a b : Int) : Int := if r = 1 then -b else if r = 2 then -(if m then -a else a) else if r = 3 then b else if m then -a else a
def mvY (r : Int) (m : Bool) (a b : Int) : Int := if r = 1 then (if m then -a else a) else if r = 2 then -b else if r = 3 then -(if m then -a else a) else b
theorem wr {n : Int} (h1 : -4611686018427387904 ≤ n) (h2 : n ≤ 4611686018427387904) : wrap64 n = n := by unfold wrap64; omega
theorem ap_mv {x y t a b : Int} {m : Bool} (hx : -1000000 ≤ x ∧ x ≤ 1000000) (hy : -1000000 ≤ y ∧ y ≤ 1000000) (ha : -1000000 ≤ a ∧ a ≤ 1000000) (hb : -1000000 ≤ b ∧ b ≤ 1000000) :
    apX x t m a b = x + mvX (t % 4) m a b ∧ apY y t m a b = y + mvY (t % 4) m a b := by
  have h4 : t % 4 = 0 ∨ t % 4 = 1 ∨ t % 4 = 2 ∨ t % 4 = 3 := by omega
  have e1 : wrap64 (-a) = -a := wr (by omega) (by omega)
  have e2 : wrap64 (-b) = -b := wr (by omega) (by omega)
  have e3 : wrap64 (- -a) = - -a := wr (by omega) (by omega)
  rcases h4 with h | h | h | h <;> cases m <;>
    simp only [apX, apY, tuX, tuY, miX, mvX, mvY, h, if_true, if_false, Bool.false_eq_true, Int.reduceEq, e1, e2, e3] <;>
    exact ⟨(wr (by omega) (by omega)).trans (by omega), (wr (by omega) (by omega)).trans (by omega)⟩
/-- A moved edge. -/
structure Mvd (r : Int) (m : Bool) (x y k k' ax ay bx by' cx cy ax1 ay1 bx1 by1 cx1 cy1 : Int) : Prop where
  rr : 0 ≤ r ∧ r < 4
  k0 : m = false → k' = k
  k1 : m = true → revK k k'
  a : ax1 = x + mvX r m ax ay ∧ ay1 = y + mvY r m ax ay
  b : bx1 = x + mvX r m bx by' ∧ by1 = y + mvY r m bx by'
  c : k ≠ 1 → cx1 = x + mvX r m cx cy ∧ cy1 = y + mvY r m cx cy
  c1 : k = 1 → cx1 = cx ∧ cy1 = cy
  ok : okP k ax ay bx by' cx cy
  bd : -200 ≤ ax ∧ ax ≤ 200 ∧ -200 ≤ ay ∧ ay ≤ 200 ∧ -200 ≤ bx ∧ bx ≤ 200 ∧ -200 ≤ by' ∧ by' ≤ 200 ∧ -200 ≤ cx ∧ cx ≤ 200 ∧ -200 ≤ cy ∧ cy ≤ 200
  xy : -1000 ≤ x ∧ x ≤ 1000 ∧ -1000 ≤ y ∧ y ≤ 1000
section
variable {r x y k k' ax ay bx by' cx cy ax1 ay1 bx1 by1 cx1 cy1 px py px1 py1 : Int} {m : Bool}
theorem Mvd.kk (h : Mvd r m x y k k' ax ay bx by' cx cy ax1 ay1 bx1 by1 cx1 cy1) : (m = false ∧ k' = k) ∨ (m = true ∧ revK k k') := by
  cases hm : m
  · exact .inl ⟨rfl, h.k0 hm⟩
  · exact .inr ⟨rfl, h.k1 hm⟩
set_option maxHeartbeats 4000000 in
theorem Mvd.ok' (h : Mvd r m x y k k' ax ay bx by' cx cy ax1 ay1 bx1 by1 cx1 cy1) : okP k' ax1 ay1 bx1 by1 cx1 cy1 := by
  have hk := h.kk
  obtain ⟨hr, -, -, ⟨a1, a2⟩, ⟨b1, b2⟩, hc, hc1, ho, hb, hx⟩ := h
  simp only [okP, rightP, lineP, arcP, revK] at *
  have h4 : r = 0 ∨ r = 1 ∨ r = 2 ∨ r = 3 := by omega
  by_cases h1 : k = 1
  · obtain ⟨c1, c2⟩ := hc1 h1
    clear hc hc1
    cases m <;> rcases h4 with rfl | rfl | rfl | rfl <;> simp [mvX, mvY] at a1 a2 b1 b2 hk <;> omega
  · obtain ⟨c1, c2⟩ := hc h1
    clear hc hc1
    cases m <;> rcases h4 with rfl | rfl | rfl | rfl <;> simp [mvX, mvY] at a1 a2 b1 b2 c1 c2 hk <;> omega
theorem Mvd.radius (h : Mvd r m x y k k' ax ay bx by' cx cy ax1 ay1 bx1 by1 cx1 cy1) : radiusZ k' ax1 ay1 bx1 by1 cx1 cy1 = radiusZ k ax ay bx by' cx cy := by
  have h1 := h.ok'
  have hk := h.kk
  obtain ⟨hr, -, -, ⟨a1, a2⟩, -, hc, -, ho, hb, hx⟩ := h
  unfold radiusZ
  unfold revK at hk
  have h4 : r = 0 ∨ r = 1 ∨ r = 2 ∨ r = 3 := by omega
  by_cases e : k = 1
  · rw [if_neg (by omega), if_neg (by omega)]
  · obtain ⟨c1, c2⟩ := hc e
    rw [if_pos ⟨by omega, h1⟩, if_pos ⟨e, ho⟩]
    clear hc hk h1 ho
    cases m <;> rcases h4 with rfl | rfl | rfl | rfl <;> simp [mvX, mvY] at a1 a2 c1 c2 <;> omega
theorem Mvd.cross (h : Mvd r m x y k k' ax ay bx by' cx cy ax1 ay1 bx1 by1 cx1 cy1) (hp : px1 = x + mvX r m px py ∧ py1 = y + mvY r m px py) :
    crossP ax1 ay1 bx1 by1 px1 py1 = crossP ax ay bx by' px py ∨ crossP ax1 ay1 bx1 by1 px1 py1 = -crossP ax ay bx by' px py := by
  obtain ⟨hr, -, -, ⟨a1, a2⟩, ⟨b1, b2⟩, -, -, -, -, -⟩ := h
  obtain ⟨p1, p2⟩ := hp
  have h4 : r = 0 ∨ r = 1 ∨ r = 2 ∨ r = 3 := by omega
  subst a1 a2 b1 b2 p1 p2
  unfold crossP
  cases m
  · left
    rcases h4 with rfl | rfl | rfl | rfl <;> simp [mvX, mvY] <;> grind
  · right
    rcases h4 with rfl | rfl | rfl | rfl <;> simp [mvX, mvY] <;> grind
theorem dist_mv (hr : 0 ≤ r ∧ r < 4) {u v u1 v1 : Int} (hp : px1 = x + mvX r m px py ∧ py1 = y + mvY r m px py) (hu : u1 = x + mvX r m u v ∧ v1 = y + mvY r m u v) : dist2 px1 py1 u1 v1 = dist2 px py u v := by
  obtain ⟨p1, p2⟩ := hp
  obtain ⟨q1, q2⟩ := hu
  have h4 : r = 0 ∨ r = 1 ∨ r = 2 ∨ r = 3 := by omega
  subst p1 p2 q1 q2
  unfold dist2
  cases m <;> rcases h4 with rfl | rfl | rfl | rfl <;> simp [mvX, mvY] <;> grind
theorem Mvd.box (h : Mvd r m x y k k' ax ay bx by' cx cy ax1 ay1 bx1 by1 cx1 cy1) (hp : px1 = x + mvX r m px py ∧ py1 = y + mvY r m px py) : boxP ax1 ay1 bx1 by1 px1 py1 ↔ boxP ax ay bx by' px py := by
  obtain ⟨hr, -, -, ⟨a1, a2⟩, ⟨b1, b2⟩, -, -, -, -, -⟩ := h
  obtain ⟨p1, p2⟩ := hp
  have h4 : r = 0 ∨ r = 1 ∨ r = 2 ∨ r = 3 := by omega
  unfold boxP
  cases m <;> rcases h4 with rfl | rfl | rfl | rfl <;> simp [mvX, mvY] at a1 a2 b1 b2 p1 p2 <;> omega
theorem Mvd.on (h : Mvd r m x y k k' ax ay bx by' cx cy ax1 ay1 bx1 by1 cx1 cy1) (hp : px1 = x + mvX r m px py ∧ py1 = y + mvY r m px py) : onP k' ax1 ay1 bx1 by1 cx1 cy1 px1 py1 ↔ onP k ax ay bx by' cx cy px py := by
  have h1 := h.ok'
  have h2 := h.ok
  have h3 := h.box hp
  have h4 := h.cross hp
  have hk := h.kk
  unfold revK at hk
  unfold onP
  rw [h3]
  by_cases e : k = 1
  · have : k' = 1 := by omega
    subst e
    subst this
    simp only [h1, h2, true_and, ne_eq, not_true_eq_false, false_and, or_false]
    have : crossP ax1 ay1 bx1 by1 px1 py1 = 0 ↔ crossP ax ay bx by' px py = 0 := by omega
    rw [this]
  · have : k' ≠ 1 := by omega
    have d1 := dist_mv h.rr hp (h.c e)
    have d2 := dist_mv h.rr h.a (h.c e)
    simp only [h1, h2, true_and, e, this, ne_eq, not_false_eq_true, false_and, false_or]
    rw [d1, d2]
/-- A translation keeps Ray. -/
theorem ray_add (hk : (k ≠ 1 ∧ cx1 = x + cx ∧ cy1 = y + cy) ∨ (k = 1 ∧ cx1 = cx ∧ cy1 = cy)) (h : okP k (x + ax) (y + ay) (x + bx) (y + by') cx1 cy1 ↔ okP k ax ay bx by' cx cy) :
    rayZ k (x + ax) (y + ay) (x + bx) (y + by') cx1 cy1 (px + x) (py + y) = rayZ k ax ay bx by' cx cy px py := by
  have e1 : crossP (x + ax) (y + ay) (x + bx) (y + by') (px + x) (py + y) = crossP ax ay bx by' px py := by unfold crossP; grind
  have e2 : crossP (x + bx) (y + by') (x + ax) (y + ay) (px + x) (py + y) = crossP bx by' ax ay px py := by unfold crossP; grind
  have e3 : k ≠ 1 → dist2 (px + x) (py + y) cx1 cy1 = dist2 px py cx cy := fun hk1 => by
    obtain ⟨-, rfl, rfl⟩ | ⟨e, -⟩ := hk
    · unfold dist2; grind
    · exact absurd e hk1
  have e4 : k ≠ 1 → dist2 (x + ax) (y + ay) cx1 cy1 = dist2 ax ay cx cy := fun hk1 => by
    obtain ⟨-, rfl, rfl⟩ | ⟨e, -⟩ := hk
    · unfold dist2; grind
    · exact absurd e hk1
  have hb : beyondP k (x + ax) (y + ay) (x + bx) (y + by') cx1 cy1 (px + x) (py + y) ↔ beyondP k ax ay bx by' cx cy px py := by
    unfold beyondP innerP
    rw [h, e1, e2]
    by_cases e : k = 1
    · simp only [e, true_and, ne_eq, not_true_eq_false, false_and, or_false]
      by_cases ho : okP 1 ax ay bx by' cx cy
      · simp only [ho, true_and]; omega
      · simp [ho]
    · rw [e3 e, e4 e]
      have hc : cx1 = x + cx := by omega
      by_cases ho : okP k ax ay bx by' cx cy
      · simp only [ho, true_and, e, false_and, false_or, ne_eq, not_false_eq_true]; omega
      · simp [ho]
  unfold rayZ
  by_cases ho : beyondP k ax ay bx by' cx cy px py
  · simp only [ho, hb.2 ho, and_true]
    (repeat' split) <;> omega
  · simp [ho, show ¬ beyondP k (x + ax) (y + ay) (x + bx) (y + by') cx1 cy1 (px + x) (py + y) from fun h => ho (hb.1 h)]
end
end Go.Proofs.Ytpmdmcdjhibblaa.Sx
