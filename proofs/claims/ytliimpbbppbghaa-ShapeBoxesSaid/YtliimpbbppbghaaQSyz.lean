import Derived.Test.YtliimpbbppbghaaQSv
set_option linter.all false
namespace Go.Proofs.Ytliimpbbppbghaa
open Go Go.RowKit Go.Shelf Sx
theorem okP_rev {k ax ay bx by' cx cy : Int} (h : okP k ax ay bx by' cx cy) : okP (opp k) bx by' ax ay cx cy := by
  obtain ⟨h1, h2, ha, hb, hc, h⟩ := h
  unfold okP opp
  rcases h with ⟨rfl, h3, h4⟩ | ⟨h3, ⟨rfl, h4, h5⟩ | ⟨rfl, h4, h5⟩⟩
  · exact ⟨by decide, by decide, hb, ha, hc, .inl ⟨rfl, h3, h4⟩⟩
  · refine ⟨by decide, by decide, hb, ha, hc, .inr ⟨fun hh => h3 ?_, .inr ⟨rfl, by omega, by omega⟩⟩⟩
    omega
  · refine ⟨by decide, by decide, hb, ha, hc, .inr ⟨fun hh => h3 ?_, .inl ⟨rfl, by omega, by omega⟩⟩⟩
    omega
theorem dist_arc {k ax ay bx by' cx cy : Int} (h : okP k ax ay bx by' cx cy) (hk : k ≠ 1) : dist2 ax ay cx cy = dist2 bx by' cx cy := by
  obtain ⟨-, -, -, -, -, h⟩ := h
  unfold dist2
  rcases h with ⟨h1, -⟩ | ⟨-, ⟨-, h1, h2⟩ | ⟨-, h1, h2⟩⟩
  · exact absurd h1 hk
  · rw [h1, h2]; grind
  · rw [h1, h2]; grind
end Go.Proofs.Ytliimpbbppbghaa
namespace Go.Proofs.Ytliimpbbppbghaa
open Go Go.RowKit Go.Shelf Sx
def chainI (es : List E7) (closed : Bool) : Prop := (∀ j, j + 1 < es.length → meets (es[j]!, es[j + 1]!)) ∧ (closed = true → 0 < es.length → meets (es[es.length - 1]!, es[0]!))
theorem chainP_iff {es : List E7} {closed : Bool} : chainP es closed ↔ chainI es closed := by
  unfold chainP chainI prAll prU
  constructor
  · intro h
    refine ⟨fun j hj => h _ (List.mem_append_left _ (List.mem_map.2 ⟨j, List.mem_range.2 (by omega), rfl⟩)), fun hc h0 => h _ (List.mem_append_right _ ?_)⟩
    rw [if_pos ⟨hc, h0⟩]
    exact List.mem_singleton.2 rfl
  · rintro ⟨h1, h2⟩ x hx
    rcases List.mem_append.1 hx with hx | hx
    · obtain ⟨j, hj, rfl⟩ := List.mem_map.1 hx
      exact h1 j (by have := List.mem_range.1 hj; omega)
    · split at hx
      · rename_i hc
        rw [List.mem_singleton.1 hx]
        exact h2 hc.1 hc.2
      · cases hx
theorem ok_chk {e : E7} (h : e.okE) : e.chk = 0 := by
  obtain ⟨h1, h2, h3, h4, h5, h6⟩ := h
  unfold E7.chk checkZ
  rw [if_neg (by omega), if_neg (by simp [h3, h4, h5]), if_pos h6]
theorem checkS_of {K R : Int} {es : List E7} (h1 : K = 1 ∨ K = 2) (h2 : K ≤ (es.length : Int)) (h3 : es.length ≤ 40) (h4 : ∀ e ∈ es, e.okE) (h5 : chainP es (decide (K = 2))) (h6 : 0 ≤ R) (h7 : R ≤ (if K = 1 then 4194304 else 0)) : checkS K R es = 0 := by
  rw [checkS_end h1 h2 h3 (firstBad_zero.2 fun e he => ok_chk (h4 e he)) h5, if_neg]
  rintro (h | h)
  · omega
  · exact absurd h (Int.not_lt.2 h7)
def IsBox (es : List E7) (q : Q4) : Prop :=
  ((∀ e ∈ es, q.x0 ≤ e.box.x0) ∧ ∃ e ∈ es, q.x0 = e.box.x0) ∧ ((∀ e ∈ es, q.y0 ≤ e.box.y0) ∧ ∃ e ∈ es, q.y0 = e.box.y0) ∧
  ((∀ e ∈ es, e.box.x1 ≤ q.x1) ∧ ∃ e ∈ es, q.x1 = e.box.x1) ∧ ((∀ e ∈ es, e.box.y1 ≤ q.y1) ∧ ∃ e ∈ es, q.y1 = e.box.y1)
theorem IsBox.eq {es fs : List E7} {q r : Q4} (hq : IsBox es q) (hr : IsBox fs r) (h1 : ∀ e ∈ es, ∃ f ∈ fs, f.box = e.box) (h2 : ∀ f ∈ fs, ∃ e ∈ es, e.box = f.box) : q = r := by
  obtain ⟨⟨a1, a, am, a2⟩, ⟨b1, b, bm, b2⟩, ⟨c1, c, cm, c2⟩, ⟨d1, d, dm, d2⟩⟩ := hq
  obtain ⟨⟨a3, a', am', a4⟩, ⟨b3, b', bm', b4⟩, ⟨c3, c', cm', c4⟩, ⟨d3, d', dm', d4⟩⟩ := hr
  have x0 : q.x0 = r.x0 := by
    obtain ⟨f, hf, ef⟩ := h1 a am
    obtain ⟨e, he, ee⟩ := h2 a' am'
    have u1 := a3 f hf; rw [ef] at u1
    have u2 := a1 e he; rw [ee] at u2
    omega
  have y0 : q.y0 = r.y0 := by
    obtain ⟨f, hf, ef⟩ := h1 b bm
    obtain ⟨e, he, ee⟩ := h2 b' bm'
    have u1 := b3 f hf; rw [ef] at u1
    have u2 := b1 e he; rw [ee] at u2
    omega
  have x1 : q.x1 = r.x1 := by
    obtain ⟨f, hf, ef⟩ := h1 c cm
    obtain ⟨e, he, ee⟩ := h2 c' cm'
    have u1 := c3 f hf; rw [ef] at u1
    have u2 := c1 e he; rw [ee] at u2
    omega
  have y1 : q.y1 = r.y1 := by
    obtain ⟨f, hf, ef⟩ := h1 d dm
    obtain ⟨e, he, ee⟩ := h2 d' dm'
    have u1 := d3 f hf; rw [ef] at u1
    have u2 := d1 e he; rw [ee] at u2
    omega
  cases q; cases r
  simp only at x0 y0 x1 y1
  rw [x0, y0, x1, y1]
def IsMin (f : Nat → Int) (k : Nat) (x : Int) : Prop := (∀ j, j ≤ k → x ≤ f j) ∧ ∃ j, j ≤ k ∧ x = f j
theorem IsMin.zero (f : Nat → Int) : IsMin f 0 (f 0) := ⟨fun j hj => by obtain rfl : j = 0 := by omega
                                                                        exact Int.le_refl _, 0, Nat.le_refl _, rfl⟩
theorem IsMin.succ {f : Nat → Int} {k : Nat} {x : Int} (h : IsMin f k x) : IsMin f (k + 1) (min x (f (k + 1))) := by
  obtain ⟨h1, j, hj, rfl⟩ := h
  refine ⟨fun i hi => ?_, ?_⟩
  · rcases Nat.lt_or_ge k i with h | h
    · obtain rfl : i = k + 1 := by omega
      omega
    · have := h1 i h; omega
  · rcases Int.le_total (f j) (f (k + 1)) with h | h
    · exact ⟨j, by omega, by omega⟩
    · exact ⟨k + 1, Nat.le_refl _, by omega⟩
theorem boxU_min (es : List E7) : ∀ k, IsMin (fun j => es[j]!.box.x0) k (boxU es k).x0 ∧ IsMin (fun j => es[j]!.box.y0) k (boxU es k).y0 ∧ IsMin (fun j => -es[j]!.box.x1) k (-(boxU es k).x1) ∧ IsMin (fun j => -es[j]!.box.y1) k (-(boxU es k).y1)
  | 0 => ⟨IsMin.zero _, IsMin.zero _, IsMin.zero _, IsMin.zero _⟩
  | k + 1 => by
    obtain ⟨h1, h2, h3, h4⟩ := boxU_min es k
    have e3 : -(boxU es (k + 1)).x1 = min (-(boxU es k).x1) (-es[k + 1]!.box.x1) := by show -(max _ _) = _; omega
    have e4 : -(boxU es (k + 1)).y1 = min (-(boxU es k).y1) (-es[k + 1]!.box.y1) := by show -(max _ _) = _; omega
    rw [e3, e4]
    exact ⟨h1.succ, h2.succ, h3.succ, h4.succ⟩
theorem IsMin.mem {es : List E7} {g : E7 → Int} {k : Nat} {x : Int} (h : IsMin (fun j => g es[j]!) k x) (hk : k + 1 = es.length) : (∀ e ∈ es, x ≤ g e) ∧ ∃ e ∈ es, x = g e := by
  obtain ⟨h1, j, hj, h2⟩ := h
  refine ⟨fun e he => ?_, es[j]!, by rw [getElem!_pos es j (by omega)]; exact List.getElem_mem _, h2⟩
  obtain ⟨i, hi, rfl⟩ := List.getElem_of_mem he
  have : x ≤ g es[i]! := h1 i (by omega)
  rwa [getElem!_pos es i hi] at this
theorem boxU_is {es : List E7} (h : 0 < es.length) : IsBox es (boxU es (es.length - 1)) := by
  obtain ⟨h1, h2, h3, h4⟩ := boxU_min es (es.length - 1)
  have hk : es.length - 1 + 1 = es.length := by omega
  have a := IsMin.mem (g := fun e => e.box.x0) h1 hk
  have b := IsMin.mem (g := fun e => e.box.y0) h2 hk
  obtain ⟨c1, c, cm, c2⟩ := IsMin.mem (g := fun e => -e.box.x1) h3 hk
  obtain ⟨d1, d, dm, d2⟩ := IsMin.mem (g := fun e => -e.box.y1) h4 hk
  exact ⟨a, b, ⟨fun e he => by have := c1 e he; omega, c, cm, by omega⟩, ⟨fun e he => by have := d1 e he; omega, d, dm, by omega⟩⟩
end Go.Proofs.Ytliimpbbppbghaa
namespace Go.Proofs.Ytliimpbbppbghaa
open Go Go.RowKit Go.Shelf Sx
theorem sqn (x : Int) : 0 ≤ x * x := by
  rcases Int.le_total 0 x with h | h
  · exact Int.mul_nonneg h h
  · have := Int.mul_nonneg (show 0 ≤ -x by omega) (show 0 ≤ -x by omega)
    rwa [Int.neg_mul_neg] at this
theorem sq_up {r s : Int} (h : 0 ≤ r) (hs : r ≤ s) : r * r ≤ s * s := Int.mul_le_mul hs hs h (by omega)
theorem abs_le_of_sq {x r : Int} (h0 : 0 ≤ r) (h : x * x ≤ r * r) : -r ≤ x ∧ x ≤ r := by
  constructor
  · by_cases hx : x < -r
    · have : (r + 1) * (r + 1) ≤ (-x) * (-x) := sq_up (by omega) (by omega)
      rw [Int.neg_mul_neg] at this
      have e : (r + 1) * (r + 1) = r * r + 2 * r + 1 := by grind
      omega
    · omega
  · by_cases hx : r < x
    · have : (r + 1) * (r + 1) ≤ x * x := sq_up (by omega) (by omega)
      have e : (r + 1) * (r + 1) = r * r + 2 * r + 1 := by grind
      omega
    · omega
theorem dist_near {x y u v r : Int} (h0 : 0 ≤ r) (h : dist2 x y u v ≤ r * r) : (-r ≤ x - u ∧ x - u ≤ r) ∧ (-r ≤ y - v ∧ y - v ≤ r) := by
  unfold dist2 at h
  have h1 := sqn (x - u)
  have h2 := sqn (y - v)
  exact ⟨abs_le_of_sq h0 (by omega), abs_le_of_sq h0 (by omega)⟩
theorem rad_nn (k ax ay bx by' cx cy : Int) : 0 ≤ radL k ax ay bx by' cx cy := by
  unfold radL radiusZ
  split <;> split <;> omega
theorem cov_mono {e : E7} {r s px py : Int} (h0 : 0 ≤ r) (hs : r ≤ s) (h : e.cov r px py) : e.cov s px py := by
  have hrs := sq_up h0 hs
  have hn := rad_nn e.k e.ax e.ay e.bx e.by' e.cx e.cy
  unfold E7.cov covP at *
  rcases h with h | h | ⟨h1, h2, h3, h4⟩ | ⟨h1, h2, h3, h4⟩
  · exact .inl (by omega)
  · exact .inr (.inl (by omega))
  · refine .inr (.inr (.inl ⟨h1, h2, h3, Int.le_trans h4 (Int.mul_le_mul_of_nonneg_right hrs ?_)⟩))
    unfold dist2
    have a := sqn (e.bx - e.ax)
    have b := sqn (e.by' - e.ay)
    omega
  · refine .inr (.inr (.inr ⟨h1, h2, Int.le_trans h3 (sq_up (by omega) (by omega)), Int.le_trans (sq_up (by omega) (by omega)) h4⟩))
theorem beside_le {dx dy u v r m S c l : Int} (hS : S = dx * dx + dy * dy) (hS0 : 0 < S) (hc : c = dx * v - dy * u) (hl : l = u * dx + v * dy) (h1 : 0 < l) (h2 : l < S) (hcr : c * c ≤ r * r * S) (h0 : 0 ≤ r) (hm : 0 ≤ m) (hd : dx ≤ m) : u ≤ m + r := by
  have e : S * u = l * dx - dy * c := by rw [hS, hl, hc]; grind
  have h3 : l * dx ≤ S * m := Int.le_trans (Int.mul_le_mul_of_nonneg_left hd (by omega)) (Int.mul_le_mul_of_nonneg_right (by omega) hm)
  have hdy : dy * dy ≤ S := by have := sqn dx; omega
  have h4 : (dy * c) * (dy * c) ≤ (S * r) * (S * r) := by
    have a1 : (dy * c) * (dy * c) = (dy * dy) * (c * c) := by grind
    have a2 : (S * r) * (S * r) = S * (r * r * S) := by grind
    rw [a1, a2]
    exact Int.mul_le_mul hdy hcr (sqn c) (by omega)
  have h5 := abs_le_of_sq (Int.mul_nonneg (by omega) h0) h4
  have h6 : S * u ≤ S * (m + r) := by rw [Int.mul_add]; omega
  exact Int.le_of_mul_le_mul_left h6 hS0
theorem nn_mul {a v : Int} (ha : 0 < a) (h : 0 ≤ a * v) : 0 ≤ v := by
  refine Int.not_lt.1 fun hv => ?_
  have := Int.mul_le_mul_of_nonneg_left (show v ≤ -1 by omega) (show 0 ≤ a by omega)
  omega
theorem arc_side {a b u v : Int} (hab : ¬ (a = 0 ↔ b = 0)) (h1 : 0 ≤ a * v - b * u) (h2 : 0 ≤ u * a + v * b) :
    (0 < a ∧ b = 0 ∧ 0 ≤ u ∧ 0 ≤ v) ∨ (a < 0 ∧ b = 0 ∧ u ≤ 0 ∧ v ≤ 0) ∨ (a = 0 ∧ 0 < b ∧ u ≤ 0 ∧ 0 ≤ v) ∨ (a = 0 ∧ b < 0 ∧ 0 ≤ u ∧ v ≤ 0) := by
  by_cases ha : a = 0
  · have hb : b ≠ 0 := fun h => hab ⟨fun _ => h, fun _ => ha⟩
    subst ha
    rw [Int.zero_mul] at h1
    rw [Int.mul_zero] at h2
    by_cases hb0 : 0 < b
    · have u1 := nn_mul hb0 (v := v) (by rw [Int.mul_comm]; omega)
      have u2 := nn_mul hb0 (v := -u) (by rw [Int.mul_neg]; omega)
      omega
    · have u1 := nn_mul (a := -b) (by omega) (v := -v) (by rw [Int.neg_mul_neg, Int.mul_comm]; omega)
      have u2 := nn_mul (a := -b) (by omega) (v := u) (by rw [Int.neg_mul]; omega)
      omega
  · have hb : b = 0 := Classical.byContradiction fun h => hab ⟨fun h' => absurd h' ha, fun h' => absurd h' h⟩
    subst hb
    rw [Int.zero_mul] at h1
    rw [Int.mul_zero] at h2
    by_cases ha0 : 0 < a
    · have u1 := nn_mul ha0 (v := u) (by rw [Int.mul_comm]; omega)
      have u2 := nn_mul ha0 (v := v) (by omega)
      omega
    · have u1 := nn_mul (a := -a) (by omega) (v := -u) (by rw [Int.neg_mul_neg, Int.mul_comm]; omega)
      have u2 := nn_mul (a := -a) (by omega) (v := -v) (by rw [Int.neg_mul_neg]; omega)
      omega
theorem radL_val {k ax ay bx by' cx cy : Int} (h : okP k ax ay bx by' cx cy) (hk : k ≠ 1) : radL k ax ay bx by' cx cy = max (ax - cx) (cx - ax) + max (ay - cy) (cy - ay) := by
  have hr := okP_rev h
  have h' := h
  obtain ⟨-, -, -, -, -, ⟨h1, -⟩ | ⟨-, ⟨rfl, h1, h2⟩ | ⟨rfl, h1, h2⟩⟩⟩ := h
  · exact absurd h1 hk
  · unfold radL radiusZ
    rw [if_neg (by decide), if_pos ⟨by decide, h'⟩]
  · unfold radL radiusZ
    rw [if_pos rfl, if_pos ⟨by decide, hr⟩]
    omega
theorem cov_box {e : E7} (hok : e.okE) {r px py : Int} (h0 : 0 ≤ r) (h : e.cov r px py) : hasP (e.box.x0 - r) (e.box.y0 - r) (e.box.x1 + r) (e.box.y1 + r) px py := by
  unfold E7.cov covP at h
  unfold hasP E7.box
  simp only
  rcases h with h | h | ⟨h1, h2, h3, h4⟩ | ⟨h1, h2, h3, h4⟩
  · have := dist_near h0 h; omega
  · have := dist_near h0 h; omega
  · have hS : dist2 e.bx e.by' e.ax e.ay = (e.bx - e.ax) * (e.bx - e.ax) + (e.by' - e.ay) * (e.by' - e.ay) := rfl
    have hS0 : 0 < dist2 e.bx e.by' e.ax e.ay := by omega
    unfold alongZ at h2 h3
    have hc : crossP e.ax e.ay e.bx e.by' px py = (e.bx - e.ax) * (py - e.ay) - (e.by' - e.ay) * (px - e.ax) := rfl
    generalize crossP e.ax e.ay e.bx e.by' px py = c at *
    generalize dist2 e.bx e.by' e.ax e.ay = S at *
    have u1 := beside_le (dx := e.bx - e.ax) (dy := e.by' - e.ay) (u := px - e.ax) (v := py - e.ay) (m := max (e.bx - e.ax) 0) hS hS0 hc rfl h2 h3 h4 h0 (by omega) (by omega)
    have u2 := beside_le (dx := -(e.bx - e.ax)) (dy := -(e.by' - e.ay)) (u := -(px - e.ax)) (v := -(py - e.ay)) (m := max (-(e.bx - e.ax)) 0) (S := S) (c := c) (l := (px - e.ax) * (e.bx - e.ax) + (py - e.ay) * (e.by' - e.ay)) (by rw [hS]; grind) hS0 (by rw [hc]; grind) (by grind) h2 h3 h4 h0 (by omega) (by omega)
    have u3 := beside_le (dx := e.by' - e.ay) (dy := e.bx - e.ax) (u := py - e.ay) (v := px - e.ax) (m := max (e.by' - e.ay) 0) (S := S) (c := -c) (l := (px - e.ax) * (e.bx - e.ax) + (py - e.ay) * (e.by' - e.ay)) (by rw [hS]; grind) hS0 (by rw [hc]; grind) (by grind) h2 h3 (by rw [Int.neg_mul_neg]; exact h4) h0 (by omega) (by omega)
    have u4 := beside_le (dx := -(e.by' - e.ay)) (dy := -(e.bx - e.ax)) (u := -(py - e.ay)) (v := -(px - e.ax)) (m := max (-(e.by' - e.ay)) 0) (S := S) (c := -c) (l := (px - e.ax) * (e.bx - e.ax) + (py - e.ay) * (e.by' - e.ay)) (by rw [hS]; grind) hS0 (by rw [hc]; grind) (by grind) h2 h3 (by rw [Int.neg_mul_neg]; exact h4) h0 (by omega) (by omega)
    omega
  · rw [radL_val hok h1] at h3
    have h0' := dist_near (r := max (e.ax - e.cx) (e.cx - e.ax) + max (e.ay - e.cy) (e.cy - e.ay) + r) (by omega) h3
    obtain ⟨-, -, -, -, -, ⟨a1, -⟩ | ⟨a0, ⟨a1, a2, a3⟩ | ⟨a1, a2, a3⟩⟩⟩ := hok
    · exact absurd a1 h1
    · unfold facesP at h2
      rw [if_neg (by omega)] at h2
      rw [a2, a3] at h2
      have hs := arc_side (a := e.ax - e.cx) (b := e.ay - e.cy) (u := px - e.cx) (v := py - e.cy) (by omega) h2.1 (by have := h2.2; rw [Int.mul_neg] at this; omega)
      omega
    · unfold facesP at h2
      rw [if_pos a1] at h2
      have hs := arc_side (a := e.bx - e.cx) (b := e.by' - e.cy) (u := px - e.cx) (v := py - e.cy) (by omega) h2.1 (by have := h2.2; rw [show e.ay - e.cy = e.bx - e.cx by omega, show e.ax - e.cx = -(e.by' - e.cy) by omega, Int.mul_neg] at this; omega)
      omega
theorem has_wide {K R : Int} {es : List E7} (h : checkS K R es = 0) {px py : Int} : (boxS es R).has px py ↔ hasP ((boxU es (es.length - 1)).x0 - R) ((boxU es (es.length - 1)).y0 - R) ((boxU es (es.length - 1)).x1 + R) ((boxU es (es.length - 1)).y1 + R) px py := by
  obtain ⟨h1, h2, h3, h4, -, h5, h6⟩ := checkS_zero h
  have hR : R ≤ 4194304 := by split at h6 <;> omega
  have hq := boxU_near h4 (es.length - 1) (by omega)
  unfold boxS
  rw [if_neg (by omega)]
  unfold Q4.near at hq
  unfold Q4.has Q4.grow
  simp only
  rw [w64_in _ (by omega), w64_in _ (by omega), w64_in _ (by omega), w64_in _ (by omega)]
theorem has_of_edge {K R : Int} {es : List E7} (h : checkS K R es = 0) {e : E7} (he : e ∈ es) {px py : Int} (hp : hasP (e.box.x0 - R) (e.box.y0 - R) (e.box.x1 + R) (e.box.y1 + R) px py) : (boxS es R).has px py := by
  rw [has_wide h]
  obtain ⟨h1, h2, h3, h4, -, h5, h6⟩ := checkS_zero h
  obtain ⟨⟨a, -⟩, ⟨b, -⟩, ⟨c, -⟩, ⟨d, -⟩⟩ := boxU_is (es := es) (by omega)
  have a := a e he
  have b := b e he
  have c := c e he
  have d := d e he
  unfold hasP at *
  omega
theorem inside_path {R : Int} {es : List E7} (h : checkS 1 R es = 0) (px py : Int) : insideS 1 R es px py = decide (∃ e ∈ es, e.cov R px py) := by
  obtain ⟨h1, h2, h3, h4, -, h5, h6⟩ := checkS_zero h
  unfold insideS
  rw [if_neg (by simp [h])]
  by_cases hc : ∃ e ∈ es, e.cov R px py
  · obtain ⟨e, he, hcv⟩ := id hc
    rw [if_neg (by simp [has_of_edge h he (cov_box (h4 e he) h5 hcv)]), if_pos rfl]
  · rw [decide_eq_false hc]
    split
    · rfl
    · rw [if_pos rfl]
theorem check_one {e : E7} (h : e.okE) {R : Int} (h0 : 0 ≤ R) (h1 : R ≤ 4194304) : checkS 1 R [e] = 0 :=
  checkS_of (.inl rfl) (by simp) (by simp) (fun x hx => by rw [List.mem_singleton.1 hx]; exact h) (chainP_iff.2 ⟨fun j hj => by simp at hj, fun hc => by simp at hc⟩) h0 (by simpa using h1)
theorem inside_one {e : E7} (h : e.okE) {R : Int} (h0 : 0 ≤ R) (h1 : R ≤ 4194304) (px py : Int) : insideS 1 R [e] px py = decide (e.cov R px py) := by
  rw [inside_path (check_one h h0 h1)]
  simp
theorem dist_self (x y : Int) : dist2 x y x y = 0 := by unfold dist2; simp
theorem cov_ends (e : E7) (R : Int) : e.cov R e.ax e.ay ∧ e.cov R e.bx e.by' := by
  have := sqn R
  exact ⟨.inl (by rw [dist_self]; exact this), .inr (.inl (by rw [dist_self]; exact this))⟩
theorem on_ends {e : E7} (h : e.okE) : e.on e.ax e.ay ∧ e.on e.bx e.by' := by
  have hb1 : boxP e.ax e.ay e.bx e.by' e.ax e.ay := by unfold boxP; omega
  have hb2 : boxP e.ax e.ay e.bx e.by' e.bx e.by' := by unfold boxP; omega
  by_cases hk : e.k = 1
  · exact ⟨⟨h, hb1, .inl ⟨hk, by unfold crossP; grind⟩⟩, ⟨h, hb2, .inl ⟨hk, by unfold crossP; grind⟩⟩⟩
  · exact ⟨⟨h, hb1, .inr ⟨hk, rfl⟩⟩, ⟨h, hb2, .inr ⟨hk, (dist_arc h hk).symm⟩⟩⟩
theorem inside_on {R : Int} {es : List E7} (h : checkS 2 R es = 0) {e : E7} (he : e ∈ es) {px py : Int} (ho : e.on px py) : insideS 2 R es px py = true := by
  obtain ⟨h1, h2, h3, h4, -, h5, h6⟩ := checkS_zero h
  have hb : (boxS es R).has px py := has_of_edge h he (by
    obtain ⟨-, hb, -⟩ := ho
    unfold boxP at hb
    unfold hasP E7.box
    simp only
    omega)
  unfold insideS
  rw [if_neg (by simp [h]), if_neg (by simp [hb]), if_neg (by decide)]
  unfold surS
  rw [decide_eq_true (p := ∃ e ∈ es, e.on px py) ⟨e, he, ho⟩, Bool.true_or]
theorem inside_ends {K R : Int} {es : List E7} (h : checkS K R es = 0) {e : E7} (he : e ∈ es) : insideS K R es e.ax e.ay = true ∧ insideS K R es e.bx e.by' = true := by
  obtain ⟨hK, -, -, h4, -, -, -⟩ := checkS_zero h
  rcases hK with rfl | rfl
  · rw [inside_path h, inside_path h]
    exact ⟨decide_eq_true ⟨e, he, (cov_ends e R).1⟩, decide_eq_true ⟨e, he, (cov_ends e R).2⟩⟩
  · exact ⟨inside_on h he (on_ends (h4 e he)).1, inside_on h he (on_ends (h4 e he)).2⟩
theorem sq_zero {x : Int} (h : x * x ≤ 0) : x = 0 := by
  have := abs_le_of_sq (x := x) (r := 0) (by omega) (by omega)
  omega
theorem cov_on {e : E7} (h : e.okE) {px py : Int} (hc : e.cov 0 px py) : e.on px py := by
  have hb := cov_box h (by omega) hc
  have hbx : boxP e.ax e.ay e.bx e.by' px py := by
    unfold hasP E7.box at hb
    unfold boxP
    simp only at hb
    omega
  unfold E7.cov covP at hc
  rcases hc with hc | hc | ⟨h1, h2, h3, h4⟩ | ⟨h1, h2, h3, h4⟩
  · have := dist_near (r := 0) (by omega) hc
    obtain rfl : px = e.ax := by omega
    obtain rfl : py = e.ay := by omega
    exact (on_ends h).1
  · have := dist_near (r := 0) (by omega) hc
    obtain rfl : px = e.bx := by omega
    obtain rfl : py = e.by' := by omega
    exact (on_ends h).2
  · exact ⟨h, hbx, .inl ⟨h1, sq_zero (by simpa using h4)⟩⟩
  · refine ⟨h, hbx, .inr ⟨h1, ?_⟩⟩
    rw [radL_val h h1] at h3 h4
    have hab : e.ax - e.cx = 0 ∨ e.ay - e.cy = 0 := by
      obtain ⟨-, -, -, -, -, ⟨a1, -⟩ | ⟨a0, -⟩⟩ := h
      · exact absurd a1 h1
      · omega
    have e1 : (max (e.ax - e.cx) (e.cx - e.ax) + max (e.ay - e.cy) (e.cy - e.ay)) * (max (e.ax - e.cx) (e.cx - e.ax) + max (e.ay - e.cy) (e.cy - e.ay)) = dist2 e.ax e.ay e.cx e.cy := by
      unfold dist2
      rcases hab with hab | hab
      · rw [show max (e.ax - e.cx) (e.cx - e.ax) = 0 by omega, hab, Int.zero_add]
        rcases Int.le_total 0 (e.ay - e.cy) with hs | hs
        · rw [show max (e.ay - e.cy) (e.cy - e.ay) = e.ay - e.cy by omega]; omega
        · rw [show max (e.ay - e.cy) (e.cy - e.ay) = -(e.ay - e.cy) by omega, Int.neg_mul_neg]; omega
      · rw [show max (e.ay - e.cy) (e.cy - e.ay) = 0 by omega, hab, Int.add_zero]
        rcases Int.le_total 0 (e.ax - e.cx) with hs | hs
        · rw [show max (e.ax - e.cx) (e.cx - e.ax) = e.ax - e.cx by omega]; omega
        · rw [show max (e.ax - e.cx) (e.cx - e.ax) = -(e.ax - e.cx) by omega, Int.neg_mul_neg]; omega
    have e2 : max (max (e.ax - e.cx) (e.cx - e.ax) + max (e.ay - e.cy) (e.cy - e.ay) - 0) 0 = max (e.ax - e.cx) (e.cx - e.ax) + max (e.ay - e.cy) (e.cy - e.ay) := by omega
    rw [e2, e1] at h4
    rw [Int.add_zero, e1] at h3
    omega
theorem stroke_path {R : Int} {es : List E7} (h : checkS 1 R es = 0) (px py : Int) : insideS 1 R es px py = decide (∃ e ∈ es, insideS 1 R [e] px py = true) := by
  obtain ⟨h1, h2, h3, h4, -, h5, h6⟩ := checkS_zero h
  rw [inside_path h]
  refine decide_eq_decide.2 ⟨fun ⟨e, he, hc⟩ => ⟨e, he, ?_⟩, fun ⟨e, he, hc⟩ => ⟨e, he, ?_⟩⟩
  · rw [inside_one (h4 e he) h5 (by simpa using h6)]; exact decide_eq_true hc
  · rw [inside_one (h4 e he) h5 (by simpa using h6)] at hc; exact of_decide_eq_true hc
theorem stroke_area {R : Int} {es : List E7} (h : checkS 2 R es = 0) {px py : Int} {e : E7} (he : e ∈ es) (hc : insideS 1 R [e] px py = true) : insideS 2 R es px py = true := by
  obtain ⟨h1, h2, h3, h4, -, h5, h6⟩ := checkS_zero h
  obtain rfl : R = 0 := by simp at h6; omega
  rw [inside_one (h4 e he) (by omega) (by omega)] at hc
  exact inside_on h he (cov_on (h4 e he) (of_decide_eq_true hc))
theorem stroke_wide {R S : Int} {es : List E7} (h : checkS 1 R es = 0) (hs : R ≤ S) (hS : S ≤ 4194304) {px py : Int} (hi : insideS 1 R es px py = true) : checkS 1 S es = 0 ∧ insideS 1 S es px py = true := by
  obtain ⟨h1, h2, h3, h4, h8, h5, h6⟩ := checkS_zero h
  have hw := checkS_of h1 h2 h3 h4 h8 (show 0 ≤ S by omega) (by simpa using hS)
  rw [inside_path h] at hi
  obtain ⟨e, he, hc⟩ := of_decide_eq_true hi
  exact ⟨hw, by rw [inside_path hw]; exact decide_eq_true ⟨e, he, cov_mono h5 hs hc⟩⟩
theorem stroke_corner {R : Int} {es : List E7} (h : checkS 1 R es = 0) {e : E7} (he : e ∈ es) {u v : Int} (hr : u * u + v * v = R * R) : insideS 1 R es (e.ax + u) (e.ay + v) = true := by
  rw [inside_path h]
  refine decide_eq_true ⟨e, he, .inl ?_⟩
  unfold dist2
  rw [show e.ax + u - e.ax = u by omega, show e.ay + v - e.ay = v by omega, hr]
  exact Int.le_refl _
end Go.Proofs.Ytliimpbbppbghaa

