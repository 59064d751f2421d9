import Derived.Test.YtliimpbbppbghaaUSv
set_option linter.all false
namespace Go.Proofs.Ytliimpbbppbghaa
open Go Go.RowKit Go.Shelf Sx
def E7.rev (e : E7) : E7 := ⟨opp e.k, e.bx, e.by', e.ax, e.ay, e.cx, e.cy⟩
theorem okP_rev {k ax ay bx by' cx cy : Int} (h : okP k ax ay bx by' cx cy) : okP (opp k) bx by' ax ay cx cy := by
  obtain ⟨h1, h2, ha, hb, hc, h⟩ := h
  unfold okP opp
  rcases h with ⟨rfl, h3, h4⟩ | ⟨h3, ⟨rfl, h4, h5⟩ | ⟨rfl, h4, h5⟩⟩
  · exact ⟨by decide, by decide, hb, ha, hc, .inl ⟨rfl, h3, h4⟩⟩
  · refine ⟨by decide, by decide, hb, ha, hc, .inr ⟨fun hh => h3 ?_, .inr ⟨rfl, by omega, by omega⟩⟩⟩
    omega
  · refine ⟨by decide, by decide, hb, ha, hc, .inr ⟨fun hh => h3 ?_, .inl ⟨rfl, by omega, by omega⟩⟩⟩
    omega
theorem okE_rev {e : E7} (h : e.okE) : e.rev.okE := okP_rev h
theorem box_rev (e : E7) : e.rev.box = e.box := by
  unfold E7.rev E7.box
  simp only [Int.min_comm, Int.max_comm]
theorem dist_arc {k ax ay bx by' cx cy : Int} (h : okP k ax ay bx by' cx cy) (hk : k ≠ 1) : dist2 ax ay cx cy = dist2 bx by' cx cy := by
  obtain ⟨-, -, -, -, -, h⟩ := h
  unfold dist2
  rcases h with ⟨h1, -⟩ | ⟨-, ⟨-, h1, h2⟩ | ⟨-, h1, h2⟩⟩
  · exact absurd h1 hk
  · rw [h1, h2]; grind
  · rw [h1, h2]; grind
theorem cross_rev (ax ay bx by' px py : Int) : crossP bx by' ax ay px py = - crossP ax ay bx by' px py := by unfold crossP; grind
theorem opp_one {k : Int} (h1 : 1 ≤ k) (h2 : k ≤ 3) : opp k = 1 ↔ k = 1 := by unfold opp; split <;> (try split) <;> omega
theorem on_rev1 {e : E7} (h : e.okE) {px py : Int} (ho : e.on px py) : e.rev.on px py := by
  obtain ⟨-, hb, hc⟩ := ho
  have hk := opp_one h.1 h.2.1
  refine ⟨okP_rev h, ?_, ?_⟩
  · unfold boxP at *; unfold E7.rev; simp only; omega
  · rcases hc with ⟨h1, h2⟩ | ⟨h1, h2⟩
    · exact .inl ⟨hk.2 h1, by show crossP e.bx e.by' e.ax e.ay px py = 0; rw [cross_rev, h2]; rfl⟩
    · exact .inr ⟨fun h => h1 (hk.1 h), by show dist2 px py e.cx e.cy = dist2 e.bx e.by' e.cx e.cy; rw [h2]; exact dist_arc h h1⟩
theorem rev_rev {e : E7} (h : e.okE) : e.rev.rev = e := by
  obtain ⟨h1, h2, -⟩ := h
  have : opp (opp e.k) = e.k := by unfold opp; (repeat' split) <;> omega
  unfold E7.rev
  simp only [this]
theorem on_rev {e : E7} (h : e.okE) {px py : Int} : e.rev.on px py ↔ e.on px py :=
  ⟨fun ho => by have := on_rev1 (okE_rev h) ho; rwa [rev_rev h] at this, on_rev1 h⟩
theorem cov_rev1 {e : E7} (h : e.okE) {r px py : Int} (hc : e.cov r px py) : e.rev.cov r px py := by
  have hk := opp_one h.1 h.2.1
  unfold E7.cov covP at hc
  show covP (opp e.k) e.bx e.by' e.ax e.ay e.cx e.cy r px py
  unfold covP
  rcases hc with h1 | h1 | ⟨h1, h2, h3, h4⟩ | ⟨h1, h2, h3, h4⟩
  · exact .inr (.inl h1)
  · exact .inl h1
  · have e1 : alongZ e.bx e.by' e.ax e.ay px py = dist2 e.bx e.by' e.ax e.ay - alongZ e.ax e.ay e.bx e.by' px py := by unfold alongZ dist2; grind
    have e2 : dist2 e.ax e.ay e.bx e.by' = dist2 e.bx e.by' e.ax e.ay := by unfold dist2; grind
    exact .inr (.inr (.inl ⟨hk.2 h1, by omega, by omega, by rw [cross_rev, e2, Int.neg_mul_neg]; exact h4⟩))
  · have e1 : radL (opp e.k) e.bx e.by' e.ax e.ay e.cx e.cy = radL e.k e.ax e.ay e.bx e.by' e.cx e.cy := by
      obtain ⟨a1, a2, -⟩ := h
      have hc : e.k = 2 ∨ e.k = 3 := by omega
      rcases hc with hc | hc <;> rw [hc] <;> rfl
    have e2 : facesP (opp e.k) e.bx e.by' e.ax e.ay e.cx e.cy px py ↔ facesP e.k e.ax e.ay e.bx e.by' e.cx e.cy px py := by
      obtain ⟨a1, a2, -⟩ := h
      have hc : e.k = 2 ∨ e.k = 3 := by omega
      rcases hc with hc | hc <;> rw [hc] <;> exact Iff.rfl
    exact .inr (.inr (.inr ⟨fun h => h1 (hk.1 h), e2.2 h2, by rw [e1]; exact h3, by rw [e1]; exact h4⟩))
theorem cov_rev {e : E7} (h : e.okE) {r px py : Int} : e.rev.cov r px py ↔ e.cov r px py :=
  ⟨fun ho => by have := cov_rev1 (okE_rev h) ho; rwa [rev_rev h] at this, cov_rev1 h⟩
theorem beyond_rev1 {k ax ay bx by' cx cy px py : Int} (hy : ay ≠ by') (hb : beyondP k ax ay bx by' cx cy px py) : beyondP (opp k) bx by' ax ay cx cy px py := by
  obtain ⟨h, h1, h2⟩ := hb
  have hk := opp_one h.1 h.2.1
  refine ⟨okP_rev h, by omega, ?_⟩
  rcases h2 with h2 | h2
  · exact .inl (by omega)
  · refine .inr ?_
    unfold innerP at *
    rcases h2 with ⟨h3, h4⟩ | ⟨h3, h4⟩
    · refine .inl ⟨hk.2 h3, ?_⟩
      rcases h4 with ⟨h5, h6⟩ | ⟨h5, h6⟩
      · exact .inr ⟨by omega, h6⟩
      · exact .inl ⟨by omega, h6⟩
    · refine .inr ⟨fun h => h3 (hk.1 h), ?_⟩
      have hd := dist_arc h h3
      rw [← hd, Int.max_comm bx ax]
      exact h4
theorem ray_rev {e : E7} (h : e.okE) (px py : Int) : e.rev.ray px py = - e.ray px py := by
  have hbe : e.ay ≠ e.by' → (beyondP (opp e.k) e.bx e.by' e.ax e.ay e.cx e.cy px py ↔ beyondP e.k e.ax e.ay e.bx e.by' e.cx e.cy px py) := fun hy =>
    ⟨fun hb => by
      have := beyond_rev1 (Ne.symm hy) hb
      have e1 : opp (opp e.k) = e.k := by have := h.1; have := h.2.1; unfold opp; (repeat' split) <;> omega
      rwa [e1] at this, beyond_rev1 hy⟩
  show rayZ (opp e.k) e.bx e.by' e.ax e.ay e.cx e.cy px py = - rayZ e.k e.ax e.ay e.bx e.by' e.cx e.cy px py
  unfold rayZ
  by_cases hy : e.ay = e.by'
  · rw [if_neg (by omega), if_neg (by omega), if_neg (by omega), if_neg (by omega)]; rfl
  · have hb := hbe hy
    by_cases hB : beyondP e.k e.ax e.ay e.bx e.by' e.cx e.cy px py
    · have hB' := hb.2 hB
      by_cases h1 : e.ay ≤ py ∧ py < e.by'
      · rw [if_neg (by omega), if_pos ⟨h1.1, h1.2, hB'⟩, if_pos ⟨h1.1, h1.2, hB⟩]
      · by_cases h2 : e.by' ≤ py ∧ py < e.ay
        · rw [if_pos ⟨h2.1, h2.2, hB'⟩, if_neg (by omega), if_pos ⟨h2.1, h2.2, hB⟩]; rfl
        · rw [if_neg (by omega), if_neg (by omega), if_neg (by omega), if_neg (by omega)]; rfl
    · have hB' := fun h => hB (hb.1 h)
      rw [if_neg (fun h => hB' h.2.2), if_neg (fun h => hB' h.2.2), if_neg (fun h => hB h.2.2), if_neg (fun h => hB h.2.2)]; rfl
end Go.Proofs.Ytliimpbbppbghaa
namespace Go.Proofs.Ytliimpbbppbghaa
open Go Go.RowKit Go.Shelf Sx
def chainI (es : List E7) (closed : Bool) : Prop := (∀ j, j + 1 < es.length → meets (es[j]!, es[j + 1]!)) ∧ (closed = true → 0 < es.length → meets (es[es.length - 1]!, es[0]!))
theorem chainP_iff {es : List E7} {closed : Bool} : chainP es closed ↔ chainI es closed := by
  unfold chainP chainI prAll prU
  constructor
  · intro h
    refine ⟨fun j hj => h _ (List.mem_append_left _ (List.mem_map.2 ⟨j, List.mem_range.2 (by omega), rfl⟩)), fun hc h0 => h _ (List.mem_append_right _ ?_)⟩
    rw [if_pos ⟨hc, h0⟩]
    exact List.mem_singleton.2 rfl
  · rintro ⟨h1, h2⟩ x hx
    rcases List.mem_append.1 hx with hx | hx
    · obtain ⟨j, hj, rfl⟩ := List.mem_map.1 hx
      exact h1 j (by have := List.mem_range.1 hj; omega)
    · split at hx
      · rename_i hc
        rw [List.mem_singleton.1 hx]
        exact h2 hc.1 hc.2
      · cases hx
theorem ok_chk {e : E7} (h : e.okE) : e.chk = 0 := by
  obtain ⟨h1, h2, h3, h4, h5, h6⟩ := h
  unfold E7.chk checkZ
  rw [if_neg (by omega), if_neg (by simp [h3, h4, h5]), if_pos h6]
theorem checkS_of {K R : Int} {es : List E7} (h1 : K = 1 ∨ K = 2) (h2 : K ≤ (es.length : Int)) (h3 : es.length ≤ 40) (h4 : ∀ e ∈ es, e.okE) (h5 : chainP es (decide (K = 2))) (h6 : 0 ≤ R) (h7 : R ≤ (if K = 1 then 4194304 else 0)) : checkS K R es = 0 := by
  rw [checkS_end h1 h2 h3 (firstBad_zero.2 fun e he => ok_chk (h4 e he)) h5, if_neg]
  rintro (h | h)
  · omega
  · exact absurd h (Int.not_lt.2 h7)
def IsBox (es : List E7) (q : Q4) : Prop :=
  ((∀ e ∈ es, q.x0 ≤ e.box.x0) ∧ ∃ e ∈ es, q.x0 = e.box.x0) ∧ ((∀ e ∈ es, q.y0 ≤ e.box.y0) ∧ ∃ e ∈ es, q.y0 = e.box.y0) ∧
  ((∀ e ∈ es, e.box.x1 ≤ q.x1) ∧ ∃ e ∈ es, q.x1 = e.box.x1) ∧ ((∀ e ∈ es, e.box.y1 ≤ q.y1) ∧ ∃ e ∈ es, q.y1 = e.box.y1)
theorem IsBox.eq {es fs : List E7} {q r : Q4} (hq : IsBox es q) (hr : IsBox fs r) (h1 : ∀ e ∈ es, ∃ f ∈ fs, f.box = e.box) (h2 : ∀ f ∈ fs, ∃ e ∈ es, e.box = f.box) : q = r := by
  obtain ⟨⟨a1, a, am, a2⟩, ⟨b1, b, bm, b2⟩, ⟨c1, c, cm, c2⟩, ⟨d1, d, dm, d2⟩⟩ := hq
  obtain ⟨⟨a3, a', am', a4⟩, ⟨b3, b', bm', b4⟩, ⟨c3, c', cm', c4⟩, ⟨d3, d', dm', d4⟩⟩ := hr
  have x0 : q.x0 = r.x0 := by
    obtain ⟨f, hf, ef⟩ := h1 a am
    obtain ⟨e, he, ee⟩ := h2 a' am'
    have u1 := a3 f hf; rw [ef] at u1
    have u2 := a1 e he; rw [ee] at u2
    omega
  have y0 : q.y0 = r.y0 := by
    obtain ⟨f, hf, ef⟩ := h1 b bm
    obtain ⟨e, he, ee⟩ := h2 b' bm'
    have u1 := b3 f hf; rw [ef] at u1
    have u2 := b1 e he; rw [ee] at u2
    omega
  have x1 : q.x1 = r.x1 := by
    obtain ⟨f, hf, ef⟩ := h1 c cm
    obtain ⟨e, he, ee⟩ := h2 c' cm'
    have u1 := c3 f hf; rw [ef] at u1
    have u2 := c1 e he; rw [ee] at u2
    omega
  have y1 : q.y1 = r.y1 := by
    obtain ⟨f, hf, ef⟩ := h1 d dm
    obtain ⟨e, he, ee⟩ := h2 d' dm'
    have u1 := d3 f hf; rw [ef] at u1
    have u2 := d1 e he; rw [ee] at u2
    omega
  cases q; cases r
  simp only at x0 y0 x1 y1
  rw [x0, y0, x1, y1]
def IsMin (f : Nat → Int) (k : Nat) (x : Int) : Prop := (∀ j, j ≤ k → x ≤ f j) ∧ ∃ j, j ≤ k ∧ x = f j
theorem IsMin.zero (f : Nat → Int) : IsMin f 0 (f 0) := ⟨fun j hj => by obtain rfl : j = 0 := by omega
                                                                        exact Int.le_refl _, 0, Nat.le_refl _, rfl⟩
theorem IsMin.succ {f : Nat → Int} {k : Nat} {x : Int} (h : IsMin f k x) : IsMin f (k + 1) (min x (f (k + 1))) := by
  obtain ⟨h1, j, hj, rfl⟩ := h
  refine ⟨fun i hi => ?_, ?_⟩
  · rcases Nat.lt_or_ge k i with h | h
    · obtain rfl : i = k + 1 := by omega
      omega
    · have := h1 i h; omega
  · rcases Int.le_total (f j) (f (k + 1)) with h | h
    · exact ⟨j, by omega, by omega⟩
    · exact ⟨k + 1, Nat.le_refl _, by omega⟩
theorem boxU_min (es : List E7) : ∀ k, IsMin (fun j => es[j]!.box.x0) k (boxU es k).x0 ∧ IsMin (fun j => es[j]!.box.y0) k (boxU es k).y0 ∧ IsMin (fun j => -es[j]!.box.x1) k (-(boxU es k).x1) ∧ IsMin (fun j => -es[j]!.box.y1) k (-(boxU es k).y1)
  | 0 => ⟨IsMin.zero _, IsMin.zero _, IsMin.zero _, IsMin.zero _⟩
  | k + 1 => by
    obtain ⟨h1, h2, h3, h4⟩ := boxU_min es k
    have e3 : -(boxU es (k + 1)).x1 = min (-(boxU es k).x1) (-es[k + 1]!.box.x1) := by show -(max _ _) = _; omega
    have e4 : -(boxU es (k + 1)).y1 = min (-(boxU es k).y1) (-es[k + 1]!.box.y1) := by show -(max _ _) = _; omega
    rw [e3, e4]
    exact ⟨h1.succ, h2.succ, h3.succ, h4.succ⟩
theorem IsMin.mem {es : List E7} {g : E7 → Int} {k : Nat} {x : Int} (h : IsMin (fun j => g es[j]!) k x) (hk : k + 1 = es.length) : (∀ e ∈ es, x ≤ g e) ∧ ∃ e ∈ es, x = g e := by
  obtain ⟨h1, j, hj, h2⟩ := h
  refine ⟨fun e he => ?_, es[j]!, by rw [getElem!_pos es j (by omega)]; exact List.getElem_mem _, h2⟩
  obtain ⟨i, hi, rfl⟩ := List.getElem_of_mem he
  have : x ≤ g es[i]! := h1 i (by omega)
  rwa [getElem!_pos es i hi] at this
theorem boxU_is {es : List E7} (h : 0 < es.length) : IsBox es (boxU es (es.length - 1)) := by
  obtain ⟨h1, h2, h3, h4⟩ := boxU_min es (es.length - 1)
  have hk : es.length - 1 + 1 = es.length := by omega
  have a := IsMin.mem (g := fun e => e.box.x0) h1 hk
  have b := IsMin.mem (g := fun e => e.box.y0) h2 hk
  obtain ⟨c1, c, cm, c2⟩ := IsMin.mem (g := fun e => -e.box.x1) h3 hk
  obtain ⟨d1, d, dm, d2⟩ := IsMin.mem (g := fun e => -e.box.y1) h4 hk
  exact ⟨a, b, ⟨fun e he => by have := c1 e he; omega, c, cm, by omega⟩, ⟨fun e he => by have := d1 e he; omega, d, dm, by omega⟩⟩
theorem boxS_eq {es fs : List E7} (R : Int) (h : 0 < es.length) (hf : 0 < fs.length) (h1 : ∀ e ∈ es, ∃ f ∈ fs, f.box = e.box) (h2 : ∀ f ∈ fs, ∃ e ∈ es, e.box = f.box) : boxS es R = boxS fs R := by
  unfold boxS
  rw [if_neg (by omega), if_neg (by omega), (boxU_is h).eq (boxU_is hf) h1 h2]
def windS (px py : Int) : List E7 → Int
  | [] => 0
  | e :: r => e.ray px py + windS px py r
theorem windS_append (px py : Int) (a b : List E7) : windS px py (a ++ b) = windS px py a + windS px py b := by
  induction a with
  | nil => simp [windS]
  | cons e r ih => simp only [List.cons_append, windS, ih]; omega
theorem windU_take (px py : Int) (es : List E7) : ∀ k, k ≤ es.length → windU es px py k = windS px py (es.take k)
  | 0, _ => rfl
  | k + 1, h => by
    have e : es.take (k + 1) = es.take k ++ [es[k]!] := by rw [List.take_add_one, getElem!_pos es k (by omega), List.getElem?_eq_getElem (by omega : k < es.length)]; rfl
    rw [e, windS_append, ← windU_take px py es k (by omega)]
    simp [windU, windS]
theorem windU_all (px py : Int) (es : List E7) : windU es px py es.length = windS px py es := by rw [windU_take px py es _ (Nat.le_refl _), List.take_length]
def revs (es : List E7) : List E7 := (es.map E7.rev).reverse
theorem windS_revs {px py : Int} {es : List E7} (h : ∀ e ∈ es, e.okE) : windS px py (revs es) = - windS px py es := by
  unfold revs
  induction es with
  | nil => rfl
  | cons e r ih =>
    rw [List.map_cons, List.reverse_cons, windS_append, ih fun x hx => h x (List.mem_cons_of_mem _ hx)]
    simp only [windS]
    rw [ray_rev (h e (List.mem_cons_self ..))]
    omega
theorem mem_revs {es : List E7} {x : E7} : x ∈ revs es ↔ ∃ e ∈ es, e.rev = x := by unfold revs; rw [List.mem_reverse, List.mem_map]
theorem revs_length (es : List E7) : (revs es).length = es.length := by simp [revs]
theorem revs_get {es : List E7} {j : Nat} (h : j < es.length) : (revs es)[j]! = es[es.length - 1 - j]!.rev := by
  rw [getElem!_pos _ j (by rw [revs_length]; exact h), getElem!_pos es _ (by omega)]
  unfold revs
  rw [List.getElem_reverse]
  simp
theorem chain_revs {es : List E7} {closed : Bool} (h : chainI es closed) : chainI (revs es) closed := by
  obtain ⟨h1, h2⟩ := h
  rw [chainI, revs_length]
  refine ⟨fun j hj => ?_, fun hc h0 => ?_⟩
  · rw [revs_get (by omega), revs_get (by omega)]
    have := h1 (es.length - 1 - (j + 1)) (by omega)
    rw [show es.length - 1 - (j + 1) + 1 = es.length - 1 - j by omega] at this
    exact ⟨this.1.symm, this.2.symm⟩
  · rw [revs_get (by omega), revs_get h0]
    have := h2 hc h0
    rw [show es.length - 1 - (es.length - 1) = 0 by omega, show es.length - 1 - 0 = es.length - 1 by omega]
    exact ⟨this.1.symm, this.2.symm⟩
theorem check_revs {K R : Int} {es : List E7} (h : checkS K R es = 0) : checkS K R (revs es) = 0 := by
  obtain ⟨h1, h2, h3, h4, h5, h6, h7⟩ := checkS_zero h
  refine checkS_of h1 (by rw [revs_length]; exact h2) (by rw [revs_length]; exact h3) ?_ (chainP_iff.2 (chain_revs (chainP_iff.1 h5))) h6 h7
  intro x hx
  obtain ⟨e, he, rfl⟩ := mem_revs.1 hx
  exact okE_rev (h4 e he)
theorem surS_list {es : List E7} {px py : Int} : surS es px py = (decide (∃ e ∈ es, e.on px py) || decide (windS px py es ≠ 0)) := by unfold surS; rw [windU_all]
theorem inside_revs {K R : Int} {es : List E7} (h : checkS K R es = 0) (px py : Int) : insideS K R (revs es) px py = insideS K R es px py := by
  have h' := check_revs h
  obtain ⟨h1, h2, h3, h4, h5, h6, h7⟩ := checkS_zero h
  have hb : boxS (revs es) R = boxS es R := boxS_eq R (by rw [revs_length]; omega) (by omega)
    (fun x hx => by obtain ⟨e, he, rfl⟩ := mem_revs.1 hx; exact ⟨e, he, (box_rev e).symm⟩) (fun e he => ⟨e.rev, mem_revs.2 ⟨e, he, rfl⟩, box_rev e⟩)
  have hc : (∃ x ∈ revs es, x.cov R px py) ↔ ∃ e ∈ es, e.cov R px py :=
    ⟨fun ⟨x, hx, hc⟩ => by obtain ⟨e, he, rfl⟩ := mem_revs.1 hx; exact ⟨e, he, (cov_rev (h4 e he)).1 hc⟩, fun ⟨e, he, hc⟩ => ⟨_, mem_revs.2 ⟨e, he, rfl⟩, (cov_rev (h4 e he)).2 hc⟩⟩
  have ho : (∃ x ∈ revs es, x.on px py) ↔ ∃ e ∈ es, e.on px py :=
    ⟨fun ⟨x, hx, hc⟩ => by obtain ⟨e, he, rfl⟩ := mem_revs.1 hx; exact ⟨e, he, (on_rev (h4 e he)).1 hc⟩, fun ⟨e, he, hc⟩ => ⟨_, mem_revs.2 ⟨e, he, rfl⟩, (on_rev (h4 e he)).2 hc⟩⟩
  have hs : surS (revs es) px py = surS es px py := by
    rw [surS_list, surS_list, windS_revs h4, decide_eq_decide.2 ho, decide_eq_decide.2 (show (-windS px py es ≠ 0) ↔ (windS px py es ≠ 0) by omega)]
  unfold insideS
  rw [h, h', hb, hs, decide_eq_decide.2 hc]
def turned (es : List E7) (n : Nat) : List E7 := es.drop n ++ es.take n
theorem turned_length (es : List E7) (n : Nat) : (turned es n).length = es.length := by unfold turned; rw [List.length_append, List.length_drop, List.length_take]; omega
theorem mem_turned {es : List E7} {n : Nat} {x : E7} : x ∈ turned es n ↔ x ∈ es := by
  unfold turned
  rw [List.mem_append, Or.comm, ← List.mem_append, List.take_append_drop]
theorem turned_get {es : List E7} {n j : Nat} (hn : n < es.length) (h : j < es.length) : (turned es n)[j]! = if j + n < es.length then es[j + n]! else es[j + n - es.length]! := by
  rw [getElem!_pos _ j (by rw [turned_length]; exact h)]
  unfold turned
  by_cases hj : j + n < es.length
  · rw [if_pos hj, List.getElem_append_left (by rw [List.length_drop]; omega), List.getElem_drop, getElem!_pos es _ hj]
    congr 1; omega
  · rw [if_neg hj, List.getElem_append_right (by rw [List.length_drop]; omega), List.getElem_take, getElem!_pos es _ (by omega)]
    congr 1
    rw [List.length_drop]; omega
theorem chain_turned {es : List E7} {n : Nat} (hn : n < es.length) (h : chainI es true) : chainI (turned es n) true := by
  obtain ⟨h1, h2⟩ := h
  have h2 := h2 rfl (by omega)
  rw [chainI, turned_length]
  refine ⟨fun j hj => ?_, fun _ h0 => ?_⟩
  · rw [turned_get hn (by omega), turned_get hn (by omega)]
    by_cases c1 : j + 1 + n < es.length
    · rw [if_pos (by omega), if_pos c1, show j + 1 + n = j + n + 1 by omega]
      exact h1 (j + n) (by omega)
    · rw [if_neg c1]
      by_cases c2 : j + n < es.length
      · rw [if_pos c2, show j + n = es.length - 1 by omega, show j + 1 + n - es.length = 0 by omega]
        exact h2
      · rw [if_neg c2, show j + 1 + n - es.length = j + n - es.length + 1 by omega]
        exact h1 _ (by omega)
  · rw [turned_get hn (by omega), turned_get hn h0]
    by_cases c : n = 0
    · subst c
      rw [if_pos (by omega), if_pos (by omega)]
      exact h2
    · rw [if_neg (by omega), if_pos (by omega), show es.length - 1 + n - es.length = n - 1 by omega, show 0 + n = n - 1 + 1 by omega]
      exact h1 (n - 1) (by omega)
theorem check_turned {R : Int} {es : List E7} {n : Nat} (hn : n < es.length) (h : checkS 2 R es = 0) : checkS 2 R (turned es n) = 0 := by
  obtain ⟨h1, h2, h3, h4, h5, h6, h7⟩ := checkS_zero h
  exact checkS_of h1 (by rw [turned_length]; exact h2) (by rw [turned_length]; exact h3) (fun x hx => h4 x (mem_turned.1 hx)) (chainP_iff.2 (chain_turned hn (chainP_iff.1 h5))) h6 h7
theorem inside_turned {R : Int} {es : List E7} {n : Nat} (hn : n < es.length) (h : checkS 2 R es = 0) (px py : Int) : insideS 2 R (turned es n) px py = insideS 2 R es px py := by
  have h' := check_turned hn h
  obtain ⟨h1, h2, h3, h4, h5, h6, h7⟩ := checkS_zero h
  have hb : boxS (turned es n) R = boxS es R := boxS_eq R (by rw [turned_length]; omega) (by omega) (fun x hx => ⟨x, mem_turned.1 hx, rfl⟩) (fun e he => ⟨e, mem_turned.2 he, rfl⟩)
  have ho : (∃ x ∈ turned es n, x.on px py) ↔ ∃ e ∈ es, e.on px py := ⟨fun ⟨x, hx, hc⟩ => ⟨x, mem_turned.1 hx, hc⟩, fun ⟨x, hx, hc⟩ => ⟨x, mem_turned.2 hx, hc⟩⟩
  have hw : windS px py (turned es n) = windS px py es := by
    have e := congrArg (windS px py) (List.take_append_drop n es)
    rw [windS_append] at e
    unfold turned
    rw [windS_append]
    omega
  have hs : surS (turned es n) px py = surS es px py := by rw [surS_list, surS_list, hw, decide_eq_decide.2 ho]
  unfold insideS
  rw [h, h', hb, hs, decide_eq_decide.2 (show (∃ x ∈ turned es n, x.cov R px py) ↔ ∃ e ∈ es, e.cov R px py from ⟨fun ⟨x, hx, hc⟩ => ⟨x, mem_turned.1 hx, hc⟩, fun ⟨x, hx, hc⟩ => ⟨x, mem_turned.2 hx, hc⟩⟩)]
end Go.Proofs.Ytliimpbbppbghaa

