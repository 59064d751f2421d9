/- How many common points there can be; points as edges. -/
import Derived.Test.YtmoclgpdcnjacaaMm3
set_option linter.all false
set_option autoImplicit false
namespace Go.Proofs.Ytmoclgpdcnjacaa.Sx
open Go Go.RowKit

theorem count_ok {k ax ay bx by' cx cy k2 px py qx qy rx ry : Int} (ha : okP k ax ay bx by' cx cy) (hb : okP k2 px py qx qy rx ry) : countZ k ax ay bx by' cx cy k2 px py qx qy rx ry = countOk k ax ay bx by' cx cy k2 px py qx qy rx ry := if_pos ⟨ha, hb⟩
section
variable {k ax ay bx by' cx cy k2 px py qx qy rx ry : Int}
theorem ends_in : endsZ k ax ay bx by' cx cy k2 px py qx qy rx ry = -1 ∨ endsZ k ax ay bx by' cx cy k2 px py qx qy rx ry = 0 ∨ endsZ k ax ay bx by' cx cy k2 px py qx qy rx ry = 1 := by
  rcases ends_spec (k := k) (ax := ax) (ay := ay) (bx := bx) (by' := by') (cx := cx) (cy := cy) (k2 := k2) (px := px) (py := py) (qx := qx) (qy := qy) (rx := rx) (ry := ry) with h | h | h
  · exact .inl h.1
  · exact .inr (.inl h.1)
  · exact .inr (.inr h.1)
/-- Without two common ends there are not infinitely many points. -/
theorem ends_fin (h : ∀ z1 z2 : Int × Int, onP k ax ay bx by' cx cy z1.1 z1.2 → onP k2 px py qx qy rx ry z1.1 z1.2 → onP k ax ay bx by' cx cy z2.1 z2.2 → onP k2 px py qx qy rx ry z2.1 z2.2 → z1 = z2) : endsZ k ax ay bx by' cx cy k2 px py qx qy rx ry ≠ -1 := by
  intro e
  rcases ends_spec (k := k) (ax := ax) (ay := ay) (bx := bx) (by' := by') (cx := cx) (cy := cy) (k2 := k2) (px := px) (py := py) (qx := qx) (qy := qy) (rx := rx) (ry := ry) with h' | h' | h'
  · obtain ⟨-, z1, z2, h1, h2, h3⟩ := h'
    exact h3 (h z1 z2 h1.2.1 h1.2.2 h2.2.1 h2.2.2)
  · omega
  · omega
theorem cut_in (cx cy nx ny lev r x0 y0 x1 y1 : Int) : 0 ≤ cutZ cx cy nx ny lev r x0 y0 x1 y1 ∧ cutZ cx cy nx ny lev r x0 y0 x1 y1 ≤ 2 := by
  unfold cutZ
  split
  · omega
  · split <;> split <;> omega
theorem cross_in (ax ay dx dy px py ex ey x0 y0 x1 y1 : Int) : 0 ≤ crossZ2 ax ay dx dy px py ex ey x0 y0 x1 y1 ∧ crossZ2 ax ay dx dy px py ex ey x0 y0 x1 y1 ≤ 1 := by
  unfold crossZ2
  split <;> split <;> omega
theorem pt_eq2 (hp : ax = bx ∧ ay = by') {z1 z2 : Int × Int} (h1 : onP k ax ay bx by' cx cy z1.1 z1.2) (h2 : onP k ax ay bx by' cx cy z2.1 z2.2) : z1 = z2 := by
  have b1 := h1.2.1
  have b2 := h2.2.1
  unfold boxP at b1 b2
  exact Prod.ext (by omega) (by omega)
/-- What the counts are bounded by. -/
theorem count_in (ha : okP k ax ay bx by' cx cy) (hb : okP k2 px py qx qy rx ry) :
    -1 ≤ countZ k ax ay bx by' cx cy k2 px py qx qy rx ry ∧ countZ k ax ay bx by' cx cy k2 px py qx qy rx ry ≤ 2 ∧ (k = 1 → k2 = 1 → countZ k ax ay bx by' cx cy k2 px py qx qy rx ry ≤ 1) ∧
    (k ≠ 1 → k2 ≠ 1 → cx = rx → cy = ry → countZ k ax ay bx by' cx cy k2 px py qx qy rx ry ≤ 1) ∧
    (¬ (k = 1 ∧ k2 = 1) → ¬ (k ≠ 1 ∧ k2 ≠ 1 ∧ cx = rx ∧ cy = ry ∧ radiusZ k ax ay bx by' cx cy = radiusZ k2 px py qx qy rx ry) → 0 ≤ countZ k ax ay bx by' cx cy k2 px py qx qy rx ry) := by
  rw [count_ok ha hb]
  have e := ends_in (k := k) (ax := ax) (ay := ay) (bx := bx) (by' := by') (cx := cx) (cy := cy) (k2 := k2) (px := px) (py := py) (qx := qx) (qy := qy) (rx := rx) (ry := ry)
  unfold countOk
  split
  · omega
  · split
    · rename_i h
      split
      · omega
      · have := cross_in ax ay (bx - ax) (by' - ay) px py (qx - px) (qy - py) (max (min ax bx) (min px qx)) (max (min ay by') (min py qy)) (min (max ax bx) (max px qx)) (min (max ay by') (max py qy))
        omega
    · rename_i h
      split
      · rename_i hk
        split
        · rename_i hp
          have := ends_fin (k := k) (ax := ax) (ay := ay) (bx := bx) (by' := by') (cx := cx) (cy := cy) (k2 := k2) (px := px) (py := py) (qx := qx) (qy := qy) (rx := rx) (ry := ry) (fun z1 z2 h1 _ h2 _ => pt_eq2 hp h1 h2)
          omega
        · unfold lcZ
          have := cut_in rx ry (0 - (by' - ay)) (bx - ax) (2 * ((bx - ax) * (ay - ry) - (by' - ay) * (ax - rx))) (radiusZ k2 px py qx qy rx ry) (max (min ax bx) (min px qx)) (max (min ay by') (min py qy)) (min (max ax bx) (max px qx)) (min (max ay by') (max py qy))
          omega
      · rename_i hk
        split
        · rename_i hk2
          split
          · rename_i hp
            have := ends_fin (k := k) (ax := ax) (ay := ay) (bx := bx) (by' := by') (cx := cx) (cy := cy) (k2 := k2) (px := px) (py := py) (qx := qx) (qy := qy) (rx := rx) (ry := ry) (fun z1 z2 _ h1 _ h2 => pt_eq2 hp h1 h2)
            omega
          · unfold lcZ
            have := cut_in cx cy (0 - (qy - py)) (qx - px) (2 * ((qx - px) * (py - cy) - (qy - py) * (px - cx))) (radiusZ k ax ay bx by' cx cy) (max (min ax bx) (min px qx)) (max (min ay by') (min py qy)) (min (max ax bx) (max px qx)) (min (max ay by') (max py qy))
            omega
        · rename_i hk2
          split
          · rename_i hc
            have hr : radiusZ k ax ay bx by' cx cy ≠ radiusZ k2 px py qx qy rx ry → endsZ k ax ay bx by' cx cy k2 px py qx qy rx ry ≠ -1 := fun hne => by
              refine ends_fin fun z1 z2 h1 h2 _ _ => absurd ?_ hne
              have ra := rad_sq ha hk
              have rb := rad_sq hb hk2
              have d1 := (h1.2.2.resolve_left fun x => hk x.1).2
              have d2 := (h2.2.2.resolve_left fun x => hk2 x.1).2
              refine sq_eq (rad_bounds ha).1 (rad_bounds hb).1 ?_
              rw [ra, rb, ← d1, ← d2, hc.1, hc.2]
            refine ⟨by omega, by omega, by omega, by omega, fun _ h2 => ?_⟩
            have := hr (fun he => h2 ⟨hk, hk2, hc.1, hc.2, he⟩)
            omega
          · rename_i hc
            unfold ccZ
            have := cut_in cx cy (rx - cx) (ry - cy) ((rx - cx) * (rx - cx) + (ry - cy) * (ry - cy) + (radiusZ k ax ay bx by' cx cy) * (radiusZ k ax ay bx by' cx cy) - (radiusZ k2 px py qx qy rx ry) * (radiusZ k2 px py qx qy rx ry)) (radiusZ k ax ay bx by' cx cy) (max (min ax bx) (min px qx)) (max (min ay by') (min py qy)) (min (max ax bx) (max px qx)) (min (max ay by') (max py qy))
            exact ⟨by omega, by omega, by omega, fun _ _ h1 h2 => absurd ⟨h1, h2⟩ hc, by omega⟩
/-- An edge and itself. -/
theorem count_self (ha : okP k ax ay bx by' cx cy) : countZ k ax ay bx by' cx cy k ax ay bx by' cx cy = if ax = bx ∧ ay = by' then 1 else -1 := by
  rw [count_ok ha ha]
  obtain ⟨o1, o2⟩ := on_ends ha
  have hE := ends_spec (k := k) (ax := ax) (ay := ay) (bx := bx) (by' := by') (cx := cx) (cy := cy) (k2 := k) (px := ax) (py := ay) (qx := bx) (qy := by') (rx := cx) (ry := cy)
  have e : countOk k ax ay bx by' cx cy k ax ay bx by' cx cy = endsZ k ax ay bx by' cx cy k ax ay bx by' cx cy := by
    unfold countOk
    rw [if_neg (fun h => h (by unfold ovP; omega))]
    by_cases hk : k = 1
    · rw [if_pos ⟨hk, hk⟩, if_pos (.inr (.inr (by rw [Int.mul_comm]; omega)))]
    · rw [if_neg (fun h => hk h.1), if_neg hk, if_neg hk, if_pos ⟨rfl, rfl⟩]
  rw [e]
  split
  · rename_i hp
    refine hE.uniq (T := fun z => z = (ax, ay)) (.inr (.inr ⟨rfl, (ax, ay), rfl, fun z h => h⟩)) fun z => ⟨fun h => pt_eq2 (k := k) (cx := cx) (cy := cy) hp h.2.1 o1, fun h => ?_⟩
    subst h
    exact ⟨.inl rfl, o1, o1⟩
  · rename_i hp
    refine hE.uniq (T := endP k ax ay bx by' cx cy k ax ay bx by' cx cy) (.inl ⟨rfl, (ax, ay), (bx, by'), ⟨.inl rfl, o1, o1⟩, ⟨.inr (.inl rfl), o2, o2⟩, fun h => hp ⟨congrArg Prod.fst h, congrArg Prod.snd h⟩⟩) fun z => Iff.rfl
/-- An edge and a point. -/
theorem count_pt (ha : okP k ax ay bx by' cx cy) (hb : okP 1 px py px py 0 0) : countZ k ax ay bx by' cx cy 1 px py px py 0 0 = if onP k ax ay bx by' cx cy px py then 1 else 0 := by
  rw [count_ok ha hb]
  obtain ⟨o1, -⟩ := on_ends hb
  have hE := ends_spec (k := k) (ax := ax) (ay := ay) (bx := bx) (by' := by') (cx := cx) (cy := cy) (k2 := 1) (px := px) (py := py) (qx := px) (qy := py) (rx := 0) (ry := 0)
  have e : ovP ax ay bx by' px py px py → countOk k ax ay bx by' cx cy 1 px py px py 0 0 = endsZ k ax ay bx by' cx cy 1 px py px py 0 0 := fun ho => by
    unfold countOk
    rw [if_neg (fun h => h ho)]
    by_cases hk : k = 1
    · rw [if_pos ⟨hk, rfl⟩, if_pos (.inr (.inl ⟨rfl, rfl⟩))]
    · rw [if_neg (fun h => hk h.1), if_neg hk, if_pos rfl, if_pos ⟨rfl, rfl⟩]
  split
  · rename_i h
    rw [e (over_of h o1).1]
    refine hE.uniq (T := fun z => z = (px, py)) (.inr (.inr ⟨rfl, (px, py), rfl, fun z h => h⟩)) fun z => ⟨fun h => pt_eq2 (k := 1) (ax := px) (ay := py) (cx := 0) (cy := 0) ⟨rfl, rfl⟩ h.2.2 o1, fun h' => ?_⟩
    subst h'
    exact ⟨.inr (.inr (.inl rfl)), h, o1⟩
  · rename_i h
    by_cases ho : ovP ax ay bx by' px py px py
    · rw [e ho]
      refine hE.uniq (T := fun _ => False) (.inr (.inl ⟨rfl, fun z h => h⟩)) fun z => ⟨fun hz => ?_, fun h => h.elim⟩
      have := pt_eq2 (k := 1) (ax := px) (ay := py) (cx := 0) (cy := 0) ⟨rfl, rfl⟩ hz.2.2 (z2 := (px, py)) o1
      subst this
      exact h hz.2.1
    · unfold countOk
      rw [if_pos ho]
/-- Edges whose boxes have no common point. -/
theorem count_apart (h : ¬ ovP ax ay bx by' px py qx qy) : countZ k ax ay bx by' cx cy k2 px py qx qy rx ry = 0 := by
  unfold countZ countOk
  rw [if_pos h]
  split <;> rfl
theorem count_ne {p1 p2 : Int} (h1 : onP k ax ay bx by' cx cy p1 p2) (h2 : onP k2 px py qx qy rx ry p1 p2) : countZ k ax ay bx by' cx cy k2 px py qx qy rx ry ≠ 0 := by
  rw [count_ok h1.1 h2.1]
  exact common_ne h1 h2
/-- An edge that is moved along. -/
theorem ok_shift {k ax ay bx by' cx cy u v : Int} (h : okP k ax ay bx by' cx cy) (hk : k ≠ 1) (b : -1000 ≤ ax ∧ ax ≤ 1000 ∧ -1000 ≤ ay ∧ ay ≤ 1000 ∧ -1000 ≤ bx ∧ bx ≤ 1000 ∧ -1000 ≤ by' ∧ by' ≤ 1000 ∧ -1000 ≤ cx ∧ cx ≤ 1000 ∧ -1000 ≤ cy ∧ cy ≤ 1000) (hu : -100000 ≤ u ∧ u ≤ 100000) (hv : -100000 ≤ v ∧ v ≤ 100000) :
    okP k (ax + u) (ay + v) (bx + u) (by' + v) (cx + u) (cy + v) := by
  have ha := ok_arc h hk
  refine ⟨h.1, h.2.1, by unfold rightP; omega, by unfold rightP; omega, by unfold rightP; omega, .inr ?_⟩
  unfold arcP at ha ⊢
  omega
theorem ok_shift1 {k ax ay bx by' cx cy u v : Int} (h : okP k ax ay bx by' cx cy) (hk : k = 1) (b : -1000 ≤ ax ∧ ax ≤ 1000 ∧ -1000 ≤ ay ∧ ay ≤ 1000 ∧ -1000 ≤ bx ∧ bx ≤ 1000 ∧ -1000 ≤ by' ∧ by' ≤ 1000) (hu : -100000 ≤ u ∧ u ≤ 100000) (hv : -100000 ≤ v ∧ v ≤ 100000) :
    okP k (ax + u) (ay + v) (bx + u) (by' + v) cx cy := by
  obtain ⟨h1, h2, h3, h4, h5, h6⟩ := h
  refine ⟨h1, h2, by unfold rightP; omega, by unfold rightP; omega, h5, .inl ?_⟩
  unfold lineP arcP at *
  omega
end
end Go.Proofs.Ytmoclgpdcnjacaa.Sx
