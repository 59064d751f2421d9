/- Neither the order nor the directions of edges play a part, nor do motions. -/
import Derived.Test.YtmoclgpdcnjacaaMy
import Derived.Test.YtmoclgpdcnjacaaMk
set_option linter.all false
set_option autoImplicit false
set_option maxHeartbeats 4000000
namespace Go.Proofs.Ytmoclgpdcnjacaa.Sx
open Go Go.RowKit

theorem ite_eq {P Q : Prop} [Decidable P] [Decidable Q] {a b c d : Int} (h : P ↔ Q) (h1 : Q → a = c) (h2 : ¬ Q → b = d) : (if P then a else b) = if Q then c else d := by
  by_cases q : Q
  · rw [if_pos q, if_pos (h.2 q)]; exact h1 q
  · rw [if_neg q, if_neg (fun p => q (h.1 p))]; exact h2 q
section
variable {k ax ay bx by' cx cy k2 px py qx qy rx ry K AX AY BX BY CX CY K2 PX PY QX QY RX RY : Int}
/-- Counts agree if all their parts do. -/
theorem count_congr (ho : ovP AX AY BX BY PX PY QX QY ↔ ovP ax ay bx by' px py qx qy) (h1 : K = 1 ↔ k = 1) (h2 : K2 = 1 ↔ k2 = 1)
    (hp : (AX = BX ∧ AY = BY) ↔ (ax = bx ∧ ay = by')) (hq : (PX = QX ∧ PY = QY) ↔ (px = qx ∧ py = qy))
    (hx : (BX - AX) * (QY - PY) - (BY - AY) * (QX - PX) = 0 ↔ (bx - ax) * (qy - py) - (by' - ay) * (qx - px) = 0)
    (hc : k ≠ 1 → k2 ≠ 1 → ((CX = RX ∧ CY = RY) ↔ (cx = rx ∧ cy = ry)))
    (he : endsZ K AX AY BX BY CX CY K2 PX PY QX QY RX RY = endsZ k ax ay bx by' cx cy k2 px py qx qy rx ry)
    (v1 : k = 1 → k2 = 1 → (bx - ax) * (qy - py) - (by' - ay) * (qx - px) ≠ 0 → crossZ2 AX AY (BX - AX) (BY - AY) PX PY (QX - PX) (QY - PY) (mxZ AX BX PX QX) (mxZ AY BY PY QY) (mnZ AX BX PX QX) (mnZ AY BY PY QY) = crossZ2 ax ay (bx - ax) (by' - ay) px py (qx - px) (qy - py) (mxZ ax bx px qx) (mxZ ay by' py qy) (mnZ ax bx px qx) (mnZ ay by' py qy))
    (v2 : k = 1 → k2 ≠ 1 → lcZ AX AY BX BY RX RY (radiusZ K2 PX PY QX QY RX RY) (mxZ AX BX PX QX) (mxZ AY BY PY QY) (mnZ AX BX PX QX) (mnZ AY BY PY QY) = lcZ ax ay bx by' rx ry (radiusZ k2 px py qx qy rx ry) (mxZ ax bx px qx) (mxZ ay by' py qy) (mnZ ax bx px qx) (mnZ ay by' py qy))
    (v3 : k ≠ 1 → k2 = 1 → lcZ PX PY QX QY CX CY (radiusZ K AX AY BX BY CX CY) (mxZ AX BX PX QX) (mxZ AY BY PY QY) (mnZ AX BX PX QX) (mnZ AY BY PY QY) = lcZ px py qx qy cx cy (radiusZ k ax ay bx by' cx cy) (mxZ ax bx px qx) (mxZ ay by' py qy) (mnZ ax bx px qx) (mnZ ay by' py qy))
    (v4 : k ≠ 1 → k2 ≠ 1 → ccZ CX CY (radiusZ K AX AY BX BY CX CY) RX RY (radiusZ K2 PX PY QX QY RX RY) (mxZ AX BX PX QX) (mxZ AY BY PY QY) (mnZ AX BX PX QX) (mnZ AY BY PY QY) = ccZ cx cy (radiusZ k ax ay bx by' cx cy) rx ry (radiusZ k2 px py qx qy rx ry) (mxZ ax bx px qx) (mxZ ay by' py qy) (mnZ ax bx px qx) (mnZ ay by' py qy)) :
    countOk K AX AY BX BY CX CY K2 PX PY QX QY RX RY = countOk k ax ay bx by' cx cy k2 px py qx qy rx ry := by
  unfold countOk
  refine ite_eq (not_congr ho) (fun _ => rfl) fun _ => ?_
  refine ite_eq (and_congr h1 h2) (fun a => ite_eq (or_congr hp (or_congr hq hx)) (fun _ => he) fun c => v1 a.1 a.2 fun h => c (.inr (.inr h))) fun n1 => ?_
  refine ite_eq h1 (fun a1 => ite_eq hp (fun _ => he) fun _ => v2 a1 fun a2 => n1 ⟨a1, a2⟩) fun a1 => ?_
  exact ite_eq h2 (fun a2 => ite_eq hq (fun _ => he) fun _ => v3 a1 a2) fun a2 => ite_eq (hc a1 a2) (fun _ => he) fun _ => v4 a1 a2
theorem count_LL (a1 : k = 1) (a2 : k2 = 1) : countOk k ax ay bx by' cx cy k2 px py qx qy rx ry = if ¬ ovP ax ay bx by' px py qx qy then 0 else if (ax = bx ∧ ay = by') ∨ (px = qx ∧ py = qy) ∨ (bx - ax) * (qy - py) - (by' - ay) * (qx - px) = 0 then endsZ k ax ay bx by' cx cy k2 px py qx qy rx ry else crossZ2 ax ay (bx - ax) (by' - ay) px py (qx - px) (qy - py) (max (min ax bx) (min px qx)) (max (min ay by') (min py qy)) (min (max ax bx) (max px qx)) (min (max ay by') (max py qy)) := by
  unfold countOk
  rw [if_pos (show k = 1 ∧ k2 = 1 from ⟨a1, a2⟩)]
theorem count_LC (a1 : k = 1) (a2 : k2 ≠ 1) : countOk k ax ay bx by' cx cy k2 px py qx qy rx ry = if ¬ ovP ax ay bx by' px py qx qy then 0 else if ax = bx ∧ ay = by' then endsZ k ax ay bx by' cx cy k2 px py qx qy rx ry else lcZ ax ay bx by' rx ry (radiusZ k2 px py qx qy rx ry) (max (min ax bx) (min px qx)) (max (min ay by') (min py qy)) (min (max ax bx) (max px qx)) (min (max ay by') (max py qy)) := by
  unfold countOk
  rw [if_neg (show ¬ (k = 1 ∧ k2 = 1) from fun h => a2 h.2), if_pos (show k = 1 from a1)]
theorem count_CL (a1 : k ≠ 1) (a2 : k2 = 1) : countOk k ax ay bx by' cx cy k2 px py qx qy rx ry = if ¬ ovP ax ay bx by' px py qx qy then 0 else if px = qx ∧ py = qy then endsZ k ax ay bx by' cx cy k2 px py qx qy rx ry else lcZ px py qx qy cx cy (radiusZ k ax ay bx by' cx cy) (max (min ax bx) (min px qx)) (max (min ay by') (min py qy)) (min (max ax bx) (max px qx)) (min (max ay by') (max py qy)) := by
  unfold countOk
  rw [if_neg (show ¬ (k = 1 ∧ k2 = 1) from fun h => a1 h.1), if_neg (show ¬ k = 1 from a1), if_pos (show k2 = 1 from a2)]
theorem count_CC (a1 : k ≠ 1) (a2 : k2 ≠ 1) : countOk k ax ay bx by' cx cy k2 px py qx qy rx ry = if ¬ ovP ax ay bx by' px py qx qy then 0 else if cx = rx ∧ cy = ry then endsZ k ax ay bx by' cx cy k2 px py qx qy rx ry else ccZ cx cy (radiusZ k ax ay bx by' cx cy) rx ry (radiusZ k2 px py qx qy rx ry) (max (min ax bx) (min px qx)) (max (min ay by') (min py qy)) (min (max ax bx) (max px qx)) (min (max ay by') (max py qy)) := by
  unfold countOk
  rw [if_neg (show ¬ (k = 1 ∧ k2 = 1) from fun h => a1 h.1), if_neg (show ¬ k = 1 from a1), if_neg (show ¬ k2 = 1 from a2)]
/-- The order of two edges plays no part. -/
theorem count_symm : countOk k2 px py qx qy rx ry k ax ay bx by' cx cy = countOk k ax ay bx by' cx cy k2 px py qx qy rx ry := by
  have he : endsZ k2 px py qx qy rx ry k ax ay bx by' cx cy = endsZ k ax ay bx by' cx cy k2 px py qx qy rx ry := by
    refine (ends_spec k2 px py qx qy rx ry k ax ay bx by' cx cy).uniq (ends_spec k ax ay bx by' cx cy k2 px py qx qy rx ry) fun z => ?_
    unfold endP
    constructor
    · rintro ⟨h1, h2, h3⟩
      exact ⟨by rcases h1 with h | h | h | h <;> simp [h], h3, h2⟩
    · rintro ⟨h1, h2, h3⟩
      exact ⟨by rcases h1 with h | h | h | h <;> simp [h], h3, h2⟩
  have ho : ovP px py qx qy ax ay bx by' ↔ ovP ax ay bx by' px py qx qy := by unfold ovP; constructor <;> (intro h; omega)
  have b1 : max (min px qx) (min ax bx) = max (min ax bx) (min px qx) := by omega
  have b2 : max (min py qy) (min ay by') = max (min ay by') (min py qy) := by omega
  have b3 : min (max px qx) (max ax bx) = min (max ax bx) (max px qx) := by omega
  have b4 : min (max py qy) (max ay by') = min (max ay by') (max py qy) := by omega
  by_cases a1 : k = 1
  · by_cases a2 : k2 = 1
    · rw [count_LL a2 a1, count_LL a1 a2, b1, b2, b3, b4]
      have hx : (qx - px) * (by' - ay) - (qy - py) * (bx - ax) = -((bx - ax) * (qy - py) - (by' - ay) * (qx - px)) := by grind
      refine ite_eq (not_congr ho) (fun _ => rfl) fun _ => ite_eq (by rw [hx]; constructor <;> (intro h; omega)) (fun _ => he) fun c => ?_
      have hn : (bx - ax) * (qy - py) - (by' - ay) * (qx - px) ≠ 0 := fun h => c (.inr (.inr h))
      generalize bx - ax = dx at *
      generalize by' - ay = dy at *
      generalize qx - px = ex at *
      generalize qy - py = ey at *
      refine cross_eq hn hx ?_ ?_ ?_ ?_ <;> grind
    · rw [count_CL a2 a1, count_LC a1 a2, b1, b2, b3, b4, he]
      exact ite_eq (not_congr ho) (fun _ => rfl) fun _ => rfl
  · by_cases a2 : k2 = 1
    · rw [count_LC a2 a1, count_CL a1 a2, b1, b2, b3, b4, he]
      exact ite_eq (not_congr ho) (fun _ => rfl) fun _ => rfl
    · rw [count_CC a2 a1, count_CC a1 a2, b1, b2, b3, b4]
      refine ite_eq (not_congr ho) (fun _ => rfl) fun _ => ite_eq (by constructor <;> exact fun h => ⟨h.1.symm, h.2.symm⟩) (fun _ => he) fun c => ?_
      unfold ccZ
      rw [show cx - rx = -(rx - cx) by omega, show cy - ry = -(ry - cy) by omega]
      exact cut_other rfl rfl rfl (by grind)
/-- The other kind, for arcs. -/
def opp (k : Int) : Int := if k = 1 then 1 else 5 - k
theorem opp1 : opp k = 1 ↔ k = 1 ∨ k = 4 := by unfold opp; split <;> omega
theorem opp_ok (h : okP k ax ay bx by' cx cy) : opp k = 1 ↔ k = 1 := by rw [opp1]; have := h.2.1; omega
theorem ok_rev (h : okP k ax ay bx by' cx cy) : okP (opp k) bx by' ax ay cx cy := by
  obtain ⟨h1, h2, h3, h4, h5, h6⟩ := h
  unfold opp
  split
  · rename_i hk
    refine ⟨by omega, by omega, h4, h3, h5, .inl ?_⟩
    unfold lineP arcP at *
    omega
  · rename_i hk
    refine ⟨by omega, by omega, h4, h3, h5, .inr ?_⟩
    unfold lineP arcP at *
    omega
theorem on_rev (h : okP k ax ay bx by' cx cy) (z1 z2 : Int) : onP (opp k) bx by' ax ay cx cy z1 z2 ↔ onP k ax ay bx by' cx cy z1 z2 := by
  have ho := opp_ok h
  have hd : k ≠ 1 → dist2 bx by' cx cy = dist2 ax ay cx cy := fun hk => ((on_ends h).2.2.2.resolve_left fun x => hk x.1).2
  have hx : crossP bx by' ax ay z1 z2 = -crossP ax ay bx by' z1 z2 := by unfold crossP; grind
  unfold onP
  rw [hx]
  constructor
  · rintro ⟨h1, h2, h3⟩
    refine ⟨h, by unfold boxP at *; omega, ?_⟩
    rcases h3 with h3 | h3
    · exact .inl ⟨ho.1 h3.1, by omega⟩
    · have hk : k ≠ 1 := fun e => h3.1 (ho.2 e)
      exact .inr ⟨hk, by rw [← hd hk]; exact h3.2⟩
  · rintro ⟨h1, h2, h3⟩
    refine ⟨ok_rev h, by unfold boxP at *; omega, ?_⟩
    rcases h3 with h3 | h3
    · exact .inl ⟨ho.2 h3.1, by omega⟩
    · exact .inr ⟨fun e => h3.1 (ho.1 e), by rw [hd h3.1]; exact h3.2⟩
theorem rad_rev (h : okP k ax ay bx by' cx cy) (hk : k ≠ 1) : radiusZ (opp k) bx by' ax ay cx cy = radiusZ k ax ay bx by' cx cy := by
  have h' := ok_rev h
  have hk' : opp k ≠ 1 := fun e => hk ((opp_ok h).1 e)
  refine sq_eq (rad_bounds h').1 (rad_bounds h).1 ?_
  rw [rad_sq h' hk', rad_sq h hk]
  exact ((on_ends h).2.2.2.resolve_left fun x => hk x.1).2
theorem box_rev : mxZ bx ax px qx = mxZ ax bx px qx ∧ mnZ bx ax px qx = mnZ ax bx px qx := by unfold mxZ mnZ; constructor <;> omega
/-- The direction of an edge plays no part. -/
theorem count_rev (ha : okP k ax ay bx by' cx cy) : countOk (opp k) bx by' ax ay cx cy k2 px py qx qy rx ry = countOk k ax ay bx by' cx cy k2 px py qx qy rx ry := by
  have ho := opp_ok ha
  have hx : (ax - bx) * (qy - py) - (ay - by') * (qx - px) = -((bx - ax) * (qy - py) - (by' - ay) * (qx - px)) := by grind
  obtain ⟨b1, b3⟩ := box_rev (ax := ax) (bx := bx) (px := px) (qx := qx)
  obtain ⟨b2, b4⟩ := box_rev (ax := ay) (bx := by') (px := py) (qx := qy)
  refine count_congr (by unfold ovP; constructor <;> (intro h; omega)) ho Iff.rfl (by constructor <;> (intro h; omega)) Iff.rfl (by rw [hx]; constructor <;> (intro h; omega)) (fun _ _ => Iff.rfl) ?_ ?_ ?_ ?_ ?_
  · refine (ends_spec _ _ _ _ _ _ _ _ _ _ _ _ _ _).uniq (ends_spec k ax ay bx by' cx cy k2 px py qx qy rx ry) fun z => ?_
    unfold endP
    rw [on_rev ha]
    constructor
    · rintro ⟨h1, h2, h3⟩
      exact ⟨by rcases h1 with h | h | h | h <;> simp [h], h2, h3⟩
    · rintro ⟨h1, h2, h3⟩
      exact ⟨by rcases h1 with h | h | h | h <;> simp [h], h2, h3⟩
  · intro _ _ hn
    rw [b1, b2, b3, b4]
    generalize mxZ ax bx px qx = x0
    generalize mxZ ay by' py qy = y0
    generalize mnZ ax bx px qx = x1
    generalize mnZ ay by' py qy = y1
    have := cross_eq (px := px) (py := py) (AX := bx) (AY := by') (PX := px) (PY := py) (ax := ax) (ay := ay) (x0 := x0) (y0 := y0) (x1 := x1) (y1 := y1) (X0 := x0) (Y0 := y0) (X1 := x1) (Y1 := y1) hn hx (by grind) (by grind) (by grind) (by grind)
    exact this
  · intro _ _
    rw [b1, b2, b3, b4]
    unfold lcZ
    have := cut_neg (cx := rx) (cy := ry) (nx := 0 - (by' - ay)) (ny := bx - ax) (lev := 2 * ((bx - ax) * (ay - ry) - (by' - ay) * (ax - rx))) (r := radiusZ k2 px py qx qy rx ry) (x0 := mxZ ax bx px qx) (y0 := mxZ ay by' py qy) (x1 := mnZ ax bx px qx) (y1 := mnZ ay by' py qy)
    rw [← this]
    congr 1 <;> grind
  · intro h _
    rw [b1, b2, b3, b4, rad_rev ha h]
  · intro h _
    rw [b1, b2, b3, b4, rad_rev ha h]
end
end Go.Proofs.Ytmoclgpdcnjacaa.Sx
