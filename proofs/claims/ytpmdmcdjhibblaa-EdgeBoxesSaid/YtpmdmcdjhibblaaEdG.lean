/- EdgeReverse: an edge that is turned around. -/
import Derived.Test.YtpmdmcdjhibblaaEdE
set_option linter.all false
namespace Go.Proofs.Ytpmdmcdjhibblaa.Sx
open Go Go.RowKit

def revK (k k' : Int) : Prop := (k = 2 ∧ k' = 3) ∨ (k = 3 ∧ k' = 2) ∨ (k ≠ 2 ∧ k ≠ 3 ∧ k' = k)
section
variable {k k' ax ay bx by' cx cy px py : Int}
theorem ok_rev (h : revK k k') : okP k' bx by' ax ay cx cy ↔ okP k ax ay bx by' cx cy := by
  unfold revK at h
  simp only [okP, rightP, lineP, arcP]
  omega
theorem check_rev (h : revK k k') : checkZ k' bx by' ax ay cx cy = checkZ k ax ay bx by' cx cy := by
  unfold revK at h
  simp only [checkZ, rightP, lineP, arcP]
  (repeat' split) <;> omega
theorem radius_rev (h : revK k k') : radiusZ k' bx by' ax ay cx cy = radiusZ k ax ay bx by' cx cy := by
  have h1 := ok_rev (ax := ax) (ay := ay) (bx := bx) (by' := by') (cx := cx) (cy := cy) h
  unfold revK at h
  unfold radiusZ
  by_cases ho : okP k ax ay bx by' cx cy
  · simp only [h1, ho, and_true]
    simp only [okP, rightP, lineP, arcP] at ho
    split <;> split <;> omega
  · simp [h1, ho]
theorem cross_rev : crossP bx by' ax ay px py = -crossP ax ay bx by' px py := by unfold crossP; grind
theorem dist_arc (h : okP k ax ay bx by' cx cy) (hk : k ≠ 1) : dist2 bx by' cx cy = dist2 ax ay cx cy := by
  obtain ⟨-, -, -, -, -, h | h⟩ := h
  · exact absurd h.1 hk
  · obtain ⟨-, ⟨-, h1, h2⟩ | ⟨-, h1, h2⟩⟩ := h
    · unfold dist2; rw [h1, h2]; grind
    · unfold dist2; rw [h1, h2]; grind
theorem on_rev (h : revK k k') : onP k' bx by' ax ay cx cy px py ↔ onP k ax ay bx by' cx cy px py := by
  have h1 := ok_rev (ax := ax) (ay := ay) (bx := bx) (by' := by') (cx := cx) (cy := cy) h
  unfold onP
  rw [h1]
  by_cases ho : okP k ax ay bx by' cx cy
  · have h2 := dist_arc ho
    have h3 := cross_rev (ax := ax) (ay := ay) (bx := bx) (by' := by') (px := px) (py := py)
    unfold revK at h
    simp only [ho, true_and, boxP]
    rw [h3]
    by_cases hk : k = 1
    · subst hk
      have : k' = 1 := by omega
      subst this
      omega
    · have : k' ≠ 1 := by omega
      rw [h2 hk]
      omega
  · simp [ho]
theorem beyond_rev (h : revK k k') (hy : ay ≠ by') : beyondP k' bx by' ax ay cx cy px py ↔ beyondP k ax ay bx by' cx cy px py := by
  have h1 := ok_rev (ax := ax) (ay := ay) (bx := bx) (by' := by') (cx := cx) (cy := cy) h
  unfold beyondP
  rw [h1]
  by_cases ho : okP k ax ay bx by' cx cy
  · have h2 := dist_arc ho
    unfold revK at h
    simp only [ho, true_and, innerP]
    generalize crossP bx by' ax ay px py = Y
    generalize crossP ax ay bx by' px py = X
    by_cases hk : k = 1
    · have : k' = 1 := by omega
      omega
    · have : k' ≠ 1 := by omega
      rw [h2 hk]
      omega
  · simp [ho]
theorem ray_in : rayZ k ax ay bx by' cx cy px py = -1 ∨ rayZ k ax ay bx by' cx cy px py = 0 ∨ rayZ k ax ay bx by' cx cy px py = 1 := by
  unfold rayZ
  (repeat' split) <;> simp
theorem ray_rev (h : revK k k') : rayZ k' bx by' ax ay cx cy px py = wrap64 (0 - rayZ k ax ay bx by' cx cy px py) := by
  have key : rayZ k' bx by' ax ay cx cy px py = -rayZ k ax ay bx by' cx cy px py := by
    by_cases hy : ay = by'
    · subst hy
      unfold rayZ
      rw [if_neg (by omega), if_neg (by omega), if_neg (by omega), if_neg (by omega)]
      rfl
    · have h1 := beyond_rev (ax := ax) (ay := ay) (bx := bx) (by' := by') (cx := cx) (cy := cy) (px := px) (py := py) h hy
      unfold rayZ
      by_cases hb : beyondP k ax ay bx by' cx cy px py
      · simp only [hb, h1.2 hb, and_true]
        (repeat' split) <;> omega
      · simp [hb, show ¬ beyondP k' bx by' ax ay cx cy px py from fun h => hb (h1.1 h)]
  have := ray_in (k := k) (ax := ax) (ay := ay) (bx := bx) (by' := by') (cx := cx) (cy := cy) (px := px) (py := py)
  rw [key]
  unfold wrap64
  omega
end
end Go.Proofs.Ytpmdmcdjhibblaa.Sx
