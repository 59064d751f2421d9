/- Circles and axes, lines and lines, seen otherwise: what stays. -/
import Derived.Test.YtmoclgpdcnjacaaMm3
set_option linter.all false
set_option autoImplicit false
namespace Go.Proofs.Ytmoclgpdcnjacaa.Sx
open Go Go.RowKit

abbrev mxZ (a b p q : Int) : Int := max (min a b) (min p q)
abbrev mnZ (a b p q : Int) : Int := min (max a b) (max p q)
theorem ite_iff {P Q : Prop} [Decidable P] [Decidable Q] (h : P ↔ Q) : (if P then (1 : Int) else 0) = if Q then 1 else 0 := by
  by_cases p : P
  · rw [if_pos p, if_pos (h.1 p)]
  · rw [if_neg p, if_neg (fun q => p (h.2 q))]
theorem EndSpec.map {S T : Int × Int → Prop} {n : Int} (f : Int × Int → Int × Int) (hf : ∀ x y, f x = f y → x = y) (hs : ∀ y, ∃ x, f x = y) (h : EndSpec S n) (hST : ∀ z, S z ↔ T (f z)) : EndSpec T n := by
  rcases h with ⟨rfl, z1, z2, h1, h2, h3⟩ | ⟨rfl, h⟩ | ⟨rfl, z, h1, h2⟩
  · exact .inl ⟨rfl, f z1, f z2, (hST _).1 h1, (hST _).1 h2, fun e => h3 (hf _ _ e)⟩
  · exact .inr (.inl ⟨rfl, fun y hy => by obtain ⟨x, rfl⟩ := hs y; exact h x ((hST x).2 hy)⟩)
  · exact .inr (.inr ⟨rfl, f z, (hST _).1 h1, fun y hy => by obtain ⟨x, rfl⟩ := hs y; rw [h2 x ((hST x).2 hy)]⟩)
section
variable {ax ay dx dy sx sy t b u x0 y0 x1 y1 AX AY DX DY SX SY T X0 Y0 X1 Y1 : Int}
theorem within_eq (e1 : T * DX - b * (X0 - AX) = t * dx - b * (x0 - ax)) (e2 : T * DX - b * (X1 - AX) = t * dx - b * (x1 - ax)) (e3 : T * DY - b * (Y0 - AY) = t * dy - b * (y0 - ay)) (e4 : T * DY - b * (Y1 - AY) = t * dy - b * (y1 - ay)) (s1 : SX = sx) (s2 : SY = sy) :
    withinP AX AY DX DY SX SY T b u X0 Y0 X1 Y1 ↔ withinP ax ay dx dy sx sy t b u x0 y0 x1 y1 := by
  subst s1 s2
  unfold withinP ordZ
  rw [e1, e2, e3, e4]
theorem within_flip (e1 : T * DX - b * (X0 - AX) = -(t * dx - b * (x1 - ax))) (e2 : T * DX - b * (X1 - AX) = -(t * dx - b * (x0 - ax))) (e3 : T * DY - b * (Y0 - AY) = t * dy - b * (y0 - ay)) (e4 : T * DY - b * (Y1 - AY) = t * dy - b * (y1 - ay)) (s1 : SX = -sx) (s2 : SY = sy) :
    withinP AX AY DX DY SX SY T b u X0 Y0 X1 Y1 ↔ withinP ax ay dx dy sx sy t b u x0 y0 x1 y1 := by
  subst s1 s2
  unfold withinP ordZ
  rw [e1, e2, e3, e4, sgS_neg, sgS_neg]
  constructor <;> (intro h; omega)
theorem within_sw (e1 : T * DX - b * (X0 - AX) = t * dy - b * (y0 - ay)) (e2 : T * DX - b * (X1 - AX) = t * dy - b * (y1 - ay)) (e3 : T * DY - b * (Y0 - AY) = t * dx - b * (x0 - ax)) (e4 : T * DY - b * (Y1 - AY) = t * dx - b * (x1 - ax)) (s1 : SX = sy) (s2 : SY = sx) :
    withinP AX AY DX DY SX SY T b u X0 Y0 X1 Y1 ↔ withinP ax ay dx dy sx sy t b u x0 y0 x1 y1 := by
  subst s1 s2
  unfold withinP ordZ
  rw [e1, e2, e3, e4]
  constructor <;> (intro h; omega)
theorem within_u0 {sx' sy' : Int} (hu : u = 0) : withinP ax ay dx dy sx sy t b u x0 y0 x1 y1 ↔ withinP ax ay dx dy sx' sy' t b u x0 y0 x1 y1 := by
  subst hu
  unfold withinP ordZ
  simp only [sgS_zero]
end
theorem two_cut {U : Int} {A1 A2 B1 B2 : Prop} [Decidable A1] [Decidable A2] [Decidable B1] [Decidable B2] (h1 : B1 ↔ A2) (h2 : B2 ↔ A1) (h0 : U = 0 → (A1 ↔ A2)) :
    (if U < 0 then (0 : Int) else (if B1 then 1 else 0) + (if 0 < U ∧ B2 then 1 else 0)) = if U < 0 then 0 else (if A1 then 1 else 0) + (if 0 < U ∧ A2 then 1 else 0) := by
  by_cases hu : U < 0
  · rw [if_pos hu, if_pos hu]
  · rw [if_neg hu, if_neg hu]
    by_cases hz : U = 0
    · have n0 : ¬ 0 < U := by omega
      rw [if_neg (fun h : 0 < U ∧ B2 => n0 h.1), if_neg (fun h : 0 < U ∧ A2 => n0 h.1), ite_iff (h1.trans (h0 hz).symm)]
    · have hp : 0 < U := by omega
      rw [ite_iff h1, ite_iff (show (0 < U ∧ B2) ↔ A1 from ⟨fun h => h2.1 h.2, fun h => ⟨hp, h2.2 h⟩⟩), ite_iff (show (0 < U ∧ A2) ↔ A2 from ⟨fun h => h.2, fun h => ⟨hp, h⟩⟩)]
      omega
section
variable {cx cy nx ny lev r x0 y0 x1 y1 : Int}
theorem cut_neg : cutZ cx cy (-nx) (-ny) (-lev) r x0 y0 x1 y1 = cutZ cx cy nx ny lev r x0 y0 x1 y1 := by
  unfold cutZ
  rw [show (-nx) * (-nx) + (-ny) * (-ny) = nx * nx + ny * ny by grind, show (-lev) * (-lev) = lev * lev by grind]
  refine two_cut (within_eq ?_ ?_ ?_ ?_ ?_ ?_) (within_eq ?_ ?_ ?_ ?_ ?_ ?_) fun h => within_u0 h <;> grind
/-- A circle, seen from the other one. -/
theorem cut_other {dx dy q lev' : Int} (hx : nx = dx - cx) (hy : ny = dy - cy) (hl : lev = nx * nx + ny * ny + r * r - q * q) (hl' : lev' = nx * nx + ny * ny + q * q - r * r) : cutZ dx dy (-nx) (-ny) lev' q x0 y0 x1 y1 = cutZ cx cy nx ny lev r x0 y0 x1 y1 := by
  unfold cutZ
  rw [show (-nx) * (-nx) + (-ny) * (-ny) = nx * nx + ny * ny by grind, show 4 * (nx * nx + ny * ny) * (q * q) - lev' * lev' = 4 * (nx * nx + ny * ny) * (r * r) - lev * lev by subst hl hl'; grind]
  have e : lev' = 2 * (nx * nx + ny * ny) - lev := by omega
  clear hl hl'
  obtain rfl : dx = cx + nx := by omega
  obtain rfl : dy = cy + ny := by omega
  generalize 4 * (nx * nx + ny * ny) * (r * r) - lev * lev = U
  generalize 2 * (nx * nx + ny * ny) = N at *
  subst e
  refine two_cut (within_eq ?_ ?_ ?_ ?_ ?_ ?_) (within_eq ?_ ?_ ?_ ?_ ?_ ?_) fun h => within_u0 h <;> grind
theorem cut_flip : cutZ (-cx) cy (-nx) ny lev r (-x1) y0 (-x0) y1 = cutZ cx cy nx ny lev r x0 y0 x1 y1 := by
  unfold cutZ
  rw [show (-nx) * (-nx) + ny * ny = nx * nx + ny * ny by grind]
  generalize 4 * (nx * nx + ny * ny) * (r * r) - lev * lev = U
  generalize 2 * (nx * nx + ny * ny) = N
  refine two_cut (within_flip ?_ ?_ ?_ ?_ ?_ ?_) (within_flip ?_ ?_ ?_ ?_ ?_ ?_) fun h => within_u0 h <;> grind
theorem cut_sw : cutZ cy cx ny nx lev r y0 x0 y1 x1 = cutZ cx cy nx ny lev r x0 y0 x1 y1 := by
  unfold cutZ
  rw [show ny * ny + nx * nx = nx * nx + ny * ny by grind]
  generalize 4 * (nx * nx + ny * ny) * (r * r) - lev * lev = U
  generalize 2 * (nx * nx + ny * ny) = N
  refine two_cut (within_sw ?_ ?_ ?_ ?_ ?_ ?_) (within_sw ?_ ?_ ?_ ?_ ?_ ?_) fun h => within_u0 h <;> grind
theorem cut_sh {v w : Int} : cutZ (cx + v) (cy + w) nx ny lev r (x0 + v) (y0 + w) (x1 + v) (y1 + w) = cutZ cx cy nx ny lev r x0 y0 x1 y1 := by
  unfold cutZ
  have e : ∀ a b c : Int, a + c - (b + c) = a - b := fun a b c => by omega
  rw [ite_iff (within_eq (AX := cx + v) (AY := cy + w) (ax := cx) (ay := cy) (X0 := x0 + v) (X1 := x1 + v) (Y0 := y0 + w) (Y1 := y1 + w) (x0 := x0) (x1 := x1) (y0 := y0) (y1 := y1) (by rw [e]) (by rw [e]) (by rw [e]) (by rw [e]) rfl rfl),
    ite_iff (and_congr_right fun _ => within_eq (AX := cx + v) (AY := cy + w) (ax := cx) (ay := cy) (X0 := x0 + v) (X1 := x1 + v) (Y0 := y0 + w) (Y1 := y1 + w) (x0 := x0) (x1 := x1) (y0 := y0) (y1 := y1) (by rw [e]) (by rw [e]) (by rw [e]) (by rw [e]) rfl rfl)]
end
/-- Where lines meet, by the sign of the product of their directions. -/
theorem cross_sg {ax ay dx dy px py ex ey x0 y0 x1 y1 : Int} (h : dx * ey - dy * ex ≠ 0) : crossZ2 ax ay dx dy px py ex ey x0 y0 x1 y1 =
    if 0 ≤ sg (dx * ey - dy * ex) * (((px - ax) * ey - (py - ay) * ex) * dx - (dx * ey - dy * ex) * (x0 - ax)) ∧ sg (dx * ey - dy * ex) * (((px - ax) * ey - (py - ay) * ex) * dx - (dx * ey - dy * ex) * (x1 - ax)) ≤ 0 ∧
      0 ≤ sg (dx * ey - dy * ex) * (((px - ax) * ey - (py - ay) * ex) * dy - (dx * ey - dy * ex) * (y0 - ay)) ∧ sg (dx * ey - dy * ex) * (((px - ax) * ey - (py - ay) * ex) * dy - (dx * ey - dy * ex) * (y1 - ay)) ≤ 0 then 1 else 0 := by
  unfold crossZ2
  generalize dx * ey - dy * ex = B at *
  generalize (px - ax) * ey - (py - ay) * ex = T
  split
  · rename_i hB
    rw [show sg B = -1 from sg_neg.1 hB]
    refine ite_iff (within0.trans ?_)
    have m : ∀ d x : Int, (0 - T) * d - (0 - B) * x = -1 * (T * d - B * x) := fun d x => by grind
    rw [m, m, m, m]
  · rename_i hB
    rw [show sg B = 1 from sg_pos.1 (by omega)]
    refine ite_iff (within0.trans ?_)
    simp only [Int.one_mul]
theorem sg_op (x : Int) : sg (-x) = - sg x := by unfold sg; split <;> (try split) <;> (try split) <;> (try split) <;> omega
section
variable {ax ay dx dy px py ex ey x0 y0 x1 y1 AX AY DX DY PX PY EX EY X0 Y0 X1 Y1 : Int}
theorem cross_eq (h : dx * ey - dy * ex ≠ 0) (hB : DX * EY - DY * EX = -(dx * ey - dy * ex))
    (e1 : ((PX - AX) * EY - (PY - AY) * EX) * DX - (DX * EY - DY * EX) * (X0 - AX) = -(((px - ax) * ey - (py - ay) * ex) * dx - (dx * ey - dy * ex) * (x0 - ax)))
    (e2 : ((PX - AX) * EY - (PY - AY) * EX) * DX - (DX * EY - DY * EX) * (X1 - AX) = -(((px - ax) * ey - (py - ay) * ex) * dx - (dx * ey - dy * ex) * (x1 - ax)))
    (e3 : ((PX - AX) * EY - (PY - AY) * EX) * DY - (DX * EY - DY * EX) * (Y0 - AY) = -(((px - ax) * ey - (py - ay) * ex) * dy - (dx * ey - dy * ex) * (y0 - ay)))
    (e4 : ((PX - AX) * EY - (PY - AY) * EX) * DY - (DX * EY - DY * EX) * (Y1 - AY) = -(((px - ax) * ey - (py - ay) * ex) * dy - (dx * ey - dy * ex) * (y1 - ay))) :
    crossZ2 AX AY DX DY PX PY EX EY X0 Y0 X1 Y1 = crossZ2 ax ay dx dy px py ex ey x0 y0 x1 y1 := by
  rw [cross_sg h, cross_sg (by rw [hB]; omega), e1, e2, e3, e4, hB, sg_op, Int.neg_mul_neg, Int.neg_mul_neg, Int.neg_mul_neg, Int.neg_mul_neg]
theorem cross_sw (h : dx * ey - dy * ex ≠ 0) : crossZ2 ay ax dy dx py px ey ex y0 x0 y1 x1 = crossZ2 ax ay dx dy px py ex ey x0 y0 x1 y1 := by
  have hB : dy * ex - dx * ey = -(dx * ey - dy * ex) := by omega
  have e : ∀ d x : Int, ((py - ay) * ex - (px - ax) * ey) * d - (dy * ex - dx * ey) * x = -(((px - ax) * ey - (py - ay) * ex) * d - (dx * ey - dy * ex) * x) := fun d x => by grind
  rw [cross_sg h, cross_sg (by rw [hB]; omega), e, e, e, e, hB, sg_op, Int.neg_mul_neg, Int.neg_mul_neg, Int.neg_mul_neg, Int.neg_mul_neg]
  exact ite_iff ⟨fun h => ⟨h.2.2.1, h.2.2.2, h.1, h.2.1⟩, fun h => ⟨h.2.2.1, h.2.2.2, h.1, h.2.1⟩⟩
theorem cross_flip (h : dx * ey - dy * ex ≠ 0) : crossZ2 (-ax) ay (-dx) dy (-px) py (-ex) ey (-x1) y0 (-x0) y1 = crossZ2 ax ay dx dy px py ex ey x0 y0 x1 y1 := by
  have hB : -dx * ey - dy * -ex = -(dx * ey - dy * ex) := by grind
  have e : ∀ x : Int, ((-px - -ax) * ey - (py - ay) * -ex) * -dx - (-dx * ey - dy * -ex) * (-x - -ax) = ((px - ax) * ey - (py - ay) * ex) * dx - (dx * ey - dy * ex) * (x - ax) := fun x => by grind
  have e' : ∀ y : Int, ((-px - -ax) * ey - (py - ay) * -ex) * dy - (-dx * ey - dy * -ex) * (y - ay) = -(((px - ax) * ey - (py - ay) * ex) * dy - (dx * ey - dy * ex) * (y - ay)) := fun y => by grind
  rw [cross_sg h, cross_sg (by rw [hB]; omega), e, e, e', e', hB, sg_op]
  generalize ((px - ax) * ey - (py - ay) * ex) * dx - (dx * ey - dy * ex) * (x0 - ax) = V0
  generalize ((px - ax) * ey - (py - ay) * ex) * dx - (dx * ey - dy * ex) * (x1 - ax) = V1
  rw [Int.neg_mul_neg, Int.neg_mul_neg, Int.neg_mul, Int.neg_mul]
  exact ite_iff ⟨fun h => ⟨by omega, by omega, h.2.2.1, h.2.2.2⟩, fun h => ⟨by omega, by omega, h.2.2.1, h.2.2.2⟩⟩
theorem cross_sh {v w : Int} : crossZ2 (ax + v) (ay + w) dx dy (px + v) (py + w) ex ey (x0 + v) (y0 + w) (x1 + v) (y1 + w) = crossZ2 ax ay dx dy px py ex ey x0 y0 x1 y1 := by
  have e : ∀ a b c : Int, a + c - (b + c) = a - b := fun a b c => by omega
  unfold crossZ2
  by_cases h : dx * ey - dy * ex < 0
  · rw [if_pos h, if_pos h]
    exact ite_iff (within_eq (by rw [e, e, e]) (by rw [e, e, e]) (by rw [e, e, e]) (by rw [e, e, e]) rfl rfl)
  · rw [if_neg h, if_neg h]
    exact ite_iff (within_eq (by rw [e, e, e]) (by rw [e, e, e]) (by rw [e, e, e]) (by rw [e, e, e]) rfl rfl)
end
end Go.Proofs.Ytmoclgpdcnjacaa.Sx
