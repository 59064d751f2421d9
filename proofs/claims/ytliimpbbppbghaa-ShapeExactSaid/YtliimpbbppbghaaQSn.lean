import Derived.Test.YtliimpbbppbghaaQSm
import Derived.Test.YtliimpbbppbghaaQEd5
set_option linter.all false
set_option autoImplicit false
namespace Go.Proofs.Ytliimpbbppbghaa.Sx
open Go Go.RowKit
def radL (k ax ay bx by' cx cy : Int) : Int := if k = 3 then radiusZ 2 bx by' ax ay cx cy else radiusZ k ax ay bx by' cx cy
def alongZ (ax ay bx by' px py : Int) : Int := (px - ax) * (bx - ax) + (py - ay) * (by' - ay)
def facesP (k ax ay bx by' cx cy px py : Int) : Prop :=
  if k = 3 then 0 ≤ (bx - cx) * (py - cy) - (by' - cy) * (px - cx) ∧ 0 ≤ (px - cx) * (ay - cy) - (py - cy) * (ax - cx)
  else 0 ≤ (ax - cx) * (py - cy) - (ay - cy) * (px - cx) ∧ 0 ≤ (px - cx) * (by' - cy) - (py - cy) * (bx - cx)
instance (k ax ay bx by' cx cy px py : Int) : Decidable (facesP k ax ay bx by' cx cy px py) := by unfold facesP; infer_instance
def covP (k ax ay bx by' cx cy r px py : Int) : Prop :=
  dist2 px py ax ay ≤ r * r ∨ dist2 px py bx by' ≤ r * r ∨
  (k = 1 ∧ 0 < alongZ ax ay bx by' px py ∧ alongZ ax ay bx by' px py < dist2 bx by' ax ay ∧ crossP ax ay bx by' px py * crossP ax ay bx by' px py ≤ r * r * dist2 bx by' ax ay) ∨
  (k ≠ 1 ∧ facesP k ax ay bx by' cx cy px py ∧ dist2 px py cx cy ≤ (radL k ax ay bx by' cx cy + r) * (radL k ax ay bx by' cx cy + r) ∧ max (radL k ax ay bx by' cx cy - r) 0 * max (radL k ax ay bx by' cx cy - r) 0 ≤ dist2 px py cx cy)
instance (k ax ay bx by' cx cy r px py : Int) : Decidable (covP k ax ay bx by' cx cy r px py) := by unfold covP; infer_instance
def fiH (f : Nat) (a : List Int) : Int := match f, a with
  | 4, [k, ax, ay, bx, by', cx, cy] => checkZ k ax ay bx by' cx cy
  | 5, [k, ax, ay, bx, by', cx, cy] => radiusZ k ax ay bx by' cx cy
  | 6, [k, ax, ay, bx, by', cx, cy, px, py] => rayZ k ax ay bx by' cx cy px py
  | 21, [a, b] => hiZ a b
  | 22, [a, b] => loZ a b
  | 23, [a, b, c, d] => cmp3 (a * b) (c * d)
  | _, _ => 0
def fbH (f : Nat) (a : List Int) : Bool := match f, a with
  | 0, [k, ax, ay, bx, by', cx, cy, px, py] => decide (onP k ax ay bx by' cx cy px py)
  | 11, [k, ax, ay, bx, by', cx, cy, r, px, py] => decide (covP k ax ay bx by' cx cy r px py)
  | _, _ => false
def IH : Interp := ⟨fiH, fbH, fun _ _ => .slice none 0 0, [], noOpq, fun _ => rfl, fun _ _ => ⟨(fun _ h => nomatch h), (fun _ h => nomatch h)⟩, ⟨none, 0, 0, rfl, rfl, fun k => by simp [cutV]⟩⟩
theorem mulIH : MulI IH := ⟨fun _ _ => rfl, fun _ _ => rfl, fun _ _ _ _ => rfl⟩
theorem ctRad_ok (ρ : Env) : CTOk Try.prog IH ρ ctRad := by
  intro g args s t h w0 X n0 β0 β w R ht hw ha
  unfold ctRad at h
  split at h
  · rename_i k ax ay bx by' cx cy
    cases h1 : Nat.beq g 78 with
    | true =>
      rw [h1] at h
      injection h with h
      subst h
      refine ct_leaf1 ?_ rfl ht hw
      have := Nat.eq_of_beq_eq_true h1
      subst this
      exact vrad_c _ _ _ _ _ _ _ w
    | false => rw [h1] at h; cases h
  · cases h
theorem sq_le {x b : Int} (h1 : -b ≤ x) (h2 : x ≤ b) : 0 ≤ x * x ∧ x * x ≤ b * b := by
  have hb : 0 ≤ b := by omega
  constructor
  · rcases Int.le_total 0 x with h | h
    · exact Int.mul_nonneg h h
    · have := Int.mul_nonneg (show 0 ≤ -x by omega) (show 0 ≤ -x by omega)
      rwa [Int.neg_mul_neg] at this
  · rcases Int.le_total 0 x with h | h
    · exact Int.mul_le_mul h2 h2 h hb
    · have := Int.mul_le_mul (show -x ≤ b by omega) (show -x ≤ b by omega) (show 0 ≤ -x by omega) hb
      rwa [Int.neg_mul_neg] at this
theorem prod_le {x y b c : Int} (h1 : -b ≤ x) (h2 : x ≤ b) (h3 : -c ≤ y) (h4 : y ≤ c) : -(b * c) ≤ x * y ∧ x * y ≤ b * c := by
  have hb : 0 ≤ b := by omega
  have hc : 0 ≤ c := by omega
  have key : ∀ u v : Int, 0 ≤ u → u ≤ b → 0 ≤ v → v ≤ c → 0 ≤ u * v ∧ u * v ≤ b * c := fun u v a1 a2 a3 a4 => ⟨Int.mul_nonneg a1 a3, Int.mul_le_mul a2 a4 a3 hb⟩
  rcases Int.le_total 0 x with h | h <;> rcases Int.le_total 0 y with k | k
  · have := key x y h h2 k h4; omega
  · have := key x (-y) h h2 (by omega) (by omega); rw [Int.mul_neg] at this; omega
  · have := key (-x) y (by omega) (by omega) k h4; rw [Int.neg_mul] at this; omega
  · have := key (-x) (-y) (by omega) (by omega) (by omega) (by omega); rw [Int.neg_mul_neg] at this; omega
theorem u64_keep {x : Int} (h0 : 0 ≤ x) (h1 : x ≤ 18446744073709551615) : IntKind.u64.wrap x = x := by
  rw [IntKind.wrap_u64]; omega
theorem cmp3_pos {x y : Int} : 0 < cmp3 x y ↔ y < x := by unfold cmp3; split <;> (try split) <;> omega
theorem cmp3_neg {x y : Int} : cmp3 x y < 0 ↔ x < y := by unfold cmp3; split <;> (try split) <;> omega
theorem cmp3_le {x y : Int} : cmp3 x y ≤ 0 ↔ x ≤ y := by unfold cmp3; split <;> (try split) <;> omega
theorem cmp3_ge {x y : Int} : 0 ≤ cmp3 x y ↔ y ≤ x := by unfold cmp3; split <;> (try split) <;> omega
theorem fiIH : IH.fi = fiH := rfl
theorem max_sq (c : Int) : max c (0 - c) * max c (0 - c) = c * c := by
  rcases Int.le_total 0 c with h | h
  · rw [Int.max_eq_left (by omega)]
  · rw [Int.max_eq_right (by omega), Int.zero_sub, Int.neg_mul_neg]
theorem rad_bd {k ax ay bx by' cx cy : Int} (h1 : rightP ax ay) (h3 : rightP cx cy) : 0 ≤ radiusZ k ax ay bx by' cx cy ∧ radiusZ k ax ay bx by' cx cy ≤ 268435456 := by
  unfold radiusZ
  unfold rightP at h1 h3
  split <;> omega
section
variable {k ax ay bx by' cx cy r px py : Int} (hok : okP k ax ay bx by' cx cy) (hr : 0 ≤ r ∧ r ≤ 4194304) (hp : -71303168 ≤ px ∧ px ≤ 71303168 ∧ -71303168 ≤ py ∧ py ≤ 71303168)
include hok hr hp
theorem bdC_ok : ∀ q ∈ bdC, q.1.den IH (envOf [k, ax, ay, bx, by', cx, cy, r, px, py] []) = q.2 := by
  obtain ⟨h1, h2, ha, hb, hc, -⟩ := hok
  have r1 := rad_bd (k := k) (bx := bx) (by' := by') ha hc
  have r2 := rad_bd (k := 2) (bx := ax) (by' := ay) hb hc
  unfold rightP at ha hb hc
  intro q hq
  simp only [bdC, rgT, rgV, List.cons_append, List.nil_append, List.mem_cons, List.not_mem_nil, or_false] at hq
  rcases hq with rfl | rfl | rfl | rfl | rfl | rfl | rfl | rfl | rfl | rfl | rfl | rfl | rfl | rfl | rfl | rfl | rfl | rfl | rfl | rfl | rfl | rfl | rfl | rfl
  all_goals refine B.lt_t.2 ?_
  · show (-1 : Int) < radiusZ k ax ay bx by' cx cy; omega
  · show radiusZ k ax ay bx by' cx cy < 268435457; omega
  · show (-1 : Int) < radiusZ 2 bx by' ax ay cx cy; omega
  · show radiusZ 2 bx by' ax ay cx cy < 268435457; omega
  all_goals (simp only [T.den_lit, T.den_var, envOf, List.getD_cons_zero, List.getD_cons_succ]; omega)
theorem covers_c (w : World) : Calls Try.prog 42 #[.agg #[.int .i64 k, .int .i64 ax, .int .i64 ay, .int .i64 bx, .int .i64 by', .int .i64 cx, .int .i64 cy], .int .i64 r, .agg #[.int .i64 px, .int .i64 py]] w
    (fun e w' => e = .returned (.bool (decide (covP k ax ay bx by' cx cy r px py))) ∧ Below w.heap.size w w') := by
  have hfacts := bdC_ok hok hr hp
  have key : covT.vc IH (envOf [k, ax, ay, bx, by', cx, cy, r, px, py] []) (fun v => v.wf 0 = true ∧ v.den IH (envOf [k, ax, ay, bx, by', cx, cy, r, px, py] []) id = .bool (decide (covP k ax ay bx by' cx cy r px py))) := ?key
  · exact @calls_litK Try.prog IH (envOf [k, ax, ay, bx, by', cx, cy, r, px, py] []) mixed nocount ctCov (ctOr_ok (ctMul_ok mulIH _) (ctOr_ok (ctCmpW_ok mulIH _) (ctRad_ok _))) 20 42 [.agg [iv 0, iv 1, iv 2, iv 3, iv 4, iv 5, iv 6], .c (iv 7), .agg [iv 8, iv 9]] bdC covT w (.bool (decide (covP k ax ay bx by' cx cy r px py))) (fun _ h => nomatch h) hfacts rfl cov_tree key
  clear hfacts
  obtain ⟨h1, h2, ha, hb, hc, -⟩ := hok
  have r1 := rad_bd (k := k) (bx := bx) (by' := by') ha hc
  have r2 := rad_bd (k := 2) (bx := ax) (by' := ay) hb hc
  unfold rightP at ha hb hc
  have ea := sq_le (x := px - ax) (b := 268435456) (by omega) (by omega)
  have eb := sq_le (x := py - ay) (b := 268435456) (by omega) (by omega)
  have ec := sq_le (x := px - bx) (b := 268435456) (by omega) (by omega)
  have ed := sq_le (x := py - by') (b := 268435456) (by omega) (by omega)
  have ee := sq_le (x := px - cx) (b := 268435456) (by omega) (by omega)
  have ef := sq_le (x := py - cy) (b := 268435456) (by omega) (by omega)
  have eg := sq_le (x := bx - ax) (b := 268435456) (by omega) (by omega)
  have eh := sq_le (x := by' - ay) (b := 268435456) (by omega) (by omega)
  have p1 := prod_le (x := bx - ax) (y := py - ay) (b := 268435456) (c := 268435456) (by omega) (by omega) (by omega) (by omega)
  have p2 := prod_le (x := by' - ay) (y := px - ax) (b := 268435456) (c := 268435456) (by omega) (by omega) (by omega) (by omega)
  have wA : IntKind.u64.wrap ((px - ax) * (px - ax) + (py - ay) * (py - ay)) = dist2 px py ax ay := by unfold dist2; exact u64_keep (by omega) (by omega)
  have wB : IntKind.u64.wrap ((px - bx) * (px - bx) + (py - by') * (py - by')) = dist2 px py bx by' := by unfold dist2; exact u64_keep (by omega) (by omega)
  have wC : IntKind.u64.wrap ((px - cx) * (px - cx) + (py - cy) * (py - cy)) = dist2 px py cx cy := by unfold dist2; exact u64_keep (by omega) (by omega)
  have wS : IntKind.u64.wrap ((bx - ax) * (bx - ax) + (by' - ay) * (by' - ay)) = dist2 bx by' ax ay := by unfold dist2; exact u64_keep (by omega) (by omega)
  have wX : IntKind.u64.wrap (max ((bx - ax) * (py - ay) - (by' - ay) * (px - ax)) (0 - ((bx - ax) * (py - ay) - (by' - ay) * (px - ax)))) = max (crossP ax ay bx by' px py) (0 - crossP ax ay bx by' px py) := by unfold crossP; exact u64_keep (by omega) (by omega)
  have wS3 : IntKind.u64.wrap (dist2 bx by' ax ay) = dist2 bx by' ax ay := wS
  have wS2 : (bx - ax) * (bx - ax) + (by' - ay) * (by' - ay) = dist2 bx by' ax ay := rfl
  have HA : ∀ z, z = px → IntKind.u64.wrap ((z - ax) * (z - ax) + (py - ay) * (py - ay)) = dist2 z py ax ay := fun z e => e ▸ wA
  have HB : ∀ z, z = px → IntKind.u64.wrap ((z - bx) * (z - bx) + (py - by') * (py - by')) = dist2 z py bx by' := fun z e => e ▸ wB
  have HC : ∀ z, z = px → IntKind.u64.wrap ((z - cx) * (z - cx) + (py - cy) * (py - cy)) = dist2 z py cx cy := fun z e => e ▸ wC
  have HX : ∀ z, z = px → IntKind.u64.wrap (max ((bx - ax) * (py - ay) - (by' - ay) * (z - ax)) (0 - ((bx - ax) * (py - ay) - (by' - ay) * (z - ax)))) = max (crossP ax ay bx by' z py) (0 - crossP ax ay bx by' z py) := fun z e => e ▸ wX
  have HS2 : ∀ z, z = bx → (z - ax) * (z - ax) + (by' - ay) * (by' - ay) = dist2 z by' ax ay := fun z e => e ▸ wS2
  unfold covT
  repeat' (first | refine And.intro ?_ ?_ | intro _)
  all_goals first | rfl | skip
  all_goals (simp only [B.lt_t, B.lt_f, B.eq_t, B.eq_f, B.den_var, B.den_lit, B.den_not, T.den_lit, T.den_var, T.den_wrap, T.den_bin, T.den_app, T.dens_cons, T.dens_nil, ev_add, ev_sub, ev_mul, ev_max, envOf, List.getD_cons_zero, List.getD_cons_succ, fiIH, fiH, wA, wB, wC, wS, wX, wS2, cmp3_pos, cmp3_neg, cmp3_le, cmp3_ge, Int.mul_one, max_sq] at *)
  all_goals clear ea eb ec ed ee ef eg eh p1 p2
  all_goals first
    | exact bool_t (by unfold covP; omega)
    | exact bool_f (by unfold covP facesP radL alongZ; (repeat' split) <;> omega)
    | (refine bool_n ?_; rw [B.lt_t]; simp only [B.lt_t, B.lt_f, B.eq_t, B.eq_f, B.den_var, B.den_lit, B.den_not, T.den_lit, T.den_var, T.den_wrap, T.den_bin, T.den_app, T.dens_cons, T.dens_nil, ev_add, ev_sub, ev_mul, ev_max, envOf, List.getD_cons_zero, List.getD_cons_succ, fiIH, fiH, HA _ rfl, HB _ rfl, HC _ rfl, HX _ rfl, HS2 _ rfl, wS3, cmp3_pos, cmp3_neg, cmp3_le, cmp3_ge, Int.mul_one, max_sq]; unfold covP facesP radL alongZ; (repeat' split) <;> omega)
    | skip
end
end Go.Proofs.Ytliimpbbppbghaa.Sx

