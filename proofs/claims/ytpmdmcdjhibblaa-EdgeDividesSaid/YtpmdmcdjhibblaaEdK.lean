/- EdgeDivides: a line in two parts. -/
import Derived.Test.YtpmdmcdjhibblaaEdG
set_option linter.all false
namespace Go.Proofs.Ytpmdmcdjhibblaa.Sx
open Go Go.RowKit

section
variable {x y n sx sy qx qy : Int}
theorem line_up (hs : 0 < sy) (hn : 0 ≤ n) (ho : okP 1 x y (x + n * sx) (y + n * sy) 0 0) :
    rayZ 1 x y (x + n * sx) (y + n * sy) 0 0 qx qy = if y ≤ qy ∧ qy < y + n * sy ∧ 0 < sx * (qy - y) - sy * (qx - x) then 1 else 0 := by
  have hN : 0 ≤ n * sy := Int.mul_nonneg hn (by omega)
  by_cases h : y ≤ qy ∧ qy < y + n * sy
  · obtain ⟨h1, h2⟩ := h
    have hn0 : 0 < n := by
      rcases Int.lt_or_eq_of_le hn with h | h
      · exact h
      · subst h; simp at h2; omega
    obtain ⟨t, ht⟩ : ∃ t, t = qy - y := ⟨_, rfl⟩
    obtain ⟨u, hu⟩ : ∃ u, u = qx - x := ⟨_, rfl⟩
    obtain ⟨M, hM⟩ : ∃ M, M = n * sx := ⟨_, rfl⟩
    obtain ⟨N, hN'⟩ : ∃ N, N = n * sy := ⟨_, rfl⟩
    have hc : crossP x y (x + n * sx) (y + n * sy) qx qy = n * (sx * t - sy * u) := by subst ht hu; unfold crossP; grind
    have hc2 : crossP (x + n * sx) (y + n * sy) x y qx qy = -(n * (sx * t - sy * u)) := by subst ht hu; unfold crossP; grind
    have hK : sx * N = sy * M := by subst hM hN'; grind
    have hpos : 0 < n * (sx * t - sy * u) ↔ 0 < sx * t - sy * u := by
      constructor
      · intro h
        by_cases h' : 0 < sx * t - sy * u
        · exact h'
        · have := Int.mul_nonpos_of_nonneg_of_nonpos hn (show sx * t - sy * u ≤ 0 by omega)
          omega
      · intro h; exact Int.mul_pos hn0 h
    have ht0 : 0 ≤ t := by omega
    have htN : t ≤ N := by omega
    have key : (u < max 0 M ∧ (u < min 0 M ∨ 0 < sx * t - sy * u)) ↔ 0 < sx * t - sy * u := by
      rcases Int.le_total 0 sx with hx | hx
      · have a1 : 0 ≤ sx * t := Int.mul_nonneg hx ht0
        have a2 : sx * t ≤ sx * N := Int.mul_le_mul_of_nonneg_left htN hx
        have a3 : 0 ≤ M := by subst hM; exact Int.mul_nonneg hn hx
        have a4 : u < 0 → sy * u < 0 := fun h => Int.mul_neg_of_pos_of_neg hs h
        have a5 : M ≤ u → sy * M ≤ sy * u := fun h => Int.mul_le_mul_of_nonneg_left h (Int.le_of_lt hs)
        constructor
        · rintro ⟨-, h | h⟩
          · have := a4 (by omega); omega
          · exact h
        · intro h
          refine ⟨?_, .inr h⟩
          by_cases h' : M ≤ u
          · have := a5 h'; omega
          · omega
      · have a1 : sx * t ≤ 0 := Int.mul_nonpos_of_nonpos_of_nonneg hx ht0
        have a2 : sx * N ≤ sx * t := Int.mul_le_mul_of_nonpos_left hx htN
        have a3 : M ≤ 0 := by subst hM; exact Int.mul_nonpos_of_nonneg_of_nonpos hn hx
        have a4 : 0 ≤ u → 0 ≤ sy * u := fun h => Int.mul_nonneg (Int.le_of_lt hs) h
        have a5 : u < M → sy * u < sy * M := fun h => Int.mul_lt_mul_of_pos_left h hs
        constructor
        · rintro ⟨-, h | h⟩
          · have := a5 (by omega); omega
          · exact h
        · intro h
          refine ⟨?_, .inr h⟩
          by_cases h' : 0 ≤ u
          · have := a4 h'; omega
          · omega
    have hb : beyondP 1 x y (x + n * sx) (y + n * sy) 0 0 qx qy ↔ 0 < sx * t - sy * u := by
      rw [← key]
      unfold beyondP innerP
      rw [hc, hc2]
      simp only [ho, true_and, ne_eq, not_true_eq_false, false_and, or_false, hpos]
      rw [← hM, ← hN']
      omega
    subst ht hu
    unfold rayZ
    by_cases hq : 0 < sx * (qy - y) - sy * (qx - x)
    · rw [if_pos ⟨h1, h2, hb.2 hq⟩, if_pos ⟨h1, h2, hq⟩]
    · rw [if_neg (fun h => hq (hb.1 h.2.2)), if_neg (by omega), if_neg (fun h => hq h.2.2)]
  · unfold rayZ
    rw [if_neg (fun h' => h ⟨h'.1, h'.2.1⟩), if_neg (by omega), if_neg (fun h' => h ⟨h'.1, h'.2.1⟩)]
theorem line_dn (hs : sy < 0) (hn : 0 ≤ n) (ho : okP 1 x y (x + n * sx) (y + n * sy) 0 0) :
    rayZ 1 x y (x + n * sx) (y + n * sy) 0 0 qx qy = if y + n * sy ≤ qy ∧ qy < y ∧ sx * (qy - y) - sy * (qx - x) < 0 then -1 else 0 := by
  have ex : x = (x + n * sx) + n * -sx := by grind
  have ey : y = (y + n * sy) + n * -sy := by grind
  have hr := ray_rev (k := 1) (k' := 1) (ax := x + n * sx) (ay := y + n * sy) (bx := x) (by' := y) (cx := 0) (cy := 0) (px := qx) (py := qy) (.inr (.inr ⟨by decide, by decide, rfl⟩))
  have ho' : okP 1 (x + n * sx) (y + n * sy) ((x + n * sx) + n * -sx) ((y + n * sy) + n * -sy) 0 0 := by
    rw [← ex, ← ey]
    exact ⟨by decide, by decide, ho.2.2.2.1, ho.2.2.1, ho.2.2.2.2.1, .inl ⟨rfl, rfl, rfl⟩⟩
  have hu := line_up (x := x + n * sx) (y := y + n * sy) (n := n) (sx := -sx) (sy := -sy) (qx := qx) (qy := qy) (by omega) hn ho'
  rw [← ex, ← ey] at hu
  have hc : -sx * (qy - (y + n * sy)) - -sy * (qx - (x + n * sx)) = -(sx * (qy - y) - sy * (qx - x)) := by grind
  rw [hc] at hu
  rw [hr, hu]
  generalize sx * (qy - y) - sy * (qx - x) = c
  generalize n * sy = N
  unfold wrap64
  split <;> split <;> omega
end
/-- Both parts, and the whole. -/
theorem div_sum {ax ay sx sy i k qx qy : Int} (hi : 0 ≤ i ∧ i ≤ 19) (hk : 0 ≤ k ∧ k ≤ 19) (ha : -100 ≤ ax ∧ ax ≤ 100 ∧ -100 ≤ ay ∧ ay ≤ 100) (hs : -9 ≤ sx ∧ sx ≤ 9 ∧ -9 ≤ sy ∧ sy ≤ 9) :
    wrap64 (rayZ 1 ax ay (ax + i * sx) (ay + i * sy) 0 0 qx qy + rayZ 1 (ax + i * sx) (ay + i * sy) (ax + i * sx + k * sx) (ay + i * sy + k * sy) 0 0 qx qy) = rayZ 1 ax ay (ax + i * sx + k * sx) (ay + i * sy + k * sy) 0 0 qx qy ∧
    onP 1 ax ay (ax + i * sx + k * sx) (ay + i * sy + k * sy) 0 0 (ax + i * sx) (ay + i * sy) ∧
    -500 ≤ ax + i * sx + k * sx ∧ ax + i * sx + k * sx ≤ 500 ∧ -500 ≤ ay + i * sy + k * sy ∧ ay + i * sy + k * sy ≤ 500 := by
  have p1 := mul_mono (y := sx) hi.1 hi.2
  have p2 := mul_mono (y := sy) hi.1 hi.2
  have p3 := mul_mono (y := sx) hk.1 hk.2
  have p4 := mul_mono (y := sy) hk.1 hk.2
  have o1 : okP 1 ax ay (ax + i * sx) (ay + i * sy) 0 0 := ⟨by decide, by decide, by unfold rightP; omega, by unfold rightP; omega, by decide, .inl ⟨rfl, rfl, rfl⟩⟩
  have o2 : okP 1 (ax + i * sx) (ay + i * sy) (ax + i * sx + k * sx) (ay + i * sy + k * sy) 0 0 := ⟨by decide, by decide, by unfold rightP; omega, by unfold rightP; omega, by decide, .inl ⟨rfl, rfl, rfl⟩⟩
  have o3 : okP 1 ax ay (ax + i * sx + k * sx) (ay + i * sy + k * sy) 0 0 := ⟨by decide, by decide, by unfold rightP; omega, by unfold rightP; omega, by decide, .inl ⟨rfl, rfl, rfl⟩⟩
  have ex : ax + i * sx + k * sx = ax + (i + k) * sx := by grind
  have ey : ay + i * sy + k * sy = ay + (i + k) * sy := by grind
  have ec : sx * (qy - (ay + i * sy)) - sy * (qx - (ax + i * sx)) = sx * (qy - ay) - sy * (qx - ax) := by grind
  refine ⟨?_, ⟨o3, ?_, .inl ⟨rfl, by unfold crossP; grind⟩⟩, by omega, by omega, by omega, by omega⟩
  · have o4 : okP 1 ax ay (ax + (i + k) * sx) (ay + (i + k) * sy) 0 0 := by rw [← ex, ← ey]; exact o3
    rcases Int.lt_trichotomy sy 0 with h | h | h
    · rw [line_dn h hi.1 o1, line_dn h hk.1 o2, ex, ey, line_dn h (by omega) o4, ec, ← ey]
      have q1 : i * sy ≤ 0 := by omega
      have q2 : k * sy ≤ 0 := by omega
      generalize sx * (qy - ay) - sy * (qx - ax) = c
      generalize i * sy = I at *
      generalize k * sy = K at *
      clear p1 p2 p3 p4 o1 o2 o3 o4 ex ey ec
      unfold wrap64
      split <;> split <;> split <;> omega
    · subst h
      have z : ∀ a b c d e, rayZ 1 a b c b 0 0 d e = 0 := fun a b c d e => by
        unfold rayZ
        rw [if_neg (by omega), if_neg (by omega)]
      simp only [Int.mul_zero, Int.add_zero, z]
      unfold wrap64
      omega
    · rw [line_up h hi.1 o1, line_up h hk.1 o2, ex, ey, line_up h (by omega) o4, ec, ← ey]
      have q1 : 0 ≤ i * sy := by omega
      have q2 : 0 ≤ k * sy := by omega
      generalize sx * (qy - ay) - sy * (qx - ax) = c
      generalize i * sy = I at *
      generalize k * sy = K at *
      clear p1 p2 p3 p4 o1 o2 o3 o4 ex ey ec
      unfold wrap64
      split <;> split <;> split <;> omega
  · unfold boxP
    rcases Int.le_total 0 sx with h1 | h1 <;> rcases Int.le_total 0 sy with h2 | h2 <;> omega

def dDr (k n : Int) : T := .app 0 (.cons (.lit k) (.cons (.lit n) .nil))
def dax : T := .bin .sub (dDr 0 201) (.lit 100)
def day : T := .bin .sub (dDr 1 201) (.lit 100)
def dsx : T := .bin .sub (dDr 2 19) (.lit 9)
def dsy : T := .bin .sub (dDr 3 19) (.lit 9)
def dit : T := .bin .rem (.var 0) (.lit 20)
def dkt : T := .bin .rem (.var 1) (.lit 20)
def dmx : T := .bin .add dax (.bin .mul dit dsx)
def dmy : T := .bin .add day (.bin .mul dit dsy)
def dbx : T := .bin .add dmx (.bin .mul dkt dsx)
def dby : T := .bin .add dmy (.bin .mul dkt dsy)
def dE (a b c d : T) : List T := [.lit 1, a, b, c, d, .lit 0, .lit 0]
def entV : List Ent := [sanE, ⟨24, [.agg ((dE dax day dbx dby).map fun t => .int .i64 t), .c (.abs 1 .nil)], .agg [iv 7, iv 8]⟩]
def ctV : CT := ctOr (ctL entV) ctM
def dvF : List (B × Bool) := [(.eq (.wrap .i64 (.bin .add (.app 6 (tl (dE dax day dmx dmy ++ [.var 7, .var 8]))) (.app 6 (tl (dE dmx dmy dbx dby ++ [.var 7, .var 8]))))) (.app 6 (tl (dE dax day dbx dby ++ [.var 7, .var 8]))), true), (.app 0 (tl (dE dax day dbx dby ++ [dmx, dmy])), true),
  (.lt (.lit (-1)) (.var 0), true), (.lt (.var 0) (.lit 256), true), (.lt (.lit (-1)) (.var 1), true), (.lt (.var 1) (.lit 256), true)]
set_option maxRecDepth 1000000 in
theorem divides_tree : vals (execF Try.prog ctV 20 9 [.c (.abs 0 .nil), .agg [.int .u8 (.var 0), .int .u8 (.var 1)], .c (.abs 1 .nil)] ⟨[], 0, ⟨dvF, [0, 2], 0⟩⟩) = .leaf (.c (.bool (.app 0 (tl (dE dax day dbx dby ++ [dmx, dmy]))))) := by kernel_rfl
theorem edgeDivides_law (l0 l1 : Ls) (u v : Int) (hu : 0 ≤ u ∧ u < 256) (hv : 0 ≤ v ∧ v < 256) (W : World) (h0 : l0.Ok W) (h1 : l1.Ok W) :
    Calls Try.prog 9 #[l0.v, .agg #[.int .u8 u, .int .u8 v], l1.v] W (fun e w' => e = .returned (.bool true) ∧ Below W.heap.size W w') := by
  have d0 := drawV_in l0.zs 0 (n := 201) (by decide)
  have d1 := drawV_in l0.zs 1 (n := 201) (by decide)
  have d2 := drawV_in l0.zs 2 (n := 19) (by decide)
  have d3 := drawV_in l0.zs 3 (n := 19) (by decide)
  have hi : 0 ≤ u.tmod 20 ∧ u.tmod 20 ≤ 19 := by rw [Int.tmod_eq_emod_of_nonneg hu.1]; omega
  have hk : 0 ≤ v.tmod 20 ∧ v.tmod 20 ≤ 19 := by rw [Int.tmod_eq_emod_of_nonneg hv.1]; omega
  have D := fun qx qy => div_sum (ax := drawV l0.zs 0 201 - 100) (ay := drawV l0.zs 1 201 - 100) (sx := drawV l0.zs 2 19 - 9) (sy := drawV l0.zs 3 19 - 9) (i := u.tmod 20) (k := v.tmod 20) (qx := qx) (qy := qy) hi hk (by omega) (by omega)
  obtain ⟨-, hon, hb⟩ := D 0 0
  obtain ⟨qx, qy, hq, ha⟩ := at_ex h0 h1 1 (drawV l0.zs 0 201 - 100) (drawV l0.zs 1 201 - 100) (drawV l0.zs 0 201 - 100 + u.tmod 20 * (drawV l0.zs 2 19 - 9) + v.tmod 20 * (drawV l0.zs 2 19 - 9)) (drawV l0.zs 1 201 - 100 + u.tmod 20 * (drawV l0.zs 3 19 - 9) + v.tmod 20 * (drawV l0.zs 3 19 - 9)) 0 0 (by omega)
  have hsum := (D qx qy).1
  have hct : CTOk Try.prog (IL W l0 l1) (envOf [u, v, 0, 0, 0, 0, 0, qx, qy] []) ctV := by
    refine ctOr_ok (ctL_ok fun e he => ?_) (ctM_ok h0 h1 _)
    simp only [entV, List.mem_cons, List.not_mem_nil, or_false] at he
    rcases he with rfl | rfl
    · exact sanE_ok _
    · exact ⟨rfl, rfl, ha⟩
  have hkn : (⟨dvF, [0, 2], 0⟩ : Known).Ok (IL W l0 l1) (envOf [u, v, 0, 0, 0, 0, 0, qx, qy] []) := by
    refine draws_ok (n := 0) (fun p hp => ?_) (fun _ h => absurd h (Nat.not_lt_zero _))
    simp only [dvF, List.mem_cons, List.not_mem_nil, or_false] at hp
    rcases hp with rfl | rfl | rfl | rfl | rfl | rfl
    · refine B.eq_t.2 ?_
      exact (w64 _).trans hsum
    · exact decide_eq_true hon
    · exact B.lt_t.2 (by show (-1 : Int) < u; omega)
    · exact B.lt_t.2 (by show u < (256 : Int); omega)
    · exact B.lt_t.2 (by show (-1 : Int) < v; omega)
    · exact B.lt_t.2 (by show v < (256 : Int); omega)
  have h' := @calls_litD Try.prog (IL W l0 l1) (envOf [u, v, 0, 0, 0, 0, 0, qx, qy] []) mixed nocount ctV hct 20 9 [.c (.abs 0 .nil), .agg [.int .u8 (.var 0), .int .u8 (.var 1)], .c (.abs 1 .nil)] ⟨dvF, [0, 2], 0⟩ _ W (.bool true) (hyp_fixed rfl) hkn rfl divides_tree ⟨rfl, congrArg Value.bool (decide_eq_true hon)⟩
  exact h'
end Go.Proofs.Ytpmdmcdjhibblaa.Sx
