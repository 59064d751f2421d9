/- Whether a spot lies in a rectangle: the program. -/
import Derived.Test.YtmoclgpdcnjacaaMd
set_option linter.all false
set_option autoImplicit false
namespace Go.Proofs.Ytmoclgpdcnjacaa.Sx
open Go Go.RowKit

def kW : List (B × Bool) := [(.lt (.var 0) (.lit 0), false), (.lt (.var 0) (.lit 1606938044258990275541962092341162602522202993782792835301376), true), (.lt (.lit (-134217728)) (.var 1), true), (.lt (.var 1) (.lit 134217728), true), (.lt (.lit (-134217728)) (.var 2), true), (.lt (.var 2) (.lit 134217728), true), (.lt (.lit (-134217728)) (.var 9), true), (.lt (.var 9) (.lit 134217728), true), (.lt (.lit (-134217728)) (.var 10), true), (.lt (.var 10) (.lit 134217728), true), (.lt (.lit (-134217728)) (.var 11), true), (.lt (.var 11) (.lit 134217728), true), (.lt (.lit (-134217728)) (.var 12), true), (.lt (.var 12) (.lit 134217728), true), (.lt (.lit (-1073741824)) (.var 3), true), (.lt (.var 3) (.lit 1073741824), true), (.lt (.lit (-1073741824)) (.var 4), true), (.lt (.var 4) (.lit 1073741824), true), (.lt (.lit (-1073741824)) (.var 5), true), (.lt (.var 5) (.lit 1073741824), true), (.lt (.lit (-1073741824)) (.var 6), true), (.lt (.var 6) (.lit 1073741824), true), (.lt (.lit (-1152921504606846976)) (.var 7), true), (.lt (.var 7) (.lit 1152921504606846976), true), (.lt (.lit (-1152921504606846976)) (.var 8), true), (.lt (.var 8) (.lit 1152921504606846976), true)]
def withinT : Tree V :=
 (.node (.lt (.app 998 (.cons (.bin .sub (.bin .mul (.var 7) (.var 3)) (.bin .mul (.var 8) (.bin .sub (.var 9) (.var 1)))) (.cons (.var 5) (.cons (.var 0) .nil)))) (.lit 0))
  (.leaf (.c (.bool (.lit false))))
  (.node (.lt (.lit 0) (.app 998 (.cons (.bin .sub (.bin .mul (.var 7) (.var 3)) (.bin .mul (.var 8) (.bin .sub (.var 11) (.var 1)))) (.cons (.var 5) (.cons (.var 0) .nil)))))
   (.leaf (.c (.bool (.lit false))))
   (.node (.lt (.app 998 (.cons (.bin .sub (.bin .mul (.var 7) (.var 4)) (.bin .mul (.var 8) (.bin .sub (.var 10) (.var 2)))) (.cons (.var 6) (.cons (.var 0) .nil)))) (.lit 0))
    (.leaf (.c (.bool (.lit false))))
    (.leaf (.c (.bool (.not (.lt (.lit 0) (.app 998 (.cons (.bin .sub (.bin .mul (.var 7) (.var 4)) (.bin .mul (.var 8) (.bin .sub (.var 12) (.var 2)))) (.cons (.var 6) (.cons (.var 0) .nil))))))))))))
set_option maxRecDepth 1000000 in
theorem within_tree : vals (execF Try.prog ctP 20 31 [.agg [iv 1, iv 2, iv 3, iv 4, iv 5, iv 6, iv 7, iv 8, .bool (.lt (.var 0) (.lit 0)), .opq 0], .agg [iv 9, iv 10, iv 11, iv 12]] (startN 1 ⟨kW, [], 0⟩)) = withinT := by kernel_rfl
theorem kW_ok {u ax ay dx dy sx sy t b x0 y0 x1 y1 : Int} (h0 : 0 ≤ u) (h1 : u < 1606938044258990275541962092341162602522202993782792835301376) (l1 : -134217728 < ax) (g1 : ax < 134217728) (l2 : -134217728 < ay) (g2 : ay < 134217728) (l9 : -134217728 < x0) (g9 : x0 < 134217728) (l10 : -134217728 < y0) (g10 : y0 < 134217728) (l11 : -134217728 < x1) (g11 : x1 < 134217728) (l12 : -134217728 < y1) (g12 : y1 < 134217728) (l3 : -1073741824 < dx) (g3 : dx < 1073741824) (l4 : -1073741824 < dy) (g4 : dy < 1073741824) (l5 : -1073741824 < sx) (g5 : sx < 1073741824) (l6 : -1073741824 < sy) (g6 : sy < 1073741824) (l7 : -1152921504606846976 < t) (g7 : t < 1152921504606846976) (l8 : -1152921504606846976 < b) (g8 : b < 1152921504606846976) : ∀ p ∈ kW, p.1.den IM (envOf [u, ax, ay, dx, dy, sx, sy, t, b, x0, y0, x1, y1] []) = p.2 := by
  intro p hp
  simp only [kW, List.mem_cons, List.not_mem_nil, or_false] at hp
  rcases hp with rfl | rfl | rfl | rfl | rfl | rfl | rfl | rfl | rfl | rfl | rfl | rfl | rfl | rfl | rfl | rfl | rfl | rfl | rfl | rfl | rfl | rfl | rfl | rfl | rfl | rfl
  · exact B.lt_f.2 h0
  · exact B.lt_t.2 h1
  · exact B.lt_t.2 l1
  · exact B.lt_t.2 g1
  · exact B.lt_t.2 l2
  · exact B.lt_t.2 g2
  · exact B.lt_t.2 l9
  · exact B.lt_t.2 g9
  · exact B.lt_t.2 l10
  · exact B.lt_t.2 g10
  · exact B.lt_t.2 l11
  · exact B.lt_t.2 g11
  · exact B.lt_t.2 l12
  · exact B.lt_t.2 g12
  · exact B.lt_t.2 l3
  · exact B.lt_t.2 g3
  · exact B.lt_t.2 l4
  · exact B.lt_t.2 g4
  · exact B.lt_t.2 l5
  · exact B.lt_t.2 g5
  · exact B.lt_t.2 l6
  · exact B.lt_t.2 g6
  · exact B.lt_t.2 l7
  · exact B.lt_t.2 g7
  · exact B.lt_t.2 l8
  · exact B.lt_t.2 g8
theorem within_c (s0 : Value) (u ax ay dx dy sx sy t b x0 y0 x1 y1 : Int) (w : World) (hu : ZNum w.heap.size w (.agg #[.bool (decide (u < 0)), s0]) u) (h0 : 0 ≤ u) (h1 : u < 1606938044258990275541962092341162602522202993782792835301376) (l1 : -134217728 < ax) (g1 : ax < 134217728) (l2 : -134217728 < ay) (g2 : ay < 134217728) (l9 : -134217728 < x0) (g9 : x0 < 134217728) (l10 : -134217728 < y0) (g10 : y0 < 134217728) (l11 : -134217728 < x1) (g11 : x1 < 134217728) (l12 : -134217728 < y1) (g12 : y1 < 134217728) (l3 : -1073741824 < dx) (g3 : dx < 1073741824) (l4 : -1073741824 < dy) (g4 : dy < 1073741824) (l5 : -1073741824 < sx) (g5 : sx < 1073741824) (l6 : -1073741824 < sy) (g6 : sy < 1073741824) (l7 : -1152921504606846976 < t) (g7 : t < 1152921504606846976) (l8 : -1152921504606846976 < b) (g8 : b < 1152921504606846976) :
    Calls Try.prog 31 #[.agg #[.int .i64 ax, .int .i64 ay, .int .i64 dx, .int .i64 dy, .int .i64 sx, .int .i64 sy, .int .i64 t, .int .i64 b, .bool (decide (u < 0)), s0], .agg #[.int .i64 x0, .int .i64 y0, .int .i64 x1, .int .i64 y1]] w (fun x w' => x = .returned (.bool (decide (withinP ax ay dx dy sx sy t b u x0 y0 x1 y1))) ∧ Below w.heap.size w w') := by
  obtain ⟨⟨s1, e1, u0⟩, z0⟩ := hu
  have e2 : s0 = s1 := by injection e1 with e1; have := congrArg Array.toList e1; simpa using this
  subst e2
  have key : withinT.vc IM (envOf [u, ax, ay, dx, dy, sx, sy, t, b, x0, y0, x1, y1] []) (fun v => v.wf 0 = true ∧ v.den IM (envOf [u, ax, ay, dx, dy, sx, sy, t, b, x0, y0, x1, y1] []) id = .bool (decide (withinP ax ay dx dy sx sy t b u x0 y0 x1 y1))) := ?key
  · refine @calls_numV Try.prog IM (envOf [u, ax, ay, dx, dy, sx, sy, t, b, x0, y0, x1, y1] []) mixed nocount rfl ctP (ctP_ok rfl im_998) 20 31 [.agg [iv 1, iv 2, iv 3, iv 4, iv 5, iv 6, iv 7, iv 8, .bool (.lt (.var 0) (.lit 0)), .opq 0], .agg [iv 9, iv 10, iv 11, iv 12]] 1 ⟨kW, [], 0⟩ [s0] _ w (.bool (decide (withinP ax ay dx dy sx sy t b u x0 y0 x1 y1))) withinT (fun _ h => nomatch h)
      ⟨kW_ok h0 h1 l1 g1 l2 g2 l9 g9 l10 g10 l11 g11 l12 g12 l3 g3 l4 g4 l5 g5 l6 g6 l7 g7 l8 g8, (fun _ h => nomatch h), fun _ h => absurd h (Nat.not_lt_zero _)⟩ rfl (fun i v h => ?_) rfl (fun β hβ => ?_) within_tree key
    · match i, h with
      | 0, h => injection h with h; subst h; exact ⟨u0, z0⟩
    · have h0 := hβ 0 s0 rfl
      simp only [List.map_cons, List.map_nil, V.den, cellsOf, C.den, h0]
      rfl
  unfold withinT
  unfold withinP ordZ
  repeat' (first | refine And.intro ?_ ?_ | intro _)
  all_goals first | rfl | skip
  all_goals
    first | refine bool_t ?_ | refine bool_f ?_ | refine bool_e ?_ | refine bool_n ?_ | refine bool_l ?_
    all_goals
      simp only [B.lt_t, B.lt_f, B.eq_t, B.eq_f, B.den_var, B.den_lit, B.den_not, B.den_and, B.den_iff, T.den_lit, T.den_var, T.den_wrap, T.den_bin, ev_add, ev_sub, ev_mul, ev_quo, ev_rem, ev_max, ev_min, envOf, List.getD_cons_zero, List.getD_cons_succ, w64, T.den_app, T.dens_cons, T.dens_nil, im_998] at *
      omega
/-- Whether a spot lies in a rectangle, as a symbol. -/
def numAt (s : S) : List C → Option T := numArg s
def inRs (k : Known) (n : Int) : List T → Bool
  | [] => true
  | a :: r => inR k a (1 - n) (n - 1) && inRs k n r
def ctW : CT := fun g args s => bif Nat.beq g 31 then match args with
  | [.agg [.int .i64 ax, .int .i64 ay, .int .i64 dx, .int .i64 dy, .int .i64 sx, .int .i64 sy, .int .i64 t, .int .i64 b, .bool q, d], .agg [.int .i64 x0, .int .i64 y0, .int .i64 x1, .int .i64 y1]] => match numArg s [.bool q, d] with
    | some u => bif inR s.known u 0 1606938044258990275541962092341162602522202993782792835301375 && (inRs s.known 134217728 [ax, ay, x0, y0, x1, y1] && (inRs s.known 1073741824 [dx, dy, sx, sy] && inRs s.known 1152921504606846976 [t, b])) then
        some ((tlM [ax, ay, dx, dy, sx, sy, t, b, u, x0, y0, x1, y1]).force fun a => .leaf (.c (.bool (.app 3 a)), s)) else none
    | none => none
  | _ => none
  else none
theorem inRs_ok {I : Interp} {ρ : Env} {k : Known} (hk : k.Ok I ρ) {n : Int} : ∀ {l : List T}, inRs k n l = true → ∀ a ∈ l, -n < a.den I ρ ∧ a.den I ρ < n
  | [], _ => fun _ h => nomatch h
  | a :: r, h => by
    simp only [inRs, Bool.and_eq_true] at h
    obtain ⟨h1, h2⟩ := inR_ok hk h.1
    intro x hx
    rcases List.mem_cons.1 hx with e | hx
    · subst e; omega
    · exact inRs_ok hk h.2 x hx
theorem ctW_ok {I : Interp} (hI : I.opq = numOpq) (hb : I.fb = fbM) (ρ : Env) : CTOk Try.prog I ρ ctW := by
  intro g args s t h w0 X n0 β0 β w R ht hw ha
  unfold ctW at h
  cases hg : Nat.beq g 31 with
  | false => rw [hg] at h; cases h
  | true =>
    have := Nat.eq_of_beq_eq_true hg
    subst this
    rw [hg] at h
    simp only [cond_true] at h
    split at h
    · rename_i ax ay dx dy sx sy t' b q d x0 y0 x1 y1
      split at h
      · rename_i u hu
        rw [cond_eq_ite] at h
        split at h
        · rename_i hc
          simp only [T.force_eq, Option.some.injEq] at h
          subst h
          simp only [Bool.and_eq_true] at hc
          obtain ⟨c1, c2, c3, c4⟩ := hc
          obtain ⟨u0, u1⟩ := inR_ok hw.known c1
          have r1 := inRs_ok hw.known c2
          have r2 := inRs_ok hw.known c3
          have r3 := inRs_ok hw.known c4
          have hz := numArg_ok hI hw hu
          obtain ⟨⟨s0, e0, hu0⟩, hz0⟩ := hz
          have e1 : (C.bool q).den I ρ β = .bool (decide (u.den I ρ < 0)) ∧ d.den I ρ β = s0 := by
            injection e0 with e0
            have := congrArg Array.toList e0
            simp only [cellsOf, List.map_cons, List.map_nil] at this
            injection this with h1 h2
            injection h2 with h2 h3
            exact ⟨h1, h2⟩
          have hcall := within_c s0 (u.den I ρ) (ax.den I ρ) (ay.den I ρ) (dx.den I ρ) (dy.den I ρ) (sx.den I ρ) (sy.den I ρ) (t'.den I ρ) (b.den I ρ) (x0.den I ρ) (y0.den I ρ) (x1.den I ρ) (y1.den I ρ) w ⟨⟨s0, rfl, hu0⟩, hz0⟩ u0 (by omega)
            (r1 ax (by simp)).1 (r1 ax (by simp)).2 (r1 ay (by simp)).1 (r1 ay (by simp)).2 (r1 x0 (by simp)).1 (r1 x0 (by simp)).2 (r1 y0 (by simp)).1 (r1 y0 (by simp)).2 (r1 x1 (by simp)).1 (r1 x1 (by simp)).2 (r1 y1 (by simp)).1 (r1 y1 (by simp)).2
            (r2 dx (by simp)).1 (r2 dx (by simp)).2 (r2 dy (by simp)).1 (r2 dy (by simp)).2 (r2 sx (by simp)).1 (r2 sx (by simp)).2 (r2 sy (by simp)).1 (r2 sy (by simp)).2 (r3 t' (by simp)).1 (r3 t' (by simp)).2 (r3 b (by simp)).1 (r3 b (by simp)).2
          refine ct_leaf1 (v := .c (.bool (.app 3 (tlM [ax, ay, dx, dy, sx, sy, t', b, u, x0, y0, x1, y1])))) ?_ rfl ht hw
          have e2 : ∀ β, V.den I ρ β (.c (.bool (.app 3 (tlM [ax, ay, dx, dy, sx, sy, t', b, u, x0, y0, x1, y1])))) = .bool (decide (withinP (ax.den I ρ) (ay.den I ρ) (dx.den I ρ) (dy.den I ρ) (sx.den I ρ) (sy.den I ρ) (t'.den I ρ) (b.den I ρ) (u.den I ρ) (x0.den I ρ) (y0.den I ρ) (x1.den I ρ) (y1.den I ρ))) := fun β => by
            simp only [V.den, C.den, B.den, tlM, T.dens_cons, T.dens_nil, hb]; rfl
          rw [e2]
          simp only [List.map_cons, List.map_nil, V.den, cellsOf]
          rw [e1.1, e1.2]
          exact hcall
        · cases h
      · cases h
    · cases h
end Go.Proofs.Ytmoclgpdcnjacaa.Sx
