/- MeetThrough: lines through a point meet there alone; a line from the centre of an arc crosses it once. -/
import Derived.Test.YtmoclgpdcnjacaaMi
import Derived.Test.YtmoclgpdcnjacaaMn
set_option linter.all false
namespace Go.Proofs.Ytmoclgpdcnjacaa.Sx
open Go Go.RowKit

theorem yes_eq {I : Interp} {ρ : Env} {β : Nat → Nat} {a b : T} (h : a.den I ρ = b.den I ρ) : V.den I ρ β (.c (.bool (.eq a b))) = .bool true := by simp [V.den, C.den, B.den, h]
theorem tm (x : Int) {n : Int} (h : 0 < n) : -n < x.tmod n ∧ x.tmod n < n := by
  have h1 := Int.tmod_lt_of_pos x h
  have h2 := Int.tmod_lt_of_pos (-x) h
  rw [Int.neg_tmod] at h2
  omega
theorem tm0 {x n : Int} (h : 0 < n) (hx : 0 ≤ x) : 0 ≤ x.tmod n := Int.tmod_nonneg n hx
def thrT : Tree V :=
 (.node (.eq (.bin .sub (.bin .mul (.bin .rem (.var 0) (.lit 50)) (.bin .rem (.var 3) (.lit 50))) (.bin .mul (.bin .rem (.var 1) (.lit 50)) (.bin .rem (.var 2) (.lit 50)))) (.lit 0))
  (.node (.eq (.app 4 (.cons (.lit 2) (.cons (.bin .add (.bin .rem (.var 4) (.lit 1000)) (.bin .add (.lit 1) (.bin .rem (.bin .add (.bin .rem (.var 6) (.lit 60)) (.lit 60)) (.lit 60)))) (.cons (.bin .rem (.var 5) (.lit 1000)) (.cons (.bin .rem (.var 4) (.lit 1000)) (.cons (.bin .add (.bin .rem (.var 5) (.lit 1000)) (.bin .add (.lit 1) (.bin .rem (.bin .add (.bin .rem (.var 6) (.lit 60)) (.lit 60)) (.lit 60)))) (.cons (.bin .rem (.var 4) (.lit 1000)) (.cons (.bin .rem (.var 5) (.lit 1000)) .nil)))))))) (.lit 0))
   (.node (.eq (.bin .rem (.var 0) (.lit 50)) (.lit 0))
    (.node (.eq (.bin .rem (.var 1) (.lit 50)) (.lit 0))
     (.leaf (.c (.bool (.eq (.app 12 (.cons (.lit 1) (.cons (.bin .rem (.var 4) (.lit 1000)) (.cons (.bin .rem (.var 5) (.lit 1000)) (.cons (.bin .add (.bin .rem (.var 4) (.lit 1000)) (.bin .mul (.lit 60) (.bin .max (.bin .rem (.var 0) (.lit 50)) (.bin .sub (.lit 0) (.bin .rem (.var 0) (.lit 50)))))) (.cons (.bin .add (.bin .rem (.var 5) (.lit 1000)) (.bin .mul (.lit 60) (.bin .max (.bin .rem (.var 1) (.lit 50)) (.bin .sub (.lit 0) (.bin .rem (.var 1) (.lit 50)))))) (.cons (.lit 0) (.cons (.lit 0) (.cons (.lit 2) (.cons (.bin .add (.bin .rem (.var 4) (.lit 1000)) (.bin .add (.lit 1) (.bin .rem (.bin .add (.bin .rem (.var 6) (.lit 60)) (.lit 60)) (.lit 60)))) (.cons (.bin .rem (.var 5) (.lit 1000)) (.cons (.bin .rem (.var 4) (.lit 1000)) (.cons (.bin .add (.bin .rem (.var 5) (.lit 1000)) (.bin .add (.lit 1) (.bin .rem (.bin .add (.bin .rem (.var 6) (.lit 60)) (.lit 60)) (.lit 60)))) (.cons (.bin .rem (.var 4) (.lit 1000)) (.cons (.bin .rem (.var 5) (.lit 1000)) .nil))))))))))))))) (.lit 0)))))
     (.leaf (.c (.bool (.eq (.app 12 (.cons (.lit 1) (.cons (.bin .rem (.var 4) (.lit 1000)) (.cons (.bin .rem (.var 5) (.lit 1000)) (.cons (.bin .add (.bin .rem (.var 4) (.lit 1000)) (.bin .mul (.lit 60) (.bin .max (.bin .rem (.var 0) (.lit 50)) (.bin .sub (.lit 0) (.bin .rem (.var 0) (.lit 50)))))) (.cons (.bin .add (.bin .rem (.var 5) (.lit 1000)) (.bin .mul (.lit 60) (.bin .max (.bin .rem (.var 1) (.lit 50)) (.bin .sub (.lit 0) (.bin .rem (.var 1) (.lit 50)))))) (.cons (.lit 0) (.cons (.lit 0) (.cons (.lit 2) (.cons (.bin .add (.bin .rem (.var 4) (.lit 1000)) (.bin .add (.lit 1) (.bin .rem (.bin .add (.bin .rem (.var 6) (.lit 60)) (.lit 60)) (.lit 60)))) (.cons (.bin .rem (.var 5) (.lit 1000)) (.cons (.bin .rem (.var 4) (.lit 1000)) (.cons (.bin .add (.bin .rem (.var 5) (.lit 1000)) (.bin .add (.lit 1) (.bin .rem (.bin .add (.bin .rem (.var 6) (.lit 60)) (.lit 60)) (.lit 60)))) (.cons (.bin .rem (.var 4) (.lit 1000)) (.cons (.bin .rem (.var 5) (.lit 1000)) .nil))))))))))))))) (.lit 1))))))
    (.leaf (.c (.bool (.eq (.app 12 (.cons (.lit 1) (.cons (.bin .rem (.var 4) (.lit 1000)) (.cons (.bin .rem (.var 5) (.lit 1000)) (.cons (.bin .add (.bin .rem (.var 4) (.lit 1000)) (.bin .mul (.lit 60) (.bin .max (.bin .rem (.var 0) (.lit 50)) (.bin .sub (.lit 0) (.bin .rem (.var 0) (.lit 50)))))) (.cons (.bin .add (.bin .rem (.var 5) (.lit 1000)) (.bin .mul (.lit 60) (.bin .max (.bin .rem (.var 1) (.lit 50)) (.bin .sub (.lit 0) (.bin .rem (.var 1) (.lit 50)))))) (.cons (.lit 0) (.cons (.lit 0) (.cons (.lit 2) (.cons (.bin .add (.bin .rem (.var 4) (.lit 1000)) (.bin .add (.lit 1) (.bin .rem (.bin .add (.bin .rem (.var 6) (.lit 60)) (.lit 60)) (.lit 60)))) (.cons (.bin .rem (.var 5) (.lit 1000)) (.cons (.bin .rem (.var 4) (.lit 1000)) (.cons (.bin .add (.bin .rem (.var 5) (.lit 1000)) (.bin .add (.lit 1) (.bin .rem (.bin .add (.bin .rem (.var 6) (.lit 60)) (.lit 60)) (.lit 60)))) (.cons (.bin .rem (.var 4) (.lit 1000)) (.cons (.bin .rem (.var 5) (.lit 1000)) .nil))))))))))))))) (.lit 1))))))
   (.leaf (.c (.bool (.lit false)))))
  (.node (.eq (.app 12 (.cons (.lit 1) (.cons (.bin .sub (.bin .rem (.var 4) (.lit 1000)) (.bin .rem (.var 0) (.lit 50))) (.cons (.bin .sub (.bin .rem (.var 5) (.lit 1000)) (.bin .rem (.var 1) (.lit 50))) (.cons (.bin .add (.bin .rem (.var 4) (.lit 1000)) (.bin .rem (.var 0) (.lit 50))) (.cons (.bin .add (.bin .rem (.var 5) (.lit 1000)) (.bin .rem (.var 1) (.lit 50))) (.cons (.lit 0) (.cons (.lit 0) (.cons (.lit 1) (.cons (.bin .sub (.bin .rem (.var 4) (.lit 1000)) (.bin .rem (.var 2) (.lit 50))) (.cons (.bin .sub (.bin .rem (.var 5) (.lit 1000)) (.bin .rem (.var 3) (.lit 50))) (.cons (.bin .add (.bin .rem (.var 4) (.lit 1000)) (.bin .rem (.var 2) (.lit 50))) (.cons (.bin .add (.bin .rem (.var 5) (.lit 1000)) (.bin .rem (.var 3) (.lit 50))) (.cons (.lit 0) (.cons (.lit 0) .nil))))))))))))))) (.lit 1))
   (.node (.eq (.app 4 (.cons (.lit 2) (.cons (.bin .add (.bin .rem (.var 4) (.lit 1000)) (.bin .add (.lit 1) (.bin .rem (.bin .add (.bin .rem (.var 6) (.lit 60)) (.lit 60)) (.lit 60)))) (.cons (.bin .rem (.var 5) (.lit 1000)) (.cons (.bin .rem (.var 4) (.lit 1000)) (.cons (.bin .add (.bin .rem (.var 5) (.lit 1000)) (.bin .add (.lit 1) (.bin .rem (.bin .add (.bin .rem (.var 6) (.lit 60)) (.lit 60)) (.lit 60)))) (.cons (.bin .rem (.var 4) (.lit 1000)) (.cons (.bin .rem (.var 5) (.lit 1000)) .nil)))))))) (.lit 0))
    (.node (.eq (.bin .rem (.var 0) (.lit 50)) (.lit 0))
     (.node (.eq (.bin .rem (.var 1) (.lit 50)) (.lit 0))
      (.leaf (.c (.bool (.eq (.app 12 (.cons (.lit 1) (.cons (.bin .rem (.var 4) (.lit 1000)) (.cons (.bin .rem (.var 5) (.lit 1000)) (.cons (.bin .add (.bin .rem (.var 4) (.lit 1000)) (.bin .mul (.lit 60) (.bin .max (.bin .rem (.var 0) (.lit 50)) (.bin .sub (.lit 0) (.bin .rem (.var 0) (.lit 50)))))) (.cons (.bin .add (.bin .rem (.var 5) (.lit 1000)) (.bin .mul (.lit 60) (.bin .max (.bin .rem (.var 1) (.lit 50)) (.bin .sub (.lit 0) (.bin .rem (.var 1) (.lit 50)))))) (.cons (.lit 0) (.cons (.lit 0) (.cons (.lit 2) (.cons (.bin .add (.bin .rem (.var 4) (.lit 1000)) (.bin .add (.lit 1) (.bin .rem (.bin .add (.bin .rem (.var 6) (.lit 60)) (.lit 60)) (.lit 60)))) (.cons (.bin .rem (.var 5) (.lit 1000)) (.cons (.bin .rem (.var 4) (.lit 1000)) (.cons (.bin .add (.bin .rem (.var 5) (.lit 1000)) (.bin .add (.lit 1) (.bin .rem (.bin .add (.bin .rem (.var 6) (.lit 60)) (.lit 60)) (.lit 60)))) (.cons (.bin .rem (.var 4) (.lit 1000)) (.cons (.bin .rem (.var 5) (.lit 1000)) .nil))))))))))))))) (.lit 0)))))
      (.leaf (.c (.bool (.eq (.app 12 (.cons (.lit 1) (.cons (.bin .rem (.var 4) (.lit 1000)) (.cons (.bin .rem (.var 5) (.lit 1000)) (.cons (.bin .add (.bin .rem (.var 4) (.lit 1000)) (.bin .mul (.lit 60) (.bin .max (.bin .rem (.var 0) (.lit 50)) (.bin .sub (.lit 0) (.bin .rem (.var 0) (.lit 50)))))) (.cons (.bin .add (.bin .rem (.var 5) (.lit 1000)) (.bin .mul (.lit 60) (.bin .max (.bin .rem (.var 1) (.lit 50)) (.bin .sub (.lit 0) (.bin .rem (.var 1) (.lit 50)))))) (.cons (.lit 0) (.cons (.lit 0) (.cons (.lit 2) (.cons (.bin .add (.bin .rem (.var 4) (.lit 1000)) (.bin .add (.lit 1) (.bin .rem (.bin .add (.bin .rem (.var 6) (.lit 60)) (.lit 60)) (.lit 60)))) (.cons (.bin .rem (.var 5) (.lit 1000)) (.cons (.bin .rem (.var 4) (.lit 1000)) (.cons (.bin .add (.bin .rem (.var 5) (.lit 1000)) (.bin .add (.lit 1) (.bin .rem (.bin .add (.bin .rem (.var 6) (.lit 60)) (.lit 60)) (.lit 60)))) (.cons (.bin .rem (.var 4) (.lit 1000)) (.cons (.bin .rem (.var 5) (.lit 1000)) .nil))))))))))))))) (.lit 1))))))
     (.leaf (.c (.bool (.eq (.app 12 (.cons (.lit 1) (.cons (.bin .rem (.var 4) (.lit 1000)) (.cons (.bin .rem (.var 5) (.lit 1000)) (.cons (.bin .add (.bin .rem (.var 4) (.lit 1000)) (.bin .mul (.lit 60) (.bin .max (.bin .rem (.var 0) (.lit 50)) (.bin .sub (.lit 0) (.bin .rem (.var 0) (.lit 50)))))) (.cons (.bin .add (.bin .rem (.var 5) (.lit 1000)) (.bin .mul (.lit 60) (.bin .max (.bin .rem (.var 1) (.lit 50)) (.bin .sub (.lit 0) (.bin .rem (.var 1) (.lit 50)))))) (.cons (.lit 0) (.cons (.lit 0) (.cons (.lit 2) (.cons (.bin .add (.bin .rem (.var 4) (.lit 1000)) (.bin .add (.lit 1) (.bin .rem (.bin .add (.bin .rem (.var 6) (.lit 60)) (.lit 60)) (.lit 60)))) (.cons (.bin .rem (.var 5) (.lit 1000)) (.cons (.bin .rem (.var 4) (.lit 1000)) (.cons (.bin .add (.bin .rem (.var 5) (.lit 1000)) (.bin .add (.lit 1) (.bin .rem (.bin .add (.bin .rem (.var 6) (.lit 60)) (.lit 60)) (.lit 60)))) (.cons (.bin .rem (.var 4) (.lit 1000)) (.cons (.bin .rem (.var 5) (.lit 1000)) .nil))))))))))))))) (.lit 1))))))
    (.leaf (.c (.bool (.lit false)))))
   (.leaf (.c (.bool (.lit false))))))
set_option maxRecDepth 1000000 in
theorem thr_tree : vals (execF Try.prog ctS 20 7 [.agg [iv 0, iv 1], .agg [iv 2, iv 3], .agg [iv 4, iv 5, iv 6]] ⟨[], 0, ⟨[], [0, 2], 0⟩⟩) = thrT := by kernel_rfl
set_option maxRecDepth 100000 in
set_option maxHeartbeats 20000000 in
theorem meetThrough_law (u1 u2 v1 v2 a1 a2 a3 : Int) (W : World) :
    Calls Try.prog 7 #[.agg #[.int .i64 u1, .int .i64 u2], .agg #[.int .i64 v1, .int .i64 v2], .agg #[.int .i64 a1, .int .i64 a2, .int .i64 a3]] W (fun e w' => e = .returned (.bool true) ∧ Below W.heap.size W w') := by
  have k1 := tm a1 (show (0 : Int) < 1000 by omega)
  have k2 := tm a2 (show (0 : Int) < 1000 by omega)
  have k3 := tm u1 (show (0 : Int) < 50 by omega)
  have k4 := tm u2 (show (0 : Int) < 50 by omega)
  have k5 := tm v1 (show (0 : Int) < 50 by omega)
  have k6 := tm v2 (show (0 : Int) < 50 by omega)
  have k7 := tm a3 (show (0 : Int) < 60 by omega)
  have k8 := tm (a3.tmod 60 + 60) (show (0 : Int) < 60 by omega)
  have k9 := tm0 (show (0 : Int) < 60 by omega) (show 0 ≤ a3.tmod 60 + 60 by omega)
  have hA : (u1.tmod 50) * (v2.tmod 50) - (u2.tmod 50) * (v1.tmod 50) ≠ 0 → countZ 1 ((a1.tmod 1000) - (u1.tmod 50)) ((a2.tmod 1000) - (u2.tmod 50)) ((a1.tmod 1000) + (u1.tmod 50)) ((a2.tmod 1000) + (u2.tmod 50)) 0 0 1 ((a1.tmod 1000) - (v1.tmod 50)) ((a2.tmod 1000) - (v2.tmod 50)) ((a1.tmod 1000) + (v1.tmod 50)) ((a2.tmod 1000) + (v2.tmod 50)) 0 0 = 1 :=
    fun h => thr_lines (by omega) (by omega) (by omega) h
  obtain ⟨hB, hC⟩ := thr_ray (p1 := (a1.tmod 1000)) (p2 := (a2.tmod 1000)) (m := (60 * max (u1.tmod 50) (0 - (u1.tmod 50)))) (n := (60 * max (u2.tmod 50) (0 - (u2.tmod 50)))) (r := (1 + (a3.tmod 60 + 60).tmod 60)) (by omega) (by omega) (by omega) (by omega) (by omega) (by omega) (by omega) (by omega) (by omega)
  have hB := (check_iff _ _ _ _ _ _ _).2 hB
  have hC0 : (u1.tmod 50) = 0 → (u2.tmod 50) = 0 → countZ 1 (a1.tmod 1000) (a2.tmod 1000) ((a1.tmod 1000) + (60 * max (u1.tmod 50) (0 - (u1.tmod 50)))) ((a2.tmod 1000) + (60 * max (u2.tmod 50) (0 - (u2.tmod 50)))) 0 0 2 ((a1.tmod 1000) + (1 + (a3.tmod 60 + 60).tmod 60)) (a2.tmod 1000) (a1.tmod 1000) ((a2.tmod 1000) + (1 + (a3.tmod 60 + 60).tmod 60)) (a1.tmod 1000) (a2.tmod 1000) = 0 := fun h1 h2 => by rw [hC, if_pos (by omega)]
  have hC1 : (u1.tmod 50) ≠ 0 ∨ (u2.tmod 50) ≠ 0 → countZ 1 (a1.tmod 1000) (a2.tmod 1000) ((a1.tmod 1000) + (60 * max (u1.tmod 50) (0 - (u1.tmod 50)))) ((a2.tmod 1000) + (60 * max (u2.tmod 50) (0 - (u2.tmod 50)))) 0 0 2 ((a1.tmod 1000) + (1 + (a3.tmod 60 + 60).tmod 60)) (a2.tmod 1000) (a1.tmod 1000) ((a2.tmod 1000) + (1 + (a3.tmod 60 + 60).tmod 60)) (a1.tmod 1000) (a2.tmod 1000) = 1 := fun h => by rw [hC, if_neg (by omega)]
  clear hC
  have key : (thrT).vc (IL W ⟨none, 0, []⟩ ⟨none, 0, []⟩) (envOf [u1, u2, v1, v2, a1, a2, a3] []) (fun v => v.wf 0 = true ∧ v.den (IL W ⟨none, 0, []⟩ ⟨none, 0, []⟩) (envOf [u1, u2, v1, v2, a1, a2, a3] []) id = .bool true) := ?key
  · have h' := @calls_litD Try.prog (IL W ⟨none, 0, []⟩ ⟨none, 0, []⟩) (envOf [u1, u2, v1, v2, a1, a2, a3] []) mixed nocount ctS (ctS_ok (noList W) (noList W) _) 20 7 [.agg [iv 0, iv 1], .agg [iv 2, iv 3], .agg [iv 4, iv 5, iv 6]] ⟨[], [0, 2], 0⟩ thrT W (.bool true) (hyp_fixed rfl) (draws_ok (l := []) (n := 0) (fun _ h => nomatch h) (fun _ h => absurd h (Nat.not_lt_zero _))) rfl thr_tree key
    exact h'
  unfold thrT
  repeat' (first | refine And.intro ?_ ?_ | intro _)
  all_goals first | rfl | skip
  all_goals
    first | refine yes_eq ?_ | exfalso
    all_goals
      simp only [B.lt_t, B.lt_f, B.eq_t, B.eq_f, B.den_var, B.den_lit, B.den_not, B.den_and, B.den_iff, T.den_lit, T.den_var, T.den_wrap, T.den_bin, ev_add, ev_sub, ev_mul, ev_quo, ev_rem, ev_max, ev_min, envOf, List.getD_cons_zero, List.getD_cons_succ, w64, T.den_app, B.den_app, T.dens_cons, T.dens_nil, il_fi, il_fb, fb0, fi0, fi2, fi4, fi5, fi7, fi8, fi9, fi10, fi12, tlM, decide_eq_true_eq, decide_eq_false_iff_not, Int.reduceToNat] at *
      omega
end Go.Proofs.Ytmoclgpdcnjacaa.Sx
