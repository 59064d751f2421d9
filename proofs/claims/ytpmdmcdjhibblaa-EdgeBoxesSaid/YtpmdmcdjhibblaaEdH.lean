/- EdgeBoxes: the points of an edge lie in its box. -/
import Derived.Test.YtpmdmcdjhibblaaEdG
set_option linter.all false
namespace Go.Proofs.Ytpmdmcdjhibblaa.Sx
open Go Go.RowKit

def E7T : List T := [.var 0, .var 1, .var 2, .var 3, .var 4, .var 5, .var 6]
def bdF : List (B × Bool) := [1, 2, 3, 4, 5, 6].flatMap (fun i => [(.lt (.lit (-201)) (.var i), true), (.lt (.var i) (.lit 201), true)]) ++ [7, 8].flatMap fun i => [(.lt (.lit (-200001)) (.var i), true), (.lt (.var i) (.lit 200001), true)]
def bxF : List (B × Bool) := [(.app 0 (tl (E7T ++ [.var 1, .var 2])), true), (.app 0 (tl (E7T ++ [.var 3, .var 4])), true), (.eq (.app 6 (tl (E7T ++ [.bin .max (.var 1) (.var 3), .var 8]))) (.lit 0), true)] ++ bdF
theorem bd_ok {I : Interp} {ρ : Env} (h : -200 ≤ ρ.i 1 ∧ ρ.i 1 ≤ 200 ∧ -200 ≤ ρ.i 2 ∧ ρ.i 2 ≤ 200 ∧ -200 ≤ ρ.i 3 ∧ ρ.i 3 ≤ 200 ∧ -200 ≤ ρ.i 4 ∧ ρ.i 4 ≤ 200 ∧ -200 ≤ ρ.i 5 ∧ ρ.i 5 ≤ 200 ∧ -200 ≤ ρ.i 6 ∧ ρ.i 6 ≤ 200)
    (h2 : -200000 ≤ ρ.i 7 ∧ ρ.i 7 ≤ 200000 ∧ -200000 ≤ ρ.i 8 ∧ ρ.i 8 ≤ 200000) : ∀ p ∈ bdF, p.1.den I ρ = p.2 := by
  intro p hp
  simp only [bdF, List.flatMap_cons, List.flatMap_nil, List.cons_append, List.nil_append, List.append_nil, List.mem_cons, List.not_mem_nil, or_false] at hp
  rcases hp with rfl | rfl | rfl | rfl | rfl | rfl | rfl | rfl | rfl | rfl | rfl | rfl | rfl | rfl | rfl | rfl <;>
    (refine B.lt_t.2 ?_; simp only [T.den_lit, T.den_var]; omega)
section
variable {k ax ay bx by' cx cy px py : Int}
theorem on_a (h : okP k ax ay bx by' cx cy) : onP k ax ay bx by' cx cy ax ay := by
  refine ⟨h, by unfold boxP; omega, ?_⟩
  by_cases hk : k = 1
  · exact .inl ⟨hk, by unfold crossP; grind⟩
  · exact .inr ⟨hk, rfl⟩
theorem on_b (h : okP k ax ay bx by' cx cy) : onP k ax ay bx by' cx cy bx by' := by
  refine ⟨h, by unfold boxP; omega, ?_⟩
  by_cases hk : k = 1
  · exact .inl ⟨hk, by unfold crossP; grind⟩
  · exact .inr ⟨hk, dist_arc h hk⟩
theorem ray_left (h : okP k ax ay bx by' cx cy) : (ay ≤ py ∧ py < by' ∧ rayZ k ax ay bx by' cx cy (min ax bx - 1) py = 1) ∨ (by' ≤ py ∧ py < ay ∧ rayZ k ax ay bx by' cx cy (min ax bx - 1) py = -1) ∨ (¬ (ay ≤ py ∧ py < by') ∧ ¬ (by' ≤ py ∧ py < ay) ∧ rayZ k ax ay bx by' cx cy (min ax bx - 1) py = 0) := by
  have hb : beyondP k ax ay bx by' cx cy (min ax bx - 1) py := ⟨h, by omega, .inl (by omega)⟩
  unfold rayZ
  simp only [hb, and_true]
  (repeat' split) <;> omega
theorem ray_right : rayZ k ax ay bx by' cx cy (max ax bx) py = 0 := by
  have hb : ¬ beyondP k ax ay bx by' cx cy (max ax bx) py := fun h => by have := h.2.1; omega
  unfold rayZ
  simp [hb]
theorem ray_mid : rayZ k ax ay bx by' cx cy px py = 0 ∨ (ay ≤ py ∧ py < by' ∧ rayZ k ax ay bx by' cx cy px py = 1) ∨ (by' ≤ py ∧ py < ay ∧ rayZ k ax ay bx by' cx cy px py = -1) := by
  unfold rayZ
  (repeat' split) <;> omega
end
theorem yes_eq {I : Interp} {ρ : Env} {β : Nat → Nat} {a b : T} (h : a.den I ρ = b.den I ρ) : V.den I ρ β (.c (.bool (.eq a b))) = .bool true := by simp [V.den, C.den, B.den, h]
def boxesT : Tree V :=
 (.node (.app 0 (.cons (.var 0) (.cons (.var 1) (.cons (.var 2) (.cons (.var 3) (.cons (.var 4) (.cons (.var 5) (.cons (.var 6) (.cons (.var 7) (.cons (.var 8) .nil))))))))))
  (.node (.lt (.var 7) (.bin .min (.var 1) (.var 3)))
   (.leaf (.c (.bool (.lit false))))
   (.node (.lt (.bin .max (.var 1) (.var 3)) (.var 7))
    (.leaf (.c (.bool (.lit false))))
    (.node (.lt (.var 8) (.bin .min (.var 2) (.var 4)))
     (.leaf (.c (.bool (.lit false))))
     (.node (.lt (.bin .max (.var 2) (.var 4)) (.var 8))
      (.leaf (.c (.bool (.lit false))))
      (.node (.lt (.var 8) (.var 2))
       (.node (.lt (.var 8) (.var 4))
        (.node (.eq (.app 6 (.cons (.var 0) (.cons (.var 1) (.cons (.var 2) (.cons (.var 3) (.cons (.var 4) (.cons (.var 5) (.cons (.var 6) (.cons (.bin .sub (.bin .min (.var 1) (.var 3)) (.lit 1)) (.cons (.var 8) .nil)))))))))) (.lit 0))
         (.node (.eq (.app 6 (.cons (.var 0) (.cons (.var 1) (.cons (.var 2) (.cons (.var 3) (.cons (.var 4) (.cons (.var 5) (.cons (.var 6) (.cons (.var 7) (.cons (.var 8) .nil)))))))))) (.lit 0))
          (.leaf (.c (.bool (.lit true))))
          (.leaf (.c (.bool (.lit false)))))
         (.leaf (.c (.bool (.lit false)))))
        (.node (.eq (.app 6 (.cons (.var 0) (.cons (.var 1) (.cons (.var 2) (.cons (.var 3) (.cons (.var 4) (.cons (.var 5) (.cons (.var 6) (.cons (.bin .sub (.bin .min (.var 1) (.var 3)) (.lit 1)) (.cons (.var 8) .nil)))))))))) (.lit (-1)))
         (.node (.eq (.app 6 (.cons (.var 0) (.cons (.var 1) (.cons (.var 2) (.cons (.var 3) (.cons (.var 4) (.cons (.var 5) (.cons (.var 6) (.cons (.var 7) (.cons (.var 8) .nil)))))))))) (.lit 0))
          (.leaf (.c (.bool (.lit true))))
          (.leaf (.c (.bool (.eq (.app 6 (.cons (.var 0) (.cons (.var 1) (.cons (.var 2) (.cons (.var 3) (.cons (.var 4) (.cons (.var 5) (.cons (.var 6) (.cons (.var 7) (.cons (.var 8) .nil)))))))))) (.lit (-1)))))))
         (.leaf (.c (.bool (.lit false))))))
       (.node (.lt (.var 8) (.var 4))
        (.node (.eq (.app 6 (.cons (.var 0) (.cons (.var 1) (.cons (.var 2) (.cons (.var 3) (.cons (.var 4) (.cons (.var 5) (.cons (.var 6) (.cons (.bin .sub (.bin .min (.var 1) (.var 3)) (.lit 1)) (.cons (.var 8) .nil)))))))))) (.lit 1))
         (.node (.eq (.app 6 (.cons (.var 0) (.cons (.var 1) (.cons (.var 2) (.cons (.var 3) (.cons (.var 4) (.cons (.var 5) (.cons (.var 6) (.cons (.var 7) (.cons (.var 8) .nil)))))))))) (.lit 0))
          (.leaf (.c (.bool (.lit true))))
          (.leaf (.c (.bool (.eq (.app 6 (.cons (.var 0) (.cons (.var 1) (.cons (.var 2) (.cons (.var 3) (.cons (.var 4) (.cons (.var 5) (.cons (.var 6) (.cons (.var 7) (.cons (.var 8) .nil)))))))))) (.lit 1))))))
         (.leaf (.c (.bool (.lit false)))))
        (.node (.eq (.app 6 (.cons (.var 0) (.cons (.var 1) (.cons (.var 2) (.cons (.var 3) (.cons (.var 4) (.cons (.var 5) (.cons (.var 6) (.cons (.bin .sub (.bin .min (.var 1) (.var 3)) (.lit 1)) (.cons (.var 8) .nil)))))))))) (.lit 0))
         (.node (.eq (.app 6 (.cons (.var 0) (.cons (.var 1) (.cons (.var 2) (.cons (.var 3) (.cons (.var 4) (.cons (.var 5) (.cons (.var 6) (.cons (.var 7) (.cons (.var 8) .nil)))))))))) (.lit 0))
          (.leaf (.c (.bool (.lit true))))
          (.leaf (.c (.bool (.lit false)))))
         (.leaf (.c (.bool (.lit false)))))))))))
  (.node (.lt (.var 8) (.var 2))
   (.node (.lt (.var 8) (.var 4))
    (.node (.eq (.app 6 (.cons (.var 0) (.cons (.var 1) (.cons (.var 2) (.cons (.var 3) (.cons (.var 4) (.cons (.var 5) (.cons (.var 6) (.cons (.bin .sub (.bin .min (.var 1) (.var 3)) (.lit 1)) (.cons (.var 8) .nil)))))))))) (.lit 0))
     (.node (.eq (.app 6 (.cons (.var 0) (.cons (.var 1) (.cons (.var 2) (.cons (.var 3) (.cons (.var 4) (.cons (.var 5) (.cons (.var 6) (.cons (.var 7) (.cons (.var 8) .nil)))))))))) (.lit 0))
      (.leaf (.c (.bool (.lit true))))
      (.leaf (.c (.bool (.lit false)))))
     (.leaf (.c (.bool (.lit false)))))
    (.node (.eq (.app 6 (.cons (.var 0) (.cons (.var 1) (.cons (.var 2) (.cons (.var 3) (.cons (.var 4) (.cons (.var 5) (.cons (.var 6) (.cons (.bin .sub (.bin .min (.var 1) (.var 3)) (.lit 1)) (.cons (.var 8) .nil)))))))))) (.lit (-1)))
     (.node (.eq (.app 6 (.cons (.var 0) (.cons (.var 1) (.cons (.var 2) (.cons (.var 3) (.cons (.var 4) (.cons (.var 5) (.cons (.var 6) (.cons (.var 7) (.cons (.var 8) .nil)))))))))) (.lit 0))
      (.leaf (.c (.bool (.lit true))))
      (.leaf (.c (.bool (.eq (.app 6 (.cons (.var 0) (.cons (.var 1) (.cons (.var 2) (.cons (.var 3) (.cons (.var 4) (.cons (.var 5) (.cons (.var 6) (.cons (.var 7) (.cons (.var 8) .nil)))))))))) (.lit (-1)))))))
     (.leaf (.c (.bool (.lit false))))))
   (.node (.lt (.var 8) (.var 4))
    (.node (.eq (.app 6 (.cons (.var 0) (.cons (.var 1) (.cons (.var 2) (.cons (.var 3) (.cons (.var 4) (.cons (.var 5) (.cons (.var 6) (.cons (.bin .sub (.bin .min (.var 1) (.var 3)) (.lit 1)) (.cons (.var 8) .nil)))))))))) (.lit 1))
     (.node (.eq (.app 6 (.cons (.var 0) (.cons (.var 1) (.cons (.var 2) (.cons (.var 3) (.cons (.var 4) (.cons (.var 5) (.cons (.var 6) (.cons (.var 7) (.cons (.var 8) .nil)))))))))) (.lit 0))
      (.leaf (.c (.bool (.lit true))))
      (.leaf (.c (.bool (.eq (.app 6 (.cons (.var 0) (.cons (.var 1) (.cons (.var 2) (.cons (.var 3) (.cons (.var 4) (.cons (.var 5) (.cons (.var 6) (.cons (.var 7) (.cons (.var 8) .nil)))))))))) (.lit 1))))))
     (.leaf (.c (.bool (.lit false)))))
    (.node (.eq (.app 6 (.cons (.var 0) (.cons (.var 1) (.cons (.var 2) (.cons (.var 3) (.cons (.var 4) (.cons (.var 5) (.cons (.var 6) (.cons (.bin .sub (.bin .min (.var 1) (.var 3)) (.lit 1)) (.cons (.var 8) .nil)))))))))) (.lit 0))
     (.node (.eq (.app 6 (.cons (.var 0) (.cons (.var 1) (.cons (.var 2) (.cons (.var 3) (.cons (.var 4) (.cons (.var 5) (.cons (.var 6) (.cons (.var 7) (.cons (.var 8) .nil)))))))))) (.lit 0))
      (.leaf (.c (.bool (.lit true))))
      (.leaf (.c (.bool (.lit false)))))
     (.leaf (.c (.bool (.lit false))))))))
set_option maxRecDepth 1000000 in
theorem boxes_tree : vals (execF Try.prog ctX 20 8 [.c (.abs 0 .nil), .c (.abs 1 .nil)] ⟨[], 0, ⟨bxF, [0, 2], 0⟩⟩) = boxesT := by kernel_rfl
set_option maxRecDepth 100000 in
set_option maxHeartbeats 20000000 in
theorem edgeBoxes_law (l0 l1 : Ls) (W : World) (h0 : l0.Ok W) (h1 : l1.Ok W) :
    Calls Try.prog 8 #[l0.v, l1.v] W (fun e w' => e = .returned (.bool true) ∧ Below W.heap.size W w') := by
  obtain ⟨r, ⟨mk, m1, m2, m3, m4, m5, m6, rfl, hok, hb⟩, hm⟩ := made_ex h0 h1
  obtain ⟨qx, qy, hq, ha⟩ := at_ex h0 h1 mk m1 m2 m3 m4 m5 m6 (by omega)
  have hk : (⟨bxF, [0, 2], 0⟩ : Known).Ok (IL W l0 l1) (envOf [mk, m1, m2, m3, m4, m5, m6, qx, qy] []) := by
    refine draws_ok (n := 0) (fun p hp => ?_) (fun _ h => absurd h (Nat.not_lt_zero _))
    rcases List.mem_append.1 hp with hp | hp
    · simp only [List.mem_cons, List.not_mem_nil, or_false] at hp
      rcases hp with rfl | rfl | rfl
      · exact decide_eq_true (on_a hok)
      · exact decide_eq_true (on_b hok)
      · refine B.eq_t.2 ?_
        have := ray_right (k := mk) (ax := m1) (ay := m2) (bx := m3) (by' := m4) (cx := m5) (cy := m6) (py := qy)
        rw [← ev_max] at this
        exact this
    · exact bd_ok hb hq p hp
  have key : (boxesT).vc (IL W l0 l1) (envOf [mk, m1, m2, m3, m4, m5, m6, qx, qy] []) (fun v => v.wf 0 = true ∧ v.den (IL W l0 l1) (envOf [mk, m1, m2, m3, m4, m5, m6, qx, qy] []) id = .bool true) := ?key
  · have h' := @calls_litD Try.prog (IL W l0 l1) (envOf [mk, m1, m2, m3, m4, m5, m6, qx, qy] []) mixed nocount ctX (ctX_ok h0 h1 _ hm ha) 20 8 [.c (.abs 0 .nil), .c (.abs 1 .nil)] ⟨bxF, [0, 2], 0⟩ boxesT W (.bool true) (hyp_fixed rfl) hk rfl boxes_tree key
    exact h'
  unfold boxesT
  repeat' (first | refine And.intro ?_ ?_ | intro _)
  all_goals first | rfl | skip
  all_goals
    first | refine yes_eq ?_ | exfalso
    all_goals
      simp only [B.lt_t, B.lt_f, B.eq_t, B.eq_f, B.den_var, B.den_lit, B.den_not, B.den_and, B.den_iff, T.den_lit, T.den_var, T.den_wrap, T.den_bin, ev_add, ev_sub, ev_mul, ev_quo, ev_rem, ev_max, ev_min, envOf, List.getD_cons_zero, List.getD_cons_succ, w64, T.den_app, B.den_app, T.dens_cons, T.dens_nil, il_fi, il_fb, fb0, fi0, fi2, fi4, fi5, fi6, fi7, fi8, fi9, fi10, tl, decide_eq_true_eq, decide_eq_false_iff_not, Int.reduceToNat] at *
      have A4 := ray_left (py := qy) hok
      have A6 := ray_mid (k := mk) (ax := m1) (ay := m2) (bx := m3) (by' := m4) (cx := m5) (cy := m6) (px := qx) (py := qy)
      first | omega | (have A3 := (‹onP mk m1 m2 m3 m4 m5 m6 qx qy›).2.1; unfold boxP at A3; omega)
end Go.Proofs.Ytpmdmcdjhibblaa.Sx
