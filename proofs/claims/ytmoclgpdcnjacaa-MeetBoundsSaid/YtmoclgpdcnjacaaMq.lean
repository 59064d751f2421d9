/- MeetBounds: how many common points edges can have. -/
import Derived.Test.YtmoclgpdcnjacaaMj
import Derived.Test.YtmoclgpdcnjacaaMk
set_option linter.all false
namespace Go.Proofs.Ytmoclgpdcnjacaa.Sx
open Go Go.RowKit

def bndT : Tree V :=
 (.node (.eq (.var 0) (.lit 1))
  (.node (.lt (.app 12 (.cons (.var 0) (.cons (.var 1) (.cons (.var 2) (.cons (.var 3) (.cons (.var 4) (.cons (.var 5) (.cons (.var 6) (.cons (.var 7) (.cons (.var 8) (.cons (.var 9) (.cons (.var 10) (.cons (.var 11) (.cons (.var 12) (.cons (.var 13) .nil))))))))))))))) (.lit (-1)))
   (.leaf (.c (.bool (.lit false))))
   (.node (.lt (.lit 2) (.app 12 (.cons (.var 0) (.cons (.var 1) (.cons (.var 2) (.cons (.var 3) (.cons (.var 4) (.cons (.var 5) (.cons (.var 6) (.cons (.var 7) (.cons (.var 8) (.cons (.var 9) (.cons (.var 10) (.cons (.var 11) (.cons (.var 12) (.cons (.var 13) .nil))))))))))))))))
    (.leaf (.c (.bool (.lit false))))
    (.node (.eq (.var 7) (.lit 1))
     (.node (.lt (.lit 1) (.app 12 (.cons (.var 0) (.cons (.var 1) (.cons (.var 2) (.cons (.var 3) (.cons (.var 4) (.cons (.var 5) (.cons (.var 6) (.cons (.var 7) (.cons (.var 8) (.cons (.var 9) (.cons (.var 10) (.cons (.var 11) (.cons (.var 12) (.cons (.var 13) .nil))))))))))))))))
      (.leaf (.c (.bool (.lit false))))
      (.node (.eq (.var 1) (.var 3))
       (.node (.eq (.var 2) (.var 4))
        (.leaf (.c (.bool (.eq (.app 12 (.cons (.var 0) (.cons (.var 1) (.cons (.var 2) (.cons (.var 3) (.cons (.var 4) (.cons (.var 5) (.cons (.var 6) (.cons (.var 0) (.cons (.var 1) (.cons (.var 2) (.cons (.var 3) (.cons (.var 4) (.cons (.var 5) (.cons (.var 6) .nil))))))))))))))) (.lit 1)))))
        (.leaf (.c (.bool (.eq (.app 12 (.cons (.var 0) (.cons (.var 1) (.cons (.var 2) (.cons (.var 3) (.cons (.var 4) (.cons (.var 5) (.cons (.var 6) (.cons (.var 0) (.cons (.var 1) (.cons (.var 2) (.cons (.var 3) (.cons (.var 4) (.cons (.var 5) (.cons (.var 6) .nil))))))))))))))) (.lit (-1)))))))
       (.leaf (.c (.bool (.eq (.app 12 (.cons (.var 0) (.cons (.var 1) (.cons (.var 2) (.cons (.var 3) (.cons (.var 4) (.cons (.var 5) (.cons (.var 6) (.cons (.var 0) (.cons (.var 1) (.cons (.var 2) (.cons (.var 3) (.cons (.var 4) (.cons (.var 5) (.cons (.var 6) .nil))))))))))))))) (.lit (-1))))))))
     (.node (.lt (.app 12 (.cons (.var 0) (.cons (.var 1) (.cons (.var 2) (.cons (.var 3) (.cons (.var 4) (.cons (.var 5) (.cons (.var 6) (.cons (.var 7) (.cons (.var 8) (.cons (.var 9) (.cons (.var 10) (.cons (.var 11) (.cons (.var 12) (.cons (.var 13) .nil))))))))))))))) (.lit 0))
      (.leaf (.c (.bool (.lit false))))
      (.node (.eq (.var 1) (.var 3))
       (.node (.eq (.var 2) (.var 4))
        (.leaf (.c (.bool (.eq (.app 12 (.cons (.var 0) (.cons (.var 1) (.cons (.var 2) (.cons (.var 3) (.cons (.var 4) (.cons (.var 5) (.cons (.var 6) (.cons (.var 0) (.cons (.var 1) (.cons (.var 2) (.cons (.var 3) (.cons (.var 4) (.cons (.var 5) (.cons (.var 6) .nil))))))))))))))) (.lit 1)))))
        (.leaf (.c (.bool (.eq (.app 12 (.cons (.var 0) (.cons (.var 1) (.cons (.var 2) (.cons (.var 3) (.cons (.var 4) (.cons (.var 5) (.cons (.var 6) (.cons (.var 0) (.cons (.var 1) (.cons (.var 2) (.cons (.var 3) (.cons (.var 4) (.cons (.var 5) (.cons (.var 6) .nil))))))))))))))) (.lit (-1)))))))
       (.leaf (.c (.bool (.eq (.app 12 (.cons (.var 0) (.cons (.var 1) (.cons (.var 2) (.cons (.var 3) (.cons (.var 4) (.cons (.var 5) (.cons (.var 6) (.cons (.var 0) (.cons (.var 1) (.cons (.var 2) (.cons (.var 3) (.cons (.var 4) (.cons (.var 5) (.cons (.var 6) .nil))))))))))))))) (.lit (-1)))))))))))
  (.node (.eq (.var 7) (.lit 1))
   (.node (.lt (.app 12 (.cons (.var 0) (.cons (.var 1) (.cons (.var 2) (.cons (.var 3) (.cons (.var 4) (.cons (.var 5) (.cons (.var 6) (.cons (.var 7) (.cons (.var 8) (.cons (.var 9) (.cons (.var 10) (.cons (.var 11) (.cons (.var 12) (.cons (.var 13) .nil))))))))))))))) (.lit (-1)))
    (.leaf (.c (.bool (.lit false))))
    (.node (.lt (.lit 2) (.app 12 (.cons (.var 0) (.cons (.var 1) (.cons (.var 2) (.cons (.var 3) (.cons (.var 4) (.cons (.var 5) (.cons (.var 6) (.cons (.var 7) (.cons (.var 8) (.cons (.var 9) (.cons (.var 10) (.cons (.var 11) (.cons (.var 12) (.cons (.var 13) .nil))))))))))))))))
     (.leaf (.c (.bool (.lit false))))
     (.node (.lt (.app 12 (.cons (.var 0) (.cons (.var 1) (.cons (.var 2) (.cons (.var 3) (.cons (.var 4) (.cons (.var 5) (.cons (.var 6) (.cons (.var 7) (.cons (.var 8) (.cons (.var 9) (.cons (.var 10) (.cons (.var 11) (.cons (.var 12) (.cons (.var 13) .nil))))))))))))))) (.lit 0))
      (.leaf (.c (.bool (.lit false))))
      (.node (.eq (.var 1) (.var 3))
       (.node (.eq (.var 2) (.var 4))
        (.leaf (.c (.bool (.eq (.app 12 (.cons (.var 0) (.cons (.var 1) (.cons (.var 2) (.cons (.var 3) (.cons (.var 4) (.cons (.var 5) (.cons (.var 6) (.cons (.var 0) (.cons (.var 1) (.cons (.var 2) (.cons (.var 3) (.cons (.var 4) (.cons (.var 5) (.cons (.var 6) .nil))))))))))))))) (.lit 1)))))
        (.leaf (.c (.bool (.eq (.app 12 (.cons (.var 0) (.cons (.var 1) (.cons (.var 2) (.cons (.var 3) (.cons (.var 4) (.cons (.var 5) (.cons (.var 6) (.cons (.var 0) (.cons (.var 1) (.cons (.var 2) (.cons (.var 3) (.cons (.var 4) (.cons (.var 5) (.cons (.var 6) .nil))))))))))))))) (.lit (-1)))))))
       (.leaf (.c (.bool (.eq (.app 12 (.cons (.var 0) (.cons (.var 1) (.cons (.var 2) (.cons (.var 3) (.cons (.var 4) (.cons (.var 5) (.cons (.var 6) (.cons (.var 0) (.cons (.var 1) (.cons (.var 2) (.cons (.var 3) (.cons (.var 4) (.cons (.var 5) (.cons (.var 6) .nil))))))))))))))) (.lit (-1))))))))))
   (.node (.eq (.var 5) (.var 12))
    (.node (.eq (.var 6) (.var 13))
     (.node (.lt (.app 12 (.cons (.var 0) (.cons (.var 1) (.cons (.var 2) (.cons (.var 3) (.cons (.var 4) (.cons (.var 5) (.cons (.var 6) (.cons (.var 7) (.cons (.var 8) (.cons (.var 9) (.cons (.var 10) (.cons (.var 11) (.cons (.var 12) (.cons (.var 13) .nil))))))))))))))) (.lit (-1)))
      (.leaf (.c (.bool (.lit false))))
      (.node (.lt (.lit 2) (.app 12 (.cons (.var 0) (.cons (.var 1) (.cons (.var 2) (.cons (.var 3) (.cons (.var 4) (.cons (.var 5) (.cons (.var 6) (.cons (.var 7) (.cons (.var 8) (.cons (.var 9) (.cons (.var 10) (.cons (.var 11) (.cons (.var 12) (.cons (.var 13) .nil))))))))))))))))
       (.leaf (.c (.bool (.lit false))))
       (.node (.eq (.app 5 (.cons (.var 0) (.cons (.var 1) (.cons (.var 2) (.cons (.var 3) (.cons (.var 4) (.cons (.var 5) (.cons (.var 6) .nil)))))))) (.app 5 (.cons (.var 7) (.cons (.var 8) (.cons (.var 9) (.cons (.var 10) (.cons (.var 11) (.cons (.var 12) (.cons (.var 13) .nil)))))))))
        (.node (.lt (.lit 1) (.app 12 (.cons (.var 0) (.cons (.var 1) (.cons (.var 2) (.cons (.var 3) (.cons (.var 4) (.cons (.var 5) (.cons (.var 6) (.cons (.var 7) (.cons (.var 8) (.cons (.var 9) (.cons (.var 10) (.cons (.var 11) (.cons (.var 12) (.cons (.var 13) .nil))))))))))))))))
         (.leaf (.c (.bool (.lit false))))
         (.node (.eq (.var 1) (.var 3))
          (.node (.eq (.var 2) (.var 4))
           (.leaf (.c (.bool (.eq (.app 12 (.cons (.var 0) (.cons (.var 1) (.cons (.var 2) (.cons (.var 3) (.cons (.var 4) (.cons (.var 5) (.cons (.var 6) (.cons (.var 0) (.cons (.var 1) (.cons (.var 2) (.cons (.var 3) (.cons (.var 4) (.cons (.var 5) (.cons (.var 6) .nil))))))))))))))) (.lit 1)))))
           (.leaf (.c (.bool (.eq (.app 12 (.cons (.var 0) (.cons (.var 1) (.cons (.var 2) (.cons (.var 3) (.cons (.var 4) (.cons (.var 5) (.cons (.var 6) (.cons (.var 0) (.cons (.var 1) (.cons (.var 2) (.cons (.var 3) (.cons (.var 4) (.cons (.var 5) (.cons (.var 6) .nil))))))))))))))) (.lit (-1)))))))
          (.leaf (.c (.bool (.eq (.app 12 (.cons (.var 0) (.cons (.var 1) (.cons (.var 2) (.cons (.var 3) (.cons (.var 4) (.cons (.var 5) (.cons (.var 6) (.cons (.var 0) (.cons (.var 1) (.cons (.var 2) (.cons (.var 3) (.cons (.var 4) (.cons (.var 5) (.cons (.var 6) .nil))))))))))))))) (.lit (-1))))))))
        (.node (.lt (.app 12 (.cons (.var 0) (.cons (.var 1) (.cons (.var 2) (.cons (.var 3) (.cons (.var 4) (.cons (.var 5) (.cons (.var 6) (.cons (.var 7) (.cons (.var 8) (.cons (.var 9) (.cons (.var 10) (.cons (.var 11) (.cons (.var 12) (.cons (.var 13) .nil))))))))))))))) (.lit 0))
         (.leaf (.c (.bool (.lit false))))
         (.node (.eq (.var 1) (.var 3))
          (.node (.eq (.var 2) (.var 4))
           (.leaf (.c (.bool (.eq (.app 12 (.cons (.var 0) (.cons (.var 1) (.cons (.var 2) (.cons (.var 3) (.cons (.var 4) (.cons (.var 5) (.cons (.var 6) (.cons (.var 0) (.cons (.var 1) (.cons (.var 2) (.cons (.var 3) (.cons (.var 4) (.cons (.var 5) (.cons (.var 6) .nil))))))))))))))) (.lit 1)))))
           (.leaf (.c (.bool (.eq (.app 12 (.cons (.var 0) (.cons (.var 1) (.cons (.var 2) (.cons (.var 3) (.cons (.var 4) (.cons (.var 5) (.cons (.var 6) (.cons (.var 0) (.cons (.var 1) (.cons (.var 2) (.cons (.var 3) (.cons (.var 4) (.cons (.var 5) (.cons (.var 6) .nil))))))))))))))) (.lit (-1)))))))
          (.leaf (.c (.bool (.eq (.app 12 (.cons (.var 0) (.cons (.var 1) (.cons (.var 2) (.cons (.var 3) (.cons (.var 4) (.cons (.var 5) (.cons (.var 6) (.cons (.var 0) (.cons (.var 1) (.cons (.var 2) (.cons (.var 3) (.cons (.var 4) (.cons (.var 5) (.cons (.var 6) .nil))))))))))))))) (.lit (-1)))))))))))
     (.node (.lt (.app 12 (.cons (.var 0) (.cons (.var 1) (.cons (.var 2) (.cons (.var 3) (.cons (.var 4) (.cons (.var 5) (.cons (.var 6) (.cons (.var 7) (.cons (.var 8) (.cons (.var 9) (.cons (.var 10) (.cons (.var 11) (.cons (.var 12) (.cons (.var 13) .nil))))))))))))))) (.lit (-1)))
      (.leaf (.c (.bool (.lit false))))
      (.node (.lt (.lit 2) (.app 12 (.cons (.var 0) (.cons (.var 1) (.cons (.var 2) (.cons (.var 3) (.cons (.var 4) (.cons (.var 5) (.cons (.var 6) (.cons (.var 7) (.cons (.var 8) (.cons (.var 9) (.cons (.var 10) (.cons (.var 11) (.cons (.var 12) (.cons (.var 13) .nil))))))))))))))))
       (.leaf (.c (.bool (.lit false))))
       (.node (.lt (.app 12 (.cons (.var 0) (.cons (.var 1) (.cons (.var 2) (.cons (.var 3) (.cons (.var 4) (.cons (.var 5) (.cons (.var 6) (.cons (.var 7) (.cons (.var 8) (.cons (.var 9) (.cons (.var 10) (.cons (.var 11) (.cons (.var 12) (.cons (.var 13) .nil))))))))))))))) (.lit 0))
        (.leaf (.c (.bool (.lit false))))
        (.node (.eq (.var 1) (.var 3))
         (.node (.eq (.var 2) (.var 4))
          (.leaf (.c (.bool (.eq (.app 12 (.cons (.var 0) (.cons (.var 1) (.cons (.var 2) (.cons (.var 3) (.cons (.var 4) (.cons (.var 5) (.cons (.var 6) (.cons (.var 0) (.cons (.var 1) (.cons (.var 2) (.cons (.var 3) (.cons (.var 4) (.cons (.var 5) (.cons (.var 6) .nil))))))))))))))) (.lit 1)))))
          (.leaf (.c (.bool (.eq (.app 12 (.cons (.var 0) (.cons (.var 1) (.cons (.var 2) (.cons (.var 3) (.cons (.var 4) (.cons (.var 5) (.cons (.var 6) (.cons (.var 0) (.cons (.var 1) (.cons (.var 2) (.cons (.var 3) (.cons (.var 4) (.cons (.var 5) (.cons (.var 6) .nil))))))))))))))) (.lit (-1)))))))
         (.leaf (.c (.bool (.eq (.app 12 (.cons (.var 0) (.cons (.var 1) (.cons (.var 2) (.cons (.var 3) (.cons (.var 4) (.cons (.var 5) (.cons (.var 6) (.cons (.var 0) (.cons (.var 1) (.cons (.var 2) (.cons (.var 3) (.cons (.var 4) (.cons (.var 5) (.cons (.var 6) .nil))))))))))))))) (.lit (-1)))))))))))
    (.node (.lt (.app 12 (.cons (.var 0) (.cons (.var 1) (.cons (.var 2) (.cons (.var 3) (.cons (.var 4) (.cons (.var 5) (.cons (.var 6) (.cons (.var 7) (.cons (.var 8) (.cons (.var 9) (.cons (.var 10) (.cons (.var 11) (.cons (.var 12) (.cons (.var 13) .nil))))))))))))))) (.lit (-1)))
     (.leaf (.c (.bool (.lit false))))
     (.node (.lt (.lit 2) (.app 12 (.cons (.var 0) (.cons (.var 1) (.cons (.var 2) (.cons (.var 3) (.cons (.var 4) (.cons (.var 5) (.cons (.var 6) (.cons (.var 7) (.cons (.var 8) (.cons (.var 9) (.cons (.var 10) (.cons (.var 11) (.cons (.var 12) (.cons (.var 13) .nil))))))))))))))))
      (.leaf (.c (.bool (.lit false))))
      (.node (.lt (.app 12 (.cons (.var 0) (.cons (.var 1) (.cons (.var 2) (.cons (.var 3) (.cons (.var 4) (.cons (.var 5) (.cons (.var 6) (.cons (.var 7) (.cons (.var 8) (.cons (.var 9) (.cons (.var 10) (.cons (.var 11) (.cons (.var 12) (.cons (.var 13) .nil))))))))))))))) (.lit 0))
       (.leaf (.c (.bool (.lit false))))
       (.node (.eq (.var 1) (.var 3))
        (.node (.eq (.var 2) (.var 4))
         (.leaf (.c (.bool (.eq (.app 12 (.cons (.var 0) (.cons (.var 1) (.cons (.var 2) (.cons (.var 3) (.cons (.var 4) (.cons (.var 5) (.cons (.var 6) (.cons (.var 0) (.cons (.var 1) (.cons (.var 2) (.cons (.var 3) (.cons (.var 4) (.cons (.var 5) (.cons (.var 6) .nil))))))))))))))) (.lit 1)))))
         (.leaf (.c (.bool (.eq (.app 12 (.cons (.var 0) (.cons (.var 1) (.cons (.var 2) (.cons (.var 3) (.cons (.var 4) (.cons (.var 5) (.cons (.var 6) (.cons (.var 0) (.cons (.var 1) (.cons (.var 2) (.cons (.var 3) (.cons (.var 4) (.cons (.var 5) (.cons (.var 6) .nil))))))))))))))) (.lit (-1)))))))
        (.leaf (.c (.bool (.eq (.app 12 (.cons (.var 0) (.cons (.var 1) (.cons (.var 2) (.cons (.var 3) (.cons (.var 4) (.cons (.var 5) (.cons (.var 6) (.cons (.var 0) (.cons (.var 1) (.cons (.var 2) (.cons (.var 3) (.cons (.var 4) (.cons (.var 5) (.cons (.var 6) .nil))))))))))))))) (.lit (-1)))))))))))))
set_option maxRecDepth 1000000 in
theorem bnd_tree : vals (execF Try.prog ctD 20 4 [.c (.abs 0 .nil), .c (.abs 1 .nil)] ⟨[], 0, ⟨bdF, [0, 2], 0⟩⟩) = bndT := by kernel_rfl
set_option maxRecDepth 100000 in
set_option maxHeartbeats 20000000 in
theorem meetBounds_law (l0 l1 : Ls) (W : World) (h0 : l0.Ok W) (h1 : l1.Ok W) :
    Calls Try.prog 4 #[l0.v, l1.v] W (fun e w' => e = .returned (.bool true) ∧ Below W.heap.size W w') := by
  obtain ⟨k, ax, ay, bx, by', cx, cy, k2, px, py, qx, qy, rx, ry, hb, hb2, hent⟩ := two_ex h0 h1
  have c1 := count_in hb.1 hb2.1
  have c2 := count_self hb.1
  have hA := hb.1
  have hk1 := hb.1.1
  have c3 : ax = bx → ay = by' → countZ k ax ay bx by' cx cy k ax ay bx by' cx cy = 1 := fun e1 e2 => by rw [c2, if_pos ⟨e1, e2⟩]
  have c4 : ax ≠ bx ∨ ay ≠ by' → countZ k ax ay bx by' cx cy k ax ay bx by' cx cy = -1 := fun e => by rw [c2, if_neg (by omega)]
  clear c2
  have key : (bndT).vc (IL W l0 l1) (envOf [k, ax, ay, bx, by', cx, cy, k2, px, py, qx, qy, rx, ry] []) (fun v => v.wf 0 = true ∧ v.den (IL W l0 l1) (envOf [k, ax, ay, bx, by', cx, cy, k2, px, py, qx, qy, rx, ry] []) id = .bool true) := ?key
  · have h' := @calls_litD Try.prog (IL W l0 l1) (envOf [k, ax, ay, bx, by', cx, cy, k2, px, py, qx, qy, rx, ry] []) mixed nocount ctD (ctOr_ok (ctL_ok (hent _ _ rfl)) (ctM_ok h0 h1 _)) 20 4 [.c (.abs 0 .nil), .c (.abs 1 .nil)] ⟨bdF, [0, 2], 0⟩ bndT W (.bool true) (hyp_fixed rfl) (draws_ok (n := 0) (bdF_ok hb hb2) (fun _ h => absurd h (Nat.not_lt_zero _))) rfl bnd_tree key
    exact h'
  unfold bndT
  repeat' (first | refine And.intro ?_ ?_ | intro _)
  all_goals first | rfl | skip
  all_goals
    first | refine yes_eq ?_ | exfalso
    all_goals
      simp only [B.lt_t, B.lt_f, B.eq_t, B.eq_f, B.den_var, B.den_lit, B.den_not, B.den_and, B.den_iff, T.den_lit, T.den_var, T.den_wrap, T.den_bin, ev_add, ev_sub, ev_mul, ev_quo, ev_rem, ev_max, ev_min, envOf, List.getD_cons_zero, List.getD_cons_succ, w64, T.den_app, B.den_app, T.dens_cons, T.dens_nil, il_fi, il_fb, fb0, fi0, fi2, fi4, fi5, fi7, fi8, fi9, fi10, fi12, tlM, decide_eq_true_eq, decide_eq_false_iff_not, Int.reduceToNat] at *
      obtain ⟨c1, c5, c6, c7, c8⟩ := c1
      omega
end Go.Proofs.Ytmoclgpdcnjacaa.Sx
