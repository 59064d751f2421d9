/- MeetEnds: edges meet at ends; points as edges. -/
import Derived.Test.YtmoclgpdcnjacaaMj
import Derived.Test.YtmoclgpdcnjacaaMk
import Derived.Test.YtmoclgpdcnjacaaMn
set_option linter.all false
namespace Go.Proofs.Ytmoclgpdcnjacaa.Sx
open Go Go.RowKit

def endsT : Tree V :=
 (.node (.eq (.var 7) (.lit 1))
  (.node (.app 0 (.cons (.var 0) (.cons (.var 1) (.cons (.var 2) (.cons (.var 3) (.cons (.var 4) (.cons (.var 5) (.cons (.var 6) (.cons (.bin .rem (.bin .add (.bin .rem (.var 14) (.lit 25)) (.lit 25)) (.lit 25)) (.cons (.bin .rem (.bin .add (.bin .rem (.var 15) (.lit 25)) (.lit 25)) (.lit 25)) .nil))))))))))
   (.node (.eq (.app 12 (.cons (.var 0) (.cons (.var 1) (.cons (.var 2) (.cons (.var 3) (.cons (.var 4) (.cons (.var 5) (.cons (.var 6) (.cons (.var 7) (.cons (.bin .add (.var 8) (.bin .sub (.var 3) (.var 8))) (.cons (.bin .add (.var 9) (.bin .sub (.var 4) (.var 9))) (.cons (.bin .add (.var 10) (.bin .sub (.var 3) (.var 8))) (.cons (.bin .add (.var 11) (.bin .sub (.var 4) (.var 9))) (.cons (.var 12) (.cons (.var 13) .nil))))))))))))))) (.lit 0))
    (.leaf (.c (.bool (.lit false))))
    (.node (.eq (.app 12 (.cons (.var 0) (.cons (.var 1) (.cons (.var 2) (.cons (.var 3) (.cons (.var 4) (.cons (.var 5) (.cons (.var 6) (.cons (.lit 1) (.cons (.bin .rem (.bin .add (.bin .rem (.var 14) (.lit 25)) (.lit 25)) (.lit 25)) (.cons (.bin .rem (.bin .add (.bin .rem (.var 15) (.lit 25)) (.lit 25)) (.lit 25)) (.cons (.bin .rem (.bin .add (.bin .rem (.var 14) (.lit 25)) (.lit 25)) (.lit 25)) (.cons (.bin .rem (.bin .add (.bin .rem (.var 15) (.lit 25)) (.lit 25)) (.lit 25)) (.cons (.lit 0) (.cons (.lit 0) .nil))))))))))))))) (.lit 1))
     (.node (.eq (.app 12 (.cons (.lit 1) (.cons (.bin .rem (.bin .add (.bin .rem (.var 14) (.lit 25)) (.lit 25)) (.lit 25)) (.cons (.bin .rem (.bin .add (.bin .rem (.var 15) (.lit 25)) (.lit 25)) (.lit 25)) (.cons (.bin .rem (.bin .add (.bin .rem (.var 14) (.lit 25)) (.lit 25)) (.lit 25)) (.cons (.bin .rem (.bin .add (.bin .rem (.var 15) (.lit 25)) (.lit 25)) (.lit 25)) (.cons (.lit 0) (.cons (.lit 0) (.cons (.lit 1) (.cons (.bin .rem (.bin .add (.bin .rem (.var 14) (.lit 25)) (.lit 25)) (.lit 25)) (.cons (.bin .rem (.bin .add (.bin .rem (.var 15) (.lit 25)) (.lit 25)) (.lit 25)) (.cons (.bin .rem (.bin .add (.bin .rem (.var 14) (.lit 25)) (.lit 25)) (.lit 25)) (.cons (.bin .rem (.bin .add (.bin .rem (.var 15) (.lit 25)) (.lit 25)) (.lit 25)) (.cons (.lit 0) (.cons (.lit 0) .nil))))))))))))))) (.lit 1))
      (.leaf (.c (.bool (.not (.eq (.app 12 (.cons (.var 0) (.cons (.var 1) (.cons (.var 2) (.cons (.var 3) (.cons (.var 4) (.cons (.var 5) (.cons (.var 6) (.cons (.lit 1) (.cons (.var 1) (.cons (.var 2) (.cons (.var 1) (.cons (.var 2) (.cons (.lit 0) (.cons (.lit 0) .nil))))))))))))))) (.lit 0))))))
      (.leaf (.c (.bool (.lit false)))))
     (.leaf (.c (.bool (.lit false))))))
   (.node (.eq (.app 12 (.cons (.var 0) (.cons (.var 1) (.cons (.var 2) (.cons (.var 3) (.cons (.var 4) (.cons (.var 5) (.cons (.var 6) (.cons (.var 7) (.cons (.bin .add (.var 8) (.bin .sub (.var 3) (.var 8))) (.cons (.bin .add (.var 9) (.bin .sub (.var 4) (.var 9))) (.cons (.bin .add (.var 10) (.bin .sub (.var 3) (.var 8))) (.cons (.bin .add (.var 11) (.bin .sub (.var 4) (.var 9))) (.cons (.var 12) (.cons (.var 13) .nil))))))))))))))) (.lit 0))
    (.leaf (.c (.bool (.lit false))))
    (.node (.eq (.app 12 (.cons (.var 0) (.cons (.var 1) (.cons (.var 2) (.cons (.var 3) (.cons (.var 4) (.cons (.var 5) (.cons (.var 6) (.cons (.lit 1) (.cons (.bin .rem (.bin .add (.bin .rem (.var 14) (.lit 25)) (.lit 25)) (.lit 25)) (.cons (.bin .rem (.bin .add (.bin .rem (.var 15) (.lit 25)) (.lit 25)) (.lit 25)) (.cons (.bin .rem (.bin .add (.bin .rem (.var 14) (.lit 25)) (.lit 25)) (.lit 25)) (.cons (.bin .rem (.bin .add (.bin .rem (.var 15) (.lit 25)) (.lit 25)) (.lit 25)) (.cons (.lit 0) (.cons (.lit 0) .nil))))))))))))))) (.lit 0))
     (.node (.eq (.app 12 (.cons (.lit 1) (.cons (.bin .rem (.bin .add (.bin .rem (.var 14) (.lit 25)) (.lit 25)) (.lit 25)) (.cons (.bin .rem (.bin .add (.bin .rem (.var 15) (.lit 25)) (.lit 25)) (.lit 25)) (.cons (.bin .rem (.bin .add (.bin .rem (.var 14) (.lit 25)) (.lit 25)) (.lit 25)) (.cons (.bin .rem (.bin .add (.bin .rem (.var 15) (.lit 25)) (.lit 25)) (.lit 25)) (.cons (.lit 0) (.cons (.lit 0) (.cons (.lit 1) (.cons (.bin .rem (.bin .add (.bin .rem (.var 14) (.lit 25)) (.lit 25)) (.lit 25)) (.cons (.bin .rem (.bin .add (.bin .rem (.var 15) (.lit 25)) (.lit 25)) (.lit 25)) (.cons (.bin .rem (.bin .add (.bin .rem (.var 14) (.lit 25)) (.lit 25)) (.lit 25)) (.cons (.bin .rem (.bin .add (.bin .rem (.var 15) (.lit 25)) (.lit 25)) (.lit 25)) (.cons (.lit 0) (.cons (.lit 0) .nil))))))))))))))) (.lit 1))
      (.leaf (.c (.bool (.not (.eq (.app 12 (.cons (.var 0) (.cons (.var 1) (.cons (.var 2) (.cons (.var 3) (.cons (.var 4) (.cons (.var 5) (.cons (.var 6) (.cons (.lit 1) (.cons (.var 1) (.cons (.var 2) (.cons (.var 1) (.cons (.var 2) (.cons (.lit 0) (.cons (.lit 0) .nil))))))))))))))) (.lit 0))))))
      (.leaf (.c (.bool (.lit false)))))
     (.leaf (.c (.bool (.lit false)))))))
  (.node (.app 0 (.cons (.var 0) (.cons (.var 1) (.cons (.var 2) (.cons (.var 3) (.cons (.var 4) (.cons (.var 5) (.cons (.var 6) (.cons (.bin .rem (.bin .add (.bin .rem (.var 14) (.lit 25)) (.lit 25)) (.lit 25)) (.cons (.bin .rem (.bin .add (.bin .rem (.var 15) (.lit 25)) (.lit 25)) (.lit 25)) .nil))))))))))
   (.node (.eq (.app 12 (.cons (.var 0) (.cons (.var 1) (.cons (.var 2) (.cons (.var 3) (.cons (.var 4) (.cons (.var 5) (.cons (.var 6) (.cons (.var 7) (.cons (.bin .add (.var 8) (.bin .sub (.var 3) (.var 8))) (.cons (.bin .add (.var 9) (.bin .sub (.var 4) (.var 9))) (.cons (.bin .add (.var 10) (.bin .sub (.var 3) (.var 8))) (.cons (.bin .add (.var 11) (.bin .sub (.var 4) (.var 9))) (.cons (.bin .add (.var 12) (.bin .sub (.var 3) (.var 8))) (.cons (.bin .add (.var 13) (.bin .sub (.var 4) (.var 9))) .nil))))))))))))))) (.lit 0))
    (.leaf (.c (.bool (.lit false))))
    (.node (.eq (.app 12 (.cons (.var 0) (.cons (.var 1) (.cons (.var 2) (.cons (.var 3) (.cons (.var 4) (.cons (.var 5) (.cons (.var 6) (.cons (.lit 1) (.cons (.bin .rem (.bin .add (.bin .rem (.var 14) (.lit 25)) (.lit 25)) (.lit 25)) (.cons (.bin .rem (.bin .add (.bin .rem (.var 15) (.lit 25)) (.lit 25)) (.lit 25)) (.cons (.bin .rem (.bin .add (.bin .rem (.var 14) (.lit 25)) (.lit 25)) (.lit 25)) (.cons (.bin .rem (.bin .add (.bin .rem (.var 15) (.lit 25)) (.lit 25)) (.lit 25)) (.cons (.lit 0) (.cons (.lit 0) .nil))))))))))))))) (.lit 1))
     (.node (.eq (.app 12 (.cons (.lit 1) (.cons (.bin .rem (.bin .add (.bin .rem (.var 14) (.lit 25)) (.lit 25)) (.lit 25)) (.cons (.bin .rem (.bin .add (.bin .rem (.var 15) (.lit 25)) (.lit 25)) (.lit 25)) (.cons (.bin .rem (.bin .add (.bin .rem (.var 14) (.lit 25)) (.lit 25)) (.lit 25)) (.cons (.bin .rem (.bin .add (.bin .rem (.var 15) (.lit 25)) (.lit 25)) (.lit 25)) (.cons (.lit 0) (.cons (.lit 0) (.cons (.lit 1) (.cons (.bin .rem (.bin .add (.bin .rem (.var 14) (.lit 25)) (.lit 25)) (.lit 25)) (.cons (.bin .rem (.bin .add (.bin .rem (.var 15) (.lit 25)) (.lit 25)) (.lit 25)) (.cons (.bin .rem (.bin .add (.bin .rem (.var 14) (.lit 25)) (.lit 25)) (.lit 25)) (.cons (.bin .rem (.bin .add (.bin .rem (.var 15) (.lit 25)) (.lit 25)) (.lit 25)) (.cons (.lit 0) (.cons (.lit 0) .nil))))))))))))))) (.lit 1))
      (.leaf (.c (.bool (.not (.eq (.app 12 (.cons (.var 0) (.cons (.var 1) (.cons (.var 2) (.cons (.var 3) (.cons (.var 4) (.cons (.var 5) (.cons (.var 6) (.cons (.lit 1) (.cons (.var 1) (.cons (.var 2) (.cons (.var 1) (.cons (.var 2) (.cons (.lit 0) (.cons (.lit 0) .nil))))))))))))))) (.lit 0))))))
      (.leaf (.c (.bool (.lit false)))))
     (.leaf (.c (.bool (.lit false))))))
   (.node (.eq (.app 12 (.cons (.var 0) (.cons (.var 1) (.cons (.var 2) (.cons (.var 3) (.cons (.var 4) (.cons (.var 5) (.cons (.var 6) (.cons (.var 7) (.cons (.bin .add (.var 8) (.bin .sub (.var 3) (.var 8))) (.cons (.bin .add (.var 9) (.bin .sub (.var 4) (.var 9))) (.cons (.bin .add (.var 10) (.bin .sub (.var 3) (.var 8))) (.cons (.bin .add (.var 11) (.bin .sub (.var 4) (.var 9))) (.cons (.bin .add (.var 12) (.bin .sub (.var 3) (.var 8))) (.cons (.bin .add (.var 13) (.bin .sub (.var 4) (.var 9))) .nil))))))))))))))) (.lit 0))
    (.leaf (.c (.bool (.lit false))))
    (.node (.eq (.app 12 (.cons (.var 0) (.cons (.var 1) (.cons (.var 2) (.cons (.var 3) (.cons (.var 4) (.cons (.var 5) (.cons (.var 6) (.cons (.lit 1) (.cons (.bin .rem (.bin .add (.bin .rem (.var 14) (.lit 25)) (.lit 25)) (.lit 25)) (.cons (.bin .rem (.bin .add (.bin .rem (.var 15) (.lit 25)) (.lit 25)) (.lit 25)) (.cons (.bin .rem (.bin .add (.bin .rem (.var 14) (.lit 25)) (.lit 25)) (.lit 25)) (.cons (.bin .rem (.bin .add (.bin .rem (.var 15) (.lit 25)) (.lit 25)) (.lit 25)) (.cons (.lit 0) (.cons (.lit 0) .nil))))))))))))))) (.lit 0))
     (.node (.eq (.app 12 (.cons (.lit 1) (.cons (.bin .rem (.bin .add (.bin .rem (.var 14) (.lit 25)) (.lit 25)) (.lit 25)) (.cons (.bin .rem (.bin .add (.bin .rem (.var 15) (.lit 25)) (.lit 25)) (.lit 25)) (.cons (.bin .rem (.bin .add (.bin .rem (.var 14) (.lit 25)) (.lit 25)) (.lit 25)) (.cons (.bin .rem (.bin .add (.bin .rem (.var 15) (.lit 25)) (.lit 25)) (.lit 25)) (.cons (.lit 0) (.cons (.lit 0) (.cons (.lit 1) (.cons (.bin .rem (.bin .add (.bin .rem (.var 14) (.lit 25)) (.lit 25)) (.lit 25)) (.cons (.bin .rem (.bin .add (.bin .rem (.var 15) (.lit 25)) (.lit 25)) (.lit 25)) (.cons (.bin .rem (.bin .add (.bin .rem (.var 14) (.lit 25)) (.lit 25)) (.lit 25)) (.cons (.bin .rem (.bin .add (.bin .rem (.var 15) (.lit 25)) (.lit 25)) (.lit 25)) (.cons (.lit 0) (.cons (.lit 0) .nil))))))))))))))) (.lit 1))
      (.leaf (.c (.bool (.not (.eq (.app 12 (.cons (.var 0) (.cons (.var 1) (.cons (.var 2) (.cons (.var 3) (.cons (.var 4) (.cons (.var 5) (.cons (.var 6) (.cons (.lit 1) (.cons (.var 1) (.cons (.var 2) (.cons (.var 1) (.cons (.var 2) (.cons (.lit 0) (.cons (.lit 0) .nil))))))))))))))) (.lit 0))))))
      (.leaf (.c (.bool (.lit false)))))
     (.leaf (.c (.bool (.lit false))))))))
set_option maxRecDepth 1000000 in
theorem ends_tree : vals (execF Try.prog ctDE 20 5 [.c (.abs 0 .nil), .c (.abs 1 .nil), .agg [iv 14, iv 15]] ⟨[], 0, ⟨bdF, [0, 2], 0⟩⟩) = endsT := by kernel_rfl
set_option maxRecDepth 100000 in
set_option maxHeartbeats 20000000 in
theorem meetEnds_law (l0 l1 : Ls) (p1 p2 : Int) (W : World) (h0 : l0.Ok W) (h1 : l1.Ok W) :
    Calls Try.prog 5 #[l0.v, l1.v, .agg #[.int .i64 p1, .int .i64 p2]] W (fun e w' => e = .returned (.bool true) ∧ Below W.heap.size W w') := by
  obtain ⟨k, ax, ay, bx, by', cx, cy, k2, px, py, qx, qy, rx, ry, hb, hb2, hent⟩ := two_ex h0 h1
  have j1 := tm p1 (show (0 : Int) < 25 by omega)
  have j2 := tm0 (show (0 : Int) < 25 by omega) (show 0 ≤ p1.tmod 25 + 25 by omega)
  have j3 := tm (p1.tmod 25 + 25) (show (0 : Int) < 25 by omega)
  have j4 := tm p2 (show (0 : Int) < 25 by omega)
  have j5 := tm0 (show (0 : Int) < 25 by omega) (show 0 ≤ p2.tmod 25 + 25 by omega)
  have j6 := tm (p2.tmod 25 + 25) (show (0 : Int) < 25 by omega)
  have hbb := hb.2
  have hbb2 := hb2.2
  have e1 : px + (bx - px) = bx := by omega
  have e2 : py + (by' - py) = by' := by omega
  have oB : onP k ax ay bx by' cx cy (px + (bx - px)) (py + (by' - py)) := by rw [e1, e2]; exact (on_ends hb.1).2
  have f1 : k2 = 1 → countZ k ax ay bx by' cx cy k2 (px + (bx - px)) (py + (by' - py)) (qx + (bx - px)) (qy + (by' - py)) rx ry ≠ 0 := fun h =>
    count_ne oB (on_ends (ok_shift1 hb2.1 h (by omega) (by omega) (by omega))).1
  have f2 : k2 ≠ 1 → countZ k ax ay bx by' cx cy k2 (px + (bx - px)) (py + (by' - py)) (qx + (bx - px)) (qy + (by' - py)) (rx + (bx - px)) (ry + (by' - py)) ≠ 0 := fun h =>
    count_ne oB (on_ends (ok_shift hb2.1 h (by omega) (by omega) (by omega))).1
  have hp : okP 1 ((p1.tmod 25 + 25).tmod 25) ((p2.tmod 25 + 25).tmod 25) ((p1.tmod 25 + 25).tmod 25) ((p2.tmod 25 + 25).tmod 25) 0 0 := line_ok (by omega) (by omega)
  have f3 : (onP k ax ay bx by' cx cy ((p1.tmod 25 + 25).tmod 25) ((p2.tmod 25 + 25).tmod 25) ∧ countZ k ax ay bx by' cx cy 1 ((p1.tmod 25 + 25).tmod 25) ((p2.tmod 25 + 25).tmod 25) ((p1.tmod 25 + 25).tmod 25) ((p2.tmod 25 + 25).tmod 25) 0 0 = 1) ∨ (¬ onP k ax ay bx by' cx cy ((p1.tmod 25 + 25).tmod 25) ((p2.tmod 25 + 25).tmod 25) ∧ countZ k ax ay bx by' cx cy 1 ((p1.tmod 25 + 25).tmod 25) ((p2.tmod 25 + 25).tmod 25) ((p1.tmod 25 + 25).tmod 25) ((p2.tmod 25 + 25).tmod 25) 0 0 = 0) := by
    rw [count_pt hb.1 hp]
    by_cases h : onP k ax ay bx by' cx cy ((p1.tmod 25 + 25).tmod 25) ((p2.tmod 25 + 25).tmod 25)
    · exact .inl ⟨h, if_pos h⟩
    · exact .inr ⟨h, if_neg h⟩
  have f4 : countZ 1 ((p1.tmod 25 + 25).tmod 25) ((p2.tmod 25 + 25).tmod 25) ((p1.tmod 25 + 25).tmod 25) ((p2.tmod 25 + 25).tmod 25) 0 0 1 ((p1.tmod 25 + 25).tmod 25) ((p2.tmod 25 + 25).tmod 25) ((p1.tmod 25 + 25).tmod 25) ((p2.tmod 25 + 25).tmod 25) 0 0 = 1 := by rw [count_pt hp hp, if_pos (on_ends hp).1]
  have f5 : countZ k ax ay bx by' cx cy 1 ax ay ax ay 0 0 = 1 := by rw [count_pt hb.1 (line_ok (by omega) (by omega)), if_pos (on_ends hb.1).1]
  have hA := hb.1
  have hB := hb2.1
  clear oB e1 e2 hbb hbb2 hp
  have key : (endsT).vc (IL W l0 l1) (envOf [k, ax, ay, bx, by', cx, cy, k2, px, py, qx, qy, rx, ry, p1, p2] []) (fun v => v.wf 0 = true ∧ v.den (IL W l0 l1) (envOf [k, ax, ay, bx, by', cx, cy, k2, px, py, qx, qy, rx, ry, p1, p2] []) id = .bool true) := ?key
  · have h' := @calls_litD Try.prog (IL W l0 l1) (envOf [k, ax, ay, bx, by', cx, cy, k2, px, py, qx, qy, rx, ry, p1, p2] []) mixed nocount ctDE (ctOr_ok (ctL_ok (hent _ _ rfl)) (ctNE_ok h0 h1 _)) 20 5 [.c (.abs 0 .nil), .c (.abs 1 .nil), .agg [iv 14, iv 15]] ⟨bdF, [0, 2], 0⟩ endsT W (.bool true) (hyp_fixed rfl) (draws_ok (n := 0) (bdF_ok hb hb2) (fun _ h => absurd h (Nat.not_lt_zero _))) rfl ends_tree key
    exact h'
  unfold endsT
  repeat' (first | refine And.intro ?_ ?_ | intro _)
  all_goals first | rfl | skip
  all_goals
    first | refine no_eq ?_ | exfalso
    all_goals
      clear hent hb hb2 h0 h1
      simp only [B.lt_t, B.lt_f, B.eq_t, B.eq_f, B.den_var, B.den_lit, B.den_not, B.den_and, B.den_iff, T.den_lit, T.den_var, T.den_wrap, T.den_bin, ev_add, ev_sub, ev_mul, ev_quo, ev_rem, ev_max, ev_min, envOf, List.getD_cons_zero, List.getD_cons_succ, w64, T.den_app, B.den_app, T.dens_cons, T.dens_nil, il_fi, il_fb, fb0, fi0, fi2, fi4, fi5, fi7, fi8, fi9, fi10, fi12, tlM, decide_eq_true_eq, decide_eq_false_iff_not, Int.reduceToNat] at *
      rcases f3 with ⟨g, f3⟩ | ⟨g, f3⟩ <;> first | omega | contradiction
end Go.Proofs.Ytmoclgpdcnjacaa.Sx
