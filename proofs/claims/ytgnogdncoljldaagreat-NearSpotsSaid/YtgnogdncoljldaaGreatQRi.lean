import Derived.Test.YtgnogdncoljldaaGreatQRh
set_option linter.all false
set_option autoImplicit false
namespace Go.Proofs.YtgnogdncoljldaaGreat.Sx
open Go Go.RowKit
set_option maxRecDepth 100000 in
theorem vp0_c (k ax ay bx by' cx cy px py : Int) (w : World) (h : checkZ k ax ay bx by' cx cy ≠ 0 ∨ ¬ rightP px py) : Calls Tryz.prog 13 #[.agg #[.int .i64 k, .int .i64 ax, .int .i64 ay, .int .i64 bx, .int .i64 by', .int .i64 cx, .int .i64 cy], .agg #[.int .i64 px, .int .i64 py]] w
  (fun e w' => PtV (ptZ k ax ay bx by' cx cy px py) e w' ∧ Below w.heap.size w w') := by
 by_cases hc : checkZ k ax ay bx by' cx cy = 0
 ·have hp : ¬ rightP px py := h.resolve_left fun g => g hc
  refine @calls_numR Tryz.prog IP (envOf [k, ax, ay, bx, by', cx, cy, px, py] []) mixedR nocountR rfl ctVp ctVp_ok 20 13 (aE (.var 0)) 0 ⟨k0b, [], 0⟩ [] _ w (PtV (ptZ k ax ay bx by' cx cy px py)) vp0bT (fun _ h => nomatch h)
      ⟨(fcons (B.eq_t.2 hc) (fcons (decide_eq_false hp) fnil)), (fun _ h => nomatch h), fun _ h => absurd h (Nat.not_lt_zero _)⟩ rfl nou rfl (aE_v k ax ay bx by' cx cy px py (.var 0) rfl rfl) vp0b_tree ?_
  unfold vp0bT
  intro e w' hg
  exact (gives_no hg).cast (pt0 _ _ _ _ _ _ _ _ _ h).symm
 ·refine @calls_numR Tryz.prog IP (envOf [k, ax, ay, bx, by', cx, cy, px, py] []) mixedR nocountR rfl ctVp ctVp_ok 20 13 (aE (.var 0)) 0 ⟨k0a, [], 0⟩ [] _ w (PtV (ptZ k ax ay bx by' cx cy px py)) vp0aT (fun _ h => nomatch h)
      ⟨(fcons (B.eq_f.2 hc) fnil), (fun _ h => nomatch h), fun _ h => absurd h (Nat.not_lt_zero _)⟩ rfl nou rfl (aE_v k ax ay bx by' cx cy px py (.var 0) rfl rfl) vp0a_tree ?_
  unfold vp0aT
  repeat' (first | refine And.intro ?_ ?_ | intro _)
  all_goals
   rename_i hg
   exact (gives_no hg).cast (pt0 _ _ _ _ _ _ _ _ _ h).symm
set_option maxRecDepth 100000 in
theorem vp1_c (ax ay bx by' cx cy px py : Int) (w : World) (hc : checkZ 1 ax ay bx by' cx cy = 0) (hp : rightP px py) : Calls Tryz.prog 13 #[.agg #[.int .i64 1, .int .i64 ax, .int .i64 ay, .int .i64 bx, .int .i64 by', .int .i64 cx, .int .i64 cy], .agg #[.int .i64 px, .int .i64 py]] w
  (fun e w' => PtV (ptZ 1 ax ay bx by' cx cy px py) e w' ∧ Below w.heap.size w w') := by
 have hk := kE_ok 1 ax ay bx by' cx cy px py (.lit 1) rfl hc hp
 by_cases h : 0 < dotL ax ay bx by' px py
 ·by_cases h2 : dotL ax ay bx by' px py < sqL ax ay bx by'
  ·refine @calls_numR Tryz.prog IP (envOf [1, ax, ay, bx, by', cx, cy, px, py] []) mixedR nocountR rfl ctVp ctVp_ok 20 13 (aE (.lit 1)) 0 ⟨k1c, [], 0⟩ [] _ w (PtV (ptZ 1 ax ay bx by' cx cy px py)) vp1cT (fun _ h => nomatch h)
      ⟨(fcons (B.lt_t.2 h) (fcons (B.lt_t.2 h2) (fcons (B.lt_f.2 (show (1 : Int) ≤ sqL ax ay bx by' by omega)) hk))), (fun _ h => nomatch h), fun _ h => absurd h (Nat.not_lt_zero _)⟩ rfl nou rfl (aE_v 1 ax ay bx by' cx cy px py (.lit 1) rfl rfl) vp1c_tree ?_
   unfold vp1cT
   intro e w' hg
   exact (gives_pt rfl hg).cast (pt1c hc hp h h2).symm
  ·refine @calls_numR Tryz.prog IP (envOf [1, ax, ay, bx, by', cx, cy, px, py] []) mixedR nocountR rfl ctVp ctVp_ok 20 13 (aE (.lit 1)) 0 ⟨k1b, [], 0⟩ [] _ w (PtV (ptZ 1 ax ay bx by' cx cy px py)) vp1bT (fun _ h => nomatch h)
      ⟨(fcons (B.lt_t.2 h) (fcons (B.lt_f.2 (show sqL ax ay bx by' ≤ dotL ax ay bx by' px py by omega)) hk)), (fun _ h => nomatch h), fun _ h => absurd h (Nat.not_lt_zero _)⟩ rfl nou rfl (aE_v 1 ax ay bx by' cx cy px py (.lit 1) rfl rfl) vp1b_tree ?_
   unfold vp1bT
   intro e w' hg
   exact (gives_pt rfl hg).cast (pt1b hc hp h h2).symm
 ·refine @calls_numR Tryz.prog IP (envOf [1, ax, ay, bx, by', cx, cy, px, py] []) mixedR nocountR rfl ctVp ctVp_ok 20 13 (aE (.lit 1)) 0 ⟨k1a, [], 0⟩ [] _ w (PtV (ptZ 1 ax ay bx by' cx cy px py)) vp1aT (fun _ h => nomatch h)
      ⟨(fcons (B.lt_f.2 (show dotL ax ay bx by' px py ≤ 0 by omega)) hk), (fun _ h => nomatch h), fun _ h => absurd h (Nat.not_lt_zero _)⟩ rfl nou rfl (aE_v 1 ax ay bx by' cx cy px py (.lit 1) rfl rfl) vp1a_tree ?_
  unfold vp1aT
  intro e w' hg
  exact (gives_pt rfl hg).cast (pt1a hc hp h).symm
set_option maxRecDepth 100000 in
theorem vp2_c (ax ay bx by' cx cy px py : Int) (w : World) (hc : checkZ 2 ax ay bx by' cx cy = 0) (hp : rightP px py) : Calls Tryz.prog 13 #[.agg #[.int .i64 2, .int .i64 ax, .int .i64 ay, .int .i64 bx, .int .i64 by', .int .i64 cx, .int .i64 cy], .agg #[.int .i64 px, .int .i64 py]] w
  (fun e w' => PtV (ptZ 2 ax ay bx by' cx cy px py) e w' ∧ Below w.heap.size w w') := by
 have hk := kE_ok 2 ax ay bx by' cx cy px py (.lit 2) rfl hc hp
 refine @calls_numR Tryz.prog IP (envOf [2, ax, ay, bx, by', cx, cy, px, py] []) mixedR nocountR rfl ctVp ctVp_ok 20 13 (aE (.lit 2)) 0 ⟨kE (.lit 2), [], 0⟩ [] _ w (PtV (ptZ 2 ax ay bx by' cx cy px py)) vp2T (fun _ h => nomatch h)
      ⟨hk, (fun _ h => nomatch h), fun _ h => absurd h (Nat.not_lt_zero _)⟩ rfl nou rfl (aE_v 2 ax ay bx by' cx cy px py (.lit 2) rfl rfl) vp2_tree ?_
 clear hk
 unfold vp2T
 repeat' (first | refine And.intro ?_ ?_ | intro _)
 all_goals
  rename_i hg
  refine (gives_pt rfl hg).cast ?_
  clear hg
  rw [pt2 hc hp]
  simp only [B.lt_t, B.lt_f, B.eq_t, B.eq_f, B.den_var, B.den_lit, B.den_not, B.den_and, B.den_iff, T.den_lit, T.den_var, T.den_wrap, T.den_bin, ev_add, ev_sub, ev_mul, ev_quo, ev_rem, ev_max, ev_min, envOf, List.getD_cons_zero, List.getD_cons_succ, w64, sbT, sq2, app2, T.den_app, T.dens_cons, T.dens_nil, ip30, ip31, ip32, ip4, ip5] at *
  unfold arcPt inQ wayZ endZ mkPt
  (repeat' split) <;> first | rfl | (exfalso; omega)
set_option maxRecDepth 100000 in
theorem vp3_c (ax ay bx by' cx cy px py : Int) (w : World) (hc : checkZ 3 ax ay bx by' cx cy = 0) (hp : rightP px py) : Calls Tryz.prog 13 #[.agg #[.int .i64 3, .int .i64 ax, .int .i64 ay, .int .i64 bx, .int .i64 by', .int .i64 cx, .int .i64 cy], .agg #[.int .i64 px, .int .i64 py]] w
  (fun e w' => PtV (ptZ 3 ax ay bx by' cx cy px py) e w' ∧ Below w.heap.size w w') := by
 have hk := kE_ok 3 ax ay bx by' cx cy px py (.lit 3) rfl hc hp
 refine @calls_numR Tryz.prog IP (envOf [3, ax, ay, bx, by', cx, cy, px, py] []) mixedR nocountR rfl ctVp ctVp_ok 20 13 (aE (.lit 3)) 0 ⟨kE (.lit 3), [], 0⟩ [] _ w (PtV (ptZ 3 ax ay bx by' cx cy px py)) vp3T (fun _ h => nomatch h)
      ⟨hk, (fun _ h => nomatch h), fun _ h => absurd h (Nat.not_lt_zero _)⟩ rfl nou rfl (aE_v 3 ax ay bx by' cx cy px py (.lit 3) rfl rfl) vp3_tree ?_
 clear hk
 unfold vp3T
 repeat' (first | refine And.intro ?_ ?_ | intro _)
 all_goals
  rename_i hg
  refine (gives_pt rfl hg).cast ?_
  clear hg
  rw [pt3 hc hp]
  simp only [B.lt_t, B.lt_f, B.eq_t, B.eq_f, B.den_var, B.den_lit, B.den_not, B.den_and, B.den_iff, T.den_lit, T.den_var, T.den_wrap, T.den_bin, ev_add, ev_sub, ev_mul, ev_quo, ev_rem, ev_max, ev_min, envOf, List.getD_cons_zero, List.getD_cons_succ, w64, sbT, sq2, app2, T.den_app, T.dens_cons, T.dens_nil, ip30, ip31, ip32, ip4, ip5] at *
  unfold arcPt inQ wayZ endZ mkPt
  (repeat' split) <;> first | rfl | (exfalso; omega)
theorem vpoint_c (k ax ay bx by' cx cy px py : Int) (w : World) : Calls Tryz.prog 13 #[.agg #[.int .i64 k, .int .i64 ax, .int .i64 ay, .int .i64 bx, .int .i64 by', .int .i64 cx, .int .i64 cy], .agg #[.int .i64 px, .int .i64 py]] w
  (fun e w' => PtV (ptZ k ax ay bx by' cx cy px py) e w' ∧ Below w.heap.size w w') := by
 by_cases h : checkZ k ax ay bx by' cx cy ≠ 0 ∨ ¬ rightP px py
 ·exact vp0_c k ax ay bx by' cx cy px py w h
 ·have hc : checkZ k ax ay bx by' cx cy = 0 := Classical.not_not.1 fun g => h (.inl g)
  have hp : rightP px py := Classical.not_not.1 fun g => h (.inr g)
  obtain ⟨h1, h2, _⟩ := check_ok hc
  obtain rfl | rfl | rfl : k = 1 ∨ k = 2 ∨ k = 3 := by omega
  ·exact vp1_c ax ay bx by' cx cy px py w hc hp
  ·exact vp2_c ax ay bx by' cx cy px py w hc hp
  ·exact vp3_c ax ay bx by' cx cy px py w hc hp
set_option maxRecDepth 100000 in
theorem rp0_c (k ax ay bx by' cx cy px py : Int) (w : World) (h : checkZ k ax ay bx by' cx cy ≠ 0 ∨ ¬ rightP px py) : Calls Tryz.prog 14 #[.agg #[.int .i64 k, .int .i64 ax, .int .i64 ay, .int .i64 bx, .int .i64 by', .int .i64 cx, .int .i64 cy], .agg #[.int .i64 px, .int .i64 py]] w
  (fun e w' => PtV (ptZ k ax ay bx by' cx cy px py) e w' ∧ Below w.heap.size w w') := by
 by_cases hc : checkZ k ax ay bx by' cx cy = 0
 ·have hp : ¬ rightP px py := h.resolve_left fun g => g hc
  refine @calls_numR Tryz.prog IP (envOf [k, ax, ay, bx, by', cx, cy, px, py] []) mixedR nocountR rfl ctWp ctWp_ok 20 14 (aE (.var 0)) 0 ⟨k0b, [], 0⟩ [] _ w (PtV (ptZ k ax ay bx by' cx cy px py)) rp0bT (fun _ h => nomatch h)
      ⟨(fcons (B.eq_t.2 hc) (fcons (decide_eq_false hp) fnil)), (fun _ h => nomatch h), fun _ h => absurd h (Nat.not_lt_zero _)⟩ rfl nou rfl (aE_v k ax ay bx by' cx cy px py (.var 0) rfl rfl) rp0b_tree ?_
  unfold rp0bT
  intro e w' hg
  exact (gives_no hg).cast (pt0 _ _ _ _ _ _ _ _ _ h).symm
 ·refine @calls_numR Tryz.prog IP (envOf [k, ax, ay, bx, by', cx, cy, px, py] []) mixedR nocountR rfl ctWp ctWp_ok 20 14 (aE (.var 0)) 0 ⟨k0a, [], 0⟩ [] _ w (PtV (ptZ k ax ay bx by' cx cy px py)) rp0aT (fun _ h => nomatch h)
      ⟨(fcons (B.eq_f.2 hc) fnil), (fun _ h => nomatch h), fun _ h => absurd h (Nat.not_lt_zero _)⟩ rfl nou rfl (aE_v k ax ay bx by' cx cy px py (.var 0) rfl rfl) rp0a_tree ?_
  unfold rp0aT
  repeat' (first | refine And.intro ?_ ?_ | intro _)
  all_goals
   rename_i hg
   exact (gives_no hg).cast (pt0 _ _ _ _ _ _ _ _ _ h).symm
set_option maxRecDepth 100000 in
theorem rp1_c (ax ay bx by' cx cy px py : Int) (w : World) (hc : checkZ 1 ax ay bx by' cx cy = 0) (hp : rightP px py) : Calls Tryz.prog 14 #[.agg #[.int .i64 1, .int .i64 ax, .int .i64 ay, .int .i64 bx, .int .i64 by', .int .i64 cx, .int .i64 cy], .agg #[.int .i64 px, .int .i64 py]] w
  (fun e w' => PtV (ptZ 1 ax ay bx by' cx cy px py) e w' ∧ Below w.heap.size w w') := by
 have hk := kE_ok 1 ax ay bx by' cx cy px py (.lit 1) rfl hc hp
 by_cases h : 0 < dotL ax ay bx by' px py
 ·by_cases h2 : dotL ax ay bx by' px py < sqL ax ay bx by'
  ·refine @calls_numR Tryz.prog IP (envOf [1, ax, ay, bx, by', cx, cy, px, py] []) mixedR nocountR rfl ctWp ctWp_ok 20 14 (aE (.lit 1)) 0 ⟨k1c, [], 0⟩ [] _ w (PtV (ptZ 1 ax ay bx by' cx cy px py)) rp1cT (fun _ h => nomatch h)
      ⟨(fcons (B.lt_t.2 h) (fcons (B.lt_t.2 h2) (fcons (B.lt_f.2 (show (1 : Int) ≤ sqL ax ay bx by' by omega)) hk))), (fun _ h => nomatch h), fun _ h => absurd h (Nat.not_lt_zero _)⟩ rfl nou rfl (aE_v 1 ax ay bx by' cx cy px py (.lit 1) rfl rfl) rp1c_tree ?_
   unfold rp1cT
   intro e w' hg
   exact (gives_pt rfl hg).cast (pt1c hc hp h h2).symm
  ·refine @calls_numR Tryz.prog IP (envOf [1, ax, ay, bx, by', cx, cy, px, py] []) mixedR nocountR rfl ctWp ctWp_ok 20 14 (aE (.lit 1)) 0 ⟨k1b, [], 0⟩ [] _ w (PtV (ptZ 1 ax ay bx by' cx cy px py)) rp1bT (fun _ h => nomatch h)
      ⟨(fcons (B.lt_t.2 h) (fcons (B.lt_f.2 (show sqL ax ay bx by' ≤ dotL ax ay bx by' px py by omega)) hk)), (fun _ h => nomatch h), fun _ h => absurd h (Nat.not_lt_zero _)⟩ rfl nou rfl (aE_v 1 ax ay bx by' cx cy px py (.lit 1) rfl rfl) rp1b_tree ?_
   unfold rp1bT
   intro e w' hg
   exact (gives_pt rfl hg).cast (pt1b hc hp h h2).symm
 ·refine @calls_numR Tryz.prog IP (envOf [1, ax, ay, bx, by', cx, cy, px, py] []) mixedR nocountR rfl ctWp ctWp_ok 20 14 (aE (.lit 1)) 0 ⟨k1a, [], 0⟩ [] _ w (PtV (ptZ 1 ax ay bx by' cx cy px py)) rp1aT (fun _ h => nomatch h)
      ⟨(fcons (B.lt_f.2 (show dotL ax ay bx by' px py ≤ 0 by omega)) hk), (fun _ h => nomatch h), fun _ h => absurd h (Nat.not_lt_zero _)⟩ rfl nou rfl (aE_v 1 ax ay bx by' cx cy px py (.lit 1) rfl rfl) rp1a_tree ?_
  unfold rp1aT
  intro e w' hg
  exact (gives_pt rfl hg).cast (pt1a hc hp h).symm
set_option maxRecDepth 100000 in
theorem rp2_c (ax ay bx by' cx cy px py : Int) (w : World) (hc : checkZ 2 ax ay bx by' cx cy = 0) (hp : rightP px py) : Calls Tryz.prog 14 #[.agg #[.int .i64 2, .int .i64 ax, .int .i64 ay, .int .i64 bx, .int .i64 by', .int .i64 cx, .int .i64 cy], .agg #[.int .i64 px, .int .i64 py]] w
  (fun e w' => PtV (ptZ 2 ax ay bx by' cx cy px py) e w' ∧ Below w.heap.size w w') := by
 have hk := kE_ok 2 ax ay bx by' cx cy px py (.lit 2) rfl hc hp
 refine @calls_numR Tryz.prog IP (envOf [2, ax, ay, bx, by', cx, cy, px, py] []) mixedR nocountR rfl ctWp ctWp_ok 20 14 (aE (.lit 2)) 0 ⟨kE (.lit 2), [], 0⟩ [] _ w (PtV (ptZ 2 ax ay bx by' cx cy px py)) rp2T (fun _ h => nomatch h)
      ⟨hk, (fun _ h => nomatch h), fun _ h => absurd h (Nat.not_lt_zero _)⟩ rfl nou rfl (aE_v 2 ax ay bx by' cx cy px py (.lit 2) rfl rfl) rp2_tree ?_
 clear hk
 unfold rp2T
 repeat' (first | refine And.intro ?_ ?_ | intro _)
 all_goals
  rename_i hg
  refine (gives_pt rfl hg).cast ?_
  clear hg
  rw [pt2 hc hp]
  simp only [B.lt_t, B.lt_f, B.eq_t, B.eq_f, B.den_var, B.den_lit, B.den_not, B.den_and, B.den_iff, T.den_lit, T.den_var, T.den_wrap, T.den_bin, ev_add, ev_sub, ev_mul, ev_quo, ev_rem, ev_max, ev_min, envOf, List.getD_cons_zero, List.getD_cons_succ, w64, sbT, sq2, app2, T.den_app, T.dens_cons, T.dens_nil, ip30, ip31, ip32, ip4, ip5] at *
  unfold arcPt inQ wayZ endZ mkPt
  (repeat' split) <;> first | rfl | (exfalso; omega)
set_option maxRecDepth 100000 in
theorem rp3_c (ax ay bx by' cx cy px py : Int) (w : World) (hc : checkZ 3 ax ay bx by' cx cy = 0) (hp : rightP px py) : Calls Tryz.prog 14 #[.agg #[.int .i64 3, .int .i64 ax, .int .i64 ay, .int .i64 bx, .int .i64 by', .int .i64 cx, .int .i64 cy], .agg #[.int .i64 px, .int .i64 py]] w
  (fun e w' => PtV (ptZ 3 ax ay bx by' cx cy px py) e w' ∧ Below w.heap.size w w') := by
 have hk := kE_ok 3 ax ay bx by' cx cy px py (.lit 3) rfl hc hp
 refine @calls_numR Tryz.prog IP (envOf [3, ax, ay, bx, by', cx, cy, px, py] []) mixedR nocountR rfl ctWp ctWp_ok 20 14 (aE (.lit 3)) 0 ⟨kE (.lit 3), [], 0⟩ [] _ w (PtV (ptZ 3 ax ay bx by' cx cy px py)) rp3T (fun _ h => nomatch h)
      ⟨hk, (fun _ h => nomatch h), fun _ h => absurd h (Nat.not_lt_zero _)⟩ rfl nou rfl (aE_v 3 ax ay bx by' cx cy px py (.lit 3) rfl rfl) rp3_tree ?_
 clear hk
 unfold rp3T
 repeat' (first | refine And.intro ?_ ?_ | intro _)
 all_goals
  rename_i hg
  refine (gives_pt rfl hg).cast ?_
  clear hg
  rw [pt3 hc hp]
  simp only [B.lt_t, B.lt_f, B.eq_t, B.eq_f, B.den_var, B.den_lit, B.den_not, B.den_and, B.den_iff, T.den_lit, T.den_var, T.den_wrap, T.den_bin, ev_add, ev_sub, ev_mul, ev_quo, ev_rem, ev_max, ev_min, envOf, List.getD_cons_zero, List.getD_cons_succ, w64, sbT, sq2, app2, T.den_app, T.dens_cons, T.dens_nil, ip30, ip31, ip32, ip4, ip5] at *
  unfold arcPt inQ wayZ endZ mkPt
  (repeat' split) <;> first | rfl | (exfalso; omega)
theorem rpoint_c (k ax ay bx by' cx cy px py : Int) (w : World) : Calls Tryz.prog 14 #[.agg #[.int .i64 k, .int .i64 ax, .int .i64 ay, .int .i64 bx, .int .i64 by', .int .i64 cx, .int .i64 cy], .agg #[.int .i64 px, .int .i64 py]] w
  (fun e w' => PtV (ptZ k ax ay bx by' cx cy px py) e w' ∧ Below w.heap.size w w') := by
 by_cases h : checkZ k ax ay bx by' cx cy ≠ 0 ∨ ¬ rightP px py
 ·exact rp0_c k ax ay bx by' cx cy px py w h
 ·have hc : checkZ k ax ay bx by' cx cy = 0 := Classical.not_not.1 fun g => h (.inl g)
  have hp : rightP px py := Classical.not_not.1 fun g => h (.inr g)
  obtain ⟨h1, h2, _⟩ := check_ok hc
  obtain rfl | rfl | rfl : k = 1 ∨ k = 2 ∨ k = 3 := by omega
  ·exact rp1_c ax ay bx by' cx cy px py w hc hp
  ·exact rp2_c ax ay bx by' cx cy px py w hc hp
  ·exact rp3_c ax ay bx by' cx cy px py w hc hp
end Go.Proofs.YtgnogdncoljldaaGreat.Sx

