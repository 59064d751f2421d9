import Derived.Test.YtgnogdncoljldaaGreatQRg
import Derived.Test.YtgnogdncoljldaaGreatQEd9
set_option linter.all false
set_option autoImplicit false
namespace Go.Proofs.YtgnogdncoljldaaGreat.Sx
open Go Go.RowKit
def fnE (g : FuncId) (f : Nat) : FnR := ⟨g, [.ints], fun _ ts => match ts with
 | [[a, b, c, d, e, h, i]] => some ⟨[], .c (.int .i64 (.app f (.cons a (.cons b (.cons c (.cons d (.cons e (.cons h (.cons i .nil)))))))))⟩
 | _ => none⟩
def fnP (g : FuncId) (f : Nat) : FnR := ⟨g, [.ints], fun _ ts => match ts with
 | [[a, b]] => some ⟨[], .c (.bool (.app f (.cons a (.cons b .nil))))⟩
 | _ => none⟩
def ctVp : CT := ctOr (ctFn [fnE 41 4, fnE 33 5, fnP 42 6]) ctV2
def ctWp : CT := ctOr (ctFn [fnE 46 4, fnE 40 5, fnP 45 6]) ctW2
def e7 (f : Nat) (k : T) : T := .app f (.cons k (.cons (.var 1) (.cons (.var 2) (.cons (.var 3) (.cons (.var 4) (.cons (.var 5) (.cons (.var 6) .nil)))))))
def p2 : T := .cons (.var 7) (.cons (.var 8) .nil)
def rt (t : T) (lo hi : Int) : List (B × Bool) := [(.lt t (.lit lo), false), (.lt (.lit hi) t, false)]
def kE (k : T) : List (B × Bool) := [(.eq (e7 4 k) (.lit 0), true), (.app 6 p2, true)] ++ (rt (e7 5 k) 0 268435456 ++ (rg 1 (-67108864) 67108864 ++ (rg 2 (-67108864) 67108864 ++ (rg 3 (-67108864) 67108864 ++ (rg 4 (-67108864) 67108864 ++ (rg 5 (-67108864) 67108864 ++ (rg 6 (-67108864) 67108864 ++ (rg 7 (-67108864) 67108864 ++ rg 8 (-67108864) 67108864))))))))
def aE (k : T) : List V := [.agg [.int .i64 k, .int .i64 (.var 1), .int .i64 (.var 2), .int .i64 (.var 3), .int .i64 (.var 4), .int .i64 (.var 5), .int .i64 (.var 6)], .agg [.int .i64 (.var 7), .int .i64 (.var 8)]]
def sbT (i j : Nat) : T := .bin .sub (.var i) (.var j)
def dtT : T := .bin .add (.bin .mul (sbT 7 1) (sbT 3 1)) (.bin .mul (sbT 8 2) (sbT 4 2))
def sqT : T := .bin .add (.bin .mul (sbT 3 1) (sbT 3 1)) (.bin .mul (sbT 4 2) (sbT 4 2))
def sq2 (i j : Nat) : T := .bin .add (.bin .mul (sbT 7 i) (sbT 7 i)) (.bin .mul (sbT 8 j) (sbT 8 j))
def k0a : List (B × Bool) := [(.eq (e7 4 (.var 0)) (.lit 0), false)]
def k0b : List (B × Bool) := [(.eq (e7 4 (.var 0)) (.lit 0), true), (.app 6 p2, false)]
def k1a : List (B × Bool) := (.lt (.lit 0) dtT, false) :: kE (.lit 1)
def k1b : List (B × Bool) := (.lt (.lit 0) dtT, true) :: (.lt dtT sqT, false) :: kE (.lit 1)
def k1c : List (B × Bool) := (.lt (.lit 0) dtT, true) :: (.lt dtT sqT, true) :: (.lt sqT (.lit 1), false) :: kE (.lit 1)
structure Pt where
 (a s n d x y u v p q l : Int)
def mkPt (a s n d x y u v p q l : Int) : Pt := ⟨a, if n = 0 then 0 else s, n.tdiv (gz n d), d.tdiv (gz n d), x, y, u, v, p, q, l⟩
def noPt : Pt := ⟨0, 0, 0, 0, 0, 0, 0, 0, 0, 0, 0⟩
def endZ (ex ey px py : Int) : Pt := mkPt 0 1 ((px - ex) * (px - ex) + (py - ey) * (py - ey)) 1 ex ey 0 0 0 1 0
def dotL (ax ay bx by' px py : Int) : Int := (px - ax) * (bx - ax) + (py - ay) * (by' - ay)
def sqL (ax ay bx by' : Int) : Int := (bx - ax) * (bx - ax) + (by' - ay) * (by' - ay)
def crL (ax ay bx by' px py : Int) : Int := (bx - ax) * (py - ay) - (by' - ay) * (px - ax)
def footZ (ax ay bx by' px py : Int) : Pt := mkPt 0 1 (crL ax ay bx by' px py * crL ax ay bx by' px py) (sqL ax ay bx by') ax ay (bx - ax) (by' - ay) (dotL ax ay bx by' px py) (sqL ax ay bx by') 0
def wayZ (r cx cy px py : Int) : Pt := if (px - cx) * (px - cx) + (py - cy) * (py - cy) < r * r then mkPt r (-1) ((px - cx) * (px - cx) + (py - cy) * (py - cy)) 1 cx cy (px - cx) (py - cy) 0 0 r
 else mkPt (0 - r) 1 ((px - cx) * (px - cx) + (py - cy) * (py - cy)) 1 cx cy (px - cx) (py - cy) 0 0 r
def inQ (fx fy tx ty vx vy : Int) : Prop := ¬ (vx = 0 ∧ vy = 0) ∧ 0 ≤ fx * vy - fy * vx ∧ 0 ≤ vx * ty - vy * tx
instance (fx fy tx ty vx vy : Int) : Decidable (inQ fx fy tx ty vx vy) := by unfold inQ; infer_instance
def arcPt (r ax ay bx by' cx cy px py : Int) (q : Prop) [Decidable q] : Pt := if q then wayZ r cx cy px py
 else if (px - bx) * (px - bx) + (py - by') * (py - by') < (px - ax) * (px - ax) + (py - ay) * (py - ay) then endZ bx by' px py else endZ ax ay px py
def ptZ (k ax ay bx by' cx cy px py : Int) : Pt :=
 if checkZ k ax ay bx by' cx cy ≠ 0 ∨ ¬ rightP px py then noPt
 else if k = 1 then (if ¬ 0 < dotL ax ay bx by' px py then endZ ax ay px py else if ¬ dotL ax ay bx by' px py < sqL ax ay bx by' then endZ bx by' px py else footZ ax ay bx by' px py)
 else if k = 2 then arcPt (radiusZ k ax ay bx by' cx cy) ax ay bx by' cx cy px py (inQ (ax - cx) (ay - cy) (bx - cx) (by' - cy) (px - cx) (py - cy))
 else arcPt (radiusZ k ax ay bx by' cx cy) ax ay bx by' cx cy px py (inQ (bx - cx) (by' - cy) (ax - cx) (ay - cy) (px - cx) (py - cy))
def PtV (z : Pt) (e : Ending) (w : World) : Prop := ∃ v, e = .returned (.tuple #[v, .agg #[.int .i64 z.x, .int .i64 z.y, .int .i64 z.u, .int .i64 z.v, .int .i64 z.p, .int .i64 z.q, .int .i64 z.l]]) ∧ RootZ w v z.a z.s z.n z.d
theorem PtV.cast {z z' : Pt} {e : Ending} {w : World} (h : PtV z e w) (hz : z = z') : PtV z' e w := hz ▸ h
def fiP (f : Nat) (l : List Int) : Int := match f, l with
 | 4, [k, ax, ay, bx, by', cx, cy] => checkZ k ax ay bx by' cx cy
 | 5, [k, ax, ay, bx, by', cx, cy] => radiusZ k ax ay bx by' cx cy
 | 30, [s, n] => if n = 0 then 0 else s
 | 31, [n, d] => n.tdiv (gz n d)
 | 32, [n, d] => d.tdiv (gz n d)
 | 33, [a, s, n, d, b, t, m, e] => RM.cmpZ a s n d b t m e
 | 900, [a, b] => gz a b
 | 901, [a, b, c] => RM.sideZ a b c
 | 999, l => numOpq.len l
 | _, _ => 0
def fbP (f : Nat) (l : List Int) : Bool := match f, l with
 | 5, [a, s, n, d] => rtB a s n d
 | 6, [x, y] => decide (rightP x y)
 | _, _ => false
def IP : Interp := ⟨fiP, fbP, fun _ _ => .nilFunc, [], numOpq, fun _ => rfl, fun _ _ => ⟨(fun _ h => nomatch h), (fun _ h => nomatch h)⟩⟩
theorem ip_root : RootI IP := ⟨rfl, fun _ _ => rfl, fun _ _ _ => rfl, fun _ _ => rfl, fun _ _ => rfl, fun _ _ => rfl, fun _ _ _ _ _ _ _ _ => rfl, fun _ _ _ _ h => rtB_ok h⟩
theorem ip4 (k ax ay bx by' cx cy : Int) : IP.fi 4 [k, ax, ay, bx, by', cx, cy] = checkZ k ax ay bx by' cx cy := rfl
theorem ip5 (k ax ay bx by' cx cy : Int) : IP.fi 5 [k, ax, ay, bx, by', cx, cy] = radiusZ k ax ay bx by' cx cy := rfl
theorem ip30 (s n : Int) : IP.fi 30 [s, n] = if n = 0 then 0 else s := rfl
theorem ip31 (n d : Int) : IP.fi 31 [n, d] = n.tdiv (gz n d) := rfl
theorem ip32 (n d : Int) : IP.fi 32 [n, d] = d.tdiv (gz n d) := rfl
section
variable {I : Interp} {ρ : Env}
theorem fnE_ok {g : FuncId} {f : Nat} (hc : ∀ (k ax ay bx by' cx cy : Int) (w : World), Calls Tryz.prog g #[.agg #[.int .i64 k, .int .i64 ax, .int .i64 ay, .int .i64 bx, .int .i64 by', .int .i64 cx, .int .i64 cy]] w
  (fun e w' => e = .returned (.int .i64 (I.fi f [k, ax, ay, bx, by', cx, cy])) ∧ Below w.heap.size w w')) : (fnE g f).Ok Tryz.prog I ρ := by
 intro k ts r hk hv w vs ha
 unfold fnE at hv
 simp only at hv
 split at hv
 ·rename_i a b c d e h i
  injection hv with hv
  subst hv
  obtain ⟨v1, r1, z1, y1, rfl, e1, k1, ha⟩ := RArgs.cons ha
  obtain ⟨rfl, rfl⟩ := RArgs.nil ha
  injection e1 with e1 e1'
  subst e1
  have k1 := k1.ints
  subst k1
  refine (hc _ _ _ _ _ _ _ w).mono ?_
  rintro x w' ⟨rfl, hb⟩
  exact ⟨⟨id, (fun _ _ hj => nomatch hj), rfl⟩, hb⟩
 ·cases hv
theorem fnP_ok {g : FuncId} {f : Nat} (hc : ∀ (x y : Int) (w : World), Calls Tryz.prog g #[.agg #[.int .i64 x, .int .i64 y]] w (fun e w' => e = .returned (.bool (I.fb f [x, y])) ∧ Below w.heap.size w w')) : (fnP g f).Ok Tryz.prog I ρ := by
 intro k ts r hk hv w vs ha
 unfold fnP at hv
 simp only at hv
 split at hv
 ·rename_i a b
  injection hv with hv
  subst hv
  obtain ⟨v1, r1, z1, y1, rfl, e1, k1, ha⟩ := RArgs.cons ha
  obtain ⟨rfl, rfl⟩ := RArgs.nil ha
  injection e1 with e1 e1'
  subst e1
  have k1 := k1.ints
  subst k1
  refine (hc _ _ w).mono ?_
  rintro x w' ⟨rfl, hb⟩
  exact ⟨⟨id, (fun _ _ hj => nomatch hj), rfl⟩, hb⟩
 ·cases hv
theorem gives_pt (hI : I.opq = numOpq) {a s n d x y u v p q l : T} {e : Ending} {w : World} (h : (RT.mk [n, d] (.tup [(true, [.int .i64 a, .int .i64 s, .bool (.lt n (.lit 0)), .opq 0, .bool (.lt d (.lit 0)), .opq 1]), (true, [.int .i64 x, .int .i64 y, .int .i64 u, .int .i64 v, .int .i64 p, .int .i64 q, .int .i64 l])])).Gives I ρ e w) :
  PtV ⟨a.den I ρ, s.den I ρ, n.den I ρ, d.den I ρ, x.den I ρ, y.den I ρ, u.den I ρ, v.den I ρ, p.den I ρ, q.den I ρ, l.den I ρ⟩ e w := by
 obtain ⟨β, h1, rfl⟩ := h
 have i0 := znum_of (h1 0 n rfl)
 have i1 := znum_of (h1 1 d rfl)
 refine ⟨.agg #[.int .i64 (a.den I ρ), .int .i64 (s.den I ρ), .bool (decide (n.den I ρ < 0)), numOpq.dec (β 0), .bool (decide (d.den I ρ < 0)), numOpq.dec (β 1)], ?_, _, _, _, _, rfl, i0, i1⟩
 simp only [V.den, List.map_cons, List.map_nil, partOf, cellsOf, C.den, hI]
 rfl
theorem znil (w : World) : ZNum w.heap.size w (.agg #[.bool false, .slice none 0 0]) 0 := by
 refine ⟨⟨.slice none 0 0, by simp, ?_⟩, Nat.pow_pos (by decide)⟩
 show U32s _ _ _ (digs 0)
 rw [digs_zero]
 exact u32s_nil _ _
def noR : RT := ⟨[], .tup [(true, [.int .i64 (.lit 0), .int .i64 (.lit 0), .bool (.lit false), .nils, .bool (.lit false), .nils]), (true, [.int .i64 (.lit 0), .int .i64 (.lit 0), .int .i64 (.lit 0), .int .i64 (.lit 0), .int .i64 (.lit 0), .int .i64 (.lit 0), .int .i64 (.lit 0)])]⟩
def ptR (a : T) (s : Int) (n d x y u v p q l : T) : RT := ⟨[app2 31 n d, app2 32 n d], .tup [(true, [.int .i64 a, .int .i64 (app2 30 (.lit s) n), .bool (.lt (app2 31 n d) (.lit 0)), .opq 0, .bool (.lt (app2 32 n d) (.lit 0)), .opq 1]), (true, [.int .i64 x, .int .i64 y, .int .i64 u, .int .i64 v, .int .i64 p, .int .i64 q, .int .i64 l])]⟩
theorem gives_no {e : Ending} {w : World} (h : (RT.mk [] (.tup [(true, [.int .i64 (.lit 0), .int .i64 (.lit 0), .bool (.lit false), .nils, .bool (.lit false), .nils]), (true, [.int .i64 (.lit 0), .int .i64 (.lit 0), .int .i64 (.lit 0), .int .i64 (.lit 0), .int .i64 (.lit 0), .int .i64 (.lit 0), .int .i64 (.lit 0)])])).Gives I ρ e w) : PtV noPt e w := by
 obtain ⟨β, h1, rfl⟩ := h
 exact ⟨_, rfl, _, _, _, _, rfl, znil w, znil w⟩
end
def vptrT : Tree V :=
 (.node (.lt (.var 0) (.lit (-67108864)))
 (.leaf (.c (.bool (.lit false))))
 (.node (.lt (.lit 67108864) (.var 0))
 (.leaf (.c (.bool (.lit false))))
 (.node (.lt (.var 1) (.lit (-67108864)))
 (.leaf (.c (.bool (.lit false))))
 (.leaf (.c (.bool (.not (.lt (.lit 67108864) (.var 1)))))))))
set_option maxRecDepth 1000000 in
theorem vptr_tree : vals (execF Tryz.prog CT.none 20 42 [.agg [iv 0, iv 1]] sNone) = vptrT := by kernel_rfl
set_option maxHeartbeats 20000000 in
theorem vptr_c (x y : Int) (w : World) : Calls Tryz.prog 42 #[.agg #[.int .i64 x, .int .i64 y]] w
  (fun e w' => e = .returned (.bool (decide (rightP x y))) ∧ Below w.heap.size w w') := by
 have key : (vptrT).vc I0 (envOf [x, y] []) (fun v => v.wf 0 = true ∧ v.den I0 (envOf [x, y] []) id = .bool (decide (rightP x y))) := ?key
 ·have h := @calls_lit Tryz.prog I0 (envOf [x, y] []) mixed nocount CT.none (CT.none_ok _ _ _) 20 42 [.agg [iv 0, iv 1]] vptrT w (.bool (decide (rightP x y))) (fun _ h => nomatch h) rfl vptr_tree key
  exact h
 unfold vptrT
 repeat' (first | refine And.intro ?_ ?_ | intro _)
 all_goals first | rfl | skip
 all_goals
  first | refine bool_t ?_ | refine bool_f ?_ | refine bool_e ?_ | refine bool_n ?_ | refine bool_l ?_
  all_goals
   simp only [B.lt_t, B.lt_f, B.eq_t, B.eq_f, B.den_var, B.den_lit, B.den_not, B.den_and, B.den_iff, T.den_lit, T.den_var, T.den_wrap, T.den_bin, ev_add, ev_sub, ev_mul, ev_quo, ev_rem, ev_max, ev_min, envOf, List.getD_cons_zero, List.getD_cons_succ, w64] at *
   unfold rightP
   omega
def rptrT : Tree V :=
 (.node (.lt (.var 0) (.lit (-67108864)))
 (.leaf (.c (.bool (.lit false))))
 (.node (.lt (.lit 67108864) (.var 0))
 (.leaf (.c (.bool (.lit false))))
 (.node (.lt (.var 1) (.lit (-67108864)))
 (.leaf (.c (.bool (.lit false))))
 (.leaf (.c (.bool (.not (.lt (.lit 67108864) (.var 1)))))))))
set_option maxRecDepth 1000000 in
theorem rptr_tree : vals (execF Tryz.prog CT.none 20 45 [.agg [iv 0, iv 1]] sNone) = rptrT := by kernel_rfl
set_option maxHeartbeats 20000000 in
theorem rptr_c (x y : Int) (w : World) : Calls Tryz.prog 45 #[.agg #[.int .i64 x, .int .i64 y]] w
  (fun e w' => e = .returned (.bool (decide (rightP x y))) ∧ Below w.heap.size w w') := by
 have key : (rptrT).vc I0 (envOf [x, y] []) (fun v => v.wf 0 = true ∧ v.den I0 (envOf [x, y] []) id = .bool (decide (rightP x y))) := ?key
 ·have h := @calls_lit Tryz.prog I0 (envOf [x, y] []) mixed nocount CT.none (CT.none_ok _ _ _) 20 45 [.agg [iv 0, iv 1]] rptrT w (.bool (decide (rightP x y))) (fun _ h => nomatch h) rfl rptr_tree key
  exact h
 unfold rptrT
 repeat' (first | refine And.intro ?_ ?_ | intro _)
 all_goals first | rfl | skip
 all_goals
  first | refine bool_t ?_ | refine bool_f ?_ | refine bool_e ?_ | refine bool_n ?_ | refine bool_l ?_
  all_goals
   simp only [B.lt_t, B.lt_f, B.eq_t, B.eq_f, B.den_var, B.den_lit, B.den_not, B.den_and, B.den_iff, T.den_lit, T.den_var, T.den_wrap, T.den_bin, ev_add, ev_sub, ev_mul, ev_quo, ev_rem, ev_max, ev_min, envOf, List.getD_cons_zero, List.getD_cons_succ, w64] at *
   unfold rightP
   omega
theorem ctVp_ok {ρ : Env} : CTOk Tryz.prog IP ρ ctVp := by
 refine ctOr_ok (ctFn_ok rfl fun e he => ?_) (ctV2_ok ip_root)
 simp only [List.mem_cons, List.not_mem_nil, or_false] at he
 rcases he with rfl | rfl | rfl
 ·exact fnE_ok vcheck_c
 ·exact fnE_ok vrad_c
 ·exact fnP_ok vptr_c
theorem ctWp_ok {ρ : Env} : CTOk Tryz.prog IP ρ ctWp := by
 refine ctOr_ok (ctFn_ok rfl fun e he => ?_) (ctW2_ok ip_root)
 simp only [List.mem_cons, List.not_mem_nil, or_false] at he
 rcases he with rfl | rfl | rfl
 ·exact fnE_ok rcheck_c
 ·exact fnE_ok rrad_c
 ·exact fnP_ok rptr_c
theorem check_ok {k ax ay bx by' cx cy : Int} (h : checkZ k ax ay bx by' cx cy = 0) : 1 ≤ k ∧ k ≤ 3 ∧ rightP ax ay ∧ rightP bx by' ∧ rightP cx cy := by
 unfold checkZ at h
 split at h
 ·cases h
 ·split at h
  ·cases h
  ·rename_i h1 h2
   have h2 := Classical.not_not.1 h2
   exact ⟨by omega, by omega, h2.1, h2.2.1, h2.2.2⟩
theorem rad_le {k ax ay bx by' cx cy : Int} (h1 : rightP ax ay) (h2 : rightP cx cy) : 0 ≤ radiusZ k ax ay bx by' cx cy ∧ radiusZ k ax ay bx by' cx cy ≤ 268435456 := by
 unfold radiusZ
 unfold rightP at h1 h2
 split <;> omega
theorem kE_ok (k ax ay bx by' cx cy px py : Int) (t : T) (ht : t.den IP (envOf [k, ax, ay, bx, by', cx, cy, px, py] []) = k) (hc : checkZ k ax ay bx by' cx cy = 0) (hp : rightP px py) : ∀ p ∈ kE t, p.1.den IP (envOf [k, ax, ay, bx, by', cx, cy, px, py] []) = p.2 := by
 obtain ⟨_, _, i1, i2, i3⟩ := check_ok hc
 have hr := rad_le (k := k) (bx := bx) (by' := by') i1 i3
 have e4 : (e7 4 t).den IP (envOf [k, ax, ay, bx, by', cx, cy, px, py] []) = checkZ k ax ay bx by' cx cy := by unfold e7; rw [T.den_app, T.dens_cons, ht]; rfl
 have e5 : (e7 5 t).den IP (envOf [k, ax, ay, bx, by', cx, cy, px, py] []) = radiusZ k ax ay bx by' cx cy := by unfold e7; rw [T.den_app, T.dens_cons, ht]; rfl
 have e6 : (B.app 6 p2).den IP (envOf [k, ax, ay, bx, by', cx, cy, px, py] []) = true := decide_eq_true hp
 refine fapp (fcons (B.eq_t.2 (by rw [e4]; exact hc)) (fcons e6 fnil)) (fapp (fcons (B.lt_f.2 (by rw [e5]; exact hr.1)) (fcons (B.lt_f.2 (by rw [e5]; exact hr.2)) fnil)) (fapp (rg_ok i1.1 i1.2.1) (fapp (rg_ok i1.2.2.1 i1.2.2.2) (fapp (rg_ok i2.1 i2.2.1) (fapp (rg_ok i2.2.2.1 i2.2.2.2) (fapp (rg_ok i3.1 i3.2.1) (fapp (rg_ok i3.2.2.1 i3.2.2.2) (fapp (rg_ok hp.1 hp.2.1) (rg_ok hp.2.2.1 hp.2.2.2)))))))))
theorem pt0 (k ax ay bx by' cx cy px py : Int) (h : checkZ k ax ay bx by' cx cy ≠ 0 ∨ ¬ rightP px py) : ptZ k ax ay bx by' cx cy px py = noPt := if_pos h
theorem pt1a {ax ay bx by' cx cy px py : Int} (hc : checkZ 1 ax ay bx by' cx cy = 0) (hp : rightP px py) (h : ¬ 0 < dotL ax ay bx by' px py) : ptZ 1 ax ay bx by' cx cy px py = endZ ax ay px py := by
 unfold ptZ; rw [if_neg (fun h => h.elim (fun h => h hc) fun h => h hp), if_pos rfl, if_pos h]
theorem pt1b {ax ay bx by' cx cy px py : Int} (hc : checkZ 1 ax ay bx by' cx cy = 0) (hp : rightP px py) (h : 0 < dotL ax ay bx by' px py) (h2 : ¬ dotL ax ay bx by' px py < sqL ax ay bx by') : ptZ 1 ax ay bx by' cx cy px py = endZ bx by' px py := by
 unfold ptZ; rw [if_neg (fun h => h.elim (fun h => h hc) fun h => h hp), if_pos rfl, if_neg (fun g => g h), if_pos h2]
theorem pt1c {ax ay bx by' cx cy px py : Int} (hc : checkZ 1 ax ay bx by' cx cy = 0) (hp : rightP px py) (h : 0 < dotL ax ay bx by' px py) (h2 : dotL ax ay bx by' px py < sqL ax ay bx by') : ptZ 1 ax ay bx by' cx cy px py = footZ ax ay bx by' px py := by
 unfold ptZ; rw [if_neg (fun h => h.elim (fun h => h hc) fun h => h hp), if_pos rfl, if_neg (fun g => g h), if_neg (fun g => g h2)]
theorem pt2 {ax ay bx by' cx cy px py : Int} (hc : checkZ 2 ax ay bx by' cx cy = 0) (hp : rightP px py) : ptZ 2 ax ay bx by' cx cy px py = arcPt (radiusZ 2 ax ay bx by' cx cy) ax ay bx by' cx cy px py (inQ (ax - cx) (ay - cy) (bx - cx) (by' - cy) (px - cx) (py - cy)) := by
 unfold ptZ; rw [if_neg (fun h => h.elim (fun h => h hc) fun h => h hp), if_neg (by decide), if_pos rfl]
theorem pt3 {ax ay bx by' cx cy px py : Int} (hc : checkZ 3 ax ay bx by' cx cy = 0) (hp : rightP px py) : ptZ 3 ax ay bx by' cx cy px py = arcPt (radiusZ 3 ax ay bx by' cx cy) ax ay bx by' cx cy px py (inQ (bx - cx) (by' - cy) (ax - cx) (ay - cy) (px - cx) (py - cy)) := by
 unfold ptZ; rw [if_neg (fun h => h.elim (fun h => h hc) fun h => h hp), if_neg (by decide), if_neg (by decide)]
theorem aE_v (k ax ay bx by' cx cy px py : Int) (t : T) (ht : t.den IP (envOf [k, ax, ay, bx, by', cx, cy, px, py] []) = k) {vs : Array Value} (hvs : vs = #[.agg #[.int .i64 k, .int .i64 ax, .int .i64 ay, .int .i64 bx, .int .i64 by', .int .i64 cx, .int .i64 cy], .agg #[.int .i64 px, .int .i64 py]]) : ∀ β : Nat → Nat, (∀ i v, ([] : List Value)[i]? = some v → IP.opq.dec (β i) = v) → ((aE t).map (V.den IP (envOf [k, ax, ay, bx, by', cx, cy, px, py] []) β)).toArray = vs := by
 intro β _
 subst hvs
 simp only [aE, List.map_cons, List.map_nil, V.den, cellsOf, C.den, ht]
 rfl
theorem nou {w : World} {ρ : Env} : ∀ i v, ([] : List Value)[i]? = some v → U32s w.heap.size w v (digs (ρ.i i).natAbs) ∧ (ρ.i i).natAbs < B32 ^ 64 := fun i v h => by cases i <;> cases h
def vp0aT : Tree RT :=
 (.leaf noR)
set_option maxRecDepth 1000000 in
theorem vp0a_tree : resR (execF Tryz.prog ctVp 20 13 (aE (.var 0)) (startN 0 ⟨k0a, [], 0⟩)) = vp0aT := by kernel_rfl
def vp0bT : Tree RT :=
 (.leaf noR)
set_option maxRecDepth 1000000 in
theorem vp0b_tree : resR (execF Tryz.prog ctVp 20 13 (aE (.var 0)) (startN 0 ⟨k0b, [], 0⟩)) = vp0bT := by kernel_rfl
def vp1aT : Tree RT :=
 (.leaf (ptR (.lit 0) (1) (sq2 1 2) (.lit 1) (.var 1) (.var 2) (.lit 0) (.lit 0) (.lit 0) (.lit 1) (.lit 0)))
set_option maxRecDepth 1000000 in
theorem vp1a_tree : resR (execF Tryz.prog ctVp 20 13 (aE (.lit 1)) (startN 0 ⟨k1a, [], 0⟩)) = vp1aT := by kernel_rfl
def vp1bT : Tree RT :=
 (.leaf (ptR (.lit 0) (1) (sq2 3 4) (.lit 1) (.var 3) (.var 4) (.lit 0) (.lit 0) (.lit 0) (.lit 1) (.lit 0)))
set_option maxRecDepth 1000000 in
theorem vp1b_tree : resR (execF Tryz.prog ctVp 20 13 (aE (.lit 1)) (startN 0 ⟨k1b, [], 0⟩)) = vp1bT := by kernel_rfl
def vp1cT : Tree RT :=
 (.leaf (ptR (.lit 0) (1) (.bin .mul (.bin .sub (.bin .mul (sbT 3 1) (sbT 8 2)) (.bin .mul (sbT 4 2) (sbT 7 1))) (.bin .sub (.bin .mul (sbT 3 1) (sbT 8 2)) (.bin .mul (sbT 4 2) (sbT 7 1)))) (.bin .add (.bin .mul (sbT 3 1) (sbT 3 1)) (.bin .mul (sbT 4 2) (sbT 4 2))) (.var 1) (.var 2) (sbT 3 1) (sbT 4 2) (.bin .add (.bin .mul (sbT 7 1) (sbT 3 1)) (.bin .mul (sbT 8 2) (sbT 4 2))) (.bin .add (.bin .mul (sbT 3 1) (sbT 3 1)) (.bin .mul (sbT 4 2) (sbT 4 2))) (.lit 0)))
set_option maxRecDepth 1000000 in
theorem vp1c_tree : resR (execF Tryz.prog ctVp 20 13 (aE (.lit 1)) (startN 0 ⟨k1c, [], 0⟩)) = vp1cT := by kernel_rfl
def vp2T : Tree RT :=
 (.node (.eq (sbT 7 5) (.lit 0))
 (.node (.eq (sbT 8 6) (.lit 0))
 (.node (.lt (sq2 3 4) (sq2 1 2))
 (.leaf (ptR (.lit 0) (1) (sq2 3 4) (.lit 1) (.var 3) (.var 4) (.lit 0) (.lit 0) (.lit 0) (.lit 1) (.lit 0)))
 (.leaf (ptR (.lit 0) (1) (sq2 1 2) (.lit 1) (.var 1) (.var 2) (.lit 0) (.lit 0) (.lit 0) (.lit 1) (.lit 0))))
 (.node (.lt (.bin .sub (.bin .mul (sbT 1 5) (sbT 8 6)) (.bin .mul (sbT 2 6) (sbT 7 5))) (.lit 0))
 (.node (.lt (sq2 3 4) (sq2 1 2))
 (.leaf (ptR (.lit 0) (1) (sq2 3 4) (.lit 1) (.var 3) (.var 4) (.lit 0) (.lit 0) (.lit 0) (.lit 1) (.lit 0)))
 (.leaf (ptR (.lit 0) (1) (sq2 1 2) (.lit 1) (.var 1) (.var 2) (.lit 0) (.lit 0) (.lit 0) (.lit 1) (.lit 0))))
 (.node (.lt (.bin .sub (.bin .mul (sbT 7 5) (sbT 4 6)) (.bin .mul (sbT 8 6) (sbT 3 5))) (.lit 0))
 (.node (.lt (sq2 3 4) (sq2 1 2))
 (.leaf (ptR (.lit 0) (1) (sq2 3 4) (.lit 1) (.var 3) (.var 4) (.lit 0) (.lit 0) (.lit 0) (.lit 1) (.lit 0)))
 (.leaf (ptR (.lit 0) (1) (sq2 1 2) (.lit 1) (.var 1) (.var 2) (.lit 0) (.lit 0) (.lit 0) (.lit 1) (.lit 0))))
 (.node (.lt (sq2 5 6) (.bin .mul (.app 5 (.cons (.lit 2) (.cons (.var 1) (.cons (.var 2) (.cons (.var 3) (.cons (.var 4) (.cons (.var 5) (.cons (.var 6) .nil)))))))) (.app 5 (.cons (.lit 2) (.cons (.var 1) (.cons (.var 2) (.cons (.var 3) (.cons (.var 4) (.cons (.var 5) (.cons (.var 6) .nil))))))))))
 (.leaf (ptR (.app 5 (.cons (.lit 2) (.cons (.var 1) (.cons (.var 2) (.cons (.var 3) (.cons (.var 4) (.cons (.var 5) (.cons (.var 6) .nil)))))))) (-1) (sq2 5 6) (.lit 1) (.var 5) (.var 6) (sbT 7 5) (sbT 8 6) (.lit 0) (.lit 0) (.app 5 (.cons (.lit 2) (.cons (.var 1) (.cons (.var 2) (.cons (.var 3) (.cons (.var 4) (.cons (.var 5) (.cons (.var 6) .nil))))))))))
 (.leaf (ptR (.bin .sub (.lit 0) (.app 5 (.cons (.lit 2) (.cons (.var 1) (.cons (.var 2) (.cons (.var 3) (.cons (.var 4) (.cons (.var 5) (.cons (.var 6) .nil))))))))) (1) (sq2 5 6) (.lit 1) (.var 5) (.var 6) (sbT 7 5) (sbT 8 6) (.lit 0) (.lit 0) (.app 5 (.cons (.lit 2) (.cons (.var 1) (.cons (.var 2) (.cons (.var 3) (.cons (.var 4) (.cons (.var 5) (.cons (.var 6) .nil))))))))))))))
 (.node (.lt (.bin .sub (.bin .mul (sbT 1 5) (sbT 8 6)) (.bin .mul (sbT 2 6) (sbT 7 5))) (.lit 0))
 (.node (.lt (sq2 3 4) (sq2 1 2))
 (.leaf (ptR (.lit 0) (1) (sq2 3 4) (.lit 1) (.var 3) (.var 4) (.lit 0) (.lit 0) (.lit 0) (.lit 1) (.lit 0)))
 (.leaf (ptR (.lit 0) (1) (sq2 1 2) (.lit 1) (.var 1) (.var 2) (.lit 0) (.lit 0) (.lit 0) (.lit 1) (.lit 0))))
 (.node (.lt (.bin .sub (.bin .mul (sbT 7 5) (sbT 4 6)) (.bin .mul (sbT 8 6) (sbT 3 5))) (.lit 0))
 (.node (.lt (sq2 3 4) (sq2 1 2))
 (.leaf (ptR (.lit 0) (1) (sq2 3 4) (.lit 1) (.var 3) (.var 4) (.lit 0) (.lit 0) (.lit 0) (.lit 1) (.lit 0)))
 (.leaf (ptR (.lit 0) (1) (sq2 1 2) (.lit 1) (.var 1) (.var 2) (.lit 0) (.lit 0) (.lit 0) (.lit 1) (.lit 0))))
 (.node (.lt (sq2 5 6) (.bin .mul (.app 5 (.cons (.lit 2) (.cons (.var 1) (.cons (.var 2) (.cons (.var 3) (.cons (.var 4) (.cons (.var 5) (.cons (.var 6) .nil)))))))) (.app 5 (.cons (.lit 2) (.cons (.var 1) (.cons (.var 2) (.cons (.var 3) (.cons (.var 4) (.cons (.var 5) (.cons (.var 6) .nil))))))))))
 (.leaf (ptR (.app 5 (.cons (.lit 2) (.cons (.var 1) (.cons (.var 2) (.cons (.var 3) (.cons (.var 4) (.cons (.var 5) (.cons (.var 6) .nil)))))))) (-1) (sq2 5 6) (.lit 1) (.var 5) (.var 6) (sbT 7 5) (sbT 8 6) (.lit 0) (.lit 0) (.app 5 (.cons (.lit 2) (.cons (.var 1) (.cons (.var 2) (.cons (.var 3) (.cons (.var 4) (.cons (.var 5) (.cons (.var 6) .nil))))))))))
 (.leaf (ptR (.bin .sub (.lit 0) (.app 5 (.cons (.lit 2) (.cons (.var 1) (.cons (.var 2) (.cons (.var 3) (.cons (.var 4) (.cons (.var 5) (.cons (.var 6) .nil))))))))) (1) (sq2 5 6) (.lit 1) (.var 5) (.var 6) (sbT 7 5) (sbT 8 6) (.lit 0) (.lit 0) (.app 5 (.cons (.lit 2) (.cons (.var 1) (.cons (.var 2) (.cons (.var 3) (.cons (.var 4) (.cons (.var 5) (.cons (.var 6) .nil))))))))))))))
set_option maxRecDepth 1000000 in
theorem vp2_tree : resR (execF Tryz.prog ctVp 20 13 (aE (.lit 2)) (startN 0 ⟨kE (.lit 2), [], 0⟩)) = vp2T := by kernel_rfl
def vp3T : Tree RT :=
 (.node (.eq (sbT 7 5) (.lit 0))
 (.node (.eq (sbT 8 6) (.lit 0))
 (.node (.lt (sq2 3 4) (sq2 1 2))
 (.leaf (ptR (.lit 0) (1) (sq2 3 4) (.lit 1) (.var 3) (.var 4) (.lit 0) (.lit 0) (.lit 0) (.lit 1) (.lit 0)))
 (.leaf (ptR (.lit 0) (1) (sq2 1 2) (.lit 1) (.var 1) (.var 2) (.lit 0) (.lit 0) (.lit 0) (.lit 1) (.lit 0))))
 (.node (.lt (.bin .sub (.bin .mul (sbT 3 5) (sbT 8 6)) (.bin .mul (sbT 4 6) (sbT 7 5))) (.lit 0))
 (.node (.lt (sq2 3 4) (sq2 1 2))
 (.leaf (ptR (.lit 0) (1) (sq2 3 4) (.lit 1) (.var 3) (.var 4) (.lit 0) (.lit 0) (.lit 0) (.lit 1) (.lit 0)))
 (.leaf (ptR (.lit 0) (1) (sq2 1 2) (.lit 1) (.var 1) (.var 2) (.lit 0) (.lit 0) (.lit 0) (.lit 1) (.lit 0))))
 (.node (.lt (.bin .sub (.bin .mul (sbT 7 5) (sbT 2 6)) (.bin .mul (sbT 8 6) (sbT 1 5))) (.lit 0))
 (.node (.lt (sq2 3 4) (sq2 1 2))
 (.leaf (ptR (.lit 0) (1) (sq2 3 4) (.lit 1) (.var 3) (.var 4) (.lit 0) (.lit 0) (.lit 0) (.lit 1) (.lit 0)))
 (.leaf (ptR (.lit 0) (1) (sq2 1 2) (.lit 1) (.var 1) (.var 2) (.lit 0) (.lit 0) (.lit 0) (.lit 1) (.lit 0))))
 (.node (.lt (sq2 5 6) (.bin .mul (.app 5 (.cons (.lit 3) (.cons (.var 1) (.cons (.var 2) (.cons (.var 3) (.cons (.var 4) (.cons (.var 5) (.cons (.var 6) .nil)))))))) (.app 5 (.cons (.lit 3) (.cons (.var 1) (.cons (.var 2) (.cons (.var 3) (.cons (.var 4) (.cons (.var 5) (.cons (.var 6) .nil))))))))))
 (.leaf (ptR (.app 5 (.cons (.lit 3) (.cons (.var 1) (.cons (.var 2) (.cons (.var 3) (.cons (.var 4) (.cons (.var 5) (.cons (.var 6) .nil)))))))) (-1) (sq2 5 6) (.lit 1) (.var 5) (.var 6) (sbT 7 5) (sbT 8 6) (.lit 0) (.lit 0) (.app 5 (.cons (.lit 3) (.cons (.var 1) (.cons (.var 2) (.cons (.var 3) (.cons (.var 4) (.cons (.var 5) (.cons (.var 6) .nil))))))))))
 (.leaf (ptR (.bin .sub (.lit 0) (.app 5 (.cons (.lit 3) (.cons (.var 1) (.cons (.var 2) (.cons (.var 3) (.cons (.var 4) (.cons (.var 5) (.cons (.var 6) .nil))))))))) (1) (sq2 5 6) (.lit 1) (.var 5) (.var 6) (sbT 7 5) (sbT 8 6) (.lit 0) (.lit 0) (.app 5 (.cons (.lit 3) (.cons (.var 1) (.cons (.var 2) (.cons (.var 3) (.cons (.var 4) (.cons (.var 5) (.cons (.var 6) .nil))))))))))))))
 (.node (.lt (.bin .sub (.bin .mul (sbT 3 5) (sbT 8 6)) (.bin .mul (sbT 4 6) (sbT 7 5))) (.lit 0))
 (.node (.lt (sq2 3 4) (sq2 1 2))
 (.leaf (ptR (.lit 0) (1) (sq2 3 4) (.lit 1) (.var 3) (.var 4) (.lit 0) (.lit 0) (.lit 0) (.lit 1) (.lit 0)))
 (.leaf (ptR (.lit 0) (1) (sq2 1 2) (.lit 1) (.var 1) (.var 2) (.lit 0) (.lit 0) (.lit 0) (.lit 1) (.lit 0))))
 (.node (.lt (.bin .sub (.bin .mul (sbT 7 5) (sbT 2 6)) (.bin .mul (sbT 8 6) (sbT 1 5))) (.lit 0))
 (.node (.lt (sq2 3 4) (sq2 1 2))
 (.leaf (ptR (.lit 0) (1) (sq2 3 4) (.lit 1) (.var 3) (.var 4) (.lit 0) (.lit 0) (.lit 0) (.lit 1) (.lit 0)))
 (.leaf (ptR (.lit 0) (1) (sq2 1 2) (.lit 1) (.var 1) (.var 2) (.lit 0) (.lit 0) (.lit 0) (.lit 1) (.lit 0))))
 (.node (.lt (sq2 5 6) (.bin .mul (.app 5 (.cons (.lit 3) (.cons (.var 1) (.cons (.var 2) (.cons (.var 3) (.cons (.var 4) (.cons (.var 5) (.cons (.var 6) .nil)))))))) (.app 5 (.cons (.lit 3) (.cons (.var 1) (.cons (.var 2) (.cons (.var 3) (.cons (.var 4) (.cons (.var 5) (.cons (.var 6) .nil))))))))))
 (.leaf (ptR (.app 5 (.cons (.lit 3) (.cons (.var 1) (.cons (.var 2) (.cons (.var 3) (.cons (.var 4) (.cons (.var 5) (.cons (.var 6) .nil)))))))) (-1) (sq2 5 6) (.lit 1) (.var 5) (.var 6) (sbT 7 5) (sbT 8 6) (.lit 0) (.lit 0) (.app 5 (.cons (.lit 3) (.cons (.var 1) (.cons (.var 2) (.cons (.var 3) (.cons (.var 4) (.cons (.var 5) (.cons (.var 6) .nil))))))))))
 (.leaf (ptR (.bin .sub (.lit 0) (.app 5 (.cons (.lit 3) (.cons (.var 1) (.cons (.var 2) (.cons (.var 3) (.cons (.var 4) (.cons (.var 5) (.cons (.var 6) .nil))))))))) (1) (sq2 5 6) (.lit 1) (.var 5) (.var 6) (sbT 7 5) (sbT 8 6) (.lit 0) (.lit 0) (.app 5 (.cons (.lit 3) (.cons (.var 1) (.cons (.var 2) (.cons (.var 3) (.cons (.var 4) (.cons (.var 5) (.cons (.var 6) .nil))))))))))))))
set_option maxRecDepth 1000000 in
theorem vp3_tree : resR (execF Tryz.prog ctVp 20 13 (aE (.lit 3)) (startN 0 ⟨kE (.lit 3), [], 0⟩)) = vp3T := by kernel_rfl
def rp0aT : Tree RT :=
 (.node (.app 6 (.cons (.var 7) (.cons (.var 8) .nil)))
 (.leaf noR)
 (.leaf noR))
set_option maxRecDepth 1000000 in
theorem rp0a_tree : resR (execF Tryz.prog ctWp 20 14 (aE (.var 0)) (startN 0 ⟨k0a, [], 0⟩)) = rp0aT := by kernel_rfl
def rp0bT : Tree RT :=
 (.leaf noR)
set_option maxRecDepth 1000000 in
theorem rp0b_tree : resR (execF Tryz.prog ctWp 20 14 (aE (.var 0)) (startN 0 ⟨k0b, [], 0⟩)) = rp0bT := by kernel_rfl
def rp1aT : Tree RT :=
 (.leaf (ptR (.lit 0) (1) (sq2 1 2) (.lit 1) (.var 1) (.var 2) (.lit 0) (.lit 0) (.lit 0) (.lit 1) (.lit 0)))
set_option maxRecDepth 1000000 in
theorem rp1a_tree : resR (execF Tryz.prog ctWp 20 14 (aE (.lit 1)) (startN 0 ⟨k1a, [], 0⟩)) = rp1aT := by kernel_rfl
def rp1bT : Tree RT :=
 (.leaf (ptR (.lit 0) (1) (sq2 3 4) (.lit 1) (.var 3) (.var 4) (.lit 0) (.lit 0) (.lit 0) (.lit 1) (.lit 0)))
set_option maxRecDepth 1000000 in
theorem rp1b_tree : resR (execF Tryz.prog ctWp 20 14 (aE (.lit 1)) (startN 0 ⟨k1b, [], 0⟩)) = rp1bT := by kernel_rfl
def rp1cT : Tree RT :=
 (.leaf (ptR (.lit 0) (1) (.bin .mul (.bin .sub (.bin .mul (sbT 3 1) (sbT 8 2)) (.bin .mul (sbT 4 2) (sbT 7 1))) (.bin .sub (.bin .mul (sbT 3 1) (sbT 8 2)) (.bin .mul (sbT 4 2) (sbT 7 1)))) (.bin .add (.bin .mul (sbT 3 1) (sbT 3 1)) (.bin .mul (sbT 4 2) (sbT 4 2))) (.var 1) (.var 2) (sbT 3 1) (sbT 4 2) (.bin .add (.bin .mul (sbT 7 1) (sbT 3 1)) (.bin .mul (sbT 8 2) (sbT 4 2))) (.bin .add (.bin .mul (sbT 3 1) (sbT 3 1)) (.bin .mul (sbT 4 2) (sbT 4 2))) (.lit 0)))
set_option maxRecDepth 1000000 in
theorem rp1c_tree : resR (execF Tryz.prog ctWp 20 14 (aE (.lit 1)) (startN 0 ⟨k1c, [], 0⟩)) = rp1cT := by kernel_rfl
def rp2T : Tree RT :=
 (.node (.eq (sbT 7 5) (.lit 0))
 (.node (.eq (sbT 8 6) (.lit 0))
 (.node (.lt (sq2 3 4) (sq2 1 2))
 (.leaf (ptR (.lit 0) (1) (sq2 3 4) (.lit 1) (.var 3) (.var 4) (.lit 0) (.lit 0) (.lit 0) (.lit 1) (.lit 0)))
 (.leaf (ptR (.lit 0) (1) (sq2 1 2) (.lit 1) (.var 1) (.var 2) (.lit 0) (.lit 0) (.lit 0) (.lit 1) (.lit 0))))
 (.node (.lt (.bin .sub (.bin .mul (sbT 1 5) (sbT 8 6)) (.bin .mul (sbT 2 6) (sbT 7 5))) (.lit 0))
 (.node (.lt (sq2 3 4) (sq2 1 2))
 (.leaf (ptR (.lit 0) (1) (sq2 3 4) (.lit 1) (.var 3) (.var 4) (.lit 0) (.lit 0) (.lit 0) (.lit 1) (.lit 0)))
 (.leaf (ptR (.lit 0) (1) (sq2 1 2) (.lit 1) (.var 1) (.var 2) (.lit 0) (.lit 0) (.lit 0) (.lit 1) (.lit 0))))
 (.node (.lt (.bin .sub (.bin .mul (sbT 7 5) (sbT 4 6)) (.bin .mul (sbT 8 6) (sbT 3 5))) (.lit 0))
 (.node (.lt (sq2 3 4) (sq2 1 2))
 (.leaf (ptR (.lit 0) (1) (sq2 3 4) (.lit 1) (.var 3) (.var 4) (.lit 0) (.lit 0) (.lit 0) (.lit 1) (.lit 0)))
 (.leaf (ptR (.lit 0) (1) (sq2 1 2) (.lit 1) (.var 1) (.var 2) (.lit 0) (.lit 0) (.lit 0) (.lit 1) (.lit 0))))
 (.node (.lt (sq2 5 6) (.bin .mul (.app 5 (.cons (.lit 2) (.cons (.var 1) (.cons (.var 2) (.cons (.var 3) (.cons (.var 4) (.cons (.var 5) (.cons (.var 6) .nil)))))))) (.app 5 (.cons (.lit 2) (.cons (.var 1) (.cons (.var 2) (.cons (.var 3) (.cons (.var 4) (.cons (.var 5) (.cons (.var 6) .nil))))))))))
 (.leaf (ptR (.app 5 (.cons (.lit 2) (.cons (.var 1) (.cons (.var 2) (.cons (.var 3) (.cons (.var 4) (.cons (.var 5) (.cons (.var 6) .nil)))))))) (-1) (sq2 5 6) (.lit 1) (.var 5) (.var 6) (sbT 7 5) (sbT 8 6) (.lit 0) (.lit 0) (.app 5 (.cons (.lit 2) (.cons (.var 1) (.cons (.var 2) (.cons (.var 3) (.cons (.var 4) (.cons (.var 5) (.cons (.var 6) .nil))))))))))
 (.leaf (ptR (.bin .sub (.lit 0) (.app 5 (.cons (.lit 2) (.cons (.var 1) (.cons (.var 2) (.cons (.var 3) (.cons (.var 4) (.cons (.var 5) (.cons (.var 6) .nil))))))))) (1) (sq2 5 6) (.lit 1) (.var 5) (.var 6) (sbT 7 5) (sbT 8 6) (.lit 0) (.lit 0) (.app 5 (.cons (.lit 2) (.cons (.var 1) (.cons (.var 2) (.cons (.var 3) (.cons (.var 4) (.cons (.var 5) (.cons (.var 6) .nil))))))))))))))
 (.node (.lt (.bin .sub (.bin .mul (sbT 1 5) (sbT 8 6)) (.bin .mul (sbT 2 6) (sbT 7 5))) (.lit 0))
 (.node (.lt (sq2 3 4) (sq2 1 2))
 (.leaf (ptR (.lit 0) (1) (sq2 3 4) (.lit 1) (.var 3) (.var 4) (.lit 0) (.lit 0) (.lit 0) (.lit 1) (.lit 0)))
 (.leaf (ptR (.lit 0) (1) (sq2 1 2) (.lit 1) (.var 1) (.var 2) (.lit 0) (.lit 0) (.lit 0) (.lit 1) (.lit 0))))
 (.node (.lt (.bin .sub (.bin .mul (sbT 7 5) (sbT 4 6)) (.bin .mul (sbT 8 6) (sbT 3 5))) (.lit 0))
 (.node (.lt (sq2 3 4) (sq2 1 2))
 (.leaf (ptR (.lit 0) (1) (sq2 3 4) (.lit 1) (.var 3) (.var 4) (.lit 0) (.lit 0) (.lit 0) (.lit 1) (.lit 0)))
 (.leaf (ptR (.lit 0) (1) (sq2 1 2) (.lit 1) (.var 1) (.var 2) (.lit 0) (.lit 0) (.lit 0) (.lit 1) (.lit 0))))
 (.node (.lt (sq2 5 6) (.bin .mul (.app 5 (.cons (.lit 2) (.cons (.var 1) (.cons (.var 2) (.cons (.var 3) (.cons (.var 4) (.cons (.var 5) (.cons (.var 6) .nil)))))))) (.app 5 (.cons (.lit 2) (.cons (.var 1) (.cons (.var 2) (.cons (.var 3) (.cons (.var 4) (.cons (.var 5) (.cons (.var 6) .nil))))))))))
 (.leaf (ptR (.app 5 (.cons (.lit 2) (.cons (.var 1) (.cons (.var 2) (.cons (.var 3) (.cons (.var 4) (.cons (.var 5) (.cons (.var 6) .nil)))))))) (-1) (sq2 5 6) (.lit 1) (.var 5) (.var 6) (sbT 7 5) (sbT 8 6) (.lit 0) (.lit 0) (.app 5 (.cons (.lit 2) (.cons (.var 1) (.cons (.var 2) (.cons (.var 3) (.cons (.var 4) (.cons (.var 5) (.cons (.var 6) .nil))))))))))
 (.leaf (ptR (.bin .sub (.lit 0) (.app 5 (.cons (.lit 2) (.cons (.var 1) (.cons (.var 2) (.cons (.var 3) (.cons (.var 4) (.cons (.var 5) (.cons (.var 6) .nil))))))))) (1) (sq2 5 6) (.lit 1) (.var 5) (.var 6) (sbT 7 5) (sbT 8 6) (.lit 0) (.lit 0) (.app 5 (.cons (.lit 2) (.cons (.var 1) (.cons (.var 2) (.cons (.var 3) (.cons (.var 4) (.cons (.var 5) (.cons (.var 6) .nil))))))))))))))
set_option maxRecDepth 1000000 in
theorem rp2_tree : resR (execF Tryz.prog ctWp 20 14 (aE (.lit 2)) (startN 0 ⟨kE (.lit 2), [], 0⟩)) = rp2T := by kernel_rfl
def rp3T : Tree RT :=
 (.node (.eq (sbT 7 5) (.lit 0))
 (.node (.eq (sbT 8 6) (.lit 0))
 (.node (.lt (sq2 3 4) (sq2 1 2))
 (.leaf (ptR (.lit 0) (1) (sq2 3 4) (.lit 1) (.var 3) (.var 4) (.lit 0) (.lit 0) (.lit 0) (.lit 1) (.lit 0)))
 (.leaf (ptR (.lit 0) (1) (sq2 1 2) (.lit 1) (.var 1) (.var 2) (.lit 0) (.lit 0) (.lit 0) (.lit 1) (.lit 0))))
 (.node (.lt (.bin .sub (.bin .mul (sbT 3 5) (sbT 8 6)) (.bin .mul (sbT 4 6) (sbT 7 5))) (.lit 0))
 (.node (.lt (sq2 3 4) (sq2 1 2))
 (.leaf (ptR (.lit 0) (1) (sq2 3 4) (.lit 1) (.var 3) (.var 4) (.lit 0) (.lit 0) (.lit 0) (.lit 1) (.lit 0)))
 (.leaf (ptR (.lit 0) (1) (sq2 1 2) (.lit 1) (.var 1) (.var 2) (.lit 0) (.lit 0) (.lit 0) (.lit 1) (.lit 0))))
 (.node (.lt (.bin .sub (.bin .mul (sbT 7 5) (sbT 2 6)) (.bin .mul (sbT 8 6) (sbT 1 5))) (.lit 0))
 (.node (.lt (sq2 3 4) (sq2 1 2))
 (.leaf (ptR (.lit 0) (1) (sq2 3 4) (.lit 1) (.var 3) (.var 4) (.lit 0) (.lit 0) (.lit 0) (.lit 1) (.lit 0)))
 (.leaf (ptR (.lit 0) (1) (sq2 1 2) (.lit 1) (.var 1) (.var 2) (.lit 0) (.lit 0) (.lit 0) (.lit 1) (.lit 0))))
 (.node (.lt (sq2 5 6) (.bin .mul (.app 5 (.cons (.lit 3) (.cons (.var 1) (.cons (.var 2) (.cons (.var 3) (.cons (.var 4) (.cons (.var 5) (.cons (.var 6) .nil)))))))) (.app 5 (.cons (.lit 3) (.cons (.var 1) (.cons (.var 2) (.cons (.var 3) (.cons (.var 4) (.cons (.var 5) (.cons (.var 6) .nil))))))))))
 (.leaf (ptR (.app 5 (.cons (.lit 3) (.cons (.var 1) (.cons (.var 2) (.cons (.var 3) (.cons (.var 4) (.cons (.var 5) (.cons (.var 6) .nil)))))))) (-1) (sq2 5 6) (.lit 1) (.var 5) (.var 6) (sbT 7 5) (sbT 8 6) (.lit 0) (.lit 0) (.app 5 (.cons (.lit 3) (.cons (.var 1) (.cons (.var 2) (.cons (.var 3) (.cons (.var 4) (.cons (.var 5) (.cons (.var 6) .nil))))))))))
 (.leaf (ptR (.bin .sub (.lit 0) (.app 5 (.cons (.lit 3) (.cons (.var 1) (.cons (.var 2) (.cons (.var 3) (.cons (.var 4) (.cons (.var 5) (.cons (.var 6) .nil))))))))) (1) (sq2 5 6) (.lit 1) (.var 5) (.var 6) (sbT 7 5) (sbT 8 6) (.lit 0) (.lit 0) (.app 5 (.cons (.lit 3) (.cons (.var 1) (.cons (.var 2) (.cons (.var 3) (.cons (.var 4) (.cons (.var 5) (.cons (.var 6) .nil))))))))))))))
 (.node (.lt (.bin .sub (.bin .mul (sbT 3 5) (sbT 8 6)) (.bin .mul (sbT 4 6) (sbT 7 5))) (.lit 0))
 (.node (.lt (sq2 3 4) (sq2 1 2))
 (.leaf (ptR (.lit 0) (1) (sq2 3 4) (.lit 1) (.var 3) (.var 4) (.lit 0) (.lit 0) (.lit 0) (.lit 1) (.lit 0)))
 (.leaf (ptR (.lit 0) (1) (sq2 1 2) (.lit 1) (.var 1) (.var 2) (.lit 0) (.lit 0) (.lit 0) (.lit 1) (.lit 0))))
 (.node (.lt (.bin .sub (.bin .mul (sbT 7 5) (sbT 2 6)) (.bin .mul (sbT 8 6) (sbT 1 5))) (.lit 0))
 (.node (.lt (sq2 3 4) (sq2 1 2))
 (.leaf (ptR (.lit 0) (1) (sq2 3 4) (.lit 1) (.var 3) (.var 4) (.lit 0) (.lit 0) (.lit 0) (.lit 1) (.lit 0)))
 (.leaf (ptR (.lit 0) (1) (sq2 1 2) (.lit 1) (.var 1) (.var 2) (.lit 0) (.lit 0) (.lit 0) (.lit 1) (.lit 0))))
 (.node (.lt (sq2 5 6) (.bin .mul (.app 5 (.cons (.lit 3) (.cons (.var 1) (.cons (.var 2) (.cons (.var 3) (.cons (.var 4) (.cons (.var 5) (.cons (.var 6) .nil)))))))) (.app 5 (.cons (.lit 3) (.cons (.var 1) (.cons (.var 2) (.cons (.var 3) (.cons (.var 4) (.cons (.var 5) (.cons (.var 6) .nil))))))))))
 (.leaf (ptR (.app 5 (.cons (.lit 3) (.cons (.var 1) (.cons (.var 2) (.cons (.var 3) (.cons (.var 4) (.cons (.var 5) (.cons (.var 6) .nil)))))))) (-1) (sq2 5 6) (.lit 1) (.var 5) (.var 6) (sbT 7 5) (sbT 8 6) (.lit 0) (.lit 0) (.app 5 (.cons (.lit 3) (.cons (.var 1) (.cons (.var 2) (.cons (.var 3) (.cons (.var 4) (.cons (.var 5) (.cons (.var 6) .nil))))))))))
 (.leaf (ptR (.bin .sub (.lit 0) (.app 5 (.cons (.lit 3) (.cons (.var 1) (.cons (.var 2) (.cons (.var 3) (.cons (.var 4) (.cons (.var 5) (.cons (.var 6) .nil))))))))) (1) (sq2 5 6) (.lit 1) (.var 5) (.var 6) (sbT 7 5) (sbT 8 6) (.lit 0) (.lit 0) (.app 5 (.cons (.lit 3) (.cons (.var 1) (.cons (.var 2) (.cons (.var 3) (.cons (.var 4) (.cons (.var 5) (.cons (.var 6) .nil))))))))))))))
set_option maxRecDepth 1000000 in
theorem rp3_tree : resR (execF Tryz.prog ctWp 20 14 (aE (.lit 3)) (startN 0 ⟨kE (.lit 3), [], 0⟩)) = rp3T := by kernel_rfl
end Go.Proofs.YtgnogdncoljldaaGreat.Sx

