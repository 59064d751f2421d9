/- Moved edges, as motions move them, have as many common points. -/
import Derived.Test.YtmoclgpdcnjacaaMw
import Derived.Test.YtmoclgpdcnjacaaMj
set_option linter.all false
set_option autoImplicit false
set_option maxHeartbeats 4000000
namespace Go.Proofs.Ytmoclgpdcnjacaa.Sx
open Go Go.RowKit

theorem w1 {n : Int} (h1 : -50000 ≤ n) (h2 : n ≤ 50000) : wrap64 n = n := by unfold wrap64; omega
theorem tu_eq {t x y : Int} (ht : 0 ≤ t ∧ t < 4) (hx : -1000 ≤ x ∧ x ≤ 1000) (hy : -1000 ≤ y ∧ y ≤ 1000) : tuX t x y = (if t = 0 then x else if t = 1 then -y else if t = 2 then -x else y) ∧ tuY t x y = (if t = 0 then y else if t = 1 then x else if t = 2 then -y else -x) := by
  unfold tuX tuY
  rw [w1 (show -50000 ≤ -y by omega) (by omega), w1 (show -50000 ≤ -x by omega) (by omega)]
  constructor <;> (repeat' split) <;> omega
def mi (m : Bool) (x : Int) : Int := if m then -x else x
theorem ap_eq {u v t x y : Int} (m : Bool) (ht : 0 ≤ t ∧ t < 4) (hx : -1000 ≤ x ∧ x ≤ 1000) (hy : -1000 ≤ y ∧ y ≤ 1000) (hu : -1000 ≤ u ∧ u ≤ 1000) (hv : -1000 ≤ v ∧ v ≤ 1000) :
    apX u t m x y = (if t = 0 then mi m x else if t = 1 then -y else if t = 2 then -(mi m x) else y) + u ∧ apY v t m x y = (if t = 0 then y else if t = 1 then mi m x else if t = 2 then -y else -(mi m x)) + v := by
  have hm : miX m x = mi m x := by
    unfold miX mi
    rw [w1 (show -50000 ≤ -x by omega) (by omega)]
  have hb : -1000 ≤ mi m x ∧ mi m x ≤ 1000 := by unfold mi; split <;> omega
  obtain ⟨e1, e2⟩ := tu_eq ht hb hy
  unfold apX apY
  rw [hm, e1, e2]
  constructor
  · refine w1 ?_ ?_ <;> (repeat' split) <;> omega
  · refine w1 ?_ ?_ <;> (repeat' split) <;> omega
theorem opp2 {k : Int} (h1 : 1 ≤ k) (h2 : k ≤ 3) : opp (opp k) = k := by unfold opp; split <;> (try split) <;> omega
namespace Eg
def rot (t : Int) (e : Eg) : Eg := if t = 0 then e else if t = 1 then e.sw.fl else if t = 2 then e.sw.fl.sw.fl else e.fl.sw
def mir (m : Bool) (e : Eg) : Eg := if m then e.fl else e
variable {a b e : Eg}
theorem rot_ok (t : Int) (h : e.ok) : (rot t e).ok := by
  unfold rot
  split
  · exact h
  · split
    · exact fl_ok (sw_ok h)
    · split
      · exact fl_ok (sw_ok (fl_ok (sw_ok h)))
      · exact sw_ok (fl_ok h)
theorem rot_C (t : Int) (ha : a.ok) (hb : b.ok) : C (rot t a) (rot t b) = C a b := by
  unfold rot
  split
  · rfl
  · split
    · rw [fl_C (sw_ok ha) (sw_ok hb), sw_C ha hb]
    · split
      · rw [fl_C (sw_ok (fl_ok (sw_ok ha))) (sw_ok (fl_ok (sw_ok hb))), sw_C (fl_ok (sw_ok ha)) (fl_ok (sw_ok hb)), fl_C (sw_ok ha) (sw_ok hb), sw_C ha hb]
      · rw [sw_C (fl_ok ha) (fl_ok hb), fl_C ha hb]
theorem mir_ok (m : Bool) (h : e.ok) : (mir m e).ok := by
  unfold mir
  split
  · exact fl_ok h
  · exact h
theorem mir_C (m : Bool) (ha : a.ok) (hb : b.ok) : C (mir m a) (mir m b) = C a b := by
  unfold mir
  split
  · exact fl_C ha hb
  · rfl
/-- The fields of an edge that was turned and mirrored. -/
theorem rot_flds {t : Int} (m : Bool) (ht : 0 ≤ t ∧ t < 4) (h1 : 1 ≤ e.k) (h2 : e.k ≤ 3) : rot t (mir m e) = ⟨if m then opp e.k else e.k,
    if t = 0 then mi m e.ax else if t = 1 then -e.ay else if t = 2 then -(mi m e.ax) else e.ay, if t = 0 then e.ay else if t = 1 then mi m e.ax else if t = 2 then -e.ay else -(mi m e.ax),
    if t = 0 then mi m e.bx else if t = 1 then -e.by' else if t = 2 then -(mi m e.bx) else e.by', if t = 0 then e.by' else if t = 1 then mi m e.bx else if t = 2 then -e.by' else -(mi m e.bx),
    if t = 0 then mi m e.cx else if t = 1 then -e.cy else if t = 2 then -(mi m e.cx) else e.cy, if t = 0 then e.cy else if t = 1 then mi m e.cx else if t = 2 then -e.cy else -(mi m e.cx)⟩ := by
  have o := opp2 h1 h2
  have h4 : t = 0 ∨ t = 1 ∨ t = 2 ∨ t = 3 := by omega
  cases m <;> rcases h4 with rfl | rfl | rfl | rfl <;> simp [rot, mir, sw, fl, mi, o]
/-- A motion, as it moves an edge. -/
theorem mv_eq {u v t : Int} (m : Bool) (h : e.ok) (ht : 0 ≤ t ∧ t < 4) (hu : -1000 ≤ u ∧ u ≤ 1000) (hv : -1000 ≤ v ∧ v ≤ 1000) (hs : -100 ≤ e.ax ∧ e.ax ≤ 100 ∧ -100 ≤ e.ay ∧ e.ay ≤ 100 ∧ -100 ≤ e.bx ∧ e.bx ≤ 100 ∧ -100 ≤ e.by' ∧ e.by' ≤ 100 ∧ -100 ≤ e.cx ∧ e.cx ≤ 100 ∧ -100 ≤ e.cy ∧ e.cy ≤ 100)
    {K CX CY : Int} (hK : K = if m then opp e.k else e.k) (hC : (e.k = 1 ∧ CX = e.cx ∧ CY = e.cy) ∨ (e.k ≠ 1 ∧ CX = apX u t m e.cx e.cy ∧ CY = apY v t m e.cx e.cy)) :
    sh u v (rot t (mir m e)) = ⟨K, apX u t m e.ax e.ay, apY v t m e.ax e.ay, apX u t m e.bx e.by', apY v t m e.bx e.by', CX, CY⟩ := by
  obtain ⟨a1, a2⟩ := ap_eq (u := u) (v := v) (x := e.ax) (y := e.ay) m ht (by omega) (by omega) hu hv
  obtain ⟨b1, b2⟩ := ap_eq (u := u) (v := v) (x := e.bx) (y := e.by') m ht (by omega) (by omega) hu hv
  obtain ⟨c1, c2⟩ := ap_eq (u := u) (v := v) (x := e.cx) (y := e.cy) m ht (by omega) (by omega) hu hv
  have hko : opp e.k = 1 ↔ e.k = 1 := opp_ok h
  rw [rot_flds m ht h.1 h.2.1, a1, a2, b1, b2]
  unfold sh
  dsimp only
  have hk1 : (if m then opp e.k else e.k) = 1 ↔ e.k = 1 := by cases m <;> simp [hko]
  have hcc : e.k = 1 → e.cx = 0 ∧ e.cy = 0 := fun hk => by
    rcases h.2.2.2.2.2 with x | x
    · exact x.2
    · unfold arcP at x; omega
  rcases hC with ⟨k1, r1, r2⟩ | ⟨k1, r1, r2⟩
  · obtain ⟨z1, z2⟩ := hcc k1
    have z3 : mi m 0 = 0 := by unfold mi; split <;> rfl
    rw [if_pos (hk1.2 k1), if_pos (hk1.2 k1), hK, r1, r2, z1, z2, z3]
    simp
  · rw [if_neg (fun x => k1 (hk1.1 x)), if_neg (fun x => k1 (hk1.1 x)), hK, r1, r2, c1, c2]
end Eg
/-- Both moved. -/
theorem count_mv {k ax ay bx by' cx cy k2 px py qx qy rx ry u v t K CX CY K2 RX RY : Int} (m : Bool) (ha : MadeB k ax ay bx by' cx cy) (hb : MadeB k2 px py qx qy rx ry) (ht : 0 ≤ t ∧ t < 4) (hu : -1000 ≤ u ∧ u ≤ 1000) (hv : -1000 ≤ v ∧ v ≤ 1000)
    (hK : K = if m then opp k else k) (hK2 : K2 = if m then opp k2 else k2) (hC : (k = 1 ∧ CX = cx ∧ CY = cy) ∨ (k ≠ 1 ∧ CX = apX u t m cx cy ∧ CY = apY v t m cx cy)) (hR : (k2 = 1 ∧ RX = rx ∧ RY = ry) ∨ (k2 ≠ 1 ∧ RX = apX u t m rx ry ∧ RY = apY v t m rx ry)) :
    countZ K (apX u t m ax ay) (apY v t m ax ay) (apX u t m bx by') (apY v t m bx by') CX CY K2 (apX u t m px py) (apY v t m px py) (apX u t m qx qy) (apY v t m qx qy) RX RY = countZ k ax ay bx by' cx cy k2 px py qx qy rx ry := by
  have oa : (Eg.mk k ax ay bx by' cx cy).ok := ha.1
  have ob : (Eg.mk k2 px py qx qy rx ry).ok := hb.1
  have e1 := Eg.mv_eq (e := ⟨k, ax, ay, bx, by', cx, cy⟩) m oa ht hu hv ha.2 hK hC
  have e2 := Eg.mv_eq (e := ⟨k2, px, py, qx, qy, rx, ry⟩) m ob ht hu hv hb.2 hK2 hR
  have oa2 := Eg.rot_ok t (Eg.mir_ok m oa)
  have ob2 := Eg.rot_ok t (Eg.mir_ok m ob)
  have sok : ∀ {e : Eg}, MadeB e.k e.ax e.ay e.bx e.by' e.cx e.cy → (Eg.sh u v (Eg.rot t (Eg.mir m e))).ok := fun {e} he => by
    have o2 := Eg.rot_ok t (Eg.mir_ok m (show e.ok from he.1))
    have hs := he.2
    rw [Eg.rot_flds m ht he.1.1 he.1.2.1] at o2 ⊢
    have mb : ∀ x : Int, -100 ≤ x → x ≤ 100 → -100 ≤ mi m x ∧ mi m x ≤ 100 := fun x h1 h2 => by unfold mi; split <;> omega
    have m1 := mb e.ax (by omega) (by omega)
    have m2 := mb e.bx (by omega) (by omega)
    have m3 := mb e.cx (by omega) (by omega)
    unfold Eg.ok at o2
    dsimp only at o2
    unfold Eg.sh Eg.ok
    dsimp only
    have h4 : t = 0 ∨ t = 1 ∨ t = 2 ∨ t = 3 := by omega
    by_cases hk : (if m then opp e.k else e.k) = 1
    · rw [if_pos hk, if_pos hk]
      refine ok_shift1 o2 hk ?_ (by omega) (by omega)
      rcases h4 with rfl | rfl | rfl | rfl <;> simp <;> omega
    · rw [if_neg hk, if_neg hk]
      refine ok_shift o2 hk ?_ (by omega) (by omega)
      rcases h4 with rfl | rfl | rfl | rfl <;> simp <;> omega
  have s1 := sok (e := ⟨k, ax, ay, bx, by', cx, cy⟩) ha
  have s2 := sok (e := ⟨k2, px, py, qx, qy, rx, ry⟩) hb
  have hC := Eg.sh_C oa2 ob2 s1 s2
  rw [Eg.rot_C t (Eg.mir_ok m oa) (Eg.mir_ok m ob), Eg.mir_C m oa ob] at hC
  rw [e1] at s1 hC
  rw [e2] at s2 hC
  rw [count_ok s1 s2, count_ok ha.1 hb.1]
  exact hC
/-- In both orders, and turned around. -/
theorem countZ_symm {k ax ay bx by' cx cy k2 px py qx qy rx ry : Int} (ha : okP k ax ay bx by' cx cy) (hb : okP k2 px py qx qy rx ry) : countZ k2 px py qx qy rx ry k ax ay bx by' cx cy = countZ k ax ay bx by' cx cy k2 px py qx qy rx ry := by
  rw [count_ok ha hb, count_ok hb ha]
  exact count_symm
theorem countZ_rev {k ax ay bx by' cx cy k2 px py qx qy rx ry K : Int} (ha : okP k ax ay bx by' cx cy) (hb : okP k2 px py qx qy rx ry) (hK : K = opp k) : countZ K bx by' ax ay cx cy k2 px py qx qy rx ry = countZ k ax ay bx by' cx cy k2 px py qx qy rx ry := by
  subst hK
  rw [count_ok ha hb, count_ok (ok_rev ha) hb]
  exact count_rev ha
theorem countZ_rev2 {k ax ay bx by' cx cy k2 px py qx qy rx ry K : Int} (ha : okP k ax ay bx by' cx cy) (hb : okP k2 px py qx qy rx ry) (hK : K = opp k2) : countZ k ax ay bx by' cx cy K qx qy px py rx ry = countZ k ax ay bx by' cx cy k2 px py qx qy rx ry := by
  subst hK
  rw [countZ_symm (ok_rev hb) ha, countZ_rev hb ha rfl, countZ_symm ha hb]
end Go.Proofs.Ytmoclgpdcnjacaa.Sx
