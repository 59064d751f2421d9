/- Motions play no part. -/
import Derived.Test.YtmoclgpdcnjacaaMz
set_option linter.all false
set_option autoImplicit false
set_option maxHeartbeats 4000000
namespace Go.Proofs.Ytmoclgpdcnjacaa.Sx
open Go Go.RowKit

/-- An edge. -/
structure Eg where
  k : Int
  ax : Int
  ay : Int
  bx : Int
  by' : Int
  cx : Int
  cy : Int
namespace Eg
def ok (e : Eg) : Prop := okP e.k e.ax e.ay e.bx e.by' e.cx e.cy
def on (e : Eg) (z1 z2 : Int) : Prop := onP e.k e.ax e.ay e.bx e.by' e.cx e.cy z1 z2
def rad (e : Eg) : Int := radiusZ e.k e.ax e.ay e.bx e.by' e.cx e.cy
def C (a b : Eg) : Int := countOk a.k a.ax a.ay a.bx a.by' a.cx a.cy b.k b.ax b.ay b.bx b.by' b.cx b.cy
def E (a b : Eg) : Int := endsZ a.k a.ax a.ay a.bx a.by' a.cx a.cy b.k b.ax b.ay b.bx b.by' b.cx b.cy
def sw (e : Eg) : Eg := ⟨opp e.k, e.ay, e.ax, e.by', e.bx, e.cy, e.cx⟩
def fl (e : Eg) : Eg := ⟨opp e.k, -e.ax, e.ay, -e.bx, e.by', -e.cx, e.cy⟩
def sh (u v : Int) (e : Eg) : Eg := ⟨e.k, e.ax + u, e.ay + v, e.bx + u, e.by' + v, if e.k = 1 then e.cx else e.cx + u, if e.k = 1 then e.cy else e.cy + v⟩
variable {a b e : Eg} {z1 z2 u v : Int}
theorem sw_ok (h : e.ok) : e.sw.ok := by
  obtain ⟨h1, h2, h3, h4, h5, h6⟩ := h
  unfold sw ok okP opp
  unfold rightP lineP arcP at *
  dsimp only
  split <;> refine ⟨by omega, by omega, by omega, by omega, by omega, ?_⟩
  · exact .inl (by omega)
  · exact .inr (by omega)
theorem fl_ok (h : e.ok) : e.fl.ok := by
  obtain ⟨h1, h2, h3, h4, h5, h6⟩ := h
  unfold fl ok okP opp
  unfold rightP lineP arcP at *
  dsimp only
  split <;> refine ⟨by omega, by omega, by omega, by omega, by omega, ?_⟩
  · exact .inl (by omega)
  · exact .inr (by omega)
/-- A point on an edge, seen otherwise. -/
theorem on_of {e' : Eg} {y1 y2 : Int} (h : e.ok) (h' : e'.ok) (hk : e'.k = 1 ↔ e.k = 1) (hb : boxP e'.ax e'.ay e'.bx e'.by' y1 y2 ↔ boxP e.ax e.ay e.bx e.by' z1 z2) (hx : crossP e'.ax e'.ay e'.bx e'.by' y1 y2 = 0 ↔ crossP e.ax e.ay e.bx e.by' z1 z2 = 0)
    (hd : e.k ≠ 1 → dist2 y1 y2 e'.cx e'.cy = dist2 z1 z2 e.cx e.cy ∧ dist2 e'.ax e'.ay e'.cx e'.cy = dist2 e.ax e.ay e.cx e.cy) : e'.on y1 y2 ↔ e.on z1 z2 := by
  unfold on onP
  constructor
  · rintro ⟨-, h2, h3⟩
    refine ⟨h, hb.1 h2, ?_⟩
    rcases h3 with h3 | h3
    · exact .inl ⟨hk.1 h3.1, hx.1 h3.2⟩
    · have n : e.k ≠ 1 := fun x => h3.1 (hk.2 x)
      exact .inr ⟨n, by rw [← (hd n).1, ← (hd n).2]; exact h3.2⟩
  · rintro ⟨-, h2, h3⟩
    refine ⟨h', hb.2 h2, ?_⟩
    rcases h3 with h3 | h3
    · exact .inl ⟨hk.2 h3.1, hx.2 h3.2⟩
    · exact .inr ⟨fun x => h3.1 (hk.1 x), by rw [(hd h3.1).1, (hd h3.1).2]; exact h3.2⟩
theorem rad_of {e' : Eg} (h : e.ok) (h' : e'.ok) (hk : e'.k = 1 ↔ e.k = 1) (n : e.k ≠ 1) (hd : dist2 e'.ax e'.ay e'.cx e'.cy = dist2 e.ax e.ay e.cx e.cy) : e'.rad = e.rad := by
  refine sq_eq (rad_bounds h').1 (rad_bounds h).1 ?_
  unfold rad
  rw [rad_sq h' (fun x => n (hk.1 x)), rad_sq h n, hd]
/-- Common ends, seen otherwise. -/
theorem ends_of {a' b' : Eg} (f : Int × Int → Int × Int) (hf : ∀ x y, f x = f y → x = y) (hs : ∀ y, ∃ x, f x = y) (ha : ∀ z : Int × Int, a'.on (f z).1 (f z).2 ↔ a.on z.1 z.2) (hb : ∀ z : Int × Int, b'.on (f z).1 (f z).2 ↔ b.on z.1 z.2)
    (e1 : f (a.ax, a.ay) = (a'.ax, a'.ay)) (e2 : f (a.bx, a.by') = (a'.bx, a'.by')) (e3 : f (b.ax, b.ay) = (b'.ax, b'.ay)) (e4 : f (b.bx, b.by') = (b'.bx, b'.by')) : E a' b' = E a b := by
  unfold E
  refine (ends_spec _ _ _ _ _ _ _ _ _ _ _ _ _ _).uniq ((ends_spec a.k a.ax a.ay a.bx a.by' a.cx a.cy b.k b.ax b.ay b.bx b.by' b.cx b.cy).map f hf hs (T := endP a'.k a'.ax a'.ay a'.bx a'.by' a'.cx a'.cy b'.k b'.ax b'.ay b'.bx b'.by' b'.cx b'.cy) fun z => ?_) fun z => Iff.rfl
  unfold endP
  have q : ∀ y, f z = f y ↔ z = y := fun y => ⟨hf z y, fun h => by rw [h]⟩
  rw [← e1, ← e2, ← e3, ← e4, q, q, q, q]
  exact and_congr Iff.rfl (and_congr (ha z).symm (hb z).symm)
theorem sw_on (h : e.ok) : e.sw.on z2 z1 ↔ e.on z1 z2 := by
  refine on_of h (sw_ok h) (opp_ok h) ?_ ?_ fun _ => ⟨?_, ?_⟩
  · unfold boxP sw; dsimp only; constructor <;> (intro h; omega)
  · have : crossP e.ay e.ax e.by' e.bx z2 z1 = -crossP e.ax e.ay e.bx e.by' z1 z2 := by unfold crossP; omega
    show crossP e.ay e.ax e.by' e.bx z2 z1 = 0 ↔ _
    rw [this]; constructor <;> (intro h; omega)
  · unfold dist2 sw; dsimp only; omega
  · unfold dist2 sw; dsimp only; omega
theorem fl_on (h : e.ok) : e.fl.on (-z1) z2 ↔ e.on z1 z2 := by
  have m : ∀ x y : Int, (-x - -y) * (-x - -y) = (x - y) * (x - y) := fun x y => by grind
  refine on_of h (fl_ok h) (opp_ok h) ?_ ?_ fun _ => ⟨?_, ?_⟩
  · unfold boxP fl; dsimp only; constructor <;> (intro h; omega)
  · have : crossP (-e.ax) e.ay (-e.bx) e.by' (-z1) z2 = -crossP e.ax e.ay e.bx e.by' z1 z2 := by unfold crossP; grind
    show crossP (-e.ax) e.ay (-e.bx) e.by' (-z1) z2 = 0 ↔ _
    rw [this]; constructor <;> (intro h; omega)
  · unfold dist2 fl; dsimp only; rw [m]
  · unfold dist2 fl; dsimp only; rw [m]
theorem sh_on (h : e.ok) (h' : (e.sh u v).ok) : (e.sh u v).on (z1 + u) (z2 + v) ↔ e.on z1 z2 := by
  have m : ∀ x y w : Int, x + w - (y + w) = x - y := fun x y w => by omega
  refine on_of h h' Iff.rfl ?_ ?_ fun n => ⟨?_, ?_⟩
  · unfold boxP sh; dsimp only; constructor <;> (intro h; omega)
  · unfold crossP sh; dsimp only; rw [m, m, m, m]
  · unfold dist2 sh; dsimp only; rw [if_neg n, if_neg n, m, m]
  · unfold dist2 sh; dsimp only; rw [if_neg n, if_neg n, m, m]
theorem sw_C (ha : a.ok) (hb : b.ok) : C a.sw b.sw = C a b := by
  have ra : a.k ≠ 1 → a.sw.rad = a.rad := fun n => rad_of ha (sw_ok ha) (opp_ok ha) n (by unfold dist2 sw; dsimp only; omega)
  have rb : b.k ≠ 1 → b.sw.rad = b.rad := fun n => rad_of hb (sw_ok hb) (opp_ok hb) n (by unfold dist2 sw; dsimp only; omega)
  have he : E a.sw b.sw = E a b := ends_of (fun z => (z.2, z.1)) (fun x y h => Prod.ext (congrArg Prod.snd h) (congrArg Prod.fst h)) (fun y => ⟨(y.2, y.1), rfl⟩) (fun z => sw_on ha) (fun z => sw_on hb) rfl rfl rfl rfl
  obtain ⟨k, ax, ay, bx, by', cx, cy⟩ := a
  obtain ⟨k2, px, py, qx, qy, rx, ry⟩ := b
  unfold rad at ra rb
  unfold sw at ra rb he
  unfold C sw
  unfold E at he
  dsimp only at *
  have hl : ∀ ax ay bx by' rx ry r x0 y0 x1 y1 : Int, lcZ ay ax by' bx ry rx r y0 x0 y1 x1 = lcZ ax ay bx by' rx ry r x0 y0 x1 y1 := fun ax ay bx by' rx ry r x0 y0 x1 y1 => by
    unfold lcZ
    rw [cut_sw, ← cut_neg (nx := 0 - (by' - ay)) (ny := bx - ax) (lev := 2 * ((bx - ax) * (ay - ry) - (by' - ay) * (ax - rx)))]
    congr 1 <;> omega
  refine count_congr (by unfold ovP; constructor <;> (intro h; omega)) (opp_ok ha) (opp_ok hb) (by constructor <;> (intro h; omega)) (by constructor <;> (intro h; omega)) (by constructor <;> (intro h; omega)) (fun _ _ => by constructor <;> (intro h; omega)) he ?_ ?_ ?_ ?_
  · intro _ _ hn
    exact cross_sw hn
  · intro _ n
    rw [rb n]; exact hl _ _ _ _ _ _ _ _ _ _ _
  · intro n _
    rw [ra n]; exact hl _ _ _ _ _ _ _ _ _ _ _
  · intro n n2
    rw [ra n, rb n2]
    unfold ccZ
    rw [cut_sw]
    congr 1
    omega
theorem fl_C (ha : a.ok) (hb : b.ok) : C a.fl b.fl = C a b := by
  have m : ∀ x y : Int, (-x - -y) * (-x - -y) = (x - y) * (x - y) := fun x y => by grind
  have ra : a.k ≠ 1 → a.fl.rad = a.rad := fun n => rad_of ha (fl_ok ha) (opp_ok ha) n (by unfold dist2 fl; dsimp only; rw [m])
  have rb : b.k ≠ 1 → b.fl.rad = b.rad := fun n => rad_of hb (fl_ok hb) (opp_ok hb) n (by unfold dist2 fl; dsimp only; rw [m])
  have he : E a.fl b.fl = E a b := ends_of (fun z => (-z.1, z.2)) (fun x y h => Prod.ext (by have := congrArg Prod.fst h; dsimp only at this; omega) (by have := congrArg Prod.snd h; exact this)) (fun y => ⟨(-y.1, y.2), by dsimp only; rw [Int.neg_neg]⟩) (fun z => fl_on ha) (fun z => fl_on hb) rfl rfl rfl rfl
  obtain ⟨k, ax, ay, bx, by', cx, cy⟩ := a
  obtain ⟨k2, px, py, qx, qy, rx, ry⟩ := b
  unfold rad at ra rb
  unfold fl at ra rb he
  unfold C fl
  unfold E at he
  dsimp only at *
  have hl : ∀ ax ay bx by' rx ry r x0 y0 x1 y1 : Int, lcZ (-ax) ay (-bx) by' (-rx) ry r (-x1) y0 (-x0) y1 = lcZ ax ay bx by' rx ry r x0 y0 x1 y1 := fun ax ay bx by' rx ry r x0 y0 x1 y1 => by
    unfold lcZ
    rw [← cut_neg (nx := 0 - (by' - ay)) (ny := bx - ax) (lev := 2 * ((bx - ax) * (ay - ry) - (by' - ay) * (ax - rx))), ← cut_flip]
    congr 1 <;> grind
  have d : ∀ x y : Int, -x - -y = -(x - y) := fun x y => by omega
  have b1 : ∀ a b p q : Int, mxZ (-a) (-b) (-p) (-q) = -(mnZ a b p q) := fun a b p q => by unfold mxZ mnZ; omega
  have b2 : ∀ a b p q : Int, mnZ (-a) (-b) (-p) (-q) = -(mxZ a b p q) := fun a b p q => by unfold mxZ mnZ; omega
  refine count_congr (by unfold ovP; constructor <;> (intro h; omega)) (opp_ok ha) (opp_ok hb) (by constructor <;> (intro h; omega)) (by constructor <;> (intro h; omega)) ?_ (fun _ _ => by constructor <;> (intro h; omega)) he ?_ ?_ ?_ ?_
  · rw [show (-bx - -ax) * (qy - py) - (by' - ay) * (-qx - -px) = -((bx - ax) * (qy - py) - (by' - ay) * (qx - px)) by grind]
    constructor <;> (intro h; omega)
  · intro _ _ hn
    rw [b1, b2, d, d]
    exact cross_flip hn
  · intro _ n
    rw [rb n, b1, b2]; exact hl _ _ _ _ _ _ _ _ _ _ _
  · intro n _
    rw [ra n, b1, b2]; exact hl _ _ _ _ _ _ _ _ _ _ _
  · intro n n2
    rw [ra n, rb n2, b1, b2]
    unfold ccZ
    rw [d, cut_flip]
    congr 1
    grind
theorem sh_C (ha : a.ok) (hb : b.ok) (ha' : (a.sh u v).ok) (hb' : (b.sh u v).ok) : C (a.sh u v) (b.sh u v) = C a b := by
  have m : ∀ x y w : Int, x + w - (y + w) = x - y := fun x y w => by omega
  have ra : a.k ≠ 1 → (a.sh u v).rad = a.rad := fun n => rad_of ha ha' Iff.rfl n (by unfold dist2 sh; dsimp only; rw [if_neg n, if_neg n, m, m])
  have rb : b.k ≠ 1 → (b.sh u v).rad = b.rad := fun n => rad_of hb hb' Iff.rfl n (by unfold dist2 sh; dsimp only; rw [if_neg n, if_neg n, m, m])
  have he : E (a.sh u v) (b.sh u v) = E a b := ends_of (fun z => (z.1 + u, z.2 + v)) (fun x y h => Prod.ext (by have := congrArg Prod.fst h; dsimp only at this; omega) (by have := congrArg Prod.snd h; dsimp only at this; omega)) (fun y => ⟨(y.1 - u, y.2 - v), Prod.ext (by dsimp only; omega) (by dsimp only; omega)⟩) (fun z => sh_on ha ha') (fun z => sh_on hb hb') rfl rfl rfl rfl
  obtain ⟨k, ax, ay, bx, by', cx, cy⟩ := a
  obtain ⟨k2, px, py, qx, qy, rx, ry⟩ := b
  unfold rad at ra rb
  unfold sh at ra rb he
  unfold C sh
  unfold E at he
  dsimp only at *
  have hl : ∀ ax ay bx by' rx ry r x0 y0 x1 y1 : Int, lcZ (ax + u) (ay + v) (bx + u) (by' + v) (rx + u) (ry + v) r (x0 + u) (y0 + v) (x1 + u) (y1 + v) = lcZ ax ay bx by' rx ry r x0 y0 x1 y1 := fun ax ay bx by' rx ry r x0 y0 x1 y1 => by
    unfold lcZ
    rw [m, m, m, m, cut_sh]
  have b1 : ∀ a b p q w : Int, mxZ (a + w) (b + w) (p + w) (q + w) = mxZ a b p q + w := fun a b p q w => by unfold mxZ; omega
  have b2 : ∀ a b p q w : Int, mnZ (a + w) (b + w) (p + w) (q + w) = mnZ a b p q + w := fun a b p q w => by unfold mnZ; omega
  refine count_congr (by unfold ovP; constructor <;> (intro h; omega)) Iff.rfl Iff.rfl (by constructor <;> (intro h; omega)) (by constructor <;> (intro h; omega)) (by rw [m, m, m, m]) (fun n n2 => ?_) he ?_ ?_ ?_ ?_
  · rw [if_neg n, if_neg n, if_neg n2, if_neg n2]; constructor <;> (intro h; omega)
  · intro _ _ hn
    rw [b1, b1, b2, b2, m, m, m, m]
    exact cross_sh
  · intro _ n
    rw [rb n, if_neg n, if_neg n, b1, b1, b2, b2]; exact hl _ _ _ _ _ _ _ _ _ _ _
  · intro n _
    rw [ra n, if_neg n, if_neg n, b1, b1, b2, b2]; exact hl _ _ _ _ _ _ _ _ _ _ _
  · intro n n2
    rw [ra n, rb n2, if_neg n, if_neg n, if_neg n2, if_neg n2, b1, b1, b2, b2]
    unfold ccZ
    rw [m, m, cut_sh]
end Eg
end Go.Proofs.Ytmoclgpdcnjacaa.Sx
