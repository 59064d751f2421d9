import Derived.Test.YtliimpbbppbghaaQTm
import Derived.Test.YtliimpbbppbghaaQTs
import Derived.WalkKit
import Derived.ProofKit
import Derived.OpenShut
import Derived.Deep.DeepHandedRow
import Derived.ChangeSame
import Derived.ChangeShapes
import Derived.RowKit
import Derived.Carry
import Derived.ChangeSlices
import Derived.ChangeMaps5
set_option linter.all false
namespace Go.Proofs.Ytliimpbbppbghaa
open Go Go.RowKit Go.Shelf Sx
end Go.Proofs.Ytliimpbbppbghaa
namespace Go.Proofs.Ytliimpbbppbghaa
open Go Go.RowKit Go.Shelf Sx
def windS (px py : Int) : List E7 → Int
  | [] => 0
  | e :: r => e.ray px py + windS px py r
theorem windS_append (px py : Int) (a b : List E7) : windS px py (a ++ b) = windS px py a + windS px py b := by
  induction a with
  | nil => simp [windS]
  | cons e r ih => simp only [List.cons_append, windS, ih]; omega
theorem windU_take (px py : Int) (es : List E7) : ∀ k, k ≤ es.length → windU es px py k = windS px py (es.take k)
  | 0, _ => rfl
  | k + 1, h => by
    have e : es.take (k + 1) = es.take k ++ [es[k]!] := by rw [List.take_add_one, getElem!_pos es k (by omega), List.getElem?_eq_getElem (by omega : k < es.length)]; rfl
    rw [e, windS_append, ← windU_take px py es k (by omega)]
    simp [windU, windS]
theorem windU_all (px py : Int) (es : List E7) : windU es px py es.length = windS px py es := by rw [windU_take px py es _ (Nat.le_refl _), List.take_length]
theorem surS_list {es : List E7} {px py : Int} : surS es px py = (decide (∃ e ∈ es, e.on px py) || decide (windS px py es ≠ 0)) := by unfold surS; rw [windU_all]
end Go.Proofs.Ytliimpbbppbghaa
namespace Go.Proofs.Ytliimpbbppbghaa
open Go Go.RowKit Go.Shelf Sx
theorem inside_box {K R : Int} {es : List E7} {px py : Int} (hi : insideS K R es px py = true) : hasP (boxS es R).x0 (boxS es R).y0 (boxS es R).x1 (boxS es R).y1 px py := by
  unfold insideS at hi
  split at hi
  · cases hi
  · split at hi
    · cases hi
    · rename_i hb
      exact Classical.not_not.1 hb
theorem inside_disc {x y n px py : Int} (hp : rightP x y) (h0 : 0 ≤ n) (h1 : n ≤ 4194304) : checkS 1 n [⟨1, x, y, x, y, 0, 0⟩] = 0 ∧ insideS 1 n [⟨1, x, y, x, y, 0, 0⟩] px py = decide ((px - x) * (px - x) + (py - y) * (py - y) ≤ n * n) := by
  have hok : E7.okE ⟨1, x, y, x, y, 0, 0⟩ := ⟨by simp, by simp, hp, hp, by simp [rightP], .inl ⟨rfl, rfl, rfl⟩⟩
  refine ⟨check_one hok h0 h1, ?_⟩
  rw [inside_one hok h0 h1]
  refine decide_eq_decide.2 ⟨fun hc => ?_, fun hc => .inl hc⟩
  rcases hc with hc | hc | ⟨-, c1, c2, -⟩ | ⟨c1, -⟩
  · exact hc
  · exact hc
  · rw [dist_self] at c2; omega
  · exact absurd rfl c1
end Go.Proofs.Ytliimpbbppbghaa
namespace Go.Proofs.Ytliimpbbppbghaa
open Go Go.RowKit Go.Shelf Sx
def rectL (x0 y0 x1 y1 : Int) : List E7 := [⟨1, x0, y0, x1, y0, 0, 0⟩, ⟨1, x1, y0, x1, y1, 0, 0⟩, ⟨1, x1, y1, x0, y1, 0, 0⟩, ⟨1, x0, y1, x0, y0, 0, 0⟩]
section
variable {x0 y0 x1 y1 : Int} (hx : x0 < x1) (hy : y0 < y1) (ha : rightP x0 y0) (hb : rightP x1 y1)
include ha hb
theorem rect_okE : ∀ e ∈ rectL x0 y0 x1 y1, e.okE := by
  unfold rightP at ha hb
  have h0 : rightP 0 0 := by decide
  intro e he
  simp only [rectL, List.mem_cons, List.not_mem_nil, or_false] at he
  rcases he with rfl | rfl | rfl | rfl <;> exact ⟨Int.le_refl 1, (by decide : (1 : Int) ≤ 3), by unfold rightP; (try dsimp only); omega, by unfold rightP; (try dsimp only); omega, h0, .inl ⟨rfl, rfl, rfl⟩⟩
theorem rect_check : checkS 2 0 (rectL x0 y0 x1 y1) = 0 := by
  refine checkS_of (.inr rfl) (by simp [rectL]) (by simp [rectL]) (rect_okE ha hb) (chainP_iff.2 ⟨fun j hj => ?_, fun _ _ => ⟨rfl, rfl⟩⟩) (by decide) (by decide)
  have hj' : j + 1 < 4 := hj
  have hc : j = 0 ∨ j = 1 ∨ j = 2 := by omega
  rcases hc with rfl | rfl | rfl <;> exact ⟨rfl, rfl⟩
include hx hy
theorem rect_box : boxS (rectL x0 y0 x1 y1) 0 = ⟨x0, y0, x1, y1⟩ := by
  unfold rightP at ha hb
  have e : boxU (rectL x0 y0 x1 y1) 3 = ⟨x0, y0, x1, y1⟩ := by
    show Q4.mk _ _ _ _ = _
    have a0 : min (min (min (min x0 x1) (min x1 x1)) (min x1 x0)) (min x0 x0) = x0 := by omega
    have a1 : min (min (min (min y0 y0) (min y0 y1)) (min y1 y1)) (min y1 y0) = y0 := by omega
    have a2 : max (max (max (max x0 x1) (max x1 x1)) (max x1 x0)) (max x0 x0) = x1 := by omega
    have a3 : max (max (max (max y0 y0) (max y0 y1)) (max y1 y1)) (max y1 y0) = y1 := by omega
    exact (congr (congr (congr (congrArg Q4.mk a0) a1) a2) a3)
  unfold boxS
  rw [if_neg (by simp [rectL]), show (rectL x0 y0 x1 y1).length - 1 = 3 from rfl, e]
  unfold Q4.grow
  simp only
  rw [w64_in _ (by omega), w64_in _ (by omega), w64_in _ (by omega), w64_in _ (by omega)]
  simp
theorem inside_rect (px py : Int) : insideS 2 0 (rectL x0 y0 x1 y1) px py = decide (x0 ≤ px ∧ px ≤ x1 ∧ y0 ≤ py ∧ py ≤ y1) := by
  have hc := rect_check ha hb
  have hok := rect_okE ha hb
  unfold insideS
  rw [if_neg (by simp [hc]), rect_box hx hy ha hb]
  by_cases hp : x0 ≤ px ∧ px ≤ x1 ∧ y0 ≤ py ∧ py ≤ y1
  · rw [if_neg (show ¬ ¬ Q4.has ⟨x0, y0, x1, y1⟩ px py from fun h => h hp), if_neg (show ¬ (2 : Int) = 1 by decide), decide_eq_true hp]
    have m1 : (⟨1, x1, y0, x1, y1, 0, 0⟩ : E7) ∈ rectL x0 y0 x1 y1 := by simp [rectL]
    have m2 : (⟨1, x1, y1, x0, y1, 0, 0⟩ : E7) ∈ rectL x0 y0 x1 y1 := by simp [rectL]
    by_cases h1 : px = x1
    · unfold surS
      rw [decide_eq_true (p := ∃ e ∈ rectL x0 y0 x1 y1, e.on px py) ⟨_, m1, hok _ m1, by unfold boxP; (try dsimp only); omega, .inl ⟨rfl, by subst h1; unfold crossP; grind⟩⟩, Bool.true_or]
    by_cases h2 : py = y1
    · unfold surS
      rw [decide_eq_true (p := ∃ e ∈ rectL x0 y0 x1 y1, e.on px py) ⟨_, m2, hok _ m2, by unfold boxP; (try dsimp only); omega, .inl ⟨rfl, by subst h2; unfold crossP; grind⟩⟩, Bool.true_or]
    have r0 : E7.ray ⟨1, x0, y0, x1, y0, 0, 0⟩ px py = 0 := by unfold E7.ray rayZ; simp only; rw [if_neg (by omega), if_neg (by omega)]
    have r1 : E7.ray ⟨1, x1, y0, x1, y1, 0, 0⟩ px py = 1 := by
      unfold E7.ray rayZ
      simp only
      rw [if_pos ⟨by omega, by omega, hok _ m1, by (try dsimp only); omega, .inl (by (try dsimp only); omega)⟩]
    have r2 : E7.ray ⟨1, x1, y1, x0, y1, 0, 0⟩ px py = 0 := by unfold E7.ray rayZ; simp only; rw [if_neg (by omega), if_neg (by omega)]
    have r3 : E7.ray ⟨1, x0, y1, x0, y0, 0, 0⟩ px py = 0 := by
      unfold E7.ray rayZ
      simp only
      rw [if_neg (by omega), if_neg]
      rintro ⟨-, -, -, h, -⟩
      omega
    rw [surS_list]
    have hw : windS px py (rectL x0 y0 x1 y1) = 1 := by simp only [rectL, windS, r0, r1, r2, r3]; rfl
    rw [hw]
    simp
  · rw [if_pos (show ¬ Q4.has ⟨x0, y0, x1, y1⟩ px py from hp), decide_eq_false hp]
end
end Go.Proofs.Ytliimpbbppbghaa
set_option autoImplicit false
namespace Go.Proofs.Ytliimpbbppbghaa.Sx
open Go Go.RowKit
section
variable {W : World} {l0 l1 : Ls}
end
section
variable {α : Type}
def oksF : List (List T) → (List (List T) → α) → α
  | [], k => k []
  | q :: r, k => tsF q fun q => oksF r fun r => k (q :: r)
theorem oksF_eq (l : List (List T)) : ∀ k : List (List T) → α, oksF l k = k l := by
  induction l with
  | nil => intro k; rfl
  | cons e r ih => intro k; simp [oksF, tsF_eq, ih]
end
def kT (K R : T) (es : List ET) : List T := K :: R :: es.flatMap ET.list
def inOks (q : List T) : List (List T) → Bool
  | [] => false
  | p :: r => tsSame q p || inOks q r
theorem inOks_mem {q : List T} : ∀ {l : List (List T)}, inOks q l = true → q ∈ l
  | [], h => by cases h
  | p :: r, h => by
    simp only [inOks, Bool.or_eq_true] at h
    rcases h with h | h
    · rw [tsSame_eq h]; exact .head _
    · exact .tail _ (inOks_mem h)
def ctCk (oks : List (List T)) : CT := fun g args s => bif Nat.beq g 13 then match args with
  | [.agg [.int .i64 K, x, .int .i64 R]] => match slE s x with
    | some es => bif Nat.ble es.length 1000 && inOks (kT K R es) oks then some (.leaf (.c (.int .i64 (.lit 0)), s)) else none
    | none => none
  | _ => none
  else none
def ctBx : CT := fun g args s => bif Nat.beq g 17 then match args with
  | [.agg [.int .i64 K, x, .int .i64 R]] => match slE s x with
    | some es => bif capG s x && Nat.ble es.length 1000 then some (tsF (R :: es.flatMap ET.list) fun q => .leaf (.agg [.int .i64 (.app 42 (tl q)), .int .i64 (.app 43 (tl q)), .int .i64 (.app 44 (tl q)), .int .i64 (.app 45 (tl q))], s)) else none
    | none => none
  | _ => none
  else none
section
variable {W : World} {l0 l1 : Ls} {ρ : Env}
theorem ctCk_ok {oks : List (List T)} (hoks : ∀ q ∈ oks, fiW l0 40 (q.map (T.den (IW W l0 l1) ρ)) = 0) : CTOk Try.prog (IW W l0 l1) ρ (ctCk oks) := by
  intro g args s t h w0 X n0 β0 β w R ht hw ha
  unfold ctCk at h
  cases hg : Nat.beq g 13 with
  | false => rw [hg] at h; cases h
  | true =>
    rw [hg] at h
    have := Nat.eq_of_beq_eq_true hg
    subst this
    simp only [cond_true] at h
    split at h
    · rename_i K x Rr
      split at h
      · rename_i es hes
        cases hc : (Nat.ble es.length 1000 && inOks (kT K Rr es) oks) with
        | false => rw [hc] at h; cases h
        | true =>
          rw [hc] at h
          simp only [Bool.and_eq_true, Nat.ble_eq] at hc
          injection h with h
          subst h
          obtain ⟨p, cap, hx, hS⟩ := slE_ok hw hes (by omega)
          have hcall := check_calls (K.den (IW W l0 l1) ρ) (Rr.den (IW W l0 l1) ρ) p es.length cap _ w hS
          have h0 := hoks _ (inOks_mem hc.2)
          unfold kT at h0
          simp only [List.map_cons, flat_ints] at h0
          have h0 : checkS (K.den (IW W l0 l1) ρ) (Rr.den (IW W l0 l1) ρ) (es.map (ET.den (IW W l0 l1) ρ)) = 0 := by
            have : checkS (K.den (IW W l0 l1) ρ) (Rr.den (IW W l0 l1) ρ) (decE ((es.map (ET.den (IW W l0 l1) ρ)).flatMap E7.ints)) = 0 := h0
            rw [decE_flat] at this
            exact this
          refine ct_leaf1 ?_ rfl ht hw
          have ea : ([V.agg [.int .i64 K, x, .int .i64 Rr]].map (V.den (IW W l0 l1) ρ β)).toArray = #[.agg #[.int .i64 (K.den (IW W l0 l1) ρ), .slice p es.length cap, .int .i64 (Rr.den (IW W l0 l1) ρ)]] := by
            rw [← hx]; rfl
          rw [ea]
          refine hcall.mono fun e w' ⟨he, hbl⟩ => ⟨?_, hbl⟩
          rw [he, h0]
          rfl
      · cases h
    · cases h
theorem ctBx_ok : CTOk Try.prog (IW W l0 l1) ρ ctBx := by
  intro g args s t h w0 X n0 β0 β w R ht hw ha
  unfold ctBx at h
  cases hg : Nat.beq g 17 with
  | false => rw [hg] at h; cases h
  | true =>
    rw [hg] at h
    have := Nat.eq_of_beq_eq_true hg
    subst this
    simp only [cond_true] at h
    split at h
    · rename_i K x Rr
      split at h
      · rename_i es hes
        cases hc : (capG s x && Nat.ble es.length 1000) with
        | false => rw [hc] at h; cases h
        | true =>
          rw [hc] at h
          simp only [Bool.and_eq_true, Nat.ble_eq] at hc
          injection h with h
          rw [tsF_eq] at h
          subst h
          obtain ⟨p, cap, hx, hS⟩ := slE_ok hw hes (by omega)
          have hcap := capG_ok hw hc.1 hx
          have hcall := box_e (K.den (IW W l0 l1) ρ) (Rr.den (IW W l0 l1) ρ) p es.length cap _ w hS hcap
          refine ct_leaf1 ?_ rfl ht hw
          have ea : ([V.agg [.int .i64 K, x, .int .i64 Rr]].map (V.den (IW W l0 l1) ρ β)).toArray = #[.agg #[.int .i64 (K.den (IW W l0 l1) ρ), .slice p es.length cap, .int .i64 (Rr.den (IW W l0 l1) ρ)]] := by
            rw [← hx]; rfl
          rw [ea]
          refine hcall.mono fun e w' ⟨he, hbl⟩ => ⟨?_, hbl⟩
          rw [he]
          have ed : (tl (Rr :: es.flatMap ET.list)).dens (IW W l0 l1) ρ = Rr.den (IW W l0 l1) ρ :: (es.map (ET.den (IW W l0 l1) ρ)).flatMap E7.ints := by rw [tl_dens, List.map_cons, flat_ints]
          simp only [V.den, cellsOf, List.map_cons, List.map_nil, C.den, T.den_app, ed, iw_fi]
          simp only [fiW, decE_flat]
      · cases h
    · cases h
end
end Go.Proofs.Ytliimpbbppbghaa.Sx
namespace Go.Proofs.Ytliimpbbppbghaa.Sx
open Go Go.ChangeShapes Go.WideShapes Go.ChangeAt Go.RowKit Go.Shelf
section
variable {H : Type} {enc : TypeId × Value → H} {W W' : World}
end
section
variable {H : Type} {enc : TypeId × Value → H} {W : World}
theorem cells_a2 : Try.prog.cellsOf 44 = 2 := by kernel_rfl
theorem cells_u8 : Try.prog.cellsOf 5 = 1 := by kernel_rfl
theorem agg_of {t : TypeId} {cs : Array Value} {d : DataW H} {ps : List MemPlace} (h : DataW.Trod enc Try.prog W 0 (fun _ => true) true t (.agg cs) d ps) : ∃ fuel, DataW.trod enc Try.prog W 0 (fun _ => true) true fuel t cs.toList = some (d, ps) := by
  obtain ⟨fuel, hf⟩ := h
  exact ⟨fuel, by simpa [Value.cells] using hf⟩
theorem okWide_arr {r : Reach} {b0 : Nat} {t e : TypeId} {n : Nat} {v : Value} (ht : Try.prog.underlying t = some (.array n e)) (h : Value.okWide Try.prog W r b0 t v) : ∃ cs, v = .agg cs ∧ cs.size = Try.prog.cellsOf t := by
  simp only [Value.okWide, ht] at h
  obtain ⟨cs, h1, h2, _⟩ := h
  exact ⟨cs, h1, h2⟩
set_option maxRecDepth 100000 in
theorem open_a2 {r : Reach} {b0 : Nat} {v : Value} {d : DataW H} {ps : List MemPlace} (hval : Value.okWide Try.prog W r b0 44 v) (h : DataW.Trod enc Try.prog W 0 (fun _ => true) true 44 v d ps) : ∃ x y, v = .agg #[.int .u8 x, .int .u8 y] ∧ (0 ≤ x ∧ x < 256) ∧ 0 ≤ y ∧ y < 256 := by
  obtain ⟨⟨cs⟩, rfl, hsz⟩ := okWide_arr Try.underlying44 hval
  rw [cells_a2] at hsz
  obtain ⟨fuel, hf⟩ := agg_of h
  match cs, hsz with
  | [c0, c1], _ =>
    obtain ⟨xs, m, _, he, hl, hlen, hg⟩ := DataW.trod_array Try.underlying44 hf
    match xs, hlen with
    | [y0, y1], _ =>
      have h0 := hg 0 (by decide)
      have h1 := hg 1 (by decide)
      simp [cells_u8] at h0 h1
      obtain ⟨x, e0, -, w0⟩ := DataW.trod_int Try.underlying5 h0
      obtain ⟨y, e1, -, w1⟩ := DataW.trod_int Try.underlying5 h1
      exact ⟨x, y, by rw [(List.cons.inj e0).1, (List.cons.inj e1).1], wf_u8 w0, wf_u8 w1⟩
end
end Go.Proofs.Ytliimpbbppbghaa.Sx
set_option autoImplicit false
namespace Go.Proofs.Ytliimpbbppbghaa.Sx
open Go Go.RowKit
def bxF : List (B × Bool) := [(.lt (.lit (-1)) (.var 0), true), (.lt (.var 0) (.lit 41), true), (.lt (.lit (-200101)) (.var 1), true), (.lt (.var 1) (.lit 200101), true), (.lt (.lit (-200101)) (.var 2), true), (.lt (.var 2) (.lit 200101), true)] ++
  [3, 4, 5].flatMap (fun i => [(.lt (.lit (-1)) (.var i), true), (.lt (.var i) (.lit 256), true)]) ++ [11, 12].flatMap fun i => [(.lt (.lit (-901)) (.var i), true), (.lt (.var i) (.lit 901), true)]
def nT : T := .bin .rem (.var 3) (.lit 100)
def sideT (i : Nat) : T := .bin .add (.lit 1) (.bin .rem (.var i) (.lit 100))
def dxT : T := .bin .sub (.var 1) (.var 11)
def dyT : T := .bin .sub (.var 2) (.var 12)
def discT : List ET := [⟨.lit 1, .var 11, .var 12, .var 11, .var 12, .lit 0, .lit 0⟩]
def rX : T := .bin .add (.var 11) (sideT 4)
def rY : T := .bin .add (.var 12) (sideT 5)
def rectT : List ET := [⟨.lit 1, .var 11, .var 12, rX, .var 12, .lit 0, .lit 0⟩, ⟨.lit 1, rX, .var 12, rX, rY, .lit 0, .lit 0⟩, ⟨.lit 1, rX, rY, .var 11, rY, .lit 0, .lit 0⟩, ⟨.lit 1, .var 11, rY, .var 11, .var 12, .lit 0, .lit 0⟩]
def boxQ (n : Nat) : List T := .var 0 :: (esT n).flatMap ET.list
def bxT (f n : Nat) : T := .app f (tl (boxQ n))
def leB (a b : T) : B := .not (.lt b a)
def discQ : List T := qT (.lit 1) nT (.var 1) (.var 2) discT
def rectQ : List T := qT (.lit 2) (.lit 0) (.var 1) (.var 2) rectT
def bxA : List (List T × B) := [(discQ, leB (.bin .add (.bin .mul dxT dxT) (.bin .mul dyT dyT)) (.bin .mul nT nT)),
  (rectQ, .and (leB (.lit 0) dxT) (.and (leB dxT (sideT 4)) (.and (leB (.lit 0) dyT) (leB dyT (sideT 5)))))]
def bxO : List (List T) := [kT (.lit 1) nT discT, kT (.lit 2) (.lit 0) rectT]
def ctBo (K : Int) (n : Nat) (ans : List (List T × B)) (oks : List (List T)) : CT := ctOr (ctL [sanE]) (ctOr (ctMd K n) (ctOr (ctAt K n) (ctOr (ctIn ans) (ctOr (ctCk oks) ctBx))))
def bxArgs : List V := [.c (.abs 0 .nil), .c (.abs 1 .nil), .c (.int .u8 (.var 3)), .agg [.int .u8 (.var 4), .int .u8 (.var 5)]]
def yesU (v : V) (s : S) : Bool := match v with
  | .c (.bool b) => match b.under s.known with
    | .lit true => true
    | _ => false
  | _ => false
def bxN (K : Int) (n : Nat) : List (B × Bool) := (inB5 (allQ K n), false) :: bxF
def bxY (K : Int) (n : Nat) : List (B × Bool) := [(inB5 (allQ K n), true), (.lt (.var 1) (bxT 42 n), false), (.lt (bxT 44 n) (.var 1), false), (.lt (.var 2) (bxT 43 n), false), (.lt (bxT 45 n) (.var 2), false)] ++ bxF
noncomputable def bxRun (K : Int) (n : Nat) (f : List (B × Bool)) : Bool := ansF bxA fun ans => oksF bxO fun oks => factsF f fun f => leavesS yesU (execF Try.prog (ctBo K n ans oks) 20 5 bxArgs ⟨[], 0, ⟨f, [], 0⟩⟩)
set_option maxRecDepth 1000000 in
theorem bx_1_1 : bxRun 1 1 (bxN 1 1) = true := by kernel_rfl
set_option maxRecDepth 1000000 in
theorem by_1_1 : bxRun 1 1 (bxY 1 1) = true := by kernel_rfl
set_option maxRecDepth 1000000 in
theorem bx_1_2 : bxRun 1 2 (bxN 1 2) = true := by kernel_rfl
set_option maxRecDepth 1000000 in
theorem by_1_2 : bxRun 1 2 (bxY 1 2) = true := by kernel_rfl
set_option maxRecDepth 1000000 in
theorem bx_1_3 : bxRun 1 3 (bxN 1 3) = true := by kernel_rfl
set_option maxRecDepth 1000000 in
theorem by_1_3 : bxRun 1 3 (bxY 1 3) = true := by kernel_rfl
set_option maxRecDepth 1000000 in
theorem bx_2_2 : bxRun 2 2 (bxN 2 2) = true := by kernel_rfl
set_option maxRecDepth 1000000 in
theorem by_2_2 : bxRun 2 2 (bxY 2 2) = true := by kernel_rfl
set_option maxRecDepth 1000000 in
theorem bx_2_3 : bxRun 2 3 (bxN 2 3) = true := by kernel_rfl
set_option maxRecDepth 1000000 in
theorem by_2_3 : bxRun 2 3 (bxY 2 3) = true := by kernel_rfl
set_option maxRecDepth 1000000 in
theorem bx_2_4 : bxRun 2 4 (bxN 2 4) = true := by kernel_rfl
set_option maxRecDepth 1000000 in
theorem by_2_4 : bxRun 2 4 (bxY 2 4) = true := by kernel_rfl
set_option maxRecDepth 1000000 in
theorem bx_2_5 : bxRun 2 5 (bxN 2 5) = true := by kernel_rfl
set_option maxRecDepth 1000000 in
theorem by_2_5 : bxRun 2 5 (bxY 2 5) = true := by kernel_rfl
set_option maxRecDepth 1000000 in
theorem bx_2_8 : bxRun 2 8 (bxN 2 8) = true := by kernel_rfl
set_option maxRecDepth 1000000 in
theorem by_2_8 : bxRun 2 8 (bxY 2 8) = true := by kernel_rfl
theorem bx_run {K R : Int} {es : List E7} (h : Made K R es) : bxRun K es.length (bxN K es.length) = true ∧ bxRun K es.length (bxY K es.length) = true := by
  rcases h.many with ⟨rfl, m⟩ | ⟨rfl, -, m⟩
  · have c : es.length = 1 ∨ es.length = 2 ∨ es.length = 3 := by omega
    rcases c with c | c | c <;> rw [c]
    · exact ⟨bx_1_1, by_1_1⟩
    · exact ⟨bx_1_2, by_1_2⟩
    · exact ⟨bx_1_3, by_1_3⟩
  · have c : es.length = 2 ∨ es.length = 3 ∨ es.length = 4 ∨ es.length = 5 ∨ es.length = 8 := by omega
    rcases c with c | c | c | c | c <;> rw [c]
    · exact ⟨bx_2_2, by_2_2⟩
    · exact ⟨bx_2_3, by_2_3⟩
    · exact ⟨bx_2_4, by_2_4⟩
    · exact ⟨bx_2_5, by_2_5⟩
    · exact ⟨bx_2_8, by_2_8⟩
theorem calls_yesU {P : Program} {I : Interp} {ρ : Env} (hm : P.follows .mixedOrders = true) (hN : NoCount P) {ct : CT} (hct : CTOk P I ρ ct) {n : Nat} {g : FuncId} {args : List V} {k : Known} {w : World}
    (hh : Hyp I w (fun _ => False)) (hk : k.Ok I ρ) (hwf : (args.all (V.wf 0)) = true) (hc : leavesS yesU (execF P ct n g args ⟨[], 0, k⟩) = true) :
    Calls P g (args.map (V.den I ρ id)).toArray w (fun e w' => e = .returned (.bool true) ∧ Below w.heap.size w w') := by
  refine execF_ok hm hN hct n g args ⟨[], 0, k⟩ w (fun _ => False) 0 id id w _ (Tree.vc_mono (fun r hr => ?_) (leavesS_vc hc)) ⟨(fun _ h => nomatch h), (fun _ h => nomatch h), (fun _ h => nomatch h), (fun _ h => nomatch h), (fun _ h => nomatch h), (fun _ h => nomatch h), (fun _ h => nomatch h), hk, Nat.le_refl _, fun _ _ => rfl, Keeps.refl _ _, hh⟩ (fun v hv => List.all_eq_true.1 hwf v hv)
  intro β' w' hw _ _ _
  obtain ⟨v, s⟩ := r
  unfold yesU at hr
  split at hr
  · rename_i b hv
    have hv : v = .c (.bool b) := hv
    subst hv
    split at hr
    · rename_i hb
      have := B.den_under hw.known b
      rw [hb] at this
      refine ⟨?_, hw.keeps.below⟩
      show Ending.returned (Value.bool (b.den I ρ)) = _
      rw [← this]
      rfl
    · cases hr
  · cases hr
section
variable {W : World} {l0 l1 : Ls} {hd : List Int} {es : List E7} {R px py s : Int}
theorem bxT_den (h : HdOk hd R px py s) : (bxT 42 es.length).den (IW W l0 l1) (envE hd es) = (boxS es R).x0 ∧ (bxT 43 es.length).den (IW W l0 l1) (envE hd es) = (boxS es R).y0 ∧ (bxT 44 es.length).den (IW W l0 l1) (envE hd es) = (boxS es R).x1 ∧ (bxT 45 es.length).den (IW W l0 l1) (envE hd es) = (boxS es R).y1 := by
  have e : (tl (boxQ es.length)).dens (IW W l0 l1) (envE hd es) = R :: es.flatMap E7.ints := by
    unfold boxQ
    rw [tl_dens, List.map_cons, v0 h, flat_ints, esT_den]
  unfold bxT
  simp only [T.den_app, e, iw_fi]
  simp only [fiW, decE_flat, and_self]
end
set_option maxRecDepth 100000 in
theorem shapeBoxes_law (l0 l1 : Ls) (s u v : Int) (hs : 0 ≤ s ∧ s < 256) (huv : (0 ≤ u ∧ u < 256) ∧ 0 ≤ v ∧ v < 256) (W : World) (h0 : l0.Ok W) (h1 : l1.Ok W) :
    Calls Try.prog 5 #[l0.v, l1.v, .int .u8 s, .agg #[.int .u8 u, .int .u8 v]] W (fun e w' => e = .returned (.bool true) ∧ Below W.heap.size W w') := by
  obtain ⟨K, R, es, hM, hMA⟩ := made_s h0
  obtain ⟨px, py, hp, hA⟩ := at_as h1 hM
  obtain ⟨hd, hhd⟩ : ∃ hd : List Int, hd = [R, px, py, s, u, v] := ⟨_, rfl⟩
  have hH : HdOk hd R px py s := by rw [hhd]; exact ⟨rfl, rfl, rfl, rfl⟩
  have g4 : (T.var 4).den (IW W l0 l1) (envE hd es) = u := (envE_hd (by decide)).trans (by rw [hhd]; rfl)
  have g5 : (T.var 5).den (IW W l0 l1) (envE hd es) = v := (envE_hd (by decide)).trans (by rw [hhd]; rfl)
  have hpos : 0 < es.length := by rcases hM.many with h | h <;> omega
  have hsm : es[0]!.small := hM.small _ (by rw [getElem!_pos es 0 hpos]; exact List.getElem_mem _)
  obtain ⟨m1, m2, -⟩ := hsm
  have ed := edT_den (I := IW W l0 l1) (hd := hd) hpos
  obtain ⟨cx, hcx⟩ : ∃ cx, es[0]!.ax = cx := ⟨_, rfl⟩
  obtain ⟨cy, hcy⟩ : ∃ cy, es[0]!.ay = cy := ⟨_, rfl⟩
  have f1 : (T.var 11).den (IW W l0 l1) (envE hd es) = cx := (congrArg E7.ax ed).trans hcx
  have f2 : (T.var 12).den (IW W l0 l1) (envE hd es) = cy := (congrArg E7.ay ed).trans hcy
  rw [hcx] at m1
  rw [hcy] at m2
  have w0 := v0 (W := W) (l0 := l0) (l1 := l1) (es := es) hH
  have w1 := v1 (W := W) (l0 := l0) (l1 := l1) (es := es) hH
  have w2 := v2 (W := W) (l0 := l0) (l1 := l1) (es := es) hH
  have w3 := v3 (W := W) (l0 := l0) (l1 := l1) (es := es) hH
  have hb : ∀ p ∈ bxF, p.1.den (IW W l0 l1) (envE hd es) = p.2 := by
    intro p hp'
    have := hM.r
    simp only [bxF, List.flatMap_cons, List.flatMap_nil, List.cons_append, List.nil_append, List.append_nil, List.mem_cons, List.not_mem_nil, or_false] at hp'
    rcases hp' with rfl | rfl | rfl | rfl | rfl | rfl | rfl | rfl | rfl | rfl | rfl | rfl | rfl | rfl | rfl | rfl <;> (refine B.lt_t.2 ?_; simp only [T.den_lit, w0, w1, w2, w3, g4, g5, f1, f2]; omega)
  have hn := Int.tmod_nonneg (100 : Int) hs.1
  have hn' := Int.tmod_lt_of_pos s (show (0 : Int) < 100 by decide)
  have hu := Int.tmod_nonneg (100 : Int) huv.1.1
  have hu' := Int.tmod_lt_of_pos u (show (0 : Int) < 100 by decide)
  have hv := Int.tmod_nonneg (100 : Int) huv.2.1
  have hv' := Int.tmod_lt_of_pos v (show (0 : Int) < 100 by decide)
  have dn : nT.den (IW W l0 l1) (envE hd es) = s.tmod 100 := by unfold nT; rw [T.den_bin, w3, T.den_lit, ev_rem]
  have d4 : (sideT 4).den (IW W l0 l1) (envE hd es) = 1 + u.tmod 100 := by unfold sideT; rw [T.den_bin, T.den_bin, g4, T.den_lit, T.den_lit, ev_rem, ev_add]
  have d5 : (sideT 5).den (IW W l0 l1) (envE hd es) = 1 + v.tmod 100 := by unfold sideT; rw [T.den_bin, T.den_bin, g5, T.den_lit, T.den_lit, ev_rem, ev_add]
  have dx : dxT.den (IW W l0 l1) (envE hd es) = px - cx := by unfold dxT; rw [T.den_bin, w1, f1, ev_sub]
  have dy : dyT.den (IW W l0 l1) (envE hd es) = py - cy := by unfold dyT; rw [T.den_bin, w2, f2, ev_sub]
  have drx : rX.den (IW W l0 l1) (envE hd es) = cx + (1 + u.tmod 100) := by unfold rX; rw [T.den_bin, f1, d4, ev_add]
  have dry : rY.den (IW W l0 l1) (envE hd es) = cy + (1 + v.tmod 100) := by unfold rY; rw [T.den_bin, f2, d5, ev_add]
  have edisc : discT.map (ET.den (IW W l0 l1) (envE hd es)) = [⟨1, cx, cy, cx, cy, 0, 0⟩] := by
    simp only [discT, List.map_cons, List.map_nil, ET.den, T.den_lit, f1, f2]
  have erect : rectT.map (ET.den (IW W l0 l1) (envE hd es)) = rectL cx cy (cx + (1 + u.tmod 100)) (cy + (1 + v.tmod 100)) := by
    simp only [rectT, rectL, List.map_cons, List.map_nil, ET.den, T.den_lit, f1, f2, drx, dry]
  have ra : rightP cx cy := by unfold rightP; omega
  have rb : rightP (cx + (1 + u.tmod 100)) (cy + (1 + v.tmod 100)) := by unfold rightP; omega
  have hdisc := inside_disc (px := px) (py := py) ra hn (show s.tmod 100 ≤ 4194304 by omega)
  have hrc := rect_check ra rb
  have hri := inside_rect (show cx < cx + (1 + u.tmod 100) by omega) (show cy < cy + (1 + v.tmod 100) by omega) ra rb px py
  have hans : ∀ p ∈ bxA, fbW 5 (p.1.map (T.den (IW W l0 l1) (envE hd es))) = p.2.den (IW W l0 l1) (envE hd es) := by
    intro p hp'
    simp only [bxA, List.mem_cons, List.not_mem_nil, or_false] at hp'
    rcases hp' with rfl | rfl
    · unfold discQ
      rw [q_den, edisc, dn, w1, w2, T.den_lit, hdisc.2]
      simp only [leB, B.den, T.den_bin, ev_add, ev_mul, dx, dy, dn]
      rw [Bool.eq_iff_iff, decide_eq_true_eq, Bool.not_eq_true', decide_eq_false_iff_not, Int.not_lt]
    · unfold rectQ
      rw [q_den, erect, w1, w2, T.den_lit, T.den_lit, hri]
      simp only [leB, B.den, dx, dy, d4, d5, T.den_lit]
      rw [Bool.eq_iff_iff, decide_eq_true_eq]
      simp only [Bool.and_eq_true, Bool.not_eq_true', decide_eq_false_iff_not]
      omega
  have hoks : ∀ q ∈ bxO, fiW l0 40 (q.map (T.den (IW W l0 l1) (envE hd es))) = 0 := by
    intro q hq
    simp only [bxO, List.mem_cons, List.not_mem_nil, or_false] at hq
    rcases hq with rfl | rfl
    · unfold kT
      simp only [List.map_cons, flat_ints, edisc, dn, T.den_lit]
      show checkS _ _ (decE _) = 0
      rw [decE_flat]
      exact hdisc.1
    · unfold kT
      simp only [List.map_cons, flat_ints, erect, T.den_lit]
      show checkS _ _ (decE _) = 0
      rw [decE_flat]
      exact hrc
  have hct : CTOk Try.prog (IW W l0 l1) (envE hd es) (ctBo K es.length bxA bxO) :=
    ctOr_ok (ctL_ok fun e he => by
      simp only [List.mem_cons, List.not_mem_nil, or_false] at he
      subst he
      exact ⟨rfl, rfl, fun w _ => sanity_c w⟩) (ctOr_ok (ctMd_ok hH.r hMA) (ctOr_ok (ctAt_ok hH.r hH.x hH.y hA) (ctOr_ok (ctIn_ok hans) (ctOr_ok (ctCk_ok hoks) ctBx_ok))))
  have fin : ∀ f : List (B × Bool), (∀ p ∈ f, p.1.den (IW W l0 l1) (envE hd es) = p.2) → bxRun K es.length f = true → Calls Try.prog 5 #[l0.v, l1.v, .int .u8 s, .agg #[.int .u8 u, .int .u8 v]] W (fun e w' => e = .returned (.bool true) ∧ Below W.heap.size W w') := by
    intro f hf hrun
    unfold bxRun at hrun
    rw [ansF_eq, oksF_eq, factsF_eq] at hrun
    have h := calls_yesU (w := W) mixed nocount hct (hyp_fixed rfl) (k := ⟨f, [], 0⟩) ⟨hf, (fun _ h => nomatch h), fun _ h => absurd h (Nat.not_lt_zero _)⟩ (args := bxArgs) rfl hrun
    have ea : (bxArgs.map (V.den (IW W l0 l1) (envE hd es) id)).toArray = #[l0.v, l1.v, .int .u8 s, .agg #[.int .u8 u, .int .u8 v]] := by
      simp only [bxArgs, List.map_cons, List.map_nil, V.den, cellsOf, C.den, w3, g4, g5, T.dens_nil]
      rfl
    rw [ea] at h
    exact h
  obtain ⟨r1, r2⟩ := bx_run hM
  have hX : (inB5 (allQ K es.length)).den (IW W l0 l1) (envE hd es) = insideS K R es px py := by rw [in5_den, all_den hH]
  cases hi : insideS K R es px py with
  | false =>
    refine fin _ (fun p hp' => ?_) r1
    rcases List.mem_cons.1 hp' with rfl | hp'
    · exact hX.trans hi
    · exact hb p hp'
  | true =>
    obtain ⟨b0, b1, b2, b3⟩ := bxT_den (W := W) (l0 := l0) (l1 := l1) (es := es) hH
    have hh := inside_box hi
    unfold hasP at hh
    refine fin _ (fun p hp' => ?_) r2
    rcases List.mem_append.1 hp' with hp' | hp'
    · simp only [List.mem_cons, List.not_mem_nil, or_false] at hp'
      rcases hp' with rfl | rfl | rfl | rfl | rfl
      · exact hX.trans hi
      all_goals (refine B.lt_f.2 ?_; simp only [w1, w2, b0, b1, b2, b3]; omega)
    · exact hb p hp'
end Go.Proofs.Ytliimpbbppbghaa.Sx
