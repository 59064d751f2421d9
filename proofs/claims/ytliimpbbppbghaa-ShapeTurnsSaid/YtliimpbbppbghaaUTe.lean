import Derived.Test.YtliimpbbppbghaaUEd9
import Derived.Test.YtliimpbbppbghaaUTb
import Derived.Test.YtliimpbbppbghaaUSxk
set_option linter.all false
set_option autoImplicit false
namespace Go.Proofs.Ytliimpbbppbghaa.Sx
open Go Go.RowKit
structure Ls where
  p : Option Addr
  cap : Nat
  zs : List Int
def Ls.v (l : Ls) : Value := .slice l.p l.zs.length l.cap
def Ls.Ok (l : Ls) (W : World) : Prop := I64s W.heap.size W l.v l.zs
theorem Ls.spec {l : Ls} {W : World} (h : l.Ok W) : l.zs.length ≤ maxLen ∧ (0 < l.zs.length → ∃ b off, l.p = some ⟨b, off, none⟩ ∧ b < W.heap.size ∧ ∀ j, j < l.zs.length → W.cell? ⟨b, off + j, none⟩ = some (.int .i64 (l.zs[j]?.getD 0))) := by
  obtain ⟨p, cap, e, h1, h2⟩ := h
  unfold Ls.v at e
  injection e with e1 e2 e3
  subst e1
  exact ⟨h1, h2⟩
def clampN (x n : Int) : Int := if x < 0 then 0 else if n ≤ x then n - 1 else x
def sX (c n : Int) : Int := clampN (drX (c / 16) (c % 16) + 65) n
def sY (c n : Int) : Int := clampN (drY (c / 16) (c % 16) + 65) n
theorem clampN_in (x : Int) {n : Int} (h : 0 < n) : 0 ≤ clampN x n ∧ clampN x n < n := by unfold clampN; split <;> (try split) <;> omega
def dispX (r t k : Int) : Int := drX r (if k = 3 then t + 3 else t + 1) - drX r t
def dispY (r t k : Int) : Int := drY r (if k = 3 then t + 3 else t + 1) - drY r t
def eX (c n : Int) : Int := clampN (dispX (c / 64) (c / 4 % 16) (c % 4) + 130) n
def eY (c n : Int) : Int := clampN (dispY (c / 64) (c / 4 % 16) (c % 4) + 130) n
def fiS (l : Ls) (f : Nat) (a : List Int) : Int := match f, a with
  | 0, [k, n] => drawV l.zs k.toNat n
  | 1, [k] => drawA l.zs k.toNat
  | 5, [k, ax, ay, bx, by', cx, cy] => radiusZ k ax ay bx by' cx cy
  | 20, [c, n] => sX c n
  | 21, [c, n] => sY c n
  | 22, [r, t] => r * 16 + t
  | 23, [t, k] => if k = 3 then t + 3 else t + 1
  | 24, [c, n] => eX c n
  | 25, [c, n] => eY c n
  | 26, [r, t, k] => (r * 16 + t) * 4 + k
  | 998, [] => l.zs.length
  | _, _ => 0
def fvS (l : Ls) (f : Nat) (a : List Int) : Value := match f, a with
  | 1000, [k] => cutV l.v k
  | _, _ => l.v
theorem fvS_sl (l : Ls) (f : Nat) (a : List Int) : ∃ p n c, fvS l f a = .slice p n c := by
  unfold fvS
  split
  · exact ⟨_, _, _, rfl⟩
  · exact ⟨_, _, _, rfl⟩
def IS (W : World) (l : Ls) : Interp := ⟨fiS l, fun _ _ => false, fvS l, fixedOf W, noOpq, fun _ => rfl, fun f x => by obtain ⟨p, n, c, e⟩ := fvS_sl l f x; rw [e]; exact ⟨(fun _ h => nomatch h), (fun _ h => nomatch h)⟩, ⟨l.p, l.zs.length, l.cap, rfl, rfl, fun k => rfl⟩⟩
def drT (f : Nat) (r t : T) : T := .bin .sub (.app f (.cons (.app 22 (.cons r (.cons t .nil))) (.cons (.lit 131) .nil))) (.lit 65)
def normT : T → T
  | .lit n => .lit (n % 4)
  | t => t
def placeS : T → Option Nat
  | .lit (.ofNat 0) => some 0
  | .app f (.cons (.lit (.ofNat k)) .nil) => bif Nat.beq f 1 then some k else none
  | _ => none
def ctNs : CT := fun g args s => bif Nat.beq g 26 then match args with
  | [.c (.ptr id 0), .c (.int .i64 (.lit n))] => match s.find id with
    | some ⟨ty, [.abs j .nil, .int .i64 a]⟩ => bif Nat.beq ty 63 && (Nat.beq j 0 && (intLt 0 n && intLt n 1000000)) then
        match placeS a with
        | some k => natF k fun k => some (s.putK id [.abs 0 .nil, .int .i64 (.app 1 (tl [.lit (.ofNat (k + 1))]))] fun s' => .leaf (.c (.int .i64 (.app 0 (tl [.lit (.ofNat k), .lit n]))), s'))
        | none => none
      else none
    | _ => none
  | _ => none
  else none
def ctP : CT := fun g args s => bif Nat.beq g 15 then match args with
  | [.agg [.int .i64 (.lit (.ofNat 0)), .int .i64 (.lit (.ofNat 0)), .int .i64 t, .bool (.lit false)], .agg [.int .i64 r, .int .i64 (.lit (.ofNat 0))]] =>
    bif inB s.known r 0 65 && inB s.known t 0 15 then some ((normT t).force fun t => r.force fun r => .leaf (.agg [.int .i64 (drT 20 r t), .int .i64 (drT 21 r t)], s)) else none
  | _ => none
  else none
def ctR : CT := fun g args s => match args with
  | [.agg [.int .i64 k, .int .i64 ax, .int .i64 ay, .int .i64 bx, .int .i64 by', .int .i64 cx, .int .i64 cy]] =>
    bif Nat.beq g 55 then some (.leaf (.c (.int .i64 (.app 5 (tl [k, ax, ay, bx, by', cx, cy]))), s)) else none
  | _ => none
def addT (c d : T) : T := .bin .add c d
def arcV (cx cy r t u k : T) : V := .agg [.int .i64 k, .int .i64 (addT cx (drT 20 r t)), .int .i64 (addT cy (drT 21 r t)), .int .i64 (addT cx (drT 20 r u)), .int .i64 (addT cy (drT 21 r u)), .int .i64 cx, .int .i64 cy]
def dsT (f : Nat) (r t k : T) : T := .bin .sub (.app f (.cons (.app 26 (.cons r (.cons t (.cons k .nil)))) (.cons (.lit 261) .nil))) (.lit 130)
def arcV2 (a b cx cy r t k : T) : V := .agg [.int .i64 k, .int .i64 a, .int .i64 b, .int .i64 (.bin .add a (dsT 24 r t k)), .int .i64 (.bin .add b (dsT 25 r t k)), .int .i64 cx, .int .i64 cy]
def endT (kn : Known) (t k : T) : T := match (B.mkEq k (.lit 3)).under kn with
  | .lit true => normT (T.mkBin .add t (.lit 3))
  | .lit false => normT (T.mkBin .add t (.lit 1))
  | _ => .app 23 (.cons t (.cons k .nil))
def besideT (c d : T) : Option T := match c with
  | .bin .sub a d' => bif d'.same d then some a else none
  | _ => none
def arcL (s : S) (cx cy r t k : T) : Tree (V × S) := match besideT cx (drT 20 r t), besideT cy (drT 21 r t) with
  | some a, some b => .leaf (arcV2 a b cx cy r t k, s)
  | _, _ => (endT s.known t k).force fun u => .leaf (arcV cx cy r t u k, s)
def ctArc : CT := fun g args s => bif Nat.beq g 54 then match args with
  | [.agg [.int .i64 cx, .int .i64 cy], .c (.int .i64 r), .c (.int .i64 t), .c (.int .i64 k)] =>
    bif inB s.known cx (-2000) 2000 && (inB s.known cy (-2000) 2000 && (inB s.known r 0 65 && (inB s.known t 0 7 && inB s.known k 2 3))) then
      some (cx.force fun cx => cy.force fun cy => r.force fun r => k.force fun k => (normT t).force fun t => arcL s cx cy r t k) else none
  | _ => none
  else none
def ctAS : CT := fun g args s => match args with
  | [.agg [.int .i64 a, .int .i64 b], .agg [.int .i64 c, .int .i64 d]] =>
    bif Nat.beq g 20 then
      (bif inB s.known (.bin .add a c) (-1000000) 1000000 && inB s.known (.bin .add b d) (-1000000) 1000000 then some (a.force fun a => b.force fun b => c.force fun c => d.force fun d => .leaf (.agg [.int .i64 (.bin .add a c), .int .i64 (.bin .add b d)], s)) else none) else
    bif Nat.beq g 50 then
      (bif inB s.known (.bin .sub a c) (-1000000) 1000000 && inB s.known (.bin .sub b d) (-1000000) 1000000 then some (a.force fun a => b.force fun b => c.force fun c => d.force fun d => .leaf (.agg [.int .i64 (.bin .sub a c), .int .i64 (.bin .sub b d)], s)) else none) else none
  | _ => none
theorem radd_tree : vals (execF Try.prog CT.none 20 20 [.agg [iv 0, iv 1], .agg [iv 2, iv 3]] sNone) = .leaf (.agg [.int .i64 (.wrap .i64 (.bin .add (.var 0) (.var 2))), .int .i64 (.wrap .i64 (.bin .add (.var 1) (.var 3)))]) := by kernel_rfl
theorem radd_c (a b c d : Int) (w : World) : Calls Try.prog 20 #[.agg #[.int .i64 a, .int .i64 b], .agg #[.int .i64 c, .int .i64 d]] w
    (fun e w' => e = .returned (.agg #[.int .i64 (wrap64 (a + c)), .int .i64 (wrap64 (b + d))]) ∧ Below w.heap.size w w') :=
  @calls_lit Try.prog I0 (envOf [a, b, c, d] []) mixed nocount CT.none (CT.none_ok _ _ _) 20 20 [.agg [iv 0, iv 1], .agg [iv 2, iv 3]] _ w (.agg #[.int .i64 (wrap64 (a + c)), .int .i64 (wrap64 (b + d))]) (fun _ h => nomatch h) rfl radd_tree ⟨rfl, by simp only [V.den, cellsOf, List.map_cons, List.map_nil, C.den, T.den_wrap, T.den_bin, T.den_var, ev_add, w64, envOf, List.getD_cons_zero, List.getD_cons_succ]⟩
theorem rsub_tree : vals (execF Try.prog CT.none 20 50 [.agg [iv 0, iv 1], .agg [iv 2, iv 3]] sNone) = .leaf (.agg [.int .i64 (.wrap .i64 (.bin .sub (.var 0) (.var 2))), .int .i64 (.wrap .i64 (.bin .sub (.var 1) (.var 3)))]) := by kernel_rfl
theorem rsub_c (a b c d : Int) (w : World) : Calls Try.prog 50 #[.agg #[.int .i64 a, .int .i64 b], .agg #[.int .i64 c, .int .i64 d]] w
    (fun e w' => e = .returned (.agg #[.int .i64 (wrap64 (a - c)), .int .i64 (wrap64 (b - d))]) ∧ Below w.heap.size w w') :=
  @calls_lit Try.prog I0 (envOf [a, b, c, d] []) mixed nocount CT.none (CT.none_ok _ _ _) 20 50 [.agg [iv 0, iv 1], .agg [iv 2, iv 3]] _ w (.agg #[.int .i64 (wrap64 (a - c)), .int .i64 (wrap64 (b - d))]) (fun _ h => nomatch h) rfl rsub_tree ⟨rfl, by simp only [V.den, cellsOf, List.map_cons, List.map_nil, C.den, T.den_wrap, T.den_bin, T.den_var, ev_sub, w64, envOf, List.getD_cons_zero, List.getD_cons_succ]⟩
section
variable {I : Interp} {ρ : Env} {w0 w w' : World} {X : Nat → Prop} {n0 : Nat} {β0 β : Nat → Nat} {s : S}
theorem WR.upd (h : WR I ρ w0 X n0 β0 β s w) {id : Nat} {b : Blk} (hb : (id, b) ∈ s.blks) (hbl : b.live = true) (hc : opn b.ty = false) {cs : List C} (hwf : ∀ c ∈ cs, c.wf s.nb = true) (hu : Upd (β id) (cellsOf I ρ β cs) b.ty w w') :
    WR I ρ w0 X n0 β0 β (s.put id cs) w' := by
  refine (h.put hb hbl hc hwf).alike ?_ hu.os hu.tape hu.output
  apply Array.ext'
  apply List.ext_getElem?
  intro k
  simp only [Array.getElem?_toList]
  by_cases hk : k = β id
  · subst hk
    rw [hu.row, setRow_heap w (β id) _ _ b.ty (0, 0) ((RowP.closed hc).1 (h.row _ hb hbl))]
  · rw [hu.other k hk, setRow_other w (β id) k _ hk]
end
section
variable {W : World} {l : Ls}
theorem is_fi (W : World) (l : Ls) : (IS W l).fi = fiS l := rfl
theorem fs5 (l : Ls) (k ax ay bx by' cx cy : Int) : fiS l 5 [k, ax, ay, bx, by', cx, cy] = radiusZ k ax ay bx by' cx cy := rfl
theorem fs20 (l : Ls) (c n : Int) : fiS l 20 [c, n] = sX c n := rfl
theorem fs21 (l : Ls) (c n : Int) : fiS l 21 [c, n] = sY c n := rfl
theorem fs23 (l : Ls) (t k : Int) : fiS l 23 [t, k] = if k = 3 then t + 3 else t + 1 := rfl
theorem fs24 (l : Ls) (c n : Int) : fiS l 24 [c, n] = eX c n := rfl
theorem fs25 (l : Ls) (c n : Int) : fiS l 25 [c, n] = eY c n := rfl
theorem fs26 (l : Ls) (r t k : Int) : fiS l 26 [r, t, k] = (r * 16 + t) * 4 + k := rfl
theorem fs22 (l : Ls) (r t : Int) : fiS l 22 [r, t] = r * 16 + t := rfl
theorem drX_in (r t : Int) (h : 0 ≤ r) : -r ≤ drX r t ∧ drX r t ≤ r := by unfold drX; (repeat' split) <;> omega
theorem drY_in (r t : Int) (h : 0 ≤ r) : -r ≤ drY r t ∧ drY r t ≤ r := by unfold drY; (repeat' split) <;> omega
theorem drT_x {ρ : Env} {r t : T} (hr : 0 ≤ r.den (IS W l) ρ ∧ r.den (IS W l) ρ ≤ 65) (ht : 0 ≤ t.den (IS W l) ρ ∧ t.den (IS W l) ρ ≤ 15) : (drT 20 r t).den (IS W l) ρ = drX (r.den (IS W l) ρ) (t.den (IS W l) ρ) := by
  unfold drT
  simp only [T.den_bin, T.den_app, T.dens_cons, T.dens_nil, T.den_lit, is_fi, fs20, fs22, ev_sub]
  unfold sX
  rw [show (r.den (IS W l) ρ * 16 + t.den (IS W l) ρ) / 16 = r.den (IS W l) ρ by omega, show (r.den (IS W l) ρ * 16 + t.den (IS W l) ρ) % 16 = t.den (IS W l) ρ by omega]
  have := drX_in (r.den (IS W l) ρ) (t.den (IS W l) ρ) hr.1
  unfold clampN
  rw [if_neg (by omega), if_neg (by omega)]
  omega
theorem drT_y {ρ : Env} {r t : T} (hr : 0 ≤ r.den (IS W l) ρ ∧ r.den (IS W l) ρ ≤ 65) (ht : 0 ≤ t.den (IS W l) ρ ∧ t.den (IS W l) ρ ≤ 15) : (drT 21 r t).den (IS W l) ρ = drY (r.den (IS W l) ρ) (t.den (IS W l) ρ) := by
  unfold drT
  simp only [T.den_bin, T.den_app, T.dens_cons, T.dens_nil, T.den_lit, is_fi, fs21, fs22, ev_sub]
  unfold sY
  rw [show (r.den (IS W l) ρ * 16 + t.den (IS W l) ρ) / 16 = r.den (IS W l) ρ by omega, show (r.den (IS W l) ρ * 16 + t.den (IS W l) ρ) % 16 = t.den (IS W l) ρ by omega]
  have := drY_in (r.den (IS W l) ρ) (t.den (IS W l) ρ) hr.1
  unfold clampN
  rw [if_neg (by omega), if_neg (by omega)]
  omega
theorem ap_turn {r t : Int} (hr : 0 ≤ r ∧ r ≤ 65) : apX 0 t false r 0 = drX r t ∧ apY 0 t false r 0 = drY r t := by
  unfold apX apY tuX tuY miX drX drY wrap64
  constructor <;> (repeat' split) <;> simp_all <;> omega
theorem dr_mod {r t u : Int} (h : t % 4 = u % 4) : drX r t = drX r u ∧ drY r t = drY r u := by unfold drX drY; rw [h]; exact ⟨rfl, rfl⟩
theorem normT_dr {ρ : Env} (r : Int) (t : T) : drX r ((normT t).den (IS W l) ρ) = drX r (t.den (IS W l) ρ) ∧ drY r ((normT t).den (IS W l) ρ) = drY r (t.den (IS W l) ρ) := by
  unfold normT
  split
  · exact dr_mod (by rw [T.den_lit, T.den_lit]; omega)
  · exact ⟨rfl, rfl⟩
theorem normT_in {ρ : Env} {t : T} (ht : 0 ≤ t.den (IS W l) ρ ∧ t.den (IS W l) ρ ≤ 15) : 0 ≤ (normT t).den (IS W l) ρ ∧ (normT t).den (IS W l) ρ ≤ 15 := by
  unfold normT
  split
  · simp only [T.den_lit] at ht ⊢; omega
  · exact ht
theorem ctP_ok (ρ : Env) : CTOk Try.prog (IS W l) ρ ctP := by
  intro g args s t h w0 X n0 β0 β w R ht hw ha
  unfold ctP at h
  cases h1 : Nat.beq g 15 with
  | false => rw [h1] at h; cases h
  | true =>
    rw [h1] at h
    have := Nat.eq_of_beq_eq_true h1
    subst this
    simp only [cond_true] at h
    split at h
    · rename_i t' r
      cases hc : (inB s.known r 0 65 && inB s.known t' 0 15) with
      | false => rw [hc] at h; cases h
      | true =>
        rw [hc] at h
        simp only [Bool.and_eq_true] at hc
        have hr := inB_ok hw.known hc.1
        have ht' := inB_ok hw.known hc.2
        injection h with h
        rw [T.force_eq, T.force_eq] at h
        subst h
        refine ct_leaf1 ((rapply_c 0 0 (t'.den (IS W l) ρ) false (r.den (IS W l) ρ) 0 w).mono fun e w' ⟨he, hb⟩ => ⟨?_, hb⟩) rfl ht hw
        rw [he]
        have e1 := drT_x (r := r) (t := normT t') hr (normT_in ht')
        have e2 := drT_y (r := r) (t := normT t') hr (normT_in ht')
        have e3 := normT_dr (W := W) (l := l) (ρ := ρ) (r.den (IS W l) ρ) t'
        have e4 := ap_turn (t := t'.den (IS W l) ρ) hr
        rw [e4.1, e4.2, ← e3.1, ← e3.2, ← e1, ← e2]
        rfl
    · cases h
theorem ctR_ok (ρ : Env) : CTOk Try.prog (IS W l) ρ ctR := by
  intro g args s t h w0 X n0 β0 β w R ht hw ha
  unfold ctR at h
  split at h
  · rename_i k ax ay bx by' cx cy
    cases h2 : Nat.beq g 55 with
    | true =>
      rw [h2] at h
      injection h with h
      subst h
      have := Nat.eq_of_beq_eq_true h2
      subst this
      refine ct_leaf1 ?_ rfl ht hw
      exact rrad_c _ _ _ _ _ _ _ w
    | false => rw [h2] at h; cases h
  · cases h
theorem placeS_spec {ρ : Env} {a : T} {k : Nat} (h : placeS a = some k) : a.den (IS W l) ρ = drawA l.zs k := by
  unfold placeS at h
  split at h
  · injection h with h; subst h; simp [T.den_lit, drawA]
  · rename_i f k'
    cases hb : Nat.beq f 1 with
    | false => rw [hb] at h; cases h
    | true =>
      rw [hb] at h
      injection h with h
      subst h
      have := Nat.eq_of_beq_eq_true hb
      subst this
      rw [T.den_app, T.dens_cons, T.dens_nil, T.den_lit]
      rfl
  · cases h
theorem ctNs_ok (h0 : l.Ok W) (ρ : Env) : CTOk Try.prog (IS W l) ρ ctNs := by
  intro g args s t h w0 X n0 β0 β w R ht hw ha
  unfold ctNs at h
  cases hg : Nat.beq g 26 with
  | false => rw [hg] at h; cases h
  | true =>
    have := Nat.eq_of_beq_eq_true hg
    subst this
    rw [hg] at h
    simp only [cond_true] at h
    split at h
    · rename_i id n
      split at h
      · rename_i ty j a hf
        cases hc : (Nat.beq ty 63 && (Nat.beq j 0 && (intLt 0 n && intLt n 1000000))) with
        | false => rw [hc] at h; cases h
        | true =>
          rw [hc] at h
          simp only [cond_true] at h
          simp only [Bool.and_eq_true, Nat.beq_eq, intLt_eq, decide_eq_true_eq] at hc
          obtain ⟨hty, hj, hn1, hn2⟩ := hc
          subst hty
          subst hj
          split at h
          · rename_i k hk
            simp only [natF_eq, Option.some.injEq] at h
            subst h
            rw [S.putK_eq] at ht
            obtain ⟨hb, hbl⟩ := find_mem hf
            have hcl : opn 63 = false := by decide
            have hrow := (RowP.closed (b := ⟨63, [.abs 0 .nil, .int .i64 a]⟩) hcl).1 (hw.row _ hb hbl)
            obtain ⟨q1, q2⟩ := Ls.spec h0
            have hcell : cellsOf (IS W l) ρ β [.abs 0 .nil, .int .i64 a] = #[l.v, .int .i64 (drawA l.zs k)] := by
              simp only [cellsOf, List.map_cons, List.map_nil, C.den, placeS_spec hk]
              rfl
            have hcell2 : cellsOf (IS W l) ρ β [.abs 0 .nil, .int .i64 (.app 1 (tl [.lit (.ofNat (k + 1))]))] = #[l.v, .int .i64 (drawA l.zs (k + 1))] := by
              simp only [cellsOf, List.map_cons, List.map_nil, C.den, tl, T.den_app, T.dens_cons, T.dens_nil, T.den_lit]
              rfl
            have hval : (T.app 0 (tl [.lit (.ofNat k), .lit n])).den (IS W l) ρ = drawV l.zs k n := by
              simp only [tl, T.den_app, T.dens_cons, T.dens_nil, T.den_lit]
              rfl
            rw [hcell] at hrow
            have hcall := next_c l.p l.zs k l.cap (β id) n w q1 hn1 (by omega) (fun hz => by
              obtain ⟨b, off, e, hb1, hb2⟩ := q2 hz
              obtain ⟨o, ho⟩ : ∃ o, W.heap[b]? = some o := ⟨_, Array.getElem?_eq_getElem hb1⟩
              obtain ⟨e1, e2⟩ := hw.hyp (b, o) (mem_fixed.2 ho)
              have hlt := (Array.getElem?_eq_some_iff.1 e1).1
              have e3 : w.heap[b]? = W.heap[b]? := (hw.keeps.block b hlt e2).trans (e1.trans ho.symm)
              refine ⟨b, off, e, fun eb => ?_, fun i hi => (World.cell?_of_block (a := ⟨b, off + i, none⟩) e3).trans (hb2 i hi)⟩
              rcases hw.own _ hb hbl with x | x
              · exact e2 (by rw [eb]; exact x)
              · simp only at x hlt; omega) hrow
            refine hcall.mono fun e w' ⟨he, hu⟩ => ?_
            subst he
            have hu : Upd (β id) (cellsOf (IS W l) ρ β [.abs 0 .nil, .int .i64 (.app 1 (tl [.lit (.ofNat (k + 1))]))]) TD w w' := by rw [hcell2]; exact hu
            have hwf : ∀ c ∈ [C.abs 0 .nil, .int .i64 (.app 1 (tl [.lit (.ofNat (k + 1))]))], c.wf s.nb = true := by
              intro c hc
              simp only [List.mem_cons, List.not_mem_nil, or_false] at hc
              rcases hc with rfl | rfl <;> rfl
            have := ht β w' (hw.upd hb hbl hcl hwf hu) rfl (Nat.le_refl _) (fun _ _ => rfl)
            simp only [V.den, C.den, hval] at this
            exact this
          · cases h
      · cases h
    · cases h
theorem ctAS_ok (ρ : Env) : CTOk Try.prog (IS W l) ρ ctAS := by
  intro g args s t h w0 X n0 β0 β w R ht hw ha
  unfold ctAS at h
  split at h
  · rename_i a b c d
    cases h1 : Nat.beq g 20 with
    | true =>
      rw [h1] at h
      have := Nat.eq_of_beq_eq_true h1
      subst this
      simp only [cond_true] at h
      cases hc : (inB s.known (.bin .add a c) (-1000000) 1000000 && inB s.known (.bin .add b d) (-1000000) 1000000) with
      | false => rw [hc] at h; cases h
      | true =>
        rw [hc] at h
        simp only [Bool.and_eq_true] at hc
        have k1 := inB_ok hw.known hc.1
        have k2 := inB_ok hw.known hc.2
        rw [T.den_bin, ev_add] at k1 k2
        injection h with h
        simp only [T.force_eq] at h
        subst h
        refine ct_leaf1 ((radd_c (a.den (IS W l) ρ) (b.den (IS W l) ρ) (c.den (IS W l) ρ) (d.den (IS W l) ρ) w).mono fun e w' ⟨he, hb⟩ => ⟨?_, hb⟩) rfl ht hw
        rw [he, w64_in _ (by omega), w64_in _ (by omega)]
        rfl
    | false =>
      rw [h1] at h
      simp only [cond_false] at h
      cases h2 : Nat.beq g 50 with
      | false => rw [h2] at h; cases h
      | true =>
        rw [h2] at h
        have := Nat.eq_of_beq_eq_true h2
        subst this
        simp only [cond_true] at h
        cases hc : (inB s.known (.bin .sub a c) (-1000000) 1000000 && inB s.known (.bin .sub b d) (-1000000) 1000000) with
        | false => rw [hc] at h; cases h
        | true =>
          rw [hc] at h
          simp only [Bool.and_eq_true] at hc
          have k1 := inB_ok hw.known hc.1
          have k2 := inB_ok hw.known hc.2
          rw [T.den_bin, ev_sub] at k1 k2
          injection h with h
          simp only [T.force_eq] at h
          subst h
          refine ct_leaf1 ((rsub_c (a.den (IS W l) ρ) (b.den (IS W l) ρ) (c.den (IS W l) ρ) (d.den (IS W l) ρ) w).mono fun e w' ⟨he, hb⟩ => ⟨?_, hb⟩) rfl ht hw
          rw [he, w64_in _ (by omega), w64_in _ (by omega)]
          rfl
  · cases h
theorem arcV_den {ρ : Env} {β : Nat → Nat} {cx cy r t u k : T} (hr : 0 ≤ r.den (IS W l) ρ ∧ r.den (IS W l) ρ ≤ 65) (ht : 0 ≤ t.den (IS W l) ρ ∧ t.den (IS W l) ρ ≤ 15) (hu : 0 ≤ u.den (IS W l) ρ ∧ u.den (IS W l) ρ ≤ 15) :
    (arcV cx cy r t u k).den (IS W l) ρ β = E7.val ⟨k.den (IS W l) ρ, cx.den (IS W l) ρ + drX (r.den (IS W l) ρ) (t.den (IS W l) ρ), cy.den (IS W l) ρ + drY (r.den (IS W l) ρ) (t.den (IS W l) ρ), cx.den (IS W l) ρ + drX (r.den (IS W l) ρ) (u.den (IS W l) ρ), cy.den (IS W l) ρ + drY (r.den (IS W l) ρ) (u.den (IS W l) ρ), cx.den (IS W l) ρ, cy.den (IS W l) ρ⟩ := by
  unfold arcV E7.val
  simp only [V.den, cellsOf, List.map_cons, List.map_nil, C.den, addT, T.den_bin (o := IOp.add), ev_add, drT_x hr ht, drT_x hr hu, drT_y hr ht, drT_y hr hu]
theorem besideT_eq {c d a : T} (h : besideT c d = some a) : c = .bin .sub a d := by
  unfold besideT at h
  split at h
  · rename_i a' d'
    cases hs : d'.same d with
    | true => rw [hs] at h; injection h with h; rw [h, T.same_eq hs]
    | false => rw [hs] at h; cases h
  · cases h
theorem disp_in {r t k : Int} (hr : 0 ≤ r ∧ r ≤ 65) : (-130 ≤ dispX r t k ∧ dispX r t k ≤ 130) ∧ (-130 ≤ dispY r t k ∧ dispY r t k ≤ 130) := by
  have h1 := fun u => drX_in r u hr.1
  have h2 := fun u => drY_in r u hr.1
  unfold dispX dispY
  have a := h1 t
  have b := h1 (if k = 3 then t + 3 else t + 1)
  have c := h2 t
  have d := h2 (if k = 3 then t + 3 else t + 1)
  omega
theorem dsT_den {ρ : Env} {r t k : T} (hr : 0 ≤ r.den (IS W l) ρ ∧ r.den (IS W l) ρ ≤ 65) (ht : 0 ≤ t.den (IS W l) ρ ∧ t.den (IS W l) ρ ≤ 15) (hk : 2 ≤ k.den (IS W l) ρ ∧ k.den (IS W l) ρ ≤ 3) :
    (dsT 24 r t k).den (IS W l) ρ = dispX (r.den (IS W l) ρ) (t.den (IS W l) ρ) (k.den (IS W l) ρ) ∧ (dsT 25 r t k).den (IS W l) ρ = dispY (r.den (IS W l) ρ) (t.den (IS W l) ρ) (k.den (IS W l) ρ) := by
  have hd := disp_in (t := t.den (IS W l) ρ) (k := k.den (IS W l) ρ) hr
  unfold dsT
  simp only [T.den_bin, T.den_app, T.dens_cons, T.dens_nil, T.den_lit, is_fi, fs24, fs25, fs26, ev_sub]
  unfold eX eY
  rw [show ((r.den (IS W l) ρ * 16 + t.den (IS W l) ρ) * 4 + k.den (IS W l) ρ) / 64 = r.den (IS W l) ρ by omega, show ((r.den (IS W l) ρ * 16 + t.den (IS W l) ρ) * 4 + k.den (IS W l) ρ) / 4 % 16 = t.den (IS W l) ρ by omega, show ((r.den (IS W l) ρ * 16 + t.den (IS W l) ρ) * 4 + k.den (IS W l) ρ) % 4 = k.den (IS W l) ρ by omega]
  unfold clampN
  rw [if_neg (by omega), if_neg (by omega), if_neg (by omega), if_neg (by omega)]
  omega
theorem arcV2_den {ρ : Env} {β : Nat → Nat} {a b cx cy r t k : T} (hr : 0 ≤ r.den (IS W l) ρ ∧ r.den (IS W l) ρ ≤ 65) (ht : 0 ≤ t.den (IS W l) ρ ∧ t.den (IS W l) ρ ≤ 15) (hk : 2 ≤ k.den (IS W l) ρ ∧ k.den (IS W l) ρ ≤ 3) :
    (arcV2 a b cx cy r t k).den (IS W l) ρ β = E7.val ⟨k.den (IS W l) ρ, a.den (IS W l) ρ, b.den (IS W l) ρ, a.den (IS W l) ρ + dispX (r.den (IS W l) ρ) (t.den (IS W l) ρ) (k.den (IS W l) ρ), b.den (IS W l) ρ + dispY (r.den (IS W l) ρ) (t.den (IS W l) ρ) (k.den (IS W l) ρ), cx.den (IS W l) ρ, cy.den (IS W l) ρ⟩ := by
  unfold arcV2 E7.val
  simp only [V.den, cellsOf, List.map_cons, List.map_nil, C.den, T.den_bin (o := IOp.add), ev_add, (dsT_den hr ht hk).1, (dsT_den hr ht hk).2]
theorem ctArc_ok (ρ : Env) : CTOk Try.prog (IS W l) ρ ctArc := by
  intro g args s t h w0 X n0 β0 β w R ht hw ha
  unfold ctArc at h
  cases h1 : Nat.beq g 54 with
  | false => rw [h1] at h; cases h
  | true =>
    rw [h1] at h
    have := Nat.eq_of_beq_eq_true h1
    subst this
    simp only [cond_true] at h
    split at h
    · rename_i cx cy r t' k
      cases hc : (inB s.known cx (-2000) 2000 && (inB s.known cy (-2000) 2000 && (inB s.known r 0 65 && (inB s.known t' 0 7 && inB s.known k 2 3)))) with
      | false => rw [hc] at h; cases h
      | true =>
        rw [hc] at h
        simp only [Bool.and_eq_true] at hc
        have hx := inB_ok hw.known hc.1
        have hy := inB_ok hw.known hc.2.1
        have hr := inB_ok hw.known hc.2.2.1
        have ht' := inB_ok hw.known hc.2.2.2.1
        have hk := inB_ok hw.known hc.2.2.2.2
        injection h with h
        simp only [T.force_eq] at h
        subst h
        have hcall := arc_c hx hy (show 0 ≤ r.den (IS W l) ρ ∧ r.den (IS W l) ρ ≤ 1000 by omega) ht' (show k.den (IS W l) ρ = 2 ∨ k.den (IS W l) ρ = 3 by omega) w
        have hn : 0 ≤ (normT t').den (IS W l) ρ ∧ (normT t').den (IS W l) ρ ≤ 7 := by
          unfold normT
          split
          · simp only [T.den_lit] at ht' ⊢; omega
          · exact ht'
        have e1 := normT_dr (W := W) (l := l) (ρ := ρ) (r.den (IS W l) ρ) t'
        have emod : (normT t').den (IS W l) ρ % 4 = t'.den (IS W l) ρ % 4 := by
          unfold normT
          split
          · rw [T.den_lit, T.den_lit]; omega
          · rfl
        have step : ∀ d : Int, 0 ≤ d → d ≤ 3 → (0 ≤ (normT (T.mkBin .add (normT t') (.lit d))).den (IS W l) ρ ∧ (normT (T.mkBin .add (normT t') (.lit d))).den (IS W l) ρ ≤ 15) ∧ drX (r.den (IS W l) ρ) ((normT (T.mkBin .add (normT t') (.lit d))).den (IS W l) ρ) = drX (r.den (IS W l) ρ) (t'.den (IS W l) ρ + d) ∧ drY (r.den (IS W l) ρ) ((normT (T.mkBin .add (normT t') (.lit d))).den (IS W l) ρ) = drY (r.den (IS W l) ρ) (t'.den (IS W l) ρ + d) := by
          intro d hd0 hd3
          have ed : (T.mkBin .add (normT t') (.lit d)).den (IS W l) ρ = (normT t').den (IS W l) ρ + d := by rw [T.den_mkBin, ev_add, T.den_lit]
          refine ⟨normT_in (by rw [ed]; omega), ?_⟩
          have := normT_dr (W := W) (l := l) (ρ := ρ) (r.den (IS W l) ρ) (T.mkBin .add (normT t') (.lit d))
          rw [this.1, this.2, ed]
          exact dr_mod (by omega)
        have hu : (0 ≤ (endT s.known (normT t') k).den (IS W l) ρ ∧ (endT s.known (normT t') k).den (IS W l) ρ ≤ 15) ∧ drX (r.den (IS W l) ρ) ((endT s.known (normT t') k).den (IS W l) ρ) = drX (r.den (IS W l) ρ) (if k.den (IS W l) ρ = 3 then t'.den (IS W l) ρ + 3 else t'.den (IS W l) ρ + 1) ∧ drY (r.den (IS W l) ρ) ((endT s.known (normT t') k).den (IS W l) ρ) = drY (r.den (IS W l) ρ) (if k.den (IS W l) ρ = 3 then t'.den (IS W l) ρ + 3 else t'.den (IS W l) ρ + 1) := by
          have hb := B.den_under hw.known (B.mkEq k (.lit 3))
          rw [B.den_mkEq, T.den_lit] at hb
          unfold endT
          split
          · rename_i e
            rw [e] at hb
            rw [if_pos (of_decide_eq_true hb.symm)]
            exact step 3 (by decide) (by decide)
          · rename_i e
            rw [e] at hb
            rw [if_neg (of_decide_eq_false hb.symm)]
            exact step 1 (by decide) (by decide)
          · rw [T.den_app, T.dens_cons, T.dens_cons, T.dens_nil, is_fi, fs23]
            refine ⟨by split <;> omega, ?_⟩
            split <;> exact dr_mod (by omega)
        obtain ⟨s1, s2, s3⟩ := hu
        refine hcall.mono fun e w' ⟨he, hb⟩ => ?_
        subst he
        unfold arcL at ht
        split at ht
        · rename_i a b ha hb'
          have hA := besideT_eq ha
          have hB := besideT_eq hb'
          have := ht β w' (hw.below hb) rfl (Nat.le_refl _) (fun _ _ => rfl)
          rw [arcV2_den hr (by omega) hk] at this
          have eA : cx.den (IS W l) ρ + drX (r.den (IS W l) ρ) ((normT t').den (IS W l) ρ) = a.den (IS W l) ρ := by rw [hA, T.den_bin, ev_sub, drT_x hr (by omega)]; omega
          have eB : cy.den (IS W l) ρ + drY (r.den (IS W l) ρ) ((normT t').den (IS W l) ρ) = b.den (IS W l) ρ := by rw [hB, T.den_bin, ev_sub, drT_y hr (by omega)]; omega
          have m := dr_mod (r := r.den (IS W l) ρ) (t := if k.den (IS W l) ρ = 3 then (normT t').den (IS W l) ρ + 3 else (normT t').den (IS W l) ρ + 1) (u := if k.den (IS W l) ρ = 3 then t'.den (IS W l) ρ + 3 else t'.den (IS W l) ρ + 1) (by split <;> omega)
          have ee : (⟨k.den (IS W l) ρ, a.den (IS W l) ρ, b.den (IS W l) ρ, a.den (IS W l) ρ + dispX (r.den (IS W l) ρ) ((normT t').den (IS W l) ρ) (k.den (IS W l) ρ), b.den (IS W l) ρ + dispY (r.den (IS W l) ρ) ((normT t').den (IS W l) ρ) (k.den (IS W l) ρ), cx.den (IS W l) ρ, cy.den (IS W l) ρ⟩ : E7) = arcE (cx.den (IS W l) ρ) (cy.den (IS W l) ρ) (r.den (IS W l) ρ) (t'.den (IS W l) ρ) (k.den (IS W l) ρ) := by
            unfold arcE dispX dispY
            rw [m.1, m.2, ← eA, ← eB, e1.1, e1.2]
            congr 1 <;> omega
          rw [ee] at this
          exact this
        · rw [T.force_eq] at ht
          have := ht β w' (hw.below hb) rfl (Nat.le_refl _) (fun _ _ => rfl)
          rw [arcV_den hr (by omega) s1, s2, s3, e1.1, e1.2] at this
          exact this
    · cases h
def ctG : CT := ctOr ctArc (ctOr ctAS (ctOr ctP (ctOr ctNs ctR)))
theorem ctG_ok (h0 : l.Ok W) (ρ : Env) : CTOk Try.prog (IS W l) ρ ctG := ctOr_ok (ctArc_ok ρ) (ctOr_ok (ctAS_ok ρ) (ctOr_ok (ctP_ok ρ) (ctOr_ok (ctNs_ok h0 ρ) (ctR_ok ρ))))
theorem drawsS_ok {ρ : Env} {f : List (B × Bool)} (hf : ∀ p ∈ f, p.1.den (IS W l) ρ = p.2) {n : Nat} (hn : ∀ i, i < n → -9223372036854775808 ≤ ρ.i i ∧ ρ.i i ≤ 9223372036854775807) : (⟨f, [0, 20, 21, 24, 25], n⟩ : Known).Ok (IS W l) ρ := by
  refine ⟨hf, ?_, hn⟩
  intro f hf a n h
  simp only [List.mem_cons, List.not_mem_nil, or_false] at hf
  rcases hf with rfl | rfl | rfl | rfl | rfl
  · exact drawV_in _ _ h
  · exact clampN_in _ h
  · exact clampN_in _ h
  · exact clampN_in _ h
  · exact clampN_in _ h
end
end Go.Proofs.Ytliimpbbppbghaa.Sx

