import Derived.Test.YtgnogdncoljldaaGreatQRf
set_option linter.all false
set_option autoImplicit false
namespace Go.Proofs.YtgnogdncoljldaaGreat.Sx
open Go Go.RowKit
structure RootI (I : Interp) : Prop where
 opq : I.opq = numOpq
 f900 : ∀ a b, I.fi 900 [a, b] = gz a b
 f901 : ∀ a b c, I.fi 901 [a, b, c] = RM.sideZ a b c
 f30 : ∀ s n, I.fi 30 [s, n] = if n = 0 then 0 else s
 f31 : ∀ n d, I.fi 31 [n, d] = n.tdiv (gz n d)
 f32 : ∀ n d, I.fi 32 [n, d] = d.tdiv (gz n d)
 f33 : ∀ a s n d b t m e, I.fi 33 [a, s, n, d, b, t, m, e] = RM.cmpZ a s n d b t m e
 b5 : ∀ a s n d, I.fb 5 [a, s, n, d] = true → RtZ a s n d
def app2 (f : Nat) (a b : T) : T := .app f (.cons a (.cons b .nil))
def sgT (s : Int) (n : T) : T := match n with
 | .lit m => .lit (bif intSame m 0 then 0 else s)
 | t => app2 30 (.lit s) t
def qnT (n d : T) : T := match n, d with
 | .lit m, .lit e => .lit (m.tdiv (gz m e))
 | t, u => app2 31 t u
def qdT (n d : T) : T := match n, d with
 | .lit m, .lit e => .lit (e.tdiv (gz m e))
 | t, u => app2 32 t u
def cmp8 (a s n d b t m e : T) : T := .app 33 (.cons a (.cons s (.cons n (.cons d (.cons b (.cons t (.cons m (.cons e .nil))))))))
def cmpT (a s n d b t m e : T) : T := match a, s, n, d, b, t, m, e with
 | .lit a, .lit s, .lit n, .lit d, .lit b, .lit t, .lit m, .lit e => .lit (RM.cmpZ a s n d b t m e)
 | a, s, n, d, b, t, m, e => cmp8 a s n d b t m e
section
variable {I : Interp} {ρ : Env} (hI : RootI I)
include hI
theorem sgT_den (s : Int) (n : T) : (sgT s n).den I ρ = if n.den I ρ = 0 then 0 else s := by
 cases n with
 | lit m =>
   show (bif intSame m 0 then (0 : Int) else s) = if m = 0 then 0 else s
   by_cases h : m = 0
   ·rw [intSame_eq.2 h, if_pos h]; rfl
   ·have : intSame m 0 = false := by cases hb : intSame m 0 with
     | false => rfl
     | true => exact absurd (intSame_eq.1 hb) h
    rw [this, if_neg h]; rfl
 | _ => exact hI.f30 _ _
theorem qnT_den (n d : T) : (qnT n d).den I ρ = (n.den I ρ).tdiv (gz (n.den I ρ) (d.den I ρ)) := by
 unfold qnT
 split
 ·rfl
 ·exact hI.f31 _ _
theorem qdT_den (n d : T) : (qdT n d).den I ρ = (d.den I ρ).tdiv (gz (n.den I ρ) (d.den I ρ)) := by
 unfold qdT
 split
 ·rfl
 ·exact hI.f32 _ _
theorem cmpT_den (a s n d b t m e : T) : (cmpT a s n d b t m e).den I ρ = RM.cmpZ (a.den I ρ) (s.den I ρ) (n.den I ρ) (d.den I ρ) (b.den I ρ) (t.den I ρ) (m.den I ρ) (e.den I ρ) := by
 unfold cmpT
 split
 ·rfl
 ·exact hI.f33 _ _ _ _ _ _ _ _
end
def nnT (k : Known) : T → Bool
 | .bin .mul a b => a.same b || inR k (.bin .mul a b) 0 l256
 | .bin .add a b => (nnT k a && nnT k b) || inR k (.bin .add a b) 0 l256
 | t => inR k t 0 l256
theorem nnT_ok {I : Interp} {ρ : Env} {k : Known} (hk : k.Ok I ρ) : ∀ {t : T}, nnT k t = true → 0 ≤ t.den I ρ
 | .bin .mul a b, h => by
   unfold nnT at h
   rcases Bool.or_eq_true _ _ ▸ h with h | h
   ·rw [T.same_eq h, T.den_bin, ev_mul]
    rcases Int.le_total 0 (b.den I ρ) with h | h
    ·exact Int.mul_nonneg h h
    ·have := Int.mul_nonneg (Int.neg_nonneg_of_nonpos h) (Int.neg_nonneg_of_nonpos h); rwa [Int.neg_mul_neg] at this
   ·exact (inR_ok hk h).1
 | .bin .add a b, h => by
   unfold nnT at h
   rcases Bool.or_eq_true _ _ ▸ h with h | h
   ·simp only [Bool.and_eq_true] at h
    have h1 := nnT_ok hk h.1
    have h2 := nnT_ok hk h.2
    rw [T.den_bin, ev_add]
    omega
   ·exact (inR_ok hk h).1
 | .bin .sub a b, h | .bin .quo a b, h | .bin .rem a b, h | .bin .max a b, h | .bin .min a b, h => (inR_ok hk h).1
 | .lit _, h | .var _, h | .wrap _ _, h | .app _ _, h | .cons _ _, h | .nil, h => (inR_ok hk h).1
def oneS (s : Int) : Bool := intSame s 1 || intSame s (-1)
theorem oneS_ok {s : Int} (h : oneS s = true) : s = 1 ∨ s = -1 := by
 unfold oneS at h
 rcases Bool.or_eq_true _ _ ▸ h with h | h
 ·exact .inl (intSame_eq.1 h)
 ·exact .inr (intSame_eq.1 h)
def ndK (k : Known) (n d : T) : Bool := nnT k n && (inR k n (-l256) l256 && inR k d 1 l256)
theorem ndK_ok {I : Interp} {ρ : Env} {k : Known} (hk : k.Ok I ρ) {n d : T} (h : ndK k n d = true) : 0 ≤ n.den I ρ ∧ n.den I ρ ≤ l256 ∧ 1 ≤ d.den I ρ ∧ d.den I ρ ≤ l256 := by
 unfold ndK at h
 simp only [Bool.and_eq_true] at h
 exact ⟨nnT_ok hk h.1, (inR_ok hk h.2.1).2, (inR_ok hk h.2.2).1, (inR_ok hk h.2.2).2⟩
def betw (lo x hi : Int) : Bool := !intLt x lo && !intLt hi x
theorem betw_ok {lo x hi : Int} (h : betw lo x hi = true) : lo ≤ x ∧ x ≤ hi := by
 unfold betw at h
 simp only [Bool.and_eq_true, Bool.not_eq_true', intLt_eq, decide_eq_false_iff_not] at h
 omega
def rtB (a s n d : Int) : Bool := betw iLo a iHi && (betw (-1) s 1 && (betw 0 n l256 && (betw 1 d l256 && (intSame (gz n d) 1 && (intSame s 0 == intSame n 0)))))
theorem rtB_ok {a s n d : Int} (h : rtB a s n d = true) : RtZ a s n d := by
 unfold rtB at h
 simp only [Bool.and_eq_true] at h
 obtain ⟨h1, h2, h3, h4, h5, h6⟩ := h
 have h6 : intSame s 0 = intSame n 0 := by simpa using h6
 refine ⟨(betw_ok h1).1, (betw_ok h1).2, (betw_ok h2).1, (betw_ok h2).2, (betw_ok h3).1, (betw_ok h3).2, (betw_ok h4).1, (betw_ok h4).2, intSame_eq.1 h5, ?_⟩
 rw [← intSame_eq, ← intSame_eq, h6]
def rtLit (a s n d : T) : Bool := match a, s, n, d with
 | .lit a, .lit s, .lit n, .lit d => rtB a s n d
 | _, _, _, _ => false
def rtWhole (s n d : T) : Bool := match s, n, d with
 | .lit s, .lit n, .lit d => intSame s 0 && (intSame n 0 && intSame d 1)
 | _, _, _ => false
def rtMade (k : Known) (s n d : T) : Bool := match s, n, d with
 | .app f (.cons (.lit g) (.cons m .nil)), .app f1 (.cons m1 (.cons e1 .nil)), .app f2 (.cons m2 (.cons e2 .nil)) =>
   Nat.beq f 30 && (Nat.beq f1 31 && (Nat.beq f2 32 && (oneS g && (m.same m1 && (m.same m2 && (e1.same e2 && ndK k m e1))))))
 | _, _, _ => false
def rtFact (k : Known) (a s n d : T) : Bool := match atomOf k.facts (.app 5 (.cons a (.cons s (.cons n (.cons d .nil))))) with
 | some true => true
 | _ => false
theorem rtWhole_ok {a : Int} (h1 : iLo ≤ a) (h2 : a ≤ iHi) : RtZ a 0 0 1 := ⟨h1, h2, by decide, by decide, by decide, by decide, by decide, by decide, gz01, ⟨fun _ => rfl, fun _ => rfl⟩⟩
def rtK (k : Known) (a s n d : T) : Bool := rtLit a s n d || ((inR k a iLo iHi && (rtWhole s n d || rtMade k s n d)) || rtFact k a s n d)
section
variable {I : Interp} {ρ : Env} (hI : RootI I)
include hI
theorem rtMade_ok {a g : Int} {f f1 f2 : Nat} {m m1 m2 e1 e2 : T} (ha1 : iLo ≤ a) (ha2 : a ≤ iHi) (h1 : f = 30) (h2 : f1 = 31) (h3 : f2 = 32) (h4 : g = 1 ∨ g = -1) (h5 : m = m1) (h6 : m = m2) (h7 : e1 = e2)
  (h8 : 0 ≤ m.den I ρ ∧ m.den I ρ ≤ l256 ∧ 1 ≤ e1.den I ρ ∧ e1.den I ρ ≤ l256) : RtZ a ((T.app f (.cons (.lit g) (.cons m .nil))).den I ρ) ((T.app f1 (.cons m1 (.cons e1 .nil))).den I ρ) ((T.app f2 (.cons m2 (.cons e2 .nil))).den I ρ) := by
 subst h1 h2 h3 h5 h6 h7
 obtain ⟨i1, i2, i3, i4⟩ := h8
 have := rtOf ha1 ha2 h4 i1 i2 i3 i4
 rw [T.den_app, T.den_app, T.den_app, T.dens_cons, T.dens_cons, T.dens_cons, T.dens_nil, T.dens_cons, T.dens_nil, hI.f30, hI.f31, hI.f32]
 exact this
theorem rtK_ok {k : Known} (hk : k.Ok I ρ) {a s n d : T} (h : rtK k a s n d = true) : RtZ (a.den I ρ) (s.den I ρ) (n.den I ρ) (d.den I ρ) := by
 unfold rtK at h
 rcases Bool.or_eq_true _ _ ▸ h with h | h
 ·unfold rtLit at h
  split at h
  ·exact rtB_ok h
  ·cases h
 ·rcases Bool.or_eq_true _ _ ▸ h with h | h
  ·simp only [Bool.and_eq_true] at h
   obtain ⟨ha, h⟩ := h
   obtain ⟨ha1, ha2⟩ := inR_ok hk ha
   rcases Bool.or_eq_true _ _ ▸ h with h | h
   ·unfold rtWhole at h
    split at h
    ·simp only [Bool.and_eq_true, intSame_eq] at h
     obtain ⟨rfl, rfl, rfl⟩ := h
     exact rtWhole_ok ha1 ha2
    ·cases h
   ·unfold rtMade at h
    split at h
    ·simp only [Bool.and_eq_true] at h
     obtain ⟨h1, h2, h3, h4, h5, h6, h7, h8⟩ := h
     exact rtMade_ok hI ha1 ha2 (Nat.eq_of_beq_eq_true h1) (Nat.eq_of_beq_eq_true h2) (Nat.eq_of_beq_eq_true h3) (oneS_ok h4) (T.same_eq h5) (T.same_eq h6) (T.same_eq h7) (ndK_ok hk h8)
    ·cases h
  ·unfold rtFact at h
   split at h
   ·rename_i h'
    exact hI.b5 _ _ _ _ (atomOf_ok hk.facts h')
   ·cases h
theorem gives_root {a s n d : T} {w : World} {v : Value} (h : RootZ w v (a.den I ρ) (s.den I ρ) (n.den I ρ) (d.den I ρ)) :
  ∃ β : Nat → Nat, (∀ j t, ([n, d] : List T)[j]? = some t → heldN w (numOpq.dec (β j)) [t.den I ρ]) ∧ v = .agg (cellsOf I ρ β (rootC a s n d 0)) := by
 obtain ⟨n0, n1, d0, d1, rfl, hn, hd⟩ := h
 obtain ⟨rfl, c0, rfl, k0⟩ := held_of hn
 obtain ⟨rfl, c1, rfl, k1⟩ := held_of hd
 refine ⟨fun j => if j = 0 then c0 else c1, fun j t hj => ?_, ?_⟩
 ·match j, hj with
  | 0, hj => injection hj with hj; subst hj; exact k0
  | 1, hj => injection hj with hj; subst hj; exact k1
 ·simp only [cellsOf, rootC, List.map_cons, List.map_nil, C.den, hI.opq]
  rfl
end
def fnOf (g : FuncId) : FnR := ⟨g, [.int, .int, .num, .num], fun k ts => match ts with
 | [[a], [.lit s], [n], [d]] => bif oneS s && (inR k a iLo iHi && ndK k n d) then some ⟨[qnT n d, qdT n d], .tup [(true, rootC a (sgT s n) (qnT n d) (qdT n d) 0), (false, [.bool (.lit true)])]⟩ else none
 | _ => none⟩
def fnCmp (g : FuncId) : FnR := ⟨g, [.root, .root], fun k ts => match ts with
 | [[a, s, n, d], [b, t, m, e]] => bif rtK k a s n d && rtK k b t m e then some ⟨[], .c (.int .i64 (cmpT a s n d b t m e))⟩ else none
 | _ => none⟩
def fnRight (g : FuncId) : FnR := ⟨g, [.root], fun k ts => match ts with
 | [[a, s, n, d]] => bif rtK k a s n d then some ⟨[], .c (.bool (.lit true))⟩ else none
 | _ => none⟩
section
variable {I : Interp} {ρ : Env} (hI : RootI I)
include hI
theorem fnOf_ok {g : FuncId} (hc : ∀ (s : Int), (s = 1 ∨ s = -1) → ∀ (vn vd : Value) (a n d : Int) (w : World), ZNum w.heap.size w vn n → ZNum w.heap.size w vd d → 0 ≤ n → n ≤ l256 → 1 ≤ d → d ≤ l256 → iLo ≤ a → a ≤ iHi →
  Calls Tryz.prog g #[.int .i64 a, .int .i64 s, vn, vd] w (fun x w' => OfZ a s n d x w' ∧ Below w.heap.size w w')) : (fnOf g).Ok Tryz.prog I ρ := by
 intro k ts r hk hv w vs ha
 unfold fnOf at hv
 simp only at hv
 split at hv
 ·rename_i a s n d
  cases hb : (oneS s && (inR k a iLo iHi && ndK k n d)) with
  | false => rw [hb] at hv; cases hv
  | true =>
    rw [hb] at hv
    injection hv with hv
    subst hv
    simp only [Bool.and_eq_true] at hb
    obtain ⟨b1, b2, b3⟩ := hb
    obtain ⟨a1, a2⟩ := inR_ok hk b2
    obtain ⟨i1, i2, i3, i4⟩ := ndK_ok hk b3
    obtain ⟨v1, r1, z1, y1, rfl, e1, k1, ha⟩ := RArgs.cons ha
    obtain ⟨v2, r2, z2, y2, rfl, e2, k2, ha⟩ := RArgs.cons ha
    obtain ⟨v3, r3, z3, y3, rfl, e3, k3, ha⟩ := RArgs.cons ha
    obtain ⟨v4, r4, z4, y4, rfl, e4, k4, ha⟩ := RArgs.cons ha
    obtain ⟨rfl, rfl⟩ := RArgs.nil ha
    injection e1 with e1 f1
    subst f1
    injection e2 with e2 f2
    subst f2
    injection e3 with e3 f3
    subst f3
    injection e4 with e4 f4
    subst e1 e2 e3 e4
    obtain ⟨x1, q1, hv1⟩ := k1.int
    obtain ⟨x2, q2, hv2⟩ := k2.int
    obtain ⟨x3, q3, hv3⟩ := k3.num
    obtain ⟨x4, q4, hv4⟩ := k4.num
    injection q1 with q1
    injection q2 with q2
    injection q3 with q3
    injection q4 with q4
    subst q1 q2 q3 q4 hv1 hv2
    refine (hc s (oneS_ok b1) v3 v4 _ _ _ w hv3 hv4 i1 i2 i3 i4 a1 a2).mono ?_
    rintro x w' ⟨⟨v, rfl, hr⟩, hb⟩
    obtain ⟨β, h1, h2⟩ := gives_root hI (a := a) (s := sgT s n) (n := qnT n d) (d := qdT n d) (hr.cast rfl (sgT_den hI s n).symm (qnT_den hI n d).symm (qdT_den hI n d).symm)
    exact ⟨⟨β, h1, by rw [h2]; rfl⟩, hb⟩
 ·cases hv
theorem fnCmp_ok {g : FuncId} (hc : ∀ (v v2 : Value) (a s n d a2 s2 n2 d2 : Int) (w : World), RootZ w v a s n d → RootZ w v2 a2 s2 n2 d2 → RtZ a s n d → RtZ a2 s2 n2 d2 →
  Calls Tryz.prog g #[v, v2] w (fun x w' => x = .returned (.int .i64 (RM.cmpZ a s n d a2 s2 n2 d2)) ∧ Below w.heap.size w w')) : (fnCmp g).Ok Tryz.prog I ρ := by
 intro k ts r hk hv w vs ha
 unfold fnCmp at hv
 simp only at hv
 split at hv
 ·rename_i a s n d b t m e
  cases hb : (rtK k a s n d && rtK k b t m e) with
  | false => rw [hb] at hv; cases hv
  | true =>
    rw [hb] at hv
    injection hv with hv
    subst hv
    simp only [Bool.and_eq_true] at hb
    have b1 := rtK_ok hI hk hb.1
    have b2 := rtK_ok hI hk hb.2
    obtain ⟨v1, r1, z1, y1, rfl, e1, k1, ha⟩ := RArgs.cons ha
    obtain ⟨v2, r2, z2, y2, rfl, e2, k2, ha⟩ := RArgs.cons ha
    obtain ⟨rfl, rfl⟩ := RArgs.nil ha
    injection e1 with e1 e1'
    subst e1'
    injection e2 with e2 e2'
    subst e1 e2
    refine (hc v1 v2 _ _ _ _ _ _ _ _ w k1 k2 b1 b2).mono ?_
    rintro x w' ⟨rfl, hb⟩
    refine ⟨⟨id, (fun _ _ hj => nomatch hj), ?_⟩, hb⟩
    simp only [V.den, C.den, cmpT_den hI]
 ·cases hv
theorem fnRight_ok {g : FuncId} (hc : ∀ (v : Value) (a s n d : Int) (w : World), RootZ w v a s n d → RtZ a s n d →
  Calls Tryz.prog g #[v] w (fun x w' => x = .returned (.bool true) ∧ Below w.heap.size w w')) : (fnRight g).Ok Tryz.prog I ρ := by
 intro k ts r hk hv w vs ha
 unfold fnRight at hv
 simp only at hv
 split at hv
 ·rename_i a s n d
  cases hb : rtK k a s n d with
  | false => rw [hb] at hv; cases hv
  | true =>
    rw [hb] at hv
    injection hv with hv
    subst hv
    have b1 := rtK_ok hI hk hb
    obtain ⟨v1, r1, z1, y1, rfl, e1, k1, ha⟩ := RArgs.cons ha
    obtain ⟨rfl, rfl⟩ := RArgs.nil ha
    injection e1 with e1 e1'
    subst e1
    refine (hc v1 _ _ _ _ w k1 b1).mono ?_
    rintro x w' ⟨rfl, hb⟩
    exact ⟨⟨id, (fun _ _ hj => nomatch hj), rfl⟩, hb⟩
 ·cases hv
end
def fnV : List FnR := [fnOf 32, fnCmp 20, fnRight 27]
def fnW : List FnR := [fnOf 78]
def ctV2 : CT := ctOr (ctFn fnV) ctV1
def ctW2 : CT := ctOr (ctFn fnW) ctW0
theorem ctV2_ok {I : Interp} {ρ : Env} (hI : RootI I) : CTOk Tryz.prog I ρ ctV2 := by
 refine ctOr_ok (ctFn_ok hI.opq fun e he => ?_) (ctV1_ok hI.opq hI.f900 hI.f901)
 simp only [fnV, List.mem_cons, List.not_mem_nil, or_false] at he
 rcases he with rfl | rfl | rfl
 ·refine fnOf_ok hI fun s hs vn vd a n d w h1 h2 h3 h4 h5 h6 h7 h8 => ?_
  rcases hs with rfl | rfl
  ·exact vofp_c vn vd a n d w h1 h2 h3 h4 h5 h6 h7 h8
  ·exact vofm_c vn vd a n d w h1 h2 h3 h4 h5 h6 h7 h8
 ·exact fnCmp_ok hI vcmp2_c
 ·exact fnRight_ok hI vright2_c
theorem ctW2_ok {I : Interp} {ρ : Env} (hI : RootI I) : CTOk Tryz.prog I ρ ctW2 := by
 refine ctOr_ok (ctFn_ok hI.opq fun e he => ?_) (ctW0_ok hI.opq hI.f900)
 simp only [fnW, List.mem_cons, List.not_mem_nil, or_false] at he
 subst he
 refine fnOf_ok hI fun s hs vn vd a n d w h1 h2 h3 h4 h5 h6 h7 h8 => ?_
 rcases hs with rfl | rfl
 ·exact rofp_c vn vd a n d w h1 h2 h3 h4 h5 h6 h7 h8
 ·exact rofm_c vn vd a n d w h1 h2 h3 h4 h5 h6 h7 h8
end Go.Proofs.YtgnogdncoljldaaGreat.Sx

