import Derived.Test.YtgnogdncoljldaaGreatQRd
import Derived.Test.YtgnogdncoljldaaGreatQMs
set_option linter.all false
set_option autoImplicit false
namespace Go.Proofs.YtgnogdncoljldaaGreat.Sx
open Go Go.RowKit
def lS : Int := (2 ^ 128) ^ 5
def rg (i : Nat) (lo hi : Int) : List (B × Bool) := [(.lt (.var i) (.lit lo), false), (.lt (.lit hi) (.var i), false)]
def niSide (g : FuncId) : NI := ⟨g, [.num, .num, .num], fun k ts => match ts with
 | [a, b, c] => bif inR k a (-lS) lS && (inR k b (-lS) lS && inR k c 0 lS) then some (.int .i64 (.app 901 (.cons a (.cons b (.cons c .nil))))) else none
 | _ => none⟩
def ctV1 : CT := ctOr (ctInt [niSide 112]) ctV0
def A3 : List V := [.agg (numV (.var 0) 0), .agg (numV (.var 1) 1), .agg (numV (.var 2) 2)]
def gT (a b : T) : T := .app 900 (.cons a (.cons b .nil))
def len1 (t : T) : T := .app 999 (.cons t .nil)
def rcs (a s n d : Nat) : List C := [.int .i64 (.var a), .int .i64 (.var s), .bool (.lt (.var n) (.lit 0)), .opq n, .bool (.lt (.var d) (.lit 0)), .opq d]
def iLo : Int := -9223372036854775808
def iHi : Int := 9223372036854775807
def KR : List (B × Bool) := rg 0 0 l256 ++ (rg 1 1 l256 ++ (rg 5 (-1) 1 ++ rg 4 iLo iHi))
def K2 : List (B × Bool) := KR ++ (rg 2 0 l256 ++ (rg 3 1 l256 ++ (rg 7 (-1) 1 ++ rg 6 iLo iHi)))
def KG : List (B × Bool) := [(.lt (.lit 0) (len1 (.var 1)), true), (.eq (gT (.var 0) (.var 1)) (.lit 1), true), (.eq (.bin .quo (.var 0) (gT (.var 0) (.var 1))) (.var 0), true), (.eq (.bin .quo (.var 1) (gT (.var 0) (.var 1))) (.var 1), true), (.eq (gT (.lit 0) (.lit 1)) (.lit 1), true),
 (.lt (.lit 8) (len1 (.var 0)), false), (.lt (.lit 8) (len1 (.var 1)), false), (.lt (.lit 8) (len1 (.bin .quo (.var 0) (gT (.var 0) (.var 1)))), false), (.lt (.lit 8) (len1 (.bin .quo (.var 1) (gT (.var 0) (.var 1)))), false),
 (.lt (.lit 8) (len1 (.bin .quo (.lit 0) (gT (.lit 0) (.lit 1)))), false), (.lt (.lit 8) (len1 (.bin .quo (.lit 1) (gT (.lit 0) (.lit 1)))), false)]
def KO : List (B × Bool) := [(.lt (.lit 0) (gT (.var 0) (.var 1)), true), (.lt (.lit 0) (gT (.lit 0) (.lit 1)), true), (.lt (.lit 0) (gT (.lit 0) (.var 1)), true), (.lt (.lit 0) (len1 (.var 1)), true), (.lt (.bin .quo (.var 0) (gT (.var 0) (.var 1))) (.lit 0), false), (.lt (.bin .quo (.var 1) (gT (.var 0) (.var 1))) (.lit 0), false),
 (.lt (.lit l256) (.bin .quo (.var 0) (gT (.var 0) (.var 1))), false), (.lt (.lit l256) (.bin .quo (.var 1) (gT (.var 0) (.var 1))), false),
 (.lt (.lit 8) (len1 (.bin .quo (.var 0) (gT (.var 0) (.var 1)))), false), (.lt (.lit 8) (len1 (.bin .quo (.var 1) (gT (.var 0) (.var 1)))), false), (.lt (.lit 8) (len1 (.bin .quo (.lit 0) (gT (.lit 0) (.lit 1)))), false), (.lt (.lit 8) (len1 (.bin .quo (.lit 1) (gT (.lit 0) (.lit 1)))), false)]
def KOf : List (B × Bool) := rg 0 0 l256 ++ (rg 1 1 l256 ++ (rg 2 iLo iHi ++ KO))
def AOf (s : Int) : List V := [.c (.int .i64 (.var 2)), .c (.int .i64 (.lit s)), .agg (numV (.var 0) 0), .agg (numV (.var 1) 1)]
def fiS (f : Nat) (l : List Int) : Int := match f, l with
 | 900, [a, b] => gz a b
 | 901, [a, b, c] => RM.sideZ a b c
 | 999, l => numOpq.len l
 | _, _ => 0
def IS : Interp := ⟨fiS, fun _ _ => false, fun _ _ => .nilFunc, [], numOpq, fun _ => rfl, fun _ _ => ⟨(fun _ h => nomatch h), (fun _ h => nomatch h)⟩⟩
theorem is_gcd (a b : Int) : IS.fi 900 [a, b] = gz a b := rfl
theorem is_side (a b c : Int) : IS.fi 901 [a, b, c] = RM.sideZ a b c := rfl
theorem is_len (z : Int) : IS.fi 999 [z] = (digs z.natAbs).length := rfl
theorem sideZ_sg (a b c : Int) (h : 0 ≤ c) : RM.sideZ a b c = sgS a b c := by
 have hs : ∀ x : Int, x.sign = sg x := fun x => by
  unfold sg
  split
  ·exact Int.sign_eq_neg_one_of_neg (by assumption)
  ·split
   ·exact Int.sign_eq_one_of_pos (by assumption)
   ·rw [show x = 0 by omega]; rfl
 unfold sgS
 rw [if_neg (show ¬ c < 0 by omega)]
 unfold RM.sideZ
 simp only [hs]
section
variable {I : Interp} {ρ : Env}
theorem rg_ok {i : Nat} {lo hi : Int} (h1 : lo ≤ ρ.i i) (h2 : ρ.i i ≤ hi) : ∀ p ∈ rg i lo hi, p.1.den I ρ = p.2 := by
 intro p hp
 unfold rg at hp
 rcases List.mem_cons.1 hp with rfl | hp
 ·exact B.lt_f.2 (by rw [T.den_var, T.den_lit]; exact h1)
 ·rcases List.mem_cons.1 hp with rfl | hp
  ·exact B.lt_f.2 (by rw [T.den_var, T.den_lit]; exact h2)
  ·cases hp
theorem fapp {l m : List (B × Bool)} (h1 : ∀ p ∈ l, p.1.den I ρ = p.2) (h2 : ∀ p ∈ m, p.1.den I ρ = p.2) : ∀ p ∈ l ++ m, p.1.den I ρ = p.2 := fun p hp => (List.mem_append.1 hp).elim (h1 p) (h2 p)
theorem fnil : ∀ p ∈ ([] : List (B × Bool)), p.1.den I ρ = p.2 := fun _ h => nomatch h
theorem fcons {p : B × Bool} {m : List (B × Bool)} (h1 : p.1.den I ρ = p.2) (h2 : ∀ p ∈ m, p.1.den I ρ = p.2) : ∀ q ∈ p :: m, q.1.den I ρ = q.2 := fun q hq => (List.mem_cons.1 hq).elim (fun e => e ▸ h1) (h2 q)
end
theorem RootZ.cast {w : World} {v : Value} {a s n d a' s' n' d' : Int} (h : RootZ w v a s n d) (ha : a = a') (hs : s = s') (hn : n = n') (hd : d = d') : RootZ w v a' s' n' d' := by
 subst ha hs hn hd; exact h
theorem three_u {w : World} {a b c : Int} {s0 s1 s2 : Value} (u0 : U32s w.heap.size w s0 (digs a.natAbs)) (z0 : a.natAbs < B32 ^ 64) (u1 : U32s w.heap.size w s1 (digs b.natAbs)) (z1 : b.natAbs < B32 ^ 64) (u2 : U32s w.heap.size w s2 (digs c.natAbs)) (z2 : c.natAbs < B32 ^ 64) :
  ∀ i v, ([s0, s1, s2] : List Value)[i]? = some v → U32s w.heap.size w v (digs ((envOf [a, b, c] []).i i).natAbs) ∧ ((envOf [a, b, c] []).i i).natAbs < B32 ^ 64 := by
 intro i v h
 match i, h with
 | 0, h => injection h with h; subst h; exact ⟨u0, z0⟩
 | 1, h => injection h with h; subst h; exact ⟨u1, z1⟩
 | 2, h => injection h with h; subst h; exact ⟨u2, z2⟩
theorem three_v {a b c : Int} {s0 s1 s2 : Value} {vs : Array Value} (hvs : vs = #[.agg #[.bool (decide (a < 0)), s0], .agg #[.bool (decide (b < 0)), s1], .agg #[.bool (decide (c < 0)), s2]]) : ∀ β : Nat → Nat, (∀ i v, ([s0, s1, s2] : List Value)[i]? = some v → IS.opq.dec (β i) = v) →
  ((A3 : List V).map (V.den IS (envOf [a, b, c] []) β)).toArray = vs := by
 intro β hβ
 have h0 := hβ 0 s0 rfl
 have h1 := hβ 1 s1 rfl
 have h2 := hβ 2 s2 rfl
 subst hvs
 simp only [A3, List.map_cons, List.map_nil, V.den, cellsOf, numV, C.den, h0, h1, h2]
 rfl
def vsignT : Tree V :=
 (.node (.lt (.var 0) (.lit 0))
 (.node (.lt (.var 1) (.lit 0))
 (.node (.lt (.lit 0) (.var 2))
 (.leaf (.c (.int .i64 (.lit (-1)))))
 (.leaf (.c (.int .i64 (.lit (-1))))))
 (.node (.lt (.lit 0) (.var 1))
 (.node (.lt (.lit 0) (.var 2))
 (.node (.lt (.bin .mul (.bin .mul (.lit 1) (.var 0)) (.var 0)) (.bin .mul (.bin .mul (.bin .mul (.lit 1) (.var 1)) (.var 1)) (.var 2)))
 (.leaf (.c (.int .i64 (.lit 1))))
 (.node (.lt (.bin .mul (.bin .mul (.bin .mul (.lit 1) (.var 1)) (.var 1)) (.var 2)) (.bin .mul (.bin .mul (.lit 1) (.var 0)) (.var 0)))
 (.leaf (.c (.int .i64 (.lit (-1)))))
 (.leaf (.c (.int .i64 (.lit 0))))))
 (.leaf (.c (.int .i64 (.lit (-1))))))
 (.node (.lt (.lit 0) (.var 2))
 (.leaf (.c (.int .i64 (.lit (-1)))))
 (.leaf (.c (.int .i64 (.lit (-1))))))))
 (.node (.lt (.lit 0) (.var 0))
 (.node (.lt (.var 1) (.lit 0))
 (.node (.lt (.lit 0) (.var 2))
 (.node (.lt (.bin .mul (.bin .mul (.lit 1) (.var 0)) (.var 0)) (.bin .mul (.bin .mul (.bin .mul (.lit 1) (.var 1)) (.var 1)) (.var 2)))
 (.leaf (.c (.int .i64 (.lit (-1)))))
 (.node (.lt (.bin .mul (.bin .mul (.bin .mul (.lit 1) (.var 1)) (.var 1)) (.var 2)) (.bin .mul (.bin .mul (.lit 1) (.var 0)) (.var 0)))
 (.leaf (.c (.int .i64 (.lit 1))))
 (.leaf (.c (.int .i64 (.lit 0))))))
 (.leaf (.c (.int .i64 (.lit 1)))))
 (.node (.lt (.lit 0) (.var 1))
 (.node (.lt (.lit 0) (.var 2))
 (.leaf (.c (.int .i64 (.lit 1))))
 (.leaf (.c (.int .i64 (.lit 1)))))
 (.node (.lt (.lit 0) (.var 2))
 (.leaf (.c (.int .i64 (.lit 1))))
 (.leaf (.c (.int .i64 (.lit 1)))))))
 (.node (.lt (.var 1) (.lit 0))
 (.node (.lt (.lit 0) (.var 2))
 (.leaf (.c (.int .i64 (.lit (-1)))))
 (.leaf (.c (.int .i64 (.lit 0)))))
 (.node (.lt (.lit 0) (.var 1))
 (.node (.lt (.lit 0) (.var 2))
 (.leaf (.c (.int .i64 (.lit 1))))
 (.leaf (.c (.int .i64 (.lit 0)))))
 (.node (.lt (.lit 0) (.var 2))
 (.leaf (.c (.int .i64 (.lit 0))))
 (.leaf (.c (.int .i64 (.lit 0)))))))))
set_option maxRecDepth 1000000 in
theorem vsign_tree : vals (execF Tryz.prog ctV0 20 112 A3 (startN 3 ⟨rg 0 (-lS) lS ++ (rg 1 (-lS) lS ++ rg 2 0 lS), [], 0⟩)) = vsignT := by kernel_rfl
set_option maxRecDepth 100000 in
theorem vsign_c (va vb vc : Value) (a b c : Int) (w : World) (ha : ZNum w.heap.size w va a) (hb : ZNum w.heap.size w vb b) (hc : ZNum w.heap.size w vc c) (h1 : -lS ≤ a) (h2 : a ≤ lS) (h3 : -lS ≤ b) (h4 : b ≤ lS) (h5 : 0 ≤ c) (h6 : c ≤ lS) :
  Calls Tryz.prog 112 #[va, vb, vc] w (fun x w' => x = .returned (.int .i64 (RM.sideZ a b c)) ∧ Below w.heap.size w w') := by
 obtain ⟨⟨s0, rfl, u0⟩, z0⟩ := ha
 obtain ⟨⟨s1, rfl, u1⟩, z1⟩ := hb
 obtain ⟨⟨s2, rfl, u2⟩, z2⟩ := hc
 have key : vsignT.vc IS (envOf [a, b, c] []) (fun v => v.wf 0 = true ∧ v.den IS (envOf [a, b, c] []) id = .int .i64 (RM.sideZ a b c)) := ?key
 ·exact @calls_numV Tryz.prog IS (envOf [a, b, c] []) mixedR nocountR rfl ctV0 (ctV0_ok rfl is_gcd) 20 112 A3 3 ⟨rg 0 (-lS) lS ++ (rg 1 (-lS) lS ++ rg 2 0 lS), [], 0⟩ [s0, s1, s2] _ w (.int .i64 (RM.sideZ a b c)) vsignT (fun _ h => nomatch h)
   ⟨fapp (rg_ok h1 h2) (fapp (rg_ok h3 h4) (rg_ok h5 h6)), (fun _ h => nomatch h), fun _ h => absurd h (Nat.not_lt_zero _)⟩ rfl (three_u u0 z0 u1 z1 u2 z2) rfl (three_v rfl) vsign_tree key
 rw [sideZ_sg a b c h5]
 have hS := sgS_spec a b c
 generalize sgS a b c = Z at *
 clear h1 h2 h3 h4 h6
 unfold vsignT
 repeat' (first | refine And.intro ?_ ?_ | intro _)
 all_goals first | rfl | skip
 all_goals
  simp only [B.lt_t, B.lt_f, B.eq_t, B.eq_f, B.den_var, B.den_lit, B.den_not, B.den_and, B.den_iff, T.den_lit, T.den_var, T.den_wrap, T.den_bin, ev_add, ev_sub, ev_mul, ev_quo, ev_rem, ev_max, ev_min, envOf, List.getD_cons_zero, List.getD_cons_succ, w64, T.den_app, T.dens_cons, T.dens_nil, is_len, is_gcd, is_side, Tree.vc, Int.one_mul, V.den, C.den] at *
  generalize a * a = aa at *
  generalize b * b * c = bb at *
  congr 1
  omega
section
variable {I : Interp} {ρ : Env}
theorem niSide_ok {g : FuncId} (h1 : ∀ a b c, I.fi 901 [a, b, c] = RM.sideZ a b c) (hc : ∀ (va vb vc : Value) (a b c : Int) (w : World), ZNum w.heap.size w va a → ZNum w.heap.size w vb b → ZNum w.heap.size w vc c → -lS ≤ a → a ≤ lS → -lS ≤ b → b ≤ lS → 0 ≤ c → c ≤ lS →
  Calls Tryz.prog g #[va, vb, vc] w (fun x w' => x = .returned (.int .i64 (RM.sideZ a b c)) ∧ Below w.heap.size w w')) : (niSide g).Ok Tryz.prog I ρ := by
 intro k ts t hk hv w vs ha
 unfold niSide at hv
 simp only at hv
 split at hv
 ·rename_i a b c
  cases hb : (inR k a (-lS) lS && (inR k b (-lS) lS && inR k c 0 lS)) with
  | false => rw [hb] at hv; cases hv
  | true =>
    rw [hb] at hv
    injection hv with hv
    subst hv
    simp only [Bool.and_eq_true] at hb
    obtain ⟨h1', h2⟩ := inR_ok hk hb.1
    obtain ⟨h3, h4⟩ := inR_ok hk hb.2.1
    obtain ⟨h5, h6⟩ := inR_ok hk hb.2.2
    match vs, ha with
    | [va, vb, vc], ⟨k1, k2, k3, _⟩ =>
      refine (hc va vb vc _ _ _ w k1 k2 k3 h1' h2 h3 h4 h5 h6).mono fun x w' ⟨hx, hbl⟩ => ⟨?_, hbl⟩
      rw [hx, ← h1]
      rfl
 ·cases hv
theorem ctV1_ok (hI : I.opq = numOpq) (h9 : ∀ a b, I.fi 900 [a, b] = gz a b) (h1 : ∀ a b c, I.fi 901 [a, b, c] = RM.sideZ a b c) : CTOk Tryz.prog I ρ ctV1 := by
 refine ctOr_ok (ctInt_ok hI fun e he => ?_) (ctV0_ok hI h9)
 simp only [List.mem_cons, List.not_mem_nil, or_false] at he
 subst he
 exact niSide_ok h1 vsign_c
end
structure RtZ (a s n d : Int) : Prop where
 a0 : iLo ≤ a
 a1 : a ≤ iHi
 s0 : -1 ≤ s
 s1 : s ≤ 1
 n0 : 0 ≤ n
 n1 : n ≤ l256
 d0 : 1 ≤ d
 d1 : d ≤ l256
 g : gz n d = 1
 z : s = 0 ↔ n = 0
theorem gz01 : gz 0 1 = 1 := by decide
theorem gz_ge {n d : Int} (h : 1 ≤ d) : 1 ≤ gz n d := by have := gz_pos (a := n) (b := d) (by omega); omega
theorem RootZ.two {w : World} {v : Value} {a s n d : Int} (h : RootZ w v a s n d) : ∃ e f, v = .agg #[.int .i64 a, .int .i64 s, .bool (decide (n < 0)), e, .bool (decide (d < 0)), f] ∧ U32s w.heap.size w e (digs n.natAbs) ∧ n.natAbs < B32 ^ 64 ∧ U32s w.heap.size w f (digs d.natAbs) ∧ d.natAbs < B32 ^ 64 := by
 obtain ⟨n0, n1, d0, d1, rfl, ⟨⟨e, h1, u1⟩, z1⟩, ⟨⟨f, h2, u2⟩, z2⟩⟩ := h
 injection h1 with h1
 injection h2 with h2
 have h1 := congrArg (fun a => a.toList) h1
 have h2 := congrArg (fun a => a.toList) h2
 simp only [List.cons.injEq, and_true] at h1 h2
 exact ⟨e, f, by rw [h1.1, h1.2, h2.1, h2.2], u1, z1, u2, z2⟩
abbrev ev8 (n d n2 d2 a s a2 s2 : Int) : Env := envOf [n, d, n2, d2, a, s, a2, s2] []
theorem k2_ok {I : Interp} {n d n2 d2 a s a2 s2 : Int} (h : RtZ a s n d) (h2 : RtZ a2 s2 n2 d2) : ∀ p ∈ K2, p.1.den I (ev8 n d n2 d2 a s a2 s2) = p.2 :=
 fapp (fapp (rg_ok h.n0 h.n1) (fapp (rg_ok h.d0 h.d1) (fapp (rg_ok h.s0 h.s1) (rg_ok h.a0 h.a1)))) (fapp (rg_ok h2.n0 h2.n1) (fapp (rg_ok h2.d0 h2.d1) (fapp (rg_ok h2.s0 h2.s1) (rg_ok h2.a0 h2.a1))))
theorem four_u {w : World} {n d n2 d2 a s a2 s2 : Int} {e0 e1 e2 e3 : Value} (u0 : U32s w.heap.size w e0 (digs n.natAbs)) (z0 : n.natAbs < B32 ^ 64) (u1 : U32s w.heap.size w e1 (digs d.natAbs)) (z1 : d.natAbs < B32 ^ 64)
  (u2 : U32s w.heap.size w e2 (digs n2.natAbs)) (z2 : n2.natAbs < B32 ^ 64) (u3 : U32s w.heap.size w e3 (digs d2.natAbs)) (z3 : d2.natAbs < B32 ^ 64) :
  ∀ i v, ([e0, e1, e2, e3] : List Value)[i]? = some v → U32s w.heap.size w v (digs ((ev8 n d n2 d2 a s a2 s2).i i).natAbs) ∧ ((ev8 n d n2 d2 a s a2 s2).i i).natAbs < B32 ^ 64 := by
 intro i v h
 match i, h with
 | 0, h => injection h with h; subst h; exact ⟨u0, z0⟩
 | 1, h => injection h with h; subst h; exact ⟨u1, z1⟩
 | 2, h => injection h with h; subst h; exact ⟨u2, z2⟩
 | 3, h => injection h with h; subst h; exact ⟨u3, z3⟩
theorem cmpZ_spec (A1 s1 N1 D1 A2 s2 N2 D2 : Int) {S Q x z c y2 : Int} (e1 : x = (A1 - A2) * D1) (e2 : c = N1 * D1) (e3 : z = (A1 - A2) * (A1 - A2) * (D1 * D2) + N1 * D2 - N2 * D1) (e4 : y2 = 2 * s1 * (A1 - A2) * D2) (hS : RM.sideZ x s1 c = S) (hQ : RM.sideZ z y2 c = Q) :
  (S < s2 → RM.cmpZ A1 s1 N1 D1 A2 s2 N2 D2 = -1) ∧ (s2 < S → RM.cmpZ A1 s1 N1 D1 A2 s2 N2 D2 = 1) ∧ (S = s2 → RM.cmpZ A1 s1 N1 D1 A2 s2 N2 D2 = S * Q) ∧ (S = -1 ∨ S = 0 ∨ S = 1) ∧ (-1 ≤ S * Q ∧ S * Q ≤ 1) := by
 subst e1 e2 e3 e4 hS hQ
 have r1 := RM.sideZ_range ((A1 - A2) * D1) s1 (N1 * D1)
 have r2 := RM.sideZ_range ((A1 - A2) * (A1 - A2) * (D1 * D2) + N1 * D2 - N2 * D1) (2 * s1 * (A1 - A2) * D2) (N1 * D1)
 unfold RM.cmpZ
 generalize RM.sideZ ((A1 - A2) * D1) s1 (N1 * D1) = S at *
 generalize RM.sideZ ((A1 - A2) * (A1 - A2) * (D1 * D2) + N1 * D2 - N2 * D1) (2 * s1 * (A1 - A2) * D2) (N1 * D1) = Q at *
 refine ⟨fun h => ?_, fun h => ?_, fun h => ?_, r1, ?_⟩
 ·rw [if_pos (by omega), if_neg (by omega)]
 ·rw [if_pos (by omega), if_pos (by omega)]
 ·rw [if_neg (by omega)]
 ·rcases r1 with h | h | h <;> rcases r2 with h2 | h2 | h2 <;> rw [h, h2] <;> decide
def vright2T : Tree V :=
 (.leaf (.c (.bool (.iff (.eq (.var 5) (.lit 0)) (.eq (.app 999 (.cons (.var 0) .nil)) (.lit 0))))))
set_option maxRecDepth 1000000 in
theorem vright2_tree : vals (execF Tryz.prog ctV0 20 27 [.agg (rcs 4 5 0 1)] (startN 2 ⟨KR ++ KG, [], 0⟩)) = vright2T := by kernel_rfl
abbrev ev6 (n d a s : Int) : Env := envOf [n, d, 0, 0, a, s] []
theorem few8' {z : Int} (h1 : 0 ≤ z) (h2 : z ≤ l256) : ((digs z.natAbs).length : Int) ≤ 8 := by
 have := few8 (z := z) (by have : (0 : Int) ≤ l256 := by decide
                           omega) h2
 omega
theorem lenpos {z : Int} (h : 1 ≤ z) : (0 : Int) < (digs z.natAbs).length := by
 apply Classical.byContradiction
 intro h1
 have := len0 z (by omega)
 omega
theorem l256_1 : (1 : Int) ≤ l256 := by decide
theorem kg_ok {n d a s : Int} (h : RtZ a s n d) : ∀ p ∈ KR ++ KG, p.1.den IS (ev6 n d a s) = p.2 := by
 have q1 : n.tdiv 1 = n := Int.tdiv_one n
 have q2 : d.tdiv 1 = d := Int.tdiv_one d
 have f1 := few8' h.n0 h.n1
 have f2 := few8' (z := d) (by have := h.d0; omega) h.d1
 have f3 := lenpos h.d0
 have f4 := few8' (z := 0) (by omega) (by have := l256_1; omega)
 have f5 := few8' (z := 1) (by omega) l256_1
 have e1 : (T.app 900 (.cons (.var 0) (.cons (.var 1) .nil))).den IS (ev6 n d a s) = 1 := h.g
 have e0 : (T.app 900 (.cons (.lit 0) (.cons (.lit 1) .nil))).den IS (ev6 n d a s) = 1 := gz01
 refine fapp (fapp (rg_ok h.n0 h.n1) (fapp (rg_ok h.d0 h.d1) (fapp (rg_ok h.s0 h.s1) (rg_ok h.a0 h.a1)))) ?_
 unfold KG gT len1
 refine fcons (B.lt_t.2 f3) (fcons (B.eq_t.2 e1) (fcons (B.eq_t.2 ?_) (fcons (B.eq_t.2 ?_) (fcons (B.eq_t.2 e0) (fcons (B.lt_f.2 f1) (fcons (B.lt_f.2 f2) (fcons (B.lt_f.2 ?_) (fcons (B.lt_f.2 ?_) (fcons (B.lt_f.2 ?_) (fcons (B.lt_f.2 ?_) fnil))))))))))
 ·rw [T.den_bin, e1]; exact q1
 ·rw [T.den_bin, e1]; exact q2
 ·rw [T.den_app, T.dens_cons, T.dens_nil, T.den_bin, e1, ev_quo, T.den_var, is_len]
  exact (by rw [q1]; exact f1 : ((digs (n.tdiv 1).natAbs).length : Int) ≤ 8)
 ·rw [T.den_app, T.dens_cons, T.dens_nil, T.den_bin, e1, ev_quo, T.den_var, is_len]
  exact (by rw [q2]; exact f2 : ((digs (d.tdiv 1).natAbs).length : Int) ≤ 8)
 ·rw [T.den_app, T.dens_cons, T.dens_nil, T.den_bin, e0, ev_quo, T.den_lit, is_len]
  exact f4
 ·rw [T.den_app, T.dens_cons, T.dens_nil, T.den_bin, e0, ev_quo, T.den_lit, is_len]
  exact f5
theorem six_v {n d a s : Int} {e f : Value} {vs : Array Value} (hvs : vs = #[.agg #[.int .i64 a, .int .i64 s, .bool (decide (n < 0)), e, .bool (decide (d < 0)), f]]) : ∀ β : Nat → Nat, (∀ i v, ([e, f] : List Value)[i]? = some v → IS.opq.dec (β i) = v) →
  (([.agg (rcs 4 5 0 1)] : List V).map (V.den IS (ev6 n d a s) β)).toArray = vs := by
 intro β hβ
 have h0 := hβ 0 e rfl
 have h1 := hβ 1 f rfl
 subst hvs
 simp only [rcs, List.map_cons, List.map_nil, V.den, cellsOf, C.den, h0, h1]
 rfl
theorem six_u {w : World} {n d a s : Int} {s0 s1 : Value} (u0 : U32s w.heap.size w s0 (digs n.natAbs)) (z0 : n.natAbs < B32 ^ 64) (u1 : U32s w.heap.size w s1 (digs d.natAbs)) (z1 : d.natAbs < B32 ^ 64) :
  ∀ i v, ([s0, s1] : List Value)[i]? = some v → U32s w.heap.size w v (digs ((ev6 n d a s).i i).natAbs) ∧ ((ev6 n d a s).i i).natAbs < B32 ^ 64 := by
 intro i v h
 match i, h with
 | 0, h => injection h with h; subst h; exact ⟨u0, z0⟩
 | 1, h => injection h with h; subst h; exact ⟨u1, z1⟩
set_option maxRecDepth 100000 in
theorem vright2_c (v : Value) (a s n d : Int) (w : World) (hv : RootZ w v a s n d) (h : RtZ a s n d) :
  Calls Tryz.prog 27 #[v] w (fun x w' => x = .returned (.bool true) ∧ Below w.heap.size w w') := by
 obtain ⟨e, f, rfl, u0, z0, u1, z1⟩ := hv.two
 have key : vright2T.vc IS (ev6 n d a s) (fun v => v.wf 0 = true ∧ v.den IS (ev6 n d a s) id = .bool true) := ?key
 ·exact @calls_numV Tryz.prog IS (ev6 n d a s) mixedR nocountR rfl ctV0 (ctV0_ok rfl is_gcd) 20 27 [.agg (rcs 4 5 0 1)] 2 ⟨KR ++ KG, [], 0⟩ [e, f] _ w (.bool true) vright2T (fun _ h => nomatch h)
   ⟨kg_ok h, (fun _ h => nomatch h), fun _ h => absurd h (Nat.not_lt_zero _)⟩ rfl (six_u u0 z0 u1 z1) rfl (six_v rfl) vright2_tree key
 have hg := h.g
 have q1 : n.tdiv (gz n d) = n := by rw [hg]; exact Int.tdiv_one n
 have q2 : d.tdiv (gz n d) = d := by rw [hg]; exact Int.tdiv_one d
 have q3 : (0 : Int).tdiv (gz 0 1) = 0 := by rw [gz01]; rfl
 have q4 : (1 : Int).tdiv (gz 0 1) = 1 := by rw [gz01]; rfl
 have hz := h.z
 have hn := h.n0
 have hd := h.d0
 have hl := len0 n
 have hl2 : n = 0 → ((digs n.natAbs).length : Int) = 0 := fun h => by rw [h]; rfl
 have hgd : n = 0 → d = 1 := fun h0 => by
  have : gz 0 d = 1 := by rw [← hg, h0]
  unfold gz at this
  simp only [Int.natAbs_zero, Nat.gcd_zero_left] at this
  omega
 clear h z0 z1 u0 u1 hv
 unfold vright2T ev6
 repeat' (first | refine And.intro ?_ ?_ | intro _)
 all_goals first | rfl | skip
 all_goals
  simp only [B.lt_t, B.lt_f, B.eq_t, B.eq_f, B.den_var, B.den_lit, B.den_not, B.den_and, B.den_iff, T.den_lit, T.den_var, T.den_wrap, T.den_bin, ev_add, ev_sub, ev_mul, ev_quo, ev_rem, ev_max, ev_min, envOf, List.getD_cons_zero, List.getD_cons_succ, w64, T.den_app, T.dens_cons, T.dens_nil, is_len, is_gcd, is_side, Tree.vc, V.den, C.den] at *
  first
  | omega
  | (congr 1; simp only [B.lt_t, B.lt_f, B.eq_t, B.eq_f, B.den_var, B.den_lit, B.den_not, B.den_and, B.den_iff, T.den_lit, T.den_var, T.den_wrap, T.den_bin, ev_add, ev_sub, ev_mul, ev_quo, ev_rem, ev_max, ev_min, envOf, List.getD_cons_zero, List.getD_cons_succ, w64, T.den_app, T.dens_cons, T.dens_nil, is_len, is_gcd, is_side, Tree.vc, q1, q2, q3, q4]; done)
  | (congr 1; simp only [B.lt_t, B.lt_f, B.eq_t, B.eq_f, B.den_var, B.den_lit, B.den_not, B.den_and, B.den_iff, T.den_lit, T.den_var, T.den_wrap, T.den_bin, ev_add, ev_sub, ev_mul, ev_quo, ev_rem, ev_max, ev_min, envOf, List.getD_cons_zero, List.getD_cons_succ, w64, T.den_app, T.dens_cons, T.dens_nil, is_len, is_gcd, is_side, Tree.vc]; omega)
  | (congr 1; simp only [B.lt_t, B.lt_f, B.eq_t, B.eq_f, B.den_var, B.den_lit, B.den_not, B.den_and, B.den_iff, T.den_lit, T.den_var, T.den_wrap, T.den_bin, ev_add, ev_sub, ev_mul, ev_quo, ev_rem, ev_max, ev_min, envOf, List.getD_cons_zero, List.getD_cons_succ, w64, T.den_app, T.dens_cons, T.dens_nil, is_len, is_gcd, is_side, Tree.vc, decide_eq_true_eq]; omega)
  | (congr 1; rw [beq_iff_eq, Bool.eq_iff_iff]; simp only [B.lt_t, B.lt_f, B.eq_t, B.eq_f, B.den_var, B.den_lit, B.den_not, B.den_and, B.den_iff, T.den_lit, T.den_var, T.den_wrap, T.den_bin, ev_add, ev_sub, ev_mul, ev_quo, ev_rem, ev_max, ev_min, envOf, List.getD_cons_zero, List.getD_cons_succ, w64, T.den_app, T.dens_cons, T.dens_nil, is_len, is_gcd, is_side, Tree.vc]; omega)
section
variable {I : Interp} {n d n2 d2 a s a2 s2 : Int}
end
theorem eight_v {n d n2 d2 a s a2 s2 : Int} {e0 e1 e2 e3 : Value} {vs : Array Value} (hvs : vs = #[.agg #[.int .i64 a, .int .i64 s, .bool (decide (n < 0)), e0, .bool (decide (d < 0)), e1], .agg #[.int .i64 a2, .int .i64 s2, .bool (decide (n2 < 0)), e2, .bool (decide (d2 < 0)), e3]]) : ∀ β : Nat → Nat, (∀ i v, ([e0, e1, e2, e3] : List Value)[i]? = some v → IS.opq.dec (β i) = v) →
  (([.agg (rcs 4 5 0 1), .agg (rcs 6 7 2 3)] : List V).map (V.den IS (ev8 n d n2 d2 a s a2 s2) β)).toArray = vs := by
 intro β hβ
 have h0 := hβ 0 e0 rfl
 have h1 := hβ 1 e1 rfl
 have h2 := hβ 2 e2 rfl
 have h3 := hβ 3 e3 rfl
 subst hvs
 simp only [rcs, List.map_cons, List.map_nil, V.den, cellsOf, C.den, h0, h1, h2, h3]
 rfl
def vorderT : Tree V :=
 (.node (.lt (.app 901 (.cons (.bin .mul (.bin .mul (.lit 1) (.bin .sub (.var 4) (.var 6))) (.var 1)) (.cons (.var 5) (.cons (.bin .mul (.bin .mul (.lit 1) (.var 0)) (.var 1)) .nil)))) (.var 7))
 (.leaf (.c (.int .i64 (.lit (-1)))))
 (.node (.lt (.var 7) (.app 901 (.cons (.bin .mul (.bin .mul (.lit 1) (.bin .sub (.var 4) (.var 6))) (.var 1)) (.cons (.var 5) (.cons (.bin .mul (.bin .mul (.lit 1) (.var 0)) (.var 1)) .nil)))))
 (.leaf (.c (.int .i64 (.lit 1))))
 (.leaf (.c (.int .i64 (.wrap .i64 (.bin .mul (.app 901 (.cons (.bin .mul (.bin .mul (.lit 1) (.bin .sub (.var 4) (.var 6))) (.var 1)) (.cons (.var 5) (.cons (.bin .mul (.bin .mul (.lit 1) (.var 0)) (.var 1)) .nil)))) (.app 901 (.cons (.bin .sub (.bin .add (.bin .mul (.bin .mul (.bin .mul (.bin .mul (.lit 1) (.bin .sub (.var 4) (.var 6))) (.bin .sub (.var 4) (.var 6))) (.var 1)) (.var 3)) (.bin .mul (.bin .mul (.lit 1) (.var 0)) (.var 3))) (.bin .mul (.bin .mul (.lit 1) (.var 2)) (.var 1))) (.cons (.bin .mul (.bin .mul (.bin .mul (.lit 2) (.bin .sub (.var 4) (.var 6))) (.var 5)) (.var 3)) (.cons (.bin .mul (.bin .mul (.lit 1) (.var 0)) (.var 1)) .nil)))))))))))
set_option maxRecDepth 1000000 in
theorem vorder_tree : vals (execF Tryz.prog ctV1 20 62 [.agg (rcs 4 5 0 1), .agg (rcs 6 7 2 3)] (startN 4 ⟨K2, [], 0⟩)) = vorderT := by kernel_rfl
set_option maxRecDepth 100000 in
theorem vorder_c (v v2 : Value) (a s n d a2 s2 n2 d2 : Int) (w : World) (hv : RootZ w v a s n d) (hv2 : RootZ w v2 a2 s2 n2 d2) (h : RtZ a s n d) (h2 : RtZ a2 s2 n2 d2) :
  Calls Tryz.prog 62 #[v, v2] w (fun x w' => x = .returned (.int .i64 (RM.cmpZ a s n d a2 s2 n2 d2)) ∧ Below w.heap.size w w') := by
 obtain ⟨e0, e1, rfl, u0, z0, u1, z1⟩ := hv.two
 obtain ⟨e2, e3, rfl, u2, z2, u3, z3⟩ := hv2.two
 have key : vorderT.vc IS (ev8 n d n2 d2 a s a2 s2) (fun v => v.wf 0 = true ∧ v.den IS (ev8 n d n2 d2 a s a2 s2) id = .int .i64 (RM.cmpZ a s n d a2 s2 n2 d2)) := ?key
 ·exact @calls_numV Tryz.prog IS (ev8 n d n2 d2 a s a2 s2) mixedR nocountR rfl ctV1 (ctV1_ok rfl is_gcd is_side) 20 62 [.agg (rcs 4 5 0 1), .agg (rcs 6 7 2 3)] 4 ⟨K2, [], 0⟩ [e0, e1, e2, e3] _ w (.int .i64 (RM.cmpZ a s n d a2 s2 n2 d2)) vorderT (fun _ h => nomatch h)
   ⟨k2_ok h h2, (fun _ h => nomatch h), fun _ h => absurd h (Nat.not_lt_zero _)⟩ rfl (four_u u0 z0 u1 z1 u2 z2 u3 z3) rfl (eight_v rfl) vorder_tree key
 have hZ := cmpZ_spec a s n d a2 s2 n2 d2 (x := 1 * (a - a2) * d) (c := 1 * n * d) (z := 1 * (a - a2) * (a - a2) * d * d2 + 1 * n * d2 - 1 * n2 * d) (y2 := 2 * (a - a2) * s * d2) (by grind) (by grind) (by grind) (by grind) rfl rfl
 generalize RM.cmpZ a s n d a2 s2 n2 d2 = Z at *
 clear h h2 u0 u1 u2 u3 z0 z1 z2 z3 hv hv2
 unfold vorderT ev8
 repeat' (first | refine And.intro ?_ ?_ | intro _)
 all_goals first | rfl | skip
 all_goals
  simp only [B.lt_t, B.lt_f, B.eq_t, B.eq_f, B.den_var, B.den_lit, B.den_not, B.den_and, B.den_iff, T.den_lit, T.den_var, T.den_wrap, T.den_bin, ev_add, ev_sub, ev_mul, ev_quo, ev_rem, ev_max, ev_min, envOf, List.getD_cons_zero, List.getD_cons_succ, w64, T.den_app, T.dens_cons, T.dens_nil, is_len, is_gcd, is_side, Tree.vc, V.den, C.den, wrap64] at *
  congr 1
  omega
section
variable {I : Interp} {ρ : Env}
theorem gives_of (hI : I.opq = numOpq) {a s n d : T} {x : Ending} {w : World} (h : (RT.mk [n, d] (.tup [(true, rootC a s n d 0), (false, [.bool (.lit true)])])).Gives I ρ x w) :
  ∃ v, x = .returned (.tuple #[v, .bool true]) ∧ RootZ w v (a.den I ρ) (s.den I ρ) (n.den I ρ) (d.den I ρ) := by
 obtain ⟨β, h1, rfl⟩ := h
 have i0 := znum_of (h1 0 n rfl)
 have i1 := znum_of (h1 1 d rfl)
 refine ⟨.agg #[.int .i64 (a.den I ρ), .int .i64 (s.den I ρ), .bool (decide (n.den I ρ < 0)), numOpq.dec (β 0), .bool (decide (d.den I ρ < 0)), numOpq.dec (β 1)], ?_, _, _, _, _, rfl, i0, i1⟩
 simp only [V.den, List.map_cons, List.map_nil, partOf, cellsOf, rootC, C.den, hI]
 rfl
end
theorem ko_ok {n d a : Int} (h0 : 0 ≤ n) (h1 : n ≤ l256) (h2 : 1 ≤ d) (h3 : d ≤ l256) (h4 : iLo ≤ a) (h5 : a ≤ iHi) : ∀ p ∈ KOf, p.1.den IS (envOf [n, d, a] []) = p.2 := by
 have f3 := lenpos h2
 have f4 := few8' (z := 0) (by omega) (by have := l256_1; omega)
 have f5 := few8' (z := 1) (by omega) l256_1
 have g1 := gz_ge (n := n) h2
 have g2 := gz_ge (n := 0) h2
 have e1 : (T.app 900 (.cons (.var 0) (.cons (.var 1) .nil))).den IS (envOf [n, d, a] []) = gz n d := rfl
 have e2 : (T.app 900 (.cons (.lit 0) (.cons (.var 1) .nil))).den IS (envOf [n, d, a] []) = gz 0 d := rfl
 have e0 : (T.app 900 (.cons (.lit 0) (.cons (.lit 1) .nil))).den IS (envOf [n, d, a] []) = 1 := gz01
 have q1 : (T.bin .quo (.var 0) (.app 900 (.cons (.var 0) (.cons (.var 1) .nil)))).den IS (envOf [n, d, a] []) = n.tdiv (gz n d) := rfl
 have q2 : (T.bin .quo (.var 1) (.app 900 (.cons (.var 0) (.cons (.var 1) .nil)))).den IS (envOf [n, d, a] []) = d.tdiv (gz n d) := rfl
 have b1 : 0 ≤ n.tdiv (gz n d) := Int.tdiv_nonneg h0 (by omega)
 have b2 : 0 ≤ d.tdiv (gz n d) := Int.tdiv_nonneg (by omega) (by omega)
 have b3 : n.tdiv (gz n d) ≤ n := Int.tdiv_le_self _ h0
 have b4 : d.tdiv (gz n d) ≤ d := Int.tdiv_le_self _ (by omega)
 have f6 := few8' b1 (by omega)
 have f7 := few8' b2 (by omega)
 refine fapp (rg_ok h0 h1) (fapp (rg_ok h2 h3) (fapp (rg_ok h4 h5) ?_))
 unfold KO gT len1
 refine fcons (B.lt_t.2 (by rw [e1]; exact g1)) (fcons (B.lt_t.2 (by rw [e0]; show (0 : Int) < 1; omega)) (fcons (B.lt_t.2 (by rw [e2]; exact g2)) (fcons (B.lt_t.2 f3) (fcons (B.lt_f.2 (by rw [q1]; exact b1)) (fcons (B.lt_f.2 (by rw [q2]; exact b2)) (fcons (B.lt_f.2 (by rw [q1, T.den_lit]; omega)) (fcons (B.lt_f.2 (by rw [q2, T.den_lit]; omega)) (fcons (B.lt_f.2 ?_) (fcons (B.lt_f.2 ?_) (fcons (B.lt_f.2 ?_) (fcons (B.lt_f.2 ?_) fnil)))))))))))
 ·rw [T.den_app, T.dens_cons, T.dens_nil, q1]; exact f6
 ·rw [T.den_app, T.dens_cons, T.dens_nil, q2]; exact f7
 ·rw [T.den_app, T.dens_cons, T.dens_nil, T.den_bin, e0]; exact f4
 ·rw [T.den_app, T.dens_cons, T.dens_nil, T.den_bin, e0]; exact f5
theorem tdiv_gz_zero {n d : Int} (h0 : 0 ≤ n) (hd : 1 ≤ d) : n.tdiv (gz n d) = 0 ↔ n = 0 := by
 have g1 := gz_ge (n := n) hd
 have hdv : ((Nat.gcd n.natAbs d.natAbs : Nat) : Int) ∣ n := Int.ofNat_dvd_left.2 (Nat.gcd_dvd_left _ _)
 refine ⟨fun h => ?_, fun h => by rw [h]; exact Int.zero_tdiv _⟩
 have := Int.tdiv_mul_cancel hdv
 unfold gz at h
 rw [h] at this
 omega
theorem gz0 {d : Int} (hd : 1 ≤ d) : gz 0 d = d := by
 unfold gz
 rw [Int.natAbs_zero, Nat.gcd_zero_left]
 omega
theorem rtOf {a s n d : Int} (ha : iLo ≤ a) (ha2 : a ≤ iHi) (hs : s = 1 ∨ s = -1) (h0 : 0 ≤ n) (h1 : n ≤ l256) (h2 : 1 ≤ d) (h3 : d ≤ l256) : RtZ a (if n = 0 then 0 else s) (n.tdiv (gz n d)) (d.tdiv (gz n d)) := by
 have g1 := gz_ge (n := n) h2
 have b1 : 0 ≤ n.tdiv (gz n d) := Int.tdiv_nonneg h0 (by omega)
 have b3 : n.tdiv (gz n d) ≤ n := Int.tdiv_le_self _ h0
 have b4 : d.tdiv (gz n d) ≤ d := Int.tdiv_le_self _ (by omega)
 have b5 : 1 ≤ d.tdiv (gz n d) := by
  have hdv : ((Nat.gcd n.natAbs d.natAbs : Nat) : Int) ∣ d := Int.ofNat_dvd_left.2 (Nat.gcd_dvd_right _ _)
  have h4 := Int.tdiv_mul_cancel hdv
  have h5 : 0 ≤ d.tdiv (gz n d) := Int.tdiv_nonneg (by omega) (by omega)
  unfold gz at h5 ⊢
  rcases Int.lt_or_le (d.tdiv ((Nat.gcd n.natAbs d.natAbs : Nat) : Int)) 1 with h6 | h6
  ·rw [show d.tdiv ((Nat.gcd n.natAbs d.natAbs : Nat) : Int) = 0 by omega] at h4; omega
  ·exact h6
 refine ⟨ha, ha2, ?_, ?_, b1, by omega, b5, by omega, ?_, ?_⟩
 ·split <;> omega
 ·split <;> omega
 ·have e1 : (n.tdiv (gz n d)).natAbs = n.natAbs / Nat.gcd n.natAbs d.natAbs := by unfold gz; rw [Int.natAbs_tdiv, Int.natAbs_natCast]; rfl
  have e2 : (d.tdiv (gz n d)).natAbs = d.natAbs / Nat.gcd n.natAbs d.natAbs := by unfold gz; rw [Int.natAbs_tdiv, Int.natAbs_natCast]; rfl
  have := Nat.gcd_div_gcd_div_gcd_of_pos_right (n := n.natAbs) (m := d.natAbs) (by omega)
  unfold gz
  unfold gz at e1 e2
  rw [e1, e2, this]
  rfl
 ·have := tdiv_gz_zero h0 h2
  rw [this]
  split <;> omega
theorem of_v {n d a s : Int} {e f : Value} {vs : Array Value} (hvs : vs = #[.int .i64 a, .int .i64 s, .agg #[.bool (decide (n < 0)), e], .agg #[.bool (decide (d < 0)), f]]) : ∀ β : Nat → Nat, (∀ i v, ([e, f] : List Value)[i]? = some v → IS.opq.dec (β i) = v) →
  ((AOf s).map (V.den IS (envOf [n, d, a] []) β)).toArray = vs := by
 intro β hβ
 have h0 := hβ 0 e rfl
 have h1 := hβ 1 f rfl
 subst hvs
 simp only [AOf, List.map_cons, List.map_nil, V.den, cellsOf, numV, C.den, h0, h1]
 rfl
theorem of_u {w : World} {n d a : Int} {s0 s1 : Value} (u0 : U32s w.heap.size w s0 (digs n.natAbs)) (z0 : n.natAbs < B32 ^ 64) (u1 : U32s w.heap.size w s1 (digs d.natAbs)) (z1 : d.natAbs < B32 ^ 64) :
  ∀ i v, ([s0, s1] : List Value)[i]? = some v → U32s w.heap.size w v (digs ((envOf [n, d, a] []).i i).natAbs) ∧ ((envOf [n, d, a] []).i i).natAbs < B32 ^ 64 := by
 intro i v h
 match i, h with
 | 0, h => injection h with h; subst h; exact ⟨u0, z0⟩
 | 1, h => injection h with h; subst h; exact ⟨u1, z1⟩
def OfZ (a s n d : Int) (x : Ending) (w : World) : Prop := ∃ v, x = .returned (.tuple #[v, .bool true]) ∧ RootZ w v a (if n = 0 then 0 else s) (n.tdiv (gz n d)) (d.tdiv (gz n d))
def qT (a : T) : T := .bin .quo a (gT (.var 0) (.var 1))
def q0 (a : Int) : T := .bin .quo (.lit a) (gT (.lit 0) (.lit 1))
def ofT (s n d : T) : Tree RT := .leaf ⟨[n, d], .tup [(true, rootC (.var 2) s n d 0), (false, [.bool (.lit true)])]⟩
def vofpT : Tree RT := (.node (.lt (.lit 0) (qT (.var 0))) (ofT (.lit (1)) (qT (.var 0)) (qT (.var 1))) (ofT (.lit 0) (qT (.var 0)) (qT (.var 1))))
set_option maxRecDepth 1000000 in
theorem vofp_tree : resR (execF Tryz.prog ctV0 20 32 (AOf (1)) (startN 2 ⟨KOf, [], 0⟩)) = vofpT := by kernel_rfl
set_option maxRecDepth 100000 in
theorem vofp_c (vn vd : Value) (a n d : Int) (w : World) (hn : ZNum w.heap.size w vn n) (hd : ZNum w.heap.size w vd d) (h0 : 0 ≤ n) (h1 : n ≤ l256) (h2 : 1 ≤ d) (h3 : d ≤ l256) (h4 : iLo ≤ a) (h5 : a ≤ iHi) :
  Calls Tryz.prog 32 #[.int .i64 a, .int .i64 (1), vn, vd] w (fun x w' => OfZ a (1) n d x w' ∧ Below w.heap.size w w') := by
 obtain ⟨⟨e, rfl, u0⟩, z0⟩ := hn
 obtain ⟨⟨f, rfl, u1⟩, z1⟩ := hd
 refine @calls_numR Tryz.prog IS (envOf [n, d, a] []) mixedR nocountR rfl ctV0 (ctV0_ok rfl is_gcd) 20 32 (AOf (1)) 2 ⟨KOf, [], 0⟩ [e, f] _ w (OfZ a (1) n d) vofpT (fun _ h => nomatch h)
   ⟨ko_ok h0 h1 h2 h3 h4 h5, (fun _ h => nomatch h), fun _ h => absurd h (Nat.not_lt_zero _)⟩ rfl (of_u u0 z0 u1 z1) rfl (of_v rfl) vofp_tree ?_
 have hz := tdiv_gz_zero h0 h2
 have b1 : 0 ≤ n.tdiv (gz n d) := Int.tdiv_nonneg h0 (by have := gz_ge (n := n) h2; omega)
 refine ⟨fun hc x w' hx => ?_, fun hc x w' hx => ?_⟩
 ·have hc := B.lt_t.1 hc
  obtain ⟨v, rfl, hr⟩ := gives_of rfl hx
  refine ⟨v, rfl, hr.cast rfl ?_ rfl rfl⟩
  have hc : 0 < n.tdiv (gz n d) := hc
  rw [if_neg (by omega)]
  rfl
 ·have hc := B.lt_f.1 hc
  obtain ⟨v, rfl, hr⟩ := gives_of rfl hx
  have hc : n.tdiv (gz n d) ≤ 0 := hc
  have e0 : n = 0 := by omega
  subst e0
  refine ⟨v, rfl, hr.cast rfl ?_ rfl rfl⟩
  ·rw [if_pos rfl]; rfl
def vofmT : Tree RT := (.node (.lt (.lit 0) (qT (.var 0))) (ofT (.lit (-1)) (qT (.var 0)) (qT (.var 1))) (ofT (.lit 0) (qT (.var 0)) (qT (.var 1))))
set_option maxRecDepth 1000000 in
theorem vofm_tree : resR (execF Tryz.prog ctV0 20 32 (AOf (-1)) (startN 2 ⟨KOf, [], 0⟩)) = vofmT := by kernel_rfl
set_option maxRecDepth 100000 in
theorem vofm_c (vn vd : Value) (a n d : Int) (w : World) (hn : ZNum w.heap.size w vn n) (hd : ZNum w.heap.size w vd d) (h0 : 0 ≤ n) (h1 : n ≤ l256) (h2 : 1 ≤ d) (h3 : d ≤ l256) (h4 : iLo ≤ a) (h5 : a ≤ iHi) :
  Calls Tryz.prog 32 #[.int .i64 a, .int .i64 (-1), vn, vd] w (fun x w' => OfZ a (-1) n d x w' ∧ Below w.heap.size w w') := by
 obtain ⟨⟨e, rfl, u0⟩, z0⟩ := hn
 obtain ⟨⟨f, rfl, u1⟩, z1⟩ := hd
 refine @calls_numR Tryz.prog IS (envOf [n, d, a] []) mixedR nocountR rfl ctV0 (ctV0_ok rfl is_gcd) 20 32 (AOf (-1)) 2 ⟨KOf, [], 0⟩ [e, f] _ w (OfZ a (-1) n d) vofmT (fun _ h => nomatch h)
   ⟨ko_ok h0 h1 h2 h3 h4 h5, (fun _ h => nomatch h), fun _ h => absurd h (Nat.not_lt_zero _)⟩ rfl (of_u u0 z0 u1 z1) rfl (of_v rfl) vofm_tree ?_
 have hz := tdiv_gz_zero h0 h2
 have b1 : 0 ≤ n.tdiv (gz n d) := Int.tdiv_nonneg h0 (by have := gz_ge (n := n) h2; omega)
 refine ⟨fun hc x w' hx => ?_, fun hc x w' hx => ?_⟩
 ·have hc := B.lt_t.1 hc
  obtain ⟨v, rfl, hr⟩ := gives_of rfl hx
  refine ⟨v, rfl, hr.cast rfl ?_ rfl rfl⟩
  have hc : 0 < n.tdiv (gz n d) := hc
  rw [if_neg (by omega)]
  rfl
 ·have hc := B.lt_f.1 hc
  obtain ⟨v, rfl, hr⟩ := gives_of rfl hx
  have hc : n.tdiv (gz n d) ≤ 0 := hc
  have e0 : n = 0 := by omega
  subst e0
  refine ⟨v, rfl, hr.cast rfl ?_ rfl rfl⟩
  ·rw [if_pos rfl]; rfl
def rofpT : Tree RT := (.node (.lt (.lit 0) (.var 0)) (ofT (.lit (1)) (qT (.var 0)) (qT (.var 1))) (ofT (.lit 0) (q0 0) (q0 1)))
set_option maxRecDepth 1000000 in
theorem rofp_tree : resR (execF Tryz.prog ctW0 20 78 (AOf (1)) (startN 2 ⟨KOf, [], 0⟩)) = rofpT := by kernel_rfl
set_option maxRecDepth 100000 in
theorem rofp_c (vn vd : Value) (a n d : Int) (w : World) (hn : ZNum w.heap.size w vn n) (hd : ZNum w.heap.size w vd d) (h0 : 0 ≤ n) (h1 : n ≤ l256) (h2 : 1 ≤ d) (h3 : d ≤ l256) (h4 : iLo ≤ a) (h5 : a ≤ iHi) :
  Calls Tryz.prog 78 #[.int .i64 a, .int .i64 (1), vn, vd] w (fun x w' => OfZ a (1) n d x w' ∧ Below w.heap.size w w') := by
 obtain ⟨⟨e, rfl, u0⟩, z0⟩ := hn
 obtain ⟨⟨f, rfl, u1⟩, z1⟩ := hd
 refine @calls_numR Tryz.prog IS (envOf [n, d, a] []) mixedR nocountR rfl ctW0 (ctW0_ok rfl is_gcd) 20 78 (AOf (1)) 2 ⟨KOf, [], 0⟩ [e, f] _ w (OfZ a (1) n d) rofpT (fun _ h => nomatch h)
   ⟨ko_ok h0 h1 h2 h3 h4 h5, (fun _ h => nomatch h), fun _ h => absurd h (Nat.not_lt_zero _)⟩ rfl (of_u u0 z0 u1 z1) rfl (of_v rfl) rofp_tree ?_
 have hz := tdiv_gz_zero h0 h2
 have b1 : 0 ≤ n.tdiv (gz n d) := Int.tdiv_nonneg h0 (by have := gz_ge (n := n) h2; omega)
 refine ⟨fun hc x w' hx => ?_, fun hc x w' hx => ?_⟩
 ·have hc := B.lt_t.1 hc
  obtain ⟨v, rfl, hr⟩ := gives_of rfl hx
  refine ⟨v, rfl, hr.cast rfl ?_ rfl rfl⟩
  have hc : 0 < n := hc
  rw [if_neg (by omega)]
  rfl
 ·have hc := B.lt_f.1 hc
  obtain ⟨v, rfl, hr⟩ := gives_of rfl hx
  have hc : n ≤ 0 := hc
  have e0 : n = 0 := by omega
  subst e0
  refine ⟨v, rfl, hr.cast rfl ?_ ?_ ?_⟩
  ·rw [if_pos rfl]; rfl
  ·show (0 : Int).tdiv (gz 0 1) = (0 : Int).tdiv (gz 0 d)
   rw [Int.zero_tdiv, Int.zero_tdiv]
  ·show (1 : Int).tdiv (gz 0 1) = d.tdiv (gz 0 d)
   rw [gz01, gz0 h2]
   exact (Int.tdiv_self (by omega : d ≠ 0)).symm
def rofmT : Tree RT := (.node (.lt (.lit 0) (.var 0)) (ofT (.lit (-1)) (qT (.var 0)) (qT (.var 1))) (ofT (.lit 0) (q0 0) (q0 1)))
set_option maxRecDepth 1000000 in
theorem rofm_tree : resR (execF Tryz.prog ctW0 20 78 (AOf (-1)) (startN 2 ⟨KOf, [], 0⟩)) = rofmT := by kernel_rfl
set_option maxRecDepth 100000 in
theorem rofm_c (vn vd : Value) (a n d : Int) (w : World) (hn : ZNum w.heap.size w vn n) (hd : ZNum w.heap.size w vd d) (h0 : 0 ≤ n) (h1 : n ≤ l256) (h2 : 1 ≤ d) (h3 : d ≤ l256) (h4 : iLo ≤ a) (h5 : a ≤ iHi) :
  Calls Tryz.prog 78 #[.int .i64 a, .int .i64 (-1), vn, vd] w (fun x w' => OfZ a (-1) n d x w' ∧ Below w.heap.size w w') := by
 obtain ⟨⟨e, rfl, u0⟩, z0⟩ := hn
 obtain ⟨⟨f, rfl, u1⟩, z1⟩ := hd
 refine @calls_numR Tryz.prog IS (envOf [n, d, a] []) mixedR nocountR rfl ctW0 (ctW0_ok rfl is_gcd) 20 78 (AOf (-1)) 2 ⟨KOf, [], 0⟩ [e, f] _ w (OfZ a (-1) n d) rofmT (fun _ h => nomatch h)
   ⟨ko_ok h0 h1 h2 h3 h4 h5, (fun _ h => nomatch h), fun _ h => absurd h (Nat.not_lt_zero _)⟩ rfl (of_u u0 z0 u1 z1) rfl (of_v rfl) rofm_tree ?_
 have hz := tdiv_gz_zero h0 h2
 have b1 : 0 ≤ n.tdiv (gz n d) := Int.tdiv_nonneg h0 (by have := gz_ge (n := n) h2; omega)
 refine ⟨fun hc x w' hx => ?_, fun hc x w' hx => ?_⟩
 ·have hc := B.lt_t.1 hc
  obtain ⟨v, rfl, hr⟩ := gives_of rfl hx
  refine ⟨v, rfl, hr.cast rfl ?_ rfl rfl⟩
  have hc : 0 < n := hc
  rw [if_neg (by omega)]
  rfl
 ·have hc := B.lt_f.1 hc
  obtain ⟨v, rfl, hr⟩ := gives_of rfl hx
  have hc : n ≤ 0 := hc
  have e0 : n = 0 := by omega
  subst e0
  refine ⟨v, rfl, hr.cast rfl ?_ ?_ ?_⟩
  ·rw [if_pos rfl]; rfl
  ·show (0 : Int).tdiv (gz 0 1) = (0 : Int).tdiv (gz 0 d)
   rw [Int.zero_tdiv, Int.zero_tdiv]
  ·show (1 : Int).tdiv (gz 0 1) = d.tdiv (gz 0 d)
   rw [gz01, gz0 h2]
   exact (Int.tdiv_self (by omega : d ≠ 0)).symm
end Go.Proofs.YtgnogdncoljldaaGreat.Sx

