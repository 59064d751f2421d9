import Derived.Test.YtgnogdncoljldaaGreatQRa
set_option linter.all false
set_option autoImplicit false
namespace Go.Proofs.YtgnogdncoljldaaGreat.Sx
open Go Go.RowKit
theorem nocountR : NoCount Tryz.prog := by unfold NoCount; kernel_rfl
theorem mixedR : Tryz.prog.follows .mixedOrders = true := by kernel_rfl
def gz (a b : Int) : Int := ((Nat.gcd a.natAbs b.natAbs : Nat) : Int)
def fiN (f : Nat) (l : List Int) : Int := match f, l with
 | 900, [a, b] => gz a b
 | 999, l => numOpq.len l
 | _, _ => 0
def IR : Interp := ⟨fiN, fun _ _ => false, fun _ _ => .nilFunc, [], numOpq, fun _ => rfl, fun _ _ => ⟨(fun _ h => nomatch h), (fun _ h => nomatch h)⟩⟩
theorem ir_len (z : Int) : IR.fi 999 [z] = (digs z.natAbs).length := rfl
theorem gz_pos {a b : Int} (h : 0 < b) : 0 < gz a b := by
 unfold gz
 have : 0 < Nat.gcd a.natAbs b.natAbs := Nat.gcd_pos_of_pos_right _ (by omega)
 omega
def niRightR (g : FuncId) : NI := ⟨g, [.num], fun _ _ => some (.bool (.lit true))⟩
theorem rzero_of {vs : List Value} {ts : List Int} {w : World} (h : NArgs w [.num] vs ts) : ∃ v z, vs = [v] ∧ ts = [z] ∧ ZNum w.heap.size w v z := by
 match vs, ts, h with
 | [v], [z], ⟨h, _⟩ => exact ⟨v, z, rfl, rfl, h⟩
 | [], ts, h => exact h.elim
 | _ :: _, [], h => exact h.elim
 | _ :: _ :: _, [_], h => exact h.2.elim
 | [_], _ :: _ :: _, h => exact h.2.elim
 | _ :: _ :: _, _ :: _ :: _, h => exact h.2.elim
theorem two_nums {vs : List Value} {ts : List Int} {w : World} (h : NArgs w [.num, .num] vs ts) : ∃ v z v2 z2, vs = [v, v2] ∧ ts = [z, z2] ∧ ZNum w.heap.size w v z ∧ ZNum w.heap.size w v2 z2 := by
 match vs, ts, h with
 | [v, v2], [z, z2], ⟨h, h2, _⟩ => exact ⟨v, z, v2, z2, rfl, rfl, h, h2⟩
 | [], ts, h => exact h.elim
 | _ :: _, [], h => exact h.elim
 | [_], _ :: _, h => exact h.2.elim
 | _ :: _ :: _, [_], h => exact h.2.elim
 | _ :: _ :: _ :: _, [_, _], h => exact h.2.2.elim
 | [_, _], _ :: _ :: _ :: _, h => exact h.2.2.elim
 | _ :: _ :: _ :: _, _ :: _ :: _ :: _, h => exact h.2.2.elim
def ctZc (f : FuncId) : CT := fun g args s => bif Nat.beq g f then match argsN s [.num, .num] args with
 | some [a, b] => some (withB (B.mkLt a b) s fun v s => match v with
   | true => .leaf (.c (.int .i64 (.lit (-1))), s)
   | false => withB (B.mkLt b a) s fun v s => match v with
     | true => .leaf (.c (.int .i64 (.lit 1)), s)
     | false => .leaf (.c (.int .i64 (.lit 0)), s))
 | _ => none
 else none
def zc (a b : Int) : Int := if a < b then -1 else if b < a then 1 else 0
def ctDiv (f : FuncId) : CT := fun g args s => bif Nat.beq g f && plainS s then match argsN s [.num, .num] args with
 | some [a, b] => match (B.mkLt a (.lit 0)).under s.known, (B.mkLt (.lit 0) b).under s.known with
   | .lit false, .lit true => some ((T.mkBin .quo a b).force fun q => (T.mkBin .rem a b).force fun r => s.allocK opqTy [.int .i64 q] fun s1 => s1.allocK opqTy [.int .i64 r] fun s2 =>
     .leaf (.tup [(true, numV q s.nb), (true, numV r (s.nb + 1)), (false, [.bool (.lit true)])], s2))
   | _, _ => none
 | _ => none
 else none
def nfGcd (g : FuncId) : NF := ⟨g, [.num, .num], fun _ ts => match ts with
 | [a, b] => some (.app 900 (.cons a (.cons b .nil)))
 | _ => none, .two⟩
section
variable {P : Program} {I : Interp} {ρ : Env}
theorem nfGcd_ok {g : FuncId} (h9 : ∀ a b, I.fi 900 [a, b] = gz a b) (hc : ∀ (va vb : Value) (a b : Int) (w : World), ZNum w.heap.size w va a → ZNum w.heap.size w vb b → Calls P g #[va, vb] w (fun x w' => GivesR .two (gz a b) x w' ∧ Below w.heap.size w w')) : (nfGcd g).Ok P I ρ := by
 intro k ts t hk hv w vs ha
 unfold nfGcd at hv
 simp only at hv
 split at hv
 ·rename_i a b
  injection hv with hv
  subst hv
  obtain ⟨v, z, v2, z2, rfl, e, h1, h2⟩ := two_nums ha
  injection e with e1 e2
  injection e2 with e2 _
  subst e1 e2
  rw [T.den_app, T.dens_cons, T.dens_cons, T.dens_nil, h9]
  exact hc _ _ _ _ w h1 h2
 ·cases hv
theorem ctZc_ok (hI : I.opq = numOpq) {f : FuncId} (hc : ∀ (va vb : Value) (a b : Int) (w : World), ZNum w.heap.size w va a → ZNum w.heap.size w vb b → Calls P f #[va, vb] w (fun x w' => x = .returned (.int .i64 (zc a b)) ∧ Below w.heap.size w w')) : CTOk P I ρ (ctZc f) := by
 intro g args s t h w0 X n0 β0 β w R ht hw ha
 unfold ctZc at h
 cases hg : Nat.beq g f with
 | false => rw [hg] at h; cases h
 | true =>
   have := Nat.eq_of_beq_eq_true hg
   subst this
   rw [hg] at h
   simp only [cond_true] at h
   split at h
   ·rename_i a b hab
    injection h with h
    subst h
    obtain ⟨va, za, vb, zb, e, e2, h1, h2⟩ := two_nums (argsN_ok hI hw hab)
    injection e2 with e1 e2
    injection e2 with e2 _
    subst e1 e2
    have ev : (args.map (V.den I ρ β)).toArray = #[va, vb] := by rw [e]
    rw [ev]
    refine (hc _ _ _ _ w h1 h2).mono fun x w' ⟨hx, hbl⟩ => ?_
    subst hx
    obtain ⟨s1, hw1, hnb, hbk, ht⟩ := withB_ok hw ht
    rw [B.den_mkLt] at ht
    by_cases e1 : a.den I ρ < b.den I ρ
    ·rw [decide_eq_true e1] at ht
     have e : zc (a.den I ρ) (b.den I ρ) = -1 := by unfold zc; rw [if_pos e1]
     rw [e]
     exact ht β w' (hw1.below hbl) rfl (by show s.nb ≤ s1.nb; omega) (fun _ _ => rfl)
    ·rw [decide_eq_false e1] at ht
     obtain ⟨s2, hw2, hnb2, hbk2, ht⟩ := withB_ok hw1 ht
     rw [B.den_mkLt] at ht
     by_cases e2 : b.den I ρ < a.den I ρ
     ·rw [decide_eq_true e2] at ht
      have e : zc (a.den I ρ) (b.den I ρ) = 1 := by unfold zc; rw [if_neg e1, if_pos e2]
      rw [e]
      exact ht β w' (hw2.below hbl) rfl (by show s.nb ≤ s2.nb; omega) (fun _ _ => rfl)
     ·rw [decide_eq_false e2] at ht
      have e : zc (a.den I ρ) (b.den I ρ) = 0 := by unfold zc; rw [if_neg e1, if_neg e2]
      rw [e]
      exact ht β w' (hw2.below hbl) rfl (by show s.nb ≤ s2.nb; omega) (fun _ _ => rfl)
   ·cases h
def GivesD (q r : Int) (x : Ending) (w : World) : Prop := ∃ v u, x = .returned (.tuple #[v, u, .bool true]) ∧ ZNum w.heap.size w v q ∧ ZNum w.heap.size w u r
theorem WR.num2 {w0 w : World} {X : Nat → Prop} {n0 : Nat} {β0 β : Nat → Nat} {s : S} (hI : I.opq = numOpq) (h : WR I ρ w0 X n0 β0 β s w) (hp : plainS s = true) {v u : Value} {q r : T} (hv : ZNum w.heap.size w v (q.den I ρ)) (hu : ZNum w.heap.size w u (r.den I ρ)) :
  ∃ β', WR I ρ w0 X n0 β0 β' ((s.alloc opqTy [.int .i64 q]).alloc opqTy [.int .i64 r]) w ∧ (∀ id, id < s.nb → β' id = β id) ∧ v = .agg (cellsOf I ρ β' (numV q s.nb)) ∧ u = .agg (cellsOf I ρ β' (numV r (s.nb + 1))) := by
 obtain ⟨β1, hw1, ha1, e1⟩ := h.num hI hp hv
 obtain ⟨β2, hw2, ha2, e2⟩ := hw1.num hI (plainS_alloc q hp) hu
 have hnb : (s.alloc opqTy [.int .i64 q]).nb = s.nb + 1 := rfl
 rw [hnb] at ha2 e2
 refine ⟨β2, hw2, fun id hid => (ha2 id (by omega)).trans (ha1 id hid), ?_, e2⟩
 rw [e1, ← ha2 s.nb (by omega)]
 rfl
theorem ctDiv_ok (hI : I.opq = numOpq) {f : FuncId} (hc : ∀ (va vb : Value) (a b : Int) (w : World), ZNum w.heap.size w va a → ZNum w.heap.size w vb b → 0 ≤ a → 0 < b → Calls P f #[va, vb] w (fun x w' => GivesD (a / b) (a % b) x w' ∧ Below w.heap.size w w')) : CTOk P I ρ (ctDiv f) := by
 intro g args s t h w0 X n0 β0 β w R ht hw ha
 unfold ctDiv at h
 cases hg : (Nat.beq g f && plainS s) with
 | false => rw [hg] at h; cases h
 | true =>
   rw [hg] at h
   simp only [Bool.and_eq_true] at hg
   obtain ⟨hg, hp⟩ := hg
   have := Nat.eq_of_beq_eq_true hg
   subst this
   simp only [cond_true] at h
   split at h
   ·rename_i a b hab
    split at h
    ·rename_i c1 c2
     simp only [T.force_eq, S.allocK_eq, Option.some.injEq] at h
     subst h
     obtain ⟨va, za, vb, zb, e, e2, h1, h2⟩ := two_nums (argsN_ok hI hw hab)
     injection e2 with e1 e2
     injection e2 with e2 _
     subst e1 e2
     have ev : (args.map (V.den I ρ β)).toArray = #[va, vb] := by rw [e]
     rw [ev]
     have u1 := B.den_under hw.known (B.mkLt a (.lit 0))
     rw [c1, B.den_mkLt] at u1
     have ha0 : 0 ≤ a.den I ρ := by
      have := of_decide_eq_false u1.symm
      rw [T.den_lit] at this
      omega
     have u2 := B.den_under hw.known (B.mkLt (.lit 0) b)
     rw [c2, B.den_mkLt] at u2
     have hb0 : 0 < b.den I ρ := by
      have := of_decide_eq_true u2.symm
      rw [T.den_lit] at this
      exact this
     refine (hc _ _ _ _ w h1 h2 ha0 hb0).mono fun x w' ⟨hx, hbl⟩ => ?_
     obtain ⟨v, u, rfl, hv, hu⟩ := hx
     have eq : (T.mkBin .quo a b).den I ρ = a.den I ρ / b.den I ρ := by rw [T.den_mkBin, ev_quo, Int.tdiv_eq_ediv_of_nonneg ha0]
     have er : (T.mkBin .rem a b).den I ρ = a.den I ρ % b.den I ρ := by rw [T.den_mkBin, ev_rem, Int.tmod_eq_emod_of_nonneg ha0]
     rw [← eq] at hv
     rw [← er] at hu
     obtain ⟨β', hwr, hag, rfl, rfl⟩ := (hw.below hbl).num2 hI hp hv hu
     refine ht β' w' hwr ?_ (by show s.nb ≤ s.nb + 2; omega) hag
     have w1 : Nat.blt s.nb (s.nb + 2) = true := by simp
     have w2 : Nat.blt (s.nb + 1) (s.nb + 2) = true := by simp
     show ((numV _ s.nb).all (C.wf (s.nb + 2)) && ((numV _ (s.nb + 1)).all (C.wf (s.nb + 2)) && true)) = true
     simp only [numV, List.all_cons, List.all_nil, C.wf, w1, w2, Bool.and_self]
    ·cases h
   ·cases h
end
end Go.Proofs.YtgnogdncoljldaaGreat.Sx

