import Derived.Test.YtgnogdncoljldaaGreatQSxN
set_option linter.all false
set_option autoImplicit false
namespace Go.Proofs.YtgnogdncoljldaaGreat.Sx
open Go Go.RowKit
def absT (a : T) : T := .mkBin .max a (.mkBin .sub (.lit 0) a)
theorem absT_den {I : Interp} {ρ : Env} (a : T) : (absT a).den I ρ = (a.den I ρ).natAbs := by
 unfold absT
 rw [T.den_mkBin, T.den_mkBin, ev_max, ev_sub, T.den_lit]
 omega
def nfPlus (g : FuncId) : NF := ⟨g, [.dig, .dig], fun k ts => match ts with
 | [a, b] => bif inR k (.mkBin .add (absT a) (absT b)) (-nfBound) nfBound then some (.mkBin .add (absT a) (absT b)) else none
 | _ => none, .dig⟩
def nfMinus (g : FuncId) : NF := ⟨g, [.dig, .dig], fun k ts => match ts with
 | [a, b] => match (B.lt (absT a) (absT b)).under k with
   | .lit false => some (.mkBin .sub (absT a) (absT b))
   | _ => none
 | _ => none, .dig⟩
section
variable {P : Program} {I : Interp} {ρ : Env}
theorem nf_small {z : Int} (h1 : -nfBound ≤ z) (h2 : z ≤ nfBound) : z.natAbs < B32 ^ 64 := by
 have e2 : nfBound = (((2 ^ 250) ^ 8 : Nat) : Int) := by unfold nfBound; rw [Int.natCast_pow, Int.natCast_pow]; rfl
 have e3 : ((2 : Nat) ^ 250) ^ 8 < B32 ^ 64 := b32_big
 rw [e2] at h1 h2
 generalize ((2 : Nat) ^ 250) ^ 8 = x at *
 generalize B32 ^ 64 = y at *
 omega
theorem nfPlus_ok {g : FuncId} (hc : ∀ (va vb : Value) (a b : Nat) (w : World), U32s w.heap.size w va (digs a) → a < B32 ^ 64 → U32s w.heap.size w vb (digs b) → b < B32 ^ 64 →
   Calls P g #[va, vb] w (fun x w' => ∃ v, x = .returned v ∧ U32s w'.heap.size w' v (digs (a + b)) ∧ Below w.heap.size w w')) : (nfPlus g).Ok P I ρ := by
 intro k ts t hk hv w vs ha
 unfold nfPlus at hv
 simp only at hv
 split at hv
 ·rename_i a b
  cases hb : inR k (.mkBin .add (absT a) (absT b)) (-nfBound) nfBound with
  | false => rw [hb] at hv; cases hv
  | true =>
    rw [hb] at hv
    injection hv with hv
    subst hv
    obtain ⟨h1, h2⟩ := inR_ok hk hb
    match vs, ha with
    | [va, vb], ⟨h3, h4, _⟩ =>
      have h3 : U32s w.heap.size w va (digs (a.den I ρ).natAbs) ∧ (a.den I ρ).natAbs < B32 ^ 64 := h3
      have h4 : U32s w.heap.size w vb (digs (b.den I ρ).natAbs) ∧ (b.den I ρ).natAbs < B32 ^ 64 := h4
      rw [T.den_mkBin, absT_den, absT_den, ev_add] at h1 h2 ⊢
      refine (hc va vb _ _ w h3.1 h3.2 h4.1 h4.2).mono fun x w' ⟨v, hx, hu, hbl⟩ => ⟨⟨v, hx, ?_, nf_small h1 h2⟩, hbl⟩
      rw [show (((a.den I ρ).natAbs : Int) + ((b.den I ρ).natAbs : Int)).natAbs = (a.den I ρ).natAbs + (b.den I ρ).natAbs by omega]
      exact hu
 ·cases hv
theorem nfMinus_ok {g : FuncId} (hc : ∀ (va vb : Value) (a b : Nat) (w : World), U32s w.heap.size w va (digs a) → a < B32 ^ 64 → U32s w.heap.size w vb (digs b) → b < B32 ^ 64 → b ≤ a →
   Calls P g #[va, vb] w (fun x w' => ∃ v, x = .returned v ∧ U32s w'.heap.size w' v (digs (a - b)) ∧ Below w.heap.size w w')) : (nfMinus g).Ok P I ρ := by
 intro k ts t hk hv w vs ha
 unfold nfMinus at hv
 simp only at hv
 split at hv
 ·rename_i a b
  split at hv
  ·rename_i e
   injection hv with hv
   subst hv
   have hu := B.den_under hk (B.lt (absT a) (absT b))
   rw [e] at hu
   have hle := B.lt_f.1 hu.symm
   match vs, ha with
   | [va, vb], ⟨h3, h4, _⟩ =>
     have h3 : U32s w.heap.size w va (digs (a.den I ρ).natAbs) ∧ (a.den I ρ).natAbs < B32 ^ 64 := h3
     have h4 : U32s w.heap.size w vb (digs (b.den I ρ).natAbs) ∧ (b.den I ρ).natAbs < B32 ^ 64 := h4
     rw [absT_den, absT_den] at hle
     rw [T.den_mkBin, absT_den, absT_den, ev_sub]
     have e1 : (((a.den I ρ).natAbs : Int) - ((b.den I ρ).natAbs : Int)).natAbs = (a.den I ρ).natAbs - (b.den I ρ).natAbs := by omega
     refine (hc va vb _ _ w h3.1 h3.2 h4.1 h4.2 (by omega)).mono fun x w' ⟨v, hx, hu, hbl⟩ => ⟨⟨v, hx, ?_, ?_⟩, hbl⟩
     ·rw [e1]; exact hu
     ·rw [e1]; have := h3.2; omega
  ·cases hv
 ·cases hv
end
def ctCmp (f : FuncId) : CT := fun g args s => bif Nat.beq g f then match args with
 | [.c c, .c d] => match digArg s c, digArg s d with
   | some a, some b => some (withB (B.lt (absT a) (absT b)) s fun v s => match v with
     | true => .leaf (.c (.int .i64 (.lit (-1))), s)
     | false => withB (B.lt (absT b) (absT a)) s fun v s => match v with
       | true => .leaf (.c (.int .i64 (.lit 1)), s)
       | false => .leaf (.c (.int .i64 (.lit 0)), s))
   | _, _ => none
 | _ => none
 else none
def ctMade (f : FuncId) : CT := fun g args s => bif Nat.beq g f && plainS s then match args with
 | [.c (.bool q), .c c] => match digArg s c with
   | some a => some (withB q s fun v s => (T.force (match v with
     | true => .mkBin .sub (.lit 0) (absT a)
     | false => absT a) fun t => s.allocK opqTy [.int .i64 t] fun s' => .leaf (resV .two t s.nb, s')))
   | none => none
 | _ => none
 else none
section
variable {P : Program} {I : Interp} {ρ : Env}
def sgnN (a b : Nat) : Int := if a < b then -1 else if b < a then 1 else 0
theorem ctCmp_ok (hI : I.opq = numOpq) {f : FuncId} (hc : ∀ (va vb : Value) (a b : Nat) (w : World), U32s w.heap.size w va (digs a) → U32s w.heap.size w vb (digs b) →
   Calls P f #[va, vb] w (fun x w' => x = .returned (.int .i64 (sgnN a b)) ∧ Below w.heap.size w w')) : CTOk P I ρ (ctCmp f) := by
 intro g args s t h w0 X n0 β0 β w R ht hw ha
 unfold ctCmp at h
 cases hg : Nat.beq g f with
 | false => rw [hg] at h; cases h
 | true =>
   have := Nat.eq_of_beq_eq_true hg
   subst this
   rw [hg] at h
   simp only [cond_true] at h
   split at h
   ·rename_i c d
    split at h
    ·rename_i a b h1 h2
     injection h with h
     subst h
     have u1 := (digArg_ok hI hw h1).1
     have u2 := (digArg_ok hI hw h2).1
     refine (hc _ _ _ _ w u1 u2).mono fun x w' ⟨hx, hbl⟩ => ?_
     subst hx
     obtain ⟨s1, hw1, hnb, hbk, ht⟩ := withB_ok hw ht
     have ea := absT_den (I := I) (ρ := ρ) a
     have eb := absT_den (I := I) (ρ := ρ) b
     cases hab : (B.lt (absT a) (absT b)).den I ρ with
     | true =>
       rw [hab] at ht
       have e : sgnN (a.den I ρ).natAbs (b.den I ρ).natAbs = -1 := by
        have := B.lt_t.1 hab
        unfold sgnN
        rw [if_pos (by omega)]
       rw [e]
       exact ht β w' (hw1.below hbl) rfl (by show s.nb ≤ s1.nb; omega) (fun _ _ => rfl)
     | false =>
       rw [hab] at ht
       have l1 := B.lt_f.1 hab
       obtain ⟨s2, hw2, hnb2, hbk2, ht⟩ := withB_ok hw1 ht
       cases hba : (B.lt (absT b) (absT a)).den I ρ with
       | true =>
         rw [hba] at ht
         have e : sgnN (a.den I ρ).natAbs (b.den I ρ).natAbs = 1 := by
          have := B.lt_t.1 hba
          unfold sgnN
          rw [if_neg (by omega), if_pos (by omega)]
         rw [e]
         exact ht β w' (hw2.below hbl) rfl (by show s.nb ≤ s2.nb; omega) (fun _ _ => rfl)
       | false =>
         rw [hba] at ht
         have e : sgnN (a.den I ρ).natAbs (b.den I ρ).natAbs = 0 := by
          have := B.lt_f.1 hba
          unfold sgnN
          rw [if_neg (by omega), if_neg (by omega)]
         rw [e]
         exact ht β w' (hw2.below hbl) rfl (by show s.nb ≤ s2.nb; omega) (fun _ _ => rfl)
    ·cases h
   ·cases h
theorem ctMade_ok (hI : I.opq = numOpq) {f : FuncId} (hc : ∀ (neg : Bool) (v : Value) (a : Nat) (w : World), U32s w.heap.size w v (digs a) → a < B32 ^ 64 →
   Calls P f #[.bool neg, v] w (fun x w' => GivesR .two (if neg then -(a : Int) else a) x w' ∧ Below w.heap.size w w')) : CTOk P I ρ (ctMade f) := by
 intro g args s t h w0 X n0 β0 β w R ht hw ha
 unfold ctMade at h
 cases hg : (Nat.beq g f && plainS s) with
 | false => rw [hg] at h; cases h
 | true =>
   simp only [Bool.and_eq_true] at hg
   obtain ⟨hg, hp⟩ := hg
   have := Nat.eq_of_beq_eq_true hg
   subst this
   rw [show (Nat.beq g g && plainS s) = true by simp [hp]] at h
   simp only [cond_true] at h
   split at h
   ·rename_i q c
    split at h
    ·rename_i a h1
     injection h with h
     subst h
     obtain ⟨u1, u2⟩ := digArg_ok hI hw h1
     refine (hc (q.den I ρ) _ _ w u1 u2).mono fun x w' ⟨hgv, hbl⟩ => ?_
     obtain ⟨s1, hw1, hnb, hbk, ht⟩ := withB_ok hw ht
     have hp1 : plainS s1 = true := by unfold plainS at *; rw [hbk]; exact hp
     have key : ∀ t : T, t.den I ρ = (if q.den I ρ then -((a.den I ρ).natAbs : Int) else ((a.den I ρ).natAbs : Int)) →
       (Tree.leaf (resV .two t s1.nb, s1.alloc opqTy [.int .i64 t])).vc I ρ (fun r => ∀ β' w', WR I ρ w0 X n0 β0 β' r.2 w' → r.1.wf r.2.nb = true → s.nb ≤ r.2.nb → (∀ id, id < s.nb → β' id = β id) → R (.returned (r.1.den I ρ β')) w') → R x w' := fun t e ht => by
      obtain ⟨v, rfl, hv⟩ := hgv
      rw [← e] at hv
      obtain ⟨β', hwr, hag, hvd⟩ := (hw1.below hbl).num hI hp1 hv
      have hwf : ∀ c ∈ numV t s1.nb, c.wf (s1.nb + 1) = true := by
       intro c hc
       simp only [numV, List.mem_cons, List.not_mem_nil, or_false] at hc
       rcases hc with rfl | rfl
       ·rfl
       ·simp [C.wf]
      have := ht β' w' hwr (by simp only [resV, V.wf, List.all_cons, List.all_nil, Bool.and_true, Bool.and_eq_true, List.all_eq_true]; exact ⟨hwf, rfl⟩) (by show s.nb ≤ s1.nb + 1; omega) (fun id hid => hag id (by omega))
      have e1 : V.den I ρ β' (resV .two t s1.nb) = .tuple #[v, .bool true] := by
       rw [hvd]
       simp only [resV, V.den, List.map_cons, List.map_nil, partOf, cellsOf, numV, C.den, B.den, T.den_lit]
       rfl
      rw [e1] at this
      exact this
     cases hq : q.den I ρ with
     | true =>
       rw [hq] at ht
       simp only [T.force_eq, S.allocK_eq] at ht
       exact key _ (by rw [hq, T.den_mkBin, T.den_lit, absT_den, ev_sub]; simp) ht
     | false =>
       rw [hq] at ht
       simp only [T.force_eq, S.allocK_eq] at ht
       exact key _ (by rw [hq, absT_den]; simp) ht
    ·cases h
   ·cases h
end
def numsIn : Nat → Nat → List (Nat × Blk)
 | _, 0 => []
 | i, n + 1 => (i, ⟨opqTy, [.int .i64 (.var i)]⟩) :: numsIn (i + 1) n
def startN (n : Nat) (k : Known) : S := ⟨numsIn 0 n, n, k⟩
theorem mem_numsIn : ∀ {i n : Nat} {p : Nat × Blk}, p ∈ numsIn i n → i ≤ p.1 ∧ p.1 < i + n ∧ p.2 = ⟨opqTy, [.int .i64 (.var p.1)]⟩
 | i, 0, p, h => by cases h
 | i, n + 1, p, h => by
   unfold numsIn at h
   rcases List.mem_cons.1 h with e | h
   ·subst e; exact ⟨Nat.le_refl _, by omega, rfl⟩
   ·obtain ⟨h1, h2, h3⟩ := mem_numsIn h
    exact ⟨by omega, by omega, h3⟩
theorem opq_is (cs : List C) : (Blk.isOpq ⟨opqTy, cs⟩) = true := Nat.beq_refl _
theorem opq_not (cs : List C) : (Blk.live ⟨opqTy, cs⟩) = false := by unfold Blk.live; rw [opq_is]; rfl
theorem codes_ex (sl : List Value) (h : ∀ v ∈ sl, ∃ p len cap, v = .slice p len cap) : ∃ β : Nat → Nat, ∀ i v, sl[i]? = some v → decS (β i) = v := by
 have : ∀ i : Nat, ∃ c, ∀ v, sl[i]? = some v → decS c = v := fun i => by
  cases hi : sl[i]? with
  | none => exact ⟨0, fun v h => by cases h⟩
  | some v =>
    obtain ⟨p, len, cap, rfl⟩ := h v (List.mem_of_getElem? hi)
    obtain ⟨c, hc⟩ := decS_ex p len cap
    exact ⟨c, fun u hu => by injection hu with hu; rw [← hu]; exact hc⟩
 exact ⟨fun i => Classical.choose (this i), fun i => Classical.choose_spec (this i)⟩
def trueC : C → Bool
 | .bool (.lit b) => b
 | _ => false
theorem trueC_eq {c : C} (h : trueC c = true) : c = .bool (.lit true) := by
 unfold trueC at h
 split at h
 ·subst h; rfl
 ·cases h
def resTwo (s : S) : List (Bool × List C) → Option T
 | [p, q] => match q.2 with
   | [c] => bif p.1 && (!q.1 && trueC c) then numArg s p.2 else none
   | _ => none
 | _ => none
def resNum (r : Res) (v : V) (s : S) : Option T := match r with
 | .two => match v with
   | .tup vs => resTwo s vs
   | _ => none
 | .num => match v with
   | .agg cs => numArg s cs
   | _ => none
 | .dig => match v with
   | .c c => digArg s c
   | _ => none
section
variable {P : Program} {I : Interp} {ρ : Env}
theorem resNum_ok (hI : I.opq = numOpq) {w0 w : World} {X : Nat → Prop} {n0 : Nat} {β0 β : Nat → Nat} {s : S} (h : WR I ρ w0 X n0 β0 β s w) {r : Res} {v : V} {t : T} (ha : resNum r v s = some t) : GivesR r (t.den I ρ) (.returned (v.den I ρ β)) w := by
 cases r with
 | two =>
   cases v with
   | tup vs =>
     have ha : resTwo s vs = some t := ha
     match vs, ha with
     | [], ha => cases ha
     | [_], ha => cases ha
     | _ :: _ :: _ :: _, ha => cases ha
     | [(p1, p2), (q1, [])], ha => cases ha
     | [(p1, p2), (q1, _ :: _ :: _)], ha => cases ha
     | [(p1, p2), (q1, [c])], ha =>
       have ha : (bif p1 && (!q1 && trueC c) then numArg s p2 else none) = some t := ha
       cases hb : (p1 && (!q1 && trueC c)) with
       | false => rw [hb] at ha; cases ha
       | true =>
         rw [hb] at ha
         simp only [cond_true] at ha
         simp only [Bool.and_eq_true, Bool.not_eq_true'] at hb
         have hc := trueC_eq hb.2.2
         subst hc
         obtain ⟨rfl, rfl, -⟩ := hb
         exact ⟨.agg (cellsOf I ρ β p2), rfl, numArg_ok hI h ha⟩
   | c _ => cases ha
   | agg _ => cases ha
   | any _ => cases ha
 | num =>
   cases v with
   | agg cs =>
     have ha : numArg s cs = some t := ha
     exact ⟨.agg (cellsOf I ρ β cs), rfl, numArg_ok hI h ha⟩
   | c _ => cases ha
   | tup _ => cases ha
   | any _ => cases ha
 | dig =>
   cases v with
   | c c =>
     have ha : digArg s c = some t := ha
     obtain ⟨h1, h2⟩ := digArg_ok hI h ha
     exact ⟨c.den I ρ β, rfl, h1, h2⟩
   | agg _ => cases ha
   | tup _ => cases ha
   | any _ => cases ha
theorem calls_num (hm : P.follows .mixedOrders = true) (hN : NoCount P) (hI : I.opq = numOpq) {ct : CT} (hct : CTOk P I ρ ct) {n : Nat} {g : FuncId} {args : List V} {m : Nat} {k : Known} {sl : List Value} {vs : Array Value} {w : World} {R : Ending → World → Prop}
  (hh : Hyp I w fun _ => False) (hk : k.Ok I ρ) (hsl : sl.length = m) (hu : ∀ i v, sl[i]? = some v → U32s w.heap.size w v (digs (ρ.i i).natAbs) ∧ (ρ.i i).natAbs < B32 ^ 64)
  (hwf : (args.all (V.wf m)) = true) (hvs : ∀ β : Nat → Nat, (∀ i v, sl[i]? = some v → I.opq.dec (β i) = v) → (args.map (V.den I ρ β)).toArray = vs)
  (hv : (execF P ct n g args (startN m k)).vc I ρ (fun r => ∀ w0 X n0 β0 β' w', WR I ρ w0 X n0 β0 β' r.2 w' → Below w.heap.size w w' → R (.returned (r.1.den I ρ β')) w')) :
  Calls P g vs w R := by
 obtain ⟨β, hβ⟩ := codes_ex sl (fun v hv => by
  obtain ⟨i, hi⟩ := List.getElem?_of_mem hv
  obtain ⟨p, cap, e, -⟩ := (hu i v hi).1
  exact ⟨p, _, cap, e⟩)
 rw [← hvs β (fun i v h => by rw [hI]; exact hβ i v h)]
 refine execF_ok hm hN hct n g args (startN m k) w (fun _ => False) 0 β β w R (Tree.vc_mono ?_ hv) ⟨?_, ?_, ?_, ?_, ?_, ?_, ?_, hk, Nat.zero_le _, fun _ _ => rfl, Keeps.refl _ _, hh⟩ (fun v hv => List.all_eq_true.1 hwf v hv)
 ·intro r hr β' w' hw' _ _ _
  exact hr _ _ _ _ β' w' hw' hw'.keeps.below
 all_goals (intro p hp; obtain ⟨h1, h2, h3⟩ := mem_numsIn hp)
 ·intro ho; rw [h3, opq_not] at ho; cases ho
 ·intro ho; rw [h3, opq_not] at ho; cases ho
 ·show p.1 < m; omega
 ·intro c hc; rw [h3] at hc; simp only [List.mem_singleton] at hc; subst hc; rfl
 ·intro ho; rw [h3, opq_not] at ho; cases ho
 ·intro ho
  have hl : p.1 < sl.length := by omega
  have hi := List.getElem?_eq_getElem hl
  refine ⟨?_, fun q hq hqo => ?_⟩
  ·rw [h3, hI]
   show heldN w (decS (β p.1)) _
   rw [hβ _ _ hi]
   obtain ⟨u1, u2⟩ := hu _ _ hi
   exact ⟨_, rfl, u2, u1⟩
  ·obtain ⟨-, -, k3⟩ := mem_numsIn hq
   rw [k3, opq_not] at hqo
   cases hqo
 ·intro q hq e
  obtain ⟨-, -, k3⟩ := mem_numsIn hq
  rw [h3, k3, e]
def resT (r : Res) (t : Tree (V × S)) : Tree T := t.bind fun p => match resNum r p.1 p.2 with
 | some t => t.force fun t => .leaf t
 | none => .bad
theorem resT_vc {r : Res} {t : Tree (V × S)} {Φ : T → Prop} (h : (resT r t).vc I ρ Φ) : t.vc I ρ (fun p => ∃ t, resNum r p.1 p.2 = some t ∧ Φ t) := by
 unfold resT at h
 rw [Tree.vc_bind] at h
 refine Tree.vc_mono (fun p hp => ?_) h
 split at hp
 ·rename_i t ht
  rw [T.force_eq] at hp
  exact ⟨t, ht, hp⟩
 ·exact hp.elim
theorem calls_numT (hm : P.follows .mixedOrders = true) (hN : NoCount P) (hI : I.opq = numOpq) {ct : CT} (hct : CTOk P I ρ ct) {n : Nat} {g : FuncId} {args : List V} {m : Nat} {k : Known} {sl : List Value} {vs : Array Value} {w : World} {r : Res} {z : Int} {L : Tree T}
  (hh : Hyp I w fun _ => False) (hk : k.Ok I ρ) (hsl : sl.length = m) (hu : ∀ i v, sl[i]? = some v → U32s w.heap.size w v (digs (ρ.i i).natAbs) ∧ (ρ.i i).natAbs < B32 ^ 64)
  (hwf : (args.all (V.wf m)) = true) (hvs : ∀ β : Nat → Nat, (∀ i v, sl[i]? = some v → I.opq.dec (β i) = v) → (args.map (V.den I ρ β)).toArray = vs)
  (hL : resT r (execF P ct n g args (startN m k)) = L) (hv : L.vc I ρ (fun t => t.den I ρ = z)) :
  Calls P g vs w (fun x w' => GivesR r z x w' ∧ Below w.heap.size w w') := by
 rw [← hL] at hv
 refine calls_num hm hN hI hct hh hk hsl hu hwf hvs (Tree.vc_mono ?_ (resT_vc hv))
 rintro ⟨v, s⟩ ⟨t, h1, h2⟩ w0 X n0 β0 β' w' hw' hb
 subst h2
 exact ⟨resNum_ok hI hw' h1, hb⟩
theorem calls_numV (hm : P.follows .mixedOrders = true) (hN : NoCount P) (hI : I.opq = numOpq) {ct : CT} (hct : CTOk P I ρ ct) {n : Nat} {g : FuncId} {args : List V} {m : Nat} {k : Known} {sl : List Value} {vs : Array Value} {w : World} {r : Value} {L : Tree V}
  (hh : Hyp I w fun _ => False) (hk : k.Ok I ρ) (hsl : sl.length = m) (hu : ∀ i v, sl[i]? = some v → U32s w.heap.size w v (digs (ρ.i i).natAbs) ∧ (ρ.i i).natAbs < B32 ^ 64)
  (hwf : (args.all (V.wf m)) = true) (hvs : ∀ β : Nat → Nat, (∀ i v, sl[i]? = some v → I.opq.dec (β i) = v) → (args.map (V.den I ρ β)).toArray = vs)
  (hL : vals (execF P ct n g args (startN m k)) = L) (hv : L.vc I ρ (fun v => v.wf 0 = true ∧ v.den I ρ id = r)) :
  Calls P g vs w (fun x w' => x = .returned r ∧ Below w.heap.size w w') := by
 rw [← hL, vals_vc] at hv
 refine calls_num hm hN hI hct hh hk hsl hu hwf hvs (Tree.vc_mono ?_ hv)
 rintro ⟨v, s⟩ ⟨h1, h2⟩ w0 X n0 β0 β' w' hw' hb
 exact ⟨by rw [← h2]; exact congrArg _ (V.den_none h1 _ _), hb⟩
end
end Go.Proofs.YtgnogdncoljldaaGreat.Sx

