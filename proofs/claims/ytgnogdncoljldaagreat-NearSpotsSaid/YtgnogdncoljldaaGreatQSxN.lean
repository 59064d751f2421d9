import Derived.Test.YtgnogdncoljldaaGreatQBC
import Derived.Test.YtgnogdncoljldaaGreatQPZ
set_option linter.all false
set_option autoImplicit false
namespace Go.Proofs.YtgnogdncoljldaaGreat.Sx
open Go Go.RowKit
def pr (a b : Nat) : Nat := 2 ^ a * (2 * b + 1)
def unp : Nat → Nat → Nat × Nat
 | 0, n => (0, n)
 | f + 1, n => if n % 2 = 1 then (0, n / 2) else ((unp f (n / 2)).1 + 1, (unp f (n / 2)).2)
theorem unp_pr : ∀ (a b f : Nat), a < f → unp f (pr a b) = (a, b)
 | 0, b, 0, h => by omega
 | 0, b, f + 1, _ => by
   unfold unp pr
   rw [if_pos (by omega)]
   congr 1
   omega
 | a + 1, b, 0, h => by omega
 | a + 1, b, f + 1, h => by
   have e : pr (a + 1) b = 2 * pr a b := by unfold pr; rw [Nat.pow_succ, Nat.mul_comm (2 ^ a) 2, Nat.mul_assoc]
   unfold unp
   rw [e, if_neg (by omega), show 2 * pr a b / 2 = pr a b by omega, unp_pr a b f (by omega)]
def un2 (n : Nat) : Nat × Nat := unp (n + 1) n
theorem un2_pr (a b : Nat) : un2 (pr a b) = (a, b) := by
 refine unp_pr a b _ ?_
 have h1 : a < 2 ^ a := Nat.lt_two_pow_self
 have h2 : 2 ^ a * 1 ≤ 2 ^ a * (2 * b + 1) := Nat.mul_le_mul_left _ (by omega)
 unfold pr
 omega
def decS (n : Nat) : Value :=
 let x := un2 n
 let y := un2 x.2
 if x.1 = 0 then .slice none y.1 y.2 else
 let z := un2 y.2
 let u := un2 z.2
 if x.1 = 1 then .slice (some ⟨y.1, z.1, none⟩) u.1 u.2 else
 let t := un2 u.2
 .slice (some ⟨y.1, z.1, some u.1⟩) t.1 t.2
theorem decS_ex (p : Option Addr) (len cap : Nat) : ∃ n, decS n = .slice p len cap := by
 cases p with
 | none => exact ⟨pr 0 (pr len cap), by simp [decS, un2_pr]⟩
 | some a =>
   obtain ⟨b, off, spot⟩ := a
   cases spot with
   | none => exact ⟨pr 1 (pr b (pr off (pr len cap))), by simp [decS, un2_pr]⟩
   | some s => exact ⟨pr 2 (pr b (pr off (pr s (pr len cap)))), by simp [decS, un2_pr]⟩
theorem decS_slice (n : Nat) : ∃ p len cap, decS n = .slice p len cap := by
 unfold decS
 simp only
 split
 ·exact ⟨_, _, _, rfl⟩
 ·split <;> exact ⟨_, _, _, rfl⟩
def heldN (w : World) (v : Value) (l : List Int) : Prop := ∃ z : Int, l = [z] ∧ z.natAbs < B32 ^ 64 ∧ U32s w.heap.size w v (digs z.natAbs)
def blkS : Value → Option Nat
 | .slice (some a) (_ + 1) _ => some a.block
 | _ => none
theorem heldN_blk {w : World} {v : Value} {l : List Int} (h : heldN w v l) {g : Nat} (hg : blkS v = some g) : g < w.heap.size ∧ ∃ off d, w.cell? ⟨g, off, none⟩ = some (.int .u32 d) := by
 obtain ⟨z, -, -, p, cap, rfl, -, hc⟩ := h
 unfold blkS at hg
 split at hg
 ·rename_i a n c e
  injection e with e1 e2 e3
  subst e1
  obtain ⟨b, off, e4, hb, hx⟩ := hc (by omega)
  injection e4 with e4
  subst e4
  injection hg with hg
  subst hg
  exact ⟨hb, off + 0, _, hx 0 (by omega)⟩
 ·cases hg
def numOpq : Opq where
 held := heldN
 blk := blkS
 lt := fun w v l h g hg => (heldN_blk h hg).1
 keep := fun w w' v l h hk => by
  have hb := fun g hg => (heldN_blk h (g := g) hg).1
  obtain ⟨z, e, hz, p, cap, rfl, hl, hc⟩ := h
  refine ⟨z, e, hz, p, cap, rfl, hl, fun h0 => ?_⟩
  obtain ⟨b, off, rfl, hb', hx⟩ := hc h0
  have hbl : blkS (.slice (some ⟨b, off, none⟩) (digs z.natAbs).length cap) = some b := by
   cases hn : (digs z.natAbs).length with
   | zero => omega
   | succ n => rfl
  have hk := hk b hbl
  refine ⟨b, off, rfl, ?_, fun j hj => (World.cell?_of_block (a := ⟨b, off + j, none⟩) hk).trans (hx j hj)⟩
  have := Array.getElem?_eq_getElem hb'
  rw [← hk] at this
  exact (Array.getElem?_eq_some_iff.1 this).1
 len := fun l => match l with
  | [z] => (digs z.natAbs).length
  | _ => 0
 slice := fun w v l h => by
  obtain ⟨z, rfl, hz, p, cap, rfl, hl, hc⟩ := h
  exact ⟨p, _, cap, rfl, rfl⟩
 dec := decS
 one := fun n => by
  obtain ⟨p, l, c, e⟩ := decS_slice n
  rw [e]
  exact ⟨(fun _ h => nomatch h), (fun _ h => nomatch h)⟩
 u32 := fun w v l h g hg => (heldN_blk h hg).2
 dig := fun n d => by
  obtain ⟨p, l, c, e⟩ := decS_slice n
  rw [e]
  exact fun h => nomatch h
def plainS (s : S) : Bool := s.blks.all fun p => p.2.isOpq || p.2.cells.all C.noDigit
def numV (t : T) (id : Nat) : List C := [.bool (.lt t (.lit 0)), .opq id]
section
variable {P : Program} {I : Interp} {ρ : Env} {w0 w w' : World} {X : Nat → Prop} {n0 : Nat} {β0 β : Nat → Nat} {s : S}
theorem WR.num (hI : I.opq = numOpq) (h : WR I ρ w0 X n0 β0 β s w) (hp : plainS s = true) {v : Value} {t : T} (hv : ZNum w.heap.size w v (t.den I ρ)) :
  ∃ β', WR I ρ w0 X n0 β0 β' (s.alloc opqTy [.int .i64 t]) w ∧ (∀ id, id < s.nb → β' id = β id) ∧ v = .agg #[.bool (decide (t.den I ρ < 0)), I.opq.dec (β' s.nb)] := by
 obtain ⟨⟨sl, rfl, hu⟩, hz⟩ := hv
 have hsl : ∃ p len cap, sl = .slice p len cap := by obtain ⟨p, cap, e, -⟩ := hu; exact ⟨p, _, cap, e⟩
 obtain ⟨p, len, cap, rfl⟩ := hsl
 obtain ⟨code, hcode⟩ := decS_ex p len cap
 have hd : I.opq.dec code = .slice p len cap := by rw [hI]; exact hcode
 have hh : heldN w (.slice p len cap) (numsOf I ρ [.int .i64 t]) := ⟨_, rfl, hz, hu⟩
 refine ⟨up β s.nb code, h.addOpq (by simp [C.wf]) (by rw [hd, hI]; exact hh) (fun q hq hqo => ?_), up_lt, by rw [up_self, hd]⟩
 rw [hd, hI]
 intro e
 obtain ⟨-, off, d, hc⟩ := heldN_blk hh e
 obtain ⟨c, hcm, hcd⟩ := (h.row q hq hqo).dig (Blk.live_dead hqo) hc
 have hpl := List.all_eq_true.1 hp q hq
 rw [Blk.live_opq hqo, Bool.false_or] at hpl
 exact noDigit_den (List.all_eq_true.1 hpl c (Blk.row_sub c hcm)) d hcd
def litT : B → Bool
 | .lit b => b
 | _ => false
theorem litT_eq {b : B} (h : litT b = true) : b = .lit true := by
 unfold litT at h
 split at h
 ·subst h; rfl
 ·cases h
def numArg (s : S) : List C → Option T
 | [.bool b, .opq id] => match s.findOpq id with
   | some [.int _ t] => bif b.same (.lt t (.lit 0)) then some t else
     bif b.same (.not (.lt t (.lit 0))) && litT ((B.lt (.lit 0) (.app 999 (.cons t .nil))).under s.known) then some (.mkBin .sub (.lit 0) t) else none
   | _ => none
 | [.bool (.lit false), .nils] => some (.lit 0)
 | _ => none
theorem numArg_ok (hI : I.opq = numOpq) (h : WR I ρ w0 X n0 β0 β s w) {cs : List C} {t : T} (ha : numArg s cs = some t) : ZNum w.heap.size w (.agg (cellsOf I ρ β cs)) (t.den I ρ) := by
 unfold numArg at ha
 split at ha
 ·rename_i b id
  split at ha
  ·rename_i k t' hf
   obtain ⟨bl, hb, hbo, hcs⟩ := findOpq_mem hf
   cases hs : b.same (.lt t' (.lit 0)) with
   | false =>
     rw [hs] at ha
     simp only [cond_false] at ha
     cases hs2 : (b.same (.not (.lt t' (.lit 0))) && litT ((B.lt (.lit 0) (.app 999 (.cons t' .nil))).under s.known)) with
     | false => rw [hs2] at ha; cases ha
     | true =>
       rw [hs2] at ha
       injection ha with ha
       subst ha
       simp only [Bool.and_eq_true] at hs2
       have e := B.same_eq _ _ hs2.1
       subst e
       have hl := litT_eq hs2.2
       have hd := B.den_under h.known (B.lt (.lit 0) (.app 999 (.cons t' .nil)))
       rw [hl] at hd
       have hpos := B.lt_t.1 hd.symm
       rw [T.den_lit, T.den_app, T.dens_cons, T.dens_nil, I.len, hI] at hpos
       have hpos : (0 : Int) < (digs (t'.den I ρ).natAbs).length := hpos
       have hne : t'.den I ρ ≠ 0 := fun e0 => by
        rw [e0] at hpos
        rw [show (0 : Int).natAbs = 0 from rfl, digs_zero] at hpos
        simp at hpos
       have hh := (h.held _ hb hbo).1
       rw [hcs, hI] at hh
       obtain ⟨z, e1, hz, hu⟩ := hh
       have e2 : t'.den I ρ = z := by injection e1
       subst e2
       rw [T.den_mkBin, T.den_lit, show IOp.ev .sub 0 (t'.den I ρ) = -(t'.den I ρ) from Int.zero_sub _]
       refine ⟨⟨I.opq.dec (β id), ?_, by rw [Int.natAbs_neg, hI]; exact hu⟩, by rw [Int.natAbs_neg]; exact hz⟩
       simp only [cellsOf, List.map_cons, List.map_nil, C.den, B.den, T.den_lit]
       have : decide (-(t'.den I ρ) < 0) = !decide (t'.den I ρ < 0) := by
        by_cases h0 : t'.den I ρ < 0
        ·rw [decide_eq_true h0, decide_eq_false (by omega)]; rfl
        ·rw [decide_eq_false h0, decide_eq_true (by omega)]; rfl
       rw [this]
       rfl
   | true =>
     rw [hs] at ha
     injection ha with ha
     subst ha
     have e := B.same_eq _ _ hs
     subst e
     have hh := (h.held _ hb hbo).1
     rw [hcs, hI] at hh
     obtain ⟨z, e1, hz, hu⟩ := hh
     have e2 : t'.den I ρ = z := by injection e1
     subst e2
     refine ⟨⟨_, ?_, hu⟩, hz⟩
     simp only [cellsOf, List.map_cons, List.map_nil, C.den, B.den, T.den_lit, hI]
     rfl
  ·cases ha
 ·injection ha with ha
  subst ha
  refine ⟨⟨.slice none 0 0, by simp [cellsOf, C.den, B.den, T.den_lit], ?_⟩, by rw [T.den_lit]; exact Nat.pow_pos (by decide)⟩
  rw [T.den_lit]
  show U32s _ _ _ (digs 0)
  rw [digs_zero]
  exact u32s_nil _ _
 ·cases ha
end
inductive Kd where
 | num
 | int
 | dig
inductive Res where
 | num
 | two
 | dig
structure NF where
 g : FuncId
 /-- what comes in: numbers, or ints -/
 kinds : List Kd
 /-- the number that is handed back, by what comes in; none where it may be too great -/
 val : Known → List T → Option T
 /-- what is handed back: a number, with true behind it, or digits -/
 ok : Res
def digArg (s : S) : C → Option T
 | .opq id => match s.findOpq id with
   | some [.int _ t] => some t
   | _ => none
 | .nils => some (.lit 0)
 | _ => none
def argN (s : S) : Kd → V → Option T
 | .num, .agg cs => numArg s cs
 | .int, .c (.int .i64 t) => some t
 | .dig, .c c => digArg s c
 | _, _ => none
def argsN (s : S) : List Kd → List V → Option (List T)
 | [], [] => some []
 | b :: bs, a :: r => match argN s b a, argsN s bs r with
   | some t, some ts => some (t :: ts)
   | _, _ => none
 | _, _ => none
def nfFor (g : FuncId) : List NF → Option NF
 | [] => none
 | e :: r => bif Nat.beq g e.g then some e else nfFor g r
theorem nfFor_mem {g : FuncId} {e : NF} : ∀ {l : List NF}, nfFor g l = some e → e ∈ l ∧ e.g = g
 | [], h => by cases h
 | x :: r, h => by
   unfold nfFor at h
   cases hb : Nat.beq g x.g with
   | true => rw [hb] at h; injection h with h; subst h; exact ⟨.head _, (Nat.eq_of_beq_eq_true hb).symm⟩
   | false => rw [hb] at h; exact ⟨.tail _ (nfFor_mem h).1, (nfFor_mem h).2⟩
def resV (r : Res) (t : T) (id : Nat) : V := match r with
 | .num => .agg (numV t id)
 | .two => .tup [(true, numV t id), (false, [.bool (.lit true)])]
 | .dig => .c (.opq id)
def ctNum (l : List NF) : CT := fun g args s => match nfFor g l with
 | none => none
 | some e => bif plainS s then match argsN s e.kinds args with
   | none => none
   | some ts => match e.val s.known ts with
     | none => none
     | some t => some (t.force fun t => s.allocK opqTy [.int .i64 t] fun s' => .leaf (resV e.ok t s.nb, s'))
   else none
def NArg (w : World) (b : Kd) (v : Value) (z : Int) : Prop := match b with
 | .num => ZNum w.heap.size w v z
 | .int => v = .int .i64 z
 | .dig => U32s w.heap.size w v (digs z.natAbs) ∧ z.natAbs < B32 ^ 64
def NArgs (w : World) : List Kd → List Value → List Int → Prop
 | [], [], [] => True
 | b :: bs, v :: vs, z :: zs => NArg w b v z ∧ NArgs w bs vs zs
 | _, _, _ => False
def GivesR (r : Res) (z : Int) (x : Ending) (w' : World) : Prop := match r with
 | .num => ∃ v, x = .returned v ∧ ZNum w'.heap.size w' v z
 | .two => ∃ v, x = .returned (.tuple #[v, .bool true]) ∧ ZNum w'.heap.size w' v z
 | .dig => ∃ v, x = .returned v ∧ U32s w'.heap.size w' v (digs z.natAbs) ∧ z.natAbs < B32 ^ 64
def NF.Ok (P : Program) (I : Interp) (ρ : Env) (e : NF) : Prop :=
 ∀ (k : Known) (ts : List T) (t : T), k.Ok I ρ → e.val k ts = some t → ∀ (w : World) (vs : List Value), NArgs w e.kinds vs (ts.map (T.den I ρ)) →
   Calls P e.g vs.toArray w (fun x w' => GivesR e.ok (t.den I ρ) x w' ∧ Below w.heap.size w w')
section
variable {P : Program} {I : Interp} {ρ : Env}
theorem digArg_ok (hI : I.opq = numOpq) {w0 w : World} {X : Nat → Prop} {n0 : Nat} {β0 β : Nat → Nat} {s : S} (h : WR I ρ w0 X n0 β0 β s w) {c : C} {t : T} (ha : digArg s c = some t) : U32s w.heap.size w (c.den I ρ β) (digs (t.den I ρ).natAbs) ∧ (t.den I ρ).natAbs < B32 ^ 64 := by
 unfold digArg at ha
 split at ha
 ·rename_i id
  split at ha
  ·rename_i k t' hf
   injection ha with ha
   subst ha
   obtain ⟨bl, hb, hbo, hcs⟩ := findOpq_mem hf
   have hh := (h.held _ hb hbo).1
   rw [hcs, hI] at hh
   obtain ⟨z, e1, hz, hu⟩ := hh
   have e2 : t'.den I ρ = z := by injection e1
   subst e2
   refine ⟨?_, hz⟩
   simp only [C.den, hI]
   exact hu
  ·cases ha
 ·injection ha with ha
  subst ha
  rw [T.den_lit]
  refine ⟨?_, Nat.pow_pos (by decide)⟩
  show U32s _ _ _ (digs 0)
  rw [digs_zero]
  exact u32s_nil _ _
 ·cases ha
theorem argN_ok (hI : I.opq = numOpq) {w0 w : World} {X : Nat → Prop} {n0 : Nat} {β0 β : Nat → Nat} {s : S} (h : WR I ρ w0 X n0 β0 β s w) {b : Kd} {a : V} {t : T} (ha : argN s b a = some t) : NArg w b (a.den I ρ β) (t.den I ρ) := by
 unfold argN at ha
 split at ha
 ·exact numArg_ok hI h ha
 ·injection ha with ha; subst ha; rfl
 ·exact digArg_ok hI h ha
 ·cases ha
theorem argsN_ok (hI : I.opq = numOpq) {w0 w : World} {X : Nat → Prop} {n0 : Nat} {β0 β : Nat → Nat} {s : S} (h : WR I ρ w0 X n0 β0 β s w) : ∀ {bs : List Kd} {args : List V} {ts : List T}, argsN s bs args = some ts → NArgs w bs (args.map (V.den I ρ β)) (ts.map (T.den I ρ)) := by
 intro bs
 induction bs with
 | nil =>
   intro args ts ha
   cases args with
   | nil => injection ha with ha; subst ha; trivial
   | cons a r => cases ha
 | cons b bs ih =>
   intro args ts ha
   cases args with
   | nil => cases ha
   | cons a r =>
     unfold argsN at ha
     split at ha
     ·rename_i t ts' h1 h2
      injection ha with ha
      subst ha
      exact ⟨argN_ok hI h h1, ih h2⟩
     ·cases ha
theorem ctNum_ok (hI : I.opq = numOpq) {l : List NF} (hl : ∀ e ∈ l, e.Ok P I ρ) : CTOk P I ρ (ctNum l) := by
 intro g args s t h w0 X n0 β0 β w R ht hw ha
 unfold ctNum at h
 split at h
 ·cases h
 ·rename_i e he
  obtain ⟨hm, rfl⟩ := nfFor_mem he
  cases hp : plainS s with
  | false => rw [hp] at h; cases h
  | true =>
    rw [hp] at h
    simp only [cond_true] at h
    split at h
    ·cases h
    ·rename_i ts hts
     split at h
     ·cases h
     ·rename_i t' hval
      simp only [T.force_eq, S.allocK_eq, Option.some.injEq] at h
      subst h
      refine (hl e hm s.known ts t' hw.known hval w _ (argsN_ok hI hw hts)).mono fun x w' ⟨hg, hb⟩ => ?_
      obtain ⟨sl, hu, hz, hx⟩ : ∃ sl, U32s w'.heap.size w' sl (digs (t'.den I ρ).natAbs) ∧ (t'.den I ρ).natAbs < B32 ^ 64 ∧ x = .returned (match e.ok with
        | .num => .agg #[.bool (decide (t'.den I ρ < 0)), sl]
        | .two => .tuple #[.agg #[.bool (decide (t'.den I ρ < 0)), sl], .bool true]
        | .dig => sl) := by
       unfold GivesR at hg
       cases ho : e.ok with
       | num => rw [ho] at hg; obtain ⟨v, rfl, ⟨s1, rfl, hu⟩, hz⟩ := hg; exact ⟨s1, hu, hz, rfl⟩
       | two => rw [ho] at hg; obtain ⟨v, rfl, ⟨s1, rfl, hu⟩, hz⟩ := hg; exact ⟨s1, hu, hz, rfl⟩
       | dig => rw [ho] at hg; obtain ⟨v, rfl, hu, hz⟩ := hg; exact ⟨v, hu, hz, rfl⟩
      subst hx
      obtain ⟨β', hwr, hag, hvd⟩ := (hw.below hb).num hI hp (v := .agg #[.bool (decide (t'.den I ρ < 0)), sl]) ⟨⟨sl, rfl, hu⟩, hz⟩
      have hsl : sl = I.opq.dec (β' s.nb) := by
       injection hvd with hvd
       have := congrArg (fun a => a.toList) hvd
       simpa using this
      have hwf : ∀ c ∈ numV t' s.nb, c.wf (s.nb + 1) = true := by
       intro c hc
       simp only [numV, List.mem_cons, List.not_mem_nil, or_false] at hc
       rcases hc with rfl | rfl
       ·rfl
       ·simp [C.wf]
      have hden : cellsOf I ρ β' (numV t' s.nb) = #[.bool (decide (t'.den I ρ < 0)), sl] := by
       rw [hsl]
       simp only [cellsOf, numV, List.map_cons, List.map_nil, C.den, B.den, T.den_lit]
       rfl
      have hle : s.nb ≤ s.nb + 1 := Nat.le_succ _
      cases hok : e.ok with
      | two =>
        rw [hok] at ht
        have := ht β' w' hwr (by simp only [resV, V.wf, List.all_cons, List.all_nil, Bool.and_true, Bool.and_eq_true, List.all_eq_true]; exact ⟨hwf, rfl⟩) hle hag
        simp only [resV, V.den, List.map_cons, List.map_nil, partOf, numV] at this
        have e1 : cellsOf I ρ β' [C.bool (B.lt t' (T.lit 0)), C.opq s.nb] = #[.bool (decide (t'.den I ρ < 0)), sl] := hden
        rw [e1] at this
        exact this
      | num =>
        rw [hok] at ht
        have := ht β' w' hwr (by simp only [resV, V.wf, List.all_eq_true]; exact hwf) hle hag
        simp only [resV, V.den, hden] at this
        exact this
      | dig =>
        rw [hok] at ht
        have := ht β' w' hwr (by simp [resV, V.wf, C.wf, S.alloc]) hle hag
        have e1 : V.den I ρ β' (resV .dig t' s.nb) = sl := hsl.symm
        rw [e1] at this
        exact this
end
structure NI where
 g : FuncId
 kinds : List Kd
 val : Known → List T → Option C
def C.bare : C → Bool
 | .int .. | .bool _ => true
 | _ => false
def NI.Ok (P : Program) (I : Interp) (ρ : Env) (e : NI) : Prop :=
 ∀ (k : Known) (ts : List T) (c : C), k.Ok I ρ → e.val k ts = some c → ∀ (w : World) (vs : List Value), NArgs w e.kinds vs (ts.map (T.den I ρ)) →
   Calls P e.g vs.toArray w (fun x w' => x = .returned (c.den I ρ id) ∧ Below w.heap.size w w')
def niFor (g : FuncId) : List NI → Option NI
 | [] => none
 | e :: r => bif Nat.beq g e.g then some e else niFor g r
theorem niFor_mem {g : FuncId} {e : NI} : ∀ {l : List NI}, niFor g l = some e → e ∈ l ∧ e.g = g
 | [], h => by cases h
 | x :: r, h => by
   unfold niFor at h
   cases hb : Nat.beq g x.g with
   | true => rw [hb] at h; injection h with h; subst h; exact ⟨.head _, (Nat.eq_of_beq_eq_true hb).symm⟩
   | false => rw [hb] at h; exact ⟨.tail _ (niFor_mem h).1, (niFor_mem h).2⟩
def ctInt (l : List NI) : CT := fun g args s => match niFor g l with
 | none => none
 | some e => match argsN s e.kinds args with
   | none => none
   | some ts => match e.val s.known ts with
     | none => none
     | some c => bif c.bare then some (c.force fun c => .leaf (.c c, s)) else none
section
variable {P : Program} {I : Interp} {ρ : Env}
theorem ctInt_ok (hI : I.opq = numOpq) {l : List NI} (hl : ∀ e ∈ l, e.Ok P I ρ) : CTOk P I ρ (ctInt l) := by
 intro g args s t h w0 X n0 β0 β w R ht hw ha
 unfold ctInt at h
 split at h
 ·cases h
 ·rename_i e he
  obtain ⟨hm, rfl⟩ := niFor_mem he
  split at h
  ·cases h
  ·rename_i ts hts
   split at h
   ·cases h
   ·rename_i c hval
    cases hb : c.bare with
    | false => rw [hb] at h; cases h
    | true =>
      rw [hb] at h
      simp only [cond_true, C.force_eq, Option.some.injEq] at h
      subst h
      refine (hl e hm s.known ts c hw.known hval w _ (argsN_ok hI hw hts)).mono fun x w' ⟨hx, hbl⟩ => ?_
      subst hx
      have hwf : ∀ n, c.wf n = true := fun n => by cases c <;> first | rfl | cases hb
      have hd : c.den I ρ id = c.den I ρ β := by cases c <;> first | rfl | cases hb
      rw [hd]
      exact ht β w' (hw.below hbl) (hwf _) (Nat.le_refl _) (fun _ _ => rfl)
def inR (k : Known) (t : T) (lo hi : Int) : Bool := t.ivK k fun i => scanK t k.facts fun j => leO (some lo) (i.meet j).lo && leO (i.meet j).hi (some hi)
theorem inR_ok {k : Known} (hk : k.Ok I ρ) {t : T} {lo hi : Int} (h : inR k t lo hi = true) : lo ≤ t.den I ρ ∧ t.den I ρ ≤ hi := by
 unfold inR at h
 rw [T.ivK_eq, scanK_eq] at h
 simp only [Bool.and_eq_true] at h
 obtain ⟨a, b, e1, e2, h1⟩ := leO_ok h.1
 obtain ⟨c, d, e3, e4, h2⟩ := leO_ok h.2
 injection e1 with e1
 injection e4 with e4
 have hm := Iv.has_meet (T.iv_ok hk t) (scan_ok hk.facts t)
 have := hm.1 b e2
 have := hm.2 c e3
 omega
theorem b32_big : (2 ^ 250) ^ 8 < B32 ^ 64 := by
 have h1 : (B32 ^ 8) ^ 8 ≤ B32 ^ 64 := by rw [← Nat.pow_mul]; exact Nat.pow_le_pow_right (by decide) (by decide)
 have h2 : 2 ^ 250 < B32 ^ 8 := by decide
 exact Nat.lt_of_lt_of_le (Nat.pow_lt_pow_left h2 (by decide)) h1
def nfBound : Int := (2 ^ 250) ^ 8
def nfOf (g : FuncId) : NF := ⟨g, [.int], fun k ts => match ts with
 | [t] => bif inR k t (-9223372036854775808) 9223372036854775807 then some t else none
 | _ => none, .num⟩
theorem nfOf_ok {g : FuncId} (hc : ∀ (z : Int) (w : World), -9223372036854775808 ≤ z → z ≤ 9223372036854775807 → Calls P g #[.int .i64 z] w (fun x w' => GivesR .num z x w' ∧ Below w.heap.size w w')) : (nfOf g).Ok P I ρ := by
 intro k ts t hk hv w vs ha
 unfold nfOf at hv
 simp only at hv
 split at hv
 ·rename_i t0
  cases hb : inR k t0 (-9223372036854775808) 9223372036854775807 with
  | false => rw [hb] at hv; cases hv
  | true =>
    rw [hb] at hv
    injection hv with hv
    subst hv
    obtain ⟨h1, h2⟩ := inR_ok hk hb
    match vs, ha with
    | [v], ⟨ha, _⟩ =>
      have ha : v = .int .i64 (t0.den I ρ) := ha
      subst ha
      exact hc _ w h1 h2
 ·cases hv
def nf2 (g : FuncId) (o : IOp) (ok : Res) : NF := ⟨g, [.num, .num], fun k ts => match ts with
 | [a, b] => bif inR k (.mkBin o a b) (-nfBound) nfBound then some (.mkBin o a b) else none
 | _ => none, ok⟩
theorem nf2_ok {g : FuncId} {o : IOp} {ok : Res} (hc : ∀ (va vb : Value) (a b : Int) (w : World), ZNum w.heap.size w va a → ZNum w.heap.size w vb b → (o.ev a b).natAbs < B32 ^ 64 →
   Calls P g #[va, vb] w (fun x w' => GivesR ok (o.ev a b) x w' ∧ Below w.heap.size w w')) : (nf2 g o ok).Ok P I ρ := by
 intro k ts t hk hv w vs ha
 unfold nf2 at hv
 simp only at hv
 split at hv
 ·rename_i a b
  cases hb : inR k (.mkBin o a b) (-nfBound) nfBound with
  | false => rw [hb] at hv; cases hv
  | true =>
    rw [hb] at hv
    injection hv with hv
    subst hv
    obtain ⟨h1, h2⟩ := inR_ok hk hb
    match vs, ha with
    | [va, vb], ⟨h3, h4, _⟩ =>
      have h3 : ZNum w.heap.size w va (a.den I ρ) := h3
      have h4 : ZNum w.heap.size w vb (b.den I ρ) := h4
      rw [T.den_mkBin] at h1 h2 ⊢
      refine hc va vb _ _ w h3 h4 ?_
      have e2 : nfBound = (((2 ^ 250) ^ 8 : Nat) : Int) := by unfold nfBound; rw [Int.natCast_pow, Int.natCast_pow]; rfl
      have e3 : ((2 : Nat) ^ 250) ^ 8 < B32 ^ 64 := b32_big
      rw [e2] at h1 h2
      generalize ((2 : Nat) ^ 250) ^ 8 = x at *
      generalize B32 ^ 64 = y at *
      omega
 ·cases hv
end
end Go.Proofs.YtgnogdncoljldaaGreat.Sx

