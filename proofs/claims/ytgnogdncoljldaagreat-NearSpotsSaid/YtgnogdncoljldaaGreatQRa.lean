import Derived.Test.YtgnogdncoljldaaGreatQSxM
import Derived.Test.YtgnogdncoljldaaGreatQBC
set_option linter.all false
set_option autoImplicit false
namespace Go.Proofs.YtgnogdncoljldaaGreat.Sx
open Go Go.RowKit
def RootZ (w : World) (v : Value) (a s N D : Int) : Prop :=
 ∃ n0 n1 d0 d1, v = .agg #[.int .i64 a, .int .i64 s, n0, n1, d0, d1] ∧ ZNum w.heap.size w (.agg #[n0, n1]) N ∧ ZNum w.heap.size w (.agg #[d0, d1]) D
inductive Kr where
 | num
 | int
 | root
 | ints
def rootArg (s : S) : List C → Option (List T)
 | [.int .i64 a, .int .i64 g, n0, n1, d0, d1] => match numArg s [n0, n1], numArg s [d0, d1] with
   | some n, some d => some [a, g, n, d]
   | _, _ => none
 | _ => none
def intCells : List C → Option (List T)
 | [] => some []
 | .int .i64 t :: r => (intCells r).map (t :: ·)
 | _ :: _ => none
def argR (s : S) : Kr → V → Option (List T)
 | .num, .agg cs => (numArg s cs).map fun t => [t]
 | .int, .c (.int .i64 t) => some [t]
 | .root, .agg cs => rootArg s cs
 | .ints, .agg cs => intCells cs
 | _, _ => none
def argsR (s : S) : List Kr → List V → Option (List (List T))
 | [], [] => some []
 | b :: bs, a :: r => match argR s b a, argsR s bs r with
   | some t, some ts => some (t :: ts)
   | _, _ => none
 | _, _ => none
def RArg (w : World) : Kr → Value → List Int → Prop
 | .num, v, [z] => ZNum w.heap.size w v z
 | .int, v, [z] => v = .int .i64 z
 | .root, v, [a, s, n, d] => RootZ w v a s n d
 | .ints, v, l => v = .agg (l.map (Value.int .i64)).toArray
 | _, _, _ => False
def RArgs (w : World) : List Kr → List Value → List (List Int) → Prop
 | [], [], [] => True
 | b :: bs, v :: vs, z :: zs => RArg w b v z ∧ RArgs w bs vs zs
 | _, _, _ => False
theorem RArgs.nil {w : World} {vs : List Value} {zs : List (List Int)} (h : RArgs w [] vs zs) : vs = [] ∧ zs = [] := by
 match vs, zs, h with
 | [], [], _ => exact ⟨rfl, rfl⟩
theorem RArgs.cons {w : World} {b : Kr} {bs : List Kr} {vs : List Value} {zs : List (List Int)} (h : RArgs w (b :: bs) vs zs) : ∃ v vr z zr, vs = v :: vr ∧ zs = z :: zr ∧ RArg w b v z ∧ RArgs w bs vr zr := by
 match vs, zs, h with
 | v :: vr, z :: zr, ⟨h1, h2⟩ => exact ⟨v, vr, z, zr, rfl, rfl, h1, h2⟩
theorem RArg.num {w : World} {v : Value} {z : List Int} (h : RArg w .num v z) : ∃ n, z = [n] ∧ ZNum w.heap.size w v n := by
 match z, h with
 | [n], h => exact ⟨n, rfl, h⟩
theorem RArg.int {w : World} {v : Value} {z : List Int} (h : RArg w .int v z) : ∃ n, z = [n] ∧ v = .int .i64 n := by
 match z, h with
 | [n], h => exact ⟨n, rfl, h⟩
theorem RArg.root {w : World} {v : Value} {z : List Int} (h : RArg w .root v z) : ∃ a s n d, z = [a, s, n, d] ∧ RootZ w v a s n d := by
 match z, h with
 | [a, s, n, d], h => exact ⟨a, s, n, d, rfl, h⟩
theorem RArg.ints {w : World} {v : Value} {z : List Int} (h : RArg w .ints v z) : v = .agg (z.map (Value.int .i64)).toArray := by
 cases z <;> exact h
structure RT where
 nums : List T
 v : V
structure FnR where
 g : FuncId
 kinds : List Kr
 val : Known → List (List T) → Option RT
def C.shift (k : Nat) : C → C
 | .opq id => .opq (id + k)
 | c => c
def V.shift (k : Nat) : V → V
 | .c x => .c (x.shift k)
 | .agg cs => .agg (cs.map (C.shift k))
 | .tup vs => .tup (vs.map fun p => (p.1, p.2.map (C.shift k)))
 | .any n => .any n
def C.pure (m : Nat) : C → Bool
 | .int .. | .bool _ | .nils | .nilp | .nilf | .nili | .str _ => true
 | .opq id => Nat.blt id m
 | _ => false
def V.pure (m : Nat) : V → Bool
 | .c x => x.pure m
 | .agg cs => cs.all (C.pure m)
 | .tup vs => vs.all fun p => p.2.all (C.pure m)
 | .any _ => false
section
variable {I : Interp} {ρ : Env} {β β' : Nat → Nat} {m k : Nat}
theorem C.den_shift {c : C} (h : c.pure m = true) (hb : ∀ j, j < m → β' (j + k) = β j) : (c.shift k).den I ρ β' = c.den I ρ β := by
 cases c <;> simp only [C.pure, Bool.false_eq_true, Nat.blt_eq] at h <;> simp only [C.shift, C.den]
 rw [hb _ h]
theorem C.wf_shift {c : C} (h : c.pure m = true) : (c.shift k).wf (m + k) = true := by
 cases c <;> simp only [C.pure, Bool.false_eq_true, Nat.blt_eq] at h <;> simp only [C.shift, C.wf, Nat.blt_eq]
 omega
theorem cells_shift {cs : List C} (h : cs.all (C.pure m) = true) (hb : ∀ j, j < m → β' (j + k) = β j) : cellsOf I ρ β' (cs.map (C.shift k)) = cellsOf I ρ β cs := by
 unfold cellsOf
 rw [List.map_map]
 congr 1
 exact List.map_congr_left fun c hc => C.den_shift (List.all_eq_true.1 h c hc) hb
theorem V.den_shift {v : V} (h : v.pure m = true) (hb : ∀ j, j < m → β' (j + k) = β j) : (v.shift k).den I ρ β' = v.den I ρ β := by
 cases v with
 | c x => exact C.den_shift h hb
 | agg cs => simp only [V.shift, V.den, cells_shift h hb]
 | tup vs =>
   simp only [V.shift, V.den, List.map_map]
   congr 2
   refine List.map_congr_left fun p hp => ?_
   have hc := List.all_eq_true.1 h p hp
   obtain ⟨b, cs⟩ := p
   simp only [Function.comp]
   have hcs : ∀ c ∈ cs, c.pure m = true := List.all_eq_true.1 hc
   cases b with
   | false =>
     cases cs with
     | nil => rfl
     | cons c r => exact C.den_shift (hcs c (.head _)) hb
   | true => cases cs <;> simp only [partOf, cells_shift hc hb]
 | any _ => cases h
theorem V.wf_shift {v : V} (h : v.pure m = true) : (v.shift k).wf (m + k) = true := by
 cases v with
 | c x => exact C.wf_shift h
 | agg cs =>
   simp only [V.shift, V.wf, List.all_eq_true, List.mem_map]
   rintro c ⟨d, hd, rfl⟩
   exact C.wf_shift (List.all_eq_true.1 h d hd)
 | tup vs =>
   simp only [V.shift, V.wf, List.all_eq_true, List.mem_map]
   rintro p ⟨q, hq, rfl⟩ c hc
   obtain ⟨d, hd, rfl⟩ := List.mem_map.1 hc
   exact C.wf_shift (List.all_eq_true.1 (List.all_eq_true.1 h q hq) d hd)
 | any _ => cases h
end
def rfFor (g : FuncId) : List FnR → Option FnR
 | [] => none
 | e :: r => bif Nat.beq g e.g then some e else rfFor g r
theorem rfFor_mem {g : FuncId} {e : FnR} : ∀ {l : List FnR}, rfFor g l = some e → e ∈ l ∧ e.g = g
 | [], h => by cases h
 | x :: r, h => by
   unfold rfFor at h
   cases hb : Nat.beq g x.g with
   | true => rw [hb] at h; injection h with h; subst h; exact ⟨.head _, (Nat.eq_of_beq_eq_true hb).symm⟩
   | false => rw [hb] at h; exact ⟨.tail _ (rfFor_mem h).1, (rfFor_mem h).2⟩
def S.addNums : List T → S → S
 | [], s => s
 | t :: r, s => S.addNums r (s.alloc opqTy [.int .i64 t])
def addNumsK {α : Type} : List T → S → (S → α) → α
 | [], s, k => k s
 | t :: r, s, k => t.force fun t => s.allocK opqTy [.int .i64 t] fun s => addNumsK r s k
theorem addNumsK_eq {α : Type} : ∀ (l : List T) (s : S) (k : S → α), addNumsK l s k = k (S.addNums l s)
 | [], _, _ => rfl
 | t :: r, s, k => by simp only [addNumsK, S.addNums, T.force_eq, S.allocK_eq, addNumsK_eq r]
theorem addNums_nb : ∀ (l : List T) (s : S), (S.addNums l s).nb = l.length + s.nb
 | [], s => by simp [S.addNums]
 | t :: r, s => by simp only [S.addNums, addNums_nb r, List.length_cons]; show r.length + (s.nb + 1) = _; omega
def needS : List T → S → Bool
 | [], _ => true
 | _ :: _, s => plainS s
def ctFn (l : List FnR) : CT := fun g args s => match rfFor g l with
 | none => none
 | some e => match argsR s e.kinds args with
   | none => none
   | some ts => match e.val s.known ts with
     | none => none
     | some ⟨nums, v⟩ => bif v.pure nums.length && needS nums s then some (natF s.nb fun nb => (v.shift nb).force fun v => addNumsK nums s fun s' => .leaf (v, s')) else none
def RT.Gives (I : Interp) (ρ : Env) (r : RT) (x : Ending) (w : World) : Prop := ∃ β : Nat → Nat, (∀ j t, r.nums[j]? = some t → heldN w (numOpq.dec (β j)) [t.den I ρ]) ∧ x = .returned (r.v.den I ρ β)
def FnR.Ok (P : Program) (I : Interp) (ρ : Env) (e : FnR) : Prop :=
 ∀ (k : Known) (ts : List (List T)) (r : RT), k.Ok I ρ → e.val k ts = some r → ∀ (w : World) (vs : List Value), RArgs w e.kinds vs (ts.map (List.map (T.den I ρ))) →
   Calls P e.g vs.toArray w (fun x w' => r.Gives I ρ x w' ∧ Below w.heap.size w w')
section
variable {P : Program} {I : Interp} {ρ : Env} {w0 w : World} {X : Nat → Prop} {n0 : Nat} {β0 β : Nat → Nat} {s : S}
theorem rootArg_ok (hI : I.opq = numOpq) (h : WR I ρ w0 X n0 β0 β s w) {cs : List C} {ts : List T} (ha : rootArg s cs = some ts) : ∃ a g n d, ts = [a, g, n, d] ∧ RootZ w (.agg (cellsOf I ρ β cs)) (a.den I ρ) (g.den I ρ) (n.den I ρ) (d.den I ρ) := by
 unfold rootArg at ha
 split at ha
 ·rename_i a g n0 n1 d0 d1
  split at ha
  ·rename_i n d h1 h2
   injection ha with ha
   subst ha
   refine ⟨a, g, n, d, rfl, n0.den I ρ β, n1.den I ρ β, d0.den I ρ β, d1.den I ρ β, rfl, ?_, ?_⟩
   ·exact numArg_ok hI h h1
   ·exact numArg_ok hI h h2
  ·cases ha
 ·cases ha
theorem intCells_ok : ∀ {cs : List C} {ts : List T}, intCells cs = some ts → cs.map (C.den I ρ β) = (ts.map (T.den I ρ)).map (Value.int .i64)
 | [], ts, h => by injection h with h; subst h; rfl
 | .int .i64 t :: r, ts, h => by
   obtain ⟨l, h1, rfl⟩ := Option.map_eq_some_iff.1 h
   simp only [List.map_cons, intCells_ok h1, C.den]
 | .int .i8 _ :: _, _, h | .int .i16 _ :: _, _, h | .int .i32 _ :: _, _, h | .int .u8 _ :: _, _, h | .int .u16 _ :: _, _, h | .int .u32 _ :: _, _, h | .int .u64 _ :: _, _, h => by cases h
 | .osl .. :: _, _, h | .ptr .. :: _, _, h | .nilp :: _, _, h | .slice .. :: _, _, h | .nils :: _, _, h | .fn .. :: _, _, h | .str _ :: _, _, h | .nilf :: _, _, h | .abs .. :: _, _, h | .opq _ :: _, _, h | .ifc .. :: _, _, h | .yld _ :: _, _, h | .nili :: _, _, h | .bool _ :: _, _, h => by cases h
theorem argR_ok (hI : I.opq = numOpq) (h : WR I ρ w0 X n0 β0 β s w) {b : Kr} {a : V} {ts : List T} (ha : argR s b a = some ts) : RArg w b (a.den I ρ β) (ts.map (T.den I ρ)) := by
 unfold argR at ha
 split at ha
 ·obtain ⟨t, h1, rfl⟩ := Option.map_eq_some_iff.1 ha
  exact numArg_ok hI h h1
 ·injection ha with ha; subst ha; rfl
 ·obtain ⟨a, g, n, d, rfl, h1⟩ := rootArg_ok hI h ha
  exact h1
 ·rename_i cs
  have e := intCells_ok (I := I) (ρ := ρ) (β := β) ha
  have : V.den I ρ β (.agg cs) = .agg ((ts.map (T.den I ρ)).map (Value.int .i64)).toArray := by simp only [V.den, cellsOf, e]
  rw [this]
  cases ts <;> rfl
 ·cases ha
theorem argsR_ok (hI : I.opq = numOpq) (h : WR I ρ w0 X n0 β0 β s w) : ∀ {bs : List Kr} {args : List V} {ts : List (List T)}, argsR s bs args = some ts → RArgs w bs (args.map (V.den I ρ β)) (ts.map (List.map (T.den I ρ))) := by
 intro bs
 induction bs with
 | nil =>
   intro args ts ha
   cases args with
   | nil => injection ha with ha; subst ha; trivial
   | cons a r => cases ha
 | cons b bs ih =>
   intro args ts ha
   cases args with
   | nil => cases ha
   | cons a r =>
     unfold argsR at ha
     split at ha
     ·rename_i t ts' h1 h2
      injection ha with ha
      subst ha
      exact ⟨argR_ok hI h h1, ih h2⟩
     ·cases ha
theorem plainS_alloc (t : T) (hp : plainS s = true) : plainS (s.alloc opqTy [.int .i64 t]) = true := by
 unfold plainS S.alloc
 simp only [List.all_cons, Bool.and_eq_true, Bool.or_eq_true]
 exact ⟨.inl (Nat.beq_refl _), hp⟩
theorem WR.digits (hI : I.opq = numOpq) (h : WR I ρ w0 X n0 β0 β s w) (hp : plainS s = true) {code : Nat} {t : T} (hv : heldN w (numOpq.dec code) [t.den I ρ]) :
  WR I ρ w0 X n0 β0 (up β s.nb code) (s.alloc opqTy [.int .i64 t]) w := by
 have hd : I.opq.dec code = numOpq.dec code := by rw [hI]
 have hh : heldN w (numOpq.dec code) (numsOf I ρ [.int .i64 t]) := hv
 refine h.addOpq (by simp [C.wf]) (by rw [hd, hI]; exact hh) fun q hq hqo => ?_
 rw [hd, hI]
 intro e
 obtain ⟨-, off, d, hc⟩ := heldN_blk hh e
 obtain ⟨c, hcm, hcd⟩ := (h.row q hq hqo).dig (Blk.live_dead hqo) hc
 have hpl := List.all_eq_true.1 hp q hq
 rw [Blk.live_opq hqo, Bool.false_or] at hpl
 exact noDigit_den (List.all_eq_true.1 hpl c (Blk.row_sub c hcm)) d hcd
theorem WR.addNums (hI : I.opq = numOpq) : ∀ {l : List T} {s : S} {β βc : Nat → Nat}, WR I ρ w0 X n0 β0 β s w → plainS s = true → (∀ j t, l[j]? = some t → heldN w (numOpq.dec (βc j)) [t.den I ρ]) →
  ∃ β', WR I ρ w0 X n0 β0 β' (S.addNums l s) w ∧ (∀ id, id < s.nb → β' id = β id) ∧ ∀ j, j < l.length → β' (j + s.nb) = βc j
 | [], s, β, βc, h, hp, hl => ⟨β, h, fun _ _ => rfl, fun j hj => absurd hj (Nat.not_lt_zero _)⟩
 | t :: r, s, β, βc, h, hp, hl => by
   have h1 := h.digits hI hp (hl 0 t rfl)
   obtain ⟨β', h2, h3, h4⟩ := WR.addNums hI (βc := fun j => βc (j + 1)) h1 (plainS_alloc t hp) (fun j t' h => hl (j + 1) t' (by simpa using h))
   have hnb : (s.alloc opqTy [.int .i64 t]).nb = s.nb + 1 := rfl
   rw [hnb] at h3 h4
   refine ⟨β', h2, fun id hid => (h3 id (by omega)).trans (up_lt id hid), fun j hj => ?_⟩
   cases j with
   | zero => rw [Nat.zero_add, h3 s.nb (by omega), up_self]
   | succ j =>
     have := h4 j (by simpa using hj)
     rw [show j + 1 + s.nb = j + (s.nb + 1) by omega]
     exact this
theorem ctFn_ok (hI : I.opq = numOpq) {l : List FnR} (hl : ∀ e ∈ l, e.Ok P I ρ) : CTOk P I ρ (ctFn l) := by
 intro g args s t h w0 X n0 β0 β w R ht hw ha
 unfold ctFn at h
 split at h
 ·cases h
 ·rename_i e he
  obtain ⟨hm, rfl⟩ := rfFor_mem he
  split at h
  ·cases h
  ·rename_i ts hts
   split at h
   ·cases h
   ·rename_i nums v hval
    cases hb : (v.pure nums.length && needS nums s) with
    | false => rw [hb] at h; cases h
    | true =>
      rw [hb] at h
      simp only [Bool.and_eq_true] at hb
      obtain ⟨hpu, hp⟩ := hb
      simp only [cond_true, natF_eq, V.force_eq, addNumsK_eq, Option.some.injEq] at h
      subst h
      refine (hl e hm s.known ts _ hw.known hval w _ (argsR_ok hI hw hts)).mono fun x w' ⟨hx, hbl⟩ => ?_
      obtain ⟨βc, hc, rfl⟩ := hx
      have key : ∃ β', WR I ρ w0 X n0 β0 β' (S.addNums nums s) w' ∧ (∀ id, id < s.nb → β' id = β id) ∧ ∀ j, j < nums.length → β' (j + s.nb) = βc j := by
       cases nums with
       | nil => exact ⟨β, hw.below hbl, fun _ _ => rfl, fun j hj => absurd hj (Nat.not_lt_zero _)⟩
       | cons t r => exact WR.addNums hI (hw.below hbl) hp hc
      obtain ⟨β', h1, h2, h3⟩ := key
      have hnb := addNums_nb nums s
      have := ht β' w' h1 (by rw [hnb]; exact V.wf_shift hpu) (by rw [hnb]; omega) h2
      rw [V.den_shift hpu h3] at this
      exact this
end
def canonC (s : S) : Nat → List C → Option (List C × List T)
 | _, [] => some ([], [])
 | k, .opq id :: r => match s.findOpq id, canonC s (k + 1) r with
   | some [.int _ t], some (cs, ts) => some (.opq k :: cs, t :: ts)
   | _, _ => none
 | k, c :: r => bif c.pure 0 then (match canonC s k r with
   | some (cs, ts) => some (c :: cs, ts)
   | none => none) else none
def canonP (s : S) : Nat → List (Bool × List C) → Option (List (Bool × List C) × List T)
 | _, [] => some ([], [])
 | k, (b, cs) :: r => match canonC s k cs with
   | some (cs', ts) => match canonP s (k + ts.length) r with
     | some (r', ts') => some ((b, cs') :: r', ts ++ ts')
     | none => none
   | none => none
def canonV (s : S) : V → Option RT
 | .c c => match canonC s 0 [c] with
   | some ([c], ts) => some ⟨ts, .c c⟩
   | _ => none
 | .agg cs => match canonC s 0 cs with
   | some (cs, ts) => some ⟨ts, .agg cs⟩
   | none => none
 | .tup vs => match canonP s 0 vs with
   | some (vs, ts) => some ⟨ts, .tup vs⟩
   | none => none
 | .any _ => none
section
variable {I : Interp} {ρ : Env} {w0 w : World} {X : Nat → Prop} {n0 : Nat} {β0 β : Nat → Nat} {s : S}
theorem C.den_pure0 {c : C} (h : c.pure 0 = true) (β β' : Nat → Nat) : c.den I ρ β' = c.den I ρ β := by
 cases c <;> simp only [C.pure, Bool.false_eq_true, Nat.blt_eq] at h <;> first | rfl | omega
theorem canonC_other {k : Nat} {c : C} {r : List C} (h : ∀ id, c ≠ .opq id) : canonC s k (c :: r) = (bif c.pure 0 then (match canonC s k r with
  | some (cs, ts) => some (c :: cs, ts)
  | none => none) else none) := by
 cases c <;> first | rfl | exact absurd rfl (h _)
theorem canonC_ok (hI : I.opq = numOpq) (h : WR I ρ w0 X n0 β0 β s w) : ∀ {cs : List C} {k : Nat} {cs' : List C} {ts : List T}, canonC s k cs = some (cs', ts) →
  ∃ codes : List Nat, codes.length = ts.length ∧ (∀ (j : Nat) (t : T), ts[j]? = some t → heldN w (numOpq.dec (codes.getD j 0)) [t.den I ρ]) ∧ cs'.length = cs.length ∧ ∀ βc : Nat → Nat, (∀ j, j < codes.length → βc (j + k) = codes.getD j 0) → cs'.map (C.den I ρ βc) = cs.map (C.den I ρ β)
 | [], k, cs', ts, hh => by
   injection hh with hh
   injection hh with h1 h2
   subst h1 h2
   exact ⟨[], rfl, fun j t h => by simp at h, rfl, fun _ _ => rfl⟩
 | c :: r, k, cs', ts, hh => by
   by_cases ho : ∃ id, c = .opq id
   ·obtain ⟨id, rfl⟩ := ho
    simp only [canonC] at hh
    split at hh
    ·rename_i kk t cs1 ts1 h1 h2
     injection hh with hh
     injection hh with g1 g2
     subst g1 g2
     obtain ⟨codes, i1, i2, i3, i4⟩ := canonC_ok hI h h2
     refine ⟨β id :: codes, by simp [i1], fun j t' hj => ?_, by simp [i3], fun βc hc => ?_⟩
     ·cases j with
      | zero =>
        simp only [List.getElem?_cons_zero, Option.some.injEq] at hj
        subst hj
        obtain ⟨b, hb, hbo, hcs⟩ := findOpq_mem h1
        have := (h.held _ hb hbo).1
        rw [hcs, hI] at this
        exact this
      | succ j => exact i2 j t' (by simpa using hj)
     ·have h0 := hc 0 (by simp)
      have := i4 βc (fun j hj => by have := hc (j + 1) (by simpa using hj); rw [show j + (k + 1) = j + 1 + k by omega]; exact this)
      simp only [List.map_cons, this]
      congr 1
      simp only [C.den]
      rw [show βc k = β id by simpa using h0, hI]
    ·cases hh
   ·rw [canonC_other (fun id e => ho ⟨id, e⟩)] at hh
    cases hp : c.pure 0 with
    | false => rw [hp] at hh; cases hh
    | true =>
      rw [hp] at hh
      simp only [cond_true] at hh
      split at hh
      ·rename_i cs1 ts1 h2
       injection hh with hh
       injection hh with g1 g2
       subst g1 g2
       obtain ⟨codes, i1, i2, i3, i4⟩ := canonC_ok hI h h2
       exact ⟨codes, i1, i2, by simp [i3], fun βc hc => by simp only [List.map_cons, i4 βc hc, C.den_pure0 hp β βc]⟩
      ·cases hh
theorem partOf_map {b : Bool} {cs cs' : List C} {β' : Nat → Nat} (hl : cs'.length = cs.length) (h : cs'.map (C.den I ρ β') = cs.map (C.den I ρ β)) : partOf I ρ β' (b, cs') = partOf I ρ β (b, cs) := by
 have e : cellsOf I ρ β' cs' = cellsOf I ρ β cs := by unfold cellsOf; rw [h]
 cases b with
 | true => simp only [partOf, e]
 | false =>
   cases cs with
   | nil => cases cs' with
     | nil => rfl
     | cons _ _ => cases hl
   | cons c r => cases cs' with
     | nil => cases hl
     | cons c' r' =>
       simp only [List.map_cons, List.cons.injEq] at h
       exact h.1
theorem canonP_ok (hI : I.opq = numOpq) (h : WR I ρ w0 X n0 β0 β s w) : ∀ {vs : List (Bool × List C)} {k : Nat} {vs' : List (Bool × List C)} {ts : List T}, canonP s k vs = some (vs', ts) →
  ∃ codes : List Nat, codes.length = ts.length ∧ (∀ (j : Nat) (t : T), ts[j]? = some t → heldN w (numOpq.dec (codes.getD j 0)) [t.den I ρ]) ∧ ∀ βc : Nat → Nat, (∀ j, j < codes.length → βc (j + k) = codes.getD j 0) → vs'.map (partOf I ρ βc) = vs.map (partOf I ρ β)
 | [], k, vs', ts, hh => by
   injection hh with hh
   injection hh with h1 h2
   subst h1 h2
   exact ⟨[], rfl, fun j t h => by simp at h, fun _ _ => rfl⟩
 | (b, cs) :: r, k, vs', ts, hh => by
   unfold canonP at hh
   split at hh
   ·rename_i cs' ts1 h1
    split at hh
    ·rename_i r' ts2 h2
     injection hh with hh
     injection hh with g1 g2
     subst g1 g2
     obtain ⟨c1, i1, i2, i3, i4⟩ := canonC_ok hI h h1
     obtain ⟨c2, j1, j2, j4⟩ := canonP_ok hI h h2
     refine ⟨c1 ++ c2, by simp [i1, j1], fun j t hj => ?_, fun βc hc => ?_⟩
     ·by_cases hlt : j < ts1.length
      ·rw [List.getElem?_append_left hlt] at hj
       have := i2 j t hj
       rw [List.getD_eq_getElem?_getD, List.getElem?_append_left (by omega), ← List.getD_eq_getElem?_getD]
       exact this
      ·rw [List.getElem?_append_right (by omega)] at hj
       have := j2 _ t hj
       rw [List.getD_eq_getElem?_getD, List.getElem?_append_right (by omega), ← List.getD_eq_getElem?_getD, i1]
       exact this
     ·have e1 := i4 βc (fun j hj => by
       rw [hc j (by rw [List.length_append]; omega), List.getD_eq_getElem?_getD, List.getElem?_append_left hj, ← List.getD_eq_getElem?_getD])
      have e2 := j4 βc (fun j hj => by
       have := hc (j + c1.length) (by rw [List.length_append]; omega)
       rw [show j + (k + ts1.length) = j + c1.length + k by omega, this, List.getD_eq_getElem?_getD, List.getElem?_append_right (by omega), Nat.add_sub_cancel, ← List.getD_eq_getElem?_getD])
      simp only [List.map_cons, e2, partOf_map i3 e1]
    ·cases hh
   ·cases hh
theorem canonV_ok (hI : I.opq = numOpq) (h : WR I ρ w0 X n0 β0 β s w) {v : V} {r : RT} (hr : canonV s v = some r) : r.Gives I ρ (.returned (v.den I ρ β)) w := by
 unfold canonV at hr
 split at hr
 ·rename_i c
  split at hr
  ·rename_i c' ts hc
   injection hr with hr
   subst hr
   obtain ⟨codes, i1, i2, i3, i4⟩ := canonC_ok hI h hc
   refine ⟨fun j => codes.getD j 0, i2, ?_⟩
   have := i4 (fun j => codes.getD j 0) (fun j hj => rfl)
   simp only [List.map_cons, List.map_nil, List.cons.injEq, and_true] at this
   simp only [V.den, this]
  ·cases hr
 ·rename_i cs
  split at hr
  ·rename_i cs' ts hc
   injection hr with hr
   subst hr
   obtain ⟨codes, i1, i2, i3, i4⟩ := canonC_ok hI h hc
   refine ⟨fun j => codes.getD j 0, i2, ?_⟩
   have := i4 (fun j => codes.getD j 0) (fun j hj => rfl)
   simp only [V.den, cellsOf, this]
  ·cases hr
 ·rename_i vs
  split at hr
  ·rename_i vs' ts hc
   injection hr with hr
   subst hr
   obtain ⟨codes, i1, i2, i4⟩ := canonP_ok hI h hc
   refine ⟨fun j => codes.getD j 0, i2, ?_⟩
   have := i4 (fun j => codes.getD j 0) (fun j hj => rfl)
   simp only [V.den, this]
  ·cases hr
 ·cases hr
end
def tsF {α : Type} : List T → (List T → α) → α
 | [], k => k []
 | t :: r, k => t.force fun t => tsF r fun r => k (t :: r)
theorem tsF_eq {α : Type} (l : List T) : ∀ k : List T → α, tsF l k = k l := by
 induction l with
 | nil => intro k; rfl
 | cons t r ih => intro k; simp [tsF, T.force_eq, ih]
def RT.force {α : Type} (r : RT) (k : RT → α) : α := match r with
 | ⟨n, v⟩ => tsF n fun n => v.force fun v => k ⟨n, v⟩
theorem RT.force_eq {α : Type} (r : RT) (k : RT → α) : r.force k = k r := by cases r; simp [RT.force, tsF_eq, V.force_eq]
def resR (t : Tree (V × S)) : Tree RT := t.bind fun p => match canonV p.2 p.1 with
 | some r => r.force fun r => .leaf r
 | none => .bad
theorem resR_vc {I : Interp} {ρ : Env} {t : Tree (V × S)} {Φ : RT → Prop} (h : (resR t).vc I ρ Φ) : t.vc I ρ (fun p => ∃ r, canonV p.2 p.1 = some r ∧ Φ r) := by
 unfold resR at h
 rw [Tree.vc_bind] at h
 refine Tree.vc_mono (fun p hp => ?_) h
 split at hp
 ·rename_i t ht
  rw [RT.force_eq] at hp
  exact ⟨t, ht, hp⟩
 ·exact hp.elim
theorem calls_numR {P : Program} {I : Interp} {ρ : Env} (hm : P.follows .mixedOrders = true) (hN : NoCount P) (hI : I.opq = numOpq) {ct : CT} (hct : CTOk P I ρ ct) {n : Nat} {g : FuncId} {args : List V} {m : Nat} {k : Known} {sl : List Value} {vs : Array Value} {w : World} {G : Ending → World → Prop} {L : Tree RT}
  (hh : Hyp I w fun _ => False) (hk : k.Ok I ρ) (hsl : sl.length = m) (hu : ∀ i v, sl[i]? = some v → U32s w.heap.size w v (digs (ρ.i i).natAbs) ∧ (ρ.i i).natAbs < B32 ^ 64)
  (hwf : (args.all (V.wf m)) = true) (hvs : ∀ β : Nat → Nat, (∀ i v, sl[i]? = some v → I.opq.dec (β i) = v) → (args.map (V.den I ρ β)).toArray = vs)
  (hL : resR (execF P ct n g args (startN m k)) = L) (hv : L.vc I ρ (fun r => ∀ x w', r.Gives I ρ x w' → G x w')) :
  Calls P g vs w (fun x w' => G x w' ∧ Below w.heap.size w w') := by
 rw [← hL] at hv
 refine calls_num hm hN hI hct hh hk hsl hu hwf hvs (Tree.vc_mono ?_ (resR_vc hv))
 rintro ⟨v, s⟩ ⟨r, h1, h2⟩ w0 X n0 β0 β' w' hw' hb
 exact ⟨h2 _ _ (canonV_ok hI hw' h1), hb⟩
def rootC (a g n d : T) (i : Nat) : List C := [.int .i64 a, .int .i64 g, .bool (.lt n (.lit 0)), .opq i, .bool (.lt d (.lit 0)), .opq (i + 1)]
theorem znum_of {I : Interp} {ρ : Env} {w : World} {code : Nat} {t : T} (h : heldN w (numOpq.dec code) [t.den I ρ]) : ZNum w.heap.size w (.agg #[.bool (decide (t.den I ρ < 0)), numOpq.dec code]) (t.den I ρ) := by
 obtain ⟨z, e, hz, hu⟩ := h
 have e : t.den I ρ = z := by injection e
 rw [e]
 exact ⟨⟨_, rfl, hu⟩, hz⟩
theorem held_of {w : World} {v0 v1 : Value} {z : Int} (h : ZNum w.heap.size w (.agg #[v0, v1]) z) : v0 = .bool (decide (z < 0)) ∧ ∃ code, numOpq.dec code = v1 ∧ heldN w (numOpq.dec code) [z] := by
 obtain ⟨⟨s, e, hu⟩, hz⟩ := h
 injection e with e
 have e := congrArg (fun a => a.toList) e
 simp only [List.cons.injEq, and_true] at e
 obtain ⟨p, cap, rfl, hl, hc⟩ := hu
 obtain ⟨code, hcode⟩ := decS_ex p (digs z.natAbs).length cap
 refine ⟨e.1, code, ?_, z, rfl, hz, ?_⟩
 ·rw [e.2]; exact hcode
 ·rw [show numOpq.dec code = _ from hcode]; exact ⟨p, cap, rfl, hl, hc⟩
end Go.Proofs.YtgnogdncoljldaaGreat.Sx

