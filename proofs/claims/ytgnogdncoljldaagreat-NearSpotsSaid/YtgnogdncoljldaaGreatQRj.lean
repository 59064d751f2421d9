import Derived.Test.YtgnogdncoljldaaGreatQBC
import Derived.Test.YtgnogdncoljldaaGreatQMc
import Derived.Test.YtgnogdncoljldaaGreatQEd7
import Derived.Test.YtgnogdncoljldaaGreatQRi
set_option linter.all false
set_option autoImplicit false
namespace Go.Proofs.YtgnogdncoljldaaGreat.Sx
open Go Go.RowKit
section
variable {I : Interp} {ρ : Env} {w0 w w' : World} {X : Nat → Prop} {n0 : Nat} {β0 β : Nat → Nat} {s : S}
theorem WR.upd (h : WR I ρ w0 X n0 β0 β s w) {id : Nat} {b : Blk} (hb : (id, b) ∈ s.blks) (hbo : b.live = true) (hco : opn b.ty = false) {cs : List C} (hwf : ∀ c ∈ cs, c.wf s.nb = true) (hu : Upd (β id) (cellsOf I ρ β cs) b.ty w w') :
  WR I ρ w0 X n0 β0 β (s.put id cs) w' := by
 refine (h.put hb hbo hco hwf).alike ?_ hu.os hu.tape hu.output
 apply Array.ext'
 apply List.ext_getElem?
 intro k
 simp only [Array.getElem?_toList]
 by_cases hk : k = β id
 ·subst hk
  rw [hu.row, setRow_heap w (β id) _ _ b.ty (0, 0) ((RowP.closed hco).1 (h.row _ hb hbo))]
 ·rw [hu.other k hk, setRow_other w (β id) k _ hk]
end
def ctE : CT := fun g args s => match args with
 | [.agg [.int .i64 k, .int .i64 ax, .int .i64 ay, .int .i64 bx, .int .i64 by', .int .i64 cx, .int .i64 cy]] =>
   bif Nat.beq g 41 || Nat.beq g 46 then some (.leaf (.c (.int .i64 (.app 4 (tlM [k, ax, ay, bx, by', cx, cy]))), s)) else
   bif Nat.beq g 33 then some (.leaf (.c (.int .i64 (.app 5 (tlM [k, ax, ay, bx, by', cx, cy]))), s)) else none
 | _ => none
def placeOf (j : Nat) : T → Option Nat
 | .lit (.ofNat 0) => some 0
 | .app f (.cons (.lit (.ofNat k)) .nil) => bif Nat.beq f (2 * j + 1) then some k else none
 | _ => none
def ctN : CT := fun g args s => bif Nat.beq g 37 then match args with
 | [.c (.ptr id 0), .c (.int .i64 (.lit n))] => match s.find id with
   | some ⟨ty, [.abs j .nil, .int .i64 a]⟩ => bif Nat.beq ty 80 && (Nat.blt j 2 && (intLt 0 n && intLt n 1000000)) then
     match placeOf j a with
     | some k => natF j fun j => natF k fun k => some (s.putK id [.abs j .nil, .int .i64 (.app (2 * j + 1) (tlM [.lit (.ofNat (k + 1))]))] fun s' => .leaf (.c (.int .i64 (.app (2 * j) (tlM [.lit (.ofNat k), .lit n]))), s'))
     | none => none
    else none
   | _ => none
 | _ => none
 else none
def ctA : CT := fun g args s => bif Nat.beq g 67 || Nat.beq g 28 then match args with
 | [.agg [.int .i64 x, .int .i64 y, .int .i64 t, .bool m], .agg [.int .i64 a, .int .i64 b]] => some (withB m s fun v s => match v with
   | true => .leaf (.agg [.int .i64 (.app 7 (tlM [x, t, a, b])), .int .i64 (.app 8 (tlM [y, t, a, b]))], s)
   | false => .leaf (.agg [.int .i64 (.app 9 (tlM [x, t, a, b])), .int .i64 (.app 10 (tlM [y, t, a, b]))], s))
 | _ => none
 else none
structure Ls where
 p : Option Addr
 cap : Nat
 zs : List Int
def Ls.v (l : Ls) : Value := .slice l.p l.zs.length l.cap
def Ls.Ok (l : Ls) (W : World) : Prop := I64s W.heap.size W l.v l.zs
theorem Ls.spec {l : Ls} {W : World} (h : l.Ok W) : l.zs.length ≤ maxLen ∧ (0 < l.zs.length → ∃ b off, l.p = some ⟨b, off, none⟩ ∧ b < W.heap.size ∧ ∀ j, j < l.zs.length → W.cell? ⟨b, off + j, none⟩ = some (.int .i64 (l.zs[j]?.getD 0))) := by
 obtain ⟨p, cap, e, h1, h2⟩ := h
 unfold Ls.v at e
 injection e with e1 e2 e3
 subst e1
 exact ⟨h1, h2⟩
def oneL (l0 l1 : Ls) (j : Nat) : Ls := match j with | 0 => l0 | _ => l1
def fiL (l0 l1 : Ls) (f : Nat) (a : List Int) : Int := match f, a with
 | 0, [k, n] => drawV l0.zs k.toNat n
 | 1, [k] => drawA l0.zs k.toNat
 | 2, [k, n] => drawV l1.zs k.toNat n
 | 3, [k] => drawA l1.zs k.toNat
 | 4, [k, ax, ay, bx, by', cx, cy] => checkZ k ax ay bx by' cx cy
 | 5, [k, ax, ay, bx, by', cx, cy] => radiusZ k ax ay bx by' cx cy
 | 12, [k, ax, ay, bx, by', cx, cy, k2, px, py, qx, qy, rx, ry] => countZ k ax ay bx by' cx cy k2 px py qx qy rx ry
 | 30, [s, n] => if n = 0 then 0 else s
 | 31, [n, d] => n.tdiv (gz n d)
 | 32, [n, d] => d.tdiv (gz n d)
 | 33, [a, s, n, d, b, t, m, e] => RM.cmpZ a s n d b t m e
 | 900, [a, b] => gz a b
 | 901, [a, b, c] => RM.sideZ a b c
 | 999, l => numOpq.len l
 | 40, [k, ax, ay, bx, by', cx, cy, px, py] => (ptZ k ax ay bx by' cx cy px py).a
 | 41, [k, ax, ay, bx, by', cx, cy, px, py] => (ptZ k ax ay bx by' cx cy px py).s
 | 42, [k, ax, ay, bx, by', cx, cy, px, py] => (ptZ k ax ay bx by' cx cy px py).n
 | 43, [k, ax, ay, bx, by', cx, cy, px, py] => (ptZ k ax ay bx by' cx cy px py).d
 | 44, [k, ax, ay, bx, by', cx, cy, px, py] => (ptZ k ax ay bx by' cx cy px py).x
 | 45, [k, ax, ay, bx, by', cx, cy, px, py] => (ptZ k ax ay bx by' cx cy px py).y
 | 46, [k, ax, ay, bx, by', cx, cy, px, py] => (ptZ k ax ay bx by' cx cy px py).u
 | 47, [k, ax, ay, bx, by', cx, cy, px, py] => (ptZ k ax ay bx by' cx cy px py).v
 | 48, [k, ax, ay, bx, by', cx, cy, px, py] => (ptZ k ax ay bx by' cx cy px py).p
 | 49, [k, ax, ay, bx, by', cx, cy, px, py] => (ptZ k ax ay bx by' cx cy px py).q
 | 50, [k, ax, ay, bx, by', cx, cy, px, py] => (ptZ k ax ay bx by' cx cy px py).l
 | 7, [x, t, a, b] => apX x t true a b
 | 8, [y, t, a, b] => apY y t true a b
 | 9, [x, t, a, b] => apX x t false a b
 | 10, [y, t, a, b] => apY y t false a b
 | _, _ => 0
def fbL (f : Nat) (a : List Int) : Bool := match f, a with
 | 5, [a, s, n, d] => rtB a s n d
 | 6, [x, y] => decide (rightP x y)
 | 0, [k, ax, ay, bx, by', cx, cy, px, py] => decide (onP k ax ay bx by' cx cy px py)
 | _, _ => false
def IL (W : World) (l0 l1 : Ls) : Interp := ⟨fiL l0 l1, fbL, fun f _ => (oneL l0 l1 f).v, fixedOf W, numOpq, fun _ => rfl, fun f l => by unfold oneL Ls.v; exact ⟨(fun _ h => nomatch h), (fun _ h => nomatch h)⟩⟩
section
variable {W : World} {l0 l1 : Ls}
theorem ctE_ok (ρ : Env) : CTOk Tryz.prog (IL W l0 l1) ρ ctE := by
 intro g args s t h w0 X n0 β0 β w R ht hw ha
 unfold ctE at h
 split at h
 ·rename_i k ax ay bx by' cx cy
  cases h1 : (Nat.beq g 41 || Nat.beq g 46) with
  | true =>
    rw [h1] at h
    injection h with h
    subst h
    simp only [Bool.or_eq_true] at h1
    refine ct_leaf1 ?_ rfl ht hw
    rcases h1 with h1 | h1 <;> (have := Nat.eq_of_beq_eq_true h1; subst this)
    ·exact vcheck_c _ _ _ _ _ _ _ w
    ·exact rcheck_c _ _ _ _ _ _ _ w
  | false =>
    rw [h1] at h
    simp only [cond_false] at h
    cases h2 : Nat.beq g 33 with
    | true =>
      rw [h2] at h
      injection h with h
      subst h
      have := Nat.eq_of_beq_eq_true h2
      subst this
      refine ct_leaf1 ?_ rfl ht hw
      exact vrad_c _ _ _ _ _ _ _ w
    | false => rw [h2] at h; cases h
 ·cases h
theorem ctA_ok (ρ : Env) : CTOk Tryz.prog (IL W l0 l1) ρ ctA := by
 intro g args s t h w0 X n0 β0 β w R ht hw ha
 unfold ctA at h
 cases h1 : (Nat.beq g 67 || Nat.beq g 28) with
 | false => rw [h1] at h; cases h
 | true =>
   rw [h1] at h
   simp only [cond_true] at h
   split at h
   ·rename_i x y t m a b
    injection h with h
    subst h
    obtain ⟨s', hw', hnb, hbl, ht⟩ := withB_ok hw ht
    have hc : ∀ w, Calls Tryz.prog g #[.agg #[.int .i64 (x.den (IL W l0 l1) ρ), .int .i64 (y.den (IL W l0 l1) ρ), .int .i64 (t.den (IL W l0 l1) ρ), .bool (m.den (IL W l0 l1) ρ)], .agg #[.int .i64 (a.den (IL W l0 l1) ρ), .int .i64 (b.den (IL W l0 l1) ρ)]] w
      (fun e w' => e = .returned (.agg #[.int .i64 (apX (x.den (IL W l0 l1) ρ) (t.den (IL W l0 l1) ρ) (m.den (IL W l0 l1) ρ) (a.den (IL W l0 l1) ρ) (b.den (IL W l0 l1) ρ)), .int .i64 (apY (y.den (IL W l0 l1) ρ) (t.den (IL W l0 l1) ρ) (m.den (IL W l0 l1) ρ) (a.den (IL W l0 l1) ρ) (b.den (IL W l0 l1) ρ))]) ∧ Below w.heap.size w w') := by
     intro w
     simp only [Bool.or_eq_true] at h1
     rcases h1 with h1 | h1 <;> (have := Nat.eq_of_beq_eq_true h1; subst this)
     ·exact vapply_c _ _ _ _ _ _ w
     ·exact rapply_c _ _ _ _ _ _ w
    refine (hc w).mono fun e w' ⟨he, hb⟩ => ?_
    subst he
    have hw2 := hw'.below hb
    cases hm : m.den (IL W l0 l1) ρ with
    | true =>
      rw [hm] at ht
      exact ht β w' hw2 rfl (by show s.nb ≤ s'.nb; omega) (fun _ _ => rfl)
    | false =>
      rw [hm] at ht
      exact ht β w' hw2 rfl (by show s.nb ≤ s'.nb; omega) (fun _ _ => rfl)
   ·cases h
theorem placeOf_spec {ρ : Env} {j : Nat} (hj : j < 2) {a : T} {k : Nat} (h : placeOf j a = some k) : a.den (IL W l0 l1) ρ = drawA (oneL l0 l1 j).zs k := by
 unfold placeOf at h
 split at h
 ·injection h with h; subst h; simp [T.den_lit, drawA]
 ·rename_i f k'
  cases hb : Nat.beq f (2 * j + 1) with
  | false => rw [hb] at h; cases h
  | true =>
    rw [hb] at h
    injection h with h
    subst h
    have := Nat.eq_of_beq_eq_true hb
    subst this
    rw [T.den_app, T.dens_cons, T.dens_nil, T.den_lit]
    obtain rfl | rfl : j = 0 ∨ j = 1 := by omega
    ·rfl
    ·rfl
 ·cases h
theorem ctN_ok (h0 : l0.Ok W) (h1 : l1.Ok W) (ρ : Env) : CTOk Tryz.prog (IL W l0 l1) ρ ctN := by
 intro g args s t h w0 X n0 β0 β w R ht hw ha
 unfold ctN at h
 cases hg : Nat.beq g 37 with
 | false => rw [hg] at h; cases h
 | true =>
   have := Nat.eq_of_beq_eq_true hg
   subst this
   rw [hg] at h
   simp only [cond_true] at h
   split at h
   ·rename_i id n
    split at h
    ·rename_i ty j a hf
     cases hc : (Nat.beq ty 80 && (Nat.blt j 2 && (intLt 0 n && intLt n 1000000))) with
     | false => rw [hc] at h; cases h
     | true =>
       rw [hc] at h
       simp only [cond_true] at h
       simp only [Bool.and_eq_true, Nat.blt_eq, intLt_eq, decide_eq_true_eq] at hc
       obtain ⟨hty, hj, hn1, hn2⟩ := hc
       have := Nat.eq_of_beq_eq_true hty
       subst this
       split at h
       ·rename_i k hk
        simp only [natF_eq, Option.some.injEq] at h
        subst h
        rw [S.putK_eq] at ht
        obtain ⟨hb, hbo⟩ := find_mem hf
        have hrow := (RowP.closed rfl).1 (hw.row _ hb hbo)
        have hok : (oneL l0 l1 j).Ok W := by
         obtain rfl | rfl : j = 0 ∨ j = 1 := by omega
         ·exact h0
         ·exact h1
        obtain ⟨q1, q2⟩ := Ls.spec hok
        have hcell : cellsOf (IL W l0 l1) ρ β [.abs j .nil, .int .i64 a] = #[(oneL l0 l1 j).v, .int .i64 (drawA (oneL l0 l1 j).zs k)] := by
         simp only [cellsOf, List.map_cons, List.map_nil, C.den, placeOf_spec hj hk]
         rfl
        have hcell2 : cellsOf (IL W l0 l1) ρ β [.abs j .nil, .int .i64 (.app (2 * j + 1) (tlM [.lit (.ofNat (k + 1))]))] = #[(oneL l0 l1 j).v, .int .i64 (drawA (oneL l0 l1 j).zs (k + 1))] := by
         simp only [cellsOf, List.map_cons, List.map_nil, C.den, tlM, T.den_app, T.dens_cons, T.dens_nil, T.den_lit]
         obtain rfl | rfl : j = 0 ∨ j = 1 := by omega
         ·rfl
         ·rfl
        have hval : (T.app (2 * j) (tlM [.lit (.ofNat k), .lit n])).den (IL W l0 l1) ρ = drawV (oneL l0 l1 j).zs k n := by
         simp only [tlM, T.den_app, T.dens_cons, T.dens_nil, T.den_lit]
         obtain rfl | rfl : j = 0 ∨ j = 1 := by omega
         ·rfl
         ·rfl
        rw [hcell] at hrow
        have hcall := next_c (oneL l0 l1 j).p (oneL l0 l1 j).zs k (oneL l0 l1 j).cap (β id) n w q1 hn1 (by omega) (fun hz => by
         obtain ⟨b, off, e, hb1, hb2⟩ := q2 hz
         obtain ⟨o, ho⟩ : ∃ o, W.heap[b]? = some o := ⟨_, Array.getElem?_eq_getElem hb1⟩
         obtain ⟨e1, e2⟩ := hw.hyp (b, o) (mem_fixed.2 ho)
         have hlt := (Array.getElem?_eq_some_iff.1 e1).1
         have e3 : w.heap[b]? = W.heap[b]? := (hw.keeps.block b hlt e2).trans (e1.trans ho.symm)
         refine ⟨b, off, e, fun eb => ?_, fun i hi => (World.cell?_of_block (a := ⟨b, off + i, none⟩) e3).trans (hb2 i hi)⟩
         rcases hw.own _ hb hbo with x | x
         ·exact e2 (by rw [eb]; exact x)
         ·simp only at x hlt; omega) hrow
        refine hcall.mono fun e w' ⟨he, hu⟩ => ?_
        subst he
        have hu : Upd (β id) (cellsOf (IL W l0 l1) ρ β [.abs j .nil, .int .i64 (.app (2 * j + 1) (tlM [.lit (.ofNat (k + 1))]))]) TD w w' := by rw [hcell2]; exact hu
        have hwf : ∀ c ∈ [C.abs j .nil, .int .i64 (.app (2 * j + 1) (tlM [.lit (.ofNat (k + 1))]))], c.wf s.nb = true := by
         intro c hc
         simp only [List.mem_cons, List.not_mem_nil, or_false] at hc
         rcases hc with rfl | rfl <;> rfl
        have := ht β w' (hw.upd hb hbo rfl hwf hu) rfl (Nat.le_refl _) (fun _ _ => rfl)
        simp only [V.den, C.den, hval] at this
        exact this
       ·cases h
    ·cases h
   ·cases h
def l9 (a b c d e f g p q : T) : T := .cons a (.cons b (.cons c (.cons d (.cons e (.cons f (.cons g (.cons p (.cons q .nil))))))))
def ptI (z : Pt) : Nat → Int
 | 40 => z.a
 | 41 => z.s
 | 42 => z.n
 | 43 => z.d
 | 44 => z.x
 | 45 => z.y
 | 46 => z.u
 | 47 => z.v
 | 48 => z.p
 | 49 => z.q
 | 50 => z.l
 | _ => 0
def ptT (i : Nat) (a b c d e f g p q : T) : T := match a, b, c, d, e, f, g, p, q with
 | .lit a, .lit b, .lit c, .lit d, .lit e, .lit f, .lit g, .lit p, .lit q => .lit (ptI (ptZ a b c d e f g p q) i)
 | a, b, c, d, e, f, g, p, q => .app i (l9 a b c d e f g p q)
def fnPt (g : FuncId) : FnR := ⟨g, [.ints, .ints], fun _ ts => match ts with
 | [[a, b, c, d, e, f, h], [p, q]] => some ⟨[ptT 42 a b c d e f h p q, ptT 43 a b c d e f h p q], .tup [(true, rootC (ptT 40 a b c d e f h p q) (ptT 41 a b c d e f h p q) (ptT 42 a b c d e f h p q) (ptT 43 a b c d e f h p q) 0),
     (true, [.int .i64 (ptT 44 a b c d e f h p q), .int .i64 (ptT 45 a b c d e f h p q), .int .i64 (ptT 46 a b c d e f h p q), .int .i64 (ptT 47 a b c d e f h p q), .int .i64 (ptT 48 a b c d e f h p q), .int .i64 (ptT 49 a b c d e f h p q), .int .i64 (ptT 50 a b c d e f h p q)])]⟩
 | _ => none⟩
theorem il_root (W : World) (l0 l1 : Ls) : RootI (IL W l0 l1) := ⟨rfl, fun _ _ => rfl, fun _ _ _ => rfl, fun _ _ => rfl, fun _ _ => rfl, fun _ _ => rfl, fun _ _ _ _ _ _ _ _ => rfl, fun _ _ _ _ h => rtB_ok h⟩
theorem ptT_den {ρ : Env} (i : Nat) (hi : 40 ≤ i ∧ i ≤ 50) (a b c d e f g p q : T) : (ptT i a b c d e f g p q).den (IL W l0 l1) ρ = ptI (ptZ (a.den (IL W l0 l1) ρ) (b.den (IL W l0 l1) ρ) (c.den (IL W l0 l1) ρ) (d.den (IL W l0 l1) ρ) (e.den (IL W l0 l1) ρ) (f.den (IL W l0 l1) ρ) (g.den (IL W l0 l1) ρ) (p.den (IL W l0 l1) ρ) (q.den (IL W l0 l1) ρ)) i := by
 unfold ptT
 split
 ·rfl
 ·obtain rfl | rfl | rfl | rfl | rfl | rfl | rfl | rfl | rfl | rfl | rfl : i = 40 ∨ i = 41 ∨ i = 42 ∨ i = 43 ∨ i = 44 ∨ i = 45 ∨ i = 46 ∨ i = 47 ∨ i = 48 ∨ i = 49 ∨ i = 50 := by omega
  all_goals rfl
theorem fnPt_ok {ρ : Env} {g : FuncId} (hc : ∀ (k ax ay bx by' cx cy px py : Int) (w : World), Calls Tryz.prog g #[.agg #[.int .i64 k, .int .i64 ax, .int .i64 ay, .int .i64 bx, .int .i64 by', .int .i64 cx, .int .i64 cy], .agg #[.int .i64 px, .int .i64 py]] w
  (fun e w' => PtV (ptZ k ax ay bx by' cx cy px py) e w' ∧ Below w.heap.size w w')) : (fnPt g).Ok Tryz.prog (IL W l0 l1) ρ := by
 intro k ts r hk hv w vs ha
 unfold fnPt at hv
 simp only at hv
 split at hv
 ·rename_i a b c d e f h p q
  injection hv with hv
  subst hv
  obtain ⟨v1, r1, z1, y1, rfl, e1, k1, ha⟩ := RArgs.cons ha
  obtain ⟨v2, r2, z2, y2, rfl, e2, k2, ha⟩ := RArgs.cons ha
  obtain ⟨rfl, rfl⟩ := RArgs.nil ha
  injection e1 with e1 e1'
  subst e1'
  injection e2 with e2 e2'
  subst e1 e2
  have k1 := k1.ints
  have k2 := k2.ints
  subst k1 k2
  refine (hc _ _ _ _ _ _ _ _ _ w).mono ?_
  rintro x w' ⟨⟨v, rfl, hr⟩, hb⟩
  have dd := fun i hi => ptT_den (W := W) (l0 := l0) (l1 := l1) (ρ := ρ) i hi a b c d e f h p q
  obtain ⟨β, h1, h2⟩ := gives_root (il_root W l0 l1) (ρ := ρ) (a := ptT 40 a b c d e f h p q) (s := ptT 41 a b c d e f h p q) (n := ptT 42 a b c d e f h p q) (d := ptT 43 a b c d e f h p q)
   (hr.cast (dd 40 (by decide)).symm (dd 41 (by decide)).symm (dd 42 (by decide)).symm (dd 43 (by decide)).symm)
  refine ⟨⟨β, h1, ?_⟩, hb⟩
  rw [h2]
  simp only [V.den, List.map_cons, List.map_nil, partOf, cellsOf, C.den, dd 44 (by decide), dd 45 (by decide), dd 46 (by decide), dd 47 (by decide), dd 48 (by decide), dd 49 (by decide), dd 50 (by decide)]
  rfl
 ·cases hv
def ctPn : CT := ctFn [fnPt 13, fnPt 14, fnE 40 5, fnP 42 6, fnP 45 6]
theorem ctPn_ok (ρ : Env) : CTOk Tryz.prog (IL W l0 l1) ρ ctPn := by
 refine ctFn_ok rfl fun e he => ?_
 simp only [List.mem_cons, List.not_mem_nil, or_false] at he
 rcases he with rfl | rfl | rfl | rfl | rfl
 ·exact fnPt_ok vpoint_c
 ·exact fnPt_ok rpoint_c
 ·exact fnE_ok rrad_c
 ·exact fnP_ok vptr_c
 ·exact fnP_ok rptr_c
def ctM : CT := ctOr ctA (ctOr ctN (ctOr ctE ctPn))
theorem ctM_ok (h0 : l0.Ok W) (h1 : l1.Ok W) (ρ : Env) : CTOk Tryz.prog (IL W l0 l1) ρ ctM := ctOr_ok (ctA_ok ρ) (ctOr_ok (ctN_ok h0 h1 ρ) (ctOr_ok (ctE_ok ρ) (ctPn_ok ρ)))
def ctRt : CT := ctOr ctV2 ctW2
theorem ctRt_ok (ρ : Env) : CTOk Tryz.prog (IL W l0 l1) ρ ctRt := ctOr_ok (ctV2_ok (il_root W l0 l1)) (ctW2_ok (il_root W l0 l1))
end
theorem draws_ok {W : World} {l0 l1 : Ls} {ρ : Env} {l : List (B × Bool)} (hl : ∀ p ∈ l, p.1.den (IL W l0 l1) ρ = p.2) {n : Nat} (hn : ∀ i, i < n → -9223372036854775808 ≤ ρ.i i ∧ ρ.i i ≤ 9223372036854775807) : (⟨l, [0, 2], n⟩ : Known).Ok (IL W l0 l1) ρ := by
 refine ⟨hl, ?_, hn⟩
 intro f hf a n h
 simp only [List.mem_cons, List.not_mem_nil, or_false] at hf
 rcases hf with rfl | rfl
 ·exact drawV_in _ _ h
 ·exact drawV_in _ _ h
theorem il_fi (W : World) (l0 l1 : Ls) : (IL W l0 l1).fi = fiL l0 l1 := rfl
theorem fi0 (l0 l1 : Ls) (k n : Int) : fiL l0 l1 0 [k, n] = drawV l0.zs k.toNat n := rfl
theorem fi5 (l0 l1 : Ls) (k ax ay bx by' cx cy : Int) : fiL l0 l1 5 [k, ax, ay, bx, by', cx, cy] = radiusZ k ax ay bx by' cx cy := rfl
theorem fi9 (l0 l1 : Ls) (x t a b : Int) : fiL l0 l1 9 [x, t, a, b] = apX x t false a b := rfl
theorem fi10 (l0 l1 : Ls) (y t a b : Int) : fiL l0 l1 10 [y, t, a, b] = apY y t false a b := rfl
end Go.Proofs.YtgnogdncoljldaaGreat.Sx

