import Derived.Test.YtliimpbbppbghaaQXa
import Derived.Great.BuildSlice
import Derived.Laws.Slices
set_option linter.all false
set_option autoImplicit false
namespace Go.Proofs.Ytliimpbbppbghaa.Sx
open Go Go.RowKit
def allWf (n : Nat) (cs : List C) : Bool := cs.all (C.wf n)
def OR.put (x : Option V) (s : S) : OR := match x with
  | some v => .ok v s
  | none => .bad
def okB (s : S) (b : B) : OR := .ok (.c (.bool (b.under s.known))) s
def zeroS (P : Program) (t : TypeId) : Option (List C) := match P.info? t with
  | none => none
  | some i => match i.zero with
    | none => none
    | some z => match vOf z with
      | none => none
      | some v => v.cells?
def allocS (s : S) (t : TypeId) (cs : Option (List C)) : OR := match cs with
  | some cs => bif allWf s.nb cs && (!Nat.beq t opqTy && !opn t) then s.allocK t cs fun s' => .ok (.c (.ptr s.nb 0)) s' else .bad
  | none => .bad
def loadS (P : Program) (s : S) (t : TypeId) (a : Option V) : OR := match a with
  | some (.c (.ptr id off)) => match s.find id with
    | some b => .put (partS P t b.row off) s
    | none => .bad
  | _ => .bad
def storeS (P : Program) (s : S) (t : TypeId) (a x : Option V) : OR := match a, x with
  | some (.c (.ptr id off)), some v => match s.find id, v.cells? with
    | some b, some cs => bif sizeT P t == some cs.length && (Nat.ble (off + cs.length) b.row.length && allWf s.nb cs) then s.putK id (b.back (setAt b.row off cs)) (fun s' => .ok .undef s') else .bad
    | _, _ => .bad
  | _, _ => .bad
def eqOne (p : B × Bool) (t : T) : Option T := match p with
  | (.eq x (.lit n), true) => bif x.same t then some (.lit n) else none
  | _ => none
def eqLit : List (B × Bool) → T → T
  | [], t => t
  | p :: r, t => match eqOne p t with
    | some u => u
    | none => eqLit r t
theorem den_eqLit {I : Interp} {ρ : Env} : ∀ {l : List (B × Bool)} {t : T}, (∀ p ∈ l, p.1.den I ρ = p.2) → (eqLit l t).den I ρ = t.den I ρ
  | [], t, _ => rfl
  | p :: r, t, h => by
    unfold eqLit
    split
    · rename_i u hu
      unfold eqOne at hu
      split at hu
      · rename_i x n
        cases hs : T.same x t with
        | false => rw [hs] at hu; cases hu
        | true =>
          rw [hs] at hu
          injection hu with hu
          subst hu
          have e1 := T.same_eq hs
          subst e1
          have h0 := h _ (.head _)
          simp only [B.den, decide_eq_true_eq] at h0
          exact h0.symm
      · cases hu
    · exact den_eqLit fun q hq => h q (.tail _ hq)
def arithS (s : S) (op : BinOp) (k : IntKind) (a b : T) : OR := match op with
  | .add => .ok (.c (.int k (T.wrapK s.known k (T.mkBin .add a b)))) s
  | .sub => .ok (.c (.int k (T.wrapK s.known k (T.mkBin .sub a b)))) s
  | .mul => .ok (.c (.int k (T.wrapK s.known k (T.mkBin .mul a b)))) s
  | .quo => match (B.mkEq b (.lit 0)).under s.known with
    | .lit false => .ok (.c (.int k (T.wrapK s.known k (T.mkBin .quo a b)))) s
    | .lit true => .bad
    | q => .split q.head
  | .rem => match (B.mkEq b (.lit 0)).under s.known with
    | .lit false => .ok (.c (.int k (eqLit s.known.facts (.mkBin .rem a b)))) s
    | .lit true => .bad
    | q => .split q.head
  | .eql => okB s (.mkEq a b)
  | .neq => okB s (B.mkNot (.mkEq a b))
  | .lss => okB s (.mkLt a b)
  | .leq => okB s (B.mkNot (.mkLt b a))
  | .gtr => okB s (.mkLt b a)
  | .geq => okB s (B.mkNot (.mkLt a b))
  | _ => .bad
def eqDepth : Nat := 12
def binS (P : Program) (s : S) (op : BinOp) (t : TypeId) (x y : Option V) : OR := match x, y with
  | some (.c (.int k a)), some (.c (.int l b)) => bif kindSame k l then arithS s op k a b else .bad
  | some (.agg xs), some (.agg ys) => match P.eqGuardType P.depth t with
    | true => .bad
    | false => match op, eqS P eqDepth t (.agg xs) (.agg ys) with
      | .eql, some q => okB s q
      | .neq, some q => okB s q.mkNot
      | _, _ => .bad
  | some (.c (.bool a)), some (.c (.bool b)) => match op, P.underlying t with
    | .eql, some .bool => okB s (.mkIff a b)
    | .neq, some .bool => okB s (B.mkNot (.mkIff a b))
    | _, _ => .bad
  | _, _ => .bad
def fillS (place : Nat → Option (Nat × Nat)) (cells : List C) : List (Nat × Option V) → Option (List C)
  | [] => some cells
  | (i, some v) :: r => match place i, v.cells? with
    | some (off, n), some vs => bif Nat.beq vs.length n && Nat.ble (off + vs.length) cells.length then fillS place (setAt cells off vs) r else none
    | _, _ => none
  | (_, none) :: _ => none
def placesS (P : Program) (t : TypeId) : Option (Nat → Option (Nat × Nat)) := match P.underlying t with
  | some (.array _ e) => match P.info? e with
    | some i => some fun k => some (k * i.size, i.size)
    | none => none
  | some (.struct fields) => match fields.toList.mapM (fun f => (P.info? f.type).map fun i => (f.offset, i.size)) with
    | some places => some fun k => places.toArray[k]?
    | none => none
  | _ => none
def buildS (P : Program) (s : S) (t : TypeId) (parts : List (Nat × Option V)) : OR := match placesS P t, zeroS P t with
  | some pl, some z => match fillS pl z parts with
    | some cs => .ok (.agg cs) s
    | none => .bad
  | _, _ => .bad
def repeatS (z : List C) : Nat → List C
  | 0 => []
  | n + 1 => z ++ repeatS z n
def buildSliceS (P : Program) (s : S) (t : TypeId) (len : Nat) (parts : List (Nat × Option V)) : OR := match P.underlying t with
  | some (.slice e) => match sizeT P e, zeroS P e with
    | some n, some z => bif Nat.beq z.length n && (Nat.ble 1 (len * n) && Nat.ble (len * n) 65536) then
        match fillS (fun i => some (i * n, n)) (repeatS z len) parts with
        | some cs => bif allWf s.nb cs && (!Nat.beq e opqTy && !opn e) then s.allocK e cs fun s' => .ok (.c (.slice s.nb 0 len len)) s' else .bad
        | none => .bad
      else .bad
    | _, _ => .bad
  | _ => .bad
def fieldS (P : Program) (s : S) (t : TypeId) (x : Option V) (f : Nat) : OR := match P.underlying t, x with
  | some (.struct fields), some (.c (.ptr id off)) => match fields[f]? with
    | some fl => match sizeT P fl.type with
      | some (_ + 1) => .ok (.c (.ptr id (off + fl.offset))) s
      | _ => .bad
    | none => .bad
  | _, _ => .bad
def fieldOfS (P : Program) (s : S) (t : TypeId) (x : Option V) (f : Nat) : OR := match P.underlying t, x with
  | some (.struct fields), some (.agg cs) => match fields[f]? with
    | some fl => .put (partS P fl.type cs fl.offset) s
    | none => .bad
  | _, _ => .bad
inductive Ix where
  | at_ (k : Nat)
  | split (b : B)
  | bad
def ixOf (s : S) (t : T) : Ix := t.ivK s.known fun i => match i with
  | ⟨some (.ofNat l), some (.ofNat h)⟩ => bif Nat.beq l h then .at_ l else bif Nat.blt l h && Nat.blt h 64 then .split (.lt t (.lit (.ofNat (l + 1)))) else .bad
  | _ => .bad
def indexAddrS (P : Program) (s : S) (t : TypeId) (x i : Option V) : OR := match i with
  | some (.c (.int _ tt)) => match ixOf s tt with
    | .at_ k => match P.underlying t, x with
      | some (.array len e), some (.c (.ptr id off)) => match sizeT P e with
        | some n => bif Nat.blt k len then .ok (.c (.ptr id (off + k * n))) s else .bad
        | none => .bad
      | some (.slice e), some (.c (.slice id off len _)) => match sizeT P e with
        | some n => bif Nat.blt k len then .ok (.c (.ptr id (off + k * n))) s else .bad
        | none => .bad
      | some (.slice e), some (.c (.osl id _ off _ len)) => match sizeT P e with
        | some n => bif Nat.blt k len then .ok (.c (.ptr id (off + k * n))) s else .bad
        | none => .bad
      | _, _ => .bad
    | .split b => .split b
    | .bad => .bad
  | _ => .bad
def indexS (P : Program) (s : S) (t : TypeId) (x i : Option V) : OR := match i with
  | some (.c (.int _ tt)) => match ixOf s tt with
    | .at_ k => match P.underlying t, x with
      | some (.array len e), some (.agg cs) => match sizeT P e with
        | some n => bif Nat.blt k len then .put (partS P e cs (k * n)) s else .bad
        | none => .bad
      | some .string, some (.c (.str b)) => match b.data[k]? with
        | some d => natF d.toNat fun n => .ok (.c (.int .u8 (.lit (.ofNat n)))) s
        | none => .bad
      | _, _ => .bad
    | .split b => .split b
    | .bad => .bad
  | _ => .bad
def tupV (p : Bool × List C) : V := match p with
  | (false, c :: _) => .c c
  | (_, cs) => .agg cs
def unS (s : S) (op : UnOp) (x : Option V) : OR := match op, x with
  | .neg, some (.c (.int k a)) => .ok (.c (.int k (T.wrapK s.known k (T.mkBin .sub (.lit 0) a)))) s
  | .not, some (.c (.bool b)) => .ok (.c (.bool b.mkNot)) s
  | _, _ => .bad
def convS (P : Program) (s : S) (src dst : TypeId) (x : Option V) : OR := match P.underlying src, P.underlying dst, x with
  | some (.int _), some (.int k), some (.c (.int _ a)) => .ok (.c (.int k (T.wrapK s.known k a))) s
  | _, _, _ => .bad
def capsS : List (Option V) → Option (List (Nat × Nat))
  | [] => some []
  | some (.c (.ptr id off)) :: r => (capsS r).map ((id, off) :: ·)
  | _ => none
def cellsT : List C → T
  | [] => .nil
  | .int _ t :: r => .cons t (cellsT r)
  | _ :: r => .cons (.lit 0) (cellsT r)
theorem cellsT_dens {I : Interp} {ρ : Env} : ∀ cs : List C, (cellsT cs).dens I ρ = numsOf I ρ cs
  | [] => rfl
  | c :: r => by
    have ih := cellsT_dens (I := I) (ρ := ρ) r
    cases c <;> simp only [cellsT, T.dens_cons, ih, numsOf, List.map_cons, C.num, T.den_lit]
def S.findOpq (s : S) (id : Nat) : Option (List C) := match findIn s.blks id with
  | some b => bif b.isOpq then some b.cells else none
  | none => none
theorem findOpq_mem {s : S} {id : Nat} {cs : List C} (h : s.findOpq id = some cs) : ∃ b, (id, b) ∈ s.blks ∧ b.isOpq = true ∧ b.cells = cs := by
  unfold S.findOpq at h
  split at h
  · rename_i b hb
    cases ho : b.isOpq with
    | true => rw [ho] at h; injection h with h; exact ⟨b, findIn_mem hb, ho, h⟩
    | false => rw [ho] at h; cases h
  · cases h
def partV0 : V → Option (Bool × List C)
  | .c x => some (false, [x])
  | .agg cs => some (true, cs)
  | .tup _ => none
  | .any _ => none
def lenS (P : Program) (s : S) (t : TypeId) (x : V) : OR := match P.underlying t, x with
  | some (.slice _), .c (.slice _ _ n _) => .ok (.c (.int .i64 (.lit (.ofNat n)))) s
  | some (.slice _), .c (.osl _ _ _ _ n) => .ok (.c (.int .i64 (.lit (.ofNat n)))) s
  | some (.slice _), .c .nils => .ok (.c (.int .i64 (.lit 0))) s
  | some (.slice _), .c (.opq id) => match s.findOpq id with
    | some cs => .ok (.c (.int .i64 (.app 999 (cellsT cs)))) s
    | none => .bad
  | some (.slice _), .c (.abs 0 .nil) => .ok (.c (.int .i64 (.app 998 .nil))) s
  | some (.array n _), _ => .ok (.c (.int .i64 (.lit (.ofNat n)))) s
  | some .string, .c (.str b) => .ok (.c (.int .i64 (.lit (.ofNat b.size)))) s
  | _, _ => .bad
def foldS (o : IOp) (k : IntKind) (a : T) : List (Option V) → Option T
  | [] => some a
  | some (.c (.int _ b)) :: r => foldS o k (.mkBin o a b) r
  | _ => none
def partOfRow (s : S) (id off k : Nat) : Option (List C) := match s.find id with
  | some b => bif Nat.ble (off + k) b.row.length then some ((b.row.drop off).take k) else none
  | none => none
def srcS (s : S) (n : Nat) : Option V → Option (Nat × List C)
  | some (.c (.slice id off len _)) => (partOfRow s id off (len * n)).map fun cs => (len, cs)
  | some (.c (.osl id _ off _ len)) => (partOfRow s id off (len * n)).map fun cs => (len, cs)
  | _ => none
def zPlain : C → Bool
  | .int k _ => !kindSame k .u32
  | .bool _ | .str _ | .nilp | .nils | .nilf | .nili => true
  | _ => false
def S.alloc2 (s : S) (ty : TypeId) (cs : List C) : S := ⟨(s.nb, ⟨ty, .yld (s.nb + 1) :: cs⟩) :: s.blks, s.nb + 2, s.known⟩
def S.alloc2K {α : Type} (s : S) (ty : TypeId) (cs : List C) (k : S → α) : α := match s with
  | ⟨b, n, kn⟩ => natF n fun n => csF (.yld (n + 1) :: cs) fun cs => natF ty fun ty => k ⟨(n, ⟨ty, cs⟩) :: b, n + 2, kn⟩
theorem S.alloc2K_eq {α : Type} (s : S) (ty : TypeId) (cs : List C) (k : S → α) : s.alloc2K ty cs k = k (s.alloc2 ty cs) := by obtain ⟨b, n, kn⟩ := s; simp [S.alloc2K, S.alloc2, csF_eq, natF_eq]
def growS (s : S) (e n : Nat) (cs : List C) (len : Nat) : OR := s.alloc2K (oty e n) cs fun s' => .ok (.c (.osl s.nb (s.nb + 1) 0 0 len)) s'
def fitsS (k : Nat) (i : TypeInfo) : Bool := Nat.ble (k * i.bytes) 140737488355328 && Nat.ble k 4611686018427387904
def noneS : Option V → Bool
  | some (.c .nils) => true
  | some (.c (.slice _ _ 0 _)) => true
  | some (.c (.osl _ _ _ _ 0)) => true
  | _ => false
def keepS (s : S) (n : Nat) : Option V → OR
  | some (.c .nils) => .ok (.c .nils) s
  | some (.c (.slice id off len cap)) => bif Nat.ble len cap then .ok (.c (.slice id off len cap)) s else .bad
  | some (.c (.osl id cid off skip len)) => match s.find id with
    | some b => match b.cells with
      | .yld cid' :: r => bif opn b.ty && (Nat.beq (szO b.ty) n && (Nat.beq cid cid' && Nat.ble ((skip + len) * n) r.length)) then .ok (.c (.osl id cid off skip len)) s else .bad
      | _ => .bad
    | none => .bad
  | _ => .bad
def appendS (P : Program) (s : S) (tys : Array TypeId) (x y : Option V) : OR := match tys.toList with
  | [t, t2] => match P.underlying t, Nat.beq t t2 with
    | some (.slice e), true => match P.info? e, zeroS P e with
      | some i, some z => bif noneS y then keepS s i.size x else match srcS s i.size y with
        | some (m, news) => bif Nat.blt 0 m && (Nat.blt 0 i.size && (Nat.blt i.size 4096 && (Nat.beq z.length i.size && (z.all zPlain && allWf s.nb news)))) then
            match x with
            | some (.c .nils) => bif fitsS m i then growS s e i.size news m else .bad
            | some (.c (.slice id off len cap)) => match s.find id with
              | some b => bif Nat.ble (len + m) cap then
                  (bif Nat.beq off 0 && (Nat.beq b.ty e && (!opn b.ty && Nat.ble (len * i.size + news.length) b.row.length)) then s.putK id (setAt b.cells (len * i.size) news) fun s' => .ok (.c (.slice id off (len + m) cap)) s' else .bad)
                else match partOfRow s id off (len * i.size) with
                  | some olds => bif fitsS (len + m) i then growS s e i.size (olds ++ news) (len + m) else .bad
                  | none => .bad
              | none => .bad
            | some (.c (.osl id cid off skip len)) => match s.find id with
              | some b => match b.cells with
                | .yld cid' :: olds => bif opn b.ty && (Nat.beq (rty b.ty) e && (Nat.beq (szO b.ty) i.size && (Nat.beq off 0 && (Nat.beq skip 0 && (Nat.beq cid cid' && (Nat.beq olds.length (len * i.size) && fitsS (len + m) i)))))) then
                    s.putK id [] fun s1 => growS s1 e i.size (olds ++ news) (len + m) else .bad
                | _ => .bad
              | none => .bad
            | _ => .bad
          else .bad
        | none => .bad
      | _, _ => .bad
    | _, _ => .bad
  | _ => .bad
def bndOf (s : S) (d : Nat) : Option (Option V) → Ix
  | none => .at_ d
  | some (some (.c (.int _ tt))) => ixOf s tt
  | _ => .bad
def sliceS (P : Program) (s : S) (t : TypeId) (x : Option V) (lo hi : Option (Option V)) : OR := match P.underlying t, x with
  | some (.slice e), some (.c (.slice id off len cap)) => match bndOf s 0 lo, bndOf s len hi, sizeT P e with
    | .split b, _, _ => .split b
    | _, .split b, _ => .split b
    | .at_ l, .at_ h, some n => bif Nat.ble l h && Nat.ble h cap then .ok (.c (.slice id (bif Nat.beq cap l then off else off + l * n) (h - l) (cap - l))) s else .bad
    | _, _, _ => .bad
  | some (.slice e), some (.c .nils) => match bndOf s 0 lo, bndOf s 0 hi, sizeT P e with
    | .at_ 0, .at_ 0, some _ => .ok (.c .nils) s
    | _, _, _ => .bad
  | some (.slice e), some (.c (.osl id cid off skip len)) => match bndOf s 0 lo, bndOf s len hi, sizeT P e with
    | .split b, _, _ => .split b
    | _, .split b, _ => .split b
    | .at_ l, .at_ h, some n => match s.find id with
      | some b => match b.cells with
        | .yld cid' :: r => bif opn b.ty && (Nat.beq (szO b.ty) n && (Nat.beq cid cid' && (Nat.ble l h && (Nat.ble h len && (Nat.blt l len && Nat.ble ((skip + len) * n) r.length))))) then .ok (.c (.osl id cid (off + l * n) (skip + l) (h - l))) s else .bad
        | _ => .bad
      | none => .bad
    | _, _, _ => .bad
  | some (.slice e), some (.c (.abs 0 .nil)) => match lo, hi, sizeT P e with
    | some (some (.c (.int _ (.bin .min (.app 998 .nil) (.lit (.ofNat m)))))), none, some 1 => .ok (.c (.abs 1000 (.cons (.bin .min (.app 998 .nil) (.lit (.ofNat m))) .nil))) s
    | _, _, _ => .bad
  | some (.array n e), some (.c (.ptr id off)) => match lo, hi, sizeT P e with
    | none, none, some _ => .ok (.c (.slice id off n n)) s
    | _, _, _ => .bad
  | _, _ => .bad
def builtinS (P : Program) (s : S) (b : Builtin) (tys : Array TypeId) (xs : List (Option V)) : OR := match b, xs with
  | .len, some x :: _ => match tys[0]? with
    | some t => lenS P s t x
    | none => .bad
  | .max, some (.c (.int k a)) :: r => .put ((foldS .max k a r).map fun t => .c (.int k t)) s
  | .min, some (.c (.int k a)) :: r => .put ((foldS .min k a r).map fun t => .c (.int k t)) s
  | .append, [x, y] => appendS P s tys x y
  | _, _ => .bad
def toP0s : List C → Option (List P0)
  | [] => some []
  | .int k t :: r => (toP0s r).map (.int k t :: ·)
  | .bool b :: r => (toP0s r).map (.bool b :: ·)
  | _ :: _ => none
def ofP0s : List P0 → List C
  | [] => []
  | .int k t :: r => .int k t :: ofP0s r
  | .bool b :: r => .bool b :: ofP0s r
def isIface : TypeDesc → Bool
  | .interface _ => true
  | _ => false
def makeIfaceS (P : Program) (s : S) (t : TypeId) (x : Option V) : OR := match P.underlying t, x with
  | some d, some (.c c) => bif isIface d then .bad else match toP0s [c] with
    | some ps => .ok (.c (.ifc t false ps)) s
    | none => .bad
  | some d, some (.agg cs) => bif isIface d then .bad else match toP0s cs with
    | some ps => .ok (.c (.ifc t true ps)) s
    | none => .bad
  | _, _ => .bad
def payS (ag : Bool) (ps : List P0) : V := match ag, ofP0s ps with
  | false, c :: _ => .c c
  | _, cs => .agg cs
def assertS (P : Program) (s : S) (u : TypeId) (ok : Bool) (x : Option V) : OR := match P.underlying u, x with
  | some d, some (.c (.ifc t ag ps)) => bif isIface d then .bad else bif Nat.beq t u then
      (match ok, partV0 (payS ag ps) with
        | true, some p => .ok (.tup [p, (false, [.bool (.lit true)])]) s
        | false, _ => .ok (payS ag ps) s
        | _, _ => .bad)
    else match ok, P.info? u with
      | true, some i => match i.zero with
        | some z => match (vOf z).bind partV0 with
          | some p => .ok (.tup [p, (false, [.bool (.lit false)])]) s
          | none => .bad
        | none => .bad
      | _, _ => .bad
  | _, _ => .bad
def opS (P : Program) (ev : Operand → Option V) (s : S) : Op → OR
  | .move x | .assign x => .put (ev x) s
  | .pick c a b => match ev c with
    | some (.c (.bool q)) => match q.under s.known with
      | .lit true => .put (ev a) s
      | .lit false => .put (ev b) s
      | q' => .split q'.head
    | _ => .bad
  | .alloc t => allocS s t (zeroS P t)
  | .box t x => allocS s t ((ev x).bind V.cells?)
  | .build t parts => buildS P s t (parts.toList.map fun p => (p.1, ev p.2))
  | .buildSlice t n parts => buildSliceS P s t n (parts.toList.map fun p => (p.1, ev p.2))
  | .load t a => loadS P s t (ev a)
  | .store t a x => storeS P s t (ev a) (ev x)
  | .nilCheck x => match ev x with
    | some (.c (.ptr id off)) => .ok (.c (.ptr id off)) s
    | some (.c (.fn (.func f) caps)) => .ok (.c (.fn (.func f) caps)) s
    | _ => .bad
  | .binOp op t x y _ => binS P s op t (ev x) (ev y)
  | .unOp op _ x => unS s op (ev x)
  | .convert src dst x => convS P s src dst (ev x)
  | .makeFunc f first caps => match first.size, capsS (caps.toList.map ev) with
    | 0, some l => .ok (.c (.fn f l)) s
    | _, _ => .bad
  | .fieldAddr t x f => fieldS P s t (ev x) f
  | .field t x f => fieldOfS P s t (ev x) f
  | .indexAddr t x i => indexAddrS P s t (ev x) (ev i)
  | .index t x i => indexS P s t (ev x) (ev i)
  | .slice t x lo hi none => sliceS P s t (ev x) (lo.map ev) (hi.map ev)
  | .makeInterface t x => makeIfaceS P s t (ev x)
  | .typeAssert x _ u ok => assertS P s u ok (ev x)
  | .extract x i => match ev x with
    | some (.tup vs) => .put ((vs[i]?).map tupV) s
    | _ => .bad
  | .call { callee := .builtin b, args, argTypes } => builtinS P s b argTypes (args.toList.map ev)
  | _ => .bad
def Ran (r : Result Next) (v : Value) (w : World) : Prop := r = .ok (.value v) w ∨ r = .ok .skip w ∧ v = undef
def OpOk (P : Program) (I : Interp) (ρ : Env) (w0 : World) (X : Nat → Prop) (n0 : Nat) (β0 β : Nat → Nat) (s : S) (r : Result Next) (q : OR) : Prop :=
  match q with
  | .ok v s' => ∃ β' w', Ran r (v.den I ρ β') w' ∧ WR I ρ w0 X n0 β0 β' s' w' ∧ (∀ id, id < s.nb → β' id = β id) ∧ s.nb ≤ s'.nb
  | _ => True
section
variable {P : Program} {I : Interp} {ρ : Env} {w0 w : World} {X : Nat → Prop} {n0 : Nat} {β0 β : Nat → Nat} {s : S} {eval : Operand → Value} {ev : Operand → Option V}
theorem OpOk.pure {r : Result Next} {v : V} (h : WR I ρ w0 X n0 β0 β s w) (hr : r = .ok (.value (v.den I ρ β)) w) : OpOk P I ρ w0 X n0 β0 β s r (.ok v s) :=
  ⟨β, w, .inl hr, h, fun _ _ => rfl, Nat.le_refl _⟩
theorem OpOk.put {r : Result Next} {x : Option V} (h : WR I ρ w0 X n0 β0 β s w) (hr : ∀ v, x = some v → r = .ok (.value (v.den I ρ β)) w) : OpOk P I ρ w0 X n0 β0 β s r (.put x s) := by
  cases x with
  | none => trivial
  | some v => exact .pure h (hr v rfl)
theorem OpOk.okB {r : Result Next} {q : B} (h : WR I ρ w0 X n0 β0 β s w) (hr : r = .ok (.value (.bool (q.den I ρ))) w) : OpOk P I ρ w0 X n0 β0 β s r (Sx.okB s q) :=
  .pure h (by rw [hr]; simp only [V.den, C.den, B.den_under h.known])
theorem zeroS_run {t : TypeId} {cs : List C} (h : zeroS P t = some cs) (w : World) : ∃ z, (zeroValue t).run P w = .ok z w ∧ z.cells = cellsOf I ρ β cs ∧ ∃ i, P.info? t = some i ∧ i.zero = some z := by
  unfold zeroS at h
  split at h
  · cases h
  · rename_i i hi
    split at h
    · cases h
    · rename_i z hz
      split at h
      · cases h
      · rename_i v hv
        exact ⟨z, by simp [zeroValue, typeInfo, hi, hz], by rw [← cells?_den h, vOf_den hv], i, hi, hz⟩
theorem alloc_ok (h : WR I ρ w0 X n0 β0 β s w) {t : TypeId} {x : Option (List C)} {r : Result Next}
    (hr : ∀ cs, x = some cs → r = .ok (.value (.pointer (some ⟨w.heap.size, 0, none⟩))) (w.alloc (.cells (cellsOf I ρ β cs) t))) : OpOk P I ρ w0 X n0 β0 β s r (allocS s t x) := by
  unfold allocS
  split
  · rename_i cs
    cases hw : (allWf s.nb cs && (!Nat.beq t opqTy && !opn t)) with
    | false => trivial
    | true =>
      simp only [Bool.and_eq_true, Bool.not_eq_true'] at hw
      obtain ⟨hw, hty, hto⟩ := hw
      have hwf : ∀ c ∈ cs, c.wf s.nb = true := by simpa [allWf] using hw
      simp only [cond_true, S.allocK_eq]
      exact ⟨_, _, .inl (by rw [hr _ rfl]; simp [V.den, C.den, up_self]), h.alloc t hty hto hwf, up_lt, Nat.le_succ _⟩
  · trivial
theorem row_cell (h : WR I ρ w0 X n0 β0 β s w) {id : Nat} {b : Blk} (hb : (id, b) ∈ s.blks) (hl : b.live = true) {k : Nat} {c : C} (hc : b.row[k]? = some c) : w.cell? ⟨β id, k, none⟩ = some (c.den I ρ β) :=
  (h.row _ hb hl).cell (Blk.live_dead hl) hc
theorem load_run (h : WR I ρ w0 X n0 β0 β s w) {id off : Nat} {b : Blk} (hb : (id, b) ∈ s.blks) (hl : b.live = true) {t : TypeId} {x : V} (hp : partS P t b.row off = some x) : (loadVar t ⟨β id, off, none⟩).run P w = .ok (x.den I ρ β) w := by
  unfold partS at hp
  split at hp
  · rename_i d n hu hn
    split at hp
    · rename_i hr
      split at hp
      · rename_i hle
        injection hp with hp
        subst hp
        have hl : (loadCells ⟨β id, off, none⟩ ((b.row.drop off).take n).length).run P w = .ok (cellsOf I ρ β ((b.row.drop off).take n)) w := by
          have := run_loadCells_list (P := P) w ⟨β id, off, none⟩ (((b.row.drop off).take n).map (C.den I ρ β)) (fun j v hv => by
            have e : (⟨β id, off, none⟩ : Addr).add j = ⟨β id, off + j, none⟩ := by unfold Addr.add; split <;> simp_all
            rw [e]
            simp only [List.getElem?_map, List.getElem?_take, List.getElem?_drop] at hv
            split at hv
            · obtain ⟨c, hc, rfl⟩ := Option.map_eq_some_iff.1 hv
              exact row_cell h hb hl hc
            · cases hv)
          simpa [cellsOf] using this
        have hlen : ((b.row.drop off).take n).length = n := by simp; omega
        rw [hlen] at hl
        simp only [loadVar, Sem.run_bind, run_isAgg hu, Result.andThen_ok, hr, if_true, run_size hn, hl, Sem.run_pure]
        rfl
      · cases hp
    · rename_i hr
      cases hc : b.row[off]? with
      | none => rw [hc] at hp; cases hp
      | some c =>
        rw [hc] at hp
        injection hp with hp
        subst hp
        simp only [loadVar, Sem.run_bind, run_isAgg hu, Result.andThen_ok, hr, Bool.false_eq_true, if_false, run_load, row_cell h hb hl hc]
        rfl
  · cases hp
theorem setAt_den (cs vs : List C) (off : Nat) : cellsOf I ρ β (setAt cs off vs) = ((cellsOf I ρ β cs).toList.take off ++ vs.map (C.den I ρ β) ++ (cellsOf I ρ β cs).toList.drop (off + vs.length)).toArray := by
  simp [cellsOf, setAt, List.map_take, List.map_drop]
theorem setAt_wf {cs vs : List C} {off n : Nat} (h1 : ∀ c ∈ cs, c.wf n = true) (h2 : ∀ c ∈ vs, c.wf n = true) : ∀ c ∈ setAt cs off vs, c.wf n = true := by
  intro c hc
  simp only [setAt, List.mem_append] at hc
  rcases hc with (hc | hc) | hc
  · exact h1 c (List.mem_of_mem_take hc)
  · exact h2 c hc
  · exact h1 c (List.mem_of_mem_drop hc)
theorem setAt_len {cs vs : List C} {off : Nat} (h : off + vs.length ≤ cs.length) : (setAt cs off vs).length = cs.length := by
  simp only [setAt, List.length_append, List.length_take, List.length_drop]; omega
theorem WR.store (h : WR I ρ w0 X n0 β0 β s w) {id off : Nat} {b : Blk} (hb : (id, b) ∈ s.blks) (hl : b.live = true) {cs : List C} (hwf : ∀ c ∈ cs, c.wf s.nb = true) (hle : off + cs.length ≤ b.row.length) :
    ∃ (cur : Array Value) (ty : TypeId), w.heap[β id]? = some (.cells cur ty (0, 0)) ∧ off + cs.length ≤ cur.size ∧
      WR I ρ w0 X n0 β0 β (s.put id (b.back (setAt b.row off cs))) (w.setRow (β id) (cur.toList.take off ++ cs.map (C.den I ρ β) ++ cur.toList.drop (off + cs.length)).toArray) := by
  have hr := h.row _ hb hl
  have hcw := h.cwf _ hb
  cases ho : opn b.ty with
  | false =>
    have e1 : b.row = b.cells := by unfold Blk.row; rw [ho]
    have e2 : ∀ l, b.back l = l := fun l => by unfold Blk.back; rw [ho]
    rw [e1] at hle
    rw [e1, e2]
    have hrow := (RowP.closed ho).1 hr
    refine ⟨_, _, hrow, by simpa [cellsOf_size] using hle, ?_⟩
    have := h.put hb hl ho (setAt_wf (off := off) hcw hwf)
    rw [setAt_den] at this
    exact this
  | true =>
    have hr0 := hr
    unfold RowP at hr
    rw [ho] at hr
    simp only at hr
    rcases hr.ex with e | ⟨cid, r, e⟩
    · have := Blk.live_dead hl; unfold Blk.dead at this; rw [ho, e] at this; cases this
    · have e1 : b.row = r := by unfold Blk.row; rw [ho, e]; rfl
      have e2 : ∀ l, b.back l = .yld cid :: l := fun l => by unfold Blk.back; rw [ho, e]
      rw [e1] at hle
      rw [e1, e2]
      rw [e] at hr hcw
      obtain ⟨a, h1, h2, h3, h4, h5, h6⟩ := hr
      refine ⟨a, _, h1, by omega, ?_⟩
      have hsl := setAt_len hle
      refine h.putR hb hl (fun c hc => ?_) ?_ (Keeps.setRow _ _ _)
      · rcases List.mem_cons.1 hc with hc | hc
        · subst hc; exact hcw _ (.head _)
        · exact setAt_wf (off := off) (fun c hc => hcw c (.tail _ hc)) hwf c hc
      · unfold RowP
        simp only [ho]
        have hts : a.toList.length = a.size := Array.length_toList
        refine ⟨_, setRow_heap w (β id) a _ _ (0, 0) h1, ?_, ?_, ?_, ?_, h6⟩
        · rw [← h2]
          simp only [List.size_toArray, List.length_append, List.length_take, List.length_drop, List.length_map, Array.length_toList]
          omega
        · rw [hsl]
          simp only [setAt, List.map_append, List.map_take, List.map_drop]
          rw [← h3, List.take_take, List.drop_take]
          rw [show min off r.length = off by omega]
          have ex : (a.toList.take off ++ cs.map (C.den I ρ β)).length = off + cs.length := by simp; omega
          rw [List.take_append, ex, List.take_of_length_le (by rw [ex]; exact hle)]
        · rw [hsl]
          simp only [List.size_toArray, List.length_append, List.length_take, List.length_drop, List.length_map, Array.length_toList]
          omega
        · rw [hsl]
          have ex : (a.toList.take off ++ cs.map (C.den I ρ β)).length = off + cs.length := by simp; omega
          rw [List.drop_append, List.drop_of_length_le (by rw [ex]; exact hle), List.nil_append, List.drop_drop, ex, show off + cs.length + (r.length - (off + cs.length)) = r.length by omega]
          exact h5
theorem store_run (h : WR I ρ w0 X n0 β0 β s w) {id off : Nat} {b : Blk} (hb : (id, b) ∈ s.blks) (hl : b.live = true) {t : TypeId} {x : V} {cs : List C} (hx : x.cells? = some cs) (hs : sizeT P t = some cs.length) (hwf : ∀ c ∈ cs, c.wf s.nb = true) (hle : off + cs.length ≤ b.row.length) :
    ∃ w', (storeVar t ⟨β id, off, none⟩ (x.den I ρ β)).run P w = .ok () w' ∧ WR I ρ w0 X n0 β0 β (s.put id (b.back (setAt b.row off cs))) w' := by
  have hc := cells?_den (I := I) (ρ := ρ) (β := β) hx
  have hz : (x.den I ρ β).cells.size = cs.length := by rw [hc, cellsOf_size]
  obtain ⟨cur, ty, h1, h2, h3⟩ := h.store hb hl hwf hle
  refine ⟨_, ?_, h3⟩
  have hst := run_storeCells_at P (β id) off ty (cs.map (C.den I ρ β)) 0 cur w h1 (by simpa using h2) (fun v hv => by
    obtain ⟨c, -, rfl⟩ := List.mem_map.1 hv; exact oneCell'_den c)
  simp only [storeVar, Sem.run_bind, run_size hs, Result.andThen_ok, hz, ne_eq, not_true_eq_false, if_false, Sem.run_pure, hc]
  simp only [Nat.add_zero, List.length_map] at hst
  simpa [cellsOf] using hst
theorem load_ok (h : WR I ρ w0 X n0 β0 β s w) {t : TypeId} {x : Option V} {a : Value} {r : Result Next} (hx : ∀ v, x = some v → a = v.den I ρ β)
    (hr : r = ((Instr.loadAt t a).run P w).andThen fun v w => .ok (.value v) w) : OpOk P I ρ w0 X n0 β0 β s r (loadS P s t x) := by
  unfold loadS
  split
  · rename_i id off
    split
    · rename_i b hb
      refine .put h fun v hv => ?_
      rw [hr, hx _ rfl]
      simp only [Instr.loadAt, V.den, C.den, Instr.sureAddr, Sem.run_bind, Sem.run_pure, Result.andThen_ok, load_run h (find_mem hb).1 (find_mem hb).2 hv]
    · trivial
  · trivial
theorem store_ok (h : WR I ρ w0 X n0 β0 β s w) {t : TypeId} {x y : Option V} {a u : Value} {r : Result Next} (hx : ∀ v, x = some v → a = v.den I ρ β) (hy : ∀ v, y = some v → u = v.den I ρ β)
    (hr : r = ((Instr.storeAt t a u).run P w).andThen fun _ w => .ok .skip w) : OpOk P I ρ w0 X n0 β0 β s r (storeS P s t x y) := by
  unfold storeS
  split
  · rename_i id off v
    split
    · rename_i b cs hb hcs
      cases hc : (sizeT P t == some cs.length && (Nat.ble (off + cs.length) b.row.length && allWf s.nb cs)) with
      | false => trivial
      | true =>
        simp only [Bool.and_eq_true, beq_iff_eq, Nat.ble_eq] at hc
        obtain ⟨h1, h2, h3⟩ := hc
        have hwf : ∀ c ∈ cs, c.wf s.nb = true := by simpa [allWf] using h3
        obtain ⟨hm, hmo⟩ := find_mem hb
        simp only [cond_true, S.putK_eq]
        obtain ⟨w', this, hw'⟩ := store_run (P := P) (t := t) h hm hmo hcs h1 hwf h2
        refine ⟨β, w', .inr ⟨?_, rfl⟩, hw', fun _ _ => rfl, Nat.le_refl _⟩
        rw [hr, hx _ rfl, hy _ rfl]
        generalize v.den I ρ β = uu at this ⊢
        simp only [Instr.storeAt, V.den, C.den, Instr.sureAddr, Sem.run_bind, Sem.run_pure, Result.andThen_ok, this]
    · trivial
  · trivial
theorem arith_ok (h : WR I ρ w0 X n0 β0 β s w) {op : BinOp} {k : IntKind} {a b : T} {t : TypeId} {r : Result Next}
    (hr : r = ((binOp op t (.int k (a.den I ρ)) (.int k (b.den I ρ))).run P w).andThen fun v w => .ok (.value v) w) : OpOk P I ρ w0 X n0 β0 β s r (arithS s op k a b) := by
  subst hr
  have hk := h.known
  unfold arithS
  split
  · exact .pure h (by simp [binOp, Op.intArith, V.den, C.den, T.den_wrapK h.known, T.den_mkBin, IOp.ev])
  · exact .pure h (by simp [binOp, Op.intArith, V.den, C.den, T.den_wrapK h.known, T.den_mkBin, IOp.ev])
  · exact .pure h (by simp [binOp, Op.intArith, V.den, C.den, T.den_wrapK h.known, T.den_mkBin, IOp.ev])
  · split
    · rename_i hq
      have hne : b.den I ρ ≠ 0 := by
        have := B.den_under hk (B.mkEq b (.lit 0))
        rw [hq, B.den_mkEq, T.den_lit] at this
        simpa [B.den] using this.symm
      exact .pure h (by simp [binOp, Op.intDiv, hne, V.den, C.den, T.den_wrapK h.known, T.den_mkBin, IOp.ev])
    · trivial
    · trivial
  · split
    · rename_i hq
      have hne : b.den I ρ ≠ 0 := by
        have := B.den_under hk (B.mkEq b (.lit 0))
        rw [hq, B.den_mkEq, T.den_lit] at this
        simpa [B.den] using this.symm
      exact .pure h (by simp [binOp, Op.intDiv, hne, V.den, C.den, den_eqLit hk.facts, T.den_mkBin, IOp.ev])
    · trivial
    · trivial
  · refine .okB h (by simp only [binOp, ne_eq, not_true_eq_false, if_false, Op.intCmp, Sem.run_pure, Result.andThen_ok, B.den_mkEq]; rfl)
  · refine .okB h (by simp only [binOp, ne_eq, not_true_eq_false, if_false, Op.intCmp, Sem.run_pure, Result.andThen_ok, B.den_mkNot, B.den_mkEq]; rfl)
  · refine .okB h (by simp only [binOp, ne_eq, not_true_eq_false, if_false, Op.intCmp, Sem.run_pure, Result.andThen_ok, B.den_mkLt])
  · refine .okB h (by simp only [binOp, ne_eq, not_true_eq_false, if_false, Op.intCmp, Sem.run_pure, Result.andThen_ok, B.den_mkNot, B.den_mkLt]; congr 3; rw [← decide_not]; exact decide_eq_decide.2 Int.not_lt.symm)
  · refine .okB h (by simp only [binOp, ne_eq, not_true_eq_false, if_false, Op.intCmp, Sem.run_pure, Result.andThen_ok, B.den_mkLt])
  · refine .okB h (by simp only [binOp, ne_eq, not_true_eq_false, if_false, Op.intCmp, Sem.run_pure, Result.andThen_ok, B.den_mkNot, B.den_mkLt]; congr 3; first | (rw [← decide_not]; exact decide_eq_decide.2 Int.not_lt.symm) | skip)
  · trivial
theorem run_guard_int (op : BinOp) (t : TypeId) (x y : Operand) (k l : IntKind) (a b : Int) : (eqGuard op t x y (.int k a) (.int l b)).run P w = .ok () w := by cases op <;> rfl
theorem run_guard_bool (op : BinOp) (t : TypeId) (x y : Operand) (a b : Bool) : (eqGuard op t x y (.bool a) (.bool b)).run P w = .ok () w := by cases op <;> rfl
theorem bin_ok (h : WR I ρ w0 X n0 β0 β s w) {op : BinOp} {t : TypeId} {ox oy : Operand} {x y : Option V} {a u : Value} {r : Result Next} (hx : ∀ v, x = some v → a = v.den I ρ β) (hy : ∀ v, y = some v → u = v.den I ρ β)
    (hr : r = ((eqGuard op t ox oy a u).run P w).andThen fun _ w => ((binOp op t a u).run P w).andThen fun v w => .ok (.value v) w) : OpOk P I ρ w0 X n0 β0 β s r (binS P s op t x y) := by
  unfold binS
  split
  · rename_i k a' l b'
    cases hk : kindSame k l with
    | false => trivial
    | true =>
      have := kindSame_eq hk
      subst this
      rw [hx _ rfl, hy _ rfl] at hr
      simp only [V.den, C.den, run_guard_int, Result.andThen_ok] at hr
      exact arith_ok h hr
  · rename_i xs ys
    split
    · trivial
    · rename_i hg
      rw [hx _ rfl, hy _ rfl] at hr
      simp only [V.den, run_eqGuard_agg w op t ox oy _ _ hg, Result.andThen_ok] at hr
      split
      · rename_i q hq
        have he := eqS_run (I := I) (ρ := ρ) (β := β) eqDepth hq Op.maxDepth (by decide) w
        simp only [V.den] at he
        refine .okB h ?_
        rw [hr]
        simp only [binOp, Op.equal, Sem.run_bind, he, Result.andThen_ok, Sem.run_pure]
      · rename_i q hq
        have he := eqS_run (I := I) (ρ := ρ) (β := β) eqDepth hq Op.maxDepth (by decide) w
        simp only [V.den] at he
        refine .okB h ?_
        rw [hr]
        simp only [binOp, Op.equal, Sem.run_bind, he, Result.andThen_ok, Sem.run_pure, B.den_mkNot]
      · trivial
  · rename_i a' b'
    rw [hx _ rfl, hy _ rfl] at hr
    simp only [V.den, C.den, run_guard_bool, Result.andThen_ok] at hr
    split
    · rename_i hu
      refine .okB h ?_
      rw [hr]
      have : (Op.equalIn (9999 + 1) t (.bool (a'.den I ρ)) (.bool (b'.den I ρ))).run P w = .ok (a'.den I ρ == b'.den I ρ) w := run_equalIn_bool' w 9999 t _ _ hu
      simp only [binOp, Op.equal, Op.maxDepth, Sem.run_bind, this, Result.andThen_ok, Sem.run_pure, B.den_mkIff]
    · rename_i hu
      refine .okB h ?_
      rw [hr]
      have : (Op.equalIn (9999 + 1) t (.bool (a'.den I ρ)) (.bool (b'.den I ρ))).run P w = .ok (a'.den I ρ == b'.den I ρ) w := run_equalIn_bool' w 9999 t _ _ hu
      simp only [binOp, Op.equal, Op.maxDepth, Sem.run_bind, this, Result.andThen_ok, Sem.run_pure, B.den_mkIff, B.den_mkNot]
    · trivial
  · trivial
theorem fold_sets (vs : List Value) : ∀ (cs : Array Value) (off k : Nat), off + k + vs.length ≤ cs.size →
    ((vs.zipIdx k).foldl (fun (cs : Array Value) (p : Value × Nat) => cs.setIfInBounds (off + p.2) p.1) cs).toList = cs.toList.take (off + k) ++ vs ++ cs.toList.drop (off + k + vs.length) := by
  induction vs with
  | nil => intro cs off k h; simp
  | cons v vs ih =>
    intro cs off k h
    simp only [List.zipIdx_cons, List.foldl_cons]
    rw [show off + k + (v :: vs).length = off + k + (vs.length + 1) from rfl]
    have := ih (cs.setIfInBounds (off + k) v) off (k + 1) (by first | (simp only [List.length_cons] at h; simp only [Array.size_setIfInBounds]; omega) | skip)
    rw [this, ← list_seg_step cs.toList (off + k) v vs (by simp only [List.length_cons] at h; rw [Array.length_toList]; omega)]
    simp [Nat.add_assoc]
theorem fillS_run {place : Nat → Option (Nat × Nat)} : ∀ {parts : List (Nat × Option V)} {cells cs : List C} {vals : List (Nat × Value)},
    fillS place cells parts = some cs → vals = parts.map (fun p => (p.1, (p.2.map (V.den I ρ β)).getD undef)) → Instr.fill place (cellsOf I ρ β cells) vals = some (cellsOf I ρ β cs)
  | [], cells, cs, vals, h, hv => by
    subst hv
    injection h with h
    subst h
    rfl
  | (i, none) :: r, cells, cs, vals, h, hv => by cases h
  | (i, some v) :: r, cells, cs, vals, h, hv => by
    subst hv
    unfold fillS at h
    split at h
    · rename_i off n vs hp hc
      cases hb : (Nat.beq vs.length n && Nat.ble (off + vs.length) cells.length) with
      | false => rw [hb] at h; cases h
      | true =>
        rw [hb] at h
        simp only [Bool.and_eq_true, Nat.beq_eq, Nat.ble_eq] at hb
        obtain ⟨hn, hle⟩ := hb
        subst hn
        simp only [cond_true] at h
        have hcc := cells?_den (I := I) (ρ := ρ) (β := β) hc
        simp only [List.map_cons, Option.map_some, Option.getD_some, Instr.fill, hp, hcc, cellsOf_size, ne_eq, not_true_eq_false, decide_false, Bool.false_or]
        have hle2 : ¬ off + vs.length > cells.length := by omega
        simp only [hle2, decide_false, Bool.false_eq_true, if_false]
        have e : (Array.foldl (fun (cs : Array Value) (x : Value × Nat) => cs.setIfInBounds (off + x.2) x.1) (cellsOf I ρ β cells) (cellsOf I ρ β vs).zipIdx) = cellsOf I ρ β (setAt cells off vs) := by
          rw [setAt_den]
          apply Array.ext'
          have := fold_sets (vs.map (C.den I ρ β)) (cellsOf I ρ β cells) off 0 (by simpa [cellsOf_size] using hle)
          simp only [Nat.add_zero, List.length_map] at this
          rw [← this]
          simp [cellsOf]
        rw [e]
        exact fillS_run h rfl
    · cases h
theorem build_ok (h : WR I ρ w0 X n0 β0 β s w) {t : TypeId} {ps : List (Nat × Option V)} {parts : Array (Nat × Value)} {r : Result Next}
    (hps : parts.toList = ps.map (fun p => (p.1, (p.2.map (V.den I ρ β)).getD undef)))
    (hr : r = ((Instr.build t parts).run P w).andThen fun v w => .ok (.value v) w) : OpOk P I ρ w0 X n0 β0 β s r (buildS P s t ps) := by
  unfold buildS
  split
  · rename_i pl z hpl hz
    split
    · rename_i cs hcs
      have hf := fillS_run (I := I) (ρ := ρ) (β := β) hcs hps
      obtain ⟨zv, -, hzc, i, hi, hiz⟩ := zeroS_run (I := I) (ρ := ρ) (β := β) hz w
      have hb : P.built t parts.toList = some (cellsOf I ρ β cs) := by
        unfold placesS at hpl
        unfold Program.built
        split at hpl
        · rename_i n e hu
          split at hpl
          · rename_i ie hie
            injection hpl with hpl
            subst hpl
            simp only [hi, hu, hiz, hie, hzc]
            exact hf
          · cases hpl
        · rename_i fields hu
          split at hpl
          · rename_i places hp
            injection hpl with hpl
            subst hpl
            simp only [hi, hu, hiz, hp, hzc]
            exact hf
          · cases hpl
        · cases hpl
      exact .pure h (by rw [hr, run_build w t parts _ hb]; rfl)
    · trivial
  · trivial
theorem repeatS_den (z : List C) (hz : z ≠ []) : ∀ n, (Array.range (n * z.length)).map (fun i => (cellsOf I ρ β z)[i % (cellsOf I ρ β z).size]!) = cellsOf I ρ β (repeatS z n) := by
  intro n
  have hl : 0 < z.length := by cases z with | nil => exact absurd rfl hz | cons a l => simp
  apply Array.ext
  · simp only [Array.size_map, Array.size_range, cellsOf_size]
    induction n with
    | zero => simp [repeatS]
    | succ n ih => simp only [repeatS, List.length_append]; rw [← ih]; simp [Nat.succ_mul, Nat.add_comm]
  · intro i h1 h2
    have h2' : i < n * z.length := by simpa using h1
    have key : ∀ (n i : Nat), i < n * z.length → (repeatS z n)[i]? = z[i % z.length]? := by
      intro n
      induction n with
      | zero => intro i h; simp at h
      | succ n ih =>
        intro i h
        simp only [repeatS]
        by_cases hi : i < z.length
        · rw [List.getElem?_append_left hi, Nat.mod_eq_of_lt hi]
        · rw [List.getElem?_append_right (by omega), ih _ (by rw [Nat.succ_mul] at h; omega)]
          congr 1
          rw [← Nat.mod_eq_sub_mod (by omega)]
    have hm : i % z.length < z.length := Nat.mod_lt _ hl
    have e1 : (cellsOf I ρ β (repeatS z n))[i]? = (cellsOf I ρ β z)[i % z.length]? := by rw [cellsOf_get, cellsOf_get, key n i h2']
    rw [Array.getElem?_eq_getElem h2, Array.getElem?_eq_getElem (by simpa [cellsOf_size] using hm)] at e1
    injection e1 with e1
    rw [e1]
    simp only [Array.getElem_map, Array.getElem_range, cellsOf_size]
    rw [getElem!_pos (cellsOf I ρ β z) (i % z.length) (by simpa [cellsOf_size] using hm)]
theorem buildSlice_ok (h : WR I ρ w0 X n0 β0 β s w) {t : TypeId} {len : Nat} {ps : List (Nat × Option V)} {parts : Array (Nat × Value)} {r : Result Next}
    (hps : parts.toList = ps.map (fun p => (p.1, (p.2.map (V.den I ρ β)).getD undef)))
    (hr : r = ((Instr.buildSlice t len parts).run P w).andThen fun v w => .ok (.value v) w) : OpOk P I ρ w0 X n0 β0 β s r (buildSliceS P s t len ps) := by
  unfold buildSliceS
  split
  · rename_i e hu
    split
    · rename_i n z hn hz
      cases hb : (Nat.beq z.length n && (Nat.ble 1 (len * n) && Nat.ble (len * n) 65536)) with
      | false => trivial
      | true =>
        simp only [Bool.and_eq_true, Nat.beq_eq, Nat.ble_eq] at hb
        obtain ⟨hzl, h1, h2⟩ := hb
        simp only [cond_true]
        split
        · rename_i cs hcs
          cases hw : (allWf s.nb cs && (!Nat.beq e opqTy && !opn e)) with
          | false => trivial
          | true =>
            simp only [Bool.and_eq_true, Bool.not_eq_true'] at hw
            obtain ⟨hw, hty, hto⟩ := hw
            have hwf : ∀ c ∈ cs, c.wf s.nb = true := by simpa [allWf] using hw
            obtain ⟨zv, hzr, hzc, -⟩ := zeroS_run (I := I) (ρ := ρ) (β := β) hz w
            have hz0 : z ≠ [] := by rintro rfl; subst hzl; simp at h1
            have hf := fillS_run (I := I) (ρ := ρ) (β := β) hcs hps
            simp only [cond_true, S.allocK_eq]
            refine ⟨_, _, .inl ?_, h.alloc e hty hto hwf, up_lt, Nat.le_succ _⟩
            have hlt : ¬ len * n > 2 ^ 24 := by
              have : (2 : Nat) ^ 24 = 16777216 := by decide
              omega
            have hne : ¬ len * n = 0 := by omega
            have hrep := repeatS_den (I := I) (ρ := ρ) (β := β) z hz0 len
            rw [hzl] at hrep
            rw [hr]
            simp only [Instr.buildSlice, Sem.run_bind, run_underlying hu, Result.andThen_ok, run_size hn, hlt, if_false, hne, hzr, Sem.run_pure, hzc, hrep, hf, newRow, run_newObj]
            simp only [V.den, C.den, up_self]
            rfl
        · trivial
    · trivial
  · trivial
theorem addr_add (g o k : Nat) : (⟨g, o, none⟩ : Addr).add k = ⟨g, o + k, none⟩ := by unfold Addr.add; split <;> simp_all
theorem field_ok (h : WR I ρ w0 X n0 β0 β s w) {t : TypeId} {x : Option V} {f : Nat} {a : Value} {r : Result Next} (hx : ∀ v, x = some v → a = v.den I ρ β)
    (hr : r = ((Instr.fieldAt t a f).run P w).andThen fun v w => .ok (.value v) w) : OpOk P I ρ w0 X n0 β0 β s r (fieldS P s t x f) := by
  unfold fieldS
  split
  · rename_i fields id off hu
    split
    · rename_i fl hfl
      split
      · rename_i n hn
        refine .pure h ?_
        rw [hr, hx _ rfl]
        simp only [Instr.fieldAt, V.den, C.den, Sem.run_bind, run_underlying hu, Result.andThen_ok, hfl, Instr.sureAddr, Sem.run_pure, fieldPlace, run_size hn, Nat.succ_ne_zero, Nat.add_eq_zero_iff, Nat.one_ne_zero, and_false, if_false, addr_add]
      · trivial
    · trivial
  · trivial
theorem fieldOf_ok (h : WR I ρ w0 X n0 β0 β s w) {t : TypeId} {x : Option V} {f : Nat} {a : Value} {r : Result Next} (hx : ∀ v, x = some v → a = v.den I ρ β)
    (hr : r = ((Instr.field t a f).run P w).andThen fun v w => .ok (.value v) w) : OpOk P I ρ w0 X n0 β0 β s r (fieldOfS P s t x f) := by
  unfold fieldOfS
  split
  · rename_i fields cs hu
    split
    · rename_i fl hfl
      refine .put h fun v hv => ?_
      rw [hr, hx _ rfl]
      simp only [Instr.field, V.den, Sem.run_bind, run_underlying hu, Result.andThen_ok, hfl, asAgg, Sem.run_pure, partS_run hv]
    · trivial
  · trivial
theorem ixOf_ok {k : Nat} {t : T} (hk : s.known.Ok I ρ) (h : ixOf s t = .at_ k) : t.den I ρ = Int.ofNat k := by
  unfold ixOf at h
  rw [T.ivK_eq] at h
  split at h
  · rename_i l hh e
    have := T.iv_ok hk t
    rw [e] at this
    cases hb : Nat.beq l hh with
    | true =>
      rw [hb] at h
      injection h with h
      subst h
      have e2 := Nat.eq_of_beq_eq_true hb
      subst e2
      have h1 := this.1 _ rfl
      have h2 := this.2 _ rfl
      exact Int.le_antisymm h2 h1
    | false =>
      rw [hb] at h
      cases hc : (Nat.blt l hh && Nat.blt hh 64) with
      | true => rw [hc] at h; cases h
      | false => rw [hc] at h; cases h
  · cases h
theorem indexAddr_ok (h : WR I ρ w0 X n0 β0 β s w) {t : TypeId} {x i : Option V} {a u : Value} {r : Result Next} (hx : ∀ v, x = some v → a = v.den I ρ β) (hi : ∀ v, i = some v → u = v.den I ρ β)
    (hr : r = ((Instr.indexAt t a u).run P w).andThen fun v w => .ok (.value v) w) : OpOk P I ρ w0 X n0 β0 β s r (indexAddrS P s t x i) := by
  unfold indexAddrS
  split
  · rename_i kk tt
    have hi' := hi _ rfl
    split
    case h_2 => trivial
    case h_3 => trivial
    rename_i k hix
    have hk := ixOf_ok h.known hix
    split
    · rename_i len e id off hu
      split
      · rename_i n hn
        cases hb : Nat.blt k len with
        | false => trivial
        | true =>
          have hlt : k < len := by simpa using hb
          refine .pure h ?_
          rw [hr, hx _ rfl, hi']
          have h1 : (0 : Int) ≤ Int.ofNat k ∧ Int.ofNat k < (len : Int) := ⟨Int.natCast_nonneg k, Int.ofNat_lt.2 hlt⟩
          simp only [Instr.indexAt, V.den, C.den, hk, asIntOf, Sem.run_bind, Sem.run_pure, run_underlying hu, Result.andThen_ok, Instr.sureAddr, h1, and_self, if_true, run_size hn, addr_add]
          rfl
      · trivial
    · rename_i e id off len cap hu
      split
      · rename_i n hn
        cases hb : Nat.blt k len with
        | false => trivial
        | true =>
          have hlt : k < len := by simpa using hb
          refine .pure h ?_
          rw [hr, hx _ rfl, hi']
          have h1 : (0 : Int) ≤ Int.ofNat k ∧ Int.ofNat k < (len : Int) := ⟨Int.natCast_nonneg k, Int.ofNat_lt.2 hlt⟩
          simp only [Instr.indexAt, V.den, C.den, hk, asIntOf, Sem.run_bind, Sem.run_pure, run_underlying hu, Result.andThen_ok, h1, and_self, if_true, run_size hn, addr_add]
          rfl
      · trivial
    · rename_i e id cid off skip len hu
      split
      · rename_i n hn
        cases hb : Nat.blt k len with
        | false => trivial
        | true =>
          have hlt : k < len := by simpa using hb
          refine .pure h ?_
          rw [hr, hx _ rfl, hi']
          have h1 : (0 : Int) ≤ Int.ofNat k ∧ Int.ofNat k < (len : Int) := ⟨Int.natCast_nonneg k, Int.ofNat_lt.2 hlt⟩
          simp only [Instr.indexAt, V.den, C.den, hk, asIntOf, Sem.run_bind, Sem.run_pure, run_underlying hu, Result.andThen_ok, h1, and_self, if_true, run_size hn, addr_add]
          rfl
      · trivial
    · trivial
  · trivial
theorem index_ok (h : WR I ρ w0 X n0 β0 β s w) {t : TypeId} {x i : Option V} {a u : Value} {r : Result Next} (hx : ∀ v, x = some v → a = v.den I ρ β) (hi : ∀ v, i = some v → u = v.den I ρ β)
    (hr : r = ((Instr.index t a u).run P w).andThen fun v w => .ok (.value v) w) : OpOk P I ρ w0 X n0 β0 β s r (indexS P s t x i) := by
  unfold indexS
  split
  · rename_i kk tt
    have hi' := hi _ rfl
    split
    case h_2 => trivial
    case h_3 => trivial
    rename_i k hix
    have hk := ixOf_ok h.known hix
    split
    · rename_i len e cs hu
      split
      · rename_i n hn
        cases hb : Nat.blt k len with
        | false => trivial
        | true =>
          have hlt : k < len := by simpa using hb
          refine .put h fun v hv => ?_
          rw [hr, hx _ rfl, hi']
          have h1 : (0 : Int) ≤ Int.ofNat k ∧ Int.ofNat k < (len : Int) := ⟨Int.natCast_nonneg k, Int.ofNat_lt.2 hlt⟩
          have := partS_run (I := I) (ρ := ρ) (β := β) hv w
          simp only [Instr.index, V.den, C.den, hk, asIntOf, Sem.run_bind, Sem.run_pure, run_underlying hu, Result.andThen_ok, h1, and_self, if_true, run_size hn]
          rw [show (Int.ofNat k).toNat = k from rfl, this]
          rfl
      · trivial
    · rename_i b hu
      split
      · rename_i d hd
        rw [natF_eq]
        refine .pure h ?_
        rw [hr, hx _ rfl, hi']
        have h1 : (0 : Int) ≤ Int.ofNat k := Int.natCast_nonneg k
        have hg : b[k]? = some d := by
          have hlt := (Array.getElem?_eq_some_iff.1 hd).1
          have : k < b.size := hlt
          rw [getElem?_pos b k this]
          have e := (Array.getElem?_eq_some_iff.1 hd).2
          exact congrArg some e
        simp only [Instr.index, V.den, C.den, hk, asIntOf, Sem.run_bind, Sem.run_pure, run_underlying hu, Result.andThen_ok, h1, if_true]
        rw [show (Int.ofNat k).toNat = k from rfl, hg]
        rfl
      · trivial
    · trivial
  · trivial
theorem un_ok (h : WR I ρ w0 X n0 β0 β s w) {op : UnOp} {x : Option V} {a : Value} {r : Result Next} (hx : ∀ v, x = some v → a = v.den I ρ β)
    (hr : r = ((Op.unary op a).run P w).andThen fun v w => .ok (.value v) w) : OpOk P I ρ w0 X n0 β0 β s r (unS s op x) := by
  unfold unS
  split
  · refine .pure h ?_
    rw [hr, hx _ rfl]
    simp only [V.den, C.den, Op.unary, Op.intArith, Sem.run_pure, Result.andThen_ok, T.den_wrapK h.known, T.den_mkBin, IOp.ev, T.den_lit]
  · refine .pure h ?_
    rw [hr, hx _ rfl]
    simp only [V.den, C.den, Op.unary, Sem.run_pure, Result.andThen_ok, B.den_mkNot]
  · trivial
theorem conv_ok (h : WR I ρ w0 X n0 β0 β s w) {src dst : TypeId} {x : Option V} {a : Value} {r : Result Next} (hx : ∀ v, x = some v → a = v.den I ρ β)
    (hr : r = ((convert src dst a).run P w).andThen fun v w => .ok (.value v) w) : OpOk P I ρ w0 X n0 β0 β s r (convS P s src dst x) := by
  unfold convS
  split
  · rename_i q k q2 aa hu1 hu2
    refine .pure h ?_
    rw [hr, hx _ rfl]
    simp only [V.den, C.den, convert, Sem.run_bind, run_underlying hu1, run_underlying hu2, Result.andThen_ok, Conv.intToInt, Sem.run_pure, T.den_wrapK h.known]
  · trivial
theorem capsS_den : ∀ {l : List (Option V)} {cs : List (Nat × Nat)}, capsS l = some cs → l.map (fun x => (x.map (V.den I ρ β)).getD undef) = cs.map fun p => Value.pointer (some ⟨β p.1, p.2, none⟩)
  | [], cs, h => by injection h with h; subst h; rfl
  | x :: r, cs, h => by
    unfold capsS at h
    split at h
    · rename_i e; cases e
    · rename_i id off r' e
      obtain ⟨e1, e2⟩ := List.cons.inj e
      subst e1 e2
      obtain ⟨cs', h1, rfl⟩ := Option.map_eq_some_iff.1 h
      simp only [List.map_cons, capsS_den h1]
      rfl
    · cases h
theorem len_ok (h : WR I ρ w0 X n0 β0 β s w) {t : TypeId} {ty : TypeId} {x : V} {tys : Array TypeId} {xs : Array Value} {r : Result Next} (ht : tys[0]? = some t) (hx : xs[0]? = some (x.den I ρ β))
    (hr : r = ((Builtin.len_ tys ty xs).run P w).andThen fun v w => .ok (.value v) w) : OpOk P I ρ w0 X n0 β0 β s r (lenS P s t x) := by
  unfold lenS
  split
  · rename_i hu
    exact .pure h (by rw [hr]; simp only [Builtin.len_, ht, hx, V.den, C.den, Sem.run_bind, run_underlying hu, Result.andThen_ok, Sem.run_pure]; rfl)
  · rename_i hu
    exact .pure h (by rw [hr]; simp only [Builtin.len_, ht, hx, V.den, C.den, Sem.run_bind, run_underlying hu, Result.andThen_ok, Sem.run_pure]; rfl)
  · rename_i hu
    exact .pure h (by rw [hr]; simp only [Builtin.len_, ht, hx, V.den, C.den, Sem.run_bind, run_underlying hu, Result.andThen_ok, Sem.run_pure]; rfl)
  · rename_i id hu
    split
    · rename_i cs hcs
      obtain ⟨b, hb, hbo, rfl⟩ := findOpq_mem hcs
      obtain ⟨p, n, cap, e, hn⟩ := I.opq.slice _ _ _ (h.held _ hb hbo).1
      refine .pure h ?_
      rw [hr]
      have e' : (C.opq id).den I ρ β = .slice p n cap := e
      simp only [Builtin.len_, ht, hx, V.den, e', Sem.run_bind, run_underlying hu, Result.andThen_ok, Sem.run_pure]
      simp only [C.den, T.den_app, cellsT_dens, I.len, ← hn]
      rfl
    · trivial
  · rename_i hu
    obtain ⟨p, n, cap, e, hn, -⟩ := I.lst
    refine .pure h ?_
    rw [hr]
    have e' : (C.abs 0 .nil).den I ρ β = .slice p n cap := e
    simp only [Builtin.len_, ht, hx, V.den, e', Sem.run_bind, run_underlying hu, Result.andThen_ok, Sem.run_pure]
    simp only [C.den, T.den_app, T.dens_nil, hn]
    rfl
  · rename_i n hu
    exact .pure h (by rw [hr]; simp only [Builtin.len_, ht, hx, Sem.run_bind, run_underlying hu, Result.andThen_ok, Sem.run_pure]; rfl)
  · rename_i hu
    exact .pure h (by rw [hr]; simp only [Builtin.len_, ht, hx, V.den, C.den, Sem.run_bind, run_underlying hu, Result.andThen_ok, Sem.run_pure]; rfl)
  · trivial
theorem foldMax_run (k : IntKind) : ∀ {l : List (Option V)} {a t : T}, foldS .max k a l = some t → ∀ w : World, ((l.map fun x => (x.map (V.den I ρ β)).getD undef).foldlM Builtin.max2 (Value.int k (a.den I ρ))).run P w = .ok (.int k (t.den I ρ)) w
  | [], a, t, h, w => by injection h with h; subst h; rfl
  | x :: r, a, t, h, w => by
    unfold foldS at h
    split at h
    · rename_i e; cases e
    · rename_i q b r' e
      obtain ⟨e1, e2⟩ := List.cons.inj e
      subst e1 e2
      have := foldMax_run k h w
      rw [T.den_mkBin] at this
      simp only [List.map_cons, List.foldlM_cons, Option.map_some, Option.getD_some, V.den, C.den, Builtin.max2, Sem.run_bind, Sem.run_pure, Result.andThen_ok]
      exact this
    · cases h
theorem foldMin_run (k : IntKind) : ∀ {l : List (Option V)} {a t : T}, foldS .min k a l = some t → ∀ w : World, ((l.map fun x => (x.map (V.den I ρ β)).getD undef).foldlM Builtin.min2 (Value.int k (a.den I ρ))).run P w = .ok (.int k (t.den I ρ)) w
  | [], a, t, h, w => by injection h with h; subst h; rfl
  | x :: r, a, t, h, w => by
    unfold foldS at h
    split at h
    · rename_i e; cases e
    · rename_i q b r' e
      obtain ⟨e1, e2⟩ := List.cons.inj e
      subst e1 e2
      have := foldMin_run k h w
      rw [T.den_mkBin] at this
      simp only [List.map_cons, List.foldlM_cons, Option.map_some, Option.getD_some, V.den, C.den, Builtin.min2, Sem.run_bind, Sem.run_pure, Result.andThen_ok]
      exact this
    · cases h
theorem tupV_den (p : Bool × List C) : (tupV p).den I ρ β = partOf I ρ β p := by
  obtain ⟨b, cs⟩ := p
  cases b
  · cases cs <;> rfl
  · rfl
theorem toP0s_den : ∀ {cs : List C} {ps : List P0}, toP0s cs = some ps → cs.map (C.den I ρ β) = ps.map (P0.den I ρ)
  | [], ps, h => by injection h with h; subst h; rfl
  | .int k t :: r, ps, h => by
    obtain ⟨q, hq, rfl⟩ := Option.map_eq_some_iff.1 h
    simp only [List.map_cons, toP0s_den hq, C.den, P0.den]
  | .bool b :: r, ps, h => by
    obtain ⟨q, hq, rfl⟩ := Option.map_eq_some_iff.1 h
    simp only [List.map_cons, toP0s_den hq, C.den, P0.den]
  | .osl .. :: _, _, h | .ptr .. :: _, _, h | .nilp :: _, _, h | .slice .. :: _, _, h | .nils :: _, _, h | .fn .. :: _, _, h | .str _ :: _, _, h | .nilf :: _, _, h | .abs .. :: _, _, h | .opq _ :: _, _, h | .ifc .. :: _, _, h | .yld _ :: _, _, h | .nili :: _, _, h => by cases h
theorem ofP0s_den : ∀ ps : List P0, (ofP0s ps).map (C.den I ρ β) = ps.map (P0.den I ρ)
  | [] => rfl
  | .int k t :: r => by simp only [ofP0s, List.map_cons, ofP0s_den r, C.den, P0.den]
  | .bool b :: r => by simp only [ofP0s, List.map_cons, ofP0s_den r, C.den, P0.den]
theorem partV0_den {v : V} {p : Bool × List C} (h : partV0 v = some p) : partOf I ρ β p = v.den I ρ β := by
  cases v with
  | c x => injection h with h; subst h; rfl
  | agg cs => injection h with h; subst h; rfl
  | tup _ => cases h
  | any _ => cases h
theorem payS_den (t : TypeId) (ag : Bool) (ps : List P0) : ifcDen I ρ t ag ps = .iface t ((payS ag ps).den I ρ β) := by
  cases ps with
  | nil => cases ag <;> rfl
  | cons p r =>
    have e := ofP0s_den (I := I) (ρ := ρ) (β := β) (p :: r)
    cases ag with
    | true => simp only [ifcDen, payS, V.den, cellsOf]; rw [e]
    | false => cases p <;> rfl
theorem makeIface_ok (h : WR I ρ w0 X n0 β0 β s w) {t : TypeId} {x : Option V} {a : Value} {r : Result Next} (hx : ∀ v, x = some v → a = v.den I ρ β)
    (hr : r = ((Instr.makeInterface t a).run P w).andThen fun v w => .ok (.value v) w) : OpOk P I ρ w0 X n0 β0 β s r (makeIfaceS P s t x) := by
  have run : ∀ {d : TypeDesc}, P.underlying t = some d → isIface d = false → (Instr.makeInterface t a).run P w = .ok (.iface t a) w := fun {d} hu hd => by
    unfold Instr.makeInterface
    rw [Sem.run_bind, run_underlying hu w]
    cases d <;> first | rfl | cases hd
  unfold makeIfaceS
  split
  · rename_i d c hu
    cases hd : isIface d with
    | true => trivial
    | false =>
      simp only [cond_false]
      split
      · rename_i ps hps
        refine .pure h ?_
        rw [hr, run hu hd, hx _ rfl]
        have := toP0s_den (I := I) (ρ := ρ) (β := β) hps
        cases ps with
        | nil => simp at this
        | cons p q =>
          simp only [List.map_cons, List.map_nil, List.cons.injEq] at this
          show Result.ok (Next.value (Value.iface t (c.den I ρ β))) w = Result.ok (Next.value (Value.iface t (p.den I ρ))) w
          rw [this.1]
      · trivial
  · rename_i d cs hu
    cases hd : isIface d with
    | true => trivial
    | false =>
      simp only [cond_false]
      split
      · rename_i ps hps
        refine .pure h ?_
        rw [hr, run hu hd, hx _ rfl]
        have := toP0s_den (I := I) (ρ := ρ) (β := β) hps
        simp only [Result.andThen_ok, V.den, C.den, ifcDen, cellsOf, this]
      · trivial
  · trivial
theorem assert_ok (h : WR I ρ w0 X n0 β0 β s w) {xt u : TypeId} {ok : Bool} {x : Option V} {a : Value} {r : Result Next} (hx : ∀ v, x = some v → a = v.den I ρ β)
    (hr : r = ((Instr.typeAssert a xt u ok).run P w).andThen fun v w => .ok (.value v) w) : OpOk P I ρ w0 X n0 β0 β s r (assertS P s u ok x) := by
  unfold assertS
  split
  · rename_i d t ag ps hu
    cases hd : isIface d with
    | true => trivial
    | false =>
      simp only [cond_false]
      have ha : a = .iface t ((payS ag ps).den I ρ β) := by rw [hx _ rfl]; exact payS_den t ag ps
      subst ha
      cases ht : Nat.beq t u with
      | true =>
        have e := Nat.eq_of_beq_eq_true ht
        subst e
        simp only [cond_true]
        have run : (Instr.typeAssert (.iface t ((payS ag ps).den I ρ β)) xt t ok).run P w = .ok (if ok then .tuple #[(payS ag ps).den I ρ β, .bool true] else (payS ag ps).den I ρ β) w := by
          unfold Instr.typeAssert
          simp only [Sem.run_bind, run_underlying hu w, Result.andThen_ok]
          cases d <;> first | (cases hd; done) | (simp only [if_true, Sem.run_pure])
        split
        · rename_i p hp
          refine .pure h ?_
          rw [hr, run]
          simp only [if_true, Result.andThen_ok, V.den, List.map_cons, List.map_nil, partV0_den hp]
          rfl
        · refine .pure h ?_
          rw [hr, run]
          simp only [Bool.false_eq_true, if_false, Result.andThen_ok]
        · trivial
      | false =>
        have hne : ¬ t = u := fun e => by subst e; simp at ht
        simp only [cond_false]
        split
        · rename_i i hi
          split
          · rename_i z hz
            split
            · rename_i p hp
              refine .pure h ?_
              obtain ⟨v, hv, hpv⟩ := Option.bind_eq_some_iff.1 hp
              have hzr : (zeroValue u).run P w = .ok z w := by simp [zeroValue, typeInfo, hi, hz]
              have run : (Instr.typeAssert (.iface t ((payS ag ps).den I ρ β)) xt u true).run P w = .ok (.tuple #[z, .bool false]) w := by
                unfold Instr.typeAssert
                simp only [Sem.run_bind, run_underlying hu w, Result.andThen_ok]
                cases d <;> first | (cases hd; done) | (simp only [hne, if_false, if_true, Sem.run_bind, hzr, Result.andThen_ok, Sem.run_pure])
              rw [hr, run]
              have e1 : partOf I ρ β p = z := (partV0_den hpv).trans (vOf_den hv)
              show Result.ok (Next.value (Value.tuple #[z, .bool false])) w = Result.ok (Next.value (Value.tuple [partOf I ρ β p, .bool false].toArray)) w
              rw [e1]
            · trivial
          · trivial
        · trivial
  · trivial
end
section
variable {P : Program} {I : Interp} {ρ : Env} {w0 w : World} {X : Nat → Prop} {n0 : Nat} {β0 β : Nat → Nat} {s : S}
theorem partOfRow_ok (h : WR I ρ w0 X n0 β0 β s w) {id off k : Nat} {cs : List C} (hp : partOfRow s id off k = some cs) :
    cs.length = k ∧ (∀ c ∈ cs, c.wf s.nb = true) ∧ ∀ j u, (cs.map (C.den I ρ β))[j]? = some u → w.cell? ((⟨β id, off, none⟩ : Addr).add j) = some u := by
  unfold partOfRow at hp
  split at hp
  · rename_i b hb
    obtain ⟨hm, hl⟩ := find_mem hb
    cases hc : Nat.ble (off + k) b.row.length with
    | false => rw [hc] at hp; cases hp
    | true =>
      rw [hc] at hp
      injection hp with hp
      subst hp
      have hle : off + k ≤ b.row.length := by simpa using hc
      refine ⟨by simp; omega, fun c hc => h.cwf _ hm c (Blk.row_sub c (List.mem_of_mem_drop (List.mem_of_mem_take hc))), fun j u hu => ?_⟩
      rw [addr_add]
      simp only [List.getElem?_map, List.getElem?_take, List.getElem?_drop] at hu
      split at hu
      · obtain ⟨c, hc, rfl⟩ := Option.map_eq_some_iff.1 hu
        exact row_cell h hm hl hc
      · cases hu
  · cases hp
theorem srcS_ok (h : WR I ρ w0 X n0 β0 β s w) {n m : Nat} {y : Option V} {news : List C} (hs : srcS s n y = some (m, news)) :
    news.length = m * n ∧ (∀ c ∈ news, c.wf s.nb = true) ∧ ∃ v a c, y = some v ∧ v.den I ρ β = .slice (some a) m c ∧ ∀ j u, (news.map (C.den I ρ β))[j]? = some u → w.cell? (a.add j) = some u := by
  unfold srcS at hs
  split at hs
  · rename_i id off len cap
    obtain ⟨cs, h1, h2⟩ := Option.map_eq_some_iff.1 hs
    cases h2
    obtain ⟨k1, k2, k3⟩ := partOfRow_ok h h1
    exact ⟨k1, k2, _, _, _, rfl, rfl, k3⟩
  · rename_i id cid off skip len
    obtain ⟨cs, h1, h2⟩ := Option.map_eq_some_iff.1 hs
    cases h2
    obtain ⟨k1, k2, k3⟩ := partOfRow_ok h h1
    exact ⟨k1, k2, _, _, _, rfl, rfl, k3⟩
  · cases hs
theorem oty_facts {e n : Nat} (hn : n < 4096) : opn (oty e n) = true ∧ rty (oty e n) = e ∧ szO (oty e n) = n := by
  refine ⟨?_, ?_, ?_⟩
  · unfold opn oty openTy; simp
  · unfold rty oty; rw [Nat.add_sub_cancel_left]; show (e * 4096 + n : Nat) / 4096 = e; omega
  · unfold szO oty; rw [Nat.add_sub_cancel_left]; show (e * 4096 + n : Nat) % 4096 = n; omega
theorem zPlain_den {c : C} (h : zPlain c = true) (d : Int) : c.den I ρ β ≠ .int .u32 d := by
  cases c <;> simp only [zPlain, Bool.not_eq_true', Bool.false_eq_true] at h <;> simp only [C.den] <;> intro e <;> first | (cases e; done) | skip
  injection e with e1 e2
  subst e1
  cases h
theorem zeroCells_dig {z : Array Value} {zs : List C} (hz : z = cellsOf I ρ β zs) (hp : zs.all zPlain = true) (k : Nat) : NoDig (Builtin.zeroCells z k).toList := by
  intro v hv d e
  subst e
  unfold Builtin.zeroCells at hv
  simp only [Array.toList_map, List.mem_map, Array.mem_toList_iff, Array.mem_range] at hv
  obtain ⟨i, hi, hv⟩ := hv
  have hpos : 0 < z.size := by
    rcases Nat.eq_zero_or_pos z.size with h0 | h0
    · rw [h0] at hi; omega
    · exact h0
  have hm := Nat.mod_lt i hpos
  rw [getElem!_pos z _ hm] at hv
  subst hz
  have hk : (cellsOf I ρ β zs)[i % (cellsOf I ρ β zs).size]? = some (.int .u32 d) := by rw [Array.getElem?_eq_getElem hm, hv]
  rw [cellsOf_get] at hk
  obtain ⟨c, hc, hcd⟩ := Option.map_eq_some_iff.1 hk
  exact zPlain_den (List.all_eq_true.1 hp c (List.mem_of_getElem? hc)) d hcd
theorem WR.grown (h : WR I ρ w0 X n0 β0 β s w) {e n k cap : Nat} {cs : List C} {zs : List C} {z : Array Value} (hz : z = cellsOf I ρ β zs) (hp : zs.all zPlain = true) (hzn : zs.length = n) (hn0 : 0 < n) (hn : n < 4096) (hcs : cs.length = k * n) (hk : k ≤ cap) (hwf : ∀ c ∈ cs, c.wf s.nb = true) :
    WR I ρ w0 X n0 β0 (up (up β s.nb w.heap.size) (s.nb + 1) cap) (s.alloc2 (oty e n) cs) (w.drew.alloc (.cells ((cs.map (C.den I ρ β)).toArray ++ Builtin.zeroCells z (cap - k)) e)) := by
  obtain ⟨o1, o2, o3⟩ := oty_facts (e := e) hn
  have hag : ∀ id, id < s.nb → up (up β s.nb w.heap.size) (s.nb + 1) cap id = β id := fun id hid => (up_lt id (by omega)).trans (up_lt id hid)
  have e0 : up (up β s.nb w.heap.size) (s.nb + 1) cap s.nb = w.heap.size := (up_lt _ (by omega)).trans up_self
  have e1 : up (up β s.nb w.heap.size) (s.nb + 1) cap (s.nb + 1) = cap := up_self
  have hwn : ∀ (o : Obj), (w.drew.alloc o).heap[w.heap.size]? = some o := fun o => heap_alloc_new w.drew o
  refine h.newR (n := s.nb + 2) (ty := oty e n) (cs := .yld (s.nb + 1) :: cs) (by omega) hag (opn_opq o1) (fun c hc => ?_) (h.keeps.trans ⟨rfl, rfl, rfl, by show w.heap.size ≤ (w.heap.push _).size; simp, fun g hg _ => heap_alloc_old w.drew _ g hg⟩) ?_ (fun p hp ho => ⟨heap_alloc_old w.drew _ _ (h.lt hp ho), ?_⟩) ?_ (fun p hp ho g hg => ?_)
  · rcases List.mem_cons.1 hc with hc | hc
    · subst hc; simp [C.wf]
    · exact C.wf_mono (by omega) (hwf c hc)
  · unfold RowP
    simp only [o1]
    unfold OpenRow
    have hds : ∀ c ∈ cs, c.den I ρ (up (up β s.nb w.heap.size) (s.nb + 1) cap) = c.den I ρ β := fun c hc => C.den_agree (hwf c hc) hag
    refine ⟨(cs.map (C.den I ρ β)).toArray ++ Builtin.zeroCells z (cap - k), ?_, ?_, ?_, ?_, ?_, by rw [o3]; exact hn0⟩
    · rw [e0, o2]; exact hwn _
    · have hzs : z.size = n := by rw [hz, cellsOf_size, hzn]
      have h1 : ((cs.map (C.den I ρ β)).toArray ++ Builtin.zeroCells z (cap - k)).size = cs.length + (cap - k) * n := by
        rw [Array.size_append, size_zeroCells, hzs, List.size_toArray, List.length_map]
      rw [h1, e1, o3, hcs, ← Nat.add_mul, show k + (cap - k) = cap by omega]
    · rw [Array.toList_append, List.take_append_of_le_length (by simp)]
      simp only
      rw [List.take_of_length_le (by simp)]
      exact List.map_congr_left fun c hc => (hds c hc).symm
    · rw [Array.size_append, List.size_toArray, List.length_map]; omega
    · rw [Array.toList_append, List.drop_append_of_le_length (by simp)]
      simp only
      rw [List.drop_of_length_le (by simp), List.nil_append]
      exact zeroCells_dig hz hp _
  · rw [e0]; have := h.lt hp ho; omega
  · rw [e0]; exact .inr h.keeps.size
  · have := I.opq.lt w _ _ (h.held p hp ho).1 g hg
    rw [e0]
    exact ⟨heap_alloc_old w.drew _ g this, by omega⟩
end
section
variable {P : Program} {I : Interp} {ρ : Env} {w0 w : World} {X : Nat → Prop} {n0 : Nat} {β0 β : Nat → Nat} {s : S}
theorem fitsS_ok {k : Nat} {i : TypeInfo} (h : fitsS k i = true) : k * i.bytes ≤ 140737488355328 ∧ ((k : Nat) : Int) ≤ 9223372036854775807 := by
  unfold fitsS at h
  simp only [Bool.and_eq_true, Nat.ble_eq] at h
  exact ⟨h.1, by omega⟩
theorem grow_ok (h : WR I ρ w0 X n0 β0 β s w) {r : Result Next} {e n k len cap : Nat} {cs : List C} {zs : List C} {z : Array Value} (hz : z = cellsOf I ρ β zs) (hp : zs.all zPlain = true) (hzn : zs.length = n) (hn0 : 0 < n) (hn : n < 4096) (hcs : cs.length = k * n) (hk : k ≤ cap) (hwf : ∀ c ∈ cs, c.wf s.nb = true) (hlen : len = k)
    (hr : r = .ok (.value (.slice (some ⟨w.heap.size, 0, none⟩) k cap)) (w.drew.alloc (.cells ((cs.map (C.den I ρ β)).toArray ++ Builtin.zeroCells z (cap - k)) e))) : OpOk P I ρ w0 X n0 β0 β s r (growS s e n cs len) := by
  subst hlen
  unfold growS
  rw [S.alloc2K_eq]
  refine ⟨_, _, .inl ?_, h.grown (e := e) hz hp hzn hn0 hn hcs hk hwf, fun id hid => (up_lt id (by omega)).trans (up_lt id hid), by show s.nb ≤ s.nb + 2; omega⟩
  rw [hr]
  have e0 : up (up β s.nb w.heap.size) (s.nb + 1) cap s.nb = w.heap.size := (up_lt _ (by omega)).trans up_self
  have e1 : up (up β s.nb w.heap.size) (s.nb + 1) cap (s.nb + 1) = cap := up_self
  simp only [V.den, C.den, e0, e1, Nat.sub_zero]
theorem run_append_none {t ty e : TypeId} {i : TypeInfo} (ht : P.underlying t = some (.slice e)) (hi : P.info? e = some i) (p q : Option Addr) (n c c2 : Nat) (hle : n ≤ c) (w : World) :
    (Builtin.append_ #[t, t] ty #[.slice p n c, .slice q 0 c2]).run P w = .ok (.slice p n c) w := by
  have hf : (Builtin.firstCells i.size 0 (.slice q 0 c2)).run P w = .ok #[] w := by
    cases q with
    | none => simp [Builtin.firstCells]
    | some a => exact run_firstCells_some w i.size 0 a 0 c2 [] (by simp) (by simp)
  cases p <;> simp [Builtin.append_, run_underlying ht, sizeOf, typeInfo, hi, Builtin.lenOf, hle, hf, storeCells]
theorem noneS_ok {y : Option V} (h : noneS y = true) : ∃ v q c, y = some v ∧ v.den I ρ β = .slice q 0 c := by
  unfold noneS at h
  split at h
  · exact ⟨_, _, _, rfl, rfl⟩
  · exact ⟨_, _, _, rfl, rfl⟩
  · exact ⟨_, _, _, rfl, rfl⟩
  · cases h
theorem keep_ok (h : WR I ρ w0 X n0 β0 β s w) {t ty e : TypeId} {i : TypeInfo} (ht : P.underlying t = some (.slice e)) (hi : P.info? e = some i) {x : Option V} {q : Option Addr} {c2 : Nat} {r : Result Next}
    (hr : ∀ v, x = some v → r = ((Builtin.append_ #[t, t] ty #[v.den I ρ β, .slice q 0 c2]).run P w).andThen fun v w => .ok (.value v) w) : OpOk P I ρ w0 X n0 β0 β s r (keepS s i.size x) := by
  unfold keepS
  split
  · refine .pure h ?_
    rw [hr _ rfl]
    simp only [V.den, C.den, run_append_none ht hi none q 0 0 c2 (Nat.le_refl _), Result.andThen_ok]
  · rename_i id off len cap
    cases hb : Nat.ble len cap with
    | false => trivial
    | true =>
      refine .pure h ?_
      rw [hr _ rfl]
      simp only [V.den, C.den, run_append_none ht hi _ q len cap c2 (by simpa using hb), Result.andThen_ok]
  · rename_i id cid off skip len
    split
    case h_2 => trivial
    rename_i b hbf
    obtain ⟨hbm, hbl⟩ := find_mem hbf
    split
    case h_2 => trivial
    rename_i cid' rr hcells
    cases hb : (opn b.ty && (Nat.beq (szO b.ty) i.size && (Nat.beq cid cid' && Nat.ble ((skip + len) * i.size) rr.length))) with
    | false => trivial
    | true =>
      simp only [Bool.and_eq_true, Nat.ble_eq, Nat.beq_eq] at hb
      obtain ⟨ho, hs, rfl, g4⟩ := hb
      have hr0 := h.row _ hbm hbl
      unfold RowP at hr0
      simp only at hr0
      rw [ho] at hr0
      simp only at hr0
      rw [hcells] at hr0
      obtain ⟨cur, k1, k2, k3, k4, k5, k6⟩ := hr0
      rw [hs] at k2 k6
      have hle : skip + len ≤ β cid := Nat.le_of_mul_le_mul_right (by rw [← k2]; omega) k6
      refine .pure h ?_
      rw [hr _ rfl]
      simp only [V.den, C.den, run_append_none ht hi _ q len (β cid - skip) c2 (by omega), Result.andThen_ok]
  · trivial
theorem append_ok (h : WR I ρ w0 X n0 β0 β s w) {tys : Array TypeId} {ty : TypeId} {x y : Option V} {xs : Array Value} {r : Result Next} (hxy : ∀ vx vy, x = some vx → y = some vy → xs = #[vx.den I ρ β, vy.den I ρ β])
    (hr : r = ((Builtin.append_ tys ty xs).run P w).andThen fun v w => .ok (.value v) w) : OpOk P I ρ w0 X n0 β0 β s r (appendS P s tys x y) := by
  unfold appendS
  split
  case h_2 => trivial
  rename_i t t2 htys
  split
  case h_2 => trivial
  rename_i e hu heq
  have := Nat.eq_of_beq_eq_true heq
  subst this
  have htys : tys = #[t, t] := Array.ext' htys
  subst htys
  split
  case h_2 => trivial
  rename_i i z hi hz
  obtain ⟨zv, -, hzc, i', hi', hzv⟩ := zeroS_run (I := I) (ρ := ρ) (β := β) hz w
  rw [hi] at hi'
  injection hi' with hi'
  subst hi'
  cases hno : noneS y with
  | true =>
    obtain ⟨vy, q, c2, hy, hvy⟩ := noneS_ok (I := I) (ρ := ρ) (β := β) hno
    refine keep_ok (ty := ty) h hu hi (q := q) (c2 := c2) fun v hv => ?_
    rw [hr, hxy v vy hv hy, hvy]
  | false =>
  simp only [cond_false]
  split
  case h_2 => trivial
  rename_i m news hsrc
  obtain ⟨hnl, hnw, vy, a, c, hy, hvy, hcell⟩ := srcS_ok h hsrc
  cases hb : (Nat.blt 0 m && (Nat.blt 0 i.size && (Nat.blt i.size 4096 && (Nat.beq z.length i.size && (z.all zPlain && allWf s.nb news))))) with
  | false => trivial
  | true =>
    simp only [Bool.and_eq_true, Nat.blt_eq, Nat.beq_eq] at hb
    obtain ⟨hm, hs0, hs1, hzl, hzp, -⟩ := hb
    simp only [cond_true]
    have hnl' : (news.map (C.den I ρ β)).length = m * i.size := by rw [List.length_map]; exact hnl
    have hone : ∀ u ∈ news.map (C.den I ρ β), u.oneCell' = true := fun u hu => by obtain ⟨c, -, rfl⟩ := List.mem_map.1 hu; exact oneCell'_den c
    split
    · cases hf : fitsS m i with
      | false => trivial
      | true =>
        obtain ⟨f1, f2⟩ := fitsS_ok hf
        have hxs := hxy _ _ rfl hy
        rw [hvy] at hxs
        subst hxs
        have := run_append_nil (P := P) w t ty e i zv hu hi hzv a m c _ hnl' hcell hm f2 (by omega)
        refine grow_ok h hzc hzp hzl hs0 hs1 hnl (grownCap_ge w m 0 e) hnw rfl ?_
        rw [hr]
        simp only [V.den, C.den]
        rw [this]
        rfl
    · rename_i id off len cap
      split
      case h_2 => trivial
      rename_i b hbf
      obtain ⟨hbm, hbl⟩ := find_mem hbf
      have hxs := hxy _ _ rfl hy
      rw [hvy] at hxs
      subst hxs
      cases hcap : Nat.ble (len + m) cap with
      | true =>
        simp only [cond_true]
        cases hc : (Nat.beq off 0 && (Nat.beq b.ty e && (!opn b.ty && Nat.ble (len * i.size + news.length) b.row.length))) with
        | false => trivial
        | true =>
          simp only [Bool.and_eq_true, Nat.beq_eq, Bool.not_eq_true', Nat.ble_eq] at hc hcap
          obtain ⟨rfl, hbt, hbo, hfit⟩ := hc
          obtain ⟨cur, ty', h1, h2, h3⟩ := h.store hbm hbl hnw hfit
          have hrow := (RowP.closed hbo).1 (h.row _ hbm hbl)
          have e1 : b.row = b.cells := by unfold Blk.row; rw [hbo]
          have e2 : ∀ l, b.back l = l := fun l => by unfold Blk.back; rw [hbo]
          simp only at hrow
          rw [h1] at hrow
          injection hrow with hrow
          injection hrow with g1 g2 g3
          rw [g2, hbt] at h1
          rw [e1, e2] at h3
          simp only [cond_true, S.putK_eq]
          have := run_append_room (P := P) w t ty e i hu hi (β id) len cap cur h1 a m c _ hnl' hcell hone hcap (by rw [List.length_map]; exact h2)
          refine ⟨β, _, .inl ?_, h3, fun _ _ => rfl, Nat.le_refl _⟩
          rw [hr]
          simp only [V.den, C.den]
          rw [this, List.length_map]
          rfl
      | false =>
        simp only [cond_false]
        split
        case h_2 => trivial
        rename_i olds ho
        obtain ⟨o1, o2, o3⟩ := partOfRow_ok h ho
        cases hf : fitsS (len + m) i with
        | false => trivial
        | true =>
          obtain ⟨f1, f2⟩ := fitsS_ok hf
          have hlt : cap < len + m := by
            have : ¬ (len + m ≤ cap) := by
              intro hle
              rw [← Nat.ble_eq] at hle
              rw [hle] at hcap
              cases hcap
            omega
          have := run_append_grow (P := P) w t ty e i zv hu hi hzv ⟨β id, off, none⟩ len cap (olds.map (C.den I ρ β)) (by rw [List.length_map]; exact o1) o3 a m c _ hnl' hcell hlt f2 (growslice_fits hlt f1)
          refine grow_ok h hzc hzp hzl hs0 hs1 (by rw [List.length_append, o1, hnl, Nat.add_mul]) (grownCap_ge w (len + m) cap e) (fun c hc => ?_) rfl ?_
          · rcases List.mem_append.1 hc with hc | hc
            · exact o2 c hc
            · exact hnw c hc
          · rw [hr]
            simp only [V.den, C.den]
            rw [this]
            have ea : (olds.map (C.den I ρ β)).toArray ++ (news.map (C.den I ρ β)).toArray = (olds.map (C.den I ρ β) ++ news.map (C.den I ρ β)).toArray := by simp
            rw [ea, List.map_append]
            rfl
    · rename_i id cid off skip len
      split
      case h_2 => trivial
      rename_i b hbf
      obtain ⟨hbm, hbl⟩ := find_mem hbf
      have hxs := hxy _ _ rfl hy
      rw [hvy] at hxs
      subst hxs
      split
      case h_2 => trivial
      rename_i cid' olds hcells
      cases hc : (opn b.ty && (Nat.beq (rty b.ty) e && (Nat.beq (szO b.ty) i.size && (Nat.beq off 0 && (Nat.beq skip 0 && (Nat.beq cid cid' && (Nat.beq olds.length (len * i.size) && fitsS (len + m) i))))))) with
      | false => trivial
      | true =>
        simp only [Bool.and_eq_true, Nat.beq_eq] at hc
        obtain ⟨hbo, hbt, hbs, rfl, rfl, rfl, hol, hf⟩ := hc
        obtain ⟨f1, f2⟩ := fitsS_ok hf
        simp only [cond_true, S.putK_eq]
        have hr0 := h.row _ hbm hbl
        unfold RowP at hr0
        simp only at hr0
        rw [hbo] at hr0
        simp only at hr0
        rw [hcells] at hr0
        obtain ⟨cur, k1, k2, k3, k4, k5, k6⟩ := hr0
        have hcw := h.cwf _ hbm
        simp only at hcw
        rw [hcells] at hcw
        have how : ∀ c ∈ olds, c.wf s.nb = true := fun c hc => hcw c (.tail _ hc)
        have hcid : cid < s.nb := by simpa [C.wf] using hcw (.yld cid) (.head _)
        have hid : id < s.nb := h.idlt _ hbm
        rw [hbs] at k2
        rw [hbt] at k1
        have hall : ∀ c ∈ olds ++ news, c.wf s.nb = true := fun c hc => by
          rcases List.mem_append.1 hc with hc | hc
          · exact how c hc
          · exact hnw c hc
        have halls : (olds ++ news).length = (len + m) * i.size := by rw [List.length_append, hol, hnl, Nat.add_mul]
        have holdc : ∀ j u, (olds.map (C.den I ρ β))[j]? = some u → w.cell? ((⟨β id, 0, none⟩ : Addr).add j) = some u := fun j u hu => by
          rw [addr_add, Nat.zero_add]
          obtain ⟨c, hc, rfl⟩ := Option.map_eq_some_iff.1 (by simpa using hu)
          refine row_cell h hbm hbl ?_
          unfold Blk.row
          rw [hbo, hcells]
          exact hc
        by_cases hroom : len + m ≤ β cid
        · have hfit : len * i.size + (news.map (C.den I ρ β)).length ≤ cur.size := by rw [hnl', k2, ← Nat.add_mul]; exact Nat.mul_le_mul_right _ hroom
          have := run_append_room (P := P) w t ty e i hu hi (β id) len (β cid) cur k1 a m c _ hnl' hcell hone hroom hfit
          obtain ⟨o1, o2, o3⟩ := oty_facts (e := e) hs1
          unfold growS
          rw [S.alloc2K_eq]
          have e0 : up (up β s.nb (β id)) (s.nb + 1) (β cid) s.nb = β id := (up_lt _ (by omega)).trans up_self
          have e1 : up (up β s.nb (β id)) (s.nb + 1) (β cid) (s.nb + 1) = β cid := up_self
          have hag : ∀ k, k < s.nb → up (up β s.nb (β id)) (s.nb + 1) (β cid) k = β k := fun k hk => (up_lt k (by omega)).trans (up_lt k hk)
          refine ⟨up (up β s.nb (β id)) (s.nb + 1) (β cid), w.setRow (β id) (cur.toList.take (len * i.size) ++ news.map (C.den I ρ β) ++ cur.toList.drop (len * i.size + (news.map (C.den I ρ β)).length)).toArray, .inl ?_, h.move (n := s.nb + 2) (ty := oty e i.size) (cs := .yld (s.nb + 1) :: (olds ++ news)) hbm hbl hbo (by omega) hag (opn_opq o1) (fun c hc => ?_) (Keeps.setRow w (β id) _) e0 ?_, hag, by show s.nb ≤ s.nb + 2; omega⟩
          · rw [hr]
            simp only [V.den, C.den, Nat.sub_zero]
            rw [this]
            show Result.ok _ _ = _
            simp only [S.put, e0, e1]
          · rcases List.mem_cons.1 hc with hc | hc
            · subst hc; simp [C.wf]
            · exact C.wf_mono (by omega) (hall c hc)
          · unfold RowP
            simp only [o1]
            unfold OpenRow
            have hds : (olds ++ news).map (C.den I ρ (up (up β s.nb (β id)) (s.nb + 1) (β cid))) = (olds ++ news).map (C.den I ρ β) := List.map_congr_left fun c hc => C.den_agree (hall c hc) hag
            have hts : cur.toList.length = cur.size := Array.length_toList
            have hnn : news.length = (news.map (C.den I ρ β)).length := by simp
            have htk : cur.toList.take (len * i.size) = olds.map (C.den I ρ β) := by rw [← hol]; exact k3
            refine ⟨(cur.toList.take (len * i.size) ++ news.map (C.den I ρ β) ++ cur.toList.drop (len * i.size + (news.map (C.den I ρ β)).length)).toArray, ?_, ?_, ?_, ?_, ?_, by rw [o3]; exact hs0⟩
            · rw [e0, o2]; exact setRow_heap w (β id) cur _ e (0, 0) k1
            · rw [e1, o3, ← k2]
              simp only [List.size_toArray, List.length_append, List.length_take, List.length_drop, Array.length_toList]
              omega
            · rw [hds, halls, htk]
              simp only [List.map_append]
              rw [List.take_append_of_le_length (by rw [List.length_append, List.length_map, hol, hnl', Nat.add_mul]; exact Nat.le_refl _), List.take_of_length_le (by rw [List.length_append, List.length_map, hol, hnl', Nat.add_mul]; exact Nat.le_refl _)]
            · rw [halls]
              simp only [List.size_toArray, List.length_append, List.length_take, List.length_drop, Array.length_toList]
              rw [Nat.add_mul]
              omega
            · rw [halls, htk]
              simp only
              have ex : (olds.map (C.den I ρ β) ++ news.map (C.den I ρ β)).length = (len + m) * i.size := by rw [List.length_append, List.length_map, hol, hnl', Nat.add_mul]
              rw [List.drop_append_of_le_length (by rw [ex]; exact Nat.le_refl _), List.drop_of_length_le (by rw [ex]; exact Nat.le_refl _), List.nil_append]
              intro v hv
              refine k5 v ?_
              rw [hol, show len * i.size + (news.map (C.den I ρ β)).length = len * i.size + m * i.size by rw [hnl'], ← List.drop_drop] at *
              exact List.mem_of_mem_drop hv
        · have hlt : β cid < len + m := by omega
          have := run_append_grow (P := P) w t ty e i zv hu hi hzv ⟨β id, 0, none⟩ len (β cid) (olds.map (C.den I ρ β)) (by rw [List.length_map]; exact hol) holdc a m c _ hnl' hcell hlt f2 (growslice_fits hlt f1)
          have hk := h.kill hbm hbl hbo
          refine grow_ok (P := P) (s := s.put id []) hk hzc hzp hzl hs0 hs1 halls (grownCap_ge w (len + m) (β cid) e) hall rfl ?_
          rw [hr]
          simp only [V.den, C.den, Nat.sub_zero]
          rw [this]
          have ea : (olds.map (C.den I ρ β)).toArray ++ (news.map (C.den I ρ β)).toArray = (olds.map (C.den I ρ β) ++ news.map (C.den I ρ β)).toArray := by simp
          rw [ea, List.map_append]
          rfl
    · trivial
end
section
variable {P : Program} {I : Interp} {ρ : Env} {w0 w : World} {X : Nat → Prop} {n0 : Nat} {β0 β : Nat → Nat} {s : S} {eval : Operand → Value} {ev : Operand → Option V}
theorem bndOf_ok {k : Nat} {d : Nat} {x : Option (Option V)} (hk : s.known.Ok I ρ) (h : bndOf s d x = .at_ k) : (x = none ∧ k = d) ∨ ∃ v kd, x = some (some v) ∧ v.den I ρ β = .int kd (Int.ofNat k) := by
  unfold bndOf at h
  split at h
  · injection h with h; exact .inl ⟨rfl, h.symm⟩
  · rename_i kd tt
    exact .inr ⟨_, kd, rfl, by simp only [V.den, C.den, ixOf_ok hk h]⟩
  · cases h
theorem slice_ok (h : WR I ρ w0 X n0 β0 β s w) {t : TypeId} {x : Option V} {lo hi : Option (Option V)} {a : Value} {lo' hi' : Option Value} {r : Result Next} (hx : ∀ v, x = some v → a = v.den I ρ β)
    (hlo : lo = none → lo' = none) (hlo2 : ∀ v, lo = some (some v) → lo' = some (v.den I ρ β)) (hhi : hi = none → hi' = none) (hhi2 : ∀ v, hi = some (some v) → hi' = some (v.den I ρ β))
    (hr : r = ((Instr.sliceAt t a lo' hi' none).run P w).andThen fun v w => .ok (.value v) w) : OpOk P I ρ w0 X n0 β0 β s r (sliceS P s t x lo hi) := by
  have run : ∀ {e : TypeId} {p : Option Addr} {len cap l hh : Nat} {n : Nat}, P.underlying t = some (.slice e) → sizeT P e = some n → a = .slice p len cap → bndOf s 0 lo = .at_ l → bndOf s len hi = .at_ hh → l ≤ hh → hh ≤ cap →
      r = .ok (.value (.slice (if cap = l then p else p.map (·.add (l * n))) (hh - l) (cap - l))) w := by
    intro e p len cap l hh n hu hn ha h1 h2 h3 h4
    have he : P.elem t = e := by unfold Program.elem; simp [hu]
    have ht : P.underlying t = some (.slice (P.elem t)) := by rw [he]; exact hu
    have hs : (sizeOf (P.elem t)).run P w = .ok n w := by rw [he]; exact run_size hn w
    subst ha
    have b1 := bndOf_ok (β := β) h.known h1
    have b2 := bndOf_ok (β := β) h.known h2
    rw [hr, run_sliceAt_slice w t _ _ _ _ ht]
    rcases b1 with ⟨rfl, rfl⟩ | ⟨v1, k1, rfl, e1⟩ <;> rcases b2 with ⟨rfl, rfl⟩ | ⟨v2, k2, rfl, e2⟩
    · rw [hlo rfl, hhi rfl, run_slice_all w t _ _ _ ht, hs]
      rfl
    · rw [hlo rfl, hhi2 _ rfl, e2, run_slice_h w t p _ cap ht k2 (Int.ofNat hh) (Int.natCast_nonneg _) (Int.ofNat_le.2 h4), hs]
      rfl
    · rw [hlo2 _ rfl, hhi rfl, e1, run_slice_l w t p _ cap ht k1 (Int.ofNat l) (Int.natCast_nonneg _) (Int.ofNat_le.2 h3), hs]
      rfl
    · rw [hlo2 _ rfl, hhi2 _ rfl, e1, e2, run_slice_lh w t p _ cap ht k1 k2 (Int.ofNat l) (Int.ofNat hh) (Int.natCast_nonneg _) (Int.ofNat_le.2 h3) (Int.ofNat_le.2 h4), hs]
      rfl
  unfold sliceS
  split
  · rename_i e id off len cap hu
    split
    · trivial
    · trivial
    · rename_i l hh n h1 h2 hn
      cases hb : (Nat.ble l hh && Nat.ble hh cap) with
      | false => trivial
      | true =>
        simp only [Bool.and_eq_true, Nat.ble_eq] at hb
        refine .pure h ?_
        rw [run hu hn (hx _ rfl) h1 h2 hb.1 hb.2]
        simp only [V.den, C.den]
        by_cases hc : cap = l
        · rw [if_pos hc, show Nat.beq cap l = true by simpa using hc]; rfl
        · rw [if_neg hc, show Nat.beq cap l = false by cases hh : Nat.beq cap l with | false => rfl | true => exact absurd (Nat.eq_of_beq_eq_true hh) hc]
          simp only [cond_false, Option.map_some, addr_add]
    · trivial
  · rename_i e hu
    split
    · rename_i n h1 h2 hn
      refine .pure h ?_
      rw [run hu hn (hx _ rfl) h1 h2 (Nat.le_refl _) (Nat.le_refl _)]
      rfl
    · trivial
  · rename_i e id cid off skip len hu
    split
    · trivial
    · trivial
    · rename_i l hh n h1 h2 hn
      split
      case h_2 => trivial
      rename_i b hbf
      obtain ⟨hbm, hbl⟩ := find_mem hbf
      split
      case h_2 => trivial
      rename_i cid' r hcells
      cases hb : (opn b.ty && (Nat.beq (szO b.ty) n && (Nat.beq cid cid' && (Nat.ble l hh && (Nat.ble hh len && (Nat.blt l len && Nat.ble ((skip + len) * n) r.length)))))) with
      | false => trivial
      | true =>
        simp only [Bool.and_eq_true, Nat.ble_eq, Nat.blt_eq, Nat.beq_eq] at hb
        obtain ⟨ho, hs, rfl, g1, g2, g3, g4⟩ := hb
        have hr0 := h.row _ hbm hbl
        unfold RowP at hr0
        simp only at hr0
        rw [ho] at hr0
        simp only at hr0
        rw [hcells] at hr0
        obtain ⟨cur, k1, k2, k3, k4, k5, k6⟩ := hr0
        rw [hs] at k2 k6
        have hle : skip + len ≤ β cid := Nat.le_of_mul_le_mul_right (by rw [← k2]; omega) k6
        refine .pure h ?_
        rw [run hu hn (hx _ rfl) h1 h2 g1 (by omega), if_neg (by omega)]
        simp only [V.den, C.den, Option.map_some, addr_add, Nat.sub_sub]
    · trivial
  · rename_i e hu
    split
    · rename_i kd m hn
      obtain ⟨p, n, cap, ef, hlen, hcut⟩ := I.lst
      refine .pure h ?_
      have he : P.elem t = e := by unfold Program.elem; simp [hu]
      have ht : P.underlying t = some (.slice (P.elem t)) := by rw [he]; exact hu
      have hs : (sizeOf (P.elem t)).run P w = .ok 1 w := by rw [he]; exact run_size hn w
      have ek : (T.bin .min (.app 998 .nil) (.lit (.ofNat m))).den I ρ = Int.ofNat (min n m) := by
        rw [T.den_bin, T.den_app, T.dens_nil, hlen, T.den_lit]
        simp only [Int.ofNat_eq_natCast, IOp.ev]
        split <;> omega
      have ea : a = .slice p n cap := by rw [hx _ rfl]; exact ef
      have el : lo' = some (.int kd (Int.ofNat (min n m))) := by rw [hlo2 _ rfl]; simp only [V.den, C.den, ek]
      rw [hr, ea, run_sliceAt_slice w t _ _ _ _ ht, hhi rfl, el, run_slice_l w t _ _ _ ht kd (Int.ofNat (min n m)) (Int.natCast_nonneg _) (Int.ofNat_le.2 (Nat.min_le_left _ _)), hs]
      simp only [V.den, C.den, T.dens_cons, T.dens_nil, ek, hcut]
      rfl
    · trivial
  · rename_i m e id off hu
    split
    · rename_i z hn
      refine .pure h ?_
      rw [hr, hx _ rfl, hlo rfl, hhi rfl]
      unfold Instr.sliceAt
      simp only [V.den, C.den, Sem.run_bind, run_underlying hu, Result.andThen_ok, Instr.sureAddr, Sem.run_pure, Instr.sliceBounds, run_size hn, Nat.zero_mul, addr_add, Nat.add_zero, Nat.sub_zero, ite_self]
    · trivial
  · trivial
theorem opS_ok (h : WR I ρ w0 X n0 β0 β s w) (o : Oper) (hev : ∀ x v, ev x = some v → eval x = v.den I ρ β) : OpOk P I ρ w0 X n0 β0 β s ((execOp eval o).run P w) (opS P ev s o.op) := by
  have hd : ∀ x : Operand, ∀ v, ev x = some v → eval x = v.den I ρ β := hev
  have hparts : ∀ (parts : Array (Nat × Operand)) {ps : List (Nat × Option V)} , ps = (parts.toList.map fun p => (p.1, ev p.2)) → (∀ p ∈ ps, p.2 ≠ none) → (parts.map fun (i, x) => (i, eval x)).toList = ps.map (fun p => (p.1, (p.2.map (V.den I ρ β)).getD undef)) := by
    intro parts ps hps hne
    subst hps
    simp only [Array.toList_map, List.map_map]
    refine List.map_congr_left fun p hp => ?_
    obtain ⟨i, x⟩ := p
    simp only [Function.comp]
    cases hx : ev x with
    | none => exact absurd hx (by simpa using hne (i, ev x) (List.mem_map.2 ⟨(i, x), hp, rfl⟩))
    | some v => simp [hd x v hx]
  have hfill : ∀ {place : Nat → Option (Nat × Nat)} {ps : List (Nat × Option V)} {cells cs : List C}, fillS place cells ps = some cs → ∀ p ∈ ps, p.2 ≠ none := by
    intro place ps
    induction ps with
    | nil => intro cells cs _ p hp; cases hp
    | cons q r ih =>
      intro cells cs hf p hp
      obtain ⟨i, x⟩ := q
      cases x with
      | none => cases hf
      | some v =>
        unfold fillS at hf
        split at hf
        · rename_i off n vs _ _
          cases hb : (Nat.beq vs.length n && Nat.ble (off + vs.length) cells.length) with
          | false => rw [hb] at hf; cases hf
          | true =>
            rw [hb] at hf
            rcases List.mem_cons.1 hp with e | hp'
            · subst e; simp
            · exact ih hf p hp'
        · cases hf
  obtain ⟨dst, op, type, pos, after, guard⟩ := o
  simp only
  cases op
  case move x => exact .put h fun v hv => by simp only [execOp, hd x v hv, Sem.run_pure]
  case assign x => exact .put h fun v hv => by simp only [execOp, hd x v hv, Sem.run_pure]
  case pick c a b =>
    simp only [opS]
    split
    · rename_i q hc
      have hq : asBool (eval c) = pure (q.den I ρ) := by rw [hd c _ hc]; rfl
      have hu := B.den_under h.known q
      split
      · rename_i e
        rw [e] at hu
        exact .put h fun v hv => by simp only [execOp, hq, pure_bind, ← hu, B.den, if_true, hd a v hv, Sem.run_pure]
      · rename_i e
        rw [e] at hu
        exact .put h fun v hv => by simp only [execOp, hq, pure_bind, ← hu, B.den, Bool.false_eq_true, if_false, hd b v hv, Sem.run_pure]
      · trivial
    · trivial
  case alloc t =>
    refine alloc_ok h fun cs hcs => ?_
    obtain ⟨z, hz, hzc, -⟩ := zeroS_run (I := I) (ρ := ρ) (β := β) hcs w
    simp only [execOp, Instr.alloc, Sem.run_bind, hz, Result.andThen_ok, newVar, newRow, hzc, run_newObj, Sem.run_pure]
    rfl
  case box t x =>
    refine alloc_ok h fun cs hcs => ?_
    obtain ⟨v, hv, hvc⟩ := Option.bind_eq_some_iff.1 hcs
    simp only [execOp, Instr.box, Sem.run_bind, hd x v hv, newVar, newRow, cells?_den hvc, run_newObj, Result.andThen_ok, Sem.run_pure]
    rfl
  case build t parts =>
    simp only [opS]
    by_cases hne : ∀ p ∈ (parts.toList.map fun p => (p.1, ev p.2)), p.2 ≠ none
    · exact build_ok h (hparts parts rfl hne) (by simp only [execOp, Sem.run_bind]; rfl)
    · unfold buildS
      split
      · split
        · rename_i cs hcs; exact absurd (hfill hcs) hne
        · trivial
      · trivial
  case buildSlice t n parts =>
    simp only [opS]
    by_cases hne : ∀ p ∈ (parts.toList.map fun p => (p.1, ev p.2)), p.2 ≠ none
    · exact buildSlice_ok h (hparts parts rfl hne) (by simp only [execOp, Sem.run_bind]; rfl)
    · unfold buildSliceS
      split
      · split
        · cases hb : (_ && _ : Bool) with
          | false => trivial
          | true =>
            simp only [cond_true]
            split
            · rename_i cs hcs; exact absurd (hfill hcs) hne
            · trivial
        · trivial
      · trivial
  case load t a => exact load_ok h (hd a) (by simp only [execOp, Sem.run_bind]; rfl)
  case store t a x => exact store_ok h (hd a) (hd x) (by simp only [execOp, Sem.run_bind]; rfl)
  case nilCheck x =>
    simp only [opS]
    split
    · rename_i id off hx; exact .pure h (by simp only [execOp, hd x _ hx, V.den, C.den, Sem.run_pure])
    · rename_i f caps hx; exact .pure h (by simp only [execOp, hd x _ hx, V.den, C.den, Sem.run_pure])
    · trivial
  case binOp op t x y yt => exact bin_ok h (ox := x) (oy := y) (hd x) (hd y) (by simp only [execOp, Sem.run_bind]; cases (eqGuard op t x y (eval x) (eval y)).run P w <;> rfl)
  case unOp op t x => exact un_ok h (hd x) (by simp only [execOp, Sem.run_bind]; rfl)
  case convert src dst x => exact conv_ok h (hd x) (by simp only [execOp, Sem.run_bind]; rfl)
  case makeFunc f first caps =>
    simp only [opS]
    split
    · rename_i l h0 hl
      refine .pure h ?_
      have h1 : first = #[] := Array.eq_empty_of_size_eq_zero h0
      have hc := capsS_den (I := I) (ρ := ρ) (β := β) hl
      have h2 : caps.map eval = (l.map fun p => Value.pointer (some ⟨β p.1, p.2, none⟩)).toArray := by
        apply Array.ext'
        rw [← hc]
        simp only [Array.toList_map, List.map_map]
        refine List.map_congr_left fun x hx => ?_
        simp only [Function.comp]
        have : ev x ≠ none := by
          intro e
          have : ∀ {l : List (Option V)} {cs : List (Nat × Nat)}, capsS l = some cs → none ∉ l := by
            intro l
            induction l with
            | nil => intro _ _ h; cases h
            | cons y r ih =>
              intro cs hh hm
              unfold capsS at hh
              split at hh
              · rename_i e; cases e
              · rename_i e
                obtain ⟨e1, e2⟩ := List.cons.inj e
                subst e1 e2
                obtain ⟨cs', h1, rfl⟩ := Option.map_eq_some_iff.1 hh
                rcases List.mem_cons.1 hm with hm | hm
                · cases hm
                · exact ih h1 hm
              · cases hh
          exact this hl (List.mem_map.2 ⟨x, hx, e⟩)
        cases hx : ev x with
        | none => exact absurd hx this
        | some v => simp [hd x v hx]
      simp only [execOp, Instr.makeFunc, Sem.run_bind, Sem.run_pure, Result.andThen_ok, h1, h2]
      simp only [V.den, C.den, Array.map_empty]
    · trivial
  case fieldAddr t x f => exact field_ok h (hd x) (by simp only [execOp, Sem.run_bind]; rfl)
  case field t x f => exact fieldOf_ok h (hd x) (by simp only [execOp, Sem.run_bind]; rfl)
  case indexAddr t x i => exact indexAddr_ok h (hd x) (hd i) (by simp only [execOp, Sem.run_bind]; rfl)
  case index t x i => exact index_ok h (hd x) (hd i) (by simp only [execOp, Sem.run_bind]; rfl)
  case slice t x lo hi mx =>
    cases mx with
    | some _ => trivial
    | none =>
      refine slice_ok h (hd x) (lo' := lo.map eval) (hi' := hi.map eval) (fun e => ?_) (fun v e => ?_) (fun e => ?_) (fun v e => ?_) (by simp only [execOp, Sem.run_bind]; rfl)
      · cases lo with
        | none => rfl
        | some _ => cases e
      · cases lo with
        | none => cases e
        | some y => injection e with e; rw [Option.map_some, hd y v e]
      · cases hi with
        | none => rfl
        | some _ => cases e
      · cases hi with
        | none => cases e
        | some y => injection e with e; rw [Option.map_some, hd y v e]
  case makeInterface t x => exact makeIface_ok h (hd x) (by simp only [execOp, Sem.run_bind]; rfl)
  case typeAssert x xt u ok => exact assert_ok (xt := xt) h (hd x) (by simp only [execOp, Sem.run_bind]; rfl)
  case extract x i =>
    simp only [opS]
    split
    · rename_i vs hx
      refine .put h fun v hv => ?_
      obtain ⟨p, hp, rfl⟩ := Option.map_eq_some_iff.1 hv
      have : ((vs.map (partOf I ρ β)).toArray)[i]? = some (partOf I ρ β p) := by simp [hp]
      rw [tupV_den]
      simp only [execOp, hd x _ hx, V.den, Instr.extract, this, Sem.run_bind, Sem.run_pure, Result.andThen_ok]
    · trivial
  case call c =>
    obtain ⟨callee, args, argTypes⟩ := c
    cases callee
    case builtin b =>
      simp only [opS]
      have hargs : ∀ {l : List (Option V)}, l = args.toList.map ev → (∀ x ∈ l, x ≠ none) → (args.map eval).toList = l.map (fun x => (x.map (V.den I ρ β)).getD undef) := by
        intro l hl hne
        subst hl
        simp only [Array.toList_map, List.map_map]
        refine List.map_congr_left fun x hx => ?_
        simp only [Function.comp]
        cases hxx : ev x with
        | none => exact absurd hxx (hne _ (List.mem_map.2 ⟨x, hx, rfl⟩))
        | some v => simp [hd x v hxx]
      have hfold : ∀ {o : IOp} {k : IntKind} {l : List (Option V)} {a t : T}, foldS o k a l = some t → ∀ x ∈ l, x ≠ none := by
        intro o k l
        induction l with
        | nil => intro a t _ x hx; cases hx
        | cons y r ih =>
          intro a t hf x hx
          unfold foldS at hf
          split at hf
          · rename_i e; cases e
          · rename_i e
            obtain ⟨e1, e2⟩ := List.cons.inj e
            subst e1 e2
            rcases List.mem_cons.1 hx with e | hx'
            · subst e; simp
            · exact ih hf x hx'
          · cases hf
      unfold builtinS
      split
      · rename_i x r hl
        split
        · rename_i t ht
          have h0 : (args.map eval)[0]? = some (x.den I ρ β) := by
            cases ha : args.toList with
            | nil => rw [ha] at hl; cases hl
            | cons q qs =>
              rw [ha] at hl
              simp only [List.map_cons] at hl
              obtain ⟨e1, e2⟩ := List.cons.inj hl
              have : args[0]? = some q := by rw [← Array.getElem?_toList, ha]; rfl
              simp [this, hd q x e1]
          refine len_ok h ht h0 (ty := type) ?_
          simp only [execOp, resolve, Sem.run_bind, Sem.run_pure, Result.andThen_ok, invoke, builtin]
        · trivial
      · rename_i k a r hl
        refine .put h fun v hv => ?_
        obtain ⟨t, ht, rfl⟩ := Option.map_eq_some_iff.1 hv
        have hne := hfold ht
        have := hargs hl.symm (by
          intro x hx
          rcases List.mem_cons.1 hx with e | hx'
          · subst e; simp
          · exact hne x hx')
        simp only [execOp, resolve, Sem.run_bind, Sem.run_pure, Result.andThen_ok, invoke, builtin, Builtin.max_, this, List.map_cons, Option.map_some, Option.getD_some]
        have := foldMax_run (P := P) (I := I) (ρ := ρ) (β := β) k ht w
        simp only [V.den, C.den] at this ⊢
        rw [this]
        rfl
      · rename_i k a r hl
        refine .put h fun v hv => ?_
        obtain ⟨t, ht, rfl⟩ := Option.map_eq_some_iff.1 hv
        have hne := hfold ht
        have := hargs hl.symm (by
          intro x hx
          rcases List.mem_cons.1 hx with e | hx'
          · subst e; simp
          · exact hne x hx')
        simp only [execOp, resolve, Sem.run_bind, Sem.run_pure, Result.andThen_ok, invoke, builtin, Builtin.min_, this, List.map_cons, Option.map_some, Option.getD_some]
        have := foldMin_run (P := P) (I := I) (ρ := ρ) (β := β) k ht w
        simp only [V.den, C.den] at this ⊢
        rw [this]
        rfl
      · rename_i x y hl
        refine append_ok (xs := args.map eval) h (fun vx vy hvx hvy => ?_) (ty := type) (by simp only [execOp, resolve, Sem.run_bind, Sem.run_pure, Result.andThen_ok, invoke, builtin])
        subst hvx hvy
        have := hargs hl.symm (by intro x hx; simp only [List.mem_cons, List.not_mem_nil, or_false] at hx; rcases hx with rfl | rfl <;> simp)
        exact Array.ext' (by rw [this]; rfl)
      · trivial
    all_goals trivial
  all_goals trivial
end
end Go.Proofs.Ytliimpbbppbghaa.Sx

