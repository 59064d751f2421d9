import Derived.Orders
import Derived.LoopN
import Derived.Below
import Derived.KernelRfl
import Derived.Laws.CopyRow
import Derived.Laws.Build
import Derived.Laws.StructEq
import Derived.ChangeKeysEq
set_option linter.all false
namespace Go.Proofs.Ytliimpbbppbghaa.Sx
open Go
inductive IOp where
  | add | sub | mul | quo | rem | max | min
  deriving DecidableEq
def IOp.ev : IOp → Int → Int → Int
  | .add, x, y => x + y
  | .sub, x, y => x - y
  | .mul, x, y => x * y
  | .quo, x, y => x.tdiv y
  | .rem, x, y => x.tmod y
  | .max, x, y => if y > x then y else x
  | .min, x, y => if y < x then y else x
def IOp.same : IOp → IOp → Bool
  | .add, .add | .sub, .sub | .mul, .mul | .quo, .quo | .rem, .rem | .max, .max | .min, .min => true
  | _, _ => false
theorem IOp.same_eq {a b : IOp} (h : a.same b = true) : a = b := by cases a <;> cases b <;> first | rfl | cases h
def kindSame : IntKind → IntKind → Bool
  | .i8, .i8 | .i16, .i16 | .i32, .i32 | .i64, .i64 | .u8, .u8 | .u16, .u16 | .u32, .u32 | .u64, .u64 => true
  | _, _ => false
theorem kindSame_eq {a b : IntKind} (h : kindSame a b = true) : a = b := by cases a <;> cases b <;> first | rfl | cases h
inductive T where
  | lit (n : Int)
  | var (k : Nat)
  | wrap (k : IntKind) (a : T)
  | bin (o : IOp) (a b : T)
  | app (f : Nat) (a : T)
  | cons (a b : T)
  | nil
inductive B where
  | lit (b : Bool)
  | var (k : Nat)
  | lt (a b : T)
  | eq (a b : T)
  | not (a : B)
  | and (a b : B)
  | iff (a b : B)
  | app (f : Nat) (a : T)
structure Opq where
  held : World → Value → List Int → Prop
  blk : Value → Option Nat
  lt : ∀ w v l, held w v l → ∀ g, blk v = some g → g < w.heap.size
  keep : ∀ (w w' : World) v l, held w v l → (∀ g, blk v = some g → w'.heap[g]? = w.heap[g]?) → held w' v l
  len : List Int → Int
  slice : ∀ w v l, held w v l → ∃ (p : Option Addr) (n cap : Nat), v = .slice p n cap ∧ (n : Int) = len l
  dec : Nat → Value
  one : ∀ n, (∀ cs, dec n ≠ .agg cs) ∧ ∀ cs, dec n ≠ .tuple cs
  u32 : ∀ (w : World) v l, held w v l → ∀ g, blk v = some g → ∃ off d, w.cell? ⟨g, off, none⟩ = some (.int .u32 d)
  dig : ∀ n d, dec n ≠ .int .u32 d
def noOpq : Opq := ⟨fun _ _ _ => False, fun _ => none, (fun _ _ _ h => h.elim), (fun _ _ _ _ h => h.elim), fun _ => 0, (fun _ _ _ h => h.elim), fun _ => .nilFunc, fun _ => ⟨(fun _ h => nomatch h), (fun _ h => nomatch h)⟩, (fun _ _ _ h => h.elim), (fun _ _ h => nomatch h)⟩
def cutV : Value → Int → Value
  | .slice p n c, k => .slice (if c = k.toNat then p else p.map (·.add (k.toNat * 1))) (n - k.toNat) (c - k.toNat)
  | v, _ => v
structure Interp where
  fi : Nat → List Int → Int
  fb : Nat → List Int → Bool
  fv : Nat → List Int → Value
  fixed : List (Nat × Obj)
  opq : Opq
  len : ∀ l, fi 999 l = opq.len l
  ok : ∀ f l, (∀ cs, fv f l ≠ .agg cs) ∧ ∀ cs, fv f l ≠ .tuple cs
  lst : ∃ (p : Option Addr) (n c : Nat), fv 0 [] = .slice p n c ∧ fi 998 [] = n ∧ ∀ k, fv 1000 [k] = cutV (.slice p n c) k
def Interp.fix (I : Interp) (L : List (Nat × Obj)) : Interp := { I with fixed := L }
structure Env where
  i : Nat → Int
  b : Nat → Bool
  v : Nat → Value
def hd : List Int → Int
  | [] => 0
  | n :: _ => n
section
variable (I : Interp) (ρ : Env)
def T.dens : T → List Int
  | .lit n => [n]
  | .var k => [ρ.i k]
  | .wrap k a => [k.wrap (hd a.dens)]
  | .bin o a b => [o.ev (hd a.dens) (hd b.dens)]
  | .app f a => [I.fi f a.dens]
  | .cons a b => hd a.dens :: b.dens
  | .nil => []
def T.den (t : T) : Int := hd (t.dens I ρ)
def B.den : B → Bool
  | .lit b => b
  | .var k => ρ.b k
  | .lt a b => decide (a.den I ρ < b.den I ρ)
  | .eq a b => decide (a.den I ρ = b.den I ρ)
  | .not a => !a.den
  | .and a b => a.den && b.den
  | .iff a b => a.den == b.den
  | .app f a => I.fb f (a.dens I ρ)
end
section
variable {I : Interp} {ρ : Env}
theorem T.dens_fix (L : List (Nat × Obj)) (t : T) : t.dens (I.fix L) ρ = t.dens I ρ := by
  induction t with
  | wrap k a ih => simp only [T.dens, ih]
  | bin o a b iha ihb => simp only [T.dens, iha, ihb]
  | app f a ih => simp only [T.dens, ih]; rfl
  | cons a b iha ihb => simp only [T.dens, iha, ihb]
  | _ => rfl
theorem T.den_fix (L : List (Nat × Obj)) (t : T) : t.den (I.fix L) ρ = t.den I ρ := by unfold T.den; rw [T.dens_fix]
theorem B.den_fix (L : List (Nat × Obj)) (b : B) : b.den (I.fix L) ρ = b.den I ρ := by
  induction b with
  | lt a b => simp only [B.den, T.den_fix]
  | eq a b => simp only [B.den, T.den_fix]
  | not a ih => simp only [B.den, ih]
  | and a b iha ihb => simp only [B.den, iha, ihb]
  | iff a b iha ihb => simp only [B.den, iha, ihb]
  | app f a => simp only [B.den, T.dens_fix]; rfl
  | _ => rfl
theorem T.den_lit (n : Int) : (T.lit n).den I ρ = n := rfl
theorem T.den_var (k : Nat) : (T.var k).den I ρ = ρ.i k := rfl
theorem T.den_wrap (k : IntKind) (a : T) : (T.wrap k a).den I ρ = k.wrap (a.den I ρ) := rfl
theorem T.den_bin (o : IOp) (a b : T) : (T.bin o a b).den I ρ = o.ev (a.den I ρ) (b.den I ρ) := rfl
theorem T.den_app (f : Nat) (a : T) : (T.app f a).den I ρ = I.fi f (a.dens I ρ) := rfl
theorem T.dens_cons (a b : T) : (T.cons a b).dens I ρ = a.den I ρ :: b.dens I ρ := rfl
theorem T.dens_nil : T.nil.dens I ρ = [] := rfl
end
def intSame (a b : Int) : Bool := match a, b with
  | .ofNat m, .ofNat n => Nat.beq m n
  | .negSucc m, .negSucc n => Nat.beq m n
  | _, _ => false
theorem intSame_eq {a b : Int} : intSame a b = true ↔ a = b := by
  cases a <;> cases b <;> simp [intSame, Nat.beq_eq] <;> omega
def intLt (a b : Int) : Bool := match a, b with
  | .ofNat m, .ofNat n => Nat.blt m n
  | .negSucc m, .negSucc n => Nat.blt n m
  | .negSucc _, .ofNat _ => true
  | .ofNat _, .negSucc _ => false
theorem intLt_eq (a b : Int) : intLt a b = decide (a < b) := by
  cases a <;> cases b <;> simp only [intLt]
  · rename_i m n; by_cases h : m < n
    · rw [show Nat.blt _ _ = true from Nat.blt_eq.symm ▸ h]; symm; simp; omega
    · have : Nat.blt m n = false := by cases hs : Nat.blt m n; rfl; exact absurd (Nat.blt_eq ▸ hs) h
      rw [this]; symm; simp; omega
  · symm; simp; omega
  · symm; simp; omega
  · rename_i m n; by_cases h : n < m
    · rw [show Nat.blt _ _ = true from Nat.blt_eq.symm ▸ h]; symm; simp; omega
    · have : Nat.blt n m = false := by cases hs : Nat.blt n m; rfl; exact absurd (Nat.blt_eq ▸ hs) h
      rw [this]; symm; simp; omega
def T.same : T → T → Bool
  | .lit a, .lit b => intSame a b
  | .var a, .var b => Nat.beq a b
  | .wrap k a, .wrap l b => kindSame k l && a.same b
  | .bin o a b, .bin p c d => o.same p && (a.same c && b.same d)
  | .app f a, .app g b => Nat.beq f g && a.same b
  | .cons a b, .cons c d => a.same c && b.same d
  | .nil, .nil => true
  | _, _ => false
theorem T.same_eq : ∀ {a b : T}, a.same b = true → a = b
  | .lit a, .lit b, h => by simp only [T.same, intSame_eq] at h; rw [h]
  | .var a, .var b, h => by simp only [T.same, Nat.beq_eq] at h; rw [h]
  | .wrap k a, .wrap l b, h => by
    simp only [T.same, Bool.and_eq_true] at h; rw [kindSame_eq h.1, T.same_eq h.2]
  | .bin o a b, .bin p c d, h => by
    simp only [T.same, Bool.and_eq_true] at h; rw [IOp.same_eq h.1, T.same_eq h.2.1, T.same_eq h.2.2]
  | .app f a, .app g b, h => by
    simp only [T.same, Bool.and_eq_true, Nat.beq_eq] at h; rw [h.1, T.same_eq h.2]
  | .cons a b, .cons c d, h => by
    simp only [T.same, Bool.and_eq_true] at h; rw [T.same_eq h.1, T.same_eq h.2]
  | .nil, .nil, _ => rfl
  | .lit _, .var _, h | .lit _, .wrap .., h | .lit _, .bin .., h | .lit _, .app .., h | .lit _, .cons .., h | .lit _, .nil, h => by cases h
  | .var _, .lit _, h | .var _, .wrap .., h | .var _, .bin .., h | .var _, .app .., h | .var _, .cons .., h | .var _, .nil, h => by cases h
  | .wrap .., .lit _, h | .wrap .., .var .., h | .wrap .., .bin .., h | .wrap .., .app .., h | .wrap .., .cons .., h | .wrap .., .nil, h => by cases h
  | .bin .., .lit _, h | .bin .., .var .., h | .bin .., .wrap .., h | .bin .., .app .., h | .bin .., .cons .., h | .bin .., .nil, h => by cases h
  | .app .., .lit _, h | .app .., .var .., h | .app .., .wrap .., h | .app .., .bin .., h | .app .., .cons .., h | .app .., .nil, h => by cases h
  | .cons .., .lit _, h | .cons .., .var .., h | .cons .., .wrap .., h | .cons .., .bin .., h | .cons .., .app .., h | .cons .., .nil, h => by cases h
  | .nil, .lit _, h | .nil, .var .., h | .nil, .wrap .., h | .nil, .bin .., h | .nil, .app .., h | .nil, .cons .., h => by cases h
def B.same : B → B → Bool
  | .lit a, .lit b => a == b
  | .var a, .var b => Nat.beq a b
  | .lt a b, .lt c d => a.same c && b.same d
  | .eq a b, .eq c d => a.same c && b.same d
  | .not a, .not b => a.same b
  | .and a b, .and c d => a.same c && b.same d
  | .iff a b, .iff c d => a.same c && b.same d
  | .app f a, .app g b => Nat.beq f g && a.same b
  | _, _ => false
theorem B.same_eq : ∀ (a b : B), a.same b = true → a = b := by
  intro a
  induction a <;> intro b h <;> cases b <;> simp only [B.same, Bool.and_eq_true, Nat.beq_eq, beq_iff_eq, Bool.false_eq_true] at h
  case lit.lit => rw [h]
  case var.var => rw [h]
  case lt.lt => rw [T.same_eq h.1, T.same_eq h.2]
  case eq.eq => rw [T.same_eq h.1, T.same_eq h.2]
  case not.not ih _ => rw [ih _ h]
  case and.and ih1 ih2 _ _ => rw [ih1 _ h.1, ih2 _ h.2]
  case iff.iff ih1 ih2 _ _ => rw [ih1 _ h.1, ih2 _ h.2]
  case app.app => rw [h.1, T.same_eq h.2]
def T.mkBin (o : IOp) (a b : T) : T := match a, b with
  | .lit x, .lit y => .lit (o.ev x y)
  | _, _ => .bin o a b
def B.mkNot : B → B
  | .lit b => .lit (!b)
  | .not a => a
  | a => .not a
def B.mkAnd (a b : B) : B := match a, b with
  | .lit true, y => y
  | .lit false, _ => .lit false
  | x, .lit true => x
  | _, .lit false => .lit false
  | x, y => .and x y
def B.mkIff (a b : B) : B := match a, b with
  | .lit true, y => y
  | x, .lit true => x
  | .lit false, y => y.mkNot
  | x, .lit false => x.mkNot
  | x, y => bif x.same y then .lit true else .iff x y
def B.mkLt (a b : T) : B := match a, b with
  | .lit x, .lit y => .lit (intLt x y)
  | _, _ => bif a.same b then .lit false else .lt a b
def B.mkEq (a b : T) : B := match a, b with
  | .lit x, .lit y => .lit (intSame x y)
  | _, _ => bif a.same b then .lit true else .eq a b
section
variable {I : Interp} {ρ : Env}
theorem T.den_mkBin (o : IOp) (a b : T) : (T.mkBin o a b).den I ρ = o.ev (a.den I ρ) (b.den I ρ) := by
  unfold T.mkBin; split <;> rfl
theorem B.den_mkNot (a : B) : a.mkNot.den I ρ = !a.den I ρ := by
  cases a <;> simp [B.mkNot, B.den]
theorem B.den_mkAnd (a b : B) : (B.mkAnd a b).den I ρ = (a.den I ρ && b.den I ρ) := by
  unfold B.mkAnd; split <;> simp [B.den]
theorem B.den_mkIff (a b : B) : (B.mkIff a b).den I ρ = (a.den I ρ == b.den I ρ) := by
  unfold B.mkIff
  split
  · simp [B.den]
  · simp [B.den]
  · rw [B.den_mkNot]; simp [B.den]
  · rw [B.den_mkNot]; simp [B.den]
  · cases h : B.same _ _
    · rfl
    · rw [B.same_eq _ _ h]; simp [B.den]
theorem B.den_mkLt (a b : T) : (B.mkLt a b).den I ρ = decide (a.den I ρ < b.den I ρ) := by
  unfold B.mkLt
  split
  · simp only [B.den, intLt_eq]; rfl
  · cases h : T.same a b
    · rfl
    · rw [T.same_eq h]; simp [B.den]
theorem B.den_mkEq (a b : T) : (B.mkEq a b).den I ρ = decide (a.den I ρ = b.den I ρ) := by
  unfold B.mkEq
  split
  · rename_i x y
    by_cases h : x = y
    · simp [B.den, T.den_lit, h, intSame_eq.2 rfl]
    · have : intSame x y = false := by cases hs : intSame x y; rfl; exact absurd (intSame_eq.1 hs) h
      simp [B.den, T.den_lit, h, this]
  · cases h : T.same a b
    · rfl
    · rw [T.same_eq h]; simp [B.den]
end
structure Known where
  facts : List (B × Bool)
  draws : List Nat
  n64 : Nat
structure Known.Ok (I : Interp) (ρ : Env) (k : Known) : Prop where
  facts : ∀ p ∈ k.facts, p.1.den I ρ = p.2
  draws : ∀ f ∈ k.draws, ∀ a n : Int, 0 < n → 0 ≤ I.fi f [a, n] ∧ I.fi f [a, n] < n
  n64 : ∀ i, i < k.n64 → -9223372036854775808 ≤ ρ.i i ∧ ρ.i i ≤ 9223372036854775807
def addFact (l : List (B × Bool)) : B → Bool → List (B × Bool)
  | .not a, v => addFact l a (!v)
  | .and a b, true => addFact (addFact l a true) b true
  | .lit _, _ => l
  | b, v => (b, v) :: l
theorem addFact_ok {I : Interp} {ρ : Env} : ∀ {b : B} {v : Bool} {l : List (B × Bool)}, (∀ p ∈ l, p.1.den I ρ = p.2) → b.den I ρ = v → ∀ p ∈ addFact l b v, p.1.den I ρ = p.2
  | .not a, v, l, hl, hb => by
    unfold addFact
    exact addFact_ok hl (by simp only [B.den] at hb; rw [← hb]; simp)
  | .and a b, true, l, hl, hb => by
    simp only [B.den, Bool.and_eq_true] at hb
    unfold addFact
    exact addFact_ok (addFact_ok hl hb.1) hb.2
  | .and a b, false, l, hl, hb => by
    intro p hp
    rcases List.mem_cons.1 hp with e | hp
    · subst e; exact hb
    · exact hl p hp
  | .lit _, _, l, hl, hb => hl
  | .var _, _, l, hl, hb | .lt .., _, l, hl, hb | .eq .., _, l, hl, hb | .iff .., _, l, hl, hb | .app .., _, l, hl, hb => by
    intro p hp
    rcases List.mem_cons.1 hp with e | hp
    · subst e; exact hb
    · exact hl p hp
def Known.add (k : Known) (b : B) (v : Bool) : Known := ⟨addFact k.facts b v, k.draws, k.n64⟩
def hint (p : B × Bool) (b : B) : Option Bool :=
  bif p.1.same b then some p.2 else
  match p.1, p.2, b with
  | .eq x (.lit m), true, .eq y (.lit n) => bif x.same y then some (intSame m n) else none
  | .eq x (.lit m), true, .lt y (.lit n) => bif x.same y then some (intLt m n) else none
  | .eq x (.lit m), true, .lt (.lit n) y => bif x.same y then some (intLt n m) else none
  | .lt x (.lit m), true, .lt y (.lit n) => bif x.same y && !intLt n m then some true else none
  | .lt x (.lit m), false, .lt y (.lit n) => bif x.same y && !intLt m n then some false else none
  | .lt (.lit m) x, true, .lt (.lit n) y => bif x.same y && !intLt m n then some true else none
  | .lt (.lit m) x, false, .lt (.lit n) y => bif x.same y && !intLt n m then some false else none
  | .lt (.lit m) x, true, .lt y (.lit n) => bif x.same y && !intLt (m + 1) n then some false else none
  | .lt x (.lit m), true, .lt (.lit n) y => bif x.same y && !intLt (n + 1) m then some false else none
  | .lt x (.lit m), false, .lt (.lit n) y => bif x.same y && intLt n m then some true else none
  | .lt (.lit m) x, false, .lt y (.lit n) => bif x.same y && intLt m n then some true else none
  | .lt x (.lit m), true, .eq y (.lit n) => bif x.same y && !intLt n m then some false else none
  | .lt x (.lit m), false, .eq y (.lit n) => bif x.same y && intLt n m then some false else none
  | .lt (.lit m) x, true, .eq y (.lit n) => bif x.same y && !intLt m n then some false else none
  | .lt (.lit m) x, false, .eq y (.lit n) => bif x.same y && intLt m n then some false else none
  | .eq x y, true, .lt z u => bif (x.same z && y.same u) || (x.same u && y.same z) then some false else none
  | .lt x y, true, .lt z u => bif x.same u && y.same z then some false else none
  | .lt x y, true, .eq z u => bif (x.same z && y.same u) || (x.same u && y.same z) then some false else none
  | .eq x y, v, .eq z u => bif x.same u && y.same z then some v else none
  | _, _, _ => none
section
variable {I : Interp} {ρ : Env}
theorem B.lt_t {a b : T} : (B.lt a b).den I ρ = true ↔ a.den I ρ < b.den I ρ := by simp [B.den]
theorem B.lt_f {a b : T} : (B.lt a b).den I ρ = false ↔ b.den I ρ ≤ a.den I ρ := by simp [B.den]
theorem B.eq_t {a b : T} : (B.eq a b).den I ρ = true ↔ a.den I ρ = b.den I ρ := by simp [B.den]
theorem B.eq_f {a b : T} : (B.eq a b).den I ρ = false ↔ a.den I ρ ≠ b.den I ρ := by simp [B.den]
theorem intSame_f {m n : Int} : intSame m n = false ↔ m ≠ n := by
  cases h : intSame m n
  · simp; intro e; rw [intSame_eq.2 e] at h; cases h
  · simp; exact intSame_eq.1 h
end
theorem hint_ok {I : Interp} {ρ : Env} {p : B × Bool} {b : B} {v : Bool} (hp : p.1.den I ρ = p.2) (h : hint p b = some v) : b.den I ρ = v := by
  unfold hint at h
  cases hs : p.1.same b with
  | true => rw [hs] at h; simp only [cond_true, Option.some.injEq] at h; rw [← B.same_eq _ _ hs, hp, h]
  | false =>
    rw [hs] at h
    simp only [cond_false] at h
    obtain ⟨q, r⟩ := p
    dsimp only at hp h
    split at h <;> (first | (cases h; done) | skip)
    all_goals
      simp only [cond_eq_ite] at h
      split at h <;> (first | (cases h; done) | skip)
      rename_i hc
      simp only [Option.some.injEq] at h
      subst h
      try simp only [Bool.and_eq_true, Bool.or_eq_true, Bool.not_eq_true', intLt_eq, decide_eq_true_eq, decide_eq_false_iff_not] at hc
      try simp only [B.lt_t, B.lt_f, B.eq_t, B.eq_f, T.den_lit] at hp
    · rw [T.same_eq hc] at hp
      cases h : intSame _ _
      · rw [B.eq_f, T.den_lit, hp]; exact intSame_f.1 h
      · rw [B.eq_t, T.den_lit, hp]; exact intSame_eq.1 h
    · rw [T.same_eq hc] at hp; simp only [B.den, intLt_eq, T.den_lit, hp]
    · rw [T.same_eq hc] at hp; simp only [B.den, intLt_eq, T.den_lit, hp]
    all_goals try (rw [T.same_eq hc.1] at hp; simp only [B.lt_t, B.lt_f, B.eq_t, B.eq_f, T.den_lit]; omega)
    · rcases hc with ⟨h1, h2⟩ | ⟨h1, h2⟩ <;> (have e1 := T.same_eq h1; have e2 := T.same_eq h2; subst e1 e2; rw [B.lt_f]; omega)
    · have e1 := T.same_eq hc.1; have e2 := T.same_eq hc.2; subst e1 e2; rw [B.lt_f]; omega
    · rcases hc with ⟨h1, h2⟩ | ⟨h1, h2⟩ <;> (have e1 := T.same_eq h1; have e2 := T.same_eq h2; subst e1 e2; rw [B.eq_f]; omega)
    · have e1 := T.same_eq hc.1; have e2 := T.same_eq hc.2; subst e1 e2; rw [← hp]; simp only [B.den]; exact decide_eq_decide.2 ⟨fun h => h.symm, fun h => h.symm⟩
def atomOf (k : List (B × Bool)) (b : B) : Option Bool := match k with
  | [] => none
  | p :: r => match hint p b with
    | some v => some v
    | none => atomOf r b
theorem atomOf_ok {I : Interp} {ρ : Env} {k : List (B × Bool)} (hk : ∀ p ∈ k, p.1.den I ρ = p.2) {b : B} {v : Bool} (h : atomOf k b = some v) : b.den I ρ = v := by
  induction k with
  | nil => cases h
  | cons p r ih =>
    unfold atomOf at h
    split at h
    · rename_i v' h'; injection h with h; subst h; exact hint_ok (hk p (.head _)) h'
    · exact ih (fun q hq => hk q (.tail _ hq)) h
section
variable {α : Type}
def natF (n : Nat) (k : Nat → α) : α := match n with
  | 0 => k 0
  | m + 1 => k (m + 1)
def intF (n : Int) (k : Int → α) : α := match n with
  | .ofNat m => natF m fun m => k (.ofNat m)
  | .negSucc m => natF m fun m => k (.negSucc m)
theorem natF_eq (n : Nat) (k : Nat → α) : natF n k = k n := by cases n <;> rfl
theorem intF_eq (n : Int) (k : Int → α) : intF n k = k n := by cases n <;> simp [intF, natF_eq]
def optF (n : Option Int) (k : Option Int → α) : α := match n with
  | none => k none
  | some n => intF n fun n => k (some n)
theorem optF_eq (n : Option Int) (k : Option Int → α) : optF n k = k n := by cases n <;> simp [optF, intF_eq]
end
structure Iv where
  lo : Option Int
  hi : Option Int
def Iv.has (i : Iv) (n : Int) : Prop := (∀ l, i.lo = some l → l ≤ n) ∧ ∀ h, i.hi = some h → n ≤ h
def Iv.any : Iv := ⟨none, none⟩
def Iv.one (n : Int) : Iv := ⟨some n, some n⟩
def maxO : Option Int → Option Int → Option Int
  | none, y => y
  | x, none => x
  | some x, some y => some (bif intLt x y then y else x)
def minO : Option Int → Option Int → Option Int
  | none, y => y
  | x, none => x
  | some x, some y => some (bif intLt x y then x else y)
def Iv.meet (a b : Iv) : Iv := ⟨maxO a.lo b.lo, minO a.hi b.hi⟩
theorem Iv.has_any (n : Int) : Iv.any.has n := ⟨(fun _ h => nomatch h), (fun _ h => nomatch h)⟩
theorem Iv.has_one (n : Int) : (Iv.one n).has n := ⟨fun l h => by injection h with h; omega, fun l h => by injection h with h; omega⟩
theorem Iv.has_meet {a b : Iv} {n : Int} (ha : a.has n) (hb : b.has n) : (a.meet b).has n := by
  obtain ⟨a1, a2⟩ := ha
  obtain ⟨b1, b2⟩ := hb
  constructor
  · intro l h
    simp only [Iv.meet] at h
    unfold maxO at h
    split at h
    · exact b1 l h
    · exact a1 l h
    · rename_i x y hx hy
      injection h with h
      cases hc : intLt x y with
      | true => rw [hc] at h; exact b1 l (by rw [hy, ← h]; rfl)
      | false => rw [hc] at h; exact a1 l (by rw [hx, ← h]; rfl)
  · intro l h
    simp only [Iv.meet] at h
    unfold minO at h
    split at h
    · exact b2 l h
    · exact a2 l h
    · rename_i x y hx hy
      injection h with h
      cases hc : intLt x y with
      | true => rw [hc] at h; exact a2 l (by rw [hx, ← h]; rfl)
      | false => rw [hc] at h; exact b2 l (by rw [hy, ← h]; rfl)
def bound1 (t : T) (p : B × Bool) : Iv := match p.1, p.2 with
  | .lt x (.lit m), true => bif x.same t then ⟨none, some (m - 1)⟩ else .any
  | .lt x (.lit m), false => bif x.same t then ⟨some m, none⟩ else .any
  | .lt (.lit m) x, true => bif x.same t then ⟨some (m + 1), none⟩ else .any
  | .lt (.lit m) x, false => bif x.same t then ⟨none, some m⟩ else .any
  | .eq x (.lit m), true => bif x.same t then .one m else .any
  | .eq (.lit m) x, true => bif x.same t then .one m else .any
  | _, _ => .any
theorem bound1_ok {I : Interp} {ρ : Env} {t : T} {p : B × Bool} (hp : p.1.den I ρ = p.2) : (bound1 t p).has (t.den I ρ) := by
  obtain ⟨q, r⟩ := p
  dsimp only at hp
  unfold bound1
  split
  all_goals try exact Iv.has_any _
  all_goals
    rename_i e1 e2
    dsimp only at e1 e2
    subst e1 e2
    cases hs : T.same _ t with
    | false => exact Iv.has_any _
    | true =>
      have e := T.same_eq hs
      subst e
      simp only [B.lt_t, B.lt_f, B.eq_t, B.eq_f, T.den_lit] at hp
      constructor <;> intro l h <;> first | (cases h; done) | (injection h with h; omega)
def scan (k : List (B × Bool)) (t : T) : Iv := match k with
  | [] => .any
  | p :: r => (bound1 t p).meet (scan r t)
theorem scan_ok {I : Interp} {ρ : Env} {k : List (B × Bool)} (hk : ∀ p ∈ k, p.1.den I ρ = p.2) (t : T) : (scan k t).has (t.den I ρ) := by
  induction k with
  | nil => exact Iv.has_any _
  | cons p r ih => exact Iv.has_meet (bound1_ok (hk p (.head _))) (ih fun q hq => hk q (.tail _ hq))
def addO : Option Int → Option Int → Option Int
  | some x, some y => some (x + y)
  | _, _ => none
def subO : Option Int → Option Int → Option Int
  | some x, some y => some (x - y)
  | _, _ => none
def min4 (a b c d : Int) : Int := min (min a b) (min c d)
def max4 (a b c d : Int) : Int := max (max a b) (max c d)
def mulI (a b : Iv) : Iv := match a, b with
  | ⟨some l, some h⟩, ⟨some m, some g⟩ => intF (l * m) fun a => intF (l * g) fun b => intF (h * m) fun c => intF (h * g) fun d => ⟨some (min4 a b c d), some (max4 a b c d)⟩
  | _, _ => .any
theorem mul_mono {l h x y : Int} (h1 : l ≤ x) (h2 : x ≤ h) : min (l * y) (h * y) ≤ x * y ∧ x * y ≤ max (l * y) (h * y) := by
  rcases Int.le_total 0 y with hy | hy
  · have := Int.mul_le_mul_of_nonneg_right h1 hy
    have := Int.mul_le_mul_of_nonneg_right h2 hy
    omega
  · have := Int.mul_le_mul_of_nonpos_right h1 hy
    have := Int.mul_le_mul_of_nonpos_right h2 hy
    omega
theorem mulI_ok {a b : Iv} {x y : Int} (ha : a.has x) (hb : b.has y) : (mulI a b).has (x * y) := by
  unfold mulI
  split
  · rename_i l h m g
    have a1 := ha.1 l rfl
    have a2 := ha.2 h rfl
    have b1 := hb.1 m rfl
    have b2 := hb.2 g rfl
    have h1 := mul_mono (y := y) a1 a2
    have h2 := mul_mono (y := l) b1 b2
    have h3 := mul_mono (y := h) b1 b2
    simp only [Int.mul_comm y, Int.mul_comm m, Int.mul_comm g] at h2 h3
    simp only [intF_eq]
    constructor <;> intro q hq <;> (injection hq with hq; subst hq; simp only [min4, max4]; omega)
  · exact Iv.has_any _
def divI (a : Iv) (n : Int) : Iv := match a with
  | ⟨some l, some h⟩ => bif intLt 0 n then ⟨some (l.tdiv n), some (h.tdiv n)⟩ else .any
  | _ => .any
def remI (a : Iv) (n : Int) : Iv := bif intLt 0 n then (match a.lo with
  | some l => bif intLt l 0 then ⟨some (1 - n), some (n - 1)⟩ else ⟨some 0, some (n - 1)⟩
  | none => ⟨some (1 - n), some (n - 1)⟩) else .any
theorem tdiv_mono {a b n : Int} (h : a ≤ b) (hn : 0 < n) : a.tdiv n ≤ b.tdiv n := Int.tdiv_le_tdiv hn h
theorem divI_ok {a : Iv} {x n : Int} (ha : a.has x) : (divI a n).has (x.tdiv n) := by
  unfold divI
  split
  · rename_i l h
    cases hn : intLt 0 n with
    | false => exact Iv.has_any _
    | true =>
      rw [intLt_eq, decide_eq_true_eq] at hn
      exact ⟨fun q hq => by injection hq with hq; subst hq; exact tdiv_mono (ha.1 l rfl) hn, fun q hq => by injection hq with hq; subst hq; exact tdiv_mono (ha.2 h rfl) hn⟩
  · exact Iv.has_any _
theorem remI_ok {a : Iv} {x n : Int} (ha : a.has x) : (remI a n).has (x.tmod n) := by
  unfold remI
  cases hn : intLt 0 n with
  | false => exact Iv.has_any _
  | true =>
    rw [intLt_eq, decide_eq_true_eq] at hn
    have h1 := Int.tmod_lt_of_pos x hn
    have h2 : -n < x.tmod n := by
      have := Int.tmod_lt_of_pos (-x) hn
      rw [Int.neg_tmod] at this
      omega
    simp only [cond_true]
    split
    · rename_i l hl
      cases hc : intLt l 0 with
      | true => exact ⟨fun q hq => by injection hq with hq; omega, fun q hq => by injection hq with hq; omega⟩
      | false =>
        rw [intLt_eq, decide_eq_false_iff_not] at hc
        have := ha.1 l hl
        have := Int.tmod_nonneg n (a := x) (by omega)
        exact ⟨fun q hq => by injection hq with hq; omega, fun q hq => by injection hq with hq; omega⟩
    · exact ⟨fun q hq => by injection hq with hq; omega, fun q hq => by injection hq with hq; omega⟩
def kindLo : IntKind → Int
  | .i8 => -128 | .i16 => -32768 | .i32 => -2147483648 | .i64 => -9223372036854775808
  | _ => 0
def kindHi : IntKind → Int
  | .i8 => 127 | .i16 => 32767 | .i32 => 2147483647 | .i64 => 9223372036854775807
  | .u8 => 255 | .u16 => 65535 | .u32 => 4294967295 | .u64 => 18446744073709551615
theorem wrap_in (k : IntKind) (n : Int) : kindLo k ≤ k.wrap n ∧ k.wrap n ≤ kindHi k := by
  cases k <;> simp [IntKind.wrap, IntKind.bits, IntKind.signed, kindLo, kindHi] <;> omega
theorem wrap_id (k : IntKind) (n : Int) (h1 : kindLo k ≤ n) (h2 : n ≤ kindHi k) : k.wrap n = n := by
  cases k <;> simp [IntKind.wrap, IntKind.bits, IntKind.signed, kindLo, kindHi] at * <;> omega
def leO : Option Int → Option Int → Bool
  | some x, some y => !intLt y x
  | _, _ => false
theorem leO_ok {x y : Option Int} (h : leO x y = true) : ∃ a b, x = some a ∧ y = some b ∧ a ≤ b := by
  unfold leO at h
  split at h
  · rename_i a b
    rw [Bool.not_eq_true', intLt_eq, decide_eq_false_iff_not] at h
    exact ⟨a, b, rfl, rfl, by omega⟩
  · cases h
def Iv.fits (i : Iv) (k : IntKind) : Bool := leO (some (kindLo k)) i.lo && leO i.hi (some (kindHi k))
theorem fits_ok {i : Iv} {k : IntKind} {n : Int} (h : i.fits k = true) (hn : i.has n) : k.wrap n = n := by
  simp only [Iv.fits, Bool.and_eq_true] at h
  obtain ⟨a, b, e1, e2, h1⟩ := leO_ok h.1
  obtain ⟨c, d, e3, e4, h2⟩ := leO_ok h.2
  injection e1 with e1
  injection e4 with e4
  have := hn.1 b e2
  have := hn.2 c e3
  exact wrap_id k n (by omega) (by omega)
def drawIv (ds : List Nat) (f : Nat) (a : T) : Iv := match a with
  | .cons _ (.cons (.lit n) .nil) => bif intLt 0 n && ds.any (fun g => Nat.beq g f) then ⟨some 0, some (n - 1)⟩ else .any
  | _ => .any
def T.ivG (k : Known) (sc : T → Iv) : T → Iv
  | .lit n => .one n
  | .var i => Iv.meet (bif Nat.blt i k.n64 then ⟨some (-9223372036854775808), some 9223372036854775807⟩ else .any) (sc (.var i))
  | .wrap kd a => let i := a.ivG k sc; bif i.fits kd then i else ⟨some (kindLo kd), some (kindHi kd)⟩
  | .bin .add a b => let i := a.ivG k sc; let j := b.ivG k sc; ⟨addO i.lo j.lo, addO i.hi j.hi⟩
  | .bin .sub a b => let i := a.ivG k sc; let j := b.ivG k sc; ⟨subO i.lo j.hi, subO i.hi j.lo⟩
  | .bin .mul a b => mulI (a.ivG k sc) (b.ivG k sc)
  | .bin .quo a (.lit n) => divI (a.ivG k sc) n
  | .bin .rem a (.lit n) => remI (a.ivG k sc) n
  | .bin .max a b => let i := a.ivG k sc; let j := b.ivG k sc; ⟨maxO i.lo j.lo, match i.hi, j.hi with | some x, some y => some (max x y) | _, _ => none⟩
  | .bin .min a b => let i := a.ivG k sc; let j := b.ivG k sc; ⟨match i.lo, j.lo with | some x, some y => some (min x y) | _, _ => none, minO i.hi j.hi⟩
  | .app f a => (drawIv k.draws f a).meet (sc (.app f a))
  | _ => .any
theorem maxO_some {x y : Option Int} {l : Int} (h : maxO x y = some l) : (x = some l ∨ y = some l) := by
  unfold maxO at h
  split at h
  · exact .inr h
  · exact .inl h
  · rename_i a b
    injection h with h
    cases hc : intLt a b with
    | true => rw [hc] at h; exact .inr (by rw [← h]; rfl)
    | false => rw [hc] at h; exact .inl (by rw [← h]; rfl)
theorem minO_some {x y : Option Int} {l : Int} (h : minO x y = some l) : (x = some l ∨ y = some l) := by
  unfold minO at h
  split at h
  · exact .inr h
  · exact .inl h
  · rename_i a b
    injection h with h
    cases hc : intLt a b with
    | true => rw [hc] at h; exact .inl (by rw [← h]; rfl)
    | false => rw [hc] at h; exact .inr (by rw [← h]; rfl)
theorem T.ivG_ok {I : Interp} {ρ : Env} {k : Known} (hk : k.Ok I ρ) {sc : T → Iv} (hsc : ∀ t, (sc t).has (t.den I ρ)) (t : T) : (t.ivG k sc).has (t.den I ρ) := by
  induction t with
  | lit n => exact Iv.has_one n
  | var i =>
    simp only [T.ivG]
    refine Iv.has_meet ?_ (hsc _)
    cases hb : Nat.blt i k.n64 with
    | false => exact Iv.has_any _
    | true =>
      have := hk.n64 i (by simpa using hb)
      exact ⟨fun l h => by injection h with h; rw [T.den_var]; omega, fun l h => by injection h with h; rw [T.den_var]; omega⟩
  | wrap kd a ih =>
    simp only [T.ivG, T.den_wrap]
    cases hf : (a.ivG k sc).fits kd with
    | true => simp only [cond_true]; rw [fits_ok hf ih]; exact ih
    | false =>
      have := wrap_in kd (a.den I ρ)
      exact ⟨fun l h => by injection h with h; omega, fun l h => by injection h with h; omega⟩
  | bin o a b iha ihb =>
    rw [T.den_bin]
    have oth : Iv.any.has (o.ev (a.den I ρ) (b.den I ρ)) := Iv.has_any _
    cases o
    case add =>
      simp only [T.ivG, IOp.ev]
      constructor
      · intro l h
        simp only [addO] at h
        split at h
        · rename_i x y hx hy; injection h with h; have := iha.1 x hx; have := ihb.1 y hy; omega
        · cases h
      · intro l h
        simp only [addO] at h
        split at h
        · rename_i x y hx hy; injection h with h; have := iha.2 x hx; have := ihb.2 y hy; omega
        · cases h
    case sub =>
      simp only [T.ivG, IOp.ev]
      constructor
      · intro l h
        simp only [subO] at h
        split at h
        · rename_i x y hx hy; injection h with h; have := iha.1 x hx; have := ihb.2 y hy; omega
        · cases h
      · intro l h
        simp only [subO] at h
        split at h
        · rename_i x y hx hy; injection h with h; have := iha.2 x hx; have := ihb.1 y hy; omega
        · cases h
    case mul => simp only [T.ivG, IOp.ev]; exact mulI_ok iha ihb
    case quo =>
      cases b <;> try exact oth
      simp only [T.ivG, IOp.ev, T.den_lit]; exact divI_ok iha
    case rem =>
      cases b <;> try exact oth
      simp only [T.ivG, IOp.ev, T.den_lit]; exact remI_ok iha
    case max =>
      simp only [T.ivG, IOp.ev]
      constructor
      · intro l h
        rcases maxO_some h with h | h
        · have := iha.1 l h; split <;> omega
        · have := ihb.1 l h; split <;> omega
      · intro l h
        simp only at h
        split at h
        · rename_i x y hx hy; injection h with h; have := iha.2 x hx; have := ihb.2 y hy; split <;> omega
        · cases h
    case min =>
      simp only [T.ivG, IOp.ev]
      constructor
      · intro l h
        simp only at h
        split at h
        · rename_i x y hx hy; injection h with h; have := iha.1 x hx; have := ihb.1 y hy; split <;> omega
        · cases h
      · intro l h
        rcases minO_some h with h | h
        · have := iha.2 l h; split <;> omega
        · have := ihb.2 l h; split <;> omega
  | app f a _ =>
    simp only [T.ivG]
    refine Iv.has_meet ?_ (hsc _)
    unfold drawIv
    split
    · rename_i x n _
      cases hc : (intLt 0 n && k.draws.any fun g => Nat.beq g f) with
      | false => exact Iv.has_any _
      | true =>
        simp only [Bool.and_eq_true, intLt_eq, decide_eq_true_eq, List.any_eq_true, Nat.beq_eq] at hc
        obtain ⟨hn, g, hg, rfl⟩ := hc
        have := hk.draws g hg (x.den I ρ) n hn
        simp only [T.den_app, T.dens_cons, T.dens_nil, T.den_lit]
        exact ⟨fun l h => by injection h with h; omega, fun l h => by injection h with h; omega⟩
    · exact Iv.has_any _
  | cons a b _ _ => exact Iv.has_any _
  | nil => exact Iv.has_any _
def T.iv0 (k : Known) (t : T) : Iv := t.ivG k (scan k.facts)
theorem T.iv0_ok {I : Interp} {ρ : Env} {k : Known} (hk : k.Ok I ρ) (t : T) : (t.iv0 k).has (t.den I ρ) := T.ivG_ok hk (scan_ok hk.facts) t
def isLit : T → Bool
  | .lit _ => true
  | _ => false
def sub1 : Option Int → Option Int
  | some n => some (n - 1)
  | none => none
def add1 : Option Int → Option Int
  | some n => some (n + 1)
  | none => none
def bound2 (k : Known) (t : T) (p : B × Bool) : Iv := match p.1, p.2 with
  | .lt x y, true => bif x.same t && !isLit y then ⟨none, sub1 (y.iv0 k).hi⟩ else bif y.same t && !isLit x then ⟨add1 (x.iv0 k).lo, none⟩ else .any
  | .lt x y, false => bif x.same t && !isLit y then ⟨(y.iv0 k).lo, none⟩ else bif y.same t && !isLit x then ⟨none, (x.iv0 k).hi⟩ else .any
  | .eq x y, true => bif x.same t && !isLit y then y.iv0 k else bif y.same t && !isLit x then x.iv0 k else .any
  | _, _ => .any
theorem bound2_ok {I : Interp} {ρ : Env} {k : Known} (hk : k.Ok I ρ) {t : T} {p : B × Bool} (hp : p.1.den I ρ = p.2) : (bound2 k t p).has (t.den I ρ) := by
  obtain ⟨q, r⟩ := p
  dsimp only at hp
  unfold bound2
  split
  · rename_i x y e1 e2
    dsimp only at e1 e2
    subst e1 e2
    rw [B.lt_t] at hp
    cases h1 : (T.same x t && !isLit y) with
    | true =>
      simp only [Bool.and_eq_true] at h1
      have := T.same_eq h1.1
      subst this
      have hy := T.iv0_ok hk y
      exact ⟨(fun _ h => nomatch h), fun l h => by
        cases hh : (y.iv0 k).hi with
        | none => rw [hh] at h; cases h
        | some v => rw [hh] at h; injection h with h; have := hy.2 v hh; omega⟩
    | false =>
      cases h2 : (T.same y t && !isLit x) with
      | true =>
        simp only [Bool.and_eq_true] at h2
        have := T.same_eq h2.1
        subst this
        have hx := T.iv0_ok hk x
        exact ⟨fun l h => by
          cases hh : (x.iv0 k).lo with
          | none => simp only [cond_true, cond_false, hh] at h; cases h
          | some v => simp only [cond_true, cond_false, hh] at h; injection h with h; have := hx.1 v hh; omega, (fun _ h => nomatch h)⟩
      | false => exact Iv.has_any _
  · rename_i x y e1 e2
    dsimp only at e1 e2
    subst e1 e2
    rw [B.lt_f] at hp
    cases h1 : (T.same x t && !isLit y) with
    | true =>
      simp only [Bool.and_eq_true] at h1
      have := T.same_eq h1.1
      subst this
      have hy := T.iv0_ok hk y
      exact ⟨fun l h => by have := hy.1 l h; omega, (fun _ h => nomatch h)⟩
    | false =>
      cases h2 : (T.same y t && !isLit x) with
      | true =>
        simp only [Bool.and_eq_true] at h2
        have := T.same_eq h2.1
        subst this
        have hx := T.iv0_ok hk x
        exact ⟨(fun _ h => nomatch h), fun l h => by have := hx.2 l h; omega⟩
      | false => exact Iv.has_any _
  · rename_i x y e1 e2
    dsimp only at e1 e2
    subst e1 e2
    rw [B.eq_t] at hp
    cases h1 : (T.same x t && !isLit y) with
    | true =>
      simp only [Bool.and_eq_true] at h1
      have := T.same_eq h1.1
      subst this
      rw [hp]
      exact T.iv0_ok hk y
    | false =>
      cases h2 : (T.same y t && !isLit x) with
      | true =>
        simp only [Bool.and_eq_true] at h2
        have := T.same_eq h2.1
        subst this
        rw [← hp]
        exact T.iv0_ok hk x
      | false => exact Iv.has_any _
  · exact Iv.has_any _
def scan1 (kn : Known) (t : T) : List (B × Bool) → Iv
  | [] => .any
  | p :: r => ((bound1 t p).meet (bound2 kn t p)).meet (scan1 kn t r)
theorem scan1_ok {I : Interp} {ρ : Env} {kn : Known} (hk : kn.Ok I ρ) (t : T) : ∀ (l : List (B × Bool)), (∀ p ∈ l, p.1.den I ρ = p.2) → (scan1 kn t l).has (t.den I ρ)
  | [], _ => Iv.has_any _
  | p :: r, h => Iv.has_meet (Iv.has_meet (bound1_ok (h p (.head _))) (bound2_ok hk (h p (.head _)))) (scan1_ok hk t r fun q hq => h q (.tail _ hq))
def T.iv (k : Known) (t : T) : Iv := t.ivG k fun t => scan1 k t k.facts
theorem T.iv_ok {I : Interp} {ρ : Env} {k : Known} (hk : k.Ok I ρ) (t : T) : (t.iv k).has (t.den I ρ) := T.ivG_ok hk (fun t => scan1_ok hk t k.facts hk.facts) t
section
variable {α : Type}
def Iv.force (i : Iv) (k : Iv → α) : α := match i with
  | ⟨lo, hi⟩ => optF lo fun lo => optF hi fun hi => k ⟨lo, hi⟩
theorem Iv.force_eq (i : Iv) (k : Iv → α) : i.force k = k i := by obtain ⟨lo, hi⟩ := i; simp [Iv.force, optF_eq]
def scanK (t : T) : List (B × Bool) → (Iv → α) → α
  | [], k => k .any
  | p :: r, k => (bound1 t p).force fun i => scanK t r fun j => (i.meet j).force k
theorem scanK_eq (t : T) (l : List (B × Bool)) : ∀ k : Iv → α, scanK t l k = k (scan l t) := by
  induction l with
  | nil => intro k; rfl
  | cons p r ih => intro k; simp [scanK, scan, Iv.force_eq, ih]
def T.ivGK (kn : Known) (sc : T → (Iv → α) → α) : T → (Iv → α) → α
  | .lit n, k => intF n fun n => k (.one n)
  | .var i, k => sc (.var i) fun j => (Iv.meet (bif Nat.blt i kn.n64 then ⟨some (-9223372036854775808), some 9223372036854775807⟩ else .any) j).force k
  | .wrap kd a, k => a.ivGK kn sc fun i => bif i.fits kd then k i else (⟨some (kindLo kd), some (kindHi kd)⟩ : Iv).force k
  | .bin .add a b, k => a.ivGK kn sc fun i => b.ivGK kn sc fun j => (⟨addO i.lo j.lo, addO i.hi j.hi⟩ : Iv).force k
  | .bin .sub a b, k => a.ivGK kn sc fun i => b.ivGK kn sc fun j => (⟨subO i.lo j.hi, subO i.hi j.lo⟩ : Iv).force k
  | .bin .mul a b, k => a.ivGK kn sc fun i => b.ivGK kn sc fun j => (mulI i j).force k
  | .bin .quo a (.lit n), k => a.ivGK kn sc fun i => (divI i n).force k
  | .bin .rem a (.lit n), k => a.ivGK kn sc fun i => (remI i n).force k
  | .bin .max a b, k => a.ivGK kn sc fun i => b.ivGK kn sc fun j => (⟨maxO i.lo j.lo, match i.hi, j.hi with | some x, some y => some (max x y) | _, _ => none⟩ : Iv).force k
  | .bin .min a b, k => a.ivGK kn sc fun i => b.ivGK kn sc fun j => (⟨match i.lo, j.lo with | some x, some y => some (min x y) | _, _ => none, minO i.hi j.hi⟩ : Iv).force k
  | .app f a, k => sc (.app f a) fun j => ((drawIv kn.draws f a).meet j).force k
  | .bin .quo _ _, k => k .any
  | .bin .rem _ _, k => k .any
  | .cons _ _, k => k .any
  | .nil, k => k .any
theorem T.ivGK_eq (kn : Known) {sc : T → (Iv → α) → α} {s : T → Iv} (hs : ∀ t k, sc t k = k (s t)) (t : T) : ∀ k : Iv → α, t.ivGK kn sc k = k (t.ivG kn s) := by
  induction t with
  | lit n => intro k; simp [T.ivGK, T.ivG, intF_eq]
  | var i => intro k; simp [T.ivGK, T.ivG, hs, Iv.force_eq]
  | wrap kd a ih => intro k; simp only [T.ivGK, T.ivG, ih, Iv.force_eq]; cases (a.ivG kn s).fits kd <;> rfl
  | bin o a b iha ihb =>
    intro k
    cases o
    case quo => cases b <;> simp [T.ivGK, T.ivG, iha, Iv.force_eq]
    case rem => cases b <;> simp [T.ivGK, T.ivG, iha, Iv.force_eq]
    all_goals simp only [T.ivGK, T.ivG, iha, ihb, Iv.force_eq]
  | app f a _ => intro k; simp [T.ivGK, T.ivG, hs, Iv.force_eq]
  | cons a b _ _ => intro k; rfl
  | nil => intro k; rfl
def T.iv0K (kn : Known) (t : T) (k : Iv → α) : α := t.ivGK kn (fun t => scanK t kn.facts) k
theorem T.iv0K_eq (kn : Known) (t : T) (k : Iv → α) : t.iv0K kn k = k (t.iv0 kn) := T.ivGK_eq kn (fun t k => scanK_eq t kn.facts k) t k
def bound2K (kn : Known) (t : T) (p : B × Bool) (k : Iv → α) : α := match p.1, p.2 with
  | .lt x y, true => bif x.same t && !isLit y then y.iv0K kn fun j => (⟨none, sub1 j.hi⟩ : Iv).force k else bif y.same t && !isLit x then x.iv0K kn fun j => (⟨add1 j.lo, none⟩ : Iv).force k else k .any
  | .lt x y, false => bif x.same t && !isLit y then y.iv0K kn fun j => (⟨j.lo, none⟩ : Iv).force k else bif y.same t && !isLit x then x.iv0K kn fun j => (⟨none, j.hi⟩ : Iv).force k else k .any
  | .eq x y, true => bif x.same t && !isLit y then y.iv0K kn k else bif y.same t && !isLit x then x.iv0K kn k else k .any
  | _, _ => k .any
theorem bound2K_eq (kn : Known) (t : T) (p : B × Bool) (k : Iv → α) : bound2K kn t p k = k (bound2 kn t p) := by
  unfold bound2K bound2
  split
  · simp only [T.iv0K_eq, Iv.force_eq]
    cases (T.same _ t && !isLit _) <;> simp
    cases (T.same _ t && !isLit _) <;> simp
  · simp only [T.iv0K_eq, Iv.force_eq]
    cases (T.same _ t && !isLit _) <;> simp
    cases (T.same _ t && !isLit _) <;> simp
  · simp only [T.iv0K_eq]
    cases (T.same _ t && !isLit _) <;> simp
    cases (T.same _ t && !isLit _) <;> simp
  · rfl
def scan1K (kn : Known) (t : T) : List (B × Bool) → (Iv → α) → α
  | [], k => k .any
  | p :: r, k => (bound1 t p).force fun i => bound2K kn t p fun i2 => scan1K kn t r fun j => ((i.meet i2).meet j).force k
theorem scan1K_eq (kn : Known) (t : T) (l : List (B × Bool)) : ∀ k : Iv → α, scan1K kn t l k = k (scan1 kn t l) := by
  induction l with
  | nil => intro k; rfl
  | cons p r ih => intro k; simp [scan1K, scan1, Iv.force_eq, bound2K_eq, ih]
def T.ivK (kn : Known) (t : T) (k : Iv → α) : α := t.ivGK kn (fun t => scan1K kn t kn.facts) k
theorem T.ivK_eq (kn : Known) (t : T) (k : Iv → α) : t.ivK kn k = k (t.iv kn) := T.ivGK_eq kn (fun t k => scan1K_eq kn t kn.facts k) t k
end
def ltO : Option Int → Option Int → Bool
  | some x, some y => intLt x y
  | _, _ => false
theorem ltO_ok {x y : Option Int} (h : ltO x y = true) : ∃ a b, x = some a ∧ y = some b ∧ a < b := by
  unfold ltO at h
  split at h
  · rename_i a b
    rw [intLt_eq, decide_eq_true_eq] at h
    exact ⟨a, b, rfl, rfl, h⟩
  · cases h
def byIv (k : Known) (b : B) : Option Bool := match b with
  | .lt x y => x.ivK k fun i => y.ivK k fun j => bif ltO i.hi j.lo then some true else bif leO j.hi i.lo then some false else none
  | .eq x y => x.ivK k fun i => y.ivK k fun j => bif ltO i.hi j.lo || ltO j.hi i.lo then some false else bif leO i.hi j.lo && leO j.hi i.lo then some true else none
  | _ => none
theorem byIv_ok {I : Interp} {ρ : Env} {k : Known} (hk : k.Ok I ρ) {b : B} {v : Bool} (h : byIv k b = some v) : b.den I ρ = v := by
  unfold byIv at h
  split at h
  · rename_i x y
    have hx := T.iv_ok hk x
    have hy := T.iv_ok hk y
    simp only [T.ivK_eq] at h
    cases h1 : ltO (x.iv k).hi (y.iv k).lo with
    | true =>
      rw [h1] at h
      injection h with h
      subst h
      obtain ⟨a, b, e1, e2, h2⟩ := ltO_ok h1
      have := hx.2 a e1
      have := hy.1 b e2
      rw [B.lt_t]; omega
    | false =>
      rw [h1] at h
      cases h3 : leO (y.iv k).hi (x.iv k).lo with
      | false => rw [h3] at h; cases h
      | true =>
        rw [h3] at h
        injection h with h
        subst h
        obtain ⟨a, b, e1, e2, h2⟩ := leO_ok h3
        have := hy.2 a e1
        have := hx.1 b e2
        rw [B.lt_f]; omega
  · rename_i x y
    have hx := T.iv_ok hk x
    have hy := T.iv_ok hk y
    simp only [T.ivK_eq] at h
    cases h1 : (ltO (x.iv k).hi (y.iv k).lo || ltO (y.iv k).hi (x.iv k).lo) with
    | true =>
      rw [h1] at h
      injection h with h
      subst h
      rw [B.eq_f]
      simp only [Bool.or_eq_true] at h1
      rcases h1 with h1 | h1
      · obtain ⟨a, b, e1, e2, h2⟩ := ltO_ok h1
        have := hx.2 a e1
        have := hy.1 b e2
        omega
      · obtain ⟨a, b, e1, e2, h2⟩ := ltO_ok h1
        have := hy.2 a e1
        have := hx.1 b e2
        omega
    | false =>
      rw [h1] at h
      cases h3 : (leO (x.iv k).hi (y.iv k).lo && leO (y.iv k).hi (x.iv k).lo) with
      | false => rw [h3] at h; cases h
      | true =>
        rw [h3] at h
        injection h with h
        subst h
        simp only [Bool.and_eq_true] at h3
        obtain ⟨a, b, e1, e2, h2⟩ := leO_ok h3.1
        obtain ⟨c, d, e3, e4, h4⟩ := leO_ok h3.2
        have := hx.2 a e1
        have := hy.1 b e2
        have := hy.2 c e3
        have := hx.1 d e4
        rw [B.eq_t]; omega
  · cases h
def B.atom (k : Known) (b : B) : B := match atomOf k.facts b with
  | some v => .lit v
  | none => match byIv k b with
    | some v => .lit v
    | none => b
theorem B.den_atom {I : Interp} {ρ : Env} {k : Known} (hk : k.Ok I ρ) (b : B) : (b.atom k).den I ρ = b.den I ρ := by
  unfold B.atom
  split
  · rename_i v h; exact (atomOf_ok hk.facts h).symm
  · split
    · rename_i v h; exact (byIv_ok hk h).symm
    · rfl
def B.under (k : Known) : B → B
  | .lit b => .lit b
  | .not a => (a.under k).mkNot
  | .and a b => .mkAnd (a.under k) (b.under k)
  | .iff a b => .mkIff (a.under k) (b.under k)
  | b => b.atom k
theorem B.den_under {I : Interp} {ρ : Env} {k : Known} (hk : k.Ok I ρ) : ∀ b : B, (b.under k).den I ρ = b.den I ρ
  | .lit _ => rfl
  | .not a => by rw [B.under, B.den_mkNot, B.den_under hk a]; rfl
  | .and a b => by rw [B.under, B.den_mkAnd, B.den_under hk a, B.den_under hk b]; rfl
  | .iff a b => by rw [B.under, B.den_mkIff, B.den_under hk a, B.den_under hk b]; rfl
  | .var _ | .lt .. | .eq .. | .app .. => B.den_atom hk _
def B.head : B → B
  | .not a => a.head
  | .and a _ => a.head
  | .iff a _ => a.head
  | b => b
def T.wrapK (k : Known) (kd : IntKind) (t : T) : T := match t with
  | .lit n => .lit (kd.wrap n)
  | t => t.ivK k fun i => bif i.fits kd then t else .wrap kd t
theorem T.den_wrapK {I : Interp} {ρ : Env} {k : Known} (hk : k.Ok I ρ) (kd : IntKind) (t : T) : (t.wrapK k kd).den I ρ = kd.wrap (t.den I ρ) := by
  unfold T.wrapK
  split
  · rfl
  · rw [T.ivK_eq]
    cases h : (t.iv k).fits kd with
    | false => rfl
    | true => exact (fits_ok h (T.iv_ok hk t)).symm
inductive P0 where
  | int (k : IntKind) (t : T)
  | bool (b : B)
def P0.den (I : Interp) (ρ : Env) : P0 → Value
  | .int k t => .int k (t.den I ρ)
  | .bool b => .bool (b.den I ρ)
def ifcDen (I : Interp) (ρ : Env) (t : TypeId) (ag : Bool) (ps : List P0) : Value := match ag, ps with
  | false, p :: _ => .iface t (p.den I ρ)
  | _, ps => .iface t (.agg (ps.map (P0.den I ρ)).toArray)
inductive C where
  | int (k : IntKind) (t : T)
  | bool (b : B)
  | ptr (id off : Nat)
  | nilp
  | slice (id off len cap : Nat)
  | nils
  | fn (f : Fn) (caps : List (Nat × Nat))
  | str (s : ByteArray)
  | nilf
  | abs (f : Nat) (a : T)
  | opq (id : Nat)
  | ifc (t : TypeId) (ag : Bool) (ps : List P0)
  | yld (id : Nat)
  | nili
  /-- A part of a list that has grown: its row has more room than we know of. -/
  | osl (id cid off skip len : Nat)
inductive V where
  | c (x : C)
  | agg (cs : List C)
  | tup (vs : List (Bool × List C))
  /-- Whatever a slot may hold. -/
  | any (n : Nat)
def C.den (I : Interp) (ρ : Env) (β : Nat → Nat) : C → Value
  | .int k t => .int k (t.den I ρ)
  | .bool b => .bool (b.den I ρ)
  | .ptr id off => .pointer (some ⟨β id, off, none⟩)
  | .nilp => .pointer none
  | .slice id off len cap => .slice (some ⟨β id, off, none⟩) len cap
  | .nils => .slice none 0 0
  | .fn f caps => .func f #[] (caps.map fun p => Value.pointer (some ⟨β p.1, p.2, none⟩)).toArray
  | .str s => .string s
  | .nilf => .nilFunc
  | .abs f a => I.fv f (a.dens I ρ)
  | .opq id => I.opq.dec (β id)
  | .ifc t ag ps => ifcDen I ρ t ag ps
  | .yld id => .func (.yield (β id)) #[] #[]
  | .nili => .nilIface
  | .osl id cid off skip len => .slice (some ⟨β id, off, none⟩) len (β cid - skip)
def cellsOf (I : Interp) (ρ : Env) (β : Nat → Nat) (cs : List C) : Array Value := (cs.map (C.den I ρ β)).toArray
def partOf (I : Interp) (ρ : Env) (β : Nat → Nat) (p : Bool × List C) : Value := match p with
  | (false, c :: _) => c.den I ρ β
  | (_, cs) => .agg (cellsOf I ρ β cs)
def V.den (I : Interp) (ρ : Env) (β : Nat → Nat) : V → Value
  | .c x => x.den I ρ β
  | .agg cs => .agg (cellsOf I ρ β cs)
  | .tup vs => .tuple (vs.map (partOf I ρ β)).toArray
  | .any n => ρ.v n
def C.wf (n : Nat) : C → Bool
  | .ptr id _ | .slice id .. => Nat.blt id n
  | .opq id => Nat.blt id n
  | .yld id => Nat.blt id n
  | .fn _ caps => caps.all fun p => Nat.blt p.1 n
  | .osl id cid .. => Nat.blt id n && Nat.blt cid n
  | _ => true
def V.wf (n : Nat) : V → Bool
  | .c x => x.wf n
  | .agg cs => cs.all (C.wf n)
  | .tup vs => vs.all fun p => p.2.all (C.wf n)
  | .any _ => true
def V.undef : V := .tup []
section
variable {I : Interp} {ρ : Env} {β β' : Nat → Nat} {n m : Nat}
theorem V.den_undef : V.undef.den I ρ β = Go.undef := rfl
theorem C.wf_mono {c : C} (hnm : n ≤ m) (h : c.wf n = true) : c.wf m = true := by
  cases c <;> simp only [C.wf, Nat.blt_eq, List.all_eq_true, Bool.and_eq_true] at h ⊢
  all_goals first | omega | skip
  exact fun p hp => Nat.lt_of_lt_of_le (by simpa using h p hp) hnm
theorem V.wf_mono {v : V} (hnm : n ≤ m) (h : v.wf n = true) : v.wf m = true := by
  cases v with
  | c x => exact C.wf_mono hnm h
  | agg cs => simp only [V.wf, List.all_eq_true] at h ⊢; exact fun c hc => C.wf_mono hnm (h c hc)
  | tup vs => simp only [V.wf, List.all_eq_true] at h ⊢; exact fun p hp c hc => C.wf_mono hnm (h p hp c hc)
  | any _ => rfl
theorem C.den_agree {c : C} (h : c.wf n = true) (hβ : ∀ id, id < n → β' id = β id) : c.den I ρ β' = c.den I ρ β := by
  cases c <;> simp only [C.wf, Nat.blt_eq, List.all_eq_true, Bool.and_eq_true] at h <;> simp only [C.den]
  · rw [hβ _ h]
  · rw [hβ _ h]
  · rename_i caps
    congr 2
    exact List.map_congr_left fun p hp => by rw [hβ _ (by simpa using h p hp)]
  · rw [hβ _ h]
  · rw [hβ _ h]
  · rw [hβ _ h.1, hβ _ h.2]
theorem cellsOf_agree {cs : List C} (h : ∀ c ∈ cs, c.wf n = true) (hβ : ∀ id, id < n → β' id = β id) : cellsOf I ρ β' cs = cellsOf I ρ β cs := by
  unfold cellsOf
  congr 1
  exact List.map_congr_left fun c hc => C.den_agree (h c hc) hβ
theorem V.den_agree {v : V} (h : v.wf n = true) (hβ : ∀ id, id < n → β' id = β id) : v.den I ρ β' = v.den I ρ β := by
  cases v with
  | c x => exact C.den_agree h hβ
  | agg cs => simp only [V.wf, List.all_eq_true] at h; simp only [V.den, cellsOf_agree h hβ]
  | tup vs =>
    simp only [V.wf, List.all_eq_true] at h
    simp only [V.den]
    congr 2
    refine List.map_congr_left fun p hp => ?_
    obtain ⟨b, cs⟩ := p
    have hw : ∀ c ∈ cs, c.wf n = true := h _ hp
    unfold partOf
    split
    · exact C.den_agree (hw _ (by simp_all)) hβ
    · rename_i cs' e; obtain ⟨rfl, rfl⟩ := Prod.mk.inj e; simp only [cellsOf_agree hw hβ]
  | any _ => rfl
theorem P0.den_fix (L : List (Nat × Obj)) (p : P0) : p.den (I.fix L) ρ = p.den I ρ := by cases p <;> simp only [P0.den, T.den_fix, B.den_fix]
theorem C.den_fix (L : List (Nat × Obj)) (c : C) : c.den (I.fix L) ρ β = c.den I ρ β := by
  cases c <;> simp only [C.den, T.den_fix, B.den_fix, T.dens_fix]
  · rfl
  · rfl
  · unfold ifcDen
    split <;> simp only [P0.den_fix, List.map_cons, funext (P0.den_fix (I := I) (ρ := ρ) L)]
theorem cellsOf_fix (L : List (Nat × Obj)) (cs : List C) : cellsOf (I.fix L) ρ β cs = cellsOf I ρ β cs := by
  unfold cellsOf; rw [funext (C.den_fix (I := I) (ρ := ρ) (β := β) L)]
theorem V.den_fix (L : List (Nat × Obj)) (v : V) : v.den (I.fix L) ρ β = v.den I ρ β := by
  cases v with
  | c x => exact C.den_fix L x
  | agg cs => simp only [V.den, cellsOf_fix]
  | tup vs =>
    simp only [V.den]
    congr 2
    refine List.map_congr_left fun p _ => ?_
    unfold partOf
    split <;> simp only [C.den_fix, cellsOf_fix]
  | any _ => rfl
theorem C.one (c : C) : (∀ cs, c.den I ρ β ≠ .agg cs) ∧ ∀ cs, c.den I ρ β ≠ .tuple cs := by
  cases c <;> simp [C.den]
  · exact I.ok _ _
  · exact I.opq.one _
  · unfold ifcDen; split <;> exact ⟨(fun _ h => nomatch h), (fun _ h => nomatch h)⟩
theorem C.cells (c : C) : (c.den I ρ β).cells = #[c.den I ρ β] := by
  have := C.one (I := I) (ρ := ρ) (β := β) c
  cases h : c.den I ρ β <;> simp_all [Value.cells]
theorem cellsOf_size (cs : List C) : (cellsOf I ρ β cs).size = cs.length := by simp [cellsOf]
theorem cellsOf_get (cs : List C) (k : Nat) : (cellsOf I ρ β cs)[k]? = (cs[k]?).map (C.den I ρ β) := by simp [cellsOf]
end
section
variable {α : Type}
def kindF (x : IntKind) (k : IntKind → α) : α := match x with
  | .i8 => k .i8 | .i16 => k .i16 | .i32 => k .i32 | .i64 => k .i64 | .u8 => k .u8 | .u16 => k .u16 | .u32 => k .u32 | .u64 => k .u64
def iopF (x : IOp) (k : IOp → α) : α := match x with
  | .add => k .add | .sub => k .sub | .mul => k .mul | .quo => k .quo | .rem => k .rem | .max => k .max | .min => k .min
def T.force : T → (T → α) → α
  | .lit n, k => intF n fun n => k (.lit n)
  | .var i, k => natF i fun i => k (.var i)
  | .wrap x a, k => kindF x fun x => a.force fun a => k (.wrap x a)
  | .bin o a b, k => iopF o fun o => a.force fun a => b.force fun b => k (.bin o a b)
  | .app f a, k => natF f fun f => a.force fun a => k (.app f a)
  | .cons a b, k => a.force fun a => b.force fun b => k (.cons a b)
  | .nil, k => k .nil
def boolF (b : Bool) (k : Bool → α) : α := match b with
  | true => k true
  | false => k false
def B.force : B → (B → α) → α
  | .lit b, k => boolF b fun b => k (.lit b)
  | .var i, k => natF i fun i => k (.var i)
  | .lt a b, k => a.force fun a => b.force fun b => k (.lt a b)
  | .eq a b, k => a.force fun a => b.force fun b => k (.eq a b)
  | .not a, k => a.force fun a => k (.not a)
  | .and a b, k => a.force fun a => b.force fun b => k (.and a b)
  | .iff a b, k => a.force fun a => b.force fun b => k (.iff a b)
  | .app f a, k => natF f fun f => a.force fun a => k (.app f a)
def fnF (f : Fn) (k : Fn → α) : α := match f with
  | .func n => natF n fun n => k (.func n)
  | f => k f
def capsF : List (Nat × Nat) → (List (Nat × Nat) → α) → α
  | [], k => k []
  | (a, b) :: r, k => natF a fun a => natF b fun b => capsF r fun r => k ((a, b) :: r)
def p0sF : List P0 → (List P0 → α) → α
  | [], k => k []
  | .int x t :: r, k => kindF x fun x => t.force fun t => p0sF r fun r => k (.int x t :: r)
  | .bool b :: r, k => b.force fun b => p0sF r fun r => k (.bool b :: r)
def C.force (c : C) (k : C → α) : α := match c with
  | .int x t => kindF x fun x => t.force fun t => k (.int x t)
  | .bool b => b.force fun b => k (.bool b)
  | .ptr a b => natF a fun a => natF b fun b => k (.ptr a b)
  | .nilp => k .nilp
  | .slice a b c d => natF a fun a => natF b fun b => natF c fun c => natF d fun d => k (.slice a b c d)
  | .nils => k .nils
  | .fn f l => fnF f fun f => capsF l fun l => k (.fn f l)
  | .str s => k (.str s)
  | .nilf => k .nilf
  | .abs f a => natF f fun f => a.force fun a => k (.abs f a)
  | .opq a => natF a fun a => k (.opq a)
  | .ifc t ag ps => natF t fun t => boolF ag fun ag => p0sF ps fun ps => k (.ifc t ag ps)
  | .yld a => natF a fun a => k (.yld a)
  | .nili => k .nili
  | .osl a b c d e => natF a fun a => natF b fun b => natF c fun c => natF d fun d => natF e fun e => k (.osl a b c d e)
def csF : List C → (List C → α) → α
  | [], k => k []
  | c :: r, k => c.force fun c => csF r fun r => k (c :: r)
def tupF : List (Bool × List C) → (List (Bool × List C) → α) → α
  | [], k => k []
  | (b, cs) :: r, k => boolF b fun b => csF cs fun cs => tupF r fun r => k ((b, cs) :: r)
def V.force (v : V) (k : V → α) : α := match v with
  | .c x => x.force fun x => k (.c x)
  | .agg cs => csF cs fun cs => k (.agg cs)
  | .tup vs => tupF vs fun vs => k (.tup vs)
  | .any n => natF n fun n => k (.any n)
def vsF : List V → (List V → α) → α
  | [], k => k []
  | v :: r, k => v.force fun v => vsF r fun r => k (v :: r)
theorem kindF_eq (n : IntKind) (k : IntKind → α) : kindF n k = k n := by cases n <;> rfl
theorem iopF_eq (n : IOp) (k : IOp → α) : iopF n k = k n := by cases n <;> rfl
theorem boolF_eq (n : Bool) (k : Bool → α) : boolF n k = k n := by cases n <;> rfl
theorem T.force_eq (t : T) : ∀ k : T → α, t.force k = k t := by
  induction t <;> intro k <;> simp_all [T.force, intF_eq, natF_eq, kindF_eq, iopF_eq]
theorem B.force_eq (t : B) : ∀ k : B → α, t.force k = k t := by
  induction t <;> intro k <;> simp_all [B.force, boolF_eq, natF_eq, T.force_eq]
theorem fnF_eq (n : Fn) (k : Fn → α) : fnF n k = k n := by cases n <;> simp [fnF, natF_eq]
theorem capsF_eq (l : List (Nat × Nat)) : ∀ k : List (Nat × Nat) → α, capsF l k = k l := by
  induction l with
  | nil => intro k; rfl
  | cons p r ih => intro k; obtain ⟨a, b⟩ := p; simp [capsF, natF_eq, ih]
theorem p0sF_eq (l : List P0) : ∀ k : List P0 → α, p0sF l k = k l := by
  induction l with
  | nil => intro k; rfl
  | cons p r ih => intro k; cases p <;> simp [p0sF, kindF_eq, T.force_eq, B.force_eq, ih]
theorem C.force_eq (c : C) (k : C → α) : c.force k = k c := by cases c <;> simp [C.force, kindF_eq, T.force_eq, B.force_eq, natF_eq, fnF_eq, capsF_eq, boolF_eq, p0sF_eq]
theorem csF_eq (l : List C) : ∀ k : List C → α, csF l k = k l := by
  induction l with
  | nil => intro k; rfl
  | cons c r ih => intro k; simp [csF, C.force_eq, ih]
theorem tupF_eq (l : List (Bool × List C)) : ∀ k : List (Bool × List C) → α, tupF l k = k l := by
  induction l with
  | nil => intro k; rfl
  | cons c r ih => intro k; obtain ⟨a, b⟩ := c; simp [tupF, boolF_eq, csF_eq, ih]
theorem V.force_eq (v : V) (k : V → α) : v.force k = k v := by cases v <;> simp [V.force, C.force_eq, csF_eq, tupF_eq, natF_eq]
theorem vsF_eq (l : List V) : ∀ k : List V → α, vsF l k = k l := by
  induction l with
  | nil => intro k; rfl
  | cons c r ih => intro k; simp [vsF, V.force_eq, ih]
end
end Go.Proofs.Ytliimpbbppbghaa.Sx
namespace Go.Proofs.Ytliimpbbppbghaa.Sx
open Go Go.RowKit
structure Blk where
  ty : TypeId
  cells : List C
def opqTy : Nat := 4294967295
def Blk.isOpq (b : Blk) : Bool := Nat.beq b.ty opqTy
def openTy : Nat := 8589934592
def opn (t : TypeId) : Bool := Nat.ble openTy t
def rty (t : TypeId) : TypeId := (t - openTy) / 4096
def szO (t : TypeId) : Nat := (t - openTy) % 4096
def oty (e : TypeId) (n : Nat) : TypeId := openTy + (e * 4096 + n)
def isNil : List C → Bool
  | [] => true
  | _ => false
def Blk.dead (b : Blk) : Bool := opn b.ty && isNil b.cells
def Blk.live (b : Blk) : Bool := !b.isOpq && !b.dead
def Blk.row (b : Blk) : List C := match opn b.ty with
  | true => b.cells.drop 1
  | false => b.cells
def Blk.back (b : Blk) (l : List C) : List C := match opn b.ty, b.cells with
  | true, c :: _ => c :: l
  | _, _ => l
def C.num (I : Interp) (ρ : Env) : C → Int
  | .int _ t => t.den I ρ
  | _ => 0
def numsOf (I : Interp) (ρ : Env) (cs : List C) : List Int := cs.map (C.num I ρ)
structure S where
  blks : List (Nat × Blk)
  nb : Nat
  known : Known
def findIn : List (Nat × Blk) → Nat → Option Blk
  | [], _ => none
  | p :: r, id => bif Nat.beq p.1 id then some p.2 else findIn r id
def S.find (s : S) (id : Nat) : Option Blk := match findIn s.blks id with
  | some b => bif b.live then some b else none
  | none => none
theorem findIn_mem : ∀ {l : List (Nat × Blk)} {id : Nat} {b : Blk}, findIn l id = some b → (id, b) ∈ l
  | p :: r, id, b, h => by
    unfold findIn at h
    cases hb : Nat.beq p.1 id with
    | true =>
      rw [hb] at h
      simp only [cond_true, Option.some.injEq] at h
      have := Nat.eq_of_beq_eq_true hb
      subst h this
      exact .head _
    | false => rw [hb] at h; exact .tail _ (findIn_mem h)
theorem find_mem {s : S} {id : Nat} {b : Blk} (h : s.find id = some b) : (id, b) ∈ s.blks ∧ b.live = true := by
  unfold S.find at h
  split at h
  · rename_i b' hb
    cases ho : b'.live with
    | false => rw [ho] at h; cases h
    | true => rw [ho] at h; injection h with h; subst h; exact ⟨findIn_mem hb, ho⟩
  · cases h
theorem Blk.live_opq {b : Blk} (h : b.live = true) : b.isOpq = false := by unfold Blk.live at h; simp only [Bool.and_eq_true, Bool.not_eq_true'] at h; exact h.1
theorem Blk.live_dead {b : Blk} (h : b.live = true) : b.dead = false := by unfold Blk.live at h; simp only [Bool.and_eq_true, Bool.not_eq_true'] at h; exact h.2
theorem Blk.live_of {b : Blk} (h : b.isOpq = false) (k : b.dead = false) : b.live = true := by unfold Blk.live; rw [h, k]; rfl
theorem opn_opq {t : TypeId} (h : opn t = true) : Nat.beq t opqTy = false := by
  cases hb : Nat.beq t opqTy with
  | false => rfl
  | true => have := Nat.eq_of_beq_eq_true hb; subst this; cases h
def setAt (cs : List C) (off : Nat) (vs : List C) : List C := cs.take off ++ vs ++ cs.drop (off + vs.length)
def putIn : List (Nat × Blk) → Nat → List C → List (Nat × Blk)
  | [], _, _ => []
  | p :: r, id, cs => bif Nat.beq p.1 id then (p.1, ⟨p.2.ty, cs⟩) :: putIn r id cs else p :: putIn r id cs
theorem mem_putIn : ∀ {l : List (Nat × Blk)} {id : Nat} {cs : List C} {q : Nat × Blk}, q ∈ putIn l id cs → (q.1 = id ∧ q.2.cells = cs ∧ ∃ b, (id, b) ∈ l ∧ b.ty = q.2.ty) ∨ (q.1 ≠ id ∧ q ∈ l)
  | p :: r, id, cs, q, h => by
    unfold putIn at h
    cases hb : Nat.beq p.1 id with
    | true =>
      rw [hb] at h
      simp only [cond_true, List.mem_cons] at h
      have e := Nat.eq_of_beq_eq_true hb
      rcases h with h | h
      · subst h; exact .inl ⟨e, rfl, p.2, by subst e; exact .head _, rfl⟩
      · rcases mem_putIn h with ⟨h1, h2, b, h3, h4⟩ | ⟨h1, h2⟩
        · exact .inl ⟨h1, h2, b, .tail _ h3, h4⟩
        · exact .inr ⟨h1, .tail _ h2⟩
    | false =>
      rw [hb] at h
      simp only [cond_false, List.mem_cons] at h
      rcases h with h | h
      · subst h; exact .inr ⟨fun e => by rw [e] at hb; simp at hb, .head _⟩
      · rcases mem_putIn h with ⟨h1, h2, b, h3, h4⟩ | ⟨h1, h2⟩
        · exact .inl ⟨h1, h2, b, .tail _ h3, h4⟩
        · exact .inr ⟨h1, .tail _ h2⟩
def S.put (s : S) (id : Nat) (cs : List C) : S := ⟨putIn s.blks id cs, s.nb, s.known⟩
def S.alloc (s : S) (ty : TypeId) (cs : List C) : S := ⟨(s.nb, ⟨ty, cs⟩) :: s.blks, s.nb + 1, s.known⟩
def S.assume (s : S) (b : B) (v : Bool) : S := ⟨s.blks, s.nb, s.known.add b v⟩
section
variable {α : Type}
def putInK : List (Nat × Blk) → Nat → List C → (List (Nat × Blk) → α) → α
  | [], _, _, k => k []
  | p :: r, id, cs, k => bif Nat.beq p.1 id then putInK r id cs fun r => k ((p.1, ⟨p.2.ty, cs⟩) :: r) else putInK r id cs fun r => k (p :: r)
theorem putInK_eq (l : List (Nat × Blk)) (id : Nat) (cs : List C) : ∀ k : List (Nat × Blk) → α, putInK l id cs k = k (putIn l id cs) := by
  induction l with
  | nil => intro k; rfl
  | cons p r ih => intro k; simp only [putInK, putIn, ih]; cases Nat.beq p.1 id <;> rfl
def S.putK (s : S) (id : Nat) (cs : List C) (k : S → α) : α := match s with
  | ⟨b, n, kn⟩ => csF cs fun cs => putInK b id cs fun b => k ⟨b, n, kn⟩
theorem S.putK_eq (s : S) (id : Nat) (cs : List C) (k : S → α) : s.putK id cs k = k (s.put id cs) := by obtain ⟨b, n, kn⟩ := s; simp [S.putK, S.put, csF_eq, putInK_eq]
def S.allocK (s : S) (ty : TypeId) (cs : List C) (k : S → α) : α := match s with
  | ⟨b, n, kn⟩ => natF n fun n => csF cs fun cs => natF ty fun ty => k ⟨(n, ⟨ty, cs⟩) :: b, n + 1, kn⟩
theorem S.allocK_eq (s : S) (ty : TypeId) (cs : List C) (k : S → α) : s.allocK ty cs k = k (s.alloc ty cs) := by obtain ⟨b, n, kn⟩ := s; simp [S.allocK, S.alloc, csF_eq, natF_eq]
def factsF : List (B × Bool) → (List (B × Bool) → α) → α
  | [], k => k []
  | (b, v) :: r, k => b.force fun b => boolF v fun v => factsF r fun r => k ((b, v) :: r)
theorem factsF_eq (l : List (B × Bool)) : ∀ k : List (B × Bool) → α, factsF l k = k l := by
  induction l with
  | nil => intro k; rfl
  | cons p r ih => intro k; obtain ⟨b, v⟩ := p; simp [factsF, B.force_eq, boolF_eq, ih]
def S.assumeK (s : S) (b : B) (v : Bool) (k : S → α) : α := match s with
  | ⟨l, n, ⟨f, d, m⟩⟩ => factsF (addFact f b v) fun f => k ⟨l, n, ⟨f, d, m⟩⟩
theorem S.assumeK_eq (s : S) (b : B) (v : Bool) (k : S → α) : s.assumeK b v k = k (s.assume b v) := by obtain ⟨l, n, f, d, m⟩ := s; simp [S.assumeK, S.assume, Known.add, factsF_eq]
end
structure Keeps (X : Nat → Prop) (w0 w : World) : Prop where
  os : w.os = w0.os
  tape : w.tape = w0.tape
  output : w.output = w0.output
  size : w0.heap.size ≤ w.heap.size
  block : ∀ g, g < w0.heap.size → ¬ X g → w.heap[g]? = w0.heap[g]?
theorem Keeps.refl (X : Nat → Prop) (w : World) : Keeps X w w := ⟨rfl, rfl, rfl, Nat.le_refl _, fun _ _ _ => rfl⟩
theorem Keeps.trans {X : Nat → Prop} {a b c : World} (h : Keeps X a b) (k : Keeps X b c) : Keeps X a c :=
  ⟨k.os.trans h.os, k.tape.trans h.tape, k.output.trans h.output, Nat.le_trans h.size k.size, fun g hg hx => (k.block g (Nat.lt_of_lt_of_le hg h.size) hx).trans (h.block g hg hx)⟩
theorem Keeps.below {w w' : World} (h : Keeps (fun _ => False) w w') : Below w.heap.size w w' := ⟨h.os, h.tape, h.output, h.size, fun k hk => h.block k hk id⟩
def Hyp (I : Interp) (w0 : World) (X : Nat → Prop) : Prop := ∀ p ∈ I.fixed, w0.heap[p.1]? = some p.2 ∧ ¬ X p.1
def NoDig (l : List Value) : Prop := ∀ v ∈ l, ∀ d, v ≠ .int .u32 d
def OpenRow (I : Interp) (ρ : Env) (β : Nat → Nat) (w : World) (id : Nat) (ty : TypeId) : List C → Prop
  | .yld cid :: cs => ∃ a : Array Value, w.heap[β id]? = some (.cells a (rty ty) (0, 0)) ∧ a.size = β cid * szO ty ∧ a.toList.take cs.length = cs.map (C.den I ρ β) ∧ cs.length ≤ a.size ∧ NoDig (a.toList.drop cs.length) ∧ 0 < szO ty
  | [] => True
  | _ => False
def RowP (I : Interp) (ρ : Env) (β : Nat → Nat) (w : World) (id : Nat) (b : Blk) : Prop := match opn b.ty with
  | true => OpenRow I ρ β w id b.ty b.cells
  | false => w.heap[β id]? = some (.cells (cellsOf I ρ β b.cells) b.ty (0, 0))
section
variable {I : Interp} {ρ : Env} {β β' : Nat → Nat} {w w' : World} {id n : Nat} {b : Blk}
theorem RowP.closed (h : opn b.ty = false) : RowP I ρ β w id b ↔ w.heap[β id]? = some (.cells (cellsOf I ρ β b.cells) b.ty (0, 0)) := by unfold RowP; rw [h]
theorem OpenRow.ex {ty : TypeId} {cs : List C} (h : OpenRow I ρ β w id ty cs) : cs = [] ∨ ∃ cid r, cs = .yld cid :: r := by
  unfold OpenRow at h
  split at h
  · exact .inr ⟨_, _, rfl⟩
  · exact .inl rfl
  · exact h.elim
theorem RowP.heap (hw : w'.heap[β id]? = w.heap[β id]?) (h : RowP I ρ β w id b) : RowP I ρ β w' id b := by
  unfold RowP at *
  cases ho : opn b.ty with
  | false => rw [ho] at h; simp only at h ⊢; rw [hw]; exact h
  | true =>
    rw [ho] at h
    simp only at h ⊢
    rcases h.ex with e | ⟨cid, r, e⟩
    · rw [e]; trivial
    · rw [e] at h ⊢; obtain ⟨a, h1, h2⟩ := h; exact ⟨a, hw.trans h1, h2⟩
theorem RowP.agree (hid : β' id = β id) (hc : ∀ c ∈ b.cells, c.wf n = true) (hβ : ∀ k, k < n → β' k = β k) (h : RowP I ρ β w id b) : RowP I ρ β' w id b := by
  unfold RowP at *
  cases ho : opn b.ty with
  | false => rw [ho] at h; simp only at h ⊢; rw [hid, cellsOf_agree hc hβ]; exact h
  | true =>
    rw [ho] at h
    simp only at h ⊢
    rcases h.ex with e | ⟨cid, r, e⟩
    · rw [e]; trivial
    · rw [e] at h hc ⊢
      obtain ⟨a, h1, h2, h3, h4⟩ := h
      have hy : cid < n := by simpa [C.wf] using hc (.yld cid) (.head _)
      exact ⟨a, by rw [hid]; exact h1, by rw [hβ _ hy]; exact h2, h3.trans (List.map_congr_left fun c hm => (C.den_agree (hc c (.tail _ hm)) hβ).symm), h4⟩
theorem RowP.lt (h : RowP I ρ β w id b) (hd : b.dead = false) : β id < w.heap.size := by
  unfold RowP at h
  cases ho : opn b.ty with
  | false => rw [ho] at h; exact (Array.getElem?_eq_some_iff.1 h).1
  | true =>
    rw [ho] at h
    simp only at h
    rcases h.ex with e | ⟨cid, r, e⟩
    · unfold Blk.dead at hd; rw [ho, e] at hd; cases hd
    · rw [e] at h; obtain ⟨a, h1, -⟩ := h; exact (Array.getElem?_eq_some_iff.1 h1).1
theorem RowP.at_ (h : RowP I ρ β w id b) (hd : b.dead = false) : ∃ a t, w.heap[β id]? = some (.cells a t (0, 0)) ∧ a.toList.take b.row.length = b.row.map (C.den I ρ β) ∧ b.row.length ≤ a.size ∧ NoDig (a.toList.drop b.row.length) := by
  unfold RowP at h
  unfold Blk.row
  cases ho : opn b.ty with
  | false =>
    rw [ho] at h
    refine ⟨_, _, h, ?_, ?_, ?_⟩
    · simp only [cellsOf]; rw [List.take_of_length_le (by simp)]
    · simp [cellsOf]
    · intro v hv; simp only [cellsOf] at hv; rw [List.drop_of_length_le (by simp)] at hv; cases hv
  | true =>
    rw [ho] at h
    simp only at h
    rcases h.ex with e | ⟨cid, r, e⟩
    · unfold Blk.dead at hd; rw [ho, e] at hd; cases hd
    · rw [e] at h
      obtain ⟨a, h1, h2, h3, h4, h5, -⟩ := h
      refine ⟨a, _, h1, ?_⟩
      rw [e]
      exact ⟨h3, h4, h5⟩
theorem RowP.cell (h : RowP I ρ β w id b) (hd : b.dead = false) {k : Nat} {c : C} (hc : b.row[k]? = some c) : w.cell? ⟨β id, k, none⟩ = some (c.den I ρ β) := by
  obtain ⟨a, t, h1, h2, h3, -⟩ := h.at_ hd
  rw [cell_of_row w (β id) k a t (0, 0) h1]
  have hk := (List.getElem?_eq_some_iff.1 hc).1
  have : (a.toList.take b.row.length)[k]? = a.toList[k]? := List.getElem?_take_of_lt hk
  rw [h2, List.getElem?_map, hc] at this
  simpa using this.symm
theorem RowP.dig (h : RowP I ρ β w id b) (hd : b.dead = false) {k : Nat} {d : Int} (hc : w.cell? ⟨β id, k, none⟩ = some (.int .u32 d)) : ∃ c ∈ b.row, c.den I ρ β = .int .u32 d := by
  obtain ⟨a, t, h1, h2, h3, h4⟩ := h.at_ hd
  rw [cell_of_row w (β id) k a t (0, 0) h1] at hc
  by_cases hk : k < b.row.length
  · have : (a.toList.take b.row.length)[k]? = a.toList[k]? := List.getElem?_take_of_lt hk
    rw [h2, List.getElem?_map, List.getElem?_eq_getElem hk] at this
    refine ⟨b.row[k], List.getElem_mem hk, ?_⟩
    rw [Array.getElem?_toList, hc] at this
    simpa using this
  · exfalso
    refine h4 (.int .u32 d) ?_ d rfl
    have : (a.toList.drop b.row.length)[k - b.row.length]? = some (.int .u32 d) := by
      rw [List.getElem?_drop, show b.row.length + (k - b.row.length) = k by omega, Array.getElem?_toList]
      exact hc
    exact List.mem_of_getElem? this
theorem Blk.row_sub {b : Blk} : ∀ c ∈ b.row, c ∈ b.cells := by
  intro c hc
  unfold Blk.row at hc
  split at hc
  · exact List.mem_of_mem_drop hc
  · exact hc
theorem RowP.fix (L : List (Nat × Obj)) : RowP (I.fix L) ρ β w id b ↔ RowP I ρ β w id b := by
  unfold RowP
  split
  · unfold OpenRow
    split
    · have : C.den (I.fix L) ρ β = C.den I ρ β := funext (C.den_fix L)
      rw [this]
    · exact Iff.rfl
    · exact Iff.rfl
  · rw [cellsOf_fix]
end
structure WR (I : Interp) (ρ : Env) (w0 : World) (X : Nat → Prop) (n0 : Nat) (β0 β : Nat → Nat) (s : S) (w : World) : Prop where
  row : ∀ p ∈ s.blks, p.2.live = true → RowP I ρ β w p.1 p.2
  inj : ∀ p ∈ s.blks, p.2.live = true → ∀ q ∈ s.blks, q.2.live = true → β p.1 = β q.1 → p.1 = q.1
  idlt : ∀ p ∈ s.blks, p.1 < s.nb
  cwf : ∀ p ∈ s.blks, ∀ c ∈ p.2.cells, c.wf s.nb = true
  own : ∀ p ∈ s.blks, p.2.live = true → X (β p.1) ∨ w0.heap.size ≤ β p.1
  held : ∀ p ∈ s.blks, p.2.isOpq = true → I.opq.held w (I.opq.dec (β p.1)) (numsOf I ρ p.2.cells) ∧ ∀ q ∈ s.blks, q.2.live = true → I.opq.blk (I.opq.dec (β p.1)) ≠ some (β q.1)
  uniq : ∀ p ∈ s.blks, ∀ q ∈ s.blks, p.1 = q.1 → p.2 = q.2
  known : s.known.Ok I ρ
  n0le : n0 ≤ s.nb
  agr : ∀ id, id < n0 → β id = β0 id
  keeps : Keeps X w0 w
  hyp : Hyp I w0 X
section
variable {I : Interp} {ρ : Env} {w0 w w' : World} {X : Nat → Prop} {n0 : Nat} {β0 β : Nat → Nat} {s : S}
theorem WR.lt (h : WR I ρ w0 X n0 β0 β s w) {p : Nat × Blk} (hp : p ∈ s.blks) (ho : p.2.live = true) : β p.1 < w.heap.size := (h.row p hp ho).lt (Blk.live_dead ho)
theorem WR.alike (h : WR I ρ w0 X n0 β0 β s w) (hh : w'.heap = w.heap) (ho : w'.os = w.os) (ht : w'.tape = w.tape) (hp : w'.output = w.output) : WR I ρ w0 X n0 β0 β s w' :=
  ⟨fun p hp ho => (h.row p hp ho).heap (by rw [hh]), h.inj, h.idlt, h.cwf, h.own, fun p hp ho => ⟨I.opq.keep w w' _ _ (h.held p hp ho).1 (fun g _ => by rw [hh]), (h.held p hp ho).2⟩, h.uniq, h.known, h.n0le, h.agr,
    ⟨ho.trans h.keeps.os, ht.trans h.keeps.tape, hp.trans h.keeps.output, by rw [hh]; exact h.keeps.size, fun g hg hx => by rw [hh]; exact h.keeps.block g hg hx⟩, h.hyp⟩
theorem WR.drew (h : WR I ρ w0 X n0 β0 β s w) : WR I ρ w0 X n0 β0 β s { w with drawn := w.drawn + 1 } := h.alike rfl rfl rfl rfl
theorem WR.assume (h : WR I ρ w0 X n0 β0 β s w) {b : B} {v : Bool} (hb : b.den I ρ = v) : WR I ρ w0 X n0 β0 β (s.assume b v) w :=
  ⟨h.row, h.inj, h.idlt, h.cwf, h.own, h.held, h.uniq, ⟨addFact_ok h.known.facts hb, h.known.draws, h.known.n64⟩, h.n0le, h.agr, h.keeps, h.hyp⟩
theorem Known.ok_fix (L : List (Nat × Obj)) {k : Known} : k.Ok (I.fix L) ρ ↔ k.Ok I ρ :=
  ⟨fun h => ⟨fun p hp => (B.den_fix L p.1).symm.trans (h.facts p hp), h.draws, h.n64⟩, fun h => ⟨fun p hp => (B.den_fix L p.1).trans (h.facts p hp), h.draws, h.n64⟩⟩
theorem numsOf_fix (L : List (Nat × Obj)) (cs : List C) : numsOf (I.fix L) ρ cs = numsOf I ρ cs := by
  unfold numsOf
  refine List.map_congr_left fun c _ => ?_
  cases c <;> simp only [C.num, T.den_fix]
theorem WR.fix {L : List (Nat × Obj)} (h : WR I ρ w0 X n0 β0 β s w) (hL : Hyp (I.fix L) w0 X) : WR (I.fix L) ρ w0 X n0 β0 β s w :=
  ⟨fun p hp ho => (RowP.fix L).2 (h.row p hp ho), h.inj, h.idlt, h.cwf, h.own, fun p hp ho => by rw [numsOf_fix]; exact h.held p hp ho, h.uniq, (Known.ok_fix L).2 h.known, h.n0le, h.agr, h.keeps, hL⟩
theorem WR.unfix {L : List (Nat × Obj)} (h : WR (I.fix L) ρ w0 X n0 β0 β s w) (hL : Hyp I w0 X) : WR I ρ w0 X n0 β0 β s w :=
  ⟨fun p hp ho => (RowP.fix L).1 (h.row p hp ho), h.inj, h.idlt, h.cwf, h.own, fun p hp ho => by have := h.held p hp ho; rw [numsOf_fix] at this; exact this, h.uniq, (Known.ok_fix L).1 h.known, h.n0le, h.agr, h.keeps, hL⟩
theorem WR.same (h : WR I ρ w0 X n0 β0 β s w) {id : Nat} {b b' : Blk} (hb : (id, b) ∈ s.blks) (hb' : (id, b') ∈ s.blks) : b' = b := h.uniq _ hb' _ hb rfl
theorem WR.putR (h : WR I ρ w0 X n0 β0 β s w) {id : Nat} {b : Blk} (hb : (id, b) ∈ s.blks) (hl : b.live = true) {cs : List C} (hwf : ∀ c ∈ cs, c.wf s.nb = true) {w' : World}
    (hr : RowP I ρ β w' id ⟨b.ty, cs⟩) (hk : Keeps (fun g => g = β id) w w') : WR I ρ w0 X n0 β0 β (s.put id cs) w' := by
  have lv : ∀ {q : Nat × Blk}, q ∈ (s.put id cs).blks → q.2.live = true → ∃ b, (q.1, b) ∈ s.blks ∧ b.live = true := fun {q} hq hqo => by
    rcases mem_putIn hq with ⟨h1, h2, b', h3, h4⟩ | ⟨h1, h2⟩
    · exact ⟨b, h1 ▸ hb, hl⟩
    · exact ⟨q.2, h2, hqo⟩
  have oth : ∀ q ∈ s.blks, q.1 ≠ id → q.2.live = true → w'.heap[β q.1]? = w.heap[β q.1]? := fun q hq hne hqo => hk.block _ (h.lt hq hqo) (fun e => hne (h.inj q hq hqo _ hb hl e))
  refine ⟨?_, ?_, ?_, ?_, ?_, ?_, ?_, h.known, h.n0le, h.agr, ?_, h.hyp⟩
  · intro q hq hqo
    rcases mem_putIn hq with ⟨h1, h2, b', h3, h4⟩ | ⟨h1, h2⟩
    · have := h.same hb h3
      subst this
      have e : q.2 = ⟨b'.ty, cs⟩ := by obtain ⟨a, ty, c⟩ := q; simp only at h2 h4; rw [h2, h4]
      rw [h1, e]
      exact hr
    · exact (h.row q h2 hqo).heap (oth q h2 h1 hqo)
  · intro p hp hpo q hq hqo
    obtain ⟨b1, hb1, o1⟩ := lv hp hpo
    obtain ⟨b2, hb2, o2⟩ := lv hq hqo
    exact h.inj (p.1, b1) hb1 o1 (q.1, b2) hb2 o2
  · intro q hq
    rcases mem_putIn hq with ⟨h1, h2, b', h3, h4⟩ | ⟨h1, h2⟩
    · have := h.idlt _ h3; show q.1 < s.nb; rw [h1]; exact this
    · exact h.idlt _ h2
  · intro q hq c hc
    rcases mem_putIn hq with ⟨h1, h2, b', h3, h4⟩ | ⟨h1, h2⟩
    · rw [h2] at hc; exact hwf c hc
    · exact h.cwf _ h2 c hc
  · intro q hq hqo
    obtain ⟨b1, hb1, o1⟩ := lv hq hqo
    exact h.own (q.1, b1) hb1 o1
  · intro q hq hqo
    rcases mem_putIn hq with ⟨h1, h2, b', h3, h4⟩ | ⟨h1, h2⟩
    · have := h.same hb h3
      subst this
      have := Blk.live_opq hl
      unfold Blk.isOpq at hqo this
      rw [← h4, this] at hqo
      cases hqo
    · obtain ⟨a1, a2⟩ := h.held q h2 hqo
      refine ⟨I.opq.keep w _ _ _ a1 (fun g hg => hk.block g (I.opq.lt w _ _ a1 g hg) (fun e => a2 _ hb hl (by rw [hg, e]))), fun r hr hro => ?_⟩
      obtain ⟨b1, hb1, o1⟩ := lv hr hro
      exact a2 (r.1, b1) hb1 o1
  · intro q hq r hr e
    rcases mem_putIn hq with ⟨h1, h2, b', h3, h4⟩ | ⟨h1, h2⟩ <;> rcases mem_putIn hr with ⟨k1, k2, b2, k3, k4⟩ | ⟨k1, k2⟩
    · have e1 := h.same hb h3
      have e2 := h.same hb k3
      obtain ⟨a, ty, c⟩ := q
      obtain ⟨a2, ty2, c2⟩ := r
      simp only at h2 h4 k2 k4
      rw [h2, k2, ← h4, ← k4, e1, e2]
    · exact absurd (e ▸ h1) k1
    · exact absurd (e ▸ k1) h1
    · exact h.uniq q h2 r k2 e
  · refine ⟨hk.os.trans h.keeps.os, hk.tape.trans h.keeps.tape, hk.output.trans h.keeps.output, Nat.le_trans h.keeps.size hk.size, fun g hg hx => ?_⟩
    rw [hk.block g (Nat.lt_of_lt_of_le hg h.keeps.size) (fun e => ?_)]
    · exact h.keeps.block g hg hx
    · subst e
      rcases h.own _ hb hl with h1 | h1
      · exact hx h1
      · simp only at h1; omega
theorem Keeps.setRow (w : World) (g : Nat) (cs : Array Value) : Keeps (fun k => k = g) w (w.setRow g cs) := ⟨rfl, rfl, rfl, by simp, fun k _ hk => setRow_other w g k cs hk⟩
theorem WR.put (h : WR I ρ w0 X n0 β0 β s w) {id : Nat} {b : Blk} (hb : (id, b) ∈ s.blks) (hl : b.live = true) (hc : opn b.ty = false) {cs : List C} (hwf : ∀ c ∈ cs, c.wf s.nb = true) :
    WR I ρ w0 X n0 β0 β (s.put id cs) (w.setRow (β id) (cellsOf I ρ β cs)) :=
  h.putR hb hl hwf ((RowP.closed (b := ⟨b.ty, cs⟩) hc).2 (setRow_heap w (β id) _ _ b.ty (0, 0) ((RowP.closed hc).1 (h.row _ hb hl)))) (Keeps.setRow _ _ _)
theorem WR.kill (h : WR I ρ w0 X n0 β0 β s w) {id : Nat} {b : Blk} (hb : (id, b) ∈ s.blks) (hl : b.live = true) (ho : opn b.ty = true) : WR I ρ w0 X n0 β0 β (s.put id []) w :=
  h.putR hb hl (by intro c hc; cases hc) (by unfold RowP; simp only [ho]; trivial) (Keeps.refl _ _)
def up (β : Nat → Nat) (n g : Nat) : Nat → Nat := fun id => if id = n then g else β id
theorem up_lt {β : Nat → Nat} {n g : Nat} : ∀ id, id < n → up β n g id = β id := fun id h => by unfold up; rw [if_neg (by omega)]
theorem up_self {β : Nat → Nat} {n g : Nat} : up β n g n = g := by simp [up]
theorem WR.newR (h : WR I ρ w0 X n0 β0 β s w) {β' : Nat → Nat} {ty : TypeId} {cs : List C} {n : Nat} (hn : s.nb < n) (hag : ∀ id, id < s.nb → β' id = β id) (hno : (Blk.isOpq ⟨ty, cs⟩) = false) (hwf : ∀ c ∈ cs, c.wf n = true) {w' : World}
    (hk : Keeps X w0 w') (hr : RowP I ρ β' w' s.nb ⟨ty, cs⟩) (hrow : ∀ p ∈ s.blks, p.2.live = true → w'.heap[β p.1]? = w.heap[β p.1]? ∧ β p.1 ≠ β' s.nb)
    (hown : X (β' s.nb) ∨ w0.heap.size ≤ β' s.nb) (hopq : ∀ p ∈ s.blks, p.2.isOpq = true → ∀ g, I.opq.blk (I.opq.dec (β p.1)) = some g → w'.heap[g]? = w.heap[g]? ∧ g ≠ β' s.nb) :
    WR I ρ w0 X n0 β0 β' ⟨(s.nb, ⟨ty, cs⟩) :: s.blks, n, s.known⟩ w' := by
  have hne : ∀ p ∈ s.blks, β' p.1 = β p.1 := fun p hp => hag _ (h.idlt p hp)
  refine ⟨?_, ?_, ?_, ?_, ?_, ?_, ?_, h.known, Nat.le_trans h.n0le (Nat.le_of_lt hn), fun id hid => ?_, hk, h.hyp⟩
  · intro p hp ho
    rcases List.mem_cons.1 hp with hp | hp
    · subst hp; exact hr
    · exact ((h.row p hp ho).heap (hrow p hp ho).1).agree (hne p hp) (h.cwf p hp) hag
  · intro p hp hpo q hq hqo
    rcases List.mem_cons.1 hp with hp | hp <;> rcases List.mem_cons.1 hq with hq | hq
    · subst hp hq; exact fun _ => rfl
    · subst hp; rw [hne q hq]; intro e; exact absurd e.symm (hrow q hq hqo).2
    · subst hq; rw [hne p hp]; intro e; exact absurd e (hrow p hp hpo).2
    · rw [hne p hp, hne q hq]; exact h.inj p hp hpo q hq hqo
  · intro p hp
    rcases List.mem_cons.1 hp with hp | hp
    · subst hp; exact hn
    · have := h.idlt p hp; show p.1 < n; omega
  · intro p hp c hc
    rcases List.mem_cons.1 hp with hp | hp
    · subst hp; exact hwf c hc
    · exact C.wf_mono (Nat.le_of_lt hn) (h.cwf p hp c hc)
  · intro p hp ho
    rcases List.mem_cons.1 hp with hp | hp
    · subst hp; exact hown
    · rw [hne p hp]; exact h.own p hp ho
  · intro p hp ho
    rcases List.mem_cons.1 hp with hp | hp
    · subst hp; rw [hno] at ho; cases ho
    · rw [hne p hp]
      obtain ⟨a1, a2⟩ := h.held p hp ho
      refine ⟨I.opq.keep w _ _ _ a1 (fun g hg => (hopq p hp ho g hg).1), fun q hq hqo => ?_⟩
      rcases List.mem_cons.1 hq with hq | hq
      · subst hq; intro e; exact (hopq p hp ho _ e).2 rfl
      · rw [hne q hq]; exact a2 q hq hqo
  · intro p hp q hq e
    rcases List.mem_cons.1 hp with hp | hp <;> rcases List.mem_cons.1 hq with hq | hq
    · subst hp hq; rfl
    · subst hp; have := h.idlt q hq; simp only at e; omega
    · subst hq; have := h.idlt p hp; simp only at e; omega
    · exact h.uniq p hp q hq e
  · rw [hag id (Nat.lt_of_lt_of_le hid h.n0le)]; exact h.agr id hid
theorem mem_put {id : Nat} {cs : List C} {q : Nat × Blk} (h : q ∈ (s.put id cs).blks) : (q.1 = id ∧ q.2.cells = cs ∧ ∃ b, (id, b) ∈ s.blks ∧ b.ty = q.2.ty) ∨ (q.1 ≠ id ∧ q ∈ s.blks) := mem_putIn h
theorem WR.move (h : WR I ρ w0 X n0 β0 β s w) {id : Nat} {b : Blk} (hb : (id, b) ∈ s.blks) (hl : b.live = true) (ho : opn b.ty = true) {β' : Nat → Nat} {ty : TypeId} {cs : List C} {n : Nat} (hn : s.nb < n) (hag : ∀ id, id < s.nb → β' id = β id)
    (hno : (Blk.isOpq ⟨ty, cs⟩) = false) (hwf : ∀ c ∈ cs, c.wf n = true) {w' : World} (hk : Keeps (fun g => g = β id) w w') (he : β' s.nb = β id) (hr : RowP I ρ β' w' s.nb ⟨ty, cs⟩) :
    WR I ρ w0 X n0 β0 β' ⟨(s.nb, ⟨ty, cs⟩) :: (s.put id []).blks, n, s.known⟩ w' := by
  have h1 := h.kill hb hl ho
  have hX : X (β id) ∨ w0.heap.size ≤ β id := h.own _ hb hl
  have lv : ∀ p ∈ (s.put id []).blks, p.2.live = true → p.1 ≠ id ∧ p ∈ s.blks := fun p hp hpo => by
    rcases mem_put hp with ⟨e1, e2, b', e3, e4⟩ | hh
    · exfalso
      have := h.same hb e3
      subst this
      have hd := Blk.live_dead hpo
      unfold Blk.dead at hd
      rw [← e4, ho, e2] at hd
      cases hd
    · exact hh
  refine h1.newR (s := s.put id []) hn hag hno hwf ?_ hr (fun p hp hpo => ?_) (he ▸ hX) (fun p hp hpo g hg => ?_)
  · refine ⟨hk.os.trans h.keeps.os, hk.tape.trans h.keeps.tape, hk.output.trans h.keeps.output, Nat.le_trans h.keeps.size hk.size, fun g hg hx => ?_⟩
    rw [hk.block g (Nat.lt_of_lt_of_le hg h.keeps.size) (fun e => ?_)]
    · exact h.keeps.block g hg hx
    · subst e
      rcases hX with h1 | h1
      · exact hx h1
      · omega
  · obtain ⟨k1, k2⟩ := lv p hp hpo
    have hne : β p.1 ≠ β id := fun e => k1 (h.inj p k2 hpo _ hb hl e)
    exact ⟨hk.block _ (h.lt k2 hpo) hne, by show β p.1 ≠ β' s.nb; rw [he]; exact hne⟩
  · rcases mem_put hp with ⟨e1, e2, b', e3, e4⟩ | ⟨k1, k2⟩
    · have := h.same hb e3
      subst this
      have := Blk.live_opq hl
      unfold Blk.isOpq at hpo this
      rw [← e4, this] at hpo
      cases hpo
    · obtain ⟨a1, a2⟩ := h.held p k2 hpo
      have hne : g ≠ β id := fun e => a2 _ hb hl (by rw [hg, e])
      exact ⟨hk.block _ (I.opq.lt w _ _ a1 g hg) hne, by show g ≠ β' s.nb; rw [he]; exact hne⟩
theorem WR.alloc (h : WR I ρ w0 X n0 β0 β s w) (ty : TypeId) (hty : Nat.beq ty opqTy = false) (hop : opn ty = false) {cs : List C} (hwf : ∀ c ∈ cs, c.wf s.nb = true) :
    WR I ρ w0 X n0 β0 (up β s.nb w.heap.size) (s.alloc ty cs) (w.alloc (.cells (cellsOf I ρ β cs) ty)) := by
  refine h.newR (Nat.lt_succ_self _) up_lt hty (fun c hc => C.wf_mono (Nat.le_succ _) (hwf c hc)) (h.keeps.trans ⟨rfl, rfl, rfl, by simp, fun g hg _ => Below.heap_alloc _ _ _ hg⟩)
    ((RowP.closed (b := ⟨ty, cs⟩) hop).2 ?_) (fun p hp ho => ⟨Below.heap_alloc _ _ _ (h.lt hp ho), ?_⟩) ?_ (fun p hp ho g hg => ?_)
  · rw [up_self, cellsOf_agree hwf up_lt]
    exact heap_alloc_new w _
  · rw [up_self]; have := h.lt hp ho; omega
  · rw [up_self]; exact .inr h.keeps.size
  · have := I.opq.lt w _ _ (h.held p hp ho).1 g hg
    rw [up_self]
    exact ⟨Below.heap_alloc _ _ _ this, by omega⟩
theorem WR.fewer (h : WR I ρ w0 X n0 β0 β s w) {l : List (Nat × Blk)} (hl : ∀ p ∈ l, p ∈ s.blks) {n : Nat} (hn : s.nb ≤ n) {k : Known} (hk : k.Ok I ρ) : WR I ρ w0 X n0 β0 β ⟨l, n, k⟩ w :=
  ⟨fun p hp => h.row p (hl p hp), fun p hp ho q hq => h.inj p (hl p hp) ho q (hl q hq), fun p hp => Nat.lt_of_lt_of_le (h.idlt p (hl p hp)) hn,
    fun p hp c hc => C.wf_mono hn (h.cwf p (hl p hp) c hc), fun p hp => h.own p (hl p hp), fun p hp ho => ⟨(h.held p (hl p hp) ho).1, fun q hq => (h.held p (hl p hp) ho).2 q (hl q hq)⟩, fun p hp q hq => h.uniq p (hl p hp) q (hl q hq), hk, Nat.le_trans h.n0le hn, h.agr, h.keeps, h.hyp⟩
end
end Go.Proofs.Ytliimpbbppbghaa.Sx
set_option autoImplicit false
namespace Go.Proofs.Ytliimpbbppbghaa.Sx
open Go Go.RowKit
def cOf : Value → Option C
  | .int k n => some (.int k (.lit n))
  | .bool b => some (.bool (.lit b))
  | .string s => some (.str s)
  | .pointer none => some .nilp
  | .slice none 0 0 => some .nils
  | .nilFunc => some .nilf
  | .nilIface => some .nili
  | _ => none
def csOf : List Value → Option (List C)
  | [] => some []
  | v :: r => match cOf v, csOf r with
    | some c, some cs => some (c :: cs)
    | _, _ => none
def vOf : Value → Option V
  | .agg cs => (csOf cs.toList).map .agg
  | .tuple cs => if cs.size = 0 then some .undef else none
  | v => (cOf v).map .c
def V.cells? : V → Option (List C)
  | .c x => some [x]
  | .agg cs => some cs
  | .tup _ => none
  | .any _ => none
section
variable {I : Interp} {ρ : Env} {β : Nat → Nat}
theorem cOf_den {v : Value} {c : C} (h : cOf v = some c) : c.den I ρ β = v := by
  unfold cOf at h
  split at h <;> first | (cases h; done) | (injection h with h; subst h; rfl)
theorem csOf_den : ∀ {l : List Value} {cs : List C}, csOf l = some cs → cs.map (C.den I ρ β) = l
  | [], cs, h => by injection h with h; subst h; rfl
  | v :: r, cs, h => by
    unfold csOf at h
    cases h1 : cOf v with
    | none => rw [h1] at h; simp at h
    | some c =>
      cases h2 : csOf r with
      | none => rw [h1, h2] at h; simp at h
      | some cs' =>
        rw [h1, h2] at h
        injection h with h
        subst h
        simp [cOf_den h1, csOf_den h2]
theorem vOf_den {v : Value} {x : V} (h : vOf v = some x) : x.den I ρ β = v := by
  unfold vOf at h
  split at h
  · rename_i cs
    cases h2 : csOf cs.toList with
    | none => rw [h2] at h; simp at h
    | some cs' =>
      rw [h2] at h
      injection h with h
      subst h
      simp only [V.den, cellsOf, csOf_den h2]
  · rename_i cs
    split at h
    · rename_i h0
      injection h with h
      subst h
      simp only [V.undef, V.den, List.map_nil]
      congr 1
      exact (Array.eq_empty_of_size_eq_zero h0).symm
    · cases h
  · obtain ⟨c, hc, rfl⟩ := Option.map_eq_some_iff.1 h; exact cOf_den hc
theorem cells?_den {x : V} {cs : List C} (h : x.cells? = some cs) : (x.den I ρ β).cells = cellsOf I ρ β cs := by
  cases x with
  | c x => injection h with h; subst h; simp [V.den, C.cells, cellsOf]
  | agg l => injection h with h; subst h; rfl
  | tup _ => cases h
  | any _ => cases h
theorem oneCell'_den (c : C) : (c.den I ρ β).oneCell' = true := by
  have := C.one (I := I) (ρ := ρ) (β := β) c
  cases h : c.den I ρ β <;> simp_all [Value.oneCell']
end
inductive OR where
  | ok (v : V) (s : S)
  | split (b : B)
  | bad
def isRow : TypeDesc → Bool
  | .struct _ | .array _ _ => true
  | _ => false
def sizeT (P : Program) (t : TypeId) : Option Nat := (P.info? t).map (·.size)
def partS (P : Program) (t : TypeId) (cs : List C) (off : Nat) : Option V :=
  match P.underlying t, sizeT P t with
  | some d, some n => match isRow d with
    | true => if off + n ≤ cs.length then some (.agg ((cs.drop off).take n)) else none
    | false => (cs[off]?).map .c
  | _, _ => none
def eqS (P : Program) : Nat → TypeId → V → V → Option B
  | 0, _, _, _ => none
  | d + 1, t, x, y => match P.underlying t, x, y with
    | some (.int _), .c (.int k a), .c (.int l b) => if kindSame k l then some (.mkEq a b) else none
    | some .bool, .c (.bool a), .c (.bool b) => some (.mkIff a b)
    | some .string, .c (.str a), .c (.str b) => some (.lit (a.toList == b.toList))
    | some (.struct _), .agg xs, .agg ys => if P.stoodInHeld t then none else
      (P.fieldsOf t).toList.foldr (fun f r => match r with
        | none => none
        | some r => if f.name = "_" then none else
          match partS P f.type xs f.offset, partS P f.type ys f.offset with
          | some a, some b => match eqS P d f.type a b with
            | some q => some (B.mkAnd q r)
            | none => none
          | _, _ => none) (some (.lit true))
    | some (.array n e), .agg xs, .agg ys => match sizeT P e with
      | none => none
      | some c => (List.range n).foldr (fun i r => match r with
        | none => none
        | some r =>
          match partS P e xs (i * c), partS P e ys (i * c) with
          | some a, some b => match eqS P d e a b with
            | some q => some (B.mkAnd q r)
            | none => none
          | _, _ => none) (some (.lit true))
    | _, _, _ => none
section
variable {P : Program} {I : Interp} {ρ : Env} {β : Nat → Nat}
theorem run_isAgg {t : TypeId} {d : TypeDesc} (hu : P.underlying t = some d) (w : World) : (isAgg t).run P w = .ok (isRow d) w := by
  unfold isAgg
  rw [Sem.run_bind, run_underlying hu w]
  cases d <;> rfl
theorem run_size {t : TypeId} {n : Nat} (h : sizeT P t = some n) (w : World) : (sizeOf t).run P w = .ok n w := by
  unfold sizeT at h
  cases hi : P.info? t with
  | none => rw [hi] at h; cases h
  | some i =>
    rw [hi] at h
    injection h with h
    simp [sizeOf, typeInfo, hi, h]
theorem cellsOf_extract (cs : List C) (off n : Nat) : (cellsOf I ρ β cs).extract off (off + n) = cellsOf I ρ β ((cs.drop off).take n) := by
  unfold cellsOf
  apply Array.ext'
  simp [List.extract_eq_take_drop, List.map_take, List.map_drop]
theorem partS_run {t : TypeId} {cs : List C} {off : Nat} {x : V} (h : partS P t cs off = some x) (w : World) : (part t (cellsOf I ρ β cs) off).run P w = .ok (x.den I ρ β) w := by
  unfold partS at h
  split at h
  · rename_i d n hu hn
    split at h
    · rename_i hr
      split at h
      · injection h with h
        subst h
        simp only [part, Sem.run_bind, run_isAgg hu, Result.andThen_ok, hr, if_true, run_size hn, Sem.run_pure, cellsOf_extract]
        rfl
      · cases h
    · rename_i hr
      cases hc : cs[off]? with
      | none => rw [hc] at h; cases h
      | some c =>
        rw [hc] at h
        injection h with h
        subst h
        simp only [part, Sem.run_bind, run_isAgg hu, Result.andThen_ok, hr, Bool.false_eq_true, if_false, cellsOf_get, hc, Option.map_some, Sem.run_pure]
        rfl
  · cases h
theorem eqS_run : ∀ (d : Nat) {t : TypeId} {x y : V} {q : B}, eqS P d t x y = some q → ∀ (e : Nat), d ≤ e → ∀ w : World, (Op.equalIn e t (x.den I ρ β) (y.den I ρ β)).run P w = .ok (q.den I ρ) w
  | 0, t, x, y, q, h, _, _, _ => by cases h
  | d + 1, t, x, y, q, h, 0, he, _ => by omega
  | d + 1, t, x, y, q, h, e + 1, he, w => by
    have he' : d ≤ e := by omega
    unfold eqS at h
    split at h
    · rename_i k' k a l b hu
      split at h
      · rename_i hk
        have := kindSame_eq hk
        subst this
        injection h with h
        subst h
        simp only [V.den, C.den]
        rw [run_equalIn_int w e t k k' _ _ hu, B.den_mkEq]
        congr 1
      · cases h
    · rename_i a b hu
      injection h with h
      subst h
      simp only [V.den, C.den]
      rw [run_equalIn_bool' w e t _ _ hu, B.den_mkIff]
    · rename_i a b hu
      injection h with h
      subst h
      simp only [V.den, C.den]
      rw [run_equalIn_string w e t _ _ hu]; rfl
    · rename_i fs xs ys hu
      split at h
      · cases h
      · rename_i hst
        have hf : P.underlying t = some (.struct (P.fieldsOf t)) := by simp [Program.fieldsOf, hu]
        have hst' : P.stoodInHeld t = false := by simpa using hst
        simp only [V.den]
        rw [run_equalIn_struct w e t _ _ hf hst']
        revert h
        generalize (P.fieldsOf t).toList = l
        clear hf hst hst' hu
        intro h
        induction l generalizing q with
        | nil =>
          simp only [List.foldr_nil, Option.some.injEq] at h
          subst h
          rfl
        | cons f l ih =>
          simp only [List.foldr_cons] at h
          split at h
          · cases h
          · rename_i r hr
            split at h
            · cases h
            · rename_i hn
              split at h
              · rename_i a b ha hb
                split at h
                · rename_i q1 hq
                  injection h with h
                  subst h
                  simp only [Op.eqFields, hn, ne_eq, not_false_eq_true, if_true, Sem.run_bind, partS_run ha, partS_run hb, Result.andThen_ok, eqS_run d hq e he' w, ih _ hr, B.den_mkAnd]
                  cases q1.den I ρ <;> simp
                  exact ih _ hr
                · cases h
              · cases h
    · rename_i n el xs ys hu
      split at h
      · cases h
      · rename_i c hc
        obtain ⟨i, hi⟩ : ∃ i, P.info? el = some i := by
          unfold sizeT at hc
          cases hi : P.info? el with
          | none => rw [hi] at hc; cases hc
          | some i => exact ⟨i, rfl⟩
        have hcc : P.cellsOf el = c := by
          unfold sizeT at hc
          unfold Program.cellsOf
          rw [hc]; rfl
        simp only [V.den]
        rw [run_equalIn_array w e _ _ hu hi, hcc]
        revert h
        generalize List.range n = l
        intro h
        induction l generalizing q with
        | nil =>
          simp only [List.foldr_nil, Option.some.injEq] at h
          subst h
          rfl
        | cons j l ih =>
          simp only [List.foldr_cons] at h
          split at h
          · cases h
          · rename_i r hr
            split at h
            · rename_i a b ha hb
              split at h
              · rename_i q1 hq
                injection h with h
                subst h
                simp only [Op.eqItems, Sem.run_bind, partS_run ha, partS_run hb, Result.andThen_ok, eqS_run d hq e he' w, ih _ hr, B.den_mkAnd]
                cases q1.den I ρ <;> simp
                exact ih _ hr
              · cases h
            · cases h
    · cases h
end
end Go.Proofs.Ytliimpbbppbghaa.Sx

