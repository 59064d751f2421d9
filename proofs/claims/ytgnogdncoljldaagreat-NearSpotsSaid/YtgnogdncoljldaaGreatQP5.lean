import Derived.Test.YtgnogdncoljldaaGreatRows
import Derived.Deep.QuietTactic
import Derived.BigQuiet
import Derived.WalkKit
import Derived.StillTailTactics
import Derived.Lib.MinMax
import Derived.Test.YtgnogdncoljldaaGreatQP4
set_option linter.all false
namespace Go.Proofs.YtgnogdncoljldaaGreat
namespace RM
theorem sq_lt {a b : Int} (ha : 0 ≤ a) (h : a < b) : a * a < b * b := by
 have h1 : a * a ≤ a * b := Int.mul_le_mul_of_nonneg_left (by omega) ha
 have h2 : a * b < b * b := Int.mul_lt_mul_of_pos_right h (by omega)
 omega
theorem le_of_sq {a b : Int} (hb : 0 ≤ b) (h : a * a ≤ b * b) : a ≤ b := by
 apply Classical.byContradiction
 intro h'
 have := sq_lt hb (show b < a by omega)
 omega
def Grows (f : Nat → Int) : Prop := ∀ M : Int, ∃ k0 : Nat, ∀ k, k0 ≤ k → M < f k
def Flat (f : Nat → Int) : Prop := ∃ (C : Int) (k0 : Nat), ∀ k, k0 ≤ k → -C ≤ f k ∧ f k ≤ C
theorem Grows.mono {f g : Nat → Int} (h : Grows f) (hg : ∃ k0 : Nat, ∀ k, k0 ≤ k → f k ≤ g k) : Grows g := fun M => by
 obtain ⟨k0, h0⟩ := h M
 obtain ⟨k1, h1⟩ := hg
 exact ⟨max k0 k1, fun k hk => by have := h0 k (by omega); have := h1 k (by omega); omega⟩
theorem Grows.add {f g : Nat → Int} (h : Grows f) (hg : ∃ (C : Int) (k0 : Nat), ∀ k, k0 ≤ k → C ≤ g k) : Grows (fun k => f k + g k) := fun M => by
 obtain ⟨C, k1, h1⟩ := hg
 obtain ⟨k0, h0⟩ := h (M - C)
 exact ⟨max k0 k1, fun k hk => by have := h0 k (by omega); have := h1 k (by omega); show M < f k + g k; omega⟩
theorem Grows.not_flat {f : Nat → Int} (h : Grows f) (hf : ∃ (C : Int) (k0 : Nat), ∀ k, k0 ≤ k → f k ≤ C) : False := by
 obtain ⟨C, k1, h1⟩ := hf
 obtain ⟨k0, h0⟩ := h C
 have := h0 (max k0 k1) (by omega)
 have := h1 (max k0 k1) (by omega)
 omega
def Appr (c : Int) (t : Nat → Int) : Prop := ∃ E : Int, 0 ≤ E ∧ ∀ k : Nat, 0 ≤ t k ∧ t k * t k ≤ c * (k * k) ∧ c * (k * k) ≤ t k * t k + E * t k + E
section
variable {c : Int} {t : Nat → Int}
theorem Appr.le (h : Appr c t) (hc : 0 ≤ c) (k : Nat) : t k ≤ (c + 1) * k := by
 obtain ⟨E, -, h⟩ := h
 obtain ⟨h0, h1, -⟩ := h k
 refine le_of_sq (Int.mul_nonneg (by omega) (by omega)) ?_
 have : 0 ≤ (c * c + c + 1) * (k * k : Int) := Int.mul_nonneg (by have := Int.mul_nonneg hc hc; omega) (Int.mul_nonneg (by omega) (by omega))
 grind
theorem Appr.zero (h : Appr 0 t) (k : Nat) : t k = 0 := by
 have := h.le (by omega) k
 obtain ⟨E, -, h⟩ := h
 obtain ⟨h0, h1, -⟩ := h k
 have h2 : t k ≤ 0 := le_of_sq (by omega) (by omega)
 omega
end
def sideZ (a b c : Int) : Int := if b = 0 ∨ c = 0 then a.sign else if a = 0 ∨ a.sign = b.sign then b.sign else a.sign * (a * a - b * b * c).sign
theorem sign_cases (a : Int) : (a < 0 ∧ a.sign = -1) ∨ (a = 0 ∧ a.sign = 0) ∨ (0 < a ∧ a.sign = 1) := by
 rcases Int.lt_trichotomy a 0 with h | h | h
 ·exact .inl ⟨h, Int.sign_eq_neg_one_of_neg h⟩
 ·exact .inr (.inl ⟨h, by rw [h]; rfl⟩)
 ·exact .inr (.inr ⟨h, Int.sign_eq_one_of_pos h⟩)
theorem sideZ_range (a b c : Int) : sideZ a b c = -1 ∨ sideZ a b c = 0 ∨ sideZ a b c = 1 := by
 unfold sideZ
 rcases sign_cases a with ⟨h1, h2⟩ | ⟨h1, h2⟩ | ⟨h1, h2⟩ <;> rcases sign_cases b with ⟨h3, h4⟩ | ⟨h3, h4⟩ | ⟨h3, h4⟩ <;> rcases sign_cases (a * a - b * b * c) with ⟨h5, h6⟩ | ⟨h5, h6⟩ | ⟨h5, h6⟩ <;> rw [h2, h4, h6] <;> split <;> (try split) <;> simp
section
variable {a b c : Int} {t : Nat → Int}
end
def Rho (N D : Int) (r : Nat → Int) : Prop := ∀ k : Nat, 0 ≤ r k ∧ D * (r k * r k) ≤ N * (k * k) ∧ N * (k * k) < D * ((r k + 1) * (r k + 1))
section
variable {N D : Int} {r : Nat → Int}
theorem Rho.appr (h : Rho N D r) (hD : 0 < D) : Appr (N * D) (fun k => D * r k) := by
 have hDD : 0 < D * D := Int.mul_pos hD hD
 refine ⟨2 * D + D * D, by omega, fun k => ?_⟩
 obtain ⟨h0, h1, h2⟩ := h k
 have h3 := Int.mul_le_mul_of_nonneg_left h1 (show 0 ≤ D by omega)
 have h4 := Int.mul_le_mul_of_nonneg_left (show N * (k * k) ≤ D * ((r k + 1) * (r k + 1)) by omega) (show 0 ≤ D by omega)
 refine ⟨Int.mul_nonneg (by omega) h0, by grind, ?_⟩
 have h5 : 0 ≤ D * D * (D * r k) := Int.mul_nonneg (by omega) (Int.mul_nonneg (by omega) h0)
 grind
theorem Rho.le (h : Rho N D r) (hD : 0 < D) (hN : 0 ≤ N) (k : Nat) : r k ≤ (N + 1) * k := by
 obtain ⟨h0, h1, h2⟩ := h k
 refine le_of_sq (Int.mul_nonneg (by omega) (by omega)) ?_
 have h3 : 1 * (r k * r k) ≤ D * (r k * r k) := Int.mul_le_mul_of_nonneg_right (by omega) (Int.mul_nonneg h0 h0)
 have : 0 ≤ (N * N + N + 1) * (k * k : Int) := Int.mul_nonneg (by have := Int.mul_nonneg hN hN; omega) (Int.mul_nonneg (by omega) (by omega))
 grind
theorem Rho.zero (h : Rho 0 D r) (hD : 0 < D) (k : Nat) : r k = 0 := by
 have := h.le hD (by omega) k
 have h0 := (h k).1
 have h1 := (h k).2.1
 apply Classical.byContradiction
 intro h'
 have : 0 < D * (r k * r k) := Int.mul_pos hD (Int.mul_pos (by omega) (by omega))
 omega
theorem Rho.low (h : Rho N D r) (hD : 0 < D) (hN : 0 < N) : ∃ k0 : Nat, ∀ k : Nat, k0 ≤ k → (k : Int) ≤ 2 * D * r k := by
 obtain ⟨E, hE, ha⟩ := h.appr hD
 refine ⟨(2 * E + 2).natAbs, fun k hk => ?_⟩
 obtain ⟨h0, h1, h2⟩ := ha k
 replace h0 : 0 ≤ D * r k := h0
 have h3 : 1 * (k * k : Int) ≤ N * D * (k * k) := Int.mul_le_mul_of_nonneg_right (by have := Int.mul_pos hN hD; omega) (Int.mul_nonneg (by omega) (by omega))
 have h4 : (k : Int) ≤ D * r k + E + 1 := by
  refine le_of_sq (by omega) ?_
  have h4 : 0 ≤ E * E := Int.mul_nonneg hE hE
  have h5 : 0 ≤ E * (D * r k) := Int.mul_nonneg hE h0
  grind
 grind
end
def cmpZ (A1 s1 N1 D1 A2 s2 N2 D2 : Int) : Int :=
 if sideZ ((A1 - A2) * D1) s1 (N1 * D1) ≠ s2 then (if s2 < sideZ ((A1 - A2) * D1) s1 (N1 * D1) then 1 else -1)
 else sideZ ((A1 - A2) * D1) s1 (N1 * D1) * sideZ ((A1 - A2) * (A1 - A2) * (D1 * D2) + N1 * D2 - N2 * D1) (2 * s1 * (A1 - A2) * D2) (N1 * D1)
structure Rt (s N D : Int) (r : Nat → Int) : Prop where
 sg : s = -1 ∨ s = 0 ∨ s = 1
 n0 : 0 ≤ N
 d1 : 0 < D
 z : s = 0 ↔ N = 0
 rho : Rho N D r
theorem Rt.neg {s N D : Int} {r : Nat → Int} (h : Rt s N D r) : Rt (-s) N D r := ⟨by have := h.sg; omega, h.n0, h.d1, by have := h.z; omega, h.rho⟩
def Tri (c : Int) (f : Nat → Int) : Prop := (c = 1 ∧ Grows f) ∨ (c = 0 ∧ Flat f) ∨ (c = -1 ∧ Grows (fun k => -f k))
theorem Tri.congr {c : Int} {f g : Nat → Int} (h : Tri c f) (e : ∀ k, f k = g k) : Tri c g := by
 have : f = g := funext e
 rwa [← this]
theorem Tri.neg {c : Int} {f : Nat → Int} (h : Tri c f) : Tri (-c) (fun k => -f k) := by
 rcases h with ⟨h, g⟩ | ⟨h, g⟩ | ⟨h, g⟩
 ·refine .inr (.inr ⟨by omega, g.mono ⟨0, fun k _ => ?_⟩⟩)
  show f k ≤ - -f k
  omega
 ·obtain ⟨C, k0, g⟩ := g
  exact .inr (.inl ⟨by omega, C, k0, fun k hk => by have := g k hk; show -C ≤ -f k ∧ -f k ≤ C; omega⟩)
 ·exact .inl ⟨by omega, g⟩
section
variable {c c' : Int} {f g : Nat → Int}
theorem Tri.range (h : Tri c f) : c = -1 ∨ c = 0 ∨ c = 1 := by
 rcases h with ⟨h, -⟩ | ⟨h, -⟩ | ⟨h, -⟩ <;> omega
theorem Tri.le (h : Tri c f) (hc : c ≤ 0) : ∃ (C : Int) (k0 : Nat), ∀ k, k0 ≤ k → f k ≤ C := by
 rcases h with ⟨h, g⟩ | ⟨h, g⟩ | ⟨h, g⟩
 ·omega
 ·obtain ⟨C, k0, g⟩ := g
  exact ⟨C, k0, fun k hk => (g k hk).2⟩
 ·obtain ⟨k0, g⟩ := g 0
  exact ⟨0, k0, fun k hk => by have := g k hk; dsimp only at this; omega⟩
theorem Tri.of_le (h : Tri c f) (hb : ∃ (C : Int) (k0 : Nat), ∀ k, k0 ≤ k → f k ≤ C) : c ≤ 0 := by
 rcases h with ⟨h, g⟩ | ⟨h, g⟩ | ⟨h, g⟩
 ·exact (g.not_flat hb).elim
 ·omega
 ·omega
theorem Tri.ge (h : Tri c f) (hc : 0 ≤ c) : ∃ (C : Int) (k0 : Nat), ∀ k, k0 ≤ k → C ≤ f k := by
 obtain ⟨C, k0, g⟩ := h.neg.le (by omega)
 exact ⟨-C, k0, fun k hk => by have := g k hk; omega⟩
theorem Tri.of_ge (h : Tri c f) (hb : ∃ (C : Int) (k0 : Nat), ∀ k, k0 ≤ k → C ≤ f k) : 0 ≤ c := by
 obtain ⟨C, k0, g⟩ := hb
 have := h.neg.of_le ⟨-C, k0, fun k hk => by have := g k hk; show -f k ≤ -C; omega⟩
 omega
theorem Tri.uniq (h : Tri c f) (h' : Tri c' f) : c = c' := by
 have r1 := h.range
 have r2 := h'.range
 have a1 : c ≤ 0 → c' ≤ 0 := fun hc => h'.of_le (h.le hc)
 have a2 : c' ≤ 0 → c ≤ 0 := fun hc => h.of_le (h'.le hc)
 have a3 : 0 ≤ c → 0 ≤ c' := fun hc => h'.of_ge (h.ge hc)
 have a4 : 0 ≤ c' → 0 ≤ c := fun hc => h.of_ge (h'.ge hc)
 omega
end
end RM
end Go.Proofs.YtgnogdncoljldaaGreat
namespace Go.Proofs.YtgnogdncoljldaaGreat
open Go Go.RowKit Go.Shelf
def Ext (w w' : World) : Prop := Below w.heap.size w w'
theorem Ext.refl (w : World) : Ext w w := Below.refl _ w
theorem Ext.trans {a b c : World} (h : Ext a b) (k : Ext b c) : Ext a c := Below.trans h (Below.mono k (Below.size h))
theorem Ext.alloc (w : World) (o : Obj) : Ext w (w.alloc o) := (Below.refl _ w).alloc (Nat.le_refl _) o
theorem Ext.drew (w : World) : Ext w w.drew := (Below.refl _ w).drew
theorem Ext.drewN (w : World) (k : Nat) : Ext w (w.drewN k) := ⟨rfl, rfl, rfl, Nat.le_refl _, fun _ _ => rfl⟩
theorem Ext.num {w w' : World} {v : Value} {z : Int} (h : Ext w w') (hz : ZNum w.heap.size w v z) : ZNum w'.heap.size w' v z := (ZNum.below hz h).mono (Below.size h)
theorem Ext.row {w w' : World} {g : Nat} {t : TypeId} {cs : Array Value} (h : Ext w w') (hr : RowAt w g t cs) : RowAt w' g t cs := RowAt.below hr h hr.lt
theorem Ext.u32s {w w' : World} {v : Value} {ds : List Nat} (h : Ext w w') (hu : U32s w.heap.size w v ds) : U32s w'.heap.size w' v ds := (U32s.below hu h).mono (Below.size h)
end Go.Proofs.YtgnogdncoljldaaGreat
namespace Go.Proofs.YtgnogdncoljldaaGreat
open Go Go.RowKit Go.Shelf
theorem strip_all_above {ds : List Nat} {k : Nat} (hk : k ≤ ds.length) (hz : ∀ j, k ≤ j → j < ds.length → ds[j]?.getD 0 = 0) : (strip ds).length ≤ k := by
 have e : ds = ds.take k ++ ds.drop k := (List.take_append_drop k ds).symm
 have hz' : ∀ d ∈ ds.drop k, d = 0 := fun d hd => by
  obtain ⟨j, hj⟩ := List.getElem?_of_mem hd
  rw [List.getElem?_drop] at hj
  have hlt := (List.getElem?_eq_some_iff.1 hj).1
  have := hz (k + j) (by omega) hlt
  rw [hj] at this; exact this
 rw [e, strip_append_zero hz']
 exact Nat.le_trans (strip_length_le _) (by rw [List.length_take]; omega)
set_option maxRecDepth 100000 in
set_option maxHeartbeats 2000000 in
theorem trim_calls (p : Option Addr) (cap : Nat) (ds : List Nat) (w : World) (hu : U32s w.heap.size w (.slice p ds.length cap) ds) (hcap : (strip ds).length = ds.length ∨ ds.length ≤ cap) :
  Calls Tryz.prog 127 #[.slice p ds.length cap] w fun e w' => e = .returned (.slice p (strip ds).length cap) ∧ Ext w w' := by
 obtain ⟨p', cap', he, hl, hc⟩ := hu
 cases he
 have hlm := digs_lt_maxLen hl
 have Hc := Lib.hid hc
 have Hcap := Lib.hid hcap
 obtain ⟨n, hn⟩ : ∃ n, n = ds.length := ⟨_, rfl⟩
 rw [← hn] at hlm ⊢
 have Hn := Lib.hid hn
 clear hc hcap hl hn
 go_enter Tryz.func127, Tryz.ntmps127
 go_wp2
 go_loopw [0] (fun i wr => ∃ k : Nat, k ≤ n ∧ i = .slice p k cap ∧ (∀ j, k ≤ j → j < n → ds[j]?.getD 0 = 0) ∧ Ext w wr) (fun i _ => match i with | .slice _ k _ => k | _ => 0)
 case atStart => exact ⟨n, Nat.le_refl _, rfl, fun j a b => by omega, Ext.refl _⟩
 case round =>
  obtain ⟨k, hk, rfl, hz, hB⟩ := hrel
  by_cases h0 : k = 0
  ·subst h0
   have HB := Lib.hid hB
   have hs : (strip ds).length = 0 := by
    have := strip_length_zero (ds := ds) (fun j hj => hz j (Nat.zero_le _) (by rw [Hn.out]; exact hj))
    rw [this]; rfl
   have Hs := Lib.hid hs
   clear hB hz hs
   go_wp2
   go_ret
   exact ⟨by rw [Hs.out]; rfl, HB.out⟩
  ·obtain ⟨j, rfl⟩ : ∃ j, k = j + 1 := ⟨k - 1, by omega⟩
   have hnl := Hn.out
   obtain ⟨b, off, rfl, hb, hcs⟩ := Hc.out (by omega)
   have h1 := (Below.cell hB (p := ⟨b, off + j, none⟩) hb).trans (hcs j (by omega))
   have hd0 : ds[j]?.getD 0 = 0 ∨ ds[j]?.getD 0 ≠ 0 := Nat.eq_zero_or_pos _ |>.imp id (by omega)
   have Hz := Lib.hid hz
   have HB := Lib.hid hB
   rcases hd0 with hd | hd
   ·rw [hd] at h1
    have hc2 : j + 1 ≤ cap := by
     rcases Hcap.out with h | h
     ·have hz2 : ∀ i, j ≤ i → i < ds.length → ds[i]?.getD 0 = 0 := fun i a b => by
       by_cases e : i = j
       ·subst e; exact hd
       ·exact hz i (by omega) (by omega)
      have := strip_all_above (ds := ds) (k := j) (by omega) hz2
      omega
     ·omega
    have Hd := Lib.hid hd
    clear hcs hB hz hd hnl
    go_wp2
    go_roundw
    case rel =>
     refine ⟨j, by omega, by congr 1, fun i a b => ?_, HB.out⟩
     by_cases e : i = j
     ·subst e; exact Hd.out
     ·exact Hz.out i (by omega) b
    case measure => simp
   ·have hs : (strip ds).length = j + 1 := strip_length_of (by omega) hd (fun i a b => hz i (by omega) (by omega))
    have hdn : ((ds[j]?.getD 0 : Nat) : Int) ≠ 0 := by omega
    have Hs := Lib.hid hs
    generalize ds[j]?.getD 0 = d at *
    clear hcs hB hz hnl hs
    go_wp2
    go_ret
    exact ⟨by rw [Hs.out]; rfl, HB.out⟩
end Go.Proofs.YtgnogdncoljldaaGreat
namespace Go.Proofs.YtgnogdncoljldaaGreat
open Go Go.RowKit Go.Shelf
def Gives (w : World) (z : Int) (neg : Bool) (e : Ending) (w' : World) : Prop :=
 ∃ p n c, e = .returned (.tuple #[.agg #[.bool neg, .slice p n c], .bool true]) ∧ ZNum w'.heap.size w' (.agg #[.bool neg, .slice p n c]) z ∧ Ext w w'
def Gives1 (w : World) (z : Int) (neg : Bool) (e : Ending) (w' : World) : Prop :=
 ∃ p n c, e = .returned (.agg #[.bool neg, .slice p n c]) ∧ ZNum w'.heap.size w' (.agg #[.bool neg, .slice p n c]) z ∧ Ext w w'
section
variable {w w' : World} {va vb v : Value} {za zb z : Int} {neg : Bool}
theorem ZPost.gives {e : Ending} (h : ZPost w z e w') (hn : decide (z < 0) = neg) (hl : z.natAbs < B32 ^ 64) : Gives w z neg e w' := by
 subst hn
 obtain ⟨s, rfl, hu, hb⟩ := h
 unfold zneg zdigs zok at *
 rw [if_pos hl] at hu ⊢
 have hu' := hu
 obtain ⟨p, c, rfl, -, -⟩ := hu'
 exact ⟨p, _, c, by simp [hl], ⟨⟨_, rfl, hu.u32s⟩, hl⟩, hb⟩
theorem add_gives (ha : ZNum w.heap.size w va za) (hb : ZNum w.heap.size w vb zb) (hz : za + zb = z) (hn : decide (z < 0) = neg) (hl : z.natAbs < B32 ^ 64) : Calls Tryz.prog 113 #[va, vb] w (Gives w z neg) := by
 subst hz; exact (add_calls va vb za zb w ha hb).mono fun _ _ h => ZPost.gives h hn hl
theorem sub_gives (ha : ZNum w.heap.size w va za) (hb : ZNum w.heap.size w vb zb) (hz : za - zb = z) (hn : decide (z < 0) = neg) (hl : z.natAbs < B32 ^ 64) : Calls Tryz.prog 110 #[va, vb] w (Gives w z neg) := by
 subst hz; exact (sub_calls va vb za zb w ha hb).mono fun _ _ h => ZPost.gives h hn hl
theorem mul_gives (ha : ZNum w.heap.size w va za) (hb : ZNum w.heap.size w vb zb) (hz : za * zb = z) (hn : decide (z < 0) = neg) (hl : z.natAbs < B32 ^ 64) : Calls Tryz.prog 86 #[va, vb] w (Gives w z neg) := by
 subst hz; exact (mul_calls va vb za zb w ha hb).mono fun _ _ h => ZPost.gives h hn hl
theorem gcd_lim {a b : Nat} (ha : a < B32 ^ 64) (hb : b < B32 ^ 64) : Nat.gcd a b < B32 ^ 64 := by
 rcases Nat.eq_zero_or_pos b with e | e
 ·subst e; rw [Nat.gcd_zero_right]; exact ha
 ·exact Nat.lt_of_le_of_lt (Nat.le_of_dvd e (Nat.gcd_dvd_right a b)) hb
theorem of_gives (z : Int) (h1 : -9223372036854775808 ≤ z) (h2 : z ≤ 9223372036854775807) (hn : decide (z < 0) = neg) (w : World) : Calls Tryz.prog 65 #[.int .i64 z] w (Gives1 w z neg) :=
 (of_calls z h1 h2 w).mono fun e w' h => by
  subst hn
  obtain ⟨s, rfl, hu, hb⟩ := h
  have hu' := hu
  obtain ⟨p, c, rfl, -, -⟩ := hu'
  exact ⟨p, _, c, rfl, ⟨⟨_, rfl, hu.u32s⟩, by have := pow64; omega⟩, hb⟩
end
def Gives2 (w : World) (q r : Int) (nq nr : Bool) (ok : Bool) (e : Ending) (w' : World) : Prop :=
 ∃ p n c p2 n2 c2, e = .returned (.tuple #[.agg #[.bool nq, .slice p n c], .agg #[.bool nr, .slice p2 n2 c2], .bool ok]) ∧ ZNum w'.heap.size w' (.agg #[.bool nq, .slice p n c]) q ∧ ZNum w'.heap.size w' (.agg #[.bool nr, .slice p2 n2 c2]) r ∧ Ext w w'
theorem u32s_arr {B : Nat} {w : World} {g cap : Nat} {t : TypeId} {xs : List Nat} (hg : RowAt w g t (arr xs)) (hB : g < B) (hm : xs.length ≤ maxLen) : U32s B w (.slice (some ⟨g, 0, none⟩) xs.length cap) xs := by
 have := u32s_row (L := xs.length) (cap := cap) hg hB (Nat.le_refl _) hm
 rwa [List.take_of_length_le (Nat.le_refl _)] at this
theorem lim64 {n : Nat} (h : n < 79228162514264337593543950336) : n < B32 ^ 64 := Nat.lt_of_lt_of_le h (by
 have : B32 ^ 3 ≤ B32 ^ 64 := Nat.pow_le_pow_right B32_pos (by decide)
 have e : B32 ^ 3 = 79228162514264337593543950336 := by decide
 omega)
end Go.Proofs.YtgnogdncoljldaaGreat
namespace Go.Proofs.YtgnogdncoljldaaGreat
open Go Go.RowKit Go.Shelf
def u32l (ds : List Nat) : List Value := ds.map fun (d : Nat) => Value.int .u32 (d : Int)
theorem u32l_length (ds : List Nat) : (u32l ds).length = ds.length := by simp [u32l]
theorem u32l_append (a b : List Nat) : u32l a ++ u32l b = u32l (a ++ b) := by simp [u32l]
theorem u32l_get {ds : List Nat} {j : Nat} (h : j < ds.length) : (u32l ds)[j]? = some (.int .u32 ((ds[j]?.getD 0 : Nat) : Int)) := by simp [u32l, h]
theorem u32l_one (ds : List Nat) : ∀ u ∈ u32l ds, u.oneCell' = true := fun u hu => by
 obtain ⟨d, -, rfl⟩ := List.mem_map.1 hu; rfl
def Owns (w : World) (base : Nat) (v : Value) (ds : List Nat) : Prop := w.ownsRow base 118 1 v ds.length (u32l ds)
theorem Owns.u32s {w : World} {base : Nat} {v : Value} {ds : List Nat} (h : Owns w base v ds) (hm : ds.length ≤ maxLen) : U32s w.heap.size w v ds := by
 obtain ⟨hl, ⟨rfl, h0⟩ | ⟨g, cap, cur, rfl, hb, hc, hn, hcm, hcs, hx⟩⟩ := id h
 ·obtain rfl : ds = [] := List.length_eq_zero_iff.1 h0
  exact ⟨none, 0, rfl, hm, fun hh => absurd hh (by simp)⟩
 ·refine ⟨some ⟨g, 0, none⟩, cap, rfl, hm, fun _ => ⟨g, 0, rfl, (Array.getElem?_eq_some_iff.1 hc).1, fun j hj => ?_⟩⟩
  have := World.ownsRow.cellAt h j (by omega)
  rw [Nat.zero_add, this, u32l_get hj]
theorem Owns.shape {w : World} {base : Nat} {v : Value} {ds : List Nat} (h : Owns w base v ds) : ∃ p cap, v = .slice p ds.length cap ∧ ds.length ≤ cap := by
 obtain ⟨hl, ⟨rfl, h0⟩ | ⟨g, cap, cur, rfl, hb, hc, hn, hcm, hcs, hx⟩⟩ := h
 ·exact ⟨none, 0, by rw [h0], by omega⟩
 ·exact ⟨_, cap, rfl, hn⟩
theorem Owns.nil (w : World) (base : Nat) : Owns w base (.slice none 0 0) [] := World.ownsRow_nil _ _ _ _
theorem Owns.alloc {w : World} {base : Nat} {v : Value} {ds : List Nat} (h : Owns w base v ds) (o : Obj) : Owns (w.alloc o) base v ds := World.ownsRow.alloc h o
theorem Ext.grown {w w1 w2 : World} {base : Nat} {v : Value} {ds : List Nat} (h : Ext w w1) (hg : w1.grownBy w2 v.ownBlock) (ho : Owns w1 base v ds) (hb : w.heap.size ≤ base) : Ext w w2 :=
 Below.grown h hg (Below.size h) (fun k hk => Nat.le_trans hb (World.ownsRow.lt ho k hk).1)
theorem cell_one_own (w : World) (v : Value) (t : TypeId) : ∀ (j : Nat) (u : Value), [v][j]? = some u → (w.alloc (.cells #[v] t)).cell? (Addr.add ⟨w.heap.size, 0, none⟩ j) = some u := fun j u hj => by
 match j, hj with
 | 0, hj =>
   simp at hj; subst hj
   rw [show Addr.add ⟨w.heap.size, 0, none⟩ 0 = ⟨w.heap.size, 0, none⟩ by simp [Addr.add]]
   exact (RowAt.new w t #[v]).cell 0
theorem U32s.setNum {B : Nat} {w : World} {v : Value} {ds : List Nat} {g : Nat} {t : TypeId} {neg : Bool} {p : Option Addr} {n c : Nat} (h : U32s B w v ds) (hr : RowAt w g t (numCells neg p n c)) (cs : Array Value) : U32s B (w.setRow g cs) v ds := by
 obtain ⟨q, cap, rfl, hl, hc⟩ := h
 refine ⟨q, cap, rfl, hl, fun h0 => ?_⟩
 obtain ⟨b, off, rfl, hb, hcs⟩ := hc h0
 have hne : b ≠ g := fun e => by
  subst e
  have h1 := hcs 0 h0
  rw [hr.cell] at h1
  rcases off with _ | _ | k
  ·cases h1
  ·cases h1
  ·rw [Nat.add_zero] at h1; cases h1
 exact ⟨b, off, rfl, hb, fun j hj => (World.cell?_of_block (setRow_other w g b cs hne)).trans (hcs j hj)⟩
theorem ZNum.setNum {B : Nat} {w : World} {v : Value} {z : Int} {g : Nat} {t : TypeId} {neg : Bool} {p : Option Addr} {n c : Nat} (h : ZNum B w v z) (hr : RowAt w g t (numCells neg p n c)) (cs : Array Value) : ZNum B (w.setRow g cs) v z := by
 obtain ⟨⟨s, rfl, hu⟩, hl⟩ := h
 exact ⟨⟨s, rfl, hu.setNum hr cs⟩, hl⟩
theorem setRow_size (w : World) (g : Nat) (cs : Array Value) : (w.setRow g cs).heap.size = w.heap.size := by simp [World.setRow]
def madeZ (neg : Bool) (n : Nat) : Int := if neg then -(n : Int) else n
theorem madeZ_abs (neg : Bool) (n : Nat) : (madeZ neg n).natAbs = n := by unfold madeZ; split <;> omega
theorem madeZ_neg {neg : Bool} {n : Nat} (h : n ≠ 0) : decide (madeZ neg n < 0) = neg := by
 unfold madeZ
 cases neg <;> simp <;> omega
theorem ext_grown {w1 w2 : World} {o : Obj} (hg : (w1.alloc o).grownBy w2 (some w1.heap.size)) : Ext w1 w2 :=
 Below.grown (Ext.alloc w1 o) hg (by simp) (fun k hk => by cases hk; exact Nat.le_refl _)
theorem ext_setRow {w W : World} (h : Ext w W) {g : Nat} (hg : w.heap.size ≤ g) (cs : Array Value) : Ext w (W.setRow g cs) := below_setRow2 h hg cs
theorem made_own {w1 w2 : World} {o : Obj} {n : Nat} {ds : List Nat} {news : List Value} {v' : Value} (hn : news.length = n) (hnews : news = u32l ds)
  (h : w2.ownsRow w1.heap.size 118 1 v' (0 + n) ([] ++ news)) (hg : (w1.alloc o).grownBy w2 (some w1.heap.size)) :
  ∃ p c, v' = .slice p n c ∧ (∀ g, g < w1.heap.size → ∀ cs, U32s (w2.setRow g cs).heap.size (w2.setRow g cs) (.slice p n c) ds) ∧ Ext w1 w2 := by
 subst hnews
 obtain rfl : ds.length = n := by rw [← hn, u32l_length]
 rw [Nat.zero_add, List.nil_append] at h
 have ho : Owns w2 w1.heap.size v' ds := h
 obtain ⟨p, c, rfl, hc⟩ := ho.shape
 refine ⟨p, c, rfl, fun g hgg cs => ?_, ext_grown hg⟩
 have ho2 : Owns (w2.setRow g cs) w1.heap.size (.slice p ds.length c) ds := by
  obtain ⟨hl, hh | ⟨k, cap, cur, he, hb, hcc, hrest⟩⟩ := ho
  ·exact ⟨hl, .inl hh⟩
  ·exact ⟨hl, .inr ⟨k, cap, cur, he, hb, (setRow_other w2 g k cs (by omega)).trans hcc, hrest⟩⟩
 refine ho2.u32s ?_
 obtain ⟨hl, ⟨-, h0⟩ | ⟨k, cap, cur, he, hb, hcc, hle, hm, -⟩⟩ := ho
 ·omega
 ·omega
set_option maxRecDepth 100000 in
set_option maxHeartbeats 4000000 in
theorem made_gives (neg : Bool) (p : Option Addr) (cap : Nat) (ds : List Nat) (w : World) (hu : U32s w.heap.size w (.slice p ds.length cap) ds) (hcap : (strip ds).length = ds.length ∨ ds.length ≤ cap) (hd : Digits ds) (h64 : val ds < B32 ^ 64) :
  Calls Tryz.prog 74 #[.bool neg, .slice p ds.length cap] w (Gives w (madeZ neg (val ds)) (decide (madeZ neg (val ds) < 0))) := by
 have hsd := strip_digs hd
 have hlen : (strip ds).length ≤ 64 := by rw [hsd]; exact digs_len.2 h64
 obtain ⟨W1, hW1⟩ : ∃ W1, W1 = w.alloc (.cells #[.bool false, .slice none 0 0] 36) := ⟨_, rfl⟩
 have hx1 : Ext w W1 := by rw [hW1]; exact Ext.alloc _ _
 have hr1 : RowAt W1 w.heap.size 36 (numCells false none 0 0) := by rw [hW1]; exact RowAt.new' _ _ (by simp)
 have HC := Lib.hid (trim_calls p cap ds W1 (hx1.u32s hu) hcap)
 have Hx1 := Lib.hid hx1
 have Hr1 := Lib.hid hr1
 have HW1 := Lib.hid hW1
 have Hu := Lib.hid hu
 have Hsd := Lib.hid hsd
 have H64 := Lib.hid h64
 have hwz : w.heap.size < W1.heap.size := hr1.lt
 obtain ⟨n, hn⟩ : ∃ n, n = (strip ds).length := ⟨_, rfl⟩
 rw [← hn] at hlen
 have HC' : Hid (Calls Tryz.prog 127 #[.slice p ds.length cap] W1 fun e w' => e = .returned (.slice p n cap) ∧ Ext W1 w') := by rw [hn]; exact HC.out
 have Hn := Lib.hid hn
 obtain ⟨i0, hi, hz0, hz1, hz2⟩ := info_parts info_u32
 clear hu hcap hd h64 hsd hx1 hr1 hW1 HC hn
 go_enter Tryz.func74, Tryz.ntmps74
 go_wp2_with fail
 rw [← HW1.out]
 refine HC'.out.mono ?_
 rintro e w1 ⟨rfl, hx⟩
 have Hx := Lib.hid (Hx1.out.trans hx)
 have Hr := Lib.hid (hx.row Hr1.out)
 have Hu1 := Lib.hid ((Hx1.out.trans hx).u32s Hu.out)
 have hsz := Below.size hx
 clear hx
 by_cases h0 : n = 0
 ·subst h0
  go_wp2_with (refine store_num rfl (.tmp 4) (.tmp 15) rfl w.heap.size rfl _ _ _ _ rfl _ _ Hr.out rfl ?_)
  have hv0 : val ds = 0 := by rw [← val_digs (val ds), ← Hsd.out, List.length_eq_zero_iff.1 Hn.out.symm]; rfl
  refine ret_num rfl w.heap.size rfl _ rfl _ _ _ _ _ (Hr.out.setRow _) ⟨none, 0, 0, ?_, ?_, ext_setRow Hx.out (Nat.le_refl _) _⟩
  ·rw [hv0]; cases neg <;> rfl
  ·rw [hv0]
   refine ⟨⟨_, by cases neg <;> rfl, none, 0, by cases neg <;> rfl, by cases neg <;> decide, fun h => ?_⟩, by cases neg <;> decide⟩
   cases neg <;> exact absurd h (by decide)
 ·have hlt : ¬ (64 : Int) < (n : Int) := by omega
  have hn0 : ¬ (n : Int) = 0 := by omega
  have hdn : n ≤ ds.length := by rw [Hn.out]; exact strip_length_le _
  obtain ⟨p', cap', he, -, hc⟩ := Hu1.out
  cases he
  obtain ⟨b, off, rfl, hb, hcs⟩ := hc (by omega)
  obtain ⟨news, hnews⟩ : ∃ news, news = u32l (strip ds) := ⟨_, rfl⟩
  have hnl : news.length = n := by rw [hnews, u32l_length, Hn.out]
  have Hc1 : Hid (∀ o (j : Nat) (u : Value), news[j]? = some u → (w1.alloc o).cell? (Addr.add ⟨b, off, none⟩ j) = some u) := fun o j u hj => by
   have hj' : j < n := by have := (List.getElem?_eq_some_iff.1 hj).1; omega
   have e1 : (w1.alloc o).cell? ⟨b, off + j, none⟩ = w1.cell? ⟨b, off + j, none⟩ := (Ext.alloc w1 o).cell (p := ⟨b, off + j, none⟩) hb
   rw [show Addr.add ⟨b, off, none⟩ j = ⟨b, off + j, none⟩ by simp [Addr.add], e1, hcs j (by omega), ← hj, hnews, u32l_get (by rw [← Hn.out]; exact hj'), ← strip_take, List.getElem?_take_of_lt (by rw [← Hn.out]; exact hj')]
  have Hc2 : Hid (∀ u ∈ news, u.oneCell' = true) := by rw [hnews]; exact u32l_one _
  have Hnews := Lib.hid hnews
  clear hcs hc hnews
  have hown : (w1.alloc (.cells #[] 118)).ownsRow w1.heap.size 118 1 (.slice (some ⟨w1.heap.size, 0, none⟩) 0 0) 0 [] := World.ownsRow_lit w1 #[] 0 (Nat.le_refl _) (by decide) rfl
  have Hown := Lib.hid hown
  clear hown
  have HL := Lib.hid hnl
  go_wp2_with (first | (at_builtin; refine wpList_append_own _ rfl (.tmp 17) (.tmp 18) 34 rfl w1.heap.size 118 i0 (.int .u32 0) 1 4 Tryz.underlying34 hi hz0 hz1 hz2 rfl (by decide) _ _ _ rfl Hown.out ⟨b, off, none⟩ n cap news rfl (by rw [hnl, Nat.mul_one]) (Hc1.out _) Hc2.out (by unfold maxLen; omega) (by omega) (by simp) ?_; intro v' w2 hown' hgrow _; obtain ⟨pv, cv, rfl, hu2, hx2⟩ := made_own HL.out Hnews.out hown' hgrow; have Hu2 := Lib.hid hu2; have Hx2 := Lib.hid hx2; have Hr2 := Lib.hid (hx2.row Hr.out); clear hown' hgrow hu2 hx2) | (refine store_num rfl (.tmp 4) (.tmp 20) rfl w.heap.size rfl neg pv n cv rfl _ _ Hr2.out rfl ?_))
  have hne : val ds ≠ 0 := fun e => by
   have h := Hn.out; rw [Hsd.out, e] at h; exact h0 h
  refine ret_num rfl w.heap.size rfl _ rfl _ _ _ _ _ (Hr2.out.setRow _) ⟨pv, n, cv, by rw [madeZ_neg hne], ?_, ext_setRow (Hx.out.trans Hx2.out) (Nat.le_refl _) _⟩
  have hx3 : Below (w2.setRow w.heap.size (numCells neg pv n cv)).heap.size (w2.setRow w.heap.size (numCells neg pv n cv)) (w2.setRow w.heap.size (numCells neg pv n cv)) := Below.refl _ _
  refine ⟨⟨.slice pv n cv, by rw [madeZ_neg hne], ?_⟩, by rw [madeZ_abs]; exact H64.out⟩
  rw [madeZ_abs, ← Hsd.out]
  exact Hu2.out _ (by have := Hr.out.lt; omega) _
end Go.Proofs.YtgnogdncoljldaaGreat
namespace Go.Proofs.YtgnogdncoljldaaGreat
open Go Go.RowKit Go.Shelf
def I64s (B : Nat) (w : World) (v : Value) (zs : List Int) : Prop :=
 ∃ (p : Option Addr) (cap : Nat), v = .slice p zs.length cap ∧ zs.length ≤ maxLen ∧ (0 < zs.length → ∃ b off, p = some ⟨b, off, none⟩ ∧ b < B ∧ ∀ j, j < zs.length → w.cell? ⟨b, off + j, none⟩ = some (.int .i64 (zs[j]?.getD 0)))
theorem I64s.below {B : Nat} {w w' : World} {v : Value} {zs : List Int} (h : I64s B w v zs) (hb : Below B w w') : I64s B w' v zs := by
 obtain ⟨p, cap, rfl, hl, hc⟩ := h
 refine ⟨p, cap, rfl, hl, fun h0 => ?_⟩
 obtain ⟨b, off, rfl, hB, hc⟩ := hc h0
 exact ⟨b, off, rfl, hB, fun j hj => (hb.cell (p := ⟨b, off + j, none⟩) hB).trans (hc j hj)⟩
theorem I64s.mono {B B' : Nat} {w : World} {v : Value} {zs : List Int} (h : I64s B w v zs) (hb : B ≤ B') : I64s B' w v zs := by
 obtain ⟨p, cap, rfl, hl, hc⟩ := h
 refine ⟨p, cap, rfl, hl, fun h0 => ?_⟩
 obtain ⟨b, off, rfl, hB, hc⟩ := hc h0
 exact ⟨b, off, rfl, by omega, hc⟩
theorem own_step {wr w1 : World} {base j : Nat} {d : Nat} {o : Obj} {v v' : Value} {ds : List Nat} (ho : Owns wr base v ds) (hj : ds.length = j) (hbase : base ≤ wr.heap.size)
  (h : w1.ownsRow base 118 1 v' (j + 1) (u32l ds ++ [.int .u32 (d : Int)])) (hg : (wr.alloc o).grownBy w1 v.ownBlock) : Owns w1 base v' (ds ++ [d]) ∧ Below base wr w1 ∧ wr.heap.size ≤ w1.heap.size := by
 subst hj
 refine ⟨?_, ?_, ?_⟩
 ·show w1.ownsRow base 118 1 v' (ds ++ [d]).length (u32l (ds ++ [d]))
  rw [← u32l_append, List.length_append]; exact h
 ·exact Below.grown ((Below.refl _ _).alloc hbase o) hg (by simp; omega) (fun k hk => (World.ownsRow.lt ho k hk).1)
 ·exact Nat.le_trans (by simp) hg.size
theorem made_tail {w wr w1 : World} {o : Obj} {z : Int} {neg : Bool} {p1 : Option Addr} {n1 c1 : Nat} {cs cs2 : Array Value} (hz : ZNum w1.heap.size w1 (.agg #[.bool neg, .slice p1 n1 c1]) z) (hx : Ext wr w1) (hr : RowAt wr w.heap.size 36 (numCells false none 0 0)) (hB : Ext w wr) :
  Gives1 w z neg (.returned (.agg #[.bool neg, .slice p1 n1 c1])) (((w1.alloc o).setRow w1.heap.size cs).setRow w.heap.size cs2) := by
 have hlt := (hx.row hr).lt
 have hx2 : Ext w1 ((w1.alloc o).setRow w1.heap.size cs) := ext_setRow (Ext.alloc w1 o) (Nat.le_refl _) _
 refine ⟨p1, n1, c1, rfl, ?_, ext_setRow ((hB.trans hx).trans hx2) (Nat.le_refl _) _⟩
 rw [setRow_size]
 exact (hx2.num hz).setNum ((hx2.row (hx.row hr))) cs2
end Go.Proofs.YtgnogdncoljldaaGreat
namespace Go.Proofs.YtgnogdncoljldaaGreat
open Go Go.RowKit Go.Shelf
theorem znum_zero {B : Nat} {w : World} {b : Bool} {p : Option Addr} {n c : Nat} (h : ZNum B w (.agg #[.bool b, .slice p n c]) 0) : n = 0 := by
 obtain ⟨⟨s, he, q, c2, hq, -⟩, -⟩ := h
 simp only [Value.agg.injEq] at he
 have h2 := congrArg (fun (l : Array Value) => l[1]?) he
 simp only [List.getElem?_toArray, List.getElem?_cons_succ, List.getElem?_cons_zero, Option.some.injEq] at h2
 subst h2
 cases hq
 rfl
theorem sub_zero {va vb : Value} {za zb : Int} {w : World} (ha : ZNum w.heap.size w va za) (hb : ZNum w.heap.size w vb zb) (hz : za - zb = 0) :
  Calls Tryz.prog 110 #[va, vb] w fun e w' => ∃ p c, e = .returned (.tuple #[.agg #[.bool false, .slice p 0 c], .bool true]) ∧ Ext w w' :=
 (sub_gives (neg := false) ha hb hz rfl (lim64 (by decide))).mono fun e w' ⟨p, n, c, he, hz, hx⟩ => by
  have := znum_zero hz
  subst this
  exact ⟨p, c, he, hx⟩
end Go.Proofs.YtgnogdncoljldaaGreat
namespace Go.Proofs.YtgnogdncoljldaaGreat
open Go Go.RowKit Go.Shelf
def NewS (lo : Nat) (v : Value) : Prop := ∀ b off n c, v = .slice (some ⟨b, off, none⟩) n c → lo ≤ b
theorem Owns.newS {w : World} {base : Nat} {v : Value} {ds : List Nat} (h : Owns w base v ds) : NewS base v := by
 obtain ⟨hl, ⟨rfl, h0⟩ | ⟨g, cap, cur, rfl, hb, -⟩⟩ := h
 ·intro b off n c e; cases e
 ·intro b off n c e; cases e; exact hb
theorem NewS.cut {lo n k cap : Nat} {p : Option Addr} (h : NewS lo (.slice p n cap)) : NewS lo (.slice p k cap) := fun b off m c e => by cases e; exact h b off n cap rfl
theorem U32s.strip {B : Nat} {w : World} {p : Option Addr} {cap : Nat} {ds : List Nat} (h : U32s B w (.slice p ds.length cap) ds) : U32s B w (.slice p (strip ds).length cap) (strip ds) := by
 obtain ⟨q, cap2, he, hl, hc⟩ := h
 cases he
 have hle := strip_length_le ds
 refine ⟨p, cap, rfl, by omega, fun h0 => ?_⟩
 obtain ⟨b, off, rfl, hb, hcs⟩ := hc (by omega)
 refine ⟨b, off, rfl, hb, fun j hj => ?_⟩
 rw [hcs j (by omega)]
 congr 3
 have := strip_take ds
 rw [← this, List.getElem?_take_of_lt hj]
theorem trim_digs {p : Option Addr} {cap n : Nat} {ds : List Nat} {w : World} (hn : ds.length = n) (hu : U32s w.heap.size w (.slice p n cap) ds) (hcap : (Go.Proofs.YtgnogdncoljldaaGreat.strip ds).length = n ∨ n ≤ cap) (hd : Digits ds) :
  Calls Tryz.prog 127 #[.slice p n cap] w fun e w' => ∃ k, e = .returned (.slice p k cap) ∧ k = (digs (val ds)).length ∧ k ≤ n ∧ U32s w'.heap.size w' (.slice p k cap) (digs (val ds)) ∧ Ext w w' := by
 subst hn
 refine (trim_calls p cap ds w hu hcap).mono fun e w' ⟨he, hx⟩ => ⟨_, he, ?_⟩
 rw [← strip_digs hd]
 exact ⟨rfl, strip_length_le ds, (hx.u32s hu).strip, hx⟩
set_option maxRecDepth 100000 in
set_option maxHeartbeats 4000000 in
theorem compare_calls (v u : Value) (xs ys : List Nat) (w : World) (hx : U32s w.heap.size w v xs) (hy : U32s w.heap.size w u ys) (hdx : Digits xs) (hdy : Digits ys) :
  Calls Tryz.prog 94 #[v, u] w fun e w' => e = .returned (.int .i64 (cmpL xs ys)) ∧ Ext w w' := by
 obtain ⟨p, cap, rfl, hl, hc⟩ := hx
 obtain ⟨q, cap2, rfl, hl2, hc2⟩ := hy
 have hlm := digs_lt_maxLen hl
 have hlm2 := digs_lt_maxLen hl2
 by_cases he : xs.length = ys.length
 ·rw [cmpL_len he]
  rw [← he] at hc2 ⊢
  obtain ⟨n, hn⟩ : ∃ n, n = xs.length := ⟨_, rfl⟩
  rw [← hn] at hlm ⊢
  have Hc := Lib.hid hc
  have Hc2 := Lib.hid hc2
  have Hn := Lib.hid hn
  have He := Lib.hid he
  clear hc hc2 hl hl2 hlm2 hn he
  go_enter Tryz.func94, Tryz.ntmps94
  go_wp2
  go_loopw [5] (fun i wr => ∃ k : Nat, k ≤ n ∧ i = .int .i64 ((k : Int) - 1) ∧ xs.drop k = ys.drop k ∧ Ext w wr) (fun i _ => (intOf i + 1).toNat)
  case atStart => exact ⟨n, Nat.le_refl _, rfl, by rw [List.drop_eq_nil_of_le (by rw [Hn.out]; exact Nat.le_refl _), List.drop_eq_nil_of_le (by rw [Hn.out, He.out]; exact Nat.le_refl _)], Ext.refl _⟩
  case round =>
   obtain ⟨k, hk, rfl, hdr, hB⟩ := hrel
   have Hdr := Lib.hid hdr
   have HB := Lib.hid hB
   by_cases h0 : k = 0
   ·subst h0
    have hs : sgn (val xs) (val ys) = 0 := by
     have : xs = ys := by simpa using hdr
     rw [this]; exact sgn_eq _
    have Hs := Lib.hid hs
    clear hB hdr hs
    go_wp2
    go_ret
    exact ⟨by rw [Hs.out]; rfl, HB.out⟩
   ·obtain ⟨j, rfl⟩ : ∃ j, k = j + 1 := ⟨k - 1, by omega⟩
    have hj : ((j + 1 : Nat) : Int) - 1 = (j : Int) := by omega
    rw [hj]
    have hnn := Hn.out
    obtain ⟨b, off, rfl, hb, hcs⟩ := Hc.out (by omega)
    obtain ⟨b2, off2, rfl, hb2, hcs2⟩ := Hc2.out (by omega)
    have h1 := (Below.cell hB (p := ⟨b, off + j, none⟩) hb).trans (hcs j (by omega))
    have h2 := (Below.cell hB (p := ⟨b2, off2 + j, none⟩) hb2).trans (hcs2 j (by omega))
    have hjI : (j : Int) < (n : Int) := by omega
    have hj0 : (0 : Int) ≤ (j : Int) := by omega
    have hlx : j < xs.length := by omega
    have hly : j < ys.length := by have := He.out; omega
    obtain ⟨d, hd⟩ : ∃ d, d = xs[j]?.getD 0 := ⟨_, rfl⟩
    obtain ⟨f, hf⟩ : ∃ f, f = ys[j]?.getD 0 := ⟨_, rfl⟩
    rw [← hd] at h1
    rw [← hf] at h2
    have Hd := Lib.hid hd
    have Hf := Lib.hid hf
    rcases Nat.lt_trichotomy d f with hlt | heq | hgt
    ·have hr : sgn (val xs) (val ys) = -1 := sgn_lt (val_lt_of_digit He.out hdx hlx hdr (by rw [← hd, ← hf]; exact hlt))
     have Hr := Lib.hid hr
     have hdd : (d : Int) < (f : Int) := by omega
     clear hcs hcs2 hB h0 hr hd hf hlx hly hnn hdr hlt
     go_wp2
     go_quiet (fail)
     go_wp2
     go_ret
     exact ⟨by rw [Hr.out]; rfl, HB.out.trans (Ext.drewN _ _)⟩
    ·subst heq
     have hz2 := drop_eq_cons hlx hly hdr (by rw [← hd, ← hf])
     have Hz2 := Lib.hid hz2
     have hdd : ¬ ((d : Int) < (d : Int)) := by omega
     clear hcs hcs2 hB h0 hd hf hlx hly hnn hdr hz2
     go_wp2
     go_quiet (fail)
     go_wp2
     go_quiet (fail)
     go_wp2
     go_roundw
     case rel => exact ⟨j, by omega, by congr 1, Hz2.out, HB.out.trans (Ext.drewN _ _)⟩
     case measure => simp [intOf]
    ·have hr : sgn (val xs) (val ys) = 1 := sgn_gt (val_lt_of_digit He.out.symm hdy hly hdr.symm (by rw [← hd, ← hf]; exact hgt))
     have Hr := Lib.hid hr
     have hdd : ¬ (d : Int) < (f : Int) := by omega
     have hdd2 : (f : Int) < (d : Int) := by omega
     clear hcs hcs2 hB h0 hr hd hf hlx hly hnn hdr hgt
     go_wp2
     go_quiet (fail)
     go_wp2
     go_quiet (fail)
     go_wp2
     go_ret
     exact ⟨by rw [Hr.out]; rfl, (HB.out.trans (Ext.drewN _ _)).trans (Ext.drewN _ _)⟩
 ·by_cases hlt : xs.length < ys.length
  ·have hr : cmpL xs ys = -1 := by unfold cmpL; rw [if_pos hlt]
   rw [hr]
   generalize xs.length = n at *
   generalize ys.length = m at *
   have h1 : (n : Int) < (m : Int) := by omega
   have h2 : ((n : Int) != (m : Int)) = true := by simp; omega
   clear hc hc2 hl hl2 hr
   go_enter Tryz.func94, Tryz.ntmps94
   go_wp2
   go_ret
   exact ⟨rfl, Ext.refl _⟩
  ·have hr : cmpL xs ys = 1 := by unfold cmpL; rw [if_neg hlt, if_pos (by omega)]
   rw [hr]
   generalize xs.length = n at *
   generalize ys.length = m at *
   have h1 : ¬ (n : Int) < (m : Int) := by omega
   have h2 : ((n : Int) != (m : Int)) = true := by simp; omega
   clear hc hc2 hl hl2 hr
   go_enter Tryz.func94, Tryz.ntmps94
   go_wp2
   go_ret
   exact ⟨rfl, Ext.refl _⟩
end Go.Proofs.YtgnogdncoljldaaGreat
namespace Go.Proofs.YtgnogdncoljldaaGreat
open Go Go.RowKit Go.Shelf
def plusC (xs ys : List Nat) : Nat → Nat
 | 0 => 0
 | k + 1 => (plusC xs ys k + xs[k]?.getD 0 + ys[k]?.getD 0) / B32
def plusD (xs ys : List Nat) (k : Nat) : Nat := (plusC xs ys k + xs[k]?.getD 0 + ys[k]?.getD 0) % B32
def plusL (xs ys : List Nat) : Nat → List Nat
 | 0 => []
 | k + 1 => plusL xs ys k ++ [plusD xs ys k]
theorem plusL_length (xs ys : List Nat) (k : Nat) : (plusL xs ys k).length = k := by
 induction k with
 | zero => rfl
 | succ k ih => rw [plusL, List.length_append, ih]; rfl
theorem plusC_le {xs ys : List Nat} (hx : Digits xs) (hy : Digits ys) (k : Nat) : plusC xs ys k ≤ 1 := by
 induction k with
 | zero => simp [plusC]
 | succ k ih =>
   have h1 := hx.getD k
   have h2 := hy.getD k
   rw [plusC]
   unfold B32 at *
   omega
theorem plusL_digits (xs ys : List Nat) (k : Nat) : Digits (plusL xs ys k) := by
 induction k with
 | zero => exact Digits.nil
 | succ k ih => rw [plusL]; exact ih.append fun d hd => by rw [List.mem_singleton.1 hd]; exact Nat.mod_lt _ B32_pos
theorem plusL_val (xs ys : List Nat) (k : Nat) : val (plusL xs ys k) + B32 ^ k * plusC xs ys k = val (xs.take k) + val (ys.take k) := by
 induction k with
 | zero => simp [plusL, plusC, val]
 | succ k ih =>
   rw [plusL, val_snoc, plusL_length, val_take_succ, val_take_succ]
   have h := Nat.mod_add_div (plusC xs ys k + xs[k]?.getD 0 + ys[k]?.getD 0) B32
   have h2 : B32 ^ k * ((plusC xs ys k + xs[k]?.getD 0 + ys[k]?.getD 0) % B32 + B32 * ((plusC xs ys k + xs[k]?.getD 0 + ys[k]?.getD 0) / B32)) = B32 ^ k * (plusC xs ys k + xs[k]?.getD 0 + ys[k]?.getD 0) := by rw [h]
   rw [plusD, plusC, Nat.pow_succ]
   rw [Nat.mul_add, Nat.mul_add, Nat.mul_add] at h2
   rw [Nat.mul_assoc]
   generalize (plusC xs ys k + xs[k]?.getD 0 + ys[k]?.getD 0) % B32 = u at *
   generalize (plusC xs ys k + xs[k]?.getD 0 + ys[k]?.getD 0) / B32 = v at *
   omega
theorem plusL_done {xs ys : List Nat} {k : Nat} (h1 : xs.length ≤ k) (h2 : ys.length ≤ k) (h : plusC xs ys k = 0) : val (plusL xs ys k) = val xs + val ys := by
 have := plusL_val xs ys k
 rw [h, Nat.mul_zero, val_take_all h1, val_take_all h2] at this
 exact this
theorem plusC_end {xs ys : List Nat} {k : Nat} (hx : Digits xs) (hy : Digits ys) (h1 : xs.length ≤ k) (h2 : ys.length ≤ k) : plusC xs ys (k + 1) = 0 := by
 have := plusC_le hx hy k
 rw [plusC, getD_of_ge h1, getD_of_ge h2]
 unfold B32
 omega
set_option maxRecDepth 100000 in
set_option maxHeartbeats 8000000 in
theorem plus_calls (v u : Value) (xs ys : List Nat) (w : World) (hx : U32s w.heap.size w v xs) (hy : U32s w.heap.size w u ys) (hdx : Digits xs) (hdy : Digits ys) (hbx : xs.length ≤ 1099511627776) (hby : ys.length ≤ 1099511627776) :
  Calls Tryz.prog 176 #[v, u] w fun e w' => ∃ r, e = .returned r ∧ U32s w'.heap.size w' r (digs (val xs + val ys)) ∧ Ext w w' ∧ NewS w.heap.size r := by
 obtain ⟨p, cap, rfl, hl, hc⟩ := hx
 obtain ⟨q, cap2, rfl, hl2, hc2⟩ := hy
 obtain ⟨n, hn⟩ : ∃ n, n = xs.length := ⟨_, rfl⟩
 obtain ⟨m, hm⟩ : ∃ m, m = ys.length := ⟨_, rfl⟩
 rw [← hn] at hbx ⊢
 rw [← hm] at hby ⊢
 have Hc := Lib.hid hc
 have Hc2 := Lib.hid hc2
 have Hn := Lib.hid hn
 have Hm := Lib.hid hm
 have Hdx := Lib.hid hdx
 have Hdy := Lib.hid hdy
 obtain ⟨i0, hi, hz0, hz1, hz2⟩ := info_parts info_u32
 clear hc hc2 hl hl2 hn hm hdx hdy
 go_enter Tryz.func176, Tryz.ntmps176
 go_wp2
 go_loopw [5, 6, 7] (fun v c i wr => ∃ k : Nat, i = .int .i64 (k : Int) ∧ c = .int .u64 (plusC xs ys k : Nat) ∧ k ≤ max n m + 1 ∧ Owns wr w.heap.size v (plusL xs ys k) ∧ Ext w wr) (fun _ _ i _ => max n m + 1 - (intOf i).toNat)
 case atStart => exact ⟨0, rfl, rfl, by omega, Owns.nil _ _, Ext.refl _⟩
 case round =>
  obtain ⟨k, rfl, rfl, hk, ho, hB⟩ := hrel
  have HB := Lib.hid hB
  have hsz := Below.size hB
  have hcle := plusC_le Hdx.out Hdy.out k
  have hL := plusL_length xs ys k
  obtain ⟨pv, cv, rfl, hcv⟩ := ho.shape
  rw [hL] at ho hcv ⊢
  have Ho := Lib.hid ho
  have hown : ∀ o, (wr.alloc o).ownsRow w.heap.size 118 1 (.slice pv k cv) k (u32l (plusL xs ys k)) := fun o => by
   have h := ho.alloc o
   unfold Owns at h
   rw [hL] at h; exact h
  have Hown := Lib.hid hown
  have HL := Lib.hid hL
  clear hL ho hown hB
  obtain ⟨c, hcc⟩ : ∃ c, c = plusC xs ys k := ⟨_, rfl⟩
  rw [← hcc] at hcle ⊢
  have Hcc := Lib.hid hcc
  clear hcc
  by_cases h1 : k < n
  ·by_cases h2 : k < m
   ·have hnl := Hn.out
    obtain ⟨b, off, rfl, hb, hcs⟩ := Hc.out (by omega)
    have hx1 := (Below.cell HB.out (p := ⟨b, off + k, none⟩) hb).trans (hcs k (by omega))
    have hg1 : (k : Int) < (n : Int) := by omega
    have hml := Hm.out
    obtain ⟨b2, off2, rfl, hb2, hcs2⟩ := Hc2.out (by omega)
    have hy1 := (Below.cell HB.out (p := ⟨b2, off2 + k, none⟩) hb2).trans (hcs2 k (by omega))
    have hg2 : (k : Int) < (m : Int) := by omega
    obtain ⟨x, hx⟩ : ∃ x, x = xs[k]?.getD 0 := ⟨_, rfl⟩
    obtain ⟨y, hy⟩ : ∃ y, y = ys[k]?.getD 0 := ⟨_, rfl⟩
    have hxB := Hdx.out.getD k
    have hyB := Hdy.out.getD k
    rw [← hx] at hx1
    rw [← hy] at hy1
    rw [← hx] at hxB
    rw [← hy] at hyB
    obtain ⟨S, hS⟩ : ∃ S : Nat, S = c + x + y := ⟨_, rfl⟩
    obtain ⟨d, hd⟩ : ∃ d : Nat, d = S % B32 := ⟨_, rfl⟩
    obtain ⟨f, hf⟩ : ∃ f : Nat, f = S / B32 := ⟨_, rfl⟩
    have HD : Hid (d = plusD xs ys k) := by show d = _; rw [hd, hS, plusD, ← Hcc.out, hx, hy]
    have HC : Hid (plusC xs ys (k + 1) = f) := by show _ = f; rw [hf, hS, plusC, ← Hcc.out, hx, hy]
    unfold B32 at hxB hyB hd hf
    have hw1 : IntKind.u64.wrap ((c : Int) + (x : Int)) = (c : Int) + (x : Int) := by rw [IntKind.wrap_u64]; omega
    have hsum : (c : Int) + (x : Int) + (y : Int) = (S : Int) := by omega
    have hw2 : IntKind.u64.wrap (S : Int) = (S : Int) := by rw [IntKind.wrap_u64]; omega
    have hw3 : (S : Int) % 4294967296 = (d : Int) := by omega
    have hw4 : (S : Int) / 4294967296 = (f : Int) := by omega
    clear hx hy hS hf hd hcs hnl hcs2 hml
    go_wp2_with (at_builtin; refine wpList_append_own _ rfl (.tmp 46) (.tmp 49) 34 rfl w.heap.size 118 i0 (.int .u32 0) 1 4 Tryz.underlying34 hi hz0 hz1 hz2 rfl (by decide) _ _ _ rfl (Hown.out _) ⟨wr.heap.size, 0, none⟩ 1 1 [.int .u32 (d : Int)] rfl rfl (cell_one_own _ _ _) (by intro u hu; simp at hu; subst hu; rfl) (by unfold maxLen; omega) (by omega) (by simp; omega) ?_; intro v' w1 hown' hgrow _; obtain ⟨ho1, hb1, hs1⟩ := own_step Ho.out HL.out (by omega) hown' hgrow; have Ho1 := Lib.hid ho1; have Hb1 := Lib.hid hb1; clear hown' hgrow ho1 hb1)
    go_wp2
    go_roundw
    case rel => first | exact ⟨k + 1, by go_num, by rw [HC.out]; first | done | rfl, by omega, by rw [plusL, ← HD.out]; exact Ho1.out, Below.trans HB.out Hb1.out⟩ | ((repeat apply Exists.intro); exact ⟨⟨k + 1, by go_num, by rw [HC.out]; first | done | rfl, by omega, by rw [plusL, ← HD.out]; exact Ho1.out, Below.trans HB.out Hb1.out⟩, rfl⟩)
    case measure => simp [intOf]; omega
   ·have hnl := Hn.out
    obtain ⟨b, off, rfl, hb, hcs⟩ := Hc.out (by omega)
    have hx1 := (Below.cell HB.out (p := ⟨b, off + k, none⟩) hb).trans (hcs k (by omega))
    have hg1 : (k : Int) < (n : Int) := by omega
    have hg2 : ¬ (k : Int) < (m : Int) := by omega
    obtain ⟨x, hx⟩ : ∃ x, x = xs[k]?.getD 0 := ⟨_, rfl⟩
    obtain ⟨y, hy⟩ : ∃ y, y = ys[k]?.getD 0 := ⟨_, rfl⟩
    have hxB := Hdx.out.getD k
    have hyB := Hdy.out.getD k
    rw [← hx] at hx1
    rw [← hx] at hxB
    rw [← hy] at hyB
    have hy0 : y = 0 := by rw [hy]; exact getD_of_ge (by have := Hm.out; omega)
    obtain ⟨S, hS⟩ : ∃ S : Nat, S = c + x + y := ⟨_, rfl⟩
    obtain ⟨d, hd⟩ : ∃ d : Nat, d = S % B32 := ⟨_, rfl⟩
    obtain ⟨f, hf⟩ : ∃ f : Nat, f = S / B32 := ⟨_, rfl⟩
    have HD : Hid (d = plusD xs ys k) := by show d = _; rw [hd, hS, plusD, ← Hcc.out, hx, hy]
    have HC : Hid (plusC xs ys (k + 1) = f) := by show _ = f; rw [hf, hS, plusC, ← Hcc.out, hx, hy]
    unfold B32 at hxB hyB hd hf
    have hsum : (c : Int) + (x : Int) = (S : Int) := by omega
    have hw2 : IntKind.u64.wrap (S : Int) = (S : Int) := by rw [IntKind.wrap_u64]; omega
    have hw3 : (S : Int) % 4294967296 = (d : Int) := by omega
    have hw4 : (S : Int) / 4294967296 = (f : Int) := by omega
    clear hx hy hS hf hd hcs hnl hy0
    go_wp2_with (at_builtin; refine wpList_append_own _ rfl (.tmp 46) (.tmp 49) 34 rfl w.heap.size 118 i0 (.int .u32 0) 1 4 Tryz.underlying34 hi hz0 hz1 hz2 rfl (by decide) _ _ _ rfl (Hown.out _) ⟨wr.heap.size, 0, none⟩ 1 1 [.int .u32 (d : Int)] rfl rfl (cell_one_own _ _ _) (by intro u hu; simp at hu; subst hu; rfl) (by unfold maxLen; omega) (by omega) (by simp; omega) ?_; intro v' w1 hown' hgrow _; obtain ⟨ho1, hb1, hs1⟩ := own_step Ho.out HL.out (by omega) hown' hgrow; have Ho1 := Lib.hid ho1; have Hb1 := Lib.hid hb1; clear hown' hgrow ho1 hb1)
    go_wp2
    go_roundw
    case rel => first | exact ⟨k + 1, by go_num, by rw [HC.out]; first | done | rfl, by omega, by rw [plusL, ← HD.out]; exact Ho1.out, Below.trans HB.out Hb1.out⟩ | ((repeat apply Exists.intro); exact ⟨⟨k + 1, by go_num, by rw [HC.out]; first | done | rfl, by omega, by rw [plusL, ← HD.out]; exact Ho1.out, Below.trans HB.out Hb1.out⟩, rfl⟩)
    case measure => simp [intOf]; omega
  ·by_cases h2 : k < m
   ·have hg1 : ¬ (k : Int) < (n : Int) := by omega
    have hml := Hm.out
    obtain ⟨b2, off2, rfl, hb2, hcs2⟩ := Hc2.out (by omega)
    have hy1 := (Below.cell HB.out (p := ⟨b2, off2 + k, none⟩) hb2).trans (hcs2 k (by omega))
    have hg2 : (k : Int) < (m : Int) := by omega
    obtain ⟨x, hx⟩ : ∃ x, x = xs[k]?.getD 0 := ⟨_, rfl⟩
    obtain ⟨y, hy⟩ : ∃ y, y = ys[k]?.getD 0 := ⟨_, rfl⟩
    have hxB := Hdx.out.getD k
    have hyB := Hdy.out.getD k
    rw [← hy] at hy1
    rw [← hx] at hxB
    rw [← hy] at hyB
    have hx0 : x = 0 := by rw [hx]; exact getD_of_ge (by have := Hn.out; omega)
    obtain ⟨S, hS⟩ : ∃ S : Nat, S = c + x + y := ⟨_, rfl⟩
    obtain ⟨d, hd⟩ : ∃ d : Nat, d = S % B32 := ⟨_, rfl⟩
    obtain ⟨f, hf⟩ : ∃ f : Nat, f = S / B32 := ⟨_, rfl⟩
    have HD : Hid (d = plusD xs ys k) := by show d = _; rw [hd, hS, plusD, ← Hcc.out, hx, hy]
    have HC : Hid (plusC xs ys (k + 1) = f) := by show _ = f; rw [hf, hS, plusC, ← Hcc.out, hx, hy]
    unfold B32 at hxB hyB hd hf
    have hsum : (c : Int) + (y : Int) = (S : Int) := by omega
    have hw2 : IntKind.u64.wrap (S : Int) = (S : Int) := by rw [IntKind.wrap_u64]; omega
    have hw3 : (S : Int) % 4294967296 = (d : Int) := by omega
    have hw4 : (S : Int) / 4294967296 = (f : Int) := by omega
    clear hx hy hS hf hd hx0 hcs2 hml
    go_wp2_with (at_builtin; refine wpList_append_own _ rfl (.tmp 46) (.tmp 49) 34 rfl w.heap.size 118 i0 (.int .u32 0) 1 4 Tryz.underlying34 hi hz0 hz1 hz2 rfl (by decide) _ _ _ rfl (Hown.out _) ⟨wr.heap.size, 0, none⟩ 1 1 [.int .u32 (d : Int)] rfl rfl (cell_one_own _ _ _) (by intro u hu; simp at hu; subst hu; rfl) (by unfold maxLen; omega) (by omega) (by simp; omega) ?_; intro v' w1 hown' hgrow _; obtain ⟨ho1, hb1, hs1⟩ := own_step Ho.out HL.out (by omega) hown' hgrow; have Ho1 := Lib.hid ho1; have Hb1 := Lib.hid hb1; clear hown' hgrow ho1 hb1)
    go_wp2
    go_roundw
    case rel => first | exact ⟨k + 1, by go_num, by rw [HC.out]; first | done | rfl, by omega, by rw [plusL, ← HD.out]; exact Ho1.out, Below.trans HB.out Hb1.out⟩ | ((repeat apply Exists.intro); exact ⟨⟨k + 1, by go_num, by rw [HC.out]; first | done | rfl, by omega, by rw [plusL, ← HD.out]; exact Ho1.out, Below.trans HB.out Hb1.out⟩, rfl⟩)
    case measure => simp [intOf]; omega
   ·by_cases h3 : c = 0
    ·subst h3
     have hg1 : ¬ (k : Int) < (n : Int) := by omega
     have hg2 : ¬ (k : Int) < (m : Int) := by omega
     have hdone : val (plusL xs ys k) = val xs + val ys := plusL_done (by have := Hn.out; omega) (by have := Hm.out; omega) Hcc.out.symm
     have hu := Ho.out.u32s (by rw [HL.out]; unfold maxLen; omega)
     have HT := Lib.hid (trim_digs HL.out hu (.inr hcv) (plusL_digits xs ys k))
     have Hdone := Lib.hid hdone
     have Ho2 : Hid (Owns wr w.heap.size (.slice pv k cv) _) := Ho.out
     clear hdone hu
     go_wp2_with fail
     refine HT.out.mono ?_
     rintro e w2 ⟨k2, rfl, -, -, hu2, hx2⟩
     have Hu2 := Lib.hid hu2
     have Hx2 := Lib.hid hx2
     clear hu2 hx2
     go_wp2
     go_ret
     exact ⟨_, rfl, by rw [← Hdone.out]; exact Hu2.out, HB.out.trans Hx2.out, (Owns.newS Ho2.out).cut⟩
    ·have hg1 : ¬ (k : Int) < (n : Int) := by omega
     have hg2 : ¬ (k : Int) < (m : Int) := by omega
     obtain ⟨x, hx⟩ : ∃ x, x = xs[k]?.getD 0 := ⟨_, rfl⟩
     obtain ⟨y, hy⟩ : ∃ y, y = ys[k]?.getD 0 := ⟨_, rfl⟩
     have hxB := Hdx.out.getD k
     have hyB := Hdy.out.getD k
     rw [← hx] at hxB
     rw [← hy] at hyB
     have hx0 : x = 0 := by rw [hx]; exact getD_of_ge (by have := Hn.out; omega)
     have hy0 : y = 0 := by rw [hy]; exact getD_of_ge (by have := Hm.out; omega)
     obtain ⟨S, hS⟩ : ∃ S : Nat, S = c + x + y := ⟨_, rfl⟩
     obtain ⟨d, hd⟩ : ∃ d : Nat, d = S % B32 := ⟨_, rfl⟩
     obtain ⟨f, hf⟩ : ∃ f : Nat, f = S / B32 := ⟨_, rfl⟩
     have HD : Hid (d = plusD xs ys k) := by show d = _; rw [hd, hS, plusD, ← Hcc.out, hx, hy]
     have HC : Hid (plusC xs ys (k + 1) = f) := by show _ = f; rw [hf, hS, plusC, ← Hcc.out, hx, hy]
     unfold B32 at hxB hyB hd hf
     obtain rfl : d = c := by omega
     obtain rfl : f = 0 := by omega
     have hkm : k ≤ max n m := by
      by_cases e : k ≤ max n m
      ·exact e
      ·have hk1 : k = max n m + 1 := by omega
       have h := plusC_end (k := max n m) Hdx.out Hdy.out (by have := Hn.out; omega) (by have := Hm.out; omega)
       rw [← hk1, ← Hcc.out] at h
       omega
     have hg3 : (0 : Int) < (d : Int) := by omega
     have hw4 : (d : Int) / 4294967296 = 0 := by omega
     have hw3 : (d : Int) % 4294967296 = (d : Int) := by omega
     clear hx hy hS hf hd hx0 hy0
     go_wp2_with (at_builtin; refine wpList_append_own _ rfl (.tmp 46) (.tmp 49) 34 rfl w.heap.size 118 i0 (.int .u32 0) 1 4 Tryz.underlying34 hi hz0 hz1 hz2 rfl (by decide) _ _ _ rfl (Hown.out _) ⟨wr.heap.size, 0, none⟩ 1 1 [.int .u32 (d : Int)] rfl rfl (cell_one_own _ _ _) (by intro u hu; simp at hu; subst hu; rfl) (by unfold maxLen; omega) (by omega) (by simp; omega) ?_; intro v' w1 hown' hgrow _; obtain ⟨ho1, hb1, hs1⟩ := own_step Ho.out HL.out (by omega) hown' hgrow; have Ho1 := Lib.hid ho1; have Hb1 := Lib.hid hb1; clear hown' hgrow ho1 hb1)
     go_wp2
     go_roundw
     case rel => first | exact ⟨k + 1, by go_num, by rw [HC.out]; first | done | rfl, by omega, by rw [plusL, ← HD.out]; exact Ho1.out, Below.trans HB.out Hb1.out⟩ | ((repeat apply Exists.intro); exact ⟨⟨k + 1, by go_num, by rw [HC.out]; first | done | rfl, by omega, by rw [plusL, ← HD.out]; exact Ho1.out, Below.trans HB.out Hb1.out⟩, rfl⟩)
     case measure => simp [intOf]; omega
end Go.Proofs.YtgnogdncoljldaaGreat
namespace Go.Proofs.YtgnogdncoljldaaGreat
open Go Go.RowKit Go.Shelf
def minC (xs ys : List Nat) : Nat → Nat
 | 0 => 0
 | k + 1 => if xs[k]?.getD 0 < minC xs ys k + ys[k]?.getD 0 then 1 else 0
def minD (xs ys : List Nat) (k : Nat) : Nat := if xs[k]?.getD 0 < minC xs ys k + ys[k]?.getD 0 then xs[k]?.getD 0 + B32 - (minC xs ys k + ys[k]?.getD 0) else xs[k]?.getD 0 - (minC xs ys k + ys[k]?.getD 0)
def minL (xs ys : List Nat) : Nat → List Nat
 | 0 => []
 | k + 1 => minL xs ys k ++ [minD xs ys k]
theorem minL_length (xs ys : List Nat) (k : Nat) : (minL xs ys k).length = k := by
 induction k with
 | zero => rfl
 | succ k ih => rw [minL, List.length_append, ih]; rfl
theorem minC_le (xs ys : List Nat) (k : Nat) : minC xs ys k ≤ 1 := by
 cases k with
 | zero => simp [minC]
 | succ k => rw [minC]; split <;> omega
theorem minD_lt {xs ys : List Nat} (hx : Digits xs) (hy : Digits ys) (k : Nat) : minD xs ys k < B32 := by
 have h1 := hx.getD k
 have h2 := hy.getD k
 have h3 := minC_le xs ys k
 unfold minD
 split <;> omega
theorem minL_digits {xs ys : List Nat} (hx : Digits xs) (hy : Digits ys) (k : Nat) : Digits (minL xs ys k) := by
 induction k with
 | zero => exact Digits.nil
 | succ k ih => rw [minL]; exact ih.append fun d hd => by rw [List.mem_singleton.1 hd]; exact minD_lt hx hy k
theorem minL_val {xs ys : List Nat} (hx : Digits xs) (hy : Digits ys) (k : Nat) : val (minL xs ys k) + val (ys.take k) = val (xs.take k) + B32 ^ k * minC xs ys k := by
 induction k with
 | zero => simp [minL, minC, val]
 | succ k ih =>
   rw [minL, val_snoc, minL_length, val_take_succ, val_take_succ, Nat.pow_succ]
   have h1 := hx.getD k
   have h2 := hy.getD k
   have h3 := minC_le xs ys k
   have h : minD xs ys k + (minC xs ys k + ys[k]?.getD 0) = xs[k]?.getD 0 + B32 * minC xs ys (k + 1) := by
    rw [minC]; unfold minD
    split <;> omega
   have h5 : B32 ^ k * (minD xs ys k + (minC xs ys k + ys[k]?.getD 0)) = B32 ^ k * (xs[k]?.getD 0 + B32 * minC xs ys (k + 1)) := by rw [h]
   rw [Nat.mul_add, Nat.mul_add, Nat.mul_add] at h5
   rw [Nat.mul_assoc]
   omega
theorem minL_done {xs ys : List Nat} (hx : Digits xs) (hy : Digits ys) (hl : ys.length ≤ xs.length) (hle : val ys ≤ val xs) : val (minL xs ys xs.length) = val xs - val ys := by
 have h := minL_val hx hy xs.length
 rw [val_take_all (Nat.le_refl _), val_take_all hl] at h
 have h1 := val_lt (minL_digits hx hy xs.length)
 rw [minL_length] at h1
 have h2 := minC_le xs ys xs.length
 rcases Nat.eq_zero_or_pos (minC xs ys xs.length) with e | e
 ·rw [e, Nat.mul_zero] at h; omega
 ·have e1 : minC xs ys xs.length = 1 := by omega
  rw [e1, Nat.mul_one] at h; omega
set_option maxRecDepth 100000 in
set_option maxHeartbeats 8000000 in
theorem minus_calls (v u : Value) (xs ys : List Nat) (w : World) (hx : U32s w.heap.size w v xs) (hy : U32s w.heap.size w u ys) (hdx : Digits xs) (hdy : Digits ys) (hbx : xs.length ≤ 1099511627776) (hly : ys.length ≤ xs.length) (hle : val ys ≤ val xs) :
  Calls Tryz.prog 175 #[v, u] w fun e w' => ∃ r, e = .returned r ∧ U32s w'.heap.size w' r (digs (val xs - val ys)) ∧ Ext w w' ∧ NewS w.heap.size r := by
 obtain ⟨p, cap, rfl, hl, hc⟩ := hx
 obtain ⟨q, cap2, rfl, hl2, hc2⟩ := hy
 have Hdone := Lib.hid (minL_done hdx hdy hly hle)
 obtain ⟨n, hn⟩ : ∃ n, n = xs.length := ⟨_, rfl⟩
 obtain ⟨m, hm⟩ : ∃ m, m = ys.length := ⟨_, rfl⟩
 rw [← hn] at hbx ⊢
 rw [← hm] at hly ⊢
 rw [← hn] at hly
 have Hc := Lib.hid hc
 have Hc2 := Lib.hid hc2
 have Hn := Lib.hid hn
 have Hm := Lib.hid hm
 have Hdx := Lib.hid hdx
 have Hdy := Lib.hid hdy
 obtain ⟨i0, hi, hz0, hz1, hz2⟩ := info_parts info_u32
 clear hc hc2 hl hl2 hn hm hdx hdy hle
 go_enter Tryz.func175, Tryz.ntmps175
 go_wp2
 go_loopw [5, 6, 7] (fun v c i wr => ∃ k : Nat, i = .int .i64 (k : Int) ∧ c = .int .u64 (minC xs ys k : Nat) ∧ k ≤ n ∧ Owns wr w.heap.size v (minL xs ys k) ∧ Ext w wr) (fun _ _ i _ => n - (intOf i).toNat)
 case atStart => exact ⟨0, rfl, rfl, by omega, Owns.nil _ _, Ext.refl _⟩
 case round =>
  obtain ⟨k, rfl, rfl, hk, ho, hB⟩ := hrel
  have HB := Lib.hid hB
  have hsz := Below.size hB
  have hcle := minC_le xs ys k
  have hL := minL_length xs ys k
  obtain ⟨pv, cv, rfl, hcv⟩ := ho.shape
  rw [hL] at ho hcv ⊢
  have Ho := Lib.hid ho
  have hown : ∀ o, (wr.alloc o).ownsRow w.heap.size 118 1 (.slice pv k cv) k (u32l (minL xs ys k)) := fun o => by
   have h := ho.alloc o
   unfold Owns at h
   rw [hL] at h; exact h
  have Hown := Lib.hid hown
  have HL := Lib.hid hL
  clear hL ho hown hB
  obtain ⟨c, hcc⟩ : ∃ c, c = minC xs ys k := ⟨_, rfl⟩
  rw [← hcc] at hcle ⊢
  have Hcc := Lib.hid hcc
  clear hcc
  by_cases h1 : k < n
  ·by_cases h2 : k < m
   ·have hnl := Hn.out
    obtain ⟨b, off, rfl, hb, hcs⟩ := Hc.out (by omega)
    have hx1 := (Below.cell HB.out (p := ⟨b, off + k, none⟩) hb).trans (hcs k (by omega))
    have hg1 : (k : Int) < (n : Int) := by omega
    have hml := Hm.out
    obtain ⟨b2, off2, rfl, hb2, hcs2⟩ := Hc2.out (by omega)
    have hy1 := (Below.cell HB.out (p := ⟨b2, off2 + k, none⟩) hb2).trans (hcs2 k (by omega))
    have hg2 : (k : Int) < (m : Int) := by omega
    obtain ⟨x, hx⟩ : ∃ x, x = xs[k]?.getD 0 := ⟨_, rfl⟩
    obtain ⟨y, hy⟩ : ∃ y, y = ys[k]?.getD 0 := ⟨_, rfl⟩
    have hxB := Hdx.out.getD k
    have hyB := Hdy.out.getD k
    rw [← hx] at hx1 hxB
    rw [← hy] at hyB hy1
    obtain ⟨s, hs⟩ : ∃ s : Nat, s = c + y := ⟨_, rfl⟩
    have hsel : xs[k]?.getD 0 < minC xs ys k + ys[k]?.getD 0 ↔ x < s := by rw [← hx, ← hy, ← Hcc.out, hs]
    unfold B32 at hxB hyB
    by_cases hb3 : x < s
    ·have hsum : (c : Int) + (y : Int) = (s : Int) := by omega
     have hw1 : IntKind.u64.wrap (s : Int) = (s : Int) := by rw [IntKind.wrap_u64]; omega
     obtain ⟨d, hd⟩ : ∃ d : Nat, d = x + 4294967296 - s := ⟨_, rfl⟩
     have hlt : (x : Int) < (s : Int) := by omega
     have hw2 : IntKind.u64.wrap ((x : Int) + 4294967296) = (x : Int) + 4294967296 := by rw [IntKind.wrap_u64]; omega
     have hw3 : (x : Int) + 4294967296 - (s : Int) = (d : Int) := by omega
     have HC : Hid (minC xs ys (k + 1) = 1) := by show _ = 1; rw [minC, if_pos (hsel.2 hb3)]
     have HD : Hid (d = minD xs ys k) := by show d = _; rw [minD, if_pos (hsel.2 hb3), hd, ← hx, ← hy, ← Hcc.out]; unfold B32; omega
     have hw4 : IntKind.u64.wrap (d : Int) = (d : Int) := by rw [IntKind.wrap_u64]; omega
     have hw5 : (d : Int) % 4294967296 = (d : Int) := by omega
     have hdl : d ≤ 4294967295 := by omega
     clear hx hy hs hd hsel hcs hnl hcs2 hml
     go_wp2_with (at_builtin; refine wpList_append_own _ rfl (.tmp 38) (.tmp 43) 34 rfl w.heap.size 118 i0 (.int .u32 0) 1 4 Tryz.underlying34 hi hz0 hz1 hz2 rfl (by decide) _ _ _ rfl (Hown.out _) ⟨wr.heap.size, 0, none⟩ 1 1 [.int .u32 (d : Int)] rfl rfl (cell_one_own _ _ _) (by intro u hu; simp at hu; subst hu; rfl) (by unfold maxLen; omega) (by omega) (by simp; omega) ?_; intro v' w1 hown' hgrow _; obtain ⟨ho1, hb1, hs1⟩ := own_step Ho.out HL.out (by omega) hown' hgrow; have Ho1 := Lib.hid ho1; have Hb1 := Lib.hid hb1; clear hown' hgrow ho1 hb1)
     go_wp2
     go_roundw
     case rel => first | exact ⟨k + 1, by go_num, by rw [HC.out]; first | done | rfl, by omega, by rw [minL, ← HD.out]; exact Ho1.out, Below.trans HB.out Hb1.out⟩ | ((repeat apply Exists.intro); exact ⟨⟨k + 1, by go_num, by rw [HC.out]; first | done | rfl, by omega, by rw [minL, ← HD.out]; exact Ho1.out, Below.trans HB.out Hb1.out⟩, rfl⟩)
     case measure => simp [intOf]; omega
    ·have hsum : (c : Int) + (y : Int) = (s : Int) := by omega
     have hw1 : IntKind.u64.wrap (s : Int) = (s : Int) := by rw [IntKind.wrap_u64]; omega
     obtain ⟨d, hd⟩ : ∃ d : Nat, d = x - s := ⟨_, rfl⟩
     have hlt : ¬ (x : Int) < (s : Int) := by omega
     have hw3 : (x : Int) - (s : Int) = (d : Int) := by omega
     have HC : Hid (minC xs ys (k + 1) = 0) := by show _ = 0; rw [minC, if_neg (fun h => hb3 (hsel.1 h))]
     have HD : Hid (d = minD xs ys k) := by show d = _; rw [minD, if_neg (fun h => hb3 (hsel.1 h)), hd, ← hx, ← hy, ← Hcc.out]; omega
     have hw4 : IntKind.u64.wrap (d : Int) = (d : Int) := by rw [IntKind.wrap_u64]; omega
     have hw5 : (d : Int) % 4294967296 = (d : Int) := by omega
     have hdl : d ≤ 4294967295 := by omega
     clear hx hy hs hd hsel hcs hnl hcs2 hml
     go_wp2_with (at_builtin; refine wpList_append_own _ rfl (.tmp 38) (.tmp 43) 34 rfl w.heap.size 118 i0 (.int .u32 0) 1 4 Tryz.underlying34 hi hz0 hz1 hz2 rfl (by decide) _ _ _ rfl (Hown.out _) ⟨wr.heap.size, 0, none⟩ 1 1 [.int .u32 (d : Int)] rfl rfl (cell_one_own _ _ _) (by intro u hu; simp at hu; subst hu; rfl) (by unfold maxLen; omega) (by omega) (by simp; omega) ?_; intro v' w1 hown' hgrow _; obtain ⟨ho1, hb1, hs1⟩ := own_step Ho.out HL.out (by omega) hown' hgrow; have Ho1 := Lib.hid ho1; have Hb1 := Lib.hid hb1; clear hown' hgrow ho1 hb1)
     go_wp2
     go_roundw
     case rel => first | exact ⟨k + 1, by go_num, by rw [HC.out]; first | done | rfl, by omega, by rw [minL, ← HD.out]; exact Ho1.out, Below.trans HB.out Hb1.out⟩ | ((repeat apply Exists.intro); exact ⟨⟨k + 1, by go_num, by rw [HC.out]; first | done | rfl, by omega, by rw [minL, ← HD.out]; exact Ho1.out, Below.trans HB.out Hb1.out⟩, rfl⟩)
     case measure => simp [intOf]; omega
   ·have hnl := Hn.out
    obtain ⟨b, off, rfl, hb, hcs⟩ := Hc.out (by omega)
    have hx1 := (Below.cell HB.out (p := ⟨b, off + k, none⟩) hb).trans (hcs k (by omega))
    have hg1 : (k : Int) < (n : Int) := by omega
    have hg2 : ¬ (k : Int) < (m : Int) := by omega
    obtain ⟨x, hx⟩ : ∃ x, x = xs[k]?.getD 0 := ⟨_, rfl⟩
    obtain ⟨y, hy⟩ : ∃ y, y = ys[k]?.getD 0 := ⟨_, rfl⟩
    have hxB := Hdx.out.getD k
    have hyB := Hdy.out.getD k
    rw [← hx] at hx1 hxB
    rw [← hy] at hyB
    have hy0 : y = 0 := by rw [hy]; exact getD_of_ge (by have := Hm.out; omega)
    obtain ⟨s, hs⟩ : ∃ s : Nat, s = c + y := ⟨_, rfl⟩
    have hsel : xs[k]?.getD 0 < minC xs ys k + ys[k]?.getD 0 ↔ x < s := by rw [← hx, ← hy, ← Hcc.out, hs]
    unfold B32 at hxB hyB
    by_cases hb3 : x < s
    ·obtain rfl : s = c := by omega
     obtain ⟨d, hd⟩ : ∃ d : Nat, d = x + 4294967296 - s := ⟨_, rfl⟩
     have hlt : (x : Int) < (s : Int) := by omega
     have hw2 : IntKind.u64.wrap ((x : Int) + 4294967296) = (x : Int) + 4294967296 := by rw [IntKind.wrap_u64]; omega
     have hw3 : (x : Int) + 4294967296 - (s : Int) = (d : Int) := by omega
     have HC : Hid (minC xs ys (k + 1) = 1) := by show _ = 1; rw [minC, if_pos (hsel.2 hb3)]
     have HD : Hid (d = minD xs ys k) := by show d = _; rw [minD, if_pos (hsel.2 hb3), hd, ← hx, ← hy, ← Hcc.out]; unfold B32; omega
     have hw4 : IntKind.u64.wrap (d : Int) = (d : Int) := by rw [IntKind.wrap_u64]; omega
     have hw5 : (d : Int) % 4294967296 = (d : Int) := by omega
     have hdl : d ≤ 4294967295 := by omega
     clear hx hy hs hd hsel hcs hnl hy0
     go_wp2_with (at_builtin; refine wpList_append_own _ rfl (.tmp 38) (.tmp 43) 34 rfl w.heap.size 118 i0 (.int .u32 0) 1 4 Tryz.underlying34 hi hz0 hz1 hz2 rfl (by decide) _ _ _ rfl (Hown.out _) ⟨wr.heap.size, 0, none⟩ 1 1 [.int .u32 (d : Int)] rfl rfl (cell_one_own _ _ _) (by intro u hu; simp at hu; subst hu; rfl) (by unfold maxLen; omega) (by omega) (by simp; omega) ?_; intro v' w1 hown' hgrow _; obtain ⟨ho1, hb1, hs1⟩ := own_step Ho.out HL.out (by omega) hown' hgrow; have Ho1 := Lib.hid ho1; have Hb1 := Lib.hid hb1; clear hown' hgrow ho1 hb1)
     go_wp2
     go_roundw
     case rel => first | exact ⟨k + 1, by go_num, by rw [HC.out]; first | done | rfl, by omega, by rw [minL, ← HD.out]; exact Ho1.out, Below.trans HB.out Hb1.out⟩ | ((repeat apply Exists.intro); exact ⟨⟨k + 1, by go_num, by rw [HC.out]; first | done | rfl, by omega, by rw [minL, ← HD.out]; exact Ho1.out, Below.trans HB.out Hb1.out⟩, rfl⟩)
     case measure => simp [intOf]; omega
    ·obtain rfl : s = c := by omega
     obtain ⟨d, hd⟩ : ∃ d : Nat, d = x - s := ⟨_, rfl⟩
     have hlt : ¬ (x : Int) < (s : Int) := by omega
     have hw3 : (x : Int) - (s : Int) = (d : Int) := by omega
     have HC : Hid (minC xs ys (k + 1) = 0) := by show _ = 0; rw [minC, if_neg (fun h => hb3 (hsel.1 h))]
     have HD : Hid (d = minD xs ys k) := by show d = _; rw [minD, if_neg (fun h => hb3 (hsel.1 h)), hd, ← hx, ← hy, ← Hcc.out]; omega
     have hw4 : IntKind.u64.wrap (d : Int) = (d : Int) := by rw [IntKind.wrap_u64]; omega
     have hw5 : (d : Int) % 4294967296 = (d : Int) := by omega
     have hdl : d ≤ 4294967295 := by omega
     clear hx hy hs hd hsel hcs hnl hy0
     go_wp2_with (at_builtin; refine wpList_append_own _ rfl (.tmp 38) (.tmp 43) 34 rfl w.heap.size 118 i0 (.int .u32 0) 1 4 Tryz.underlying34 hi hz0 hz1 hz2 rfl (by decide) _ _ _ rfl (Hown.out _) ⟨wr.heap.size, 0, none⟩ 1 1 [.int .u32 (d : Int)] rfl rfl (cell_one_own _ _ _) (by intro u hu; simp at hu; subst hu; rfl) (by unfold maxLen; omega) (by omega) (by simp; omega) ?_; intro v' w1 hown' hgrow _; obtain ⟨ho1, hb1, hs1⟩ := own_step Ho.out HL.out (by omega) hown' hgrow; have Ho1 := Lib.hid ho1; have Hb1 := Lib.hid hb1; clear hown' hgrow ho1 hb1)
     go_wp2
     go_roundw
     case rel => first | exact ⟨k + 1, by go_num, by rw [HC.out]; first | done | rfl, by omega, by rw [minL, ← HD.out]; exact Ho1.out, Below.trans HB.out Hb1.out⟩ | ((repeat apply Exists.intro); exact ⟨⟨k + 1, by go_num, by rw [HC.out]; first | done | rfl, by omega, by rw [minL, ← HD.out]; exact Ho1.out, Below.trans HB.out Hb1.out⟩, rfl⟩)
     case measure => simp [intOf]; omega
  ·obtain rfl : k = n := by omega
   have hg1 : ¬ (k : Int) < (k : Int) := by omega
   have hdone : val (minL xs ys k) = val xs - val ys := by have h := Hdone.out; rw [← Hn.out] at h; exact h
   have hu := Ho.out.u32s (by rw [HL.out]; unfold maxLen; omega)
   have HT := Lib.hid (trim_digs HL.out hu (.inr hcv) (minL_digits Hdx.out Hdy.out k))
   have Hdone2 := Lib.hid hdone
   have Ho2 : Hid (Owns wr w.heap.size (.slice pv k cv) _) := Ho.out
   clear hdone hu
   go_wp2_with fail
   refine HT.out.mono ?_
   rintro e w2 ⟨k2, rfl, -, -, hu2, hx2⟩
   have Hu2 := Lib.hid hu2
   have Hx2 := Lib.hid hx2
   clear hu2 hx2
   go_wp2
   go_ret
   exact ⟨_, rfl, by rw [← Hdone2.out]; exact Hu2.out, HB.out.trans Hx2.out, (Owns.newS Ho2.out).cut⟩
end Go.Proofs.YtgnogdncoljldaaGreat
namespace Go.Proofs.YtgnogdncoljldaaGreat
open Go Go.RowKit Go.Shelf
@[irreducible] def H31 : Nat := 2147483648
theorem H31_eq : H31 = 2147483648 := by unfold H31; rfl
def halfs : List Nat → List Nat
 | [] => []
 | d :: ds => (d / 2 + ds[0]?.getD 0 % 2 * H31) :: halfs ds
theorem halfs_length (xs : List Nat) : (halfs xs).length = xs.length := by
 induction xs with
 | nil => rfl
 | cons d ds ih => rw [halfs, List.length_cons, List.length_cons, ih]
theorem halfs_get (xs : List Nat) : ∀ k, k < xs.length → (halfs xs)[k]?.getD 0 = xs[k]?.getD 0 / 2 + xs[k + 1]?.getD 0 % 2 * H31 := by
 induction xs with
 | nil => intro k h; exact absurd h (by simp)
 | cons d ds ih =>
   intro k h
   cases k with
   | zero => rw [halfs, List.getElem?_cons_zero, List.getElem?_cons_zero, List.getElem?_cons_succ, Option.getD_some, Option.getD_some]
   | succ k =>
     rw [halfs, List.getElem?_cons_succ, List.getElem?_cons_succ, List.getElem?_cons_succ]
     exact ih k (by simpa using h)
theorem halfs_digits : ∀ {xs : List Nat}, Digits xs → Digits (halfs xs)
 | [], _ => Digits.nil
 | d :: ds, h => by
   rw [Digits.cons] at h
   have := halfs_digits h.2
   rw [halfs, Digits.cons]
   refine ⟨?_, this⟩
   have h1 := h.1
   rw [H31_eq]
   unfold B32 at h1 ⊢
   omega
theorem val_mod2 (xs : List Nat) : val xs % 2 = xs[0]?.getD 0 % 2 := by
 cases xs with
 | nil => rfl
 | cons d ds => rw [val_cons]; simp only [List.getElem?_cons_zero, Option.getD_some]; unfold B32; omega
theorem halfs_val : ∀ (xs : List Nat), val (halfs xs) = val xs / 2
 | [] => rfl
 | d :: ds => by
   have ih := halfs_val ds
   have h2 := val_mod2 ds
   rw [halfs, val_cons, val_cons, ih, ← h2, H31_eq]
   unfold B32
   omega
def halfTo (xs : List Nat) (k : Nat) : List Nat := (halfs xs).take k ++ xs.drop k
theorem halfTo_length {xs : List Nat} {k : Nat} (h : k ≤ xs.length) : (halfTo xs k).length = xs.length := by
 unfold halfTo; rw [List.length_append, List.length_take, List.length_drop, halfs_length]; omega
theorem halfTo_get {xs : List Nat} {k : Nat} (h : k < xs.length) : (halfTo xs k)[k]?.getD 0 = xs[k]?.getD 0 := by
 unfold halfTo
 rw [List.getElem?_append_right (by rw [List.length_take, halfs_length]; omega), List.length_take, halfs_length, List.getElem?_drop]
 congr 2
 omega
theorem halfTo_set {xs : List Nat} {k : Nat} (h : k < xs.length) : (halfTo xs k).set k ((halfs xs)[k]?.getD 0) = halfTo xs (k + 1) := by
 unfold halfTo
 have hl : ((halfs xs).take k).length = k := by rw [List.length_take, halfs_length]; omega
 rw [List.set_append_right _ _ (by omega), hl, Nat.sub_self, List.drop_eq_getElem_cons h, List.set_cons_zero, List.take_add_one, List.append_assoc]
 congr 1
 rw [List.getElem?_eq_getElem (by rw [halfs_length]; exact h)]
 rfl
theorem halfTo_all (xs : List Nat) : halfTo xs xs.length = halfs xs := by
 unfold halfTo; rw [List.drop_eq_nil_of_le (Nat.le_refl _), List.append_nil, List.take_of_length_le (by rw [halfs_length]; exact Nat.le_refl _)]
theorem halfTo_zero (xs : List Nat) : halfTo xs 0 = xs := by simp [halfTo]
theorem owns_stored {w : World} {base g n cap : Nat} {ds : List Nat} (h : w.ownsRow base 118 1 (.slice (some ⟨g, 0, none⟩) n cap) n (u32l ds)) (j d : Nat) : (w.setCell ⟨g, j, none⟩ (.int .u32 (d : Int))).ownsRow base 118 1 (.slice (some ⟨g, 0, none⟩) n cap) n (u32l (ds.set j d)) := by
 have h1 := (World.ownsRow.stored h j (.int .u32 (d : Int))).1
 have e : (u32l ds).set j (.int .u32 (d : Int)) = u32l (ds.set j d) := by simp [u32l, List.map_set]
 rwa [e] at h1
theorem owns_cell {w : World} {base g n cap : Nat} {ds : List Nat} (h : w.ownsRow base 118 1 (.slice (some ⟨g, 0, none⟩) n cap) n (u32l ds)) {j : Nat} (hj : j < n) : w.cell? ⟨g, j, none⟩ = some (.int .u32 ((ds[j]?.getD 0 : Nat) : Int)) := by
 have hl : ds.length = n := by have := h.1; rw [u32l_length] at this; omega
 rw [World.ownsRow.cellAt h j (by omega), u32l_get (by omega)]
theorem made_own2 {w1 w2 : World} {o : Obj} {n : Nat} {ds : List Nat} {news : List Value} {v' : Value} (hn : news.length = n) (hn0 : 0 < n) (hnews : news = u32l ds)
  (h : w2.ownsRow w1.heap.size 118 1 v' (0 + n) ([] ++ news)) (hg : (w1.alloc o).grownBy w2 (some w1.heap.size)) :
  ∃ g c, v' = .slice (some ⟨g, 0, none⟩) n c ∧ w1.heap.size ≤ g ∧ n ≤ c ∧ w2.ownsRow w1.heap.size 118 1 (.slice (some ⟨g, 0, none⟩) n c) n (u32l ds) ∧ Ext w1 w2 := by
 subst hnews
 rw [Nat.zero_add, List.nil_append] at h
 have hx := ext_grown hg
 obtain ⟨hl, ⟨-, h0⟩ | ⟨g, cap, cur, rfl, hb, hrest⟩⟩ := id h
 ·omega
 ·exact ⟨g, cap, rfl, hb, hrest.2.1, h, hx⟩
set_option maxRecDepth 100000 in
set_option maxHeartbeats 8000000 in
theorem half_calls (v : Value) (xs : List Nat) (w : World) (hx : U32s w.heap.size w v xs) (hdx : Digits xs) (hb0 : 0 < xs.length) (hbx : xs.length ≤ 1099511627776) :
  Calls Tryz.prog 174 #[v] w fun e w' => ∃ r, e = .returned r ∧ U32s w'.heap.size w' r (digs (val xs / 2)) ∧ Ext w w' ∧ NewS w.heap.size r := by
 obtain ⟨p, cap, rfl, hl, hc⟩ := hx
 obtain ⟨b, off, rfl, hb, hcs⟩ := hc hb0
 obtain ⟨n, hn⟩ : ∃ n, n = xs.length := ⟨_, rfl⟩
 rw [← hn] at hb0 hbx ⊢
 have Hn := Lib.hid hn
 have Hcs := Lib.hid hcs
 have Hdx := Lib.hid hdx
 have Hdone : Hid (val (halfTo xs n) = val xs / 2) := by rw [hn, halfTo_all]; exact halfs_val xs
 have Hdig : Hid (Digits (halfTo xs n)) := by rw [hn, halfTo_all]; exact halfs_digits hdx
 obtain ⟨i0, hi, hz0, hz1, hz2⟩ := info_parts info_u32
 have hnl : (u32l xs).length = n := by rw [u32l_length, hn]
 have Hc1 : Hid (∀ o (j : Nat) (u : Value), (u32l xs)[j]? = some u → (w.alloc o).cell? (Addr.add ⟨b, off, none⟩ j) = some u) := fun o j u hj => by
  have hj' : j < xs.length := by have := (List.getElem?_eq_some_iff.1 hj).1; rw [u32l_length] at this; exact this
  have e1 : (w.alloc o).cell? ⟨b, off + j, none⟩ = w.cell? ⟨b, off + j, none⟩ := (Ext.alloc w o).cell (p := ⟨b, off + j, none⟩) hb
  rw [show Addr.add ⟨b, off, none⟩ j = ⟨b, off + j, none⟩ by simp [Addr.add], e1, hcs j hj', ← hj, u32l_get hj']
 have Hown0 : Hid ((w.alloc (.cells #[] 118)).ownsRow w.heap.size 118 1 (.slice (some ⟨w.heap.size, 0, none⟩) 0 0) 0 []) := World.ownsRow_lit w #[] 0 (Nat.le_refl _) (by decide) rfl
 clear hcs hc hl hn hdx
 go_enter Tryz.func174, Tryz.ntmps174
 go_wp2_with (at_builtin; refine wpList_append_own _ rfl (.tmp 5) (.tmp 6) 34 rfl w.heap.size 118 i0 (.int .u32 0) 1 4 Tryz.underlying34 hi hz0 hz1 hz2 rfl (by decide) _ _ _ rfl Hown0.out ⟨b, off, none⟩ n cap (u32l xs) rfl (by rw [hnl, Nat.mul_one]) (Hc1.out _) (u32l_one _) (by unfold maxLen; omega) (by omega) (by simp) ?_; intro v' w2 hown' hgrow _; obtain ⟨g, c2, rfl, hge, hc2, ho2, hx2⟩ := made_own2 hnl hb0 rfl hown' hgrow; have Ho2 := Lib.hid ho2; have Hx2 := Lib.hid hx2; clear hown' hgrow ho2 hx2)
 go_wp2
 go_loopw [4] (fun i wr => ∃ k : Nat, i = .int .i64 (k : Int) ∧ k ≤ n ∧ wr.ownsRow w.heap.size 118 1 (.slice (some ⟨g, 0, none⟩) n c2) n (u32l (halfTo xs k)) ∧ Ext w wr) (fun i _ => n - (intOf i).toNat)
 case atStart => exact ⟨0, rfl, by omega, by rw [halfTo_zero]; exact Ho2.out, Hx2.out⟩
 case round =>
  obtain ⟨k, rfl, hk, ho, hB⟩ := hrel
  have Ho := Lib.hid ho
  have HB := Lib.hid hB
  by_cases h1 : k < n
  ·have hcg := owns_cell ho h1
   have hfg := World.ownsRow.frozenAt ho k
   rw [halfTo_get (by rw [← Hn.out]; exact h1)] at hcg
   obtain ⟨x, hx⟩ : ∃ x, x = xs[k]?.getD 0 := ⟨_, rfl⟩
   rw [← hx] at hcg
   have hxB := Hdx.out.getD k
   rw [← hx] at hxB
   unfold B32 at hxB
   have hgk : (k : Int) < (n : Int) := by omega
   have hshr : (x : Int).fdiv (2 ^ min (Int.toNat 1) IntKind.u32.bits) = ((x / 2 : Nat) : Int) := by
    rw [show min (Int.toNat 1) IntKind.u32.bits = 1 from rfl, show (2 : Int) ^ 1 = 2 from rfl, Int.fdiv_eq_ediv_of_nonneg _ (by decide)]
    omega
   have Hx := Lib.hid hx
   clear ho hB hx
   by_cases h2 : k + 1 < n
   ·have hg2 : (k : Int) + 1 < (n : Int) := by omega
    have hbl : k + 1 < xs.length := by rw [← Hn.out]; exact h2
    have hy1 := (Below.cell HB.out (p := ⟨b, off + (k + 1), none⟩) hb).trans (Hcs.out (k + 1) hbl)
    obtain ⟨y, hy⟩ : ∃ y, y = xs[k + 1]?.getD 0 := ⟨_, rfl⟩
    rw [← hy] at hy1
    have hyB := Hdx.out.getD (k + 1)
    rw [← hy] at hyB
    unfold B32 at hyB
    have Hy := Lib.hid hy
    have hown1 := owns_stored Ho.out k (x / 2)
    rw [show ((x / 2 : Nat) : Int) = (x : Int) / 2 by omega] at hown1
    obtain ⟨w1, hw1⟩ : ∃ w1, w1 = wr.setCell ⟨g, k, none⟩ (.int .u32 ((x : Int) / 2)) := ⟨_, rfl⟩
    rw [← hw1] at hown1
    have hc1 := owns_cell hown1 h1
    rw [List.getElem?_set_self (by rw [halfTo_length (by rw [← Hn.out]; omega), ← Hn.out]; exact h1), Option.getD_some, show ((x / 2 : Nat) : Int) = (x : Int) / 2 by omega] at hc1
    have hf1 := World.ownsRow.frozenAt hown1 k
    have hy2 : w1.cell? ⟨b, off + (k + 1), none⟩ = some (.int .u32 (y : Int)) := by
     rw [hw1, ← hy1]
     exact World.cell?_of_block (heap_setCell_other _ ⟨g, k, none⟩ b _ (by show b ≠ g; omega))
    have hx1 : Ext w w1 := by rw [hw1]; exact Below.setCell HB.out (p := ⟨g, k, none⟩) hge _
    have Hown1 := Lib.hid hown1
    have Hx1 := Lib.hid hx1
    have HW1 := Lib.hid hw1
    have hg3 : (k : Int) + 1 < (n : Int) := by omega
    clear hown1 hx1 hw1 hy hy1 hbl
    go_wp2
    rw [← HW1.out]
    clear hcg hfg
    have hc1' : w1.drew.cell? ⟨g, k, none⟩ = some (.int .u32 ((x : Int) / 2)) := hc1
    have hf1' : w1.drew.frozen? ⟨g, k, none⟩ = false := hf1
    have hy2' : w1.drew.cell? ⟨b, off + (k + 1), none⟩ = some (.int .u32 (y : Int)) := hy2
    have hwk : IntKind.i64.wrap ((k : Int) + 1) = (k : Int) + 1 := by rw [IntKind.wrap_i64]; omega
    have htk : ((k : Int) + 1).toNat = k + 1 := by omega
    have hk0 : (0 : Int) ≤ (k : Int) + 1 := by omega
    clear hc1 hf1 hy2
    obtain ⟨z, hz⟩ : ∃ z, z = x / 2 + y % 2 * H31 := ⟨_, rfl⟩
    have hor : bits .or .u32 ((x : Int) / 2) (IntKind.u32.wrap ((y : Int) * 2147483648)) = ((z : Nat) : Int) := by
     have h := back_or (b := 1) (d := x) (t := y % 2) (by decide) (by unfold B32; omega) (by omega)
     rw [show IntKind.u32.wrap ((y : Int) * 2147483648) = ((y % 2 * 2 ^ (32 - 1) : Nat) : Int) by rw [IntKind.wrap_u32]; omega]
     rw [show ((x : Int) / 2) = (x : Int) / 2 ^ 1 by rfl, h, hz, H31_eq]
    have hz2 : z = (halfs xs)[k]?.getD 0 := by rw [hz, halfs_get xs k (by rw [← Hn.out]; exact h1), ← Hx.out, ← Hy.out]
    have Hz2 := Lib.hid hz2
    clear hz hz2
    go_still_tail 13, (by kernel_rfl)
    change wpList _ _ _ _ _ w1.drew
    go_wp2
    go_roundw
    case rel =>
     refine ⟨k + 1, by go_num, by omega, ?_, ?_⟩
     ·have h := owns_stored (World.ownsRow.drew Hown1.out) k z
      rw [List.set_set, Hz2.out, halfTo_set (by rw [← Hn.out]; exact h1)] at h
      rw [Hz2.out]
      exact h
     ·exact Below.setCell (Below.drew Hx1.out) (p := ⟨g, k, none⟩) hge _
    case measure => simp [intOf]; omega
   ·have hg2 : ¬ (k : Int) + 1 < (n : Int) := by omega
    go_wp2
    go_roundw
    case rel =>
     refine ⟨k + 1, by go_num, by omega, ?_, Below.setCell HB.out (p := ⟨g, k, none⟩) hge _⟩
     have h := owns_stored Ho.out k (x / 2)
     have hz : x / 2 = (halfs xs)[k]?.getD 0 := by rw [halfs_get xs k (by rw [← Hn.out]; exact h1), ← Hx.out, getD_of_ge (k := k + 1) (by have := Hn.out; omega)]; simp
     rw [← halfTo_set (by rw [← Hn.out]; exact h1), ← hz]
     rw [show ((x / 2 : Nat) : Int) = (x : Int) / 2 by omega] at h
     exact h
    case measure => simp [intOf]; omega
  ·obtain rfl : k = n := by omega
   have hgk : ¬ (k : Int) < (k : Int) := by omega
   have HT := Lib.hid (trim_digs (by rw [halfTo_length (by rw [← Hn.out]; exact Nat.le_refl _), ← Hn.out]) (Owns.u32s (ds := halfTo xs k) (by unfold Owns; rw [halfTo_length (by rw [← Hn.out]; exact Nat.le_refl _), ← Hn.out]; exact ho) (by rw [halfTo_length (by rw [← Hn.out]; exact Nat.le_refl _), ← Hn.out]; unfold maxLen; omega)) (.inr hc2) Hdig.out)
   clear ho hB
   go_wp2_with fail
   refine HT.out.mono ?_
   rintro e w3 ⟨k2, rfl, -, -, hu3, hx3⟩
   have Hu3 := Lib.hid hu3
   have Hx3 := Lib.hid hx3
   clear hu3 hx3
   go_wp2
   go_ret
   exact ⟨_, rfl, by rw [← Hdone.out]; exact Hu3.out, HB.out.trans Hx3.out, fun b off m c e => by cases e; exact hge⟩
end Go.Proofs.YtgnogdncoljldaaGreat

