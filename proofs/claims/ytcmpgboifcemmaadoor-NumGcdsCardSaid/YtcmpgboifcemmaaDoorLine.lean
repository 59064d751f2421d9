/- What straight lines of calls lean on: contracts of num in one form. -/
import Derived.Test.YtcmpgboifcemmaaDoorRef1
import Derived.Test.YtcmpgboifcemmaaDoorNum13
import Derived.Test.YtcmpgboifcemmaaDoorNum12
import Derived.Test.YtcmpgboifcemmaaDoorNum11
set_option linter.all false
namespace Go.Proofs.YtcmpgboifcemmaaDoor
open Go Go.RowKit Go.Shelf

/-- A number and true are handed back. -/
def Gives (w : World) (z : Int) (neg : Bool) (e : Ending) (w' : World) : Prop :=
  ∃ p n c, e = .returned (.tuple #[.agg #[.bool neg, .slice p n c], .bool true]) ∧ ZNum w'.heap.size w' (.agg #[.bool neg, .slice p n c]) z ∧ Ext w w'
/-- A number is handed back. -/
def Gives1 (w : World) (z : Int) (neg : Bool) (e : Ending) (w' : World) : Prop :=
  ∃ p n c, e = .returned (.agg #[.bool neg, .slice p n c]) ∧ ZNum w'.heap.size w' (.agg #[.bool neg, .slice p n c]) z ∧ Ext w w'
section
variable {w w' : World} {va vb v : Value} {za zb z : Int} {neg : Bool}
theorem ZPost.gives {e : Ending} (h : ZPost w z e w') (hn : decide (z < 0) = neg) (hl : z.natAbs < B32 ^ 64) : Gives w z neg e w' := by
  subst hn
  obtain ⟨s, rfl, hu, hb⟩ := h
  unfold zneg zdigs zok at *
  rw [if_pos hl] at hu ⊢
  have hu' := hu
  obtain ⟨p, c, rfl, -, -⟩ := hu'
  exact ⟨p, _, c, by simp [hl], ⟨⟨_, rfl, hu.u32s⟩, hl⟩, hb⟩
theorem add_gives (ha : ZNum w.heap.size w va za) (hb : ZNum w.heap.size w vb zb) (hz : za + zb = z) (hn : decide (z < 0) = neg) (hl : z.natAbs < B32 ^ 64) : Calls Tryd.prog 20 #[va, vb] w (Gives w z neg) := by
  subst hz; exact (add_calls va vb za zb w ha hb).mono fun _ _ h => ZPost.gives h hn hl
theorem sub_gives (ha : ZNum w.heap.size w va za) (hb : ZNum w.heap.size w vb zb) (hz : za - zb = z) (hn : decide (z < 0) = neg) (hl : z.natAbs < B32 ^ 64) : Calls Tryd.prog 21 #[va, vb] w (Gives w z neg) := by
  subst hz; exact (sub_calls va vb za zb w ha hb).mono fun _ _ h => ZPost.gives h hn hl
theorem mul_gives (ha : ZNum w.heap.size w va za) (hb : ZNum w.heap.size w vb zb) (hz : za * zb = z) (hn : decide (z < 0) = neg) (hl : z.natAbs < B32 ^ 64) : Calls Tryd.prog 22 #[va, vb] w (Gives w z neg) := by
  subst hz; exact (mul_calls va vb za zb w ha hb).mono fun _ _ h => ZPost.gives h hn hl
theorem gcd_lim {a b : Nat} (ha : a < B32 ^ 64) (hb : b < B32 ^ 64) : Nat.gcd a b < B32 ^ 64 := by
  rcases Nat.eq_zero_or_pos b with e | e
  · subst e; rw [Nat.gcd_zero_right]; exact ha
  · exact Nat.lt_of_le_of_lt (Nat.le_of_dvd e (Nat.gcd_dvd_right a b)) hb
theorem gcd_gives (ha : ZNum w.heap.size w va za) (hb : ZNum w.heap.size w vb zb) (hz : ((Nat.gcd za.natAbs zb.natAbs : Nat) : Int) = z) : Calls Tryd.prog 13 #[va, vb] w (Gives w z false) := by
  subst hz; exact (gcd_calls va vb za zb w ha hb).mono fun _ _ h => ZPost.gives h (by simp) (by rw [Int.natAbs_natCast]; exact gcd_lim ha.2 hb.2)
theorem of_gives (z : Int) (h1 : -9223372036854775808 ≤ z) (h2 : z ≤ 9223372036854775807) (hn : decide (z < 0) = neg) (w : World) : Calls Tryd.prog 19 #[.int .i64 z] w (Gives1 w z neg) :=
  (of_calls z h1 h2 w).mono fun e w' h => by
    subst hn
    obtain ⟨s, rfl, hu, hb⟩ := h
    have hu' := hu
    obtain ⟨p, c, rfl, -, -⟩ := hu'
    exact ⟨p, _, c, rfl, ⟨⟨_, rfl, hu.u32s⟩, by have := pow64; omega⟩, hb⟩
theorem int_gives (hv : ZNum w.heap.size w v z) (h1 : -9223372036854775808 ≤ z) (h2 : z ≤ 9223372036854775807) : Calls Tryd.prog 18 #[v] w fun e w' => e = .returned (.tuple #[.int .i64 z, .bool true]) ∧ Ext w w' :=
  (int_calls v z w hv).mono fun e w' h => by
    unfold intRes at h
    rw [if_pos ⟨h1, h2⟩] at h
    exact h
theorem int_none (hv : ZNum w.heap.size w v z) (h : ¬ (-9223372036854775808 ≤ z ∧ z ≤ 9223372036854775807)) : Calls Tryd.prog 18 #[v] w fun e w' => e = .returned (.tuple #[.int .i64 0, .bool false]) ∧ Ext w w' :=
  (int_calls v z w hv).mono fun e w' h' => by
    unfold intRes at h'
    rw [if_neg h] at h'
    exact h'
end
/-- Two numbers and a bool are handed back. -/
def Gives2 (w : World) (q r : Int) (nq nr : Bool) (ok : Bool) (e : Ending) (w' : World) : Prop :=
  ∃ p n c p2 n2 c2, e = .returned (.tuple #[.agg #[.bool nq, .slice p n c], .agg #[.bool nr, .slice p2 n2 c2], .bool ok]) ∧ ZNum w'.heap.size w' (.agg #[.bool nq, .slice p n c]) q ∧ ZNum w'.heap.size w' (.agg #[.bool nr, .slice p2 n2 c2]) r ∧ Ext w w'
theorem DivPost.gives {w w' : World} {q r : Int} {ok nq nr : Bool} {e : Ending} (h : DivPost w q r ok e w') (hnq : decide (q < 0) = nq) (hnr : decide (r < 0) = nr) (h1 : q.natAbs < B32 ^ 64) (h2 : r.natAbs < B32 ^ 64) : Gives2 w q r nq nr ok e w' := by
  subst hnq hnr
  obtain ⟨s, t, rfl, hs, ht, hb⟩ := h
  have hs' := hs
  have ht' := ht
  obtain ⟨p, c, rfl, -, -⟩ := hs'
  obtain ⟨p2, c2, rfl, -, -⟩ := ht'
  exact ⟨p, _, c, p2, _, c2, rfl, ⟨⟨_, rfl, hs.u32s⟩, h1⟩, ⟨⟨_, rfl, ht.u32s⟩, h2⟩, hb⟩
theorem div_gives {va vb : Value} {za zb q r : Int} {nq nr : Bool} {w : World} (ha : ZNum w.heap.size w va za) (hb : ZNum w.heap.size w vb zb) (h : 0 < zb) (hq : za / zb = q) (hr : za % zb = r) (hnq : decide (q < 0) = nq) (hnr : decide (r < 0) = nr) : Calls Tryd.prog 11 #[va, vb] w (Gives2 w q r nq nr true) := by
  subst hq hr
  exact (div_ok va vb za zb w ha hb h).mono fun _ _ h' => DivPost.gives h' hnq hnr (div_lim ha.2 hb.2 h).1 (div_lim ha.2 hb.2 h).2.1
theorem div_none {va vb : Value} {za zb : Int} {w : World} (ha : ZNum w.heap.size w va za) (hb : ZNum w.heap.size w vb zb) (h : zb ≤ 0) : Calls Tryd.prog 11 #[va, vb] w (Gives2 w 0 0 false false false) :=
  (div_fails va vb za zb w ha hb h).mono fun _ _ h' => DivPost.gives h' rfl rfl (Nat.pow_pos B32_pos) (Nat.pow_pos B32_pos)
theorem is_lit {va s : Value} {neg : Bool} {z : Int} {ds : List Nat} {w : World} (ha : ZNum w.heap.size w va z) (hs : U32s w.heap.size w s ds) (hd : digs z.natAbs = ds) (hneg : neg = decide (z < 0)) :
    Calls Tryd.prog 25 #[va, .bool true, .bool neg, s] w fun e w' => e = .returned (.bool true) ∧ Ext w w' := is_calls va s neg z w ha (by rw [hd]; exact hs) hneg

/-- Digits that are written out. -/
theorem u32s_arr {B : Nat} {w : World} {g cap : Nat} {t : TypeId} {xs : List Nat} (hg : RowAt w g t (arr xs)) (hB : g < B) (hm : xs.length ≤ maxLen) : U32s B w (.slice (some ⟨g, 0, none⟩) xs.length cap) xs := by
  have := u32s_row (L := xs.length) (cap := cap) hg hB (Nat.le_refl _) hm
  rwa [List.take_of_length_le (Nat.le_refl _)] at this
theorem digs_lit {ds : List Nat} {n : Nat} (h1 : ∀ d ∈ ds, d < B32) (h2 : strip ds = ds) (h3 : val ds = n) : digs n = ds := by
  rw [← h3]; exact digs_val ⟨h1, h2⟩
theorem znum_lit {B : Nat} {w : World} {s : Value} {neg : Bool} {z : Int} {ds : List Nat} (hu : U32s B w s ds) (hd : digs z.natAbs = ds) (hneg : neg = decide (z < 0)) (hl : z.natAbs < B32 ^ 64) : ZNum B w (.agg #[.bool neg, s]) z := by
  subst hneg
  exact ⟨⟨s, rfl, by rw [hd]; exact hu⟩, hl⟩
theorem lim64 {n : Nat} (h : n < 79228162514264337593543950336) : n < B32 ^ 64 := Nat.lt_of_lt_of_le h (by
  have : B32 ^ 3 ≤ B32 ^ 64 := Nat.pow_le_pow_right B32_pos (by decide)
  have e : B32 ^ 3 = 79228162514264337593543950336 := by decide
  omega)

end Go.Proofs.YtcmpgboifcemmaaDoor
