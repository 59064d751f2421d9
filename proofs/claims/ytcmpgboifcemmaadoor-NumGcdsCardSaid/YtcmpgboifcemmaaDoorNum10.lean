/- Layer 1: Add, Sub, at numbers that are right. -/
import Derived.Test.YtcmpgboifcemmaaDoorNumMath2
import Derived.Test.YtcmpgboifcemmaaDoorNum9
import Derived.Test.YtcmpgboifcemmaaDoorNum4
set_option linter.all false
namespace Go.Proofs.YtcmpgboifcemmaaDoor
open Go Go.RowKit Go.Shelf

/-- The value v is the right number that stands for z. -/
def ZNum (B : Nat) (w : World) (v : Value) (z : Int) : Prop := NumV B w v (decide (z < 0)) (digs z.natAbs) ∧ z.natAbs < B32 ^ 64
theorem ZNum.below {B : Nat} {w w' : World} {v : Value} {z : Int} (h : ZNum B w v z) (hb : Below B w w') : ZNum B w' v z := ⟨h.1.below hb, h.2⟩
theorem ZNum.mono {B B' : Nat} {w : World} {v : Value} {z : Int} (h : ZNum B w v z) (hb : B ≤ B') : ZNum B' w v z := ⟨h.1.mono hb, h.2⟩
/-- The right number that stands for z is handed back, and true; the zero value and false, if it would have too many digits. -/
def ZPost (w : World) (z : Int) (e : Ending) (w' : World) : Prop := NumPost w (zneg z) (zdigs z) (zok z) e w'

theorem digs_len64 {n : Nat} (h : n < B32 ^ 64) : (digs n).length ≤ 64 := digs_len.2 h

theorem right_z {n : Nat} (neg : Bool) (h : n < B32 ^ 64) (hn : n = 0 → neg = false) : rightB neg (digs n) = true := by
  unfold rightB
  by_cases h0 : n = 0
  · subst h0; simp [digs_zero, hn rfl]
  · have hne : digs n ≠ [] := by rw [Ne, digs_nil_iff]; exact h0
    have hl : 0 < (digs n).length := List.length_pos_iff.2 hne
    rw [if_neg (by omega)]
    have := (noZero_last hl).1 (norm_digs n).2
    simp [digs_len64 h, this]

theorem signedSum_z (va vb : Value) (za zb : Int) (neg : Bool) (zz : Int) (w : World) (ha : ZNum w.heap.size w va za) (hb : ZNum w.heap.size w vb zb)
    (hz : zz.natAbs = zb.natAbs) (hs : zb ≠ 0 → neg = decide (zz < 0)) :
    Calls Tryd.prog 45 #[va, vb, .bool neg] w (ZPost w (za + zz)) := by
  obtain ⟨ha1, ha2⟩ := ha
  obtain ⟨hb1, hb2⟩ := hb
  have hx := digs_len64 ha2
  have hy := digs_len64 hb2
  by_cases hn : decide (za < 0) = neg
  · have hc := signedSum_same va vb (decide (za < 0)) _ _ _ w ha1 hb1 (digs_digits _) (digs_digits _) hx hy
    rw [strip_digs ((sum_digits (digs_digits _) (digs_digits _)).take _), sum_val _ _ hx hy, val_digs, val_digs] at hc
    subst hn
    have hr := res_of (decide (za < 0)) (za.natAbs + zb.natAbs) (za + zz) (by
        by_cases h0 : zb = 0
        · subst h0; omega
        · have := hs h0
          by_cases h1 : za < 0 <;> simp [h1] at this <;> omega) (fun h => by
        by_cases h0 : zb = 0
        · subst h0; have : zz = 0 := by omega
          subst this; simp
        · have := hs h0
          by_cases h1 : za < 0 <;> simp [h1] at this ⊢ <;> omega)
    rw [hr.1, hr.2.1, hr.2.2] at hc
    exact hc
  · have hcm : cmpL (digs za.natAbs) (digs zb.natAbs) = sgn za.natAbs zb.natAbs := by rw [cmpL_norm (norm_digs _) (norm_digs _), val_digs, val_digs]
    by_cases hlt : za.natAbs < zb.natAbs
    · have hc := signedSum_less va vb _ _ neg hn _ _ w ha1 hb1 (digs_digits _) (digs_digits _) hx hy (by rw [hcm, sgn_neg_iff]; exact hlt)
      rw [strip_digs ((dif_digits _ _).take _), dif_val (digs_digits _) (digs_digits _) (len_le_of_val (norm_digs _) (norm_digs _) (by rw [val_digs, val_digs]; omega)) hy (by rw [val_digs, val_digs]; omega), val_digs, val_digs] at hc
      have h0 : zb ≠ 0 := by omega
      have hsn := hs h0
      subst hsn
      have hr := res_of (decide (zz < 0)) (zb.natAbs - za.natAbs) (za + zz) (by
        by_cases h1 : za < 0 <;> by_cases h2 : zz < 0 <;> simp [h1, h2] at hn <;> omega) (fun h => by
        by_cases h1 : za < 0 <;> by_cases h2 : zz < 0 <;> simp [h1, h2] at hn ⊢ <;> omega)
      rw [hr.1, hr.2.1, hr.2.2] at hc
      exact hc
    · have hc := signedSum_more va vb _ _ neg hn _ _ w ha1 hb1 (digs_digits _) (digs_digits _) hx hy (by rw [hcm, sgn_neg_iff]; exact hlt)
      rw [strip_digs ((dif_digits _ _).take _), dif_val (digs_digits _) (digs_digits _) (len_le_of_val (norm_digs _) (norm_digs _) (by rw [val_digs, val_digs]; omega)) hx (by rw [val_digs, val_digs]; omega), val_digs, val_digs] at hc
      have hr := res_of (decide (za < 0)) (za.natAbs - zb.natAbs) (za + zz) (by
        by_cases h0 : zb = 0
        · subst h0; omega
        · have hsn := hs h0
          subst hsn
          by_cases h1 : za < 0 <;> by_cases h2 : zz < 0 <;> simp [h1, h2] at hn <;> omega) (fun h => by
        by_cases h0 : zb = 0
        · subst h0; have : zz = 0 := by omega
          subst this; simp
        · have hsn := hs h0
          subst hsn
          by_cases h1 : za < 0 <;> by_cases h2 : zz < 0 <;> simp [h1, h2] at hn ⊢ <;> omega)
      rw [hr.1, hr.2.1, hr.2.2] at hc
      exact hc

theorem right_calls_z (v : Value) (z : Int) (w : World) (h : ZNum w.heap.size w v z) :
    Calls Tryd.prog 24 #[v] w fun e w' => e = .returned (.bool true) ∧ Below w.heap.size w w' := by
  obtain ⟨⟨s, rfl, hu⟩, hz⟩ := h
  have := right_calls (decide (z < 0)) s _ w hu
  rwa [right_z _ hz (fun h0 => by simp; omega)] at this

end Go.Proofs.YtcmpgboifcemmaaDoor
