/- Layer 1: takeOut, what it comes to. -/
import Derived.Test.YtcmpgboifcemmaaDoorNum17
import Derived.Test.YtcmpgboifcemmaaDoorNum18
set_option linter.all false
namespace Go.Proofs.YtcmpgboifcemmaaDoor
open Go Go.RowKit Go.Shelf

theorem guess_big {o m1 : Nat} {Y R : List Nat} (hdR : Digits R) (hY : Y.length = m1 + 1) (hdY : Digits Y) (htop : Y[m1]?.getD 0 ≠ 0) (hR : o + Y.length < R.length) (hz : ∀ j, o + Y.length < j → R[j]?.getD 0 = 0)
    (hlt : val (R.drop o) < B32 * val Y) (hvY : 0 < val Y) : val (R.drop o) / val Y ≤ guess0 o Y R m1 := by
  have hq := Nat.div_mul_le_self (val (R.drop o)) (val Y)
  have hqB : val (R.drop o) / val Y < B32 := by rw [Nat.div_lt_iff_lt_mul hvY]; exact hlt
  have hV : Y[m1]?.getD 0 * B32 ^ m1 ≤ val Y := by
    have h1 := val_take_drop Y (s := m1) (by omega)
    have h2 := val_drop (ds := Y) (s := m1) (by omega)
    rw [List.drop_eq_nil_of_le (by omega : Y.length ≤ m1 + 1)] at h2
    rw [h2] at h1
    have e : Y[m1]?.getD 0 * B32 ^ m1 = B32 ^ m1 * Y[m1]?.getD 0 := Nat.mul_comm _ _
    rw [e, h1]
    simp only [val, Nat.mul_zero, Nat.add_zero]
    omega
  have hT : val (R.drop o) < (R[o + m1]?.getD 0 + B32 * R[o + m1 + 1]?.getD 0 + 1) * B32 ^ m1 := by
    have h1 := val_take_drop (R.drop o) (s := m1) (by simp; omega)
    have h2 := val_lt ((hdR.drop o).take m1)
    rw [List.length_take, List.length_drop, show min m1 (R.length - o) = m1 by omega] at h2
    have h3 : val ((R.drop o).drop m1) = R[o + m1]?.getD 0 + B32 * R[o + m1 + 1]?.getD 0 := by
      rw [List.drop_drop, val_drop (ds := R) (s := o + m1) (by omega), val_drop (ds := R) (s := o + m1 + 1) (by omega)]
      have h4 : val (R.drop (o + m1 + 1 + 1)) = 0 := val_zero_of_all fun d hd => by
        obtain ⟨i, hi, rfl⟩ := List.getElem_of_mem hd
        have hi' : o + m1 + 1 + 1 + i < R.length := by simp at hi; omega
        have := hz (o + m1 + 1 + 1 + i) (by omega)
        simpa [hi'] using this
      rw [h4]; simp
    rw [h3] at h1
    rw [Nat.add_mul _ 1, Nat.one_mul, Nat.mul_comm _ (B32 ^ m1)]
    omega
  unfold guess0
  generalize R[o + m1]?.getD 0 + B32 * R[o + m1 + 1]?.getD 0 = top at *
  generalize Y[m1]?.getD 0 = yt at *
  generalize val (R.drop o) / val Y = q at *
  have h1 : q * yt ≤ top := by
    apply Nat.le_of_lt_succ
    apply Nat.lt_of_mul_lt_mul_right (a := B32 ^ m1)
    calc q * yt * B32 ^ m1 = q * (yt * B32 ^ m1) := Nat.mul_assoc _ _ _
      _ ≤ q * val Y := Nat.mul_le_mul_left _ hV
      _ ≤ val (R.drop o) := hq
      _ < (top + 1) * B32 ^ m1 := hT
  have h2 : q ≤ top / yt := by rw [Nat.le_div_iff_mul_le (by omega)]; exact h1
  unfold B32 at hqB
  omega

theorem val_pos_of_top {Y : List Nat} {j : Nat} (hj : j < Y.length) (h : Y[j]?.getD 0 ≠ 0) : 0 < val Y := by
  have h1 := val_take_drop Y (s := j) (by omega)
  have h2 := val_drop (ds := Y) (s := j) hj
  have h3 : 0 < B32 ^ j * val (Y.drop j) := Nat.mul_pos (Nat.pow_pos B32_pos) (by omega)
  omega

/-- takeOut: the digit of the quotient, and the rest in its place. -/
theorem takeOut_calls (bx o cx by_ oy cy m1 : Nat) (t : TypeId) (Y R : List Nat) (w : World) (hrow : RowAt w bx t (arr R)) (hdR : Digits R) (hdY : Digits Y) (hY : Y.length = m1 + 1) (hR : R.length = 65) (ho : o + m1 + 1 < 65)
    (hcx : m1 + 2 ≤ cx) (hcx2 : cx ≤ 65) (hby : by_ < w.heap.size) (hne : by_ ≠ bx) (hcy : ∀ j, j < m1 + 1 → w.cell? ⟨by_, oy + j, none⟩ = some (.int .u32 ((Y[j]?.getD 0 : Nat) : Int))) (htop : Y[m1]?.getD 0 ≠ 0)
    (hz : ∀ j, o + Y.length < j → R[j]?.getD 0 = 0) (hlt : val (R.drop o) < B32 * val Y) :
    Calls Tryd.prog 51 #[.slice (some ⟨bx, o, none⟩) (m1 + 1 + 1) cx, .slice (some ⟨by_, oy, none⟩) (m1 + 1) cy] w fun e w' => e = .returned (.int .u32 (val (R.drop o) / val Y : Nat)) ∧
      (∃ Z, RowAt w' bx t (arr Z) ∧ Digits Z ∧ Z.length = 65 ∧ (∀ j, j < o ∨ o + Y.length < j → Z[j]? = R[j]?) ∧ val (Z.drop o) = val (R.drop o) % val Y) ∧ Keeps w.heap.size bx w w' := by
  have hvY := val_pos_of_top (Y := Y) (j := m1) (by omega) htop
  refine (takeOut_walk bx o cx by_ oy cy m1 t Y R w hrow hdR hdY hY hR ho hcx hcx2 hby hne hcy htop hvY hz (guess_big hdR hY hdY htop (by omega) hz hlt hvY)).mono ?_
  rintro e w' ⟨g, Z, rfl, hout, hr, hk⟩
  obtain ⟨h1, h2⟩ := hout.done hvY (by omega) hz
  exact ⟨by rw [h1], ⟨Z, hr, hout.digits, hout.len.trans hR, hout.same, h2⟩, hk⟩

end Go.Proofs.YtcmpgboifcemmaaDoor
