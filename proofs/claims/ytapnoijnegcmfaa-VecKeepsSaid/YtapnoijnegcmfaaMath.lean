/- Motions: what composing and inverting do, by quarters. -/
import Derived.Test.YtapnoijnegcmfaaSan
set_option linter.all false
namespace Go.Proofs.Ytapnoijnegcmfaa
open Go Go.RowKit Go.Shelf

theorem four (t : Int) : t % 4 = 0 ∨ t % 4 = 1 ∨ t % 4 = 2 ∨ t % 4 = 3 := by omega
theorem w_in {a : Int} (h1 : -9223372036854775808 ≤ a) (h2 : a ≤ 9223372036854775807) : wrap64 a = a := by unfold wrap64; omega
theorem w_eq {a b : Int} (h : a = b) : wrap64 a = wrap64 b := by rw [h]
theorem w_negl (a b : Int) : wrap64 (-wrap64 a + b) = wrap64 (-a + b) := by unfold wrap64; omega
theorem w_subr (a b : Int) : wrap64 (a - wrap64 b) = wrap64 (a - b) := by unfold wrap64; omega
theorem coT4 (t : Int) (m : Bool) (u : Int) : coT t m u % 4 = (t + if m then -u else u) % 4 := by unfold coT; omega
theorem inT4 (t : Int) (m : Bool) : inT t m % 4 = if m then t % 4 else (-t) % 4 := by unfold inT; cases m <;> simp
/-- What a turned vector is, without wrapping. -/
def ruX (t : Int) (m : Bool) (x y : Int) : Int := if t % 4 = 1 then -y else if t % 4 = 2 then -(if m then -x else x) else if t % 4 = 3 then y else if m then -x else x
def ruY (t : Int) (m : Bool) (x y : Int) : Int := if t % 4 = 1 then (if m then -x else x) else if t % 4 = 2 then -y else if t % 4 = 3 then -(if m then -x else x) else y
theorem apX_ru (a t : Int) (m : Bool) (x y : Int) : apX a t m x y = wrap64 (ruX t m x y + a) := by
  unfold apX tuX miX ruX
  rcases four t with h | h | h | h <;> cases m <;> simp [h, w_addl, w_neg, w_negl]
theorem apY_ru (a t : Int) (m : Bool) (x y : Int) : apY a t m x y = wrap64 (ruY t m x y + a) := by
  unfold apY tuY miX ruY
  rcases four t with h | h | h | h <;> cases m <;> simp [h, w_addl, w_neg, w_negl]
theorem ruX_w (t : Int) (m : Bool) (x y c : Int) : wrap64 (ruX t m (wrap64 x) (wrap64 y) + c) = wrap64 (ruX t m x y + c) := by
  unfold ruX
  rcases four t with h | h | h | h <;> cases m <;> simp [h, w_addl, w_negl]
theorem ruY_w (t : Int) (m : Bool) (x y c : Int) : wrap64 (ruY t m (wrap64 x) (wrap64 y) + c) = wrap64 (ruY t m x y + c) := by
  unfold ruY
  rcases four t with h | h | h | h <;> cases m <;> simp [h, w_addl, w_negl]
theorem comp_X (x y t : Int) (m : Bool) (c d u : Int) (k : Bool) (a b : Int) : apX (apX x t m c d) (coT t m u) (m != k) a b = apX x t m (apX c u k a b) (apY d u k a b) := by
  simp only [apX_ru, apY_ru, ruX_w]
  rw [w_addr]
  apply w_eq
  have hc := coT4 t m u
  unfold ruX ruY
  rcases four t with h | h | h | h <;> rcases four u with j | j | j | j <;> cases m <;> cases k <;> simp at hc <;> simp [h, j] <;> omega
theorem comp_Y (x y t : Int) (m : Bool) (c d u : Int) (k : Bool) (a b : Int) : apY (apY y t m c d) (coT t m u) (m != k) a b = apY y t m (apX c u k a b) (apY d u k a b) := by
  simp only [apX_ru, apY_ru, ruY_w]
  rw [w_addr]
  apply w_eq
  have hc := coT4 t m u
  unfold ruX ruY
  rcases four t with h | h | h | h <;> rcases four u with j | j | j | j <;> cases m <;> cases k <;> simp at hc <;> simp [h, j] <;> omega
theorem in_X0 (x y t : Int) (m : Bool) : inX x y t m = wrap64 (-(ruX (inT t m) m x y)) := by
  unfold inX
  rw [apX_ru, ruX_w]
  apply w_eq
  unfold ruX
  rcases four (inT t m) with h | h | h | h <;> cases m <;> simp [h]
theorem in_Y0 (x y t : Int) (m : Bool) : inY x y t m = wrap64 (-(ruY (inT t m) m x y)) := by
  unfold inY
  rw [apY_ru, ruY_w]
  apply w_eq
  unfold ruY
  rcases four (inT t m) with h | h | h | h <;> cases m <;> simp [h]
/-- An inverse motion behind its motion. -/
theorem undo_X (x y t : Int) (m : Bool) (a b : Int) : apX (inX x y t m) (inT t m) m (apX x t m a b) (apY y t m a b) = wrap64 a := by
  simp only [in_X0, apX_ru, apY_ru, ruX_w]
  rw [w_addr]
  apply w_eq
  have hc := inT4 t m
  unfold ruX ruY
  rcases four t with h | h | h | h <;> cases m <;> simp [h] at hc <;> simp [h] <;> omega
theorem undo_Y (x y t : Int) (m : Bool) (a b : Int) : apY (inY x y t m) (inT t m) m (apX x t m a b) (apY y t m a b) = wrap64 b := by
  simp only [in_Y0, apX_ru, apY_ru, ruY_w]
  rw [w_addr]
  apply w_eq
  have hc := inT4 t m
  unfold ruX ruY
  rcases four t with h | h | h | h <;> cases m <;> simp [h] at hc <;> simp [h] <;> omega
/-- A motion behind its inverse motion. -/
theorem redo_X (x y t : Int) (m : Bool) (a b : Int) : apX x t m (apX (inX x y t m) (inT t m) m a b) (apY (inY x y t m) (inT t m) m a b) = wrap64 a := by
  simp only [in_X0, in_Y0, apX_ru, apY_ru, ruX_w, w_addr]
  apply w_eq
  have hc := inT4 t m
  unfold ruX ruY
  rcases four t with h | h | h | h <;> cases m <;> simp [h] at hc <;> simp [h] <;> omega
theorem redo_Y (x y t : Int) (m : Bool) (a b : Int) : apY y t m (apX (inX x y t m) (inT t m) m a b) (apY (inY x y t m) (inT t m) m a b) = wrap64 b := by
  simp only [in_X0, in_Y0, apX_ru, apY_ru, ruY_w, w_addr]
  apply w_eq
  have hc := inT4 t m
  unfold ruX ruY
  rcases four t with h | h | h | h <;> cases m <;> simp [h] at hc <;> simp [h] <;> omega
theorem co_assoc (t : Int) (m : Bool) (u : Int) (k : Bool) (v : Int) : coT (coT t m u) (m != k) v = coT t m (coT u k v) := by
  unfold coT
  cases m <;> cases k <;> simp <;> omega
theorem ne_assoc (m k l : Bool) : ((m != k) != l) = (m != (k != l)) := by cases m <;> cases k <;> cases l <;> rfl
theorem inT_in (t : Int) (m : Bool) : inT (inT t m) m = coT t m 0 := by
  unfold inT coT
  cases m <;> simp <;> omega
theorem in_in_X (x y t : Int) (m : Bool) : inX (inX x y t m) (inY x y t m) (inT t m) m = apX x t m 0 0 := by
  have e := in_X0 (inX x y t m) (inY x y t m) (inT t m) m
  rw [e, in_X0, in_Y0, apX_ru]
  have h0 := ruX_w (inT (inT t m) m) m (-(ruX (inT t m) m x y)) (-(ruY (inT t m) m x y)) 0
  rw [Int.add_zero, Int.add_zero] at h0
  rw [show ∀ z : Int, wrap64 (-z) = wrap64 (-wrap64 z) from fun z => (w_neg z).symm, h0, w_neg]
  apply w_eq
  have hc := inT4 t m
  have hd := inT4 (inT t m) m
  unfold ruX ruY
  rcases four t with h | h | h | h <;> cases m <;> simp [h] at hc <;> simp [hc] at hd <;> simp [h, hc, hd] <;> omega
theorem in_in_Y (x y t : Int) (m : Bool) : inY (inX x y t m) (inY x y t m) (inT t m) m = apY y t m 0 0 := by
  have e := in_Y0 (inX x y t m) (inY x y t m) (inT t m) m
  rw [e, in_X0, in_Y0, apY_ru]
  have h0 := ruY_w (inT (inT t m) m) m (-(ruX (inT t m) m x y)) (-(ruY (inT t m) m x y)) 0
  rw [Int.add_zero, Int.add_zero] at h0
  rw [show ∀ z : Int, wrap64 (-z) = wrap64 (-wrap64 z) from fun z => (w_neg z).symm, h0, w_neg]
  apply w_eq
  have hc := inT4 t m
  have hd := inT4 (inT t m) m
  unfold ruX ruY
  rcases four t with h | h | h | h <;> cases m <;> simp [h] at hc <;> simp [hc] at hd <;> simp [h, hc, hd] <;> omega
theorem back_X (x y t : Int) (m : Bool) : apX (inX x y t m) (inT t m) m x y = 0 := by
  rw [in_X0, apX_ru, w_addr]
  rw [show ruX (inT t m) m x y + -ruX (inT t m) m x y = 0 by omega]; exact w_in (by omega) (by omega)
theorem back_Y (x y t : Int) (m : Bool) : apY (inY x y t m) (inT t m) m x y = 0 := by
  rw [in_Y0, apY_ru, w_addr]
  rw [show ruY (inT t m) m x y + -ruY (inT t m) m x y = 0 by omega]; exact w_in (by omega) (by omega)
theorem back_T (t : Int) (m : Bool) : coT (inT t m) m t = 0 := by
  unfold coT inT
  cases m <;> simp <;> omega
section
variable {o : Oper} {a : Act} {w : World}
theorem run_eq_mo4 (x y : Operand) (ho : o.op = .binOp .eql 34 x y 34) (u v z : Int) (m : Bool) (u2 v2 z2 : Int) (m2 : Bool) (hx : a.eval x = .agg #[.int .i64 u, .int .i64 v, .int .i64 z, .bool m]) (hy : a.eval y = .agg #[.int .i64 u2, .int .i64 v2, .int .i64 z2, .bool m2]) (h1 : u = u2) (h2 : v = v2) (h3 : z = z2) (h4 : m = m2) : (execOp a.eval o).run Try.prog w = .ok (.value (.bool true)) w := by
  subst h1 h2 h3 h4; exact run_eq_mo x y ho u v z m hx hy
end
end Go.Proofs.Ytapnoijnegcmfaa
