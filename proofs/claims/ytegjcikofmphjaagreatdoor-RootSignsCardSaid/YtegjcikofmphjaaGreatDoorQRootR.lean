/- Texts that belong together. -/
import Derived.Test.YtegjcikofmphjaaGreatDoorQRootDG
set_option linter.all false
/- Layer 2: order. -/
namespace Go.Proofs.YtegjcikofmphjaaGreatDoor
open Go Go.RowKit Go.Shelf
theorem ent_sub (args : Array Value) (w : World) : (callFunc 85 args).run Tryz.prog w = .ok (.enter 85 args) w := enters_of Tryz.func85 (by kernel_rfl) rfl args w
theorem ent_add (args : Array Value) (w : World) : (callFunc 86 args).run Tryz.prog w = .ok (.enter 86 args) w := enters_of Tryz.func86 (by kernel_rfl) rfl args w
theorem ent_fitting (args : Array Value) (w : World) : (callFunc 84 args).run Tryz.prog w = .ok (.enter 84 args) w := enters_of Tryz.func84 (by kernel_rfl) rfl args w
theorem ent_signOf (args : Array Value) (w : World) : (callFunc 55 args).run Tryz.prog w = .ok (.enter 55 args) w := enters_of Tryz.func55 (by kernel_rfl) rfl args w
def IsT (z : Int) (v : Value) (W : World) : Prop := ∃ a, v = .tuple #[a, .bool true] ∧ IsN z a W
theorem IsT.ext {z : Int} {v : Value} {W W' : World} (h : IsT z v W) (hx : Ext W W') : IsT z v W' := by
  obtain ⟨a, e, h⟩ := h; exact ⟨a, e, h.ext hx⟩
def IsB (lo : Nat) (v : Value) (W : World) : Prop := ∃ g, v = .pointer (some ⟨g, 0, none⟩) ∧ lo ≤ g ∧ RowAt W g 25 (numCells false none 0 0)
theorem IsB.ext {lo : Nat} {v : Value} {W W' : World} (h : IsB lo v W) (hx : Ext W W') : IsB lo v W' := by
  obtain ⟨g, e, hl, h⟩ := h; exact ⟨g, e, hl, hx.row h⟩
theorem gives_t {w w' : World} {z : Int} {neg : Bool} {e : Ending} (h : Gives w z neg e w') : ∃ v, e = .returned v ∧ IsT z v w' ∧ Ext w w' := by
  obtain ⟨p, n, c, rfl, hz, hx⟩ := h; exact ⟨_, rfl, ⟨_, rfl, hz⟩, hx⟩
theorem gives1_n {w w' : World} {z : Int} {neg : Bool} {e : Ending} (h : Gives1 w z neg e w') : ∃ v, e = .returned v ∧ IsN z v w' ∧ Ext w w' := by
  obtain ⟨p, n, c, rfl, hz, hx⟩ := h; exact ⟨_, rfl, hz, hx⟩
theorem of_n (z : Int) (h : -9223372036854775808 ≤ z ∧ z ≤ 9223372036854775807) (w : World) : Calls Tryz.prog 36 #[.int .i64 z] w fun e w' => ∃ v, e = .returned v ∧ IsN z v w' ∧ Ext w w' := (of_ok z h.1 h.2 w).mono fun _ _ h => gives1_n h
theorem sub_t (va vb : Value) (a b z : Int) (w : World) (ha : IsN a va w) (hb : IsN b vb w) (hz : a - b = z) (hl : z.natAbs < B32 ^ 64) : Calls Tryz.prog 85 #[va, vb] w fun e w' => ∃ v, e = .returned v ∧ IsT z v w' ∧ Ext w w' := (sub_gives ha hb hz rfl hl).mono fun _ _ h => gives_t h
theorem add_t (va vb : Value) (a b z : Int) (w : World) (ha : IsN a va w) (hb : IsN b vb w) (hz : a + b = z) (hl : z.natAbs < B32 ^ 64) : Calls Tryz.prog 86 #[va, vb] w fun e w' => ∃ v, e = .returned v ∧ IsT z v w' ∧ Ext w w' := (add_gives ha hb hz rfl hl).mono fun _ _ h => gives_t h
theorem fit_n (v : Value) (z : Int) (w : World) (h : IsN z v w) : Calls Tryz.prog 84 #[v, .bool true] w fun e w' => ∃ r, e = .returned r ∧ IsN z r w' ∧ Ext w w' := (fitting_calls v z w h).mono fun e w' ⟨he, hx⟩ => ⟨v, he, h.ext hx, hx⟩
theorem IsN.parts {z : Int} {v : Value} {W : World} (h : IsN z v W) : ∃ neg p n c, v = .agg #[.bool neg, .slice p n c] := by
  obtain ⟨p, c, e⟩ := ZNum.parts h; exact ⟨_, p, _, c, e⟩
section
variable {o : Oper} {b : Act} {w : World}
theorem run_extract0 (s : Nat) (x : Operand) (hs : x = .tmp s) (ho : o.op = .extract x 0) (u v : Value) (hx : b.eval x = .tuple #[u, v]) : (execOp b.eval o).run Tryz.prog w = .ok (.value u) w := by
  unfold execOp
  simp only [ho, hx]
  simp [go_sem]
theorem run_extract1 (s : Nat) (x : Operand) (hs : x = .tmp s) (ho : o.op = .extract x 1) (u v : Value) (hx : b.eval x = .tuple #[u, v]) : (execOp b.eval o).run Tryz.prog w = .ok (.value v) w := by
  unfold execOp
  simp only [ho, hx]
  simp [go_sem]
end
structure RtB (a s N D : Int) : Prop where
  a1 : -9223372036854775808 ≤ a ∧ a ≤ 9223372036854775807
  s1 : s = -1 ∨ s = 0 ∨ s = 1
  n0 : 0 ≤ N
  n8 : N.natAbs < B32 ^ 8
  d1 : 0 < D
  d8 : D.natAbs < B32 ^ 8
section
variable {A1 s1 N1 D1 A2 s2 N2 D2 : Int}
theorem ahead_lim (h1 : RtB A1 s1 N1 D1) (h2 : RtB A2 s2 N2 D2) : (A1 - A2).natAbs < B32 ^ 2 := by
  have := h1.a1
  have := h2.a1
  have e : B32 ^ 2 = 18446744073709551616 := by decide
  omega
theorem sg_lim (h1 : RtB A1 s1 N1 D1) : s1.natAbs < B32 ^ 1 := by
  have e : B32 ^ 1 = 4294967296 := by decide
  rcases h1.s1 with h | h | h <;> rw [h, e] <;> decide
theorem whole_lim (h1 : RtB A1 s1 N1 D1) (h2 : RtB A2 s2 N2 D2) : ((A1 - A2) * (A1 - A2) * (D1 * D2) + N1 * D2 - N2 * D1).natAbs < B32 ^ 20 := by
  obtain ⟨d, hd⟩ : ∃ d, d = A1 - A2 := ⟨_, rfl⟩
  rw [← hd]
  have ld := ahead_lim h1 h2
  rw [← hd] at ld
  obtain ⟨K, hK⟩ : ∃ K : Int, K = 115792089237316195423570985008687907853269984665640564039457584007913129639935 := ⟨_, rfl⟩
  have e8 : B32 ^ 8 = 115792089237316195423570985008687907853269984665640564039457584007913129639936 := by decide
  have e2 : B32 ^ 2 = 18446744073709551616 := by decide
  have a1 := h1.n8
  have a2 := h1.d8
  have a3 := h2.n8
  have a4 := h2.d8
  rw [e8] at a1 a2 a3 a4
  rw [e2] at ld
  have b1 := h1.n0
  have b2 := h1.d1
  have b3 := h2.n0
  have b4 := h2.d1
  have edd : (d.natAbs : Int) * d.natAbs = d * d := by rw [← Int.natCast_mul]; exact Int.natAbs_mul_self
  have hdd : d * d ≤ 18446744073709551615 * 18446744073709551615 := by
    have : (d.natAbs : Int) * d.natAbs ≤ 18446744073709551615 * 18446744073709551615 := RM.mul_le_mul' (by omega) (by omega) (by omega) (by omega)
    rwa [edd] at this
  have hd0 : 0 ≤ d * d := by rw [← edd]; exact Int.mul_nonneg (by omega) (by omega)
  have k1 : D1 * D2 ≤ K * K := RM.mul_le_mul' (by omega) (by omega) (by omega) (by omega)
  have k0 : 0 ≤ D1 * D2 := Int.mul_nonneg (by omega) (by omega)
  have k2 : N1 * D2 ≤ K * K := RM.mul_le_mul' (by omega) (by omega) (by omega) (by omega)
  have k3 : 0 ≤ N1 * D2 := Int.mul_nonneg (by omega) (by omega)
  have k4 : N2 * D1 ≤ K * K := RM.mul_le_mul' (by omega) (by omega) (by omega) (by omega)
  have k5 : 0 ≤ N2 * D1 := Int.mul_nonneg (by omega) (by omega)
  have k6 : d * d * (D1 * D2) ≤ 18446744073709551615 * 18446744073709551615 * (K * K) := RM.mul_le_mul' hdd k1 hd0 k0
  have k7 : 0 ≤ d * d * (D1 * D2) := Int.mul_nonneg hd0 k0
  have hB : 18446744073709551615 * 18446744073709551615 * (K * K) + K * K < ((B32 ^ 20 : Nat) : Int) := by rw [hK]; decide
  have hB2 : K * K < ((B32 ^ 20 : Nat) : Int) := by rw [hK]; decide
  generalize ((B32 ^ 20 : Nat)) = Z at *
  generalize d * d * (D1 * D2) = x at *
  generalize N1 * D2 = y at *
  generalize N2 * D1 = z at *
  generalize 18446744073709551615 * 18446744073709551615 * (K * K) = u at *
  generalize K * K = v at *
  omega
theorem cmpZ_eq : RM.cmpZ A1 s1 N1 D1 A2 s2 N2 D2 = if RM.sideZ (prodZ [A1 - A2, D1]) s1 (prodZ [N1, D1]) < s2 then -1 else if s2 < RM.sideZ (prodZ [A1 - A2, D1]) s1 (prodZ [N1, D1]) then 1 else
    RM.sideZ (prodZ [A1 - A2, D1]) s1 (prodZ [N1, D1]) * RM.sideZ (prodZ [A1 - A2, A1 - A2, D1, D2] + prodZ [N1, D2] - prodZ [N2, D1]) (prodZ [2, A1 - A2, s1, D2]) (prodZ [N1, D1]) := by
  unfold RM.cmpZ
  have e1 : prodZ [A1 - A2, D1] = (A1 - A2) * D1 := by simp [prodZ]
  have e2 : prodZ [N1, D1] = N1 * D1 := by simp [prodZ]
  have e3 : prodZ [A1 - A2, A1 - A2, D1, D2] + prodZ [N1, D2] - prodZ [N2, D1] = (A1 - A2) * (A1 - A2) * (D1 * D2) + N1 * D2 - N2 * D1 := by simp [prodZ, Int.mul_assoc]
  have e4 : prodZ [2, A1 - A2, s1, D2] = 2 * s1 * (A1 - A2) * D2 := by simp [prodZ]; grind
  rw [e1, e2, e3, e4]
  generalize RM.sideZ ((A1 - A2) * D1) s1 (N1 * D1) = u
  by_cases h1 : u < s2
  · rw [if_pos (by omega), if_neg (by omega), if_pos h1]
  · by_cases h2 : s2 < u
    · rw [if_pos (by omega), if_pos h2, if_neg h1, if_pos h2]
    · rw [if_neg (by omega), if_neg h1, if_neg h2]
end
def o1F (g lo : Nat) (A1 A2 : Int) : Nat → Value → World → Prop
  | 0, v, _ => v = .pointer (some ⟨g, 0, none⟩)
  | 1, v, _ => v = .int .i64 A1
  | 2, v, W => IsN A1 v W
  | 3, v, _ => v = .pointer (some ⟨g + 1, 0, none⟩)
  | 4, v, _ => v = .int .i64 A2
  | 5, v, W => IsN A2 v W
  | 6, v, W => IsT (A1 - A2) v W
  | 7, v, W => IsN (A1 - A2) v W
  | 8, v, _ => v = .bool true
  | 9, v, W => IsN (A1 - A2) v W
  | 10, v, W => IsB lo v W
  | _, _, _ => True
theorem o1F_mono {g lo : Nat} {A1 A2 : Int} {W W' : World} (hx : Ext W W') (j : Nat) (v : Value) (h : o1F g lo A1 A2 j v W) : o1F g lo A1 A2 j v W' := by
  match j, h with
  | 0, h | 1, h | 3, h | 4, h | 8, h => exact h
  | 2, h => exact IsN.ext h hx
  | 5, h => exact IsN.ext h hx
  | 6, h => exact IsT.ext h hx
  | 7, h => exact IsN.ext h hx
  | 9, h => exact IsN.ext h hx
  | 10, h => exact IsB.ext h hx
  | _ + 11, _ => trivial
def o4F (g : Nat) (vd vs vu vD : Value) (d s D u : Int) : Nat → Value → World → Prop
  | 0, v, _ => v = vd
  | 1, v, _ => v = .pointer (some ⟨g, 4, none⟩)
  | 2, v, _ => v = vD
  | 3, v, W => NumsAt W v [d, D]
  | 4, v, W => IsN (prodZ [d, D]) v W
  | 5, v, _ => v = vs
  | 6, v, _ => v = vu
  | 7, v, _ => v = .int .i64 (RM.sideZ (prodZ [d, D]) s u)
  | _, _, _ => True
theorem o4F_mono {g : Nat} {vd vs vu vD : Value} {d s D u : Int} {W W' : World} (hx : Ext W W') (j : Nat) (v : Value) (h : o4F g vd vs vu vD d s D u j v W) : o4F g vd vs vu vD d s D u j v W' := by
  match j, h with
  | 0, h | 1, h | 2, h | 5, h | 6, h | 7, h => exact h
  | 3, h => exact NumsAt.ext h hx
  | 4, h => exact IsN.ext h hx
  | _ + 8, _ => trivial
def o9F (g lo : Nat) (vd vD1 vD2 vN1 : Value) (d D1 D2 N1 : Int) : Nat → Value → World → Prop
  | 0, v, _ => v = vd
  | 1, v, _ => v = vd
  | 2, v, _ => v = .pointer (some ⟨g, 4, none⟩)
  | 3, v, _ => v = vD1
  | 4, v, _ => v = .pointer (some ⟨g + 1, 4, none⟩)
  | 5, v, _ => v = vD2
  | 6, v, W => NumsAt W v [d, d, D1, D2]
  | 7, v, W => IsN (prodZ [d, d, D1, D2]) v W
  | 8, v, _ => v = .pointer (some ⟨g, 2, none⟩)
  | 9, v, _ => v = vN1
  | 10, v, _ => v = .pointer (some ⟨g + 1, 4, none⟩)
  | 11, v, _ => v = vD2
  | 12, v, W => NumsAt W v [N1, D2]
  | 13, v, W => IsN (prodZ [N1, D2]) v W
  | 14, v, W => IsT (prodZ [d, d, D1, D2] + prodZ [N1, D2]) v W
  | 15, v, W => IsN (prodZ [d, d, D1, D2] + prodZ [N1, D2]) v W
  | 16, v, _ => v = .bool true
  | 17, v, W => IsN (prodZ [d, d, D1, D2] + prodZ [N1, D2]) v W
  | 18, v, W => IsB lo v W
  | _, _, _ => True
theorem o9F_mono {g lo : Nat} {vd vD1 vD2 vN1 : Value} {d D1 D2 N1 : Int} {W W' : World} (hx : Ext W W') (j : Nat) (v : Value) (h : o9F g lo vd vD1 vD2 vN1 d D1 D2 N1 j v W) : o9F g lo vd vD1 vD2 vN1 d D1 D2 N1 j v W' := by
  match j, h with
  | 0, h | 1, h | 2, h | 3, h | 4, h | 5, h | 8, h | 9, h | 10, h | 11, h | 16, h => exact h
  | 6, h => exact NumsAt.ext h hx
  | 7, h => exact IsN.ext h hx
  | 12, h => exact NumsAt.ext h hx
  | 13, h => exact IsN.ext h hx
  | 14, h => exact IsT.ext h hx
  | 15, h => exact IsN.ext h hx
  | 17, h => exact IsN.ext h hx
  | 18, h => exact IsB.ext h hx
  | _ + 19, _ => trivial
def o10F (g : Nat) (vw vN2 vD1 : Value) (x N2 D1 : Int) : Nat → Value → World → Prop
  | 0, v, _ => v = vw
  | 1, v, _ => v = .pointer (some ⟨g + 1, 2, none⟩)
  | 2, v, _ => v = vN2
  | 3, v, _ => v = .pointer (some ⟨g, 4, none⟩)
  | 4, v, _ => v = vD1
  | 5, v, W => NumsAt W v [N2, D1]
  | 6, v, W => IsN (prodZ [N2, D1]) v W
  | 7, v, W => IsT (x - prodZ [N2, D1]) v W
  | 8, v, W => IsN (x - prodZ [N2, D1]) v W
  | 9, v, _ => v = .bool true
  | 10, v, W => IsN (x - prodZ [N2, D1]) v W
  | _, _, _ => True
theorem o10F_mono {g : Nat} {vw vN2 vD1 : Value} {x N2 D1 : Int} {W W' : World} (hx : Ext W W') (j : Nat) (v : Value) (h : o10F g vw vN2 vD1 x N2 D1 j v W) : o10F g vw vN2 vD1 x N2 D1 j v W' := by
  match j, h with
  | 0, h | 1, h | 2, h | 3, h | 4, h | 9, h => exact h
  | 5, h => exact NumsAt.ext h hx
  | 6, h => exact IsN.ext h hx
  | 7, h => exact IsT.ext h hx
  | 8, h => exact IsN.ext h hx
  | 10, h => exact IsN.ext h hx
  | _ + 11, _ => trivial
def o11F (g : Nat) (u : Int) (vw vd vs vD2 vu : Value) (x d s D2 U r : Int) : Nat → Value → World → Prop
  | 0, v, _ => v = .int .i64 u
  | 1, v, _ => v = vw
  | 2, v, W => IsN 2 v W
  | 3, v, _ => v = vd
  | 4, v, _ => v = vs
  | 5, v, _ => v = .pointer (some ⟨g + 1, 4, none⟩)
  | 6, v, _ => v = vD2
  | 7, v, W => NumsAt W v [2, d, s, D2]
  | 8, v, W => IsN (prodZ [2, d, s, D2]) v W
  | 9, v, _ => v = vu
  | 10, v, _ => v = .int .i64 (RM.sideZ x (prodZ [2, d, s, D2]) U)
  | 11, v, _ => v = .int .i64 r
  | _, _, _ => True
theorem o11F_mono {g : Nat} {u : Int} {vw vd vs vD2 vu : Value} {x d s D2 U r : Int} {W W' : World} (hx : Ext W W') (j : Nat) (v : Value) (h : o11F g u vw vd vs vD2 vu x d s D2 U r j v W) : o11F g u vw vd vs vD2 vu x d s D2 U r j v W' := by
  match j, h with
  | 0, h | 1, h | 3, h | 4, h | 5, h | 6, h | 9, h | 10, h | 11, h => exact h
  | 2, h => exact IsN.ext h hx
  | 7, h => exact NumsAt.ext h hx
  | 8, h => exact IsN.ext h hx
  | _ + 12, _ => trivial
theorem sum_lim {A1 s1 N1 D1 A2 s2 N2 D2 d : Int} (hd : d.natAbs < B32 ^ 2) (h1 : RtB A1 s1 N1 D1) (h2 : RtB A2 s2 N2 D2) : (prodZ [d, d, D1, D2] + prodZ [N1, D2]).natAbs < B32 ^ 64 := by
  have a := lim_mulB (lim_mulB (lim_mulB hd hd) h1.d8) h2.d8
  have c := lim_mulB h1.n8 h2.d8
  have e1 : prodZ [d, d, D1, D2] = d * d * D1 * D2 := by simp [prodZ, Int.mul_assoc]
  have e2 : prodZ [N1, D2] = N1 * D2 := by simp [prodZ]
  rw [e1, e2]
  have e20 : B32 ^ (2 + 2 + 8 + 8) + B32 ^ (8 + 8) < B32 ^ 64 := by decide
  generalize B32 ^ (2 + 2 + 8 + 8) = X at *
  generalize B32 ^ (8 + 8) = Y at *
  generalize B32 ^ 64 = Z at *
  omega
theorem whole_lim2 {A1 s1 N1 D1 A2 s2 N2 D2 : Int} (h1 : RtB A1 s1 N1 D1) (h2 : RtB A2 s2 N2 D2) : (prodZ [A1 - A2, A1 - A2, D1, D2] + prodZ [N1, D2] - prodZ [N2, D1]).natAbs < B32 ^ 20 := by
  have h := whole_lim h1 h2
  have e3 : prodZ [A1 - A2, A1 - A2, D1, D2] + prodZ [N1, D2] - prodZ [N2, D1] = (A1 - A2) * (A1 - A2) * (D1 * D2) + N1 * D2 - N2 * D1 := by simp [prodZ, Int.mul_assoc]
  rw [e3]; exact h
theorem twice_lim {d s D : Int} (hd : d.natAbs < B32 ^ 2) (hs : s.natAbs < B32 ^ 1) (hD : D.natAbs < B32 ^ 8) : (prodZ [2, d, s, D]).natAbs < B32 ^ 20 := by
  have a := lim_mulB (lim_mulB (lim_mulB (show (2 : Int).natAbs < B32 ^ 1 by decide) hd) hs) hD
  have e : prodZ [2, d, s, D] = 2 * d * s * D := by simp [prodZ, Int.mul_assoc]
  rw [e]
  exact Nat.lt_of_lt_of_le a (Nat.pow_le_pow_right B32_pos (by decide))
set_option maxRecDepth 100000 in
set_option maxHeartbeats 16000000 in
theorem rootOrder_calls (va vb : Value) (A1 s1 N1 D1 A2 s2 N2 D2 : Int) (w : World) (ha : RootV w va A1 s1 N1 D1) (hb : RootV w vb A2 s2 N2 D2) (ba : RtB A1 s1 N1 D1) (bb : RtB A2 s2 N2 D2) :
    Calls Tryz.prog 58 #[va, vb] w fun e w' => e = .returned (.int .i64 (RM.cmpZ A1 s1 N1 D1 A2 s2 N2 D2)) ∧ Ext w w' := by
  obtain ⟨p1, n1, c1, q1, m1, e1, rfl, hn1, hd1⟩ := ha
  obtain ⟨p2, n2, c2, q2, m2, e2, rfl, hn2, hd2⟩ := hb
  obtain ⟨rv, hrv⟩ : ∃ rv, rv = RM.cmpZ A1 s1 N1 D1 A2 s2 N2 D2 := ⟨_, rfl⟩
  rw [← hrv]
  rw [cmpZ_eq] at hrv
  have Hrv := Lib.hid hrv
  have BA := Lib.hid ba
  have BB := Lib.hid bb
  have HLd := Lib.hid (ahead_lim ba bb)
  have HLs := Lib.hid (sg_lim ba)
  have HLw := Lib.hid (whole_lim ba bb)
  have N1_ := Lib.hid hn1
  have D1_ := Lib.hid hd1
  have N2_ := Lib.hid hn2
  have D2_ := Lib.hid hd2
  have E := Lib.hid (Ext.refl w)
  clear hrv hn1 hd1 hn2 hd2 ba bb
  obtain ⟨W0a, hW0a⟩ : ∃ W0a, W0a = ((w.alloc (.cells #[.int .i64 A1, .int .i64 s1, .bool false, .slice p1 n1 c1, .bool false, .slice q1 m1 e1] 32)).alloc (.cells #[.int .i64 A2, .int .i64 s2, .bool false, .slice p2 n2 c2, .bool false, .slice q2 m2 e2] 32)) := ⟨_, rfl⟩
  have hx : Ext w W0a := by rw [hW0a]; exact ((Ext.alloc _ _).trans (Ext.alloc _ _))
  have A_n : RowAt W0a (w.heap.size) 32 (rootCells A1 s1 false p1 n1 c1 false q1 m1 e1) := by rw [hW0a]; exact ((RowAt.new' _ _ (by simp)).alloc _)
  have B_n : RowAt W0a (w.heap.size + 1) 32 (rootCells A2 s2 false p2 n2 c2 false q2 m2 e2) := by rw [hW0a]; exact (RowAt.new' _ _ (by simp))
  have N1_1 := Lib.hid (hx.num N1_.out)
  have D1_1 := Lib.hid (hx.num D1_.out)
  have N2_1 := Lib.hid (hx.num N2_.out)
  have D2_1 := Lib.hid (hx.num D2_.out)
  have E1 := Lib.hid (E.out.trans hx)
  clear N1_ D1_ N2_ D2_ E
  have A_1 := Lib.hid A_n
  have B_1 := Lib.hid B_n
  have HW0a := Lib.hid hW0a
  clear hx hW0a A_n B_n
  go_enter Tryz.func58, Tryz.ntmps58
  go_upto_region 1 with fail
  rw [← HW0a.out]
  refine wp_region_tail (fun D ac w' => ∃ vs : Nat → Value, ac = { tmps := #[Value.agg #[Value.int IntKind.i64 A1, Value.int IntKind.i64 s1, Value.bool false, Value.slice p1 n1 c1, Value.bool false, Value.slice q1 m1 e1], Value.agg #[Value.int IntKind.i64 A2, Value.int IntKind.i64 s2, Value.bool false, Value.slice p2 n2 c2, Value.bool false, Value.slice q2 m2 e2], Value.pointer (some { block := w.heap.size, off := 0 }), Value.pointer (some { block := w.heap.size + 1, off := 0 }), Value.int IntKind.i64 0, vs 10, undef, undef, undef, undef, vs 0, vs 1, vs 2, vs 3, vs 4, vs 5, vs 6, vs 7, vs 8, vs 9, undef, undef, undef, undef, undef, undef, undef, undef, undef, undef, undef, undef, undef, undef, undef, undef, undef, undef, undef, undef, undef, undef, undef, undef, undef, undef, undef, undef, undef, undef, undef, undef, undef, undef, undef, undef, undef, undef, undef, undef, undef, undef, undef, undef, undef, undef, undef, undef, undef, undef, undef, undef, undef, undef, undef, undef, undef, undef, undef, undef, undef, undef, undef, undef, undef, undef], defers := [] } ∧ Ext W0a w' ∧ ∀ j, D j → o1F w.heap.size W0a.heap.size A1 A2 j (vs j) w') 11 (by kernel_rfl) (by kernel_rfl) (by kernel_rfl) ?start1 ?step1 ?fin1
  case start1 => exact ⟨fun _ => undef, rfl, Ext.drew _, fun _ h => h.elim⟩
  case step1 =>
    rintro i o D ac wz hin hio hnd he ⟨vs, rfl, k0, hF⟩
    rcases i with _ | _ | _ | _ | _ | _ | _ | _ | _ | _ | _ | i
    rotate_left 11
    · exact absurd hin (by omega)
    all_goals (obtain rfl := Option.some.inj (hio.symm.trans (by rfl)))
    · refine step_yes (wanted_of_none rfl _) ?_
      exact wp_of_run (run_rfield 0 0 (by decide) (.tmp 2) rfl w.heap.size rfl) ⟨upd vs 0 _, rfl, k0, inv_step hF (fun _ _ h => h) rfl⟩
    · refine step_yes (wanted_of_none rfl _) ?_
      exact wp_of_run (run_load_int_at (.tmp 10) rfl _ (by exact (hF 0 (he ⟨0, .data⟩ (by simp) rfl))) A1 (k0.row A_1.out).root0) ⟨upd vs 1 _, rfl, k0, inv_step hF (fun _ _ h => h) rfl⟩
    · refine step_yes (wanted_of_none rfl _) ?_
      refine wp_of_callE (run_enter1 36 (.tmp 11) _ rfl _ (by exact (hF 1 (he ⟨1, .data⟩ (by simp) rfl))) ent_of) (of_n A1 BA.out.a1 wz) ?_
      rintro e w' ⟨rr, rfl, hz, hx⟩
      exact ⟨_, rfl, upd vs 2 _, rfl, k0.trans hx, inv_step hF (fun j v h => o1F_mono hx j v h) hz⟩
    · refine step_yes (wanted_of_none rfl _) ?_
      exact wp_of_run (run_rfield 0 0 (by decide) (.tmp 3) rfl (w.heap.size + 1) rfl) ⟨upd vs 3 _, rfl, k0, inv_step hF (fun _ _ h => h) rfl⟩
    · refine step_yes (wanted_of_none rfl _) ?_
      exact wp_of_run (run_load_int_at (.tmp 13) rfl _ (by exact (hF 3 (he ⟨3, .data⟩ (by simp) rfl))) A2 (k0.row B_1.out).root0) ⟨upd vs 4 _, rfl, k0, inv_step hF (fun _ _ h => h) rfl⟩
    · refine step_yes (wanted_of_none rfl _) ?_
      refine wp_of_callE (run_enter1 36 (.tmp 14) _ rfl _ (by exact (hF 4 (he ⟨4, .data⟩ (by simp) rfl))) ent_of) (of_n A2 BB.out.a1 wz) ?_
      rintro e w' ⟨rr, rfl, hz, hx⟩
      exact ⟨_, rfl, upd vs 5 _, rfl, k0.trans hx, inv_step hF (fun j v h => o1F_mono hx j v h) hz⟩
    · refine step_yes (wanted_of_none rfl _) ?_
      refine wp_of_callE (run_enter2 85 (.tmp 12) (.tmp 15) _ rfl _ _ rfl rfl ent_sub) (sub_t _ _ A1 A2 (A1 - A2) wz (hF 2 (he ⟨2, .data⟩ (by simp) rfl)) (hF 5 (he ⟨5, .data⟩ (by simp) rfl)) rfl (lim_64 HLd.out (by decide))) ?_
      rintro e w' ⟨rr, rfl, hz, hx⟩
      exact ⟨_, rfl, upd vs 6 _, rfl, k0.trans hx, inv_step hF (fun j v h => o1F_mono hx j v h) hz⟩
    · refine step_yes (wanted_of_none rfl _) ?_
      obtain ⟨x9, hx9, hz9⟩ := (hF 6 (he ⟨6, .data⟩ (by simp) rfl))
      exact wp_of_run (run_extract0 16 (.tmp 16) rfl rfl _ _ (by exact hx9)) ⟨upd vs 7 _, rfl, k0, inv_step hF (fun _ _ h => h) hz9⟩
    · refine step_yes (wanted_of_none rfl _) ?_
      obtain ⟨x9, hx9, hz9⟩ := (hF 6 (he ⟨6, .data⟩ (by simp) rfl))
      exact wp_of_run (run_extract1 16 (.tmp 16) rfl rfl _ _ (by exact hx9)) ⟨upd vs 8 _, rfl, k0, inv_step hF (fun _ _ h => h) rfl⟩
    · refine step_yes (wanted_of_none rfl _) ?_
      refine wp_of_callE (run_enter2 84 (.tmp 17) (.tmp 18) _ rfl _ _ rfl (by exact (hF 8 (he ⟨8, .data⟩ (by simp) rfl))) ent_fitting) (fit_n _ _ wz (hF 7 (he ⟨7, .data⟩ (by simp) rfl))) ?_
      rintro e w' ⟨rr, rfl, hz, hx⟩
      exact ⟨_, rfl, upd vs 9 _, rfl, k0.trans hx, inv_step hF (fun j v h => o1F_mono hx j v h) hz⟩
    · refine step_yes (wanted_of_none rfl _) ?_
      exact wp_of_run (run_alloc_num rfl) ⟨upd vs 10 _, rfl, k0.trans (Ext.alloc _ _), inv_step hF (fun j v h => o1F_mono (Ext.alloc _ _) j v h) ⟨_, rfl, Below.size k0, RowAt.new _ _ _⟩⟩
  case fin1 =>
    rintro D ac wf1 hD ⟨vs, rfl, k0, hF⟩
    change wpList _ _ _ [_] _ _
    obtain ⟨g5, hg5, hl5, hr5⟩ := hF 10 (hD 10 (by decide))
    have hd9 : IsN (A1 - A2) (vs 9) wf1 := hF 9 (hD 9 (by decide))
    obtain ⟨nd, pd, ld, kd, ed⟩ := hd9.parts
    rw [ed] at hd9
    rw [hg5, ed]
    obtain ⟨WxS5, hWxS5⟩ : ∃ WxS5, WxS5 = wf1.setRow g5 (numCells nd pd ld kd) := ⟨_, rfl⟩
    have hx : Ext W0a WxS5 := by rw [hWxS5]; exact ext_setRow k0 hl5 _
    have Zdn := Lib.hid (show ZNum WxS5.heap.size WxS5 _ _ from by rw [hWxS5, setRow_size]; exact ZNum.setNum hd9 hr5 _)
    have S5n := Lib.hid (show RowAt WxS5 g5 25 _ from by rw [hWxS5]; exact hr5.setRow _)
    have OS5 := Lib.hid hr5
    have HWxS5 := Lib.hid hWxS5
    have LS5 := Lib.hid (Nat.lt_of_lt_of_le (show w.heap.size + 1 < W0a.heap.size from B_1.out.lt) hl5)
    have N1_2 := Lib.hid (hx.num N1_1.out)
    have D1_2 := Lib.hid (hx.num D1_1.out)
    have N2_2 := Lib.hid (hx.num N2_1.out)
    have D2_2 := Lib.hid (hx.num D2_1.out)
    have E2 := Lib.hid (E1.out.trans hx)
    have A_2 := Lib.hid (hx.row A_1.out)
    have B_2 := Lib.hid (hx.row B_1.out)
    clear N1_1 D1_1 N2_1 D2_1 E1 A_1 B_1
    clear hx hWxS5 hF hD k0 hl5 hr5
    clear hd9 hg5 ed
    generalize vs = t1
    have cA__root1_2 := A_2.out.root1
    go_wp2_with (first | (refine store_num rfl (.tmp 5) (.tmp 19) rfl g5 rfl _ _ _ _ rfl _ _ OS5.out rfl ?_; rw [← HWxS5.out]))
    refine (of_ok s1 (by have := BA.out.s1; omega) (by have := BA.out.s1; omega) WxS5).mono ?_
    rintro e w3_ ⟨ps, ns, cs, rfl, hz, hx⟩
    clear cA__root1_2
    have N1_3 := Lib.hid (hx.num N1_2.out)
    have D1_3 := Lib.hid (hx.num D1_2.out)
    have N2_3 := Lib.hid (hx.num N2_2.out)
    have D2_3 := Lib.hid (hx.num D2_2.out)
    have E3 := Lib.hid (E2.out.trans hx)
    have A_3 := Lib.hid (hx.row A_2.out)
    have B_3 := Lib.hid (hx.row B_2.out)
    have Zd3 := Lib.hid (hx.num Zdn.out)
    have S53 := Lib.hid (hx.row S5n.out)
    clear N1_2 D1_2 N2_2 D2_2 E2 A_2 B_2 Zdn S5n
    have Zs3 := Lib.hid hz
    clear hx hz
    generalize decide (s1 < 0) = bs at *
    obtain ⟨W3b, hW3b⟩ : ∃ W3b, W3b = (w3_.alloc (.cells #[.bool false, .slice none 0 0] 25)).setRow w3_.heap.size (numCells bs ps ns cs) := ⟨_, rfl⟩
    have hx : Ext w3_ W3b := by rw [hW3b]; exact ext_setRow (Ext.alloc _ _) (Nat.le_refl _) _
    have S6n : RowAt W3b w3_.heap.size 25 (numCells bs ps ns cs) := by rw [hW3b]; exact (RowAt.new _ _ _).setRow _
    have N1_4 := Lib.hid (hx.num N1_3.out)
    have D1_4 := Lib.hid (hx.num D1_3.out)
    have N2_4 := Lib.hid (hx.num N2_3.out)
    have D2_4 := Lib.hid (hx.num D2_3.out)
    have E4 := Lib.hid (E3.out.trans hx)
    have A_4 := Lib.hid (hx.row A_3.out)
    have B_4 := Lib.hid (hx.row B_3.out)
    have Zd4 := Lib.hid (hx.num Zd3.out)
    have S54 := Lib.hid (hx.row S53.out)
    have Zs4 := Lib.hid (hx.num Zs3.out)
    clear N1_3 D1_3 N2_3 D2_3 E3 A_3 B_3 Zd3 S53 Zs3
    have S64 := Lib.hid S6n
    have HW3b := Lib.hid hW3b
    clear hx hW3b S6n
    have cA__root2_4 := A_4.out.root2
    have cA__root3_4 := A_4.out.root3
    have cA__root4_4 := A_4.out.root4
    have cA__root5_4 := A_4.out.root5
    obtain ⟨Wn, hWn⟩ : ∃ Wn, Wn = W3b.alloc (.cells #[.bool false, .slice p1 n1 c1, .bool false, .slice q1 m1 e1] 25) := ⟨_, rfl⟩
    have hx : Ext W3b Wn := by rw [hWn]; exact Ext.alloc _ _
    have hNA : NumsAt Wn (.slice (some ⟨W3b.heap.size, 0, none⟩) 2 2) [N1, D1] := by
      refine ⟨_, 2, _, rfl, by rw [hWn]; exact RowAt.new _ _ _, fun j z hj => ?_⟩
      rcases j with _ | _ | j
      · obtain rfl := Option.some.inj (show some N1 = some z from hj)
        exact ⟨_, _, _, _, rfl, rfl, hx.num N1_4.out⟩
      · obtain rfl := Option.some.inj (show some D1 = some z from hj)
        exact ⟨_, _, _, _, rfl, rfl, hx.num D1_4.out⟩
      · exact absurd hj (by simp)
    have HNA := Lib.hid hNA
    have HWn := Lib.hid hWn
    go_wp2_with (first | (refine store_num rfl (.tmp 6) (.tmp 22) rfl w3_.heap.size rfl _ _ _ _ rfl _ _ (RowAt.new' _ _ rfl) rfl ?_; rw [← HW3b.out]))
    rw [← HWn.out]
    have N1_5 := Lib.hid (hx.num N1_4.out)
    have D1_5 := Lib.hid (hx.num D1_4.out)
    have N2_5 := Lib.hid (hx.num N2_4.out)
    have D2_5 := Lib.hid (hx.num D2_4.out)
    have E5 := Lib.hid (E4.out.trans hx)
    have A_5 := Lib.hid (hx.row A_4.out)
    have B_5 := Lib.hid (hx.row B_4.out)
    have Zd5 := Lib.hid (hx.num Zd4.out)
    have S55 := Lib.hid (hx.row S54.out)
    have Zs5 := Lib.hid (hx.num Zs4.out)
    have S65 := Lib.hid (hx.row S64.out)
    clear N1_4 D1_4 N2_4 D2_4 E4 A_4 B_4 Zd4 S54 Zs4 S64
    clear hx hWn hNA
    refine (rootProduct_calls _ [N1, D1] Wn HNA.out (by simp) (prod_lim2 BA.out.n8 BA.out.d8 (by decide))).mono ?_
    rintro e w6_ ⟨vu, rfl, hz, hx⟩
    clear cA__root2_4 cA__root3_4 cA__root4_4 cA__root5_4
    have N1_6 := Lib.hid (hx.num N1_5.out)
    have D1_6 := Lib.hid (hx.num D1_5.out)
    have N2_6 := Lib.hid (hx.num N2_5.out)
    have D2_6 := Lib.hid (hx.num D2_5.out)
    have E6 := Lib.hid (E5.out.trans hx)
    have A_6 := Lib.hid (hx.row A_5.out)
    have B_6 := Lib.hid (hx.row B_5.out)
    have Zd6 := Lib.hid (hx.num Zd5.out)
    have S56 := Lib.hid (hx.row S55.out)
    have Zs6 := Lib.hid (hx.num Zs5.out)
    have S66 := Lib.hid (hx.row S65.out)
    clear N1_5 D1_5 N2_5 D2_5 E5 A_5 B_5 Zd5 S55 Zs5 S65
    have Zu6 := Lib.hid hz
    clear hx hz
    obtain ⟨bu, pu, nu, cu, rfl⟩ := IsN.parts Zu6.out
    obtain ⟨W6b, hW6b⟩ : ∃ W6b, W6b = (w6_.alloc (.cells #[.bool false, .slice none 0 0] 25)).setRow w6_.heap.size (numCells bu pu nu cu) := ⟨_, rfl⟩
    have hx : Ext w6_ W6b := by rw [hW6b]; exact ext_setRow (Ext.alloc _ _) (Nat.le_refl _) _
    have S7n : RowAt W6b w6_.heap.size 25 (numCells bu pu nu cu) := by rw [hW6b]; exact (RowAt.new _ _ _).setRow _
    have N1_7 := Lib.hid (hx.num N1_6.out)
    have D1_7 := Lib.hid (hx.num D1_6.out)
    have N2_7 := Lib.hid (hx.num N2_6.out)
    have D2_7 := Lib.hid (hx.num D2_6.out)
    have E7 := Lib.hid (E6.out.trans hx)
    have A_7 := Lib.hid (hx.row A_6.out)
    have B_7 := Lib.hid (hx.row B_6.out)
    have Zd7 := Lib.hid (hx.num Zd6.out)
    have S57 := Lib.hid (hx.row S56.out)
    have Zs7 := Lib.hid (hx.num Zs6.out)
    have S67 := Lib.hid (hx.row S66.out)
    have Zu7 := Lib.hid (hx.num Zu6.out)
    clear N1_6 D1_6 N2_6 D2_6 E6 A_6 B_6 Zd6 S56 Zs6 S66 Zu6
    have S77 := Lib.hid S7n
    have HW6b := Lib.hid hW6b
    clear hx hW6b S7n
    go_upto_region 4 with (first | (refine store_num rfl (.tmp 7) (.tmp 28) rfl w6_.heap.size rfl _ _ _ _ rfl _ _ (RowAt.new' _ _ rfl) rfl ?_; rw [← HW6b.out]))
    go_upto_region 4 with fail
    refine wp_region_tail (fun D ac w' => ∃ vs : Nat → Value, ac = { tmps := #[Value.agg #[Value.int IntKind.i64 A1, Value.int IntKind.i64 s1, Value.bool false, Value.slice p1 n1 c1, Value.bool false, Value.slice q1 m1 e1], Value.agg #[Value.int IntKind.i64 A2, Value.int IntKind.i64 s2, Value.bool false, Value.slice p2 n2 c2, Value.bool false, Value.slice q2 m2 e2], Value.pointer (some { block := w.heap.size, off := 0 }), Value.pointer (some { block := w.heap.size + 1, off := 0 }), Value.int IntKind.i64 0, Value.pointer (some { block := g5, off := 0 }), Value.pointer (some { block := w3_.heap.size, off := 0 }), Value.pointer (some { block := w6_.heap.size, off := 0 }), undef, undef, t1 0, t1 1, t1 2, t1 3, t1 4, t1 5, t1 6, t1 7, t1 8, Value.agg #[Value.bool nd, Value.slice pd ld kd], Value.pointer (some { block := w.heap.size, off := 1 }), Value.int IntKind.i64 s1, Value.agg #[Value.bool bs, Value.slice ps ns cs], Value.pointer (some { block := w.heap.size, off := 2 }), Value.agg #[Value.bool false, Value.slice p1 n1 c1], Value.pointer (some { block := w.heap.size, off := 4 }), Value.agg #[Value.bool false, Value.slice q1 m1 e1], Value.slice (some { block := W3b.heap.size, off := 0 }) 2 2, Value.agg #[Value.bool bu, Value.slice pu nu cu], vs 0, vs 1, vs 2, vs 3, vs 4, vs 5, vs 6, vs 7, undef, undef, undef, undef, undef, undef, undef, undef, undef, undef, undef, undef, undef, undef, undef, undef, undef, undef, undef, undef, undef, undef, undef, undef, undef, undef, undef, undef, undef, undef, undef, undef, undef, undef, undef, undef, undef, undef, undef, undef, undef, undef, undef, undef, undef, undef, undef, undef, undef], defers := [] } ∧ Ext W6b w' ∧ ∀ j, D j → o4F w.heap.size (.agg #[.bool nd, .slice pd ld kd]) (.agg #[.bool bs, .slice ps ns cs]) (.agg #[.bool bu, .slice pu nu cu]) (.agg #[.bool false, .slice q1 m1 e1]) (A1 - A2) s1 D1 (prodZ [N1, D1]) j (vs j) w') 8 (by kernel_rfl) (by kernel_rfl) (by kernel_rfl) ?start4 ?step4 ?fin4
    case start4 => exact ⟨fun _ => undef, rfl, Ext.drew _, fun _ h => h.elim⟩
    case step4 =>
      rintro i o D ac wz hin hio hnd he ⟨vs, rfl, k0, hF⟩
      rcases i with _ | _ | _ | _ | _ | _ | _ | _ | i
      rotate_left 8
      · exact absurd hin (by omega)
      all_goals (obtain rfl := Option.some.inj (hio.symm.trans (by rfl)))
      · refine step_yes (wanted_of_none rfl _) ?_
        exact wp_of_run (run_load_num (.tmp 5) rfl _ rfl _ _ _ _ _ (k0.row S57.out)) ⟨upd vs 0 _, rfl, k0, inv_step hF (fun _ _ h => h) rfl⟩
      · refine step_yes (wanted_of_none rfl _) ?_
        exact wp_of_run (run_rfield 3 4 (by decide) (.tmp 2) rfl w.heap.size rfl) ⟨upd vs 1 _, rfl, k0, inv_step hF (fun _ _ h => h) rfl⟩
      · refine step_yes (wanted_of_none rfl _) ?_
        exact wp_of_run (run_load_rnum (.tmp 30) rfl w.heap.size 4 (by exact (hF 1 (he ⟨1, .data⟩ (by simp) rfl))) false q1 m1 e1 (k0.row A_7.out).root4 (k0.row A_7.out).root5) ⟨upd vs 2 _, rfl, k0, inv_step hF (fun _ _ h => h) rfl⟩
      · refine step_yes (wanted_of_none rfl _) ?_
        refine wp_build2 (.tmp 29) (.tmp 31) rfl _ _ (A1 - A2) D1 (by exact (hF 0 (he ⟨0, .data⟩ (by simp) rfl))) (by exact (hF 2 (he ⟨2, .data⟩ (by simp) rfl))) (k0.num Zd7.out) (k0.num D1_7.out) ?_
        intro v w' hN hx
        exact ⟨upd vs 3 v, rfl, k0.trans hx, inv_step hF (fun j v h => o4F_mono hx j v h) hN⟩
      · refine step_yes (wanted_of_none rfl _) ?_
        refine wp_of_callE (run_enter1 83 (.tmp 32) _ rfl _ rfl ent_product) (rootProduct_calls _ [A1 - A2, D1] wz (hF 3 (he ⟨3, .data⟩ (by simp) rfl)) (by simp) (prod_lim2 HLd.out BA.out.d8 (by decide))) ?_
        rintro e w' ⟨rr, rfl, hz, hx⟩
        exact ⟨_, rfl, upd vs 4 _, rfl, k0.trans hx, inv_step hF (fun j v h => o4F_mono hx j v h) hz⟩
      · refine step_yes (wanted_of_none rfl _) ?_
        exact wp_of_run (run_load_num (.tmp 6) rfl _ rfl _ _ _ _ _ (k0.row S67.out)) ⟨upd vs 5 _, rfl, k0, inv_step hF (fun _ _ h => h) rfl⟩
      · refine step_yes (wanted_of_none rfl _) ?_
        exact wp_of_run (run_load_num (.tmp 7) rfl _ rfl _ _ _ _ _ (k0.row S77.out)) ⟨upd vs 6 _, rfl, k0, inv_step hF (fun _ _ h => h) rfl⟩
      · refine step_yes (wanted_of_none rfl _) ?_
        refine wp_of_callE (run_enter3 55 (.tmp 33) (.tmp 34) (.tmp 35) _ rfl _ _ _ rfl (by exact (hF 5 (he ⟨5, .data⟩ (by simp) rfl))) (by exact (hF 6 (he ⟨6, .data⟩ (by simp) rfl))) ent_signOf) (signOf_calls _ _ _ (prodZ [A1 - A2, D1]) s1 (prodZ [N1, D1]) wz (hF 4 (he ⟨4, .data⟩ (by simp) rfl)) (k0.num Zs7.out) (k0.num Zu7.out) (by simp [prodZ]; exact Int.mul_nonneg BA.out.n0 (by have := BA.out.d1; omega)) (by simp [prodZ]; exact Nat.lt_of_lt_of_le (lim_mulB HLd.out BA.out.d8) (Nat.pow_le_pow_right B32_pos (by decide))) (Nat.lt_of_lt_of_le HLs.out (Nat.pow_le_pow_right B32_pos (by decide))) (by simp [prodZ]; exact Nat.lt_of_lt_of_le (lim_mulB BA.out.n8 BA.out.d8) (Nat.pow_le_pow_right B32_pos (by decide)))) ?_
        rintro e w' ⟨rfl, hx⟩
        exact ⟨_, rfl, upd vs 7 _, rfl, k0.trans hx, inv_step hF (fun j v h => o4F_mono hx j v h) rfl⟩
    case fin4 =>
      rintro D ac wf4 hD ⟨vs, rfl, k0, hF⟩
      change wpList _ _ _ [_] _ _
      have h7 : vs 7 = .int .i64 (RM.sideZ (prodZ [A1 - A2, D1]) s1 (prodZ [N1, D1])) := hF 7 (hD 7 (by decide))
      rw [h7]
      have N1_8 := Lib.hid (k0.num N1_7.out)
      have D1_8 := Lib.hid (k0.num D1_7.out)
      have N2_8 := Lib.hid (k0.num N2_7.out)
      have D2_8 := Lib.hid (k0.num D2_7.out)
      have E8 := Lib.hid (E7.out.trans k0)
      have A_8 := Lib.hid (k0.row A_7.out)
      have B_8 := Lib.hid (k0.row B_7.out)
      have Zd8 := Lib.hid (k0.num Zd7.out)
      have S58 := Lib.hid (k0.row S57.out)
      have Zs8 := Lib.hid (k0.num Zs7.out)
      have S68 := Lib.hid (k0.row S67.out)
      have Zu8 := Lib.hid (k0.num Zu7.out)
      have S78 := Lib.hid (k0.row S77.out)
      clear N1_7 D1_7 N2_7 D2_7 E7 A_7 B_7 Zd7 S57 Zs7 S67 Zu7 S77
      clear hF hD h7 k0
      generalize vs = t4
      have Hu3 := Lib.hid (RM.sideZ_range (prodZ [A1 - A2, D1]) s1 (prodZ [N1, D1]))
      generalize RM.sideZ (prodZ [A1 - A2, D1]) s1 (prodZ [N1, D1]) = u at *
      have cB__root1_8 := B_8.out.root1
      by_cases hlt : u < s2
      · have Hr : Hid (rv = -1) := by show rv = -1; rw [Hrv.out, if_pos hlt]
        go_wp2
        go_ret
        exact ⟨by rw [Hr.out]; rfl, E8.out⟩
      by_cases hgt : s2 < u
      · have Hr : Hid (rv = 1) := by show rv = 1; rw [Hrv.out, if_neg hlt, if_pos hgt]
        go_wp2
        go_ret
        exact ⟨by rw [Hr.out]; rfl, E8.out⟩
      have Hr := Lib.hid (show rv = _ from by rw [Hrv.out, if_neg hlt, if_neg hgt])
      go_upto_region 9 with fail
      clear hlt hgt
      clear cB__root1_8
      refine wp_region_tail (fun D ac w' => ∃ vs : Nat → Value, ac = { tmps := #[Value.agg #[Value.int IntKind.i64 A1, Value.int IntKind.i64 s1, Value.bool false, Value.slice p1 n1 c1, Value.bool false, Value.slice q1 m1 e1], Value.agg #[Value.int IntKind.i64 A2, Value.int IntKind.i64 s2, Value.bool false, Value.slice p2 n2 c2, Value.bool false, Value.slice q2 m2 e2], Value.pointer (some { block := w.heap.size, off := 0 }), Value.pointer (some { block := w.heap.size + 1, off := 0 }), Value.int IntKind.i64 0, Value.pointer (some { block := g5, off := 0 }), Value.pointer (some { block := w3_.heap.size, off := 0 }), Value.pointer (some { block := w6_.heap.size, off := 0 }), Value.int IntKind.i64 u, vs 18, t1 0, t1 1, t1 2, t1 3, t1 4, t1 5, t1 6, t1 7, t1 8, Value.agg #[Value.bool nd, Value.slice pd ld kd], Value.pointer (some { block := w.heap.size, off := 1 }), Value.int IntKind.i64 s1, Value.agg #[Value.bool bs, Value.slice ps ns cs], Value.pointer (some { block := w.heap.size, off := 2 }), Value.agg #[Value.bool false, Value.slice p1 n1 c1], Value.pointer (some { block := w.heap.size, off := 4 }), Value.agg #[Value.bool false, Value.slice q1 m1 e1], Value.slice (some { block := W3b.heap.size, off := 0 }) 2 2, Value.agg #[Value.bool bu, Value.slice pu nu cu], t4 0, t4 1, t4 2, t4 3, t4 4, t4 5, t4 6, Value.int IntKind.i64 u, Value.int IntKind.i64 u, Value.pointer (some { block := w.heap.size + 1, off := 1 }), Value.int IntKind.i64 s2, Value.bool false, Value.int IntKind.i64 u, Value.pointer (some { block := w.heap.size + 1, off := 1 }), Value.int IntKind.i64 s2, Value.bool false, vs 0, vs 1, vs 2, vs 3, vs 4, vs 5, vs 6, vs 7, vs 8, vs 9, vs 10, vs 11, vs 12, vs 13, vs 14, vs 15, vs 16, vs 17, undef, undef, undef, undef, undef, undef, undef, undef, undef, undef, undef, undef, undef, undef, undef, undef, undef, undef, undef, undef, undef, undef, undef], defers := [] } ∧ Ext wf4 w' ∧ ∀ j, D j → o9F w.heap.size wf4.heap.size (.agg #[.bool nd, .slice pd ld kd]) (.agg #[.bool false, .slice q1 m1 e1]) (.agg #[.bool false, .slice q2 m2 e2]) (.agg #[.bool false, .slice p1 n1 c1]) (A1 - A2) D1 D2 N1 j (vs j) w') 19 (by kernel_rfl) (by kernel_rfl) (by kernel_rfl) ?start9 ?step9 ?fin9
      case start9 => exact ⟨fun _ => undef, rfl, Ext.drew _, fun _ h => h.elim⟩
      case step9 =>
        rintro i o D ac wz hin hio hnd he ⟨vs, rfl, k0, hF⟩
        rcases i with _ | _ | _ | _ | _ | _ | _ | _ | _ | _ | _ | _ | _ | _ | _ | _ | _ | _ | _ | i
        rotate_left 19
        · exact absurd hin (by omega)
        all_goals (obtain rfl := Option.some.inj (hio.symm.trans (by rfl)))
        · refine step_yes (wanted_of_none rfl _) ?_
          exact wp_of_run (run_load_num (.tmp 5) rfl _ rfl _ _ _ _ _ (k0.row S58.out)) ⟨upd vs 0 _, rfl, k0, inv_step hF (fun _ _ h => h) rfl⟩
        · refine step_yes (wanted_of_none rfl _) ?_
          exact wp_of_run (run_load_num (.tmp 5) rfl _ rfl _ _ _ _ _ (k0.row S58.out)) ⟨upd vs 1 _, rfl, k0, inv_step hF (fun _ _ h => h) rfl⟩
        · refine step_yes (wanted_of_none rfl _) ?_
          exact wp_of_run (run_rfield 3 4 (by decide) (.tmp 2) rfl w.heap.size rfl) ⟨upd vs 2 _, rfl, k0, inv_step hF (fun _ _ h => h) rfl⟩
        · refine step_yes (wanted_of_none rfl _) ?_
          exact wp_of_run (run_load_rnum (.tmp 47) rfl w.heap.size 4 (by exact (hF 2 (he ⟨2, .data⟩ (by simp) rfl))) false q1 m1 e1 (k0.row A_8.out).root4 (k0.row A_8.out).root5) ⟨upd vs 3 _, rfl, k0, inv_step hF (fun _ _ h => h) rfl⟩
        · refine step_yes (wanted_of_none rfl _) ?_
          exact wp_of_run (run_rfield 3 4 (by decide) (.tmp 3) rfl (w.heap.size + 1) rfl) ⟨upd vs 4 _, rfl, k0, inv_step hF (fun _ _ h => h) rfl⟩
        · refine step_yes (wanted_of_none rfl _) ?_
          exact wp_of_run (run_load_rnum (.tmp 49) rfl (w.heap.size + 1) 4 (by exact (hF 4 (he ⟨4, .data⟩ (by simp) rfl))) false q2 m2 e2 (k0.row B_8.out).root4 (k0.row B_8.out).root5) ⟨upd vs 5 _, rfl, k0, inv_step hF (fun _ _ h => h) rfl⟩
        · refine step_yes (wanted_of_none rfl _) ?_
          refine wp_build4 (.tmp 45) (.tmp 46) (.tmp 48) (.tmp 50) rfl _ _ _ _ (A1 - A2) (A1 - A2) D1 D2 (by exact (hF 0 (he ⟨0, .data⟩ (by simp) rfl))) (by exact (hF 1 (he ⟨1, .data⟩ (by simp) rfl))) (by exact (hF 3 (he ⟨3, .data⟩ (by simp) rfl))) (by exact (hF 5 (he ⟨5, .data⟩ (by simp) rfl))) (k0.num Zd8.out) (k0.num Zd8.out) (k0.num D1_8.out) (k0.num D2_8.out) ?_
          intro v w' hN hx
          exact ⟨upd vs 6 v, rfl, k0.trans hx, inv_step hF (fun j v h => o9F_mono hx j v h) hN⟩
        · refine step_yes (wanted_of_none rfl _) ?_
          refine wp_of_callE (run_enter1 83 (.tmp 51) _ rfl _ rfl ent_product) (rootProduct_calls _ [A1 - A2, A1 - A2, D1, D2] wz (hF 6 (he ⟨6, .data⟩ (by simp) rfl)) (by simp) (prod_lim4 HLd.out HLd.out BA.out.d8 BB.out.d8 (by decide))) ?_
          rintro e w' ⟨rr, rfl, hz, hx⟩
          exact ⟨_, rfl, upd vs 7 _, rfl, k0.trans hx, inv_step hF (fun j v h => o9F_mono hx j v h) hz⟩
        · refine step_yes (wanted_of_none rfl _) ?_
          exact wp_of_run (run_rfield 2 2 (by decide) (.tmp 2) rfl w.heap.size rfl) ⟨upd vs 8 _, rfl, k0, inv_step hF (fun _ _ h => h) rfl⟩
        · refine step_yes (wanted_of_none rfl _) ?_
          exact wp_of_run (run_load_rnum (.tmp 53) rfl w.heap.size 2 (by exact (hF 8 (he ⟨8, .data⟩ (by simp) rfl))) false p1 n1 c1 (k0.row A_8.out).root2 (k0.row A_8.out).root3) ⟨upd vs 9 _, rfl, k0, inv_step hF (fun _ _ h => h) rfl⟩
        · refine step_yes (wanted_of_none rfl _) ?_
          exact wp_of_run (run_rfield 3 4 (by decide) (.tmp 3) rfl (w.heap.size + 1) rfl) ⟨upd vs 10 _, rfl, k0, inv_step hF (fun _ _ h => h) rfl⟩
        · refine step_yes (wanted_of_none rfl _) ?_
          exact wp_of_run (run_load_rnum (.tmp 55) rfl (w.heap.size + 1) 4 (by exact (hF 10 (he ⟨10, .data⟩ (by simp) rfl))) false q2 m2 e2 (k0.row B_8.out).root4 (k0.row B_8.out).root5) ⟨upd vs 11 _, rfl, k0, inv_step hF (fun _ _ h => h) rfl⟩
        · refine step_yes (wanted_of_none rfl _) ?_
          refine wp_build2 (.tmp 54) (.tmp 56) rfl _ _ N1 D2 (by exact (hF 9 (he ⟨9, .data⟩ (by simp) rfl))) (by exact (hF 11 (he ⟨11, .data⟩ (by simp) rfl))) (k0.num N1_8.out) (k0.num D2_8.out) ?_
          intro v w' hN hx
          exact ⟨upd vs 12 v, rfl, k0.trans hx, inv_step hF (fun j v h => o9F_mono hx j v h) hN⟩
        · refine step_yes (wanted_of_none rfl _) ?_
          refine wp_of_callE (run_enter1 83 (.tmp 57) _ rfl _ rfl ent_product) (rootProduct_calls _ [N1, D2] wz (hF 12 (he ⟨12, .data⟩ (by simp) rfl)) (by simp) (prod_lim2 BA.out.n8 BB.out.d8 (by decide))) ?_
          rintro e w' ⟨rr, rfl, hz, hx⟩
          exact ⟨_, rfl, upd vs 13 _, rfl, k0.trans hx, inv_step hF (fun j v h => o9F_mono hx j v h) hz⟩
        · refine step_yes (wanted_of_none rfl _) ?_
          refine wp_of_callE (run_enter2 86 (.tmp 52) (.tmp 58) _ rfl _ _ rfl rfl ent_add) (add_t _ _ (prodZ [A1 - A2, A1 - A2, D1, D2]) (prodZ [N1, D2]) (prodZ [A1 - A2, A1 - A2, D1, D2] + prodZ [N1, D2]) wz (hF 7 (he ⟨7, .data⟩ (by simp) rfl)) (hF 13 (he ⟨13, .data⟩ (by simp) rfl)) rfl (sum_lim HLd.out BA.out BB.out)) ?_
          rintro e w' ⟨rr, rfl, hz, hx⟩
          exact ⟨_, rfl, upd vs 14 _, rfl, k0.trans hx, inv_step hF (fun j v h => o9F_mono hx j v h) hz⟩
        · refine step_yes (wanted_of_none rfl _) ?_
          obtain ⟨x9, hx9, hz9⟩ := (hF 14 (he ⟨14, .data⟩ (by simp) rfl))
          exact wp_of_run (run_extract0 59 (.tmp 59) rfl rfl _ _ (by exact hx9)) ⟨upd vs 15 _, rfl, k0, inv_step hF (fun _ _ h => h) hz9⟩
        · refine step_yes (wanted_of_none rfl _) ?_
          obtain ⟨x9, hx9, hz9⟩ := (hF 14 (he ⟨14, .data⟩ (by simp) rfl))
          exact wp_of_run (run_extract1 59 (.tmp 59) rfl rfl _ _ (by exact hx9)) ⟨upd vs 16 _, rfl, k0, inv_step hF (fun _ _ h => h) rfl⟩
        · refine step_yes (wanted_of_none rfl _) ?_
          refine wp_of_callE (run_enter2 84 (.tmp 60) (.tmp 61) _ rfl _ _ rfl (by exact (hF 16 (he ⟨16, .data⟩ (by simp) rfl))) ent_fitting) (fit_n _ _ wz (hF 15 (he ⟨15, .data⟩ (by simp) rfl))) ?_
          rintro e w' ⟨rr, rfl, hz, hx⟩
          exact ⟨_, rfl, upd vs 17 _, rfl, k0.trans hx, inv_step hF (fun j v h => o9F_mono hx j v h) hz⟩
        · refine step_yes (wanted_of_none rfl _) ?_
          exact wp_of_run (run_alloc_num rfl) ⟨upd vs 18 _, rfl, k0.trans (Ext.alloc _ _), inv_step hF (fun j v h => o9F_mono (Ext.alloc _ _) j v h) ⟨_, rfl, Below.size k0, RowAt.new _ _ _⟩⟩
      case fin9 =>
        rintro D ac wf9 hD ⟨vs, rfl, k0, hF⟩
        change wpList _ _ _ [_] _ _
        obtain ⟨g9, hg9, hl9, hr9⟩ := hF 18 (hD 18 (by decide))
        have hd9 : IsN (prodZ [A1 - A2, A1 - A2, D1, D2] + prodZ [N1, D2]) (vs 17) wf9 := hF 17 (hD 17 (by decide))
        obtain ⟨nw, pw, lw, kw, ew⟩ := hd9.parts
        rw [ew] at hd9
        rw [hg9, ew]
        have Q5 := Lib.hid (Nat.lt_of_lt_of_le S58.out.lt hl9)
        have Q6 := Lib.hid (Nat.lt_of_lt_of_le S68.out.lt hl9)
        have Q7 := Lib.hid (Nat.lt_of_lt_of_le S78.out.lt hl9)
        obtain ⟨WxS9, hWxS9⟩ : ∃ WxS9, WxS9 = wf9.setRow g9 (numCells nw pw lw kw) := ⟨_, rfl⟩
        have hx : Ext wf4 WxS9 := by rw [hWxS9]; exact ext_setRow k0 hl9 _
        have Zwn := Lib.hid (show ZNum WxS9.heap.size WxS9 _ _ from by rw [hWxS9, setRow_size]; exact ZNum.setNum hd9 hr9 _)
        have S9n := Lib.hid (show RowAt WxS9 g9 25 _ from by rw [hWxS9]; exact hr9.setRow _)
        have OS9 := Lib.hid hr9
        have HWxS9 := Lib.hid hWxS9
        have LS9 := Lib.hid (Nat.lt_of_lt_of_le (show w.heap.size + 1 < wf4.heap.size from B_8.out.lt) hl9)
        have N1_9 := Lib.hid (hx.num N1_8.out)
        have D1_9 := Lib.hid (hx.num D1_8.out)
        have N2_9 := Lib.hid (hx.num N2_8.out)
        have D2_9 := Lib.hid (hx.num D2_8.out)
        have E9 := Lib.hid (E8.out.trans hx)
        have A_9 := Lib.hid (hx.row A_8.out)
        have B_9 := Lib.hid (hx.row B_8.out)
        have Zd9 := Lib.hid (hx.num Zd8.out)
        have S59 := Lib.hid (hx.row S58.out)
        have Zs9 := Lib.hid (hx.num Zs8.out)
        have S69 := Lib.hid (hx.row S68.out)
        have Zu9 := Lib.hid (hx.num Zu8.out)
        have S79 := Lib.hid (hx.row S78.out)
        clear N1_8 D1_8 N2_8 D2_8 E8 A_8 B_8 Zd8 S58 Zs8 S68 Zu8 S78
        clear hx hWxS9 hF hD k0 hl9 hr9
        clear hd9 hg9 ew
        generalize vs = t9
        go_upto_region 10 with (first | (refine store_num rfl (.tmp 9) (.tmp 62) rfl g9 rfl _ _ _ _ rfl _ _ OS9.out rfl ?_; rw [← HWxS9.out]))
        go_upto_region 10 with fail
        refine wp_region_tail (fun D ac w' => ∃ vs : Nat → Value, ac = { tmps := #[Value.agg #[Value.int IntKind.i64 A1, Value.int IntKind.i64 s1, Value.bool false, Value.slice p1 n1 c1, Value.bool false, Value.slice q1 m1 e1], Value.agg #[Value.int IntKind.i64 A2, Value.int IntKind.i64 s2, Value.bool false, Value.slice p2 n2 c2, Value.bool false, Value.slice q2 m2 e2], Value.pointer (some { block := w.heap.size, off := 0 }), Value.pointer (some { block := w.heap.size + 1, off := 0 }), Value.int IntKind.i64 0, Value.pointer (some { block := g5, off := 0 }), Value.pointer (some { block := w3_.heap.size, off := 0 }), Value.pointer (some { block := w6_.heap.size, off := 0 }), Value.int IntKind.i64 u, Value.pointer (some { block := g9, off := 0 }), t1 0, t1 1, t1 2, t1 3, t1 4, t1 5, t1 6, t1 7, t1 8, Value.agg #[Value.bool nd, Value.slice pd ld kd], Value.pointer (some { block := w.heap.size, off := 1 }), Value.int IntKind.i64 s1, Value.agg #[Value.bool bs, Value.slice ps ns cs], Value.pointer (some { block := w.heap.size, off := 2 }), Value.agg #[Value.bool false, Value.slice p1 n1 c1], Value.pointer (some { block := w.heap.size, off := 4 }), Value.agg #[Value.bool false, Value.slice q1 m1 e1], Value.slice (some { block := W3b.heap.size, off := 0 }) 2 2, Value.agg #[Value.bool bu, Value.slice pu nu cu], t4 0, t4 1, t4 2, t4 3, t4 4, t4 5, t4 6, Value.int IntKind.i64 u, Value.int IntKind.i64 u, Value.pointer (some { block := w.heap.size + 1, off := 1 }), Value.int IntKind.i64 s2, Value.bool false, Value.int IntKind.i64 u, Value.pointer (some { block := w.heap.size + 1, off := 1 }), Value.int IntKind.i64 s2, Value.bool false, t9 0, t9 1, t9 2, t9 3, t9 4, t9 5, t9 6, t9 7, t9 8, t9 9, t9 10, t9 11, t9 12, t9 13, t9 14, t9 15, t9 16, Value.agg #[Value.bool nw, Value.slice pw lw kw], vs 0, vs 1, vs 2, vs 3, vs 4, vs 5, vs 6, vs 7, vs 8, vs 9, vs 10, undef, undef, undef, undef, undef, undef, undef, undef, undef, undef, undef, undef], defers := [] } ∧ Ext WxS9 w' ∧ ∀ j, D j → o10F w.heap.size (.agg #[.bool nw, .slice pw lw kw]) (.agg #[.bool false, .slice p2 n2 c2]) (.agg #[.bool false, .slice q1 m1 e1]) (prodZ [A1 - A2, A1 - A2, D1, D2] + prodZ [N1, D2]) N2 D1 j (vs j) w') 11 (by kernel_rfl) (by kernel_rfl) (by kernel_rfl) ?start10 ?step10 ?fin10
        case start10 => exact ⟨fun _ => undef, rfl, Ext.drew _, fun _ h => h.elim⟩
        case step10 =>
          rintro i o D ac wz hin hio hnd he ⟨vs, rfl, k0, hF⟩
          rcases i with _ | _ | _ | _ | _ | _ | _ | _ | _ | _ | _ | i
          rotate_left 11
          · exact absurd hin (by omega)
          all_goals (obtain rfl := Option.some.inj (hio.symm.trans (by rfl)))
          · refine step_yes (wanted_of_none rfl _) ?_
            exact wp_of_run (run_load_num (.tmp 9) rfl _ rfl _ _ _ _ _ (k0.row S9n.out)) ⟨upd vs 0 _, rfl, k0, inv_step hF (fun _ _ h => h) rfl⟩
          · refine step_yes (wanted_of_none rfl _) ?_
            exact wp_of_run (run_rfield 2 2 (by decide) (.tmp 3) rfl (w.heap.size + 1) rfl) ⟨upd vs 1 _, rfl, k0, inv_step hF (fun _ _ h => h) rfl⟩
          · refine step_yes (wanted_of_none rfl _) ?_
            exact wp_of_run (run_load_rnum (.tmp 64) rfl (w.heap.size + 1) 2 (by exact (hF 1 (he ⟨1, .data⟩ (by simp) rfl))) false p2 n2 c2 (k0.row B_9.out).root2 (k0.row B_9.out).root3) ⟨upd vs 2 _, rfl, k0, inv_step hF (fun _ _ h => h) rfl⟩
          · refine step_yes (wanted_of_none rfl _) ?_
            exact wp_of_run (run_rfield 3 4 (by decide) (.tmp 2) rfl w.heap.size rfl) ⟨upd vs 3 _, rfl, k0, inv_step hF (fun _ _ h => h) rfl⟩
          · refine step_yes (wanted_of_none rfl _) ?_
            exact wp_of_run (run_load_rnum (.tmp 66) rfl w.heap.size 4 (by exact (hF 3 (he ⟨3, .data⟩ (by simp) rfl))) false q1 m1 e1 (k0.row A_9.out).root4 (k0.row A_9.out).root5) ⟨upd vs 4 _, rfl, k0, inv_step hF (fun _ _ h => h) rfl⟩
          · refine step_yes (wanted_of_none rfl _) ?_
            refine wp_build2 (.tmp 65) (.tmp 67) rfl _ _ N2 D1 (by exact (hF 2 (he ⟨2, .data⟩ (by simp) rfl))) (by exact (hF 4 (he ⟨4, .data⟩ (by simp) rfl))) (k0.num N2_9.out) (k0.num D1_9.out) ?_
            intro v w' hN hx
            exact ⟨upd vs 5 v, rfl, k0.trans hx, inv_step hF (fun j v h => o10F_mono hx j v h) hN⟩
          · refine step_yes (wanted_of_none rfl _) ?_
            refine wp_of_callE (run_enter1 83 (.tmp 68) _ rfl _ rfl ent_product) (rootProduct_calls _ [N2, D1] wz (hF 5 (he ⟨5, .data⟩ (by simp) rfl)) (by simp) (prod_lim2 BB.out.n8 BA.out.d8 (by decide))) ?_
            rintro e w' ⟨rr, rfl, hz, hx⟩
            exact ⟨_, rfl, upd vs 6 _, rfl, k0.trans hx, inv_step hF (fun j v h => o10F_mono hx j v h) hz⟩
          · refine step_yes (wanted_of_none rfl _) ?_
            refine wp_of_callE (run_enter2 85 (.tmp 63) (.tmp 69) _ rfl _ _ (by exact (hF 0 (he ⟨0, .data⟩ (by simp) rfl))) rfl ent_sub) (sub_t _ _ (prodZ [A1 - A2, A1 - A2, D1, D2] + prodZ [N1, D2]) (prodZ [N2, D1]) ((prodZ [A1 - A2, A1 - A2, D1, D2] + prodZ [N1, D2]) - prodZ [N2, D1]) wz (k0.num Zwn.out) (hF 6 (he ⟨6, .data⟩ (by simp) rfl)) rfl (lim_64 (whole_lim2 BA.out BB.out) (by decide))) ?_
            rintro e w' ⟨rr, rfl, hz, hx⟩
            exact ⟨_, rfl, upd vs 7 _, rfl, k0.trans hx, inv_step hF (fun j v h => o10F_mono hx j v h) hz⟩
          · refine step_yes (wanted_of_none rfl _) ?_
            obtain ⟨x9, hx9, hz9⟩ := (hF 7 (he ⟨7, .data⟩ (by simp) rfl))
            exact wp_of_run (run_extract0 70 (.tmp 70) rfl rfl _ _ (by exact hx9)) ⟨upd vs 8 _, rfl, k0, inv_step hF (fun _ _ h => h) hz9⟩
          · refine step_yes (wanted_of_none rfl _) ?_
            obtain ⟨x9, hx9, hz9⟩ := (hF 7 (he ⟨7, .data⟩ (by simp) rfl))
            exact wp_of_run (run_extract1 70 (.tmp 70) rfl rfl _ _ (by exact hx9)) ⟨upd vs 9 _, rfl, k0, inv_step hF (fun _ _ h => h) rfl⟩
          · refine step_yes (wanted_of_none rfl _) ?_
            refine wp_of_callE (run_enter2 84 (.tmp 71) (.tmp 72) _ rfl _ _ rfl (by exact (hF 9 (he ⟨9, .data⟩ (by simp) rfl))) ent_fitting) (fit_n _ _ wz (hF 8 (he ⟨8, .data⟩ (by simp) rfl))) ?_
            rintro e w' ⟨rr, rfl, hz, hx⟩
            exact ⟨_, rfl, upd vs 10 _, rfl, k0.trans hx, inv_step hF (fun j v h => o10F_mono hx j v h) hz⟩
        case fin10 =>
          rintro D ac wf10 hD ⟨vs, rfl, k0, hF⟩
          change wpList _ _ _ [_] _ _
          have hd9 : IsN ((prodZ [A1 - A2, A1 - A2, D1, D2] + prodZ [N1, D2]) - prodZ [N2, D1]) (vs 10) wf10 := hF 10 (hD 10 (by decide))
          obtain ⟨ny, py, ly, ky, ey⟩ := hd9.parts
          rw [ey] at hd9
          rw [ey]
          have N1_10 := Lib.hid (k0.num N1_9.out)
          have D1_10 := Lib.hid (k0.num D1_9.out)
          have N2_10 := Lib.hid (k0.num N2_9.out)
          have D2_10 := Lib.hid (k0.num D2_9.out)
          have E10 := Lib.hid (E9.out.trans k0)
          have A_10 := Lib.hid (k0.row A_9.out)
          have B_10 := Lib.hid (k0.row B_9.out)
          have Zd10 := Lib.hid (k0.num Zd9.out)
          have S510 := Lib.hid (k0.row S59.out)
          have Zs10 := Lib.hid (k0.num Zs9.out)
          have S610 := Lib.hid (k0.row S69.out)
          have Zu10 := Lib.hid (k0.num Zu9.out)
          have S710 := Lib.hid (k0.row S79.out)
          have Zw10 := Lib.hid (k0.num Zwn.out)
          have S910 := Lib.hid (k0.row S9n.out)
          clear N1_9 D1_9 N2_9 D2_9 E9 A_9 B_9 Zd9 S59 Zs9 S69 Zu9 S79 Zwn S9n
          have Zyn := Lib.hid hd9
          clear hF hD k0 hd9 ey
          generalize vs = t10
          obtain ⟨W10c, hW10c⟩ : ∃ W10c, W10c = wf10.setRow g9 (numCells ny py ly ky) := ⟨_, rfl⟩
          have N1_11 := Lib.hid (show ZNum W10c.heap.size W10c _ _ from by rw [hW10c, setRow_size]; exact N1_10.out.setNum S910.out _)
          have D1_11 := Lib.hid (show ZNum W10c.heap.size W10c _ _ from by rw [hW10c, setRow_size]; exact D1_10.out.setNum S910.out _)
          have N2_11 := Lib.hid (show ZNum W10c.heap.size W10c _ _ from by rw [hW10c, setRow_size]; exact N2_10.out.setNum S910.out _)
          have D2_11 := Lib.hid (show ZNum W10c.heap.size W10c _ _ from by rw [hW10c, setRow_size]; exact D2_10.out.setNum S910.out _)
          have E11 : Hid (Ext w W10c) := by rw [hW10c]; exact ext_setRow E10.out (by have := LS9.out; omega) _
          have A_11 := Lib.hid (show RowAt W10c (w.heap.size) _ _ from by rw [hW10c]; exact A_10.out.setRowOther _ (by first | (have := LS9.out; omega) | (have := Q5.out; omega) | (have := Q6.out; omega) | (have := Q7.out; omega)))
          have B_11 := Lib.hid (show RowAt W10c (w.heap.size + 1) _ _ from by rw [hW10c]; exact B_10.out.setRowOther _ (by first | (have := LS9.out; omega) | (have := Q5.out; omega) | (have := Q6.out; omega) | (have := Q7.out; omega)))
          have Zd11 := Lib.hid (show ZNum W10c.heap.size W10c _ _ from by rw [hW10c, setRow_size]; exact Zd10.out.setNum S910.out _)
          have S511 := Lib.hid (show RowAt W10c g5 _ _ from by rw [hW10c]; exact S510.out.setRowOther _ (by first | (have := LS9.out; omega) | (have := Q5.out; omega) | (have := Q6.out; omega) | (have := Q7.out; omega)))
          have Zs11 := Lib.hid (show ZNum W10c.heap.size W10c _ _ from by rw [hW10c, setRow_size]; exact Zs10.out.setNum S910.out _)
          have S611 := Lib.hid (show RowAt W10c w3_.heap.size _ _ from by rw [hW10c]; exact S610.out.setRowOther _ (by first | (have := LS9.out; omega) | (have := Q5.out; omega) | (have := Q6.out; omega) | (have := Q7.out; omega)))
          have Zu11 := Lib.hid (show ZNum W10c.heap.size W10c _ _ from by rw [hW10c, setRow_size]; exact Zu10.out.setNum S910.out _)
          have S711 := Lib.hid (show RowAt W10c w6_.heap.size _ _ from by rw [hW10c]; exact S710.out.setRowOther _ (by first | (have := LS9.out; omega) | (have := Q5.out; omega) | (have := Q6.out; omega) | (have := Q7.out; omega)))
          have S911 : Hid (RowAt W10c g9 25 (numCells ny py ly ky)) := by rw [hW10c]; exact S910.out.setRow _
          have Zy11 := Lib.hid (show ZNum W10c.heap.size W10c _ _ from by rw [hW10c, setRow_size]; exact Zyn.out.setNum S910.out _)
          have HW10c := Lib.hid hW10c
          clear hW10c N1_10 D1_10 N2_10 D2_10 E10 A_10 B_10 Zd10 S510 Zs10 S610 Zu10 S710 Zyn
          go_upto_region 11 with (first | (refine store_num rfl (.tmp 9) (.tmp 73) rfl g9 rfl _ _ _ _ rfl _ _ S910.out rfl ?_; rw [← HW10c.out]))
          go_upto_region 11 with fail
          refine wp_region_tail (fun D ac w' => ∃ vs : Nat → Value, ac = { tmps := #[Value.agg #[Value.int IntKind.i64 A1, Value.int IntKind.i64 s1, Value.bool false, Value.slice p1 n1 c1, Value.bool false, Value.slice q1 m1 e1], Value.agg #[Value.int IntKind.i64 A2, Value.int IntKind.i64 s2, Value.bool false, Value.slice p2 n2 c2, Value.bool false, Value.slice q2 m2 e2], Value.pointer (some { block := w.heap.size, off := 0 }), Value.pointer (some { block := w.heap.size + 1, off := 0 }), Value.int IntKind.i64 0, Value.pointer (some { block := g5, off := 0 }), Value.pointer (some { block := w3_.heap.size, off := 0 }), Value.pointer (some { block := w6_.heap.size, off := 0 }), Value.int IntKind.i64 u, Value.pointer (some { block := g9, off := 0 }), t1 0, t1 1, t1 2, t1 3, t1 4, t1 5, t1 6, t1 7, t1 8, Value.agg #[Value.bool nd, Value.slice pd ld kd], Value.pointer (some { block := w.heap.size, off := 1 }), Value.int IntKind.i64 s1, Value.agg #[Value.bool bs, Value.slice ps ns cs], Value.pointer (some { block := w.heap.size, off := 2 }), Value.agg #[Value.bool false, Value.slice p1 n1 c1], Value.pointer (some { block := w.heap.size, off := 4 }), Value.agg #[Value.bool false, Value.slice q1 m1 e1], Value.slice (some { block := W3b.heap.size, off := 0 }) 2 2, Value.agg #[Value.bool bu, Value.slice pu nu cu], t4 0, t4 1, t4 2, t4 3, t4 4, t4 5, t4 6, Value.int IntKind.i64 u, Value.int IntKind.i64 u, Value.pointer (some { block := w.heap.size + 1, off := 1 }), Value.int IntKind.i64 s2, Value.bool false, Value.int IntKind.i64 u, Value.pointer (some { block := w.heap.size + 1, off := 1 }), Value.int IntKind.i64 s2, Value.bool false, t9 0, t9 1, t9 2, t9 3, t9 4, t9 5, t9 6, t9 7, t9 8, t9 9, t9 10, t9 11, t9 12, t9 13, t9 14, t9 15, t9 16, Value.agg #[Value.bool nw, Value.slice pw lw kw], t10 0, t10 1, t10 2, t10 3, t10 4, t10 5, t10 6, t10 7, t10 8, t10 9, Value.agg #[Value.bool ny, Value.slice py ly ky], vs 0, vs 1, vs 2, vs 3, vs 4, vs 5, vs 6, vs 7, vs 8, vs 9, vs 10, vs 11], defers := [] } ∧ Ext W10c w' ∧ ∀ j, D j → o11F w.heap.size u (.agg #[.bool ny, .slice py ly ky]) (.agg #[.bool nd, .slice pd ld kd]) (.agg #[.bool bs, .slice ps ns cs]) (.agg #[.bool false, .slice q2 m2 e2]) (.agg #[.bool bu, .slice pu nu cu]) ((prodZ [A1 - A2, A1 - A2, D1, D2] + prodZ [N1, D2]) - prodZ [N2, D1]) (A1 - A2) s1 D2 (prodZ [N1, D1]) rv j (vs j) w') 12 (by kernel_rfl) (by kernel_rfl) (by kernel_rfl) ?start11 ?step11 ?fin11
          case start11 => exact ⟨fun _ => undef, rfl, Ext.drew _, fun _ h => h.elim⟩
          case step11 =>
            rintro i o D ac wz hin hio hnd he ⟨vs, rfl, k0, hF⟩
            rcases i with _ | _ | _ | _ | _ | _ | _ | _ | _ | _ | _ | _ | i
            rotate_left 12
            · exact absurd hin (by omega)
            all_goals (obtain rfl := Option.some.inj (hio.symm.trans (by rfl)))
            · refine step_yes (wanted_of_none rfl _) ?_
              exact wp_of_run (run_mov (.tmp 8) rfl _ rfl) ⟨upd vs 0 _, rfl, k0, inv_step hF (fun _ _ h => h) rfl⟩
            · refine step_yes (wanted_of_none rfl _) ?_
              exact wp_of_run (run_load_num (.tmp 9) rfl _ rfl _ _ _ _ _ (k0.row S911.out)) ⟨upd vs 1 _, rfl, k0, inv_step hF (fun _ _ h => h) rfl⟩
            · refine step_yes (wanted_of_none rfl _) ?_
              refine wp_of_callE (run_enter1 36 (.const (.int .i64 2)) _ rfl _ rfl ent_of) (of_n 2 (by decide) wz) ?_
              rintro e w' ⟨rr, rfl, hz, hx⟩
              exact ⟨_, rfl, upd vs 2 _, rfl, k0.trans hx, inv_step hF (fun j v h => o11F_mono hx j v h) hz⟩
            · refine step_yes (wanted_of_none rfl _) ?_
              exact wp_of_run (run_load_num (.tmp 5) rfl _ rfl _ _ _ _ _ (k0.row S511.out)) ⟨upd vs 3 _, rfl, k0, inv_step hF (fun _ _ h => h) rfl⟩
            · refine step_yes (wanted_of_none rfl _) ?_
              exact wp_of_run (run_load_num (.tmp 6) rfl _ rfl _ _ _ _ _ (k0.row S611.out)) ⟨upd vs 4 _, rfl, k0, inv_step hF (fun _ _ h => h) rfl⟩
            · refine step_yes (wanted_of_none rfl _) ?_
              exact wp_of_run (run_rfield 3 4 (by decide) (.tmp 3) rfl (w.heap.size + 1) rfl) ⟨upd vs 5 _, rfl, k0, inv_step hF (fun _ _ h => h) rfl⟩
            · refine step_yes (wanted_of_none rfl _) ?_
              exact wp_of_run (run_load_rnum (.tmp 79) rfl (w.heap.size + 1) 4 (by exact (hF 5 (he ⟨5, .data⟩ (by simp) rfl))) false q2 m2 e2 (k0.row B_11.out).root4 (k0.row B_11.out).root5) ⟨upd vs 6 _, rfl, k0, inv_step hF (fun _ _ h => h) rfl⟩
            · refine step_yes (wanted_of_none rfl _) ?_
              refine wp_build4 (.tmp 76) (.tmp 77) (.tmp 78) (.tmp 80) rfl _ _ _ _ 2 (A1 - A2) s1 D2 rfl (by exact (hF 3 (he ⟨3, .data⟩ (by simp) rfl))) (by exact (hF 4 (he ⟨4, .data⟩ (by simp) rfl))) (by exact (hF 6 (he ⟨6, .data⟩ (by simp) rfl))) (hF 2 (he ⟨2, .data⟩ (by simp) rfl)) (k0.num Zd11.out) (k0.num Zs11.out) (k0.num D2_11.out) ?_
              intro v w' hN hx
              exact ⟨upd vs 7 v, rfl, k0.trans hx, inv_step hF (fun j v h => o11F_mono hx j v h) hN⟩
            · refine step_yes (wanted_of_none rfl _) ?_
              refine wp_of_callE (run_enter1 83 (.tmp 81) _ rfl _ rfl ent_product) (rootProduct_calls _ [2, A1 - A2, s1, D2] wz (hF 7 (he ⟨7, .data⟩ (by simp) rfl)) (by simp) (prod_lim4 (i := 1) (by decide) HLd.out HLs.out BB.out.d8 (by decide))) ?_
              rintro e w' ⟨rr, rfl, hz, hx⟩
              exact ⟨_, rfl, upd vs 8 _, rfl, k0.trans hx, inv_step hF (fun j v h => o11F_mono hx j v h) hz⟩
            · refine step_yes (wanted_of_none rfl _) ?_
              exact wp_of_run (run_load_num (.tmp 7) rfl _ rfl _ _ _ _ _ (k0.row S711.out)) ⟨upd vs 9 _, rfl, k0, inv_step hF (fun _ _ h => h) rfl⟩
            · refine step_yes (wanted_of_none rfl _) ?_
              refine wp_of_callE (run_enter3 55 (.tmp 75) (.tmp 82) (.tmp 83) _ rfl _ _ _ (by exact (hF 1 (he ⟨1, .data⟩ (by simp) rfl))) rfl (by exact (hF 9 (he ⟨9, .data⟩ (by simp) rfl))) ent_signOf) (signOf_calls _ _ _ ((prodZ [A1 - A2, A1 - A2, D1, D2] + prodZ [N1, D2]) - prodZ [N2, D1]) (prodZ [2, A1 - A2, s1, D2]) (prodZ [N1, D1]) wz (k0.num Zy11.out) (hF 8 (he ⟨8, .data⟩ (by simp) rfl)) (k0.num Zu11.out) (by simp [prodZ]; exact Int.mul_nonneg BA.out.n0 (by have := BA.out.d1; omega)) (whole_lim2 BA.out BB.out) (twice_lim HLd.out HLs.out BB.out.d8) (by simp [prodZ]; exact Nat.lt_of_lt_of_le (lim_mulB BA.out.n8 BA.out.d8) (Nat.pow_le_pow_right B32_pos (by decide)))) ?_
              rintro e w' ⟨rfl, hx⟩
              exact ⟨_, rfl, upd vs 10 _, rfl, k0.trans hx, inv_step hF (fun j v h => o11F_mono hx j v h) rfl⟩
            · refine step_yes (wanted_of_none rfl _) ?_
              exact wp_of_run (run_mul_int (.tmp 74) (.tmp 84) rfl rfl _ _ rv (by exact (hF 0 (he ⟨0, .data⟩ (by simp) rfl))) (by exact (hF 10 (he ⟨10, .data⟩ (by simp) rfl))) (by rw [Hr.out]; exact wrap_small Hu3.out (RM.sideZ_range _ _ _))) ⟨upd vs 11 _, rfl, k0, inv_step hF (fun _ _ h => h) rfl⟩
          case fin11 =>
            rintro D ac wf11 hD ⟨vs, rfl, k0, hF⟩
            change wpList _ _ _ [_] _ _
            have h11 : vs 11 = .int .i64 rv := hF 11 (hD 11 (by decide))
            rw [h11]
            have XX := Lib.hid (E11.out.trans k0)
            clear hF hD h11 k0
            generalize vs = t11
            go_wp2
            go_ret
            exact ⟨rfl, XX.out⟩
end Go.Proofs.YtegjcikofmphjaaGreatDoor

