/- MeetTurns: neither the order nor directions nor motions play a part. -/
import Derived.Test.YtmoclgpdcnjacaaMx
set_option linter.all false
set_option autoImplicit false
namespace Go.Proofs.Ytmoclgpdcnjacaa.Sx
open Go Go.RowKit

def kC (k : Int) : C := .int .i64 (.lit k)
def entK (k k2 : Int) : List Ent := [sanE, ⟨9, [.c (.abs 0 .nil), .c (.int .i64 (.lit 1))], .agg [kC k, iv 1, iv 2, iv 3, iv 4, iv 5, iv 6]⟩, ⟨9, [.c (.abs 1 .nil), .c (.int .i64 (.lit 1))], .agg [kC k2, iv 8, iv 9, iv 10, iv 11, iv 12, iv 13]⟩]
def tuT : T := .bin .rem (.bin .add (.bin .rem (.var 16) (.lit 4)) (.lit 4)) (.lit 4)
def mX (m : Bool) (a b : Nat) : T := .app (bif m then 7 else 9) (tlM [.bin .rem (.var 14) (.lit 1000), tuT, .var a, .var b])
def mY (m : Bool) (a b : Nat) : T := .app (bif m then 8 else 10) (tlM [.bin .rem (.var 15) (.lit 1000), tuT, .var a, .var b])
def is1 (k : Int) : Bool := decide (k = 1)
def oppM (m : Bool) (k : Int) : Int := bif m then opp k else k
def cntT (k k2 : Int) : T := .app 12 (tlM [.lit k, .var 1, .var 2, .var 3, .var 4, .var 5, .var 6, .lit k2, .var 8, .var 9, .var 10, .var 11, .var 12, .var 13])
def turnF (k k2 : Int) (m : Bool) : List (B × Bool) := [
  (.eq (.app 12 (tlM [.lit k2, .var 8, .var 9, .var 10, .var 11, .var 12, .var 13, .lit k, .var 1, .var 2, .var 3, .var 4, .var 5, .var 6])) (cntT k k2), true),
  (.eq (.app 12 (tlM [.lit (opp k), .var 3, .var 4, .var 1, .var 2, .var 5, .var 6, .lit k2, .var 8, .var 9, .var 10, .var 11, .var 12, .var 13])) (cntT k k2), true),
  (.eq (.app 12 (tlM [.lit k, .var 1, .var 2, .var 3, .var 4, .var 5, .var 6, .lit (opp k2), .var 10, .var 11, .var 8, .var 9, .var 12, .var 13])) (cntT k k2), true),
  (.eq (.app 12 (tlM [.lit (oppM m k), mX m 1 2, mY m 1 2, mX m 3 4, mY m 3 4, bif is1 k then .var 5 else mX m 5 6, bif is1 k then .var 6 else mY m 5 6, .lit (oppM m k2), mX m 8 9, mY m 8 9, mX m 10 11, mY m 10 11, bif is1 k2 then .var 12 else mX m 12 13, bif is1 k2 then .var 13 else mY m 12 13])) (cntT k k2), true)]
/-- The facts, with all terms evaluated first. -/
noncomputable def turnRun (k k2 : Int) (m : Bool) : Bool := leavesOk isYes (vals (execF Try.prog (ctOr (ctL (entK k k2)) ctM) 20 3 [.c (.abs 0 .nil), .c (.abs 1 .nil), .agg [iv 14, iv 15, iv 16, .bool (.lit m)]] ⟨[], 0, ⟨turnF k k2 m, [0, 2], 0⟩⟩))
set_option maxRecDepth 1000000 in
theorem turn_11t : turnRun 1 1 true = true := by kernel_rfl
set_option maxRecDepth 1000000 in
theorem turn_11f : turnRun 1 1 false = true := by kernel_rfl
set_option maxRecDepth 1000000 in
theorem turn_12t : turnRun 1 2 true = true := by kernel_rfl
set_option maxRecDepth 1000000 in
theorem turn_12f : turnRun 1 2 false = true := by kernel_rfl
set_option maxRecDepth 1000000 in
theorem turn_13t : turnRun 1 3 true = true := by kernel_rfl
set_option maxRecDepth 1000000 in
theorem turn_13f : turnRun 1 3 false = true := by kernel_rfl
set_option maxRecDepth 1000000 in
theorem turn_21t : turnRun 2 1 true = true := by kernel_rfl
set_option maxRecDepth 1000000 in
theorem turn_21f : turnRun 2 1 false = true := by kernel_rfl
set_option maxRecDepth 1000000 in
theorem turn_22t : turnRun 2 2 true = true := by kernel_rfl
set_option maxRecDepth 1000000 in
theorem turn_22f : turnRun 2 2 false = true := by kernel_rfl
set_option maxRecDepth 1000000 in
theorem turn_23t : turnRun 2 3 true = true := by kernel_rfl
set_option maxRecDepth 1000000 in
theorem turn_23f : turnRun 2 3 false = true := by kernel_rfl
set_option maxRecDepth 1000000 in
theorem turn_31t : turnRun 3 1 true = true := by kernel_rfl
set_option maxRecDepth 1000000 in
theorem turn_31f : turnRun 3 1 false = true := by kernel_rfl
set_option maxRecDepth 1000000 in
theorem turn_32t : turnRun 3 2 true = true := by kernel_rfl
set_option maxRecDepth 1000000 in
theorem turn_32f : turnRun 3 2 false = true := by kernel_rfl
set_option maxRecDepth 1000000 in
theorem turn_33t : turnRun 3 3 true = true := by kernel_rfl
set_option maxRecDepth 1000000 in
theorem turn_33f : turnRun 3 3 false = true := by kernel_rfl
theorem turn_run {k k2 : Int} (h1 : 1 ≤ k) (h2 : k ≤ 3) (h3 : 1 ≤ k2) (h4 : k2 ≤ 3) (m : Bool) : turnRun k k2 m = true := by
  have a : k = 1 ∨ k = 2 ∨ k = 3 := by omega
  have b : k2 = 1 ∨ k2 = 2 ∨ k2 = 3 := by omega
  rcases a with rfl | rfl | rfl <;> rcases b with rfl | rfl | rfl <;> cases m
  · exact turn_11f
  · exact turn_11t
  · exact turn_12f
  · exact turn_12t
  · exact turn_13f
  · exact turn_13t
  · exact turn_21f
  · exact turn_21t
  · exact turn_22f
  · exact turn_22t
  · exact turn_23f
  · exact turn_23t
  · exact turn_31f
  · exact turn_31t
  · exact turn_32f
  · exact turn_32t
  · exact turn_33f
  · exact turn_33t
section
variable {W : World} {l0 l1 : Ls} {ρ : Env}
theorem mX_den (m : Bool) (a b : Nat) : (mX m a b).den (IL W l0 l1) ρ = apX ((ρ.i 14).tmod 1000) ((((ρ.i 16).tmod 4) + 4).tmod 4) m (ρ.i a) (ρ.i b) := by cases m <;> rfl
theorem mY_den (m : Bool) (a b : Nat) : (mY m a b).den (IL W l0 l1) ρ = apY ((ρ.i 15).tmod 1000) ((((ρ.i 16).tmod 4) + 4).tmod 4) m (ρ.i a) (ρ.i b) := by cases m <;> rfl
theorem turnF_ok {k k2 : Int} (m : Bool) (ha : MadeB k (ρ.i 1) (ρ.i 2) (ρ.i 3) (ρ.i 4) (ρ.i 5) (ρ.i 6)) (hb : MadeB k2 (ρ.i 8) (ρ.i 9) (ρ.i 10) (ρ.i 11) (ρ.i 12) (ρ.i 13)) : ∀ p ∈ turnF k k2 m, p.1.den (IL W l0 l1) ρ = p.2 := by
  have hc : (cntT k k2).den (IL W l0 l1) ρ = countZ k (ρ.i 1) (ρ.i 2) (ρ.i 3) (ρ.i 4) (ρ.i 5) (ρ.i 6) k2 (ρ.i 8) (ρ.i 9) (ρ.i 10) (ρ.i 11) (ρ.i 12) (ρ.i 13) := rfl
  have j1 := tm (ρ.i 14) (show (0 : Int) < 1000 by omega)
  have j2 := tm (ρ.i 15) (show (0 : Int) < 1000 by omega)
  have j3 := tm (ρ.i 16) (show (0 : Int) < 4 by omega)
  have j4 := tm0 (show (0 : Int) < 4 by omega) (show 0 ≤ (ρ.i 16).tmod 4 + 4 by omega)
  have j5 := tm ((ρ.i 16).tmod 4 + 4) (show (0 : Int) < 4 by omega)
  intro p hp
  simp only [turnF, List.mem_cons, List.not_mem_nil, or_false] at hp
  rcases hp with rfl | rfl | rfl | rfl
  · exact B.eq_t.2 (countZ_symm ha.1 hb.1)
  · exact B.eq_t.2 (countZ_rev ha.1 hb.1 rfl)
  · exact B.eq_t.2 (countZ_rev2 ha.1 hb.1 rfl)
  · refine B.eq_t.2 ?_
    rw [hc]
    simp only [T.den_app, tlM, T.dens_cons, T.dens_nil, T.den_lit, mX_den, mY_den, il_fi, fi12]
    refine count_mv (k := k) (k2 := k2) m ha hb ⟨j4, j5.2⟩ (by omega) (by omega) ?_ ?_ ?_ ?_
    · cases m <;> rfl
    · cases m <;> rfl
    · by_cases h : k = 1
      · rw [show is1 k = true from decide_eq_true h]; exact .inl ⟨h, rfl, rfl⟩
      · rw [show is1 k = false from decide_eq_false h]; exact .inr ⟨h, mX_den m 5 6, mY_den m 5 6⟩
    · by_cases h : k2 = 1
      · rw [show is1 k2 = true from decide_eq_true h]; exact .inl ⟨h, rfl, rfl⟩
      · rw [show is1 k2 = false from decide_eq_false h]; exact .inr ⟨h, mX_den m 12 13, mY_den m 12 13⟩
end
theorem meetTurns_law (l0 l1 : Ls) (u v t : Int) (m : Bool) (W : World) (h0 : l0.Ok W) (h1 : l1.Ok W) :
    Calls Try.prog 3 #[l0.v, l1.v, .agg #[.int .i64 u, .int .i64 v, .int .i64 t, .bool m]] W (fun e w' => e = .returned (.bool true) ∧ Below W.heap.size W w') := by
  obtain ⟨r, ⟨k, ax, ay, bx, by', cx, cy, rfl, hb⟩, hm⟩ := made_ex h0 h1
  obtain ⟨r, ⟨k2, px, py, qx, qy, rx, ry, rfl, hb2⟩, hn⟩ := made_ex h1 h0
  have hct : CTOk Try.prog (IL W l0 l1) (envOf [k, ax, ay, bx, by', cx, cy, k2, px, py, qx, qy, rx, ry, u, v, t] []) (ctOr (ctL (entK k k2)) ctM) := by
    refine ctOr_ok (ctL_ok fun e he => ?_) (ctM_ok h0 h1 _)
    simp only [entK, List.mem_cons, List.not_mem_nil, or_false] at he
    rcases he with rfl | rfl | rfl
    · exact sanE_ok (W := W) (l0 := l0) (l1 := l1) _
    · exact ⟨rfl, rfl, hm⟩
    · exact ⟨rfl, rfl, hn⟩
  have h' := @calls_yes Try.prog (IL W l0 l1) (envOf [k, ax, ay, bx, by', cx, cy, k2, px, py, qx, qy, rx, ry, u, v, t] []) mixed nocount (ctOr (ctL (entK k k2)) ctM) hct 20 3 [.c (.abs 0 .nil), .c (.abs 1 .nil), .agg [iv 14, iv 15, iv 16, .bool (.lit m)]] ⟨turnF k k2 m, [0, 2], 0⟩ W (hyp_fixed rfl)
    (draws_ok (n := 0) (turnF_ok m hb hb2) (fun _ h => absurd h (Nat.not_lt_zero _))) rfl (turn_run hb.1.1 hb.1.2.1 hb2.1.1 hb2.1.2.1 m)
  exact h'
end Go.Proofs.Ytmoclgpdcnjacaa.Sx
