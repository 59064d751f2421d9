/- Tables of the laws with two made edges. -/
import Derived.Test.YtmoclgpdcnjacaaMr
set_option linter.all false
namespace Go.Proofs.Ytmoclgpdcnjacaa.Sx
open Go Go.RowKit

def E0 : List C := [iv 0, iv 1, iv 2, iv 3, iv 4, iv 5, iv 6]
def E1 : List C := [iv 7, iv 8, iv 9, iv 10, iv 11, iv 12, iv 13]
def entD : List Ent := [sanE, ⟨9, [.c (.abs 0 .nil), .c (.int .i64 (.lit 1))], .agg [iv 0, iv 1, iv 2, iv 3, iv 4, iv 5, iv 6]⟩, ⟨9, [.c (.abs 1 .nil), .c (.int .i64 (.lit 1))], .agg [iv 7, iv 8, iv 9, iv 10, iv 11, iv 12, iv 13]⟩]
/-- With motions as symbols, or walked. -/
def ctD : CT := ctOr (ctL entD) ctM
def ctDE : CT := ctOr (ctL entD) ctNE
section
variable {W : World} {l0 l1 : Ls} (h0 : l0.Ok W) (h1 : l1.Ok W) (ρ : Env)
theorem entD_ok (hm : ∀ w, Hyp (IL W l0 l1) w (fun _ => False) → Calls Try.prog 9 #[l0.v, .int .i64 1] w (fun e w' => e = .returned (.agg #[.int .i64 (ρ.i 0), .int .i64 (ρ.i 1), .int .i64 (ρ.i 2), .int .i64 (ρ.i 3), .int .i64 (ρ.i 4), .int .i64 (ρ.i 5), .int .i64 (ρ.i 6)]) ∧ Below w.heap.size w w'))
    (hn : ∀ w, Hyp (IL W l1 l0) w (fun _ => False) → Calls Try.prog 9 #[l1.v, .int .i64 1] w (fun e w' => e = .returned (.agg #[.int .i64 (ρ.i 7), .int .i64 (ρ.i 8), .int .i64 (ρ.i 9), .int .i64 (ρ.i 10), .int .i64 (ρ.i 11), .int .i64 (ρ.i 12), .int .i64 (ρ.i 13)]) ∧ Below w.heap.size w w')) :
    ∀ e ∈ entD, entOk W l0 l1 ρ e := by
  intro e he
  simp only [entD, List.mem_cons, List.not_mem_nil, or_false] at he
  rcases he with rfl | rfl | rfl
  · exact sanE_ok ρ
  · exact ⟨rfl, rfl, hm⟩
  · exact ⟨rfl, rfl, hn⟩
end
theorem yes_eq {I : Interp} {ρ : Env} {β : Nat → Nat} {a b : T} (h : a.den I ρ = b.den I ρ) : V.den I ρ β (.c (.bool (.eq a b))) = .bool true := by simp [V.den, C.den, B.den, h]
theorem no_eq {I : Interp} {ρ : Env} {β : Nat → Nat} {a b : T} (h : a.den I ρ ≠ b.den I ρ) : V.den I ρ β (.c (.bool (.not (.eq a b)))) = .bool true := by simp [V.den, C.den, B.den, h]
theorem tm (x : Int) {n : Int} (h : 0 < n) : -n < x.tmod n ∧ x.tmod n < n := by
  have h1 := Int.tmod_lt_of_pos x h
  have h2 := Int.tmod_lt_of_pos (-x) h
  rw [Int.neg_tmod] at h2
  omega
theorem tm0 {x n : Int} (h : 0 < n) (hx : 0 ≤ x) : 0 ≤ x.tmod n := Int.tmod_nonneg n hx
/-- Bounds of the coordinates that are drawn. -/
def bdF : List (B × Bool) := [1, 2, 3, 4, 5, 6, 8, 9, 10, 11, 12, 13].flatMap (fun i => [(.lt (.lit (-101)) (.var i), true), (.lt (.var i) (.lit 101), true)])
theorem bdF_ok {I : Interp} {ρ : Env} (h : MadeB (ρ.i 0) (ρ.i 1) (ρ.i 2) (ρ.i 3) (ρ.i 4) (ρ.i 5) (ρ.i 6)) (h' : MadeB (ρ.i 7) (ρ.i 8) (ρ.i 9) (ρ.i 10) (ρ.i 11) (ρ.i 12) (ρ.i 13)) : ∀ p ∈ bdF, p.1.den I ρ = p.2 := by
  obtain ⟨-, h⟩ := h
  obtain ⟨-, h'⟩ := h'
  intro p hp
  simp only [bdF, List.flatMap_cons, List.flatMap_nil, List.cons_append, List.nil_append, List.append_nil, List.mem_cons, List.not_mem_nil, or_false] at hp
  rcases hp with rfl | rfl | rfl | rfl | rfl | rfl | rfl | rfl | rfl | rfl | rfl | rfl | rfl | rfl | rfl | rfl | rfl | rfl | rfl | rfl | rfl | rfl | rfl | rfl <;>
    (refine B.lt_t.2 ?_; simp only [T.den_lit, T.den_var]; omega)
/-- Whatever the lists are, there are two edges. -/
theorem two_ex {W : World} {l0 l1 : Ls} (h0 : l0.Ok W) (h1 : l1.Ok W) : ∃ k ax ay bx by' cx cy k2 px py qx qy rx ry : Int, MadeB k ax ay bx by' cx cy ∧ MadeB k2 px py qx qy rx ry ∧
    ∀ ints bools, ints.take 14 = [k, ax, ay, bx, by', cx, cy, k2, px, py, qx, qy, rx, ry] → (∀ e ∈ entD, entOk W l0 l1 (envOf ints bools) e) := by
  obtain ⟨r, ⟨k, ax, ay, bx, by', cx, cy, rfl, hb⟩, hm⟩ := made_ex h0 h1
  obtain ⟨r, ⟨k2, px, py, qx, qy, rx, ry, rfl, hb2⟩, hn⟩ := made_ex h1 h0
  refine ⟨k, ax, ay, bx, by', cx, cy, k2, px, py, qx, qy, rx, ry, hb, hb2, fun ints bools hi => ?_⟩
  have e : ∃ r, ints = [k, ax, ay, bx, by', cx, cy, k2, px, py, qx, qy, rx, ry] ++ r := ⟨ints.drop 14, by rw [← hi, List.take_append_drop]⟩
  obtain ⟨r, rfl⟩ := e
  exact entD_ok _ hm hn
end Go.Proofs.Ytmoclgpdcnjacaa.Sx
