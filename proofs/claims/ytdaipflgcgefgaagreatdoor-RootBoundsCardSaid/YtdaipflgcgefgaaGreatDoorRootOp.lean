
/- Arrays of ints that come in. -/
import Derived.Test.YtdaipflgcgefgaaGreatDoorRootCa
import Derived.OpenShut
import Derived.ChangeArms
set_option linter.all false
namespace Go.Proofs.YtdaipflgcgefgaaGreatDoor
open Go Go.ChangeShapes Go.WideShapes Go.ChangeAt Go.RowKit

section
variable {H : Type} {enc : TypeId × Value → H} {W : World}
theorem okWide_arrZ {r : Reach} {b0 : Nat} {t e : TypeId} {n : Nat} {v : Value} (ht : Tryz.prog.underlying t = some (.array n e)) (h : Value.okWide Tryz.prog W r b0 t v) : ∃ cs, v = .agg cs ∧ cs.size = Tryz.prog.cellsOf t := by
  simp only [Value.okWide, ht] at h
  obtain ⟨cs, h1, h2, _⟩ := h
  exact ⟨cs, h1, h2⟩
theorem cells_23 : Tryz.prog.cellsOf 56 = 6 := by kernel_rfl
theorem cells_3 : Tryz.prog.cellsOf 41 = 3 := by kernel_rfl
theorem cells_int : Tryz.prog.cellsOf 3 = 1 := by kernel_rfl
set_option maxRecDepth 100000 in
theorem open_3 {fuel : Nat} {c0 c1 c2 : Value} {x : DataW H × List MemPlace} (h : DataW.trod enc Tryz.prog W 0 (fun _ => true) true fuel 41 [c0, c1, c2] = some x) : ∃ a b c, c0 = .int .i64 a ∧ c1 = .int .i64 b ∧ c2 = .int .i64 c := by
  obtain ⟨xs, m, _, he, hl, hlen, hg⟩ := DataW.trod_array Tryz.underlying41 h
  match xs, hlen with
  | [y0, y1, y2], _ =>
    have h0 := hg 0 (by decide)
    have h1 := hg 1 (by decide)
    have h2 := hg 2 (by decide)
    simp [cells_int] at h0 h1 h2
    obtain ⟨a, e0, -, -⟩ := DataW.trod_int Tryz.underlying3 h0
    obtain ⟨b, e1, -, -⟩ := DataW.trod_int Tryz.underlying3 h1
    obtain ⟨c, e2, -, -⟩ := DataW.trod_int Tryz.underlying3 h2
    exact ⟨a, b, c, (List.cons.inj e0).1, (List.cons.inj e1).1, (List.cons.inj e2).1⟩
set_option maxRecDepth 100000 in
theorem open_23 {r : Reach} {b0 : Nat} {v : Value} {d : DataW H} {ps : List MemPlace} (hval : Value.okWide Tryz.prog W r b0 56 v) (h : DataW.Trod enc Tryz.prog W 0 (fun _ => true) true 56 v d ps) :
    ∃ a0 s0 n0 a1 s1 n1, v = .agg #[.int .i64 a0, .int .i64 s0, .int .i64 n0, .int .i64 a1, .int .i64 s1, .int .i64 n1] := by
  obtain ⟨⟨cs⟩, rfl, hsz⟩ := okWide_arrZ Tryz.underlying56 hval
  rw [cells_23] at hsz
  obtain ⟨fuel, hf⟩ := h
  match cs, hsz with
  | [c0, c1, c2, c3, c4, c5], _ =>
    have hf : DataW.trod enc Tryz.prog W 0 (fun _ => true) true fuel 56 [c0, c1, c2, c3, c4, c5] = some (d, ps) := by simpa [Value.cells] using hf
    obtain ⟨xs, m, _, he, hl, hlen, hg⟩ := DataW.trod_array Tryz.underlying56 hf
    match xs, hlen with
    | [y0, y1], _ =>
      have h0 := hg 0 (by decide)
      have h1 := hg 1 (by decide)
      simp [cells_3] at h0 h1
      obtain ⟨a0, s0, n0, rfl, rfl, rfl⟩ := open_3 h0
      obtain ⟨a1, s1, n1, rfl, rfl, rfl⟩ := open_3 h1
      exact ⟨a0, s0, n0, a1, s1, n1, rfl⟩
end
end Go.Proofs.YtdaipflgcgefgaaGreatDoor
