/- A string, a place and a byte, as they come in. -/
import Derived.Test.YtblpalhnjkfjoaaFrame
import Derived.Lib.SmallJoins
set_option linter.all false
namespace Go.Proofs.Ytblpalhnjkfjoaa
open Go Go.ChangeShapes Go.WideShapes Go.ChangeAt Go.RowKit Go.Shelf
open Go.ChangeMaps (open_string)

section
variable {H : Type} {enc : TypeId × Value → H} {W : World}
theorem array3 {α : Type} {a : Array α} (h : a.size = 3) : ∃ c0 c1 c2, a = #[c0, c1, c2] := by
  obtain ⟨l⟩ := a
  match l, h with
  | [c0, c1, c2], _ => exact ⟨c0, c1, c2, rfl⟩
theorem cells_other : Try.prog.cellsOf 28 = 3 := by kernel_rfl
theorem cells_u8 : Try.prog.cellsOf 5 = 1 := by kernel_rfl
theorem cellsStr : Try.prog.cellsOf 9 = 1 := by kernel_rfl
set_option maxRecDepth 100000 in
theorem open_other {r : Reach} {b0 : Nat} {v : Value} {d : DataW H} {ps : List MemPlace} (hval : Value.okWide Try.prog W r b0 28 v) (h : DataW.Trod enc Try.prog W 0 (fun _ => true) true 28 v d ps) :
    ∃ (s : Bs) (n c : Nat), v = .agg #[.string ⟨s.toArray⟩, .int .u8 (n : Int), .int .u8 (c : Int)] ∧ n < 256 ∧ c < 256 := by
  obtain ⟨cs, rfl, hsz⟩ := okWide_struct Try.underlying28 hval
  obtain ⟨c0, c1, c2, rfl⟩ := array3 (hsz.trans cells_other)
  obtain ⟨fuel, hf⟩ := h
  have hf : DataW.trod enc Try.prog W 0 (fun _ => true) true fuel 28 [c0, c1, c2] = some (d, ps) := by simpa [Value.cells] using hf
  obtain ⟨xs, m, _, he, hl, hlen, hg⟩ := DataW.trod_struct Try.underlying28 hf
  match xs, hlen with
  | [y0, y1, y2], _ =>
    have h0 := hg 0 _ rfl
    have h1 := hg 1 _ rfl
    have h2 := hg 2 _ rfl
    simp [cells_u8, cellsStr] at h0 h1 h2
    obtain ⟨s, e0, -, ws⟩ := DataW.trod_string Try.underlying9 h0
    obtain ⟨n1, e1, -, w1⟩ := DataW.trod_int Try.underlying5 h1
    obtain ⟨n2, e2, -, w2⟩ := DataW.trod_int Try.underlying5 h2
    simp only [List.cons.injEq, and_true] at e0 e1 e2
    subst e0 e1 e2
    have k1 := wf_u8 w1
    have k2 := wf_u8 w2
    obtain ⟨l, rfl, hll⟩ := bs_of s
    refine ⟨l, n1.toNat, n2.toNat, ?_, by omega, by omega⟩
    rw [Int.toNat_of_nonneg k1.1, Int.toNat_of_nonneg k2.1]
end

end Go.Proofs.Ytblpalhnjkfjoaa
