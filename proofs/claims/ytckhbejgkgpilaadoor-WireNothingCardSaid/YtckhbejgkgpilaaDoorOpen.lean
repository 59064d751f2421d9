/- Arguments of wire's laws, as they come in. -/
import Derived.Test.YtckhbejgkgpilaaDoorFrame
import Derived.SliceStrings
set_option linter.all false
namespace Go.Proofs.YtckhbejgkgpilaaDoor
open Go Go.ChangeShapes Go.WideShapes Go.ChangeAt Go.RowKit Go.Shelf

section
variable {H : Type} {enc : TypeId × Value → H} {W : World}
theorem bs_of (s : ByteArray) : ∃ l : Bs, s = ⟨l.toArray⟩ ∧ l.length = s.size := ⟨s.data.toList, ByteArray.ext (Array.toArray_toList).symm, rfl⟩
set_option maxRecDepth 100000 in
theorem open_i64s {r : Reach} {b0 : Nat} {v : Value} {d : DataW H} {p : List MemPlace} (hval : Value.okWide Tryd.prog W r b0 22 v) (h : DataW.Trod enc Tryd.prog W 0 (fun _ => true) true 22 v d p) (hlt : ∀ x ∈ p, x.block < W.heap.size) :
    ∃ zs, SlOf encI (fun b => b < W.heap.size) W v zs ∧ AllOk I64 zs := by
  obtain ⟨a0, len, cap, rfl⟩ := okWide_slice Tryd.underlying22 hval
  obtain ⟨fuel, hf⟩ := h
  rcases open_ints Tryd.underlying22 Tryd.underlying3 (by kernel_rfl) hf with ⟨hcs, hx⟩ | ⟨a, len', cap', zs, hcs, _, hl, hm, hz, hx, hcell, hwz⟩
  · simp [Value.cells] at hcs
    obtain ⟨rfl, rfl, rfl⟩ := hcs
    exact ⟨[], SlOf.nil, fun _ h => absurd h (by simp)⟩
  · simp [Value.cells] at hcs
    obtain ⟨rfl, rfl, rfl⟩ := hcs
    simp only [Prod.mk.injEq] at hx
    obtain ⟨rfl, rfl⟩ := hx
    simp only [if_true] at hz
    have hle : (zs.take len).length = len := by rw [List.length_take]; omega
    refine ⟨zs.take len, ⟨some a, cap, by rw [hle], by rw [hle]; omega, fun h0 => ?_⟩, fun z hzz => wf_bounds (hwz z (List.mem_of_mem_take hzz))⟩
    rw [hle] at h0
    obtain ⟨b, off, spot⟩ := a
    have hspot : spot = none := by simpa [Addr.add] using World.cell?_spot (hcell 0 (by omega))
    subst hspot
    have hbW : b < W.heap.size := hlt (.cell b off) (MemPlace.mem_row.2 ⟨0, by omega, by simp⟩)
    refine ⟨b, off, rfl, hbW, hbW, fun j x hj => ?_⟩
    have hjl : j < len := by have := (List.getElem?_eq_some_iff.1 hj).1; omega
    have h2 := hcell j (by omega)
    rw [show Addr.add ⟨b, off, none⟩ j = ⟨b, off + j, none⟩ by simp [Addr.add]] at h2
    rw [h2, List.getD_eq_getElem?_getD]
    rw [List.getElem?_take_of_lt hjl] at hj
    rw [hj]; rfl
end

end Go.Proofs.YtckhbejgkgpilaaDoor
