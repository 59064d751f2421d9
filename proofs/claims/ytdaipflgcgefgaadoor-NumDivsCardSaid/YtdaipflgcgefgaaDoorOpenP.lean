/- NumDivs' first argument, as it comes in: two slices of ints. -/
import Derived.Test.YtdaipflgcgefgaaDoorCard
import Derived.Test.YtdaipflgcgefgaaDoorOpenN
set_option linter.all false
namespace Go.Proofs.YtdaipflgcgefgaaDoor
open Go Go.ChangeShapes Go.WideShapes Go.ChangeAt Go.RowKit Go.Shelf

section
variable {H : Type} {enc : TypeId × Value → H} {W : World}
set_option maxRecDepth 100000 in
theorem i64s_of {fuel : Nat} {c0 : Value} {d : DataW H} {p : List MemPlace} (hf : DataW.trod enc Tryd.prog W 0 (fun _ => true) true fuel 22 [c0] = some (d, p)) (hlt : ∀ x ∈ p, x.block < W.heap.size) :
    ∃ zs, I64s W.heap.size W c0 zs := by
  obtain ⟨a0, len, cap, e⟩ := Go.Joins.slice_form Tryd.underlying22 hf
  simp only [List.cons.injEq, and_true] at e
  subst e
  rcases open_ints Tryd.underlying22 Tryd.underlying3 (by kernel_rfl) hf with ⟨hcs, hx⟩ | ⟨a, len', cap', zs, hcs, _, hl, hm, hz, hx, hcell, hwz⟩
  · simp at hcs
    obtain ⟨rfl, rfl, rfl⟩ := hcs
    exact ⟨[], none, 0, rfl, by simp, fun h => absurd h (by simp)⟩
  · simp at hcs
    obtain ⟨rfl, rfl, rfl⟩ := hcs
    simp only [Prod.mk.injEq] at hx
    obtain ⟨rfl, rfl⟩ := hx
    simp only [if_true] at hz
    have hle : (zs.take len).length = len := by rw [List.length_take]; omega
    refine ⟨zs.take len, some a, cap, by rw [hle], by rw [hle]; omega, fun h0 => ?_⟩
    rw [hle] at h0
    obtain ⟨b, off, spot⟩ := a
    have hspot : spot = none := by simpa [Addr.add] using World.cell?_spot (hcell 0 (by omega))
    subst hspot
    have hbW : b < W.heap.size := hlt (.cell b off) (MemPlace.mem_row.2 ⟨0, by omega, by simp⟩)
    refine ⟨b, off, rfl, hbW, fun j hj => ?_⟩
    rw [hle] at hj
    have h2 := hcell j (by omega)
    rw [show Addr.add ⟨b, off, none⟩ j = ⟨b, off + j, none⟩ by simp [Addr.add]] at h2
    rw [h2, List.getElem?_take_of_lt hj, List.getD_eq_getElem?_getD]
theorem okWide_arr {r : Reach} {b0 : Nat} {t e : TypeId} {n : Nat} {v : Value} (ht : Tryd.prog.underlying t = some (.array n e)) (h : Value.okWide Tryd.prog W r b0 t v) : ∃ cs, v = .agg cs ∧ cs.size = Tryd.prog.cellsOf t := by
  simp only [Value.okWide, ht] at h
  obtain ⟨cs, h1, h2, _⟩ := h
  exact ⟨cs, h1, h2⟩
theorem cells_two : Tryd.prog.cellsOf 23 = 2 := by kernel_rfl
theorem cells_sli : Tryd.prog.cellsOf 22 = 1 := by kernel_rfl
set_option maxRecDepth 100000 in
theorem open_pair {r : Reach} {b0 : Nat} {v : Value} {d : DataW H} {ps : List MemPlace} (hval : Value.okWide Tryd.prog W r b0 23 v) (h : DataW.Trod enc Tryd.prog W 0 (fun _ => true) true 23 v d ps) (hlt : ∀ x ∈ ps, x.block < W.heap.size) :
    ∃ v0 v1 zs0 zs1, v = .agg #[v0, v1] ∧ I64s W.heap.size W v0 zs0 ∧ I64s W.heap.size W v1 zs1 := by
  obtain ⟨cs, rfl, hsz⟩ := okWide_arr Tryd.underlying23 hval
  obtain ⟨c0, c1, rfl⟩ := array2 (hsz.trans cells_two)
  obtain ⟨fuel, hf⟩ := h
  have hf : DataW.trod enc Tryd.prog W 0 (fun _ => true) true fuel 23 [c0, c1] = some (d, ps) := by simpa [Value.cells] using hf
  obtain ⟨xs, m, _, he, hl, hlen, hg⟩ := DataW.trod_array Tryd.underlying23 hf
  match xs, hlen with
  | [y0, y1], _ =>
    have h0 := hg 0 (by decide)
    have h1 := hg 1 (by decide)
    simp [cells_sli] at h0 h1
    simp only [Prod.mk.injEq] at he
    obtain ⟨z0, k0⟩ := i64s_of (d := y0.1) (p := y0.2) h0 (fun x hx => hlt x (by rw [he.2]; simp [hx]))
    obtain ⟨z1, k1⟩ := i64s_of (d := y1.1) (p := y1.2) h1 (fun x hx => hlt x (by rw [he.2]; simp [hx]))
    exact ⟨c0, c1, z0, z1, rfl, k0, k1⟩
end
end Go.Proofs.YtdaipflgcgefgaaDoor
