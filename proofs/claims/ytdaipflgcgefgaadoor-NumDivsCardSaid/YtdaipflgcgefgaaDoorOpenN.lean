/- Numbers, as they come in. -/
import Derived.Test.YtdaipflgcgefgaaDoorRefs
import Derived.Carry
import Derived.ChangeSlices
import Derived.ChangeShapes
import Derived.ChangeSame
import Derived.OpenShut
import Derived.RowKit
import Derived.Lib.SmallJoins
set_option linter.all false
namespace Go.Proofs.YtdaipflgcgefgaaDoor
open Go Go.ChangeShapes Go.WideShapes Go.ChangeAt Go.RowKit Go.Shelf

theorem lit_u32 {n : Int} (h : (Lit.int .u32 n).wf = true) : 0 ≤ n ∧ n < 4294967296 := by
  have e1 : IntKind.u32.min = 0 := rfl
  have e2 : IntKind.u32.max = 4294967295 := rfl
  simp [Lit.wf, e1, e2] at h
  omega
theorem lit_i64 {n : Int} (h : (Lit.int .i64 n).wf = true) : -9223372036854775808 ≤ n ∧ n ≤ 9223372036854775807 := by
  have e1 : IntKind.i64.min = -9223372036854775808 := rfl
  have e2 : IntKind.i64.max = 9223372036854775807 := rfl
  simp [Lit.wf, e1, e2] at h
  omega
section
variable {H : Type} {enc : TypeId × Value → H} {W : World}
set_option maxRecDepth 100000 in
theorem u32s_of {fuel : Nat} {a0 : Option Addr} {len cap : Nat} {d : DataW H} {p : List MemPlace} (hf : DataW.trod enc Tryd.prog W 0 (fun _ => true) true fuel 24 [.slice a0 len cap] = some (d, p)) (hlt : ∀ x ∈ p, x.block < W.heap.size) :
    ∃ ds, U32s W.heap.size W (.slice a0 len cap) ds ∧ Digits ds ∧ len ≤ cap := by
  rcases open_ints Tryd.underlying24 Tryd.underlying48 (by kernel_rfl) hf with ⟨hcs, hx⟩ | ⟨a, len', cap', zs, hcs, _, hl, hm, hz, hx, hcell, hwz⟩
  · simp at hcs
    obtain ⟨rfl, rfl, rfl⟩ := hcs
    exact ⟨[], ⟨none, 0, rfl, by simp, fun h => absurd h (by simp)⟩, Digits.nil, Nat.le_refl _⟩
  · simp at hcs
    obtain ⟨rfl, rfl, rfl⟩ := hcs
    simp only [Prod.mk.injEq] at hx
    obtain ⟨rfl, rfl⟩ := hx
    simp only [if_true] at hz
    have hle : ((zs.take len).map (·.toNat)).length = len := by rw [List.length_map, List.length_take]; omega
    refine ⟨(zs.take len).map (·.toNat), ⟨some a, cap, by rw [hle], by rw [hle]; omega, fun h0 => ?_⟩, fun d hd => ?_, hl⟩
    · rw [hle] at h0
      obtain ⟨b, off, spot⟩ := a
      have hspot : spot = none := by simpa [Addr.add] using World.cell?_spot (hcell 0 (by omega))
      subst hspot
      have hbW : b < W.heap.size := hlt (.cell b off) (MemPlace.mem_row.2 ⟨0, by omega, by simp⟩)
      refine ⟨b, off, rfl, hbW, fun j hj => ?_⟩
      rw [hle] at hj
      have h2 := hcell j (by omega)
      rw [show Addr.add ⟨b, off, none⟩ j = ⟨b, off + j, none⟩ by simp [Addr.add]] at h2
      have hjz : j < zs.length := by omega
      have hw := lit_u32 (hwz zs[j] (List.getElem_mem hjz))
      rw [h2, List.getElem?_map, List.getElem?_take_of_lt hj, List.getD_eq_getElem?_getD, List.getElem?_eq_getElem hjz]
      simp only [Option.map_some, Option.getD_some]
      rw [Int.toNat_of_nonneg hw.1]
    · obtain ⟨z, hz, rfl⟩ := List.mem_map.1 hd
      have hw := lit_u32 (hwz z (List.mem_of_mem_take hz))
      unfold B32; omega
theorem cells_num : Tryd.prog.cellsOf 26 = 2 := by kernel_rfl
theorem cells_nbool : Tryd.prog.cellsOf 4 = 1 := by kernel_rfl
theorem cells_nu32 : Tryd.prog.cellsOf 24 = 1 := by kernel_rfl
theorem array2 {α : Type} {cs : Array α} (h : cs.size = 2) : ∃ c0 c1, cs = #[c0, c1] := by
  obtain ⟨l⟩ := cs
  match l, h with
  | [c0, c1], _ => exact ⟨c0, c1, rfl⟩
set_option maxRecDepth 100000 in
/-- A number's cells, read. -/
theorem num_of {fuel : Nat} {c0 c1 : Value} {d : DataW H} {ps : List MemPlace} (hf : DataW.trod enc Tryd.prog W 0 (fun _ => true) true fuel 26 [c0, c1] = some (d, ps)) (hlt : ∀ x ∈ ps, x.block < W.heap.size) :
    ∃ neg p n c ds, c0 = .bool neg ∧ c1 = .slice p n c ∧ U32s W.heap.size W (.slice p n c) ds ∧ Digits ds ∧ n ≤ c := by
  obtain ⟨xs, m, _, he, hl, hlen, hg⟩ := DataW.trod_struct Tryd.underlying26 hf
  match xs, hlen with
  | [y0, y1], _ =>
    have h0 := hg 0 _ rfl
    have h1 := hg 1 _ rfl
    simp [cells_nbool, cells_nu32] at h0 h1
    simp only [Prod.mk.injEq] at he
    obtain ⟨b, e0, -⟩ := DataW.trod_bool Tryd.underlying4 h0
    obtain ⟨a1, l1, k1, e1⟩ := Go.Joins.slice_form Tryd.underlying24 h1
    simp only [List.cons.injEq, and_true] at e0 e1
    subst e0 e1
    obtain ⟨ds, hu, hd, hc⟩ := u32s_of (d := y1.1) (p := y1.2) h1 (fun x hx => hlt x (by rw [he.2]; simp [hx]))
    exact ⟨b, a1, l1, k1, ds, rfl, rfl, hu, hd, hc⟩
set_option maxRecDepth 100000 in
theorem open_num {r : Reach} {b0 : Nat} {v : Value} {d : DataW H} {ps : List MemPlace} (hval : Value.okWide Tryd.prog W r b0 26 v) (h : DataW.Trod enc Tryd.prog W 0 (fun _ => true) true 26 v d ps) (hlt : ∀ x ∈ ps, x.block < W.heap.size) :
    ∃ neg p n c ds, v = .agg #[.bool neg, .slice p n c] ∧ U32s W.heap.size W (.slice p n c) ds ∧ Digits ds ∧ n ≤ c := by
  obtain ⟨cs, rfl, hsz⟩ := okWide_struct Tryd.underlying26 hval
  obtain ⟨c0, c1, rfl⟩ := array2 (hsz.trans cells_num)
  obtain ⟨fuel, hf⟩ := h
  obtain ⟨neg, p, n, c, ds, rfl, rfl, hk⟩ := num_of (by simpa [Value.cells] using hf) hlt
  exact ⟨neg, p, n, c, ds, rfl, hk⟩
end

end Go.Proofs.YtdaipflgcgefgaaDoor
