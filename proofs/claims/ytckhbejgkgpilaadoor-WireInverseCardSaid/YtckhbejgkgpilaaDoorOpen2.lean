/- Values of wire's laws, as they come in. -/
import Derived.Test.YtckhbejgkgpilaaDoorOpen
import Derived.Test.YtckhbejgkgpilaaDoorValF
import Derived.Lib.SmallJoins
set_option linter.all false
namespace Go.Proofs.YtckhbejgkgpilaaDoor
open Go Go.ChangeShapes Go.WideShapes Go.ChangeAt Go.RowKit Go.Shelf

section
variable {H : Type} {enc : TypeId × Value → H} {W : World}
set_option maxRecDepth 100000 in
theorem i64s_of {fuel : Nat} {a0 : Option Addr} {len cap : Nat} {d : DataW H} {p : List MemPlace} (hf : DataW.trod enc Tryd.prog W 0 (fun _ => true) true fuel 22 [.slice a0 len cap] = some (d, p)) (hlt : ∀ x ∈ p, x.block < W.heap.size) :
    ∃ zs, SlOf encI (fun b => b < W.heap.size) W (.slice a0 len cap) zs ∧ AllOk I64 zs ∧ len = zs.length ∧ len ≤ cap := by
  rcases open_ints Tryd.underlying22 Tryd.underlying3 (by kernel_rfl) hf with ⟨hcs, hx⟩ | ⟨a, len', cap', zs, hcs, _, hl, hm, hz, hx, hcell, hwz⟩
  · simp at hcs
    obtain ⟨rfl, rfl, rfl⟩ := hcs
    exact ⟨[], SlOf.nil, fun _ h => absurd h (by simp), rfl, Nat.le_refl _⟩
  · simp at hcs
    obtain ⟨rfl, rfl, rfl⟩ := hcs
    simp only [Prod.mk.injEq] at hx
    obtain ⟨rfl, rfl⟩ := hx
    simp only [if_true] at hz
    have hle : (zs.take len).length = len := by rw [List.length_take]; omega
    refine ⟨zs.take len, ⟨some a, cap, by rw [hle], by rw [hle]; omega, fun h0 => ?_⟩, fun z hzz => wf_bounds (hwz z (List.mem_of_mem_take hzz)), hle.symm, hl⟩
    rw [hle] at h0
    obtain ⟨b, off, spot⟩ := a
    have hspot : spot = none := by simpa [Addr.add] using World.cell?_spot (hcell 0 (by omega))
    subst hspot
    have hbW : b < W.heap.size := hlt (.cell b off) (MemPlace.mem_row.2 ⟨0, by omega, by simp⟩)
    refine ⟨b, off, rfl, hbW, hbW, fun j x hj => ?_⟩
    have hjl : j < len := by have := (List.getElem?_eq_some_iff.1 hj).1; omega
    have h2 := hcell j (by omega)
    rw [show Addr.add ⟨b, off, none⟩ j = ⟨b, off + j, none⟩ by simp [Addr.add]] at h2
    rw [h2, List.getD_eq_getElem?_getD]
    rw [List.getElem?_take_of_lt hjl] at hj
    rw [hj]; rfl
set_option maxRecDepth 100000 in
theorem strs_of {fuel : Nat} {a0 : Option Addr} {len cap : Nat} {d : DataW H} {p : List MemPlace} (hf : DataW.trod enc Tryd.prog W 0 (fun _ => true) true fuel 23 [.slice a0 len cap] = some (d, p)) (hlt : ∀ x ∈ p, x.block < W.heap.size) :
    ∃ ts : List Bs, SlOf encT (fun b => b < W.heap.size) W (.slice a0 len cap) ts ∧ ∀ x ∈ ts, x.length ≤ 9223372036854775807 := by
  rcases open_strings Tryd.underlying23 Tryd.underlying9 (by kernel_rfl) hf with ⟨hcs, hx⟩ | ⟨a, len', cap', ss, hcs, _, hl, hm, hz, hx, hcell, hwz⟩
  · simp at hcs
    obtain ⟨rfl, rfl, rfl⟩ := hcs
    exact ⟨[], SlOf.nil, fun _ h => absurd h (by simp)⟩
  · simp at hcs
    obtain ⟨rfl, rfl, rfl⟩ := hcs
    simp only [Prod.mk.injEq] at hx
    obtain ⟨rfl, rfl⟩ := hx
    simp only [if_true] at hz
    have hle : ((ss.take len).map (·.data.toList)).length = len := by rw [List.length_map, List.length_take]; omega
    refine ⟨(ss.take len).map (·.data.toList), ⟨some a, cap, by rw [hle], by rw [hle]; omega, fun h0 => ?_⟩, fun x hx => ?_⟩
    · rw [hle] at h0
      obtain ⟨b, off, spot⟩ := a
      have hspot : spot = none := by simpa [Addr.add] using World.cell?_spot (hcell 0 (by omega))
      subst hspot
      have hbW : b < W.heap.size := hlt (.cell b off) (MemPlace.mem_row.2 ⟨0, by omega, by simp⟩)
      refine ⟨b, off, rfl, hbW, hbW, fun j x hj => ?_⟩
      have hjl : j < len := by have := (List.getElem?_eq_some_iff.1 hj).1; omega
      have h2 := hcell j (by omega)
      rw [show Addr.add ⟨b, off, none⟩ j = ⟨b, off + j, none⟩ by simp [Addr.add]] at h2
      have hjz : j < ss.length := by omega
      rw [List.getElem?_map, List.getElem?_take_of_lt hjl, List.getElem?_eq_getElem hjz] at hj
      simp only [Option.map_some, Option.some.injEq] at hj
      rw [h2, List.getD_eq_getElem?_getD, List.getElem?_eq_getElem hjz]
      subst hj
      show some (Value.string ss[j]) = some (Value.string ⟨ss[j].data.toList.toArray⟩)
      rw [Array.toArray_toList]
    · obtain ⟨s, hss, rfl⟩ := List.mem_map.1 hx
      exact hwz s (List.mem_of_mem_take hss)
theorem array5 {α : Type} {cs : Array α} (h : cs.size = 5) : ∃ c0 c1 c2 c3 c4, cs = #[c0, c1, c2, c3, c4] := by
  obtain ⟨l⟩ := cs
  match l, h with
  | [c0, c1, c2, c3, c4], _ => exact ⟨c0, c1, c2, c3, c4, rfl⟩
theorem cells_val : Tryd.prog.cellsOf 45 = 5 := by kernel_rfl
theorem cells_u8 : Tryd.prog.cellsOf 5 = 1 := by kernel_rfl
theorem cells_int : Tryd.prog.cellsOf 3 = 1 := by kernel_rfl
theorem cells_sti : Tryd.prog.cellsOf 22 = 1 := by kernel_rfl
theorem cells_sts : Tryd.prog.cellsOf 23 = 1 := by kernel_rfl
set_option maxRecDepth 100000 in
/-- A value's cells, read. -/
theorem val_of {fuel : Nat} {c0 c1 c2 c3 c4 : Value} {d : DataW H} {ps : List MemPlace} (hf : DataW.trod enc Tryd.prog W 0 (fun _ => true) true fuel 45 [c0, c1, c2, c3, c4] = some (d, ps)) (hlt : ∀ x ∈ ps, x.block < W.heap.size) :
    ∃ c n s p lz cap q lt cap2 zs ts, (.agg #[c0, c1, c2, c3, c4] : Value) = valV c n s p lz cap (.slice q lt cap2) ∧ ValIn W c n s p lz cap (.slice q lt cap2) zs ts := by
  obtain ⟨xs, m, _, he, hl, hlen, hg⟩ := DataW.trod_struct Tryd.underlying45 hf
  match xs, hlen with
  | [y0, y1, y2, y3, y4], _ =>
    have h0 := hg 0 _ rfl
    have h1 := hg 1 _ rfl
    have h2 := hg 2 _ rfl
    have h3 := hg 3 _ rfl
    have h4 := hg 4 _ rfl
    simp [cells_u8, cells_int, cellsStr, cells_sti, cells_sts] at h0 h1 h2 h3 h4
    simp only [Prod.mk.injEq] at he
    obtain ⟨n0, e0, -, w0⟩ := DataW.trod_int Tryd.underlying5 h0
    obtain ⟨n1, e1, -, w1⟩ := DataW.trod_int Tryd.underlying3 h1
    obtain ⟨s, e2, -, ws⟩ := DataW.trod_string Tryd.underlying9 h2
    obtain ⟨a3, l3, k3, e3⟩ := Go.Joins.slice_form Tryd.underlying22 h3
    obtain ⟨a4, l4, k4, e4⟩ := Go.Joins.slice_form Tryd.underlying23 h4
    simp only [List.cons.injEq, and_true] at e0 e1 e2 e3 e4
    subst e0 e1 e2 e3 e4
    obtain ⟨zs, hz, hzo, hzl, hzc⟩ := i64s_of (d := y3.1) (p := y3.2) h3 (fun x hx => hlt x (by rw [he.2]; simp [hx]))
    obtain ⟨ts, ht, hto⟩ := strs_of (d := y4.1) (p := y4.2) h4 (fun x hx => hlt x (by rw [he.2]; simp [hx]))
    have k0 := wf_u8 w0
    obtain ⟨l, rfl, hll⟩ := bs_of s
    refine ⟨n0.toNat, n1, l, a3, l3, k3, a4, l4, k4, zs, ts, ?_, ⟨by omega, wf_bounds w1, by rw [hll]; exact ws, hz, hzl, hzc, hzo, ht, hto⟩⟩
    unfold valV
    rw [Int.toNat_of_nonneg k0.1]
set_option maxRecDepth 100000 in
theorem open_val {r : Reach} {b0 : Nat} {v : Value} {d : DataW H} {ps : List MemPlace} (hval : Value.okWide Tryd.prog W r b0 45 v) (h : DataW.Trod enc Tryd.prog W 0 (fun _ => true) true 45 v d ps) (hlt : ∀ x ∈ ps, x.block < W.heap.size) :
    ∃ c n s p lz cap q lt cap2 zs ts, v = valV c n s p lz cap (.slice q lt cap2) ∧ ValIn W c n s p lz cap (.slice q lt cap2) zs ts := by
  obtain ⟨cs, rfl, hsz⟩ := okWide_struct Tryd.underlying45 hval
  obtain ⟨c0, c1, c2, c3, c4, rfl⟩ := array5 (hsz.trans cells_val)
  obtain ⟨fuel, hf⟩ := h
  exact val_of (by simpa [Value.cells] using hf) hlt
end

end Go.Proofs.YtckhbejgkgpilaaDoor
