/- Texts that belong together. -/
import Derived.Test.YtegjcikofmphjaaGreatDoorQRefs
import Derived.Carry
import Derived.ChangeSlices
import Derived.ChangeShapes
import Derived.ChangeSame
import Derived.OpenShut
import Derived.RowKit
import Derived.Lib.SmallJoins
import Derived.Test.YtegjcikofmphjaaGreatDoorQOpens
import Derived.Test.YtegjcikofmphjaaGreatDoorQDivsA
import Derived.ChangeArms
set_option linter.all false
/- Numbers, as they come in. -/
namespace Go.Proofs.YtegjcikofmphjaaGreatDoor
open Go Go.ChangeShapes Go.WideShapes Go.ChangeAt Go.RowKit Go.Shelf
theorem lit_u32 {n : Int} (h : (Lit.int .u32 n).wf = true) : 0 ≤ n ∧ n < 4294967296 := by
  have e1 : IntKind.u32.min = 0 := rfl
  have e2 : IntKind.u32.max = 4294967295 := rfl
  simp [Lit.wf, e1, e2] at h
  omega
section
variable {H : Type} {enc : TypeId × Value → H} {W : World}
set_option maxRecDepth 100000 in
theorem u32s_of {fuel : Nat} {a0 : Option Addr} {len cap : Nat} {d : DataW H} {p : List MemPlace} (hf : DataW.trod enc Tryz.prog W 0 (fun _ => true) true fuel 23 [.slice a0 len cap] = some (d, p)) (hlt : ∀ x ∈ p, x.block < W.heap.size) :
    ∃ ds, U32s W.heap.size W (.slice a0 len cap) ds ∧ Digits ds ∧ len ≤ cap := by
  rcases open_ints Tryz.underlying23 Tryz.underlying87 (by kernel_rfl) hf with ⟨hcs, hx⟩ | ⟨a, len', cap', zs, hcs, _, hl, hm, hz, hx, hcell, hwz⟩
  · simp at hcs
    obtain ⟨rfl, rfl, rfl⟩ := hcs
    exact ⟨[], ⟨none, 0, rfl, by simp, fun h => absurd h (by simp)⟩, Digits.nil, Nat.le_refl _⟩
  · simp at hcs
    obtain ⟨rfl, rfl, rfl⟩ := hcs
    simp only [Prod.mk.injEq] at hx
    obtain ⟨rfl, rfl⟩ := hx
    simp only [if_true] at hz
    have hle : ((zs.take len).map (·.toNat)).length = len := by rw [List.length_map, List.length_take]; omega
    refine ⟨(zs.take len).map (·.toNat), ⟨some a, cap, by rw [hle], by rw [hle]; omega, fun h0 => ?_⟩, fun d hd => ?_, hl⟩
    · rw [hle] at h0
      obtain ⟨b, off, spot⟩ := a
      have hspot : spot = none := by simpa [Addr.add] using World.cell?_spot (hcell 0 (by omega))
      subst hspot
      have hbW : b < W.heap.size := hlt (.cell b off) (MemPlace.mem_row.2 ⟨0, by omega, by simp⟩)
      refine ⟨b, off, rfl, hbW, fun j hj => ?_⟩
      rw [hle] at hj
      have h2 := hcell j (by omega)
      rw [show Addr.add ⟨b, off, none⟩ j = ⟨b, off + j, none⟩ by simp [Addr.add]] at h2
      have hjz : j < zs.length := by omega
      have hw := lit_u32 (hwz zs[j] (List.getElem_mem hjz))
      rw [h2, List.getElem?_map, List.getElem?_take_of_lt hj, List.getD_eq_getElem?_getD, List.getElem?_eq_getElem hjz]
      simp only [Option.map_some, Option.getD_some]
      rw [Int.toNat_of_nonneg hw.1]
    · obtain ⟨z, hz, rfl⟩ := List.mem_map.1 hd
      have hw := lit_u32 (hwz z (List.mem_of_mem_take hz))
      unfold B32; omega
theorem cells_nbool : Tryz.prog.cellsOf 4 = 1 := by kernel_rfl
theorem cells_nu32 : Tryz.prog.cellsOf 23 = 1 := by kernel_rfl
set_option maxRecDepth 100000 in
theorem num_of {fuel : Nat} {c0 c1 : Value} {d : DataW H} {ps : List MemPlace} (hf : DataW.trod enc Tryz.prog W 0 (fun _ => true) true fuel 25 [c0, c1] = some (d, ps)) (hlt : ∀ x ∈ ps, x.block < W.heap.size) :
    ∃ neg p n c ds, c0 = .bool neg ∧ c1 = .slice p n c ∧ U32s W.heap.size W (.slice p n c) ds ∧ Digits ds ∧ n ≤ c := by
  obtain ⟨xs, m, _, he, hl, hlen, hg⟩ := DataW.trod_struct Tryz.underlying25 hf
  match xs, hlen with
  | [y0, y1], _ =>
    have h0 := hg 0 _ rfl
    have h1 := hg 1 _ rfl
    simp [cells_nbool, cells_nu32] at h0 h1
    simp only [Prod.mk.injEq] at he
    obtain ⟨b, e0, -⟩ := DataW.trod_bool Tryz.underlying4 h0
    obtain ⟨a1, l1, k1, e1⟩ := Go.Joins.slice_form Tryz.underlying23 h1
    simp only [List.cons.injEq, and_true] at e0 e1
    subst e0 e1
    obtain ⟨ds, hu, hd, hc⟩ := u32s_of (d := y1.1) (p := y1.2) h1 (fun x hx => hlt x (by rw [he.2]; simp [hx]))
    exact ⟨b, a1, l1, k1, ds, rfl, rfl, hu, hd, hc⟩
end
end Go.Proofs.YtegjcikofmphjaaGreatDoor
/- Three numbers, and three ints, that come in. -/
namespace Go.Proofs.YtegjcikofmphjaaGreatDoor
open Go Go.ChangeShapes Go.WideShapes Go.ChangeAt Go.RowKit
section
variable {H : Type} {enc : TypeId × Value → H} {W : World}
theorem okWide_arrS {r : Reach} {b0 : Nat} {t e : TypeId} {n : Nat} {v : Value} (ht : Tryz.prog.underlying t = some (.array n e)) (h : Value.okWide Tryz.prog W r b0 t v) : ∃ cs, v = .agg cs ∧ cs.size = Tryz.prog.cellsOf t := by
  simp only [Value.okWide, ht] at h
  obtain ⟨cs, h1, h2, _⟩ := h
  exact ⟨cs, h1, h2⟩
def inS (n : Int) : Prop := -9223372036854775808 ≤ n ∧ n ≤ 9223372036854775807
theorem wf_inS {n : Int} (h : (Lit.int .i64 n).wf = true) : inS n := by
  have e1 : IntKind.i64.min = -9223372036854775808 := rfl
  have e2 : IntKind.i64.max = 9223372036854775807 := rfl
  simp [Lit.wf, e1, e2] at h
  exact ⟨by omega, by omega⟩
theorem cells_n3 : Tryz.prog.cellsOf 40 = 6 := by kernel_rfl
theorem cells_i3 : Tryz.prog.cellsOf 41 = 3 := by kernel_rfl
theorem cells_intS : Tryz.prog.cellsOf 3 = 1 := by kernel_rfl
theorem cells_numS : Tryz.prog.cellsOf 25 = 2 := by kernel_rfl
set_option maxRecDepth 100000 in
theorem open_i3 {r : Reach} {b0 : Nat} {v : Value} {d : DataW H} {ps : List MemPlace} (hval : Value.okWide Tryz.prog W r b0 41 v) (h : DataW.Trod enc Tryz.prog W 0 (fun _ => true) true 41 v d ps) : ∃ a b c, v = .agg #[.int .i64 a, .int .i64 b, .int .i64 c] ∧ inS a ∧ inS b ∧ inS c := by
  obtain ⟨⟨cs⟩, rfl, hsz⟩ := okWide_arrS Tryz.underlying41 hval
  rw [cells_i3] at hsz
  obtain ⟨fuel, hf⟩ := h
  match cs, hsz with
  | [c0, c1, c2], _ =>
    have hf : DataW.trod enc Tryz.prog W 0 (fun _ => true) true fuel 41 [c0, c1, c2] = some (d, ps) := by simpa [Value.cells] using hf
    obtain ⟨xs, m, _, he, hl, hlen, hg⟩ := DataW.trod_array Tryz.underlying41 hf
    match xs, hlen with
    | [y0, y1, y2], _ =>
      have h0 := hg 0 (by decide)
      have h1 := hg 1 (by decide)
      have h2 := hg 2 (by decide)
      simp [cells_intS] at h0 h1 h2
      obtain ⟨a, e0, -, w0⟩ := DataW.trod_int Tryz.underlying3 h0
      obtain ⟨b, e1, -, w1⟩ := DataW.trod_int Tryz.underlying3 h1
      obtain ⟨c, e2, -, w2⟩ := DataW.trod_int Tryz.underlying3 h2
      cases (List.cons.inj e0).1
      cases (List.cons.inj e1).1
      cases (List.cons.inj e2).1
      exact ⟨a, b, c, rfl, wf_inS w0, wf_inS w1, wf_inS w2⟩
set_option maxRecDepth 100000 in
theorem open_n3 {r : Reach} {b0 : Nat} {v : Value} {d : DataW H} {ps : List MemPlace} (hval : Value.okWide Tryz.prog W r b0 40 v) (h : DataW.Trod enc Tryz.prog W 0 (fun _ => true) true 40 v d ps) (hlt : ∀ x ∈ ps, x.block < W.heap.size) :
    ∃ n0 p0 l0 c0 d0 n1 p1 l1 c1 d1 n2 p2 l2 c2 d2, v = .agg #[.bool n0, .slice p0 l0 c0, .bool n1, .slice p1 l1 c1, .bool n2, .slice p2 l2 c2] ∧ (ANum W (.agg #[.bool n0, .slice p0 l0 c0]) n0 d0 ∧ l0 ≤ c0) ∧ (ANum W (.agg #[.bool n1, .slice p1 l1 c1]) n1 d1 ∧ l1 ≤ c1) ∧ (ANum W (.agg #[.bool n2, .slice p2 l2 c2]) n2 d2 ∧ l2 ≤ c2) := by
  obtain ⟨⟨cs⟩, rfl, hsz⟩ := okWide_arrS Tryz.underlying40 hval
  rw [cells_n3] at hsz
  obtain ⟨fuel, hf⟩ := h
  match cs, hsz with
  | [c0, c1, c2, c3, c4, c5], _ =>
    have hf : DataW.trod enc Tryz.prog W 0 (fun _ => true) true fuel 40 [c0, c1, c2, c3, c4, c5] = some (d, ps) := by simpa [Value.cells] using hf
    obtain ⟨xs, m, _, he, hl, hlen, hg⟩ := DataW.trod_array Tryz.underlying40 hf
    match xs, hlen with
    | [y0, y1, y2], _ =>
      have h0 := hg 0 (by decide)
      have h1 := hg 1 (by decide)
      have h2 := hg 2 (by decide)
      simp [cells_numS] at h0 h1 h2
      simp only [Prod.mk.injEq] at he
      obtain ⟨n0, p0, l0, k0, d0, rfl, rfl, u0, g0, q0⟩ := num_of (d := y0.1) (ps := y0.2) h0 (fun x hx => hlt x (by rw [he.2]; simp [hx]))
      obtain ⟨n1, p1, l1, k1, d1, rfl, rfl, u1, g1, q1⟩ := num_of (d := y1.1) (ps := y1.2) h1 (fun x hx => hlt x (by rw [he.2]; simp [hx]))
      obtain ⟨n2, p2, l2, k2, d2, rfl, rfl, u2, g2, q2⟩ := num_of (d := y2.1) (ps := y2.2) h2 (fun x hx => hlt x (by rw [he.2]; simp [hx]))
      exact ⟨n0, p0, l0, k0, d0, n1, p1, l1, k1, d1, n2, p2, l2, k2, d2, rfl, ⟨⟨⟨_, _, _, rfl, u0⟩, g0⟩, q0⟩, ⟨⟨⟨_, _, _, rfl, u1⟩, g1⟩, q1⟩, ⟨⟨⟨_, _, _, rfl, u2⟩, g2⟩, q2⟩⟩
end
end Go.Proofs.YtegjcikofmphjaaGreatDoor
