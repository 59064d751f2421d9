/- A slice of wire's values, as it comes in. -/
import Derived.Test.YtckhbejgkgpilaaDoorOpen2
import Derived.Test.YtckhbejgkgpilaaDoorInv0
import Derived.Deep.Slices
set_option linter.all false
namespace Go.Proofs.YtckhbejgkgpilaaDoor
open Go Go.ChangeShapes Go.WideShapes Go.ChangeAt Go.RowKit Go.Shelf

theorem list_of {α : Type} {P : Nat → α → Prop} : ∀ n : Nat, (∀ i, i < n → ∃ d, P i d) → ∃ ds : List α, ds.length = n ∧ ∀ k d, ds[k]? = some d → P k d
  | 0, _ => ⟨[], rfl, fun k d h => by simp at h⟩
  | n + 1, h => by
    obtain ⟨ds, hl, hp⟩ := list_of n (fun i hi => h i (by omega))
    obtain ⟨d, hd⟩ := h n (by omega)
    refine ⟨ds ++ [d], by rw [List.length_append, hl]; rfl, fun k e hk => ?_⟩
    by_cases hkn : k < ds.length
    · rw [List.getElem?_append_left hkn] at hk
      exact hp k e hk
    · have hlt := (List.getElem?_eq_some_iff.1 hk).1
      rw [List.length_append] at hlt
      have : k = n := by simp at hlt; omega
      subst this
      rw [List.getElem?_append_right (by omega), hl, Nat.sub_self] at hk
      simp at hk
      subst hk
      exact hd
section
variable {H : Type} {enc : TypeId × Value → H} {W : World}
set_option maxRecDepth 100000 in
theorem open_vals {r : Reach} {b0 : Nat} {v : Value} {d : DataW H} {ps : List MemPlace} (hval : Value.okWide Tryd.prog W r b0 43 v) (h : DataW.Trod enc Tryd.prog W 0 (fun _ => true) true 43 v d ps) (hlt : ∀ x ∈ ps, x.block < W.heap.size) :
    ∃ ds : List VD, VRow (fun b => b < W.heap.size) W v ds ∧ ∀ d ∈ ds, VD.In W d := by
  obtain ⟨a0, len, cap, rfl⟩ := okWide_slice Tryd.underlying43 hval
  obtain ⟨fuel, hf⟩ := h
  rcases Deep.open_slice Tryd.underlying43 hf with ⟨hcs, hx⟩ | ⟨a, len', cap', m, n, D, Pl, hcs, _, hl, hm, hz, hx, hel⟩
  · simp [Value.cells] at hcs
    obtain ⟨rfl, rfl, rfl⟩ := hcs
    exact ⟨[], ⟨none, 0, rfl, Nat.zero_le _, Nat.zero_le _, fun h => absurd h (by simp)⟩, fun _ h => absurd h (by simp)⟩
  · simp [Value.cells] at hcs
    obtain ⟨rfl, rfl, rfl⟩ := hcs
    simp only [Prod.mk.injEq] at hx
    obtain ⟨rfl, rfl⟩ := hx
    simp only [if_true] at hz
    subst hz
    rw [cells_val] at hel hlt
    obtain ⟨ds, hds, hp⟩ := list_of (P := fun i (d : VD) => (∀ j u, d.cells[j]? = some u → W.cell? (Addr.add a (i * 5 + j)) = some u) ∧ VD.In W d) len (fun i hi => by
      obtain ⟨cs, h1, h2⟩ := hel i (by omega)
      obtain ⟨-, h3, h4⟩ := World.cells?_some h1
      match cs, h3, h1, h2, h4 with
      | [c0, c1, c2, c3, c4], _, _, h2, h4 =>
        obtain ⟨c, n, s, p, lz, cp, q, lt, cap2, zs, ts, e, hin⟩ := val_of h2 (fun x hx => hlt x (List.mem_append_right _ (List.mem_flatMap.2 ⟨i, List.mem_range.2 (by omega), hx⟩)))
        refine ⟨⟨c, n, s, p, lz, cp, q, lt, cap2, zs, ts⟩, fun j u hj => ?_, hin⟩
        have hj5 : j < 5 := (List.getElem?_eq_some_iff.1 hj).1
        have e2 : [c0, c1, c2, c3, c4] = VD.cells ⟨c, n, s, p, lz, cp, q, lt, cap2, zs, ts⟩ := by
          unfold valV at e
          injection e with e
          exact congrArg Array.toList e
        have h5 := h4 j hj5
        rw [e2, hj, Deep.add_add] at h5
        exact h5)
    refine ⟨ds, ⟨some a, m, by rw [hds], by rw [hds]; exact hl, by rw [hds]; omega, fun h0 => ?_⟩, fun d hd => ?_⟩
    · obtain ⟨b, off, spot⟩ := a
      have h00 := (hp 0 ds[0] (List.getElem?_eq_getElem h0)).1 0 _ rfl
      have hspot : spot = none := by simpa [Addr.add] using World.cell?_spot h00
      subst hspot
      have hbW : b < W.heap.size := hlt (.cell b off) (List.mem_append_left _ (MemPlace.mem_row.2 ⟨0, by omega, by simp⟩))
      refine ⟨b, off, rfl, hbW, hbW, fun k d hk j u hj => ?_⟩
      have h2 := (hp k d hk).1 j u hj
      rw [Addr.add_mid] at h2
      rw [Nat.add_assoc]; exact h2
    · obtain ⟨k, hk⟩ := List.getElem?_of_mem hd
      exact (hp k d hk).2
end

end Go.Proofs.YtckhbejgkgpilaaDoor
