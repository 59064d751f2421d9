/- countEnds, by the program. -/
import Derived.Test.YtmoclgpdcnjacaaMd
import Derived.Test.YtmoclgpdcnjacaaMe0
set_option linter.all false
namespace Go.Proofs.Ytmoclgpdcnjacaa
open Go Go.RowKit Sx

theorem endsL_snoc (on : Int × Int → Bool) (p : Int × Int) : ∀ (l acc : List (Int × Int)), endsL on (l ++ [p]) acc = if on p = true ∧ p ∉ endsL on l acc then endsL on l acc ++ [p] else endsL on l acc
  | [], acc => by simp only [List.nil_append, endsL]; split <;> rename_i h1 <;> first | exact (if_pos h1).symm | exact (if_neg h1).symm
  | q :: r, acc => by simp only [List.cons_append, endsL]; exact endsL_snoc on p r _
theorem endsL_len (on : Int × Int → Bool) : ∀ (l acc : List (Int × Int)), (endsL on l acc).length ≤ acc.length + l.length
  | [], acc => by simp [endsL]
  | q :: r, acc => by
    have := endsL_len on r (if on q = true ∧ q ∉ acc then acc ++ [q] else acc)
    simp only [endsL, List.length_cons]
    split at this <;> split <;> simp_all <;> omega
def eCells (k ax ay bx by' cx cy : Int) : Array Value := #[.int .i64 k, .int .i64 ax, .int .i64 ay, .int .i64 bx, .int .i64 by', .int .i64 cx, .int .i64 cy]
theorem eCells_at {w : World} {g : Nat} {t : TypeId} {k ax ay bx by' cx cy : Int} (h : RowAt w g t (eCells k ax ay bx by' cx cy)) :
    w.cell? ⟨g, 0, none⟩ = some (.int .i64 k) ∧ w.cell? ⟨g, 1, none⟩ = some (.int .i64 ax) ∧ w.cell? ⟨g, 2, none⟩ = some (.int .i64 ay) ∧ w.cell? ⟨g, 3, none⟩ = some (.int .i64 bx) ∧ w.cell? ⟨g, 4, none⟩ = some (.int .i64 by') ∧ w.cell? ⟨g, 5, none⟩ = some (.int .i64 cx) ∧ w.cell? ⟨g, 6, none⟩ = some (.int .i64 cy) :=
  ⟨h.cell 0, h.cell 1, h.cell 2, h.cell 3, h.cell 4, h.cell 5, h.cell 6⟩
theorem cell_two (w : World) (a b : Value) (t : TypeId) : ∀ (j : Nat) (u : Value), [a, b][j]? = some u → (w.alloc (.cells #[a, b] t)).cell? ((⟨w.heap.size, 0, none⟩ : Addr).add j) = some u := by
  intro j u h
  have e : (⟨w.heap.size, 0, none⟩ : Addr).add j = ⟨w.heap.size, j, none⟩ := by unfold Addr.add; simp; intro h; exact h.symm
  rw [e]
  exact ((RowAt.new w _ _).cell j).trans (by simpa using h)
theorem own_step2 {w3 w4 : World} {base : Nat} {v v' : Value} {acc : List (Int × Int)} {x y : Int} {o : Obj} (h : ∀ o, (w3.alloc o).ownsRow base 24 2 v acc.length (ptCells acc))
    (h' : w4.ownsRow base 24 2 v' (acc.length + 1) (ptCells acc ++ [.int .i64 x, .int .i64 y])) (hg : (w3.alloc o).grownBy w4 v.ownBlock) (hb : base ≤ w3.heap.size) : OwnPts w4 base v' (acc ++ [(x, y)]) ∧ Below base w3 w4 := by
  refine ⟨?_, ?_⟩
  · have e1 : (acc ++ [(x, y)]).length = acc.length + 1 := by simp
    have e2 : ptCells (acc ++ [(x, y)]) = ptCells acc ++ [.int .i64 x, .int .i64 y] := by simp [ptCells]
    show w4.ownsRow base 24 2 v' (acc ++ [(x, y)]).length (ptCells (acc ++ [(x, y)]))
    rw [e1, e2]
    exact h'
  · exact Below.grown ((Below.refl _ _).alloc hb o) hg (by simp; omega) (fun k hk => (World.ownsRow.lt (h o) k hk).1)
theorem idx4 (a0 a1 a2 a3 a4 a5 a6 a7 : Int) (w : World) (k : Nat) (hk : k < 4) : (Instr.index 87 (.agg #[.int .i64 a0, .int .i64 a1, .int .i64 a2, .int .i64 a3, .int .i64 a4, .int .i64 a5, .int .i64 a6, .int .i64 a7]) (.int .i64 k)).run Try.prog w =
    .ok (.agg ((#[.int .i64 a0, .int .i64 a1, .int .i64 a2, .int .i64 a3, .int .i64 a4, .int .i64 a5, .int .i64 a6, .int .i64 a7] : Array Value).extract (k * 2) (k * 2 + 2))) w := by
  have hs : Sx.sizeT Try.prog 24 = some 2 := by kernel_rfl
  obtain ⟨fs, hu⟩ : ∃ fs, Try.prog.underlying 24 = some (.struct fs) := ⟨_, Try.underlying24⟩
  have h1 : (0 : Int) ≤ (k : Int) ∧ (k : Int) < ((4 : Nat) : Int) := by omega
  simp only [Instr.index, asIntOf, Sem.run_bind, Sem.run_pure, run_underlying Try.underlying87, Result.andThen_ok, h1, and_self, if_true, Sx.run_size hs, part, Sx.run_isAgg hu, Sx.isRow, Int.toNat_natCast]
@[local go_sem] theorem idx4_0 (a0 a1 a2 a3 a4 a5 a6 a7 : Int) (w : World) : (Instr.index 87 (.agg #[.int .i64 a0, .int .i64 a1, .int .i64 a2, .int .i64 a3, .int .i64 a4, .int .i64 a5, .int .i64 a6, .int .i64 a7]) (.int .i64 0)).run Try.prog w = .ok (.agg #[.int .i64 a0, .int .i64 a1]) w := idx4 a0 a1 a2 a3 a4 a5 a6 a7 w 0 (by decide)
@[local go_sem] theorem idx4_1 (a0 a1 a2 a3 a4 a5 a6 a7 : Int) (w : World) : (Instr.index 87 (.agg #[.int .i64 a0, .int .i64 a1, .int .i64 a2, .int .i64 a3, .int .i64 a4, .int .i64 a5, .int .i64 a6, .int .i64 a7]) (.int .i64 1)).run Try.prog w = .ok (.agg #[.int .i64 a2, .int .i64 a3]) w := idx4 a0 a1 a2 a3 a4 a5 a6 a7 w 1 (by decide)
@[local go_sem] theorem idx4_2 (a0 a1 a2 a3 a4 a5 a6 a7 : Int) (w : World) : (Instr.index 87 (.agg #[.int .i64 a0, .int .i64 a1, .int .i64 a2, .int .i64 a3, .int .i64 a4, .int .i64 a5, .int .i64 a6, .int .i64 a7]) (.int .i64 2)).run Try.prog w = .ok (.agg #[.int .i64 a4, .int .i64 a5]) w := idx4 a0 a1 a2 a3 a4 a5 a6 a7 w 2 (by decide)
@[local go_sem] theorem idx4_3 (a0 a1 a2 a3 a4 a5 a6 a7 : Int) (w : World) : (Instr.index 87 (.agg #[.int .i64 a0, .int .i64 a1, .int .i64 a2, .int .i64 a3, .int .i64 a4, .int .i64 a5, .int .i64 a6, .int .i64 a7]) (.int .i64 3)).run Try.prog w = .ok (.agg #[.int .i64 a6, .int .i64 a7]) w := idx4 a0 a1 a2 a3 a4 a5 a6 a7 w 3 (by decide)
set_option maxRecDepth 100000 in
set_option maxHeartbeats 4000000 in
theorem ends_walk (k ax ay bx by' cx cy k2 px py qx qy rx ry : Int) (w : World) (oa ob : Int → Int → Bool)
    (hoa : ∀ x y W, Calls Try.prog 17 #[.agg (eCells k ax ay bx by' cx cy), .agg #[.int .i64 x, .int .i64 y]] W (fun e w' => e = .returned (.bool (oa x y)) ∧ Below W.heap.size W w'))
    (hob : ∀ x y W, Calls Try.prog 17 #[.agg (eCells k2 px py qx qy rx ry), .agg #[.int .i64 x, .int .i64 y]] W (fun e w' => e = .returned (.bool (ob x y)) ∧ Below W.heap.size W w')) (L : List (Int × Int))
    (hL : L = endsL (fun z => oa z.1 z.2 && ob z.1 z.2) [(ax, ay), (bx, by'), (px, py), (qx, qy)] []) :
    Calls Try.prog 29 #[.agg (eCells k ax ay bx by' cx cy), .agg (eCells k2 px py qx qy rx ry)] w (fun e w' => e = .returned (.int .i64 (if 1 < L.length then -1 else L.length)) ∧ Below w.heap.size w w') := by
  obtain ⟨i0, hi, hz0, hz1, hz2⟩ : ∃ i, Try.prog.info? 24 = some i ∧ i.zero = some (.agg #[.int .i64 0, .int .i64 0]) ∧ i.size = 2 ∧ i.bytes = 16 := by
    have h : (Try.prog.info? 24).map (fun i => (i.zero, i.size, i.bytes)) = some (some (.agg #[.int .i64 0, .int .i64 0]), 2, 16) := by kernel_rfl
    obtain ⟨i, hi, e⟩ := Option.map_eq_some_iff.1 h
    simp only [Prod.mk.injEq] at e
    exact ⟨i, hi, e.1, e.2.1, e.2.2⟩
  obtain ⟨r, hr⟩ : ∃ r : Int, r = if 1 < L.length then (-1 : Int) else (L.length : Int) := ⟨_, rfl⟩
  rw [← hr]
  have HR := Lib.hid hr
  clear hr
  have HOA := Lib.hid hoa
  have HOB := Lib.hid hob
  have HL := Lib.hid hL
  clear hoa hob hL
  unfold eCells
  go_enter Try.func29, Try.ntmps29
  obtain ⟨W1, hW1⟩ : ∃ W1, W1 = (w.alloc (.cells #[.int .i64 k, .int .i64 ax, .int .i64 ay, .int .i64 bx, .int .i64 by', .int .i64 cx, .int .i64 cy] 29)).alloc (.cells #[.int .i64 k2, .int .i64 px, .int .i64 py, .int .i64 qx, .int .i64 qy, .int .i64 rx, .int .i64 ry] 29) := ⟨_, rfl⟩
  have rA : RowAt W1 w.heap.size 29 (eCells k ax ay bx by' cx cy) := by rw [hW1]; exact (RowAt.new w _ _).alloc _
  have rB : RowAt W1 (w.heap.size + 1) 29 (eCells k2 px py qx qy rx ry) := by rw [hW1]; exact RowAt.new' _ _ (by simp)
  have hB1 : Below w.heap.size w W1 := by rw [hW1]; exact ((Below.refl _ w).alloc (Nat.le_refl _) _).alloc (by simp) _
  have hs1 : W1.heap.size = w.heap.size + 2 := by rw [hW1]; simp
  obtain ⟨-, a1, a2, a3, a4, -, -⟩ := eCells_at rA
  obtain ⟨-, b1, b2, b3, b4, -, -⟩ := eCells_at rB
  have RA := Lib.hid rA
  have RB := Lib.hid rB
  have HB1 := Lib.hid hB1
  have HS1 := Lib.hid hs1
  clear rA rB hB1 hs1
  rw [hW1] at a1 a2 a3 a4 b1 b2 b3 b4
  have HW1 := Lib.hid hW1
  clear hW1
  go_wp2_with fail
  go_loopw [5, 17] (fun v i wr => ∃ (n : Nat) (acc : List (Int × Int)), n ≤ 4 ∧ i = .int .i64 n ∧ acc = endsL (fun z => oa z.1 z.2 && ob z.1 z.2) ([(ax, ay), (bx, by'), (px, py), (qx, qy)].take n) [] ∧ OwnPts wr (w.heap.size + 2) v acc ∧
    RowAt wr w.heap.size 29 (eCells k ax ay bx by' cx cy) ∧ RowAt wr (w.heap.size + 1) 29 (eCells k2 px py qx qy rx ry) ∧ Below w.heap.size w wr) (fun _ i _ => 4 - (intOf i).toNat)
  case atStart => exact ⟨0, [], by omega, rfl, rfl, World.ownsRow_nil _ _ _ _, by rw [← HW1.out]; exact RA.out, by rw [← HW1.out]; exact RB.out, by rw [← HW1.out]; exact HB1.out⟩
  case round =>
    clear a1 a2 a3 a4 b1 b2 b3 b4
    obtain ⟨n, acc, hn, rfl, hacc, hown, rA, rB, hB⟩ := hrel
    have Hacc := Lib.hid hacc
    have Hown := Lib.hid hown
    have HB := Lib.hid hB
    have RA := Lib.hid rA
    have RB := Lib.hid rB
    clear hacc hown hB rA rB
    by_cases h4 : n < 4
    · have hn4 : n = 0 ∨ n = 1 ∨ n = 2 ∨ n = 3 := by omega
      rcases hn4 with rfl | rfl | rfl | rfl
      · have hkey : endsL (fun z : Int × Int => oa z.1 z.2 && ob z.1 z.2) ([(ax, ay), (bx, by'), (px, py), (qx, qy)].take 1) [] = if (fun z : Int × Int => oa z.1 z.2 && ob z.1 z.2) (ax, ay) = true ∧ (ax, ay) ∉ acc then acc ++ [(ax, ay)] else acc := by
          have := endsL_snoc (fun z : Int × Int => oa z.1 z.2 && ob z.1 z.2) (ax, ay) ([(ax, ay), (bx, by'), (px, py), (qx, qy)].take 0) []
          rw [← Hacc.out] at this
          exact this
        have Hkey := Lib.hid hkey
        clear hkey
        have hlen : acc.length ≤ 0 := by
          rw [Hacc.out]
          have := endsL_len (fun z : Int × Int => oa z.1 z.2 && ob z.1 z.2) ([(ax, ay), (bx, by'), (px, py), (qx, qy)].take 0) []
          simpa using this
        have Hlen := Lib.hid hlen
        clear hlen
        have fa0 : (wr.alloc (.cells #[.int .i64 ax, .int .i64 ay] 24)).cell? ⟨w.heap.size, 0, none⟩ = some (.int .i64 k) := (RA.out.alloc _).cell 0
        have fa1 : (wr.alloc (.cells #[.int .i64 ax, .int .i64 ay] 24)).cell? ⟨w.heap.size, 1, none⟩ = some (.int .i64 ax) := (RA.out.alloc _).cell 1
        have fa2 : (wr.alloc (.cells #[.int .i64 ax, .int .i64 ay] 24)).cell? ⟨w.heap.size, 2, none⟩ = some (.int .i64 ay) := (RA.out.alloc _).cell 2
        have fa3 : (wr.alloc (.cells #[.int .i64 ax, .int .i64 ay] 24)).cell? ⟨w.heap.size, 3, none⟩ = some (.int .i64 bx) := (RA.out.alloc _).cell 3
        have fa4 : (wr.alloc (.cells #[.int .i64 ax, .int .i64 ay] 24)).cell? ⟨w.heap.size, 4, none⟩ = some (.int .i64 by') := (RA.out.alloc _).cell 4
        have fa5 : (wr.alloc (.cells #[.int .i64 ax, .int .i64 ay] 24)).cell? ⟨w.heap.size, 5, none⟩ = some (.int .i64 cx) := (RA.out.alloc _).cell 5
        have fa6 : (wr.alloc (.cells #[.int .i64 ax, .int .i64 ay] 24)).cell? ⟨w.heap.size, 6, none⟩ = some (.int .i64 cy) := (RA.out.alloc _).cell 6
        have fp0 : (wr.alloc (.cells #[.int .i64 ax, .int .i64 ay] 24)).cell? ⟨wr.heap.size, 0, none⟩ = some (.int .i64 ax) := (RowAt.new wr _ _).cell 0
        have fp1 : (wr.alloc (.cells #[.int .i64 ax, .int .i64 ay] 24)).cell? ⟨wr.heap.size, 1, none⟩ = some (.int .i64 ay) := (RowAt.new wr _ _).cell 1
        have hb0 : Below wr.heap.size wr (wr.alloc (.cells #[.int .i64 ax, .int .i64 ay] 24)) := (Below.refl _ _).alloc (Nat.le_refl _) _
        have HB0 := Lib.hid hb0
        clear hb0
        go_wp2_with fail
        refine (HOA.out ax ay _).mono ?_
        rintro e w1 ⟨rfl, hx⟩
        have HX1 : Hid (Below wr.heap.size wr w1) := HB0.out.trans (hx.mono HB0.out.size)
        have RP1 : Hid (RowAt w1 wr.heap.size 24 #[.int .i64 ax, .int .i64 ay]) := (hx.block wr.heap.size (by simp)).trans (RowAt.new wr _ _)
        have HO1 : Hid (OwnPts w1 (w.heap.size + 2) u5 acc) := (Hown.out.alloc _).below (B := 0) hx
        have HBw1 : Hid (Below w.heap.size w w1) := HB.out.trans (HX1.out.mono HB.out.size)
        have hlt : w.heap.size + 1 < wr.heap.size := (Array.getElem?_eq_some_iff.1 RB.out).1
        have RA1 : Hid (RowAt w1 w.heap.size 29 (eCells k ax ay bx by' cx cy)) := (HX1.out.block _ (by omega)).trans RA.out
        have RB1 : Hid (RowAt w1 (w.heap.size + 1) 29 (eCells k2 px py qx qy rx ry)) := (HX1.out.block _ hlt).trans RB.out
        clear fa0 fa1 fa2 fa3 fa4 fa5 fa6 fp0 fp1 hx hlt
        cases ha : oa ax ay with
        | false =>
          have Ha := Lib.hid ha
          clear ha
          go_wp2
          exact ⟨⟨1, acc, by omega, by simp, by rw [Hkey.out, if_neg (by rintro ⟨h1, h2⟩; simp [Ha.out] at h1)], HO1.out, RA1.out, RB1.out, HBw1.out⟩, by simp [intOf]⟩
        | true =>
          have Ha := Lib.hid ha
          clear ha
          have fb0 : w1.cell? ⟨w.heap.size + 1, 0, none⟩ = some (.int .i64 k2) := RB1.out.cell 0
          have fb1 : w1.cell? ⟨w.heap.size + 1, 1, none⟩ = some (.int .i64 px) := RB1.out.cell 1
          have fb2 : w1.cell? ⟨w.heap.size + 1, 2, none⟩ = some (.int .i64 py) := RB1.out.cell 2
          have fb3 : w1.cell? ⟨w.heap.size + 1, 3, none⟩ = some (.int .i64 qx) := RB1.out.cell 3
          have fb4 : w1.cell? ⟨w.heap.size + 1, 4, none⟩ = some (.int .i64 qy) := RB1.out.cell 4
          have fb5 : w1.cell? ⟨w.heap.size + 1, 5, none⟩ = some (.int .i64 rx) := RB1.out.cell 5
          have fb6 : w1.cell? ⟨w.heap.size + 1, 6, none⟩ = some (.int .i64 ry) := RB1.out.cell 6
          have fp0 : w1.cell? ⟨wr.heap.size, 0, none⟩ = some (.int .i64 ax) := RP1.out.cell 0
          have fp1 : w1.cell? ⟨wr.heap.size, 1, none⟩ = some (.int .i64 ay) := RP1.out.cell 1
          go_wp2_with fail
          refine (HOB.out ax ay w1).mono ?_
          rintro e w2 ⟨rfl, hx⟩
          have hlt : w.heap.size + 1 < w1.heap.size := (Array.getElem?_eq_some_iff.1 RB1.out).1
          have RP2 : Hid (RowAt w2 wr.heap.size 24 #[.int .i64 ax, .int .i64 ay]) := (hx.block wr.heap.size (Array.getElem?_eq_some_iff.1 RP1.out).1).trans RP1.out
          have HO2 : Hid (OwnPts w2 (w.heap.size + 2) u5 acc) := HO1.out.below (B := 0) hx
          have HBw2 : Hid (Below w.heap.size w w2) := HBw1.out.trans (hx.mono HBw1.out.size)
          have RA2 : Hid (RowAt w2 w.heap.size 29 (eCells k ax ay bx by' cx cy)) := (hx.block _ (by omega)).trans RA1.out
          have RB2 : Hid (RowAt w2 (w.heap.size + 1) 29 (eCells k2 px py qx qy rx ry)) := (hx.block _ hlt).trans RB1.out
          clear fb0 fb1 fb2 fb3 fb4 fb5 fb6 fp0 fp1 hx hlt
          cases hb : ob ax ay with
          | false =>
            have Hb := Lib.hid hb
            clear hb
            go_wp2
            exact ⟨⟨1, acc, by omega, by simp, by rw [Hkey.out, if_neg (by rintro ⟨h1, h2⟩; simp [Hb.out] at h1)], HO2.out, RA2.out, RB2.out, HBw2.out⟩, by simp [intOf]⟩
          | true =>
            have Hb := Lib.hid hb
            clear hb
            have fp0 : w2.cell? ⟨wr.heap.size, 0, none⟩ = some (.int .i64 ax) := RP2.out.cell 0
            have fp1 : w2.cell? ⟨wr.heap.size, 1, none⟩ = some (.int .i64 ay) := RP2.out.cell 1
            go_wp2_with fail
            refine (contains_calls ax ay w2 HO2.out (by have := Hlen.out; omega)).mono ?_
            rintro e w3 ⟨rfl, hx⟩
            have hlt : w.heap.size + 1 < w2.heap.size := (Array.getElem?_eq_some_iff.1 RB2.out).1
            have RP3 : Hid (RowAt w3 wr.heap.size 24 #[.int .i64 ax, .int .i64 ay]) := (hx.block wr.heap.size (Array.getElem?_eq_some_iff.1 RP2.out).1).trans RP2.out
            have HO3 : Hid (OwnPts w3 (w.heap.size + 2) u5 acc) := HO2.out.below (B := 0) hx
            have HBw3 : Hid (Below w.heap.size w w3) := HBw2.out.trans (hx.mono HBw2.out.size)
            have RA3 : Hid (RowAt w3 w.heap.size 29 (eCells k ax ay bx by' cx cy)) := (hx.block _ (by omega)).trans RA2.out
            have RB3 : Hid (RowAt w3 (w.heap.size + 1) 29 (eCells k2 px py qx qy rx ry)) := (hx.block _ hlt).trans RB2.out
            clear fp0 fp1 hx hlt
            by_cases hm : (ax, ay) ∈ acc
            · rw [decide_eq_true hm]
              have Hm := Lib.hid hm
              clear hm
              go_wp2
              exact ⟨⟨1, acc, by omega, by simp, by rw [Hkey.out, if_neg (by rintro ⟨h1, h2⟩; exact h2 Hm.out)], HO3.out, RA3.out, RB3.out, HBw3.out⟩, by simp [intOf]⟩
            · rw [decide_eq_false hm]
              have Hm := Lib.hid hm
              clear hm
              have fp0 : w3.cell? ⟨wr.heap.size, 0, none⟩ = some (.int .i64 ax) := RP3.out.cell 0
              have fp1 : w3.cell? ⟨wr.heap.size, 1, none⟩ = some (.int .i64 ay) := RP3.out.cell 1
              have Hown3 : Hid (∀ o, (w3.alloc o).ownsRow (w.heap.size + 2) 24 2 u5 acc.length (ptCells acc)) := fun o => World.ownsRow.alloc HO3.out o
              have hszw : w.heap.size + 2 ≤ w3.heap.size := by have := (Array.getElem?_eq_some_iff.1 RB3.out).1; omega
              have hl3 : acc.length ≤ 4 := by have := Hlen.out; omega
              go_wp2_with (at_builtin; refine wpList_append_own _ rfl (.tmp 34) (.tmp 36) 86 rfl (w.heap.size + 2) 24 i0 (.agg #[.int .i64 0, .int .i64 0]) 2 16 Try.underlying86 hi hz0 hz1 hz2 rfl (by decide) _ _ _ rfl (Hown3.out _) ⟨w3.heap.size, 0, none⟩ 1 1 [.int .i64 ax, .int .i64 ay] rfl rfl (cell_two _ _ _ _) (by intro u hu; simp at hu; rcases hu with rfl | rfl <;> rfl) (by unfold maxLen; omega) (by omega) (by simp; omega) ?_; intro v' w4 hown' hgrow _; obtain ⟨ho4, hb4⟩ := own_step2 Hown3.out hown' hgrow hszw; have HO4 := Lib.hid ho4; have HB4 := Lib.hid hb4; clear hown' hgrow ho4 hb4)
              go_wp2
              exact ⟨⟨1, acc ++ [(ax, ay)], by omega, by simp, by rw [Hkey.out, if_pos ⟨by simp [Ha.out, Hb.out], Hm.out⟩], HO4.out, (HB4.out.block _ (by omega)).trans RA3.out, (HB4.out.block _ (by omega)).trans RB3.out, HBw3.out.trans (HB4.out.mono (by omega))⟩, by simp [intOf]⟩
      · have hkey : endsL (fun z : Int × Int => oa z.1 z.2 && ob z.1 z.2) ([(ax, ay), (bx, by'), (px, py), (qx, qy)].take 2) [] = if (fun z : Int × Int => oa z.1 z.2 && ob z.1 z.2) (bx, by') = true ∧ (bx, by') ∉ acc then acc ++ [(bx, by')] else acc := by
          have := endsL_snoc (fun z : Int × Int => oa z.1 z.2 && ob z.1 z.2) (bx, by') ([(ax, ay), (bx, by'), (px, py), (qx, qy)].take 1) []
          rw [← Hacc.out] at this
          exact this
        have Hkey := Lib.hid hkey
        clear hkey
        have hlen : acc.length ≤ 1 := by
          rw [Hacc.out]
          have := endsL_len (fun z : Int × Int => oa z.1 z.2 && ob z.1 z.2) ([(ax, ay), (bx, by'), (px, py), (qx, qy)].take 1) []
          simpa using this
        have Hlen := Lib.hid hlen
        clear hlen
        have fa0 : (wr.alloc (.cells #[.int .i64 bx, .int .i64 by'] 24)).cell? ⟨w.heap.size, 0, none⟩ = some (.int .i64 k) := (RA.out.alloc _).cell 0
        have fa1 : (wr.alloc (.cells #[.int .i64 bx, .int .i64 by'] 24)).cell? ⟨w.heap.size, 1, none⟩ = some (.int .i64 ax) := (RA.out.alloc _).cell 1
        have fa2 : (wr.alloc (.cells #[.int .i64 bx, .int .i64 by'] 24)).cell? ⟨w.heap.size, 2, none⟩ = some (.int .i64 ay) := (RA.out.alloc _).cell 2
        have fa3 : (wr.alloc (.cells #[.int .i64 bx, .int .i64 by'] 24)).cell? ⟨w.heap.size, 3, none⟩ = some (.int .i64 bx) := (RA.out.alloc _).cell 3
        have fa4 : (wr.alloc (.cells #[.int .i64 bx, .int .i64 by'] 24)).cell? ⟨w.heap.size, 4, none⟩ = some (.int .i64 by') := (RA.out.alloc _).cell 4
        have fa5 : (wr.alloc (.cells #[.int .i64 bx, .int .i64 by'] 24)).cell? ⟨w.heap.size, 5, none⟩ = some (.int .i64 cx) := (RA.out.alloc _).cell 5
        have fa6 : (wr.alloc (.cells #[.int .i64 bx, .int .i64 by'] 24)).cell? ⟨w.heap.size, 6, none⟩ = some (.int .i64 cy) := (RA.out.alloc _).cell 6
        have fp0 : (wr.alloc (.cells #[.int .i64 bx, .int .i64 by'] 24)).cell? ⟨wr.heap.size, 0, none⟩ = some (.int .i64 bx) := (RowAt.new wr _ _).cell 0
        have fp1 : (wr.alloc (.cells #[.int .i64 bx, .int .i64 by'] 24)).cell? ⟨wr.heap.size, 1, none⟩ = some (.int .i64 by') := (RowAt.new wr _ _).cell 1
        have hb0 : Below wr.heap.size wr (wr.alloc (.cells #[.int .i64 bx, .int .i64 by'] 24)) := (Below.refl _ _).alloc (Nat.le_refl _) _
        have HB0 := Lib.hid hb0
        clear hb0
        go_wp2_with fail
        refine (HOA.out bx by' _).mono ?_
        rintro e w1 ⟨rfl, hx⟩
        have HX1 : Hid (Below wr.heap.size wr w1) := HB0.out.trans (hx.mono HB0.out.size)
        have RP1 : Hid (RowAt w1 wr.heap.size 24 #[.int .i64 bx, .int .i64 by']) := (hx.block wr.heap.size (by simp)).trans (RowAt.new wr _ _)
        have HO1 : Hid (OwnPts w1 (w.heap.size + 2) u5 acc) := (Hown.out.alloc _).below (B := 0) hx
        have HBw1 : Hid (Below w.heap.size w w1) := HB.out.trans (HX1.out.mono HB.out.size)
        have hlt : w.heap.size + 1 < wr.heap.size := (Array.getElem?_eq_some_iff.1 RB.out).1
        have RA1 : Hid (RowAt w1 w.heap.size 29 (eCells k ax ay bx by' cx cy)) := (HX1.out.block _ (by omega)).trans RA.out
        have RB1 : Hid (RowAt w1 (w.heap.size + 1) 29 (eCells k2 px py qx qy rx ry)) := (HX1.out.block _ hlt).trans RB.out
        clear fa0 fa1 fa2 fa3 fa4 fa5 fa6 fp0 fp1 hx hlt
        cases ha : oa bx by' with
        | false =>
          have Ha := Lib.hid ha
          clear ha
          go_wp2
          exact ⟨⟨2, acc, by omega, by simp, by rw [Hkey.out, if_neg (by rintro ⟨h1, h2⟩; simp [Ha.out] at h1)], HO1.out, RA1.out, RB1.out, HBw1.out⟩, by simp [intOf]⟩
        | true =>
          have Ha := Lib.hid ha
          clear ha
          have fb0 : w1.cell? ⟨w.heap.size + 1, 0, none⟩ = some (.int .i64 k2) := RB1.out.cell 0
          have fb1 : w1.cell? ⟨w.heap.size + 1, 1, none⟩ = some (.int .i64 px) := RB1.out.cell 1
          have fb2 : w1.cell? ⟨w.heap.size + 1, 2, none⟩ = some (.int .i64 py) := RB1.out.cell 2
          have fb3 : w1.cell? ⟨w.heap.size + 1, 3, none⟩ = some (.int .i64 qx) := RB1.out.cell 3
          have fb4 : w1.cell? ⟨w.heap.size + 1, 4, none⟩ = some (.int .i64 qy) := RB1.out.cell 4
          have fb5 : w1.cell? ⟨w.heap.size + 1, 5, none⟩ = some (.int .i64 rx) := RB1.out.cell 5
          have fb6 : w1.cell? ⟨w.heap.size + 1, 6, none⟩ = some (.int .i64 ry) := RB1.out.cell 6
          have fp0 : w1.cell? ⟨wr.heap.size, 0, none⟩ = some (.int .i64 bx) := RP1.out.cell 0
          have fp1 : w1.cell? ⟨wr.heap.size, 1, none⟩ = some (.int .i64 by') := RP1.out.cell 1
          go_wp2_with fail
          refine (HOB.out bx by' w1).mono ?_
          rintro e w2 ⟨rfl, hx⟩
          have hlt : w.heap.size + 1 < w1.heap.size := (Array.getElem?_eq_some_iff.1 RB1.out).1
          have RP2 : Hid (RowAt w2 wr.heap.size 24 #[.int .i64 bx, .int .i64 by']) := (hx.block wr.heap.size (Array.getElem?_eq_some_iff.1 RP1.out).1).trans RP1.out
          have HO2 : Hid (OwnPts w2 (w.heap.size + 2) u5 acc) := HO1.out.below (B := 0) hx
          have HBw2 : Hid (Below w.heap.size w w2) := HBw1.out.trans (hx.mono HBw1.out.size)
          have RA2 : Hid (RowAt w2 w.heap.size 29 (eCells k ax ay bx by' cx cy)) := (hx.block _ (by omega)).trans RA1.out
          have RB2 : Hid (RowAt w2 (w.heap.size + 1) 29 (eCells k2 px py qx qy rx ry)) := (hx.block _ hlt).trans RB1.out
          clear fb0 fb1 fb2 fb3 fb4 fb5 fb6 fp0 fp1 hx hlt
          cases hb : ob bx by' with
          | false =>
            have Hb := Lib.hid hb
            clear hb
            go_wp2
            exact ⟨⟨2, acc, by omega, by simp, by rw [Hkey.out, if_neg (by rintro ⟨h1, h2⟩; simp [Hb.out] at h1)], HO2.out, RA2.out, RB2.out, HBw2.out⟩, by simp [intOf]⟩
          | true =>
            have Hb := Lib.hid hb
            clear hb
            have fp0 : w2.cell? ⟨wr.heap.size, 0, none⟩ = some (.int .i64 bx) := RP2.out.cell 0
            have fp1 : w2.cell? ⟨wr.heap.size, 1, none⟩ = some (.int .i64 by') := RP2.out.cell 1
            go_wp2_with fail
            refine (contains_calls bx by' w2 HO2.out (by have := Hlen.out; omega)).mono ?_
            rintro e w3 ⟨rfl, hx⟩
            have hlt : w.heap.size + 1 < w2.heap.size := (Array.getElem?_eq_some_iff.1 RB2.out).1
            have RP3 : Hid (RowAt w3 wr.heap.size 24 #[.int .i64 bx, .int .i64 by']) := (hx.block wr.heap.size (Array.getElem?_eq_some_iff.1 RP2.out).1).trans RP2.out
            have HO3 : Hid (OwnPts w3 (w.heap.size + 2) u5 acc) := HO2.out.below (B := 0) hx
            have HBw3 : Hid (Below w.heap.size w w3) := HBw2.out.trans (hx.mono HBw2.out.size)
            have RA3 : Hid (RowAt w3 w.heap.size 29 (eCells k ax ay bx by' cx cy)) := (hx.block _ (by omega)).trans RA2.out
            have RB3 : Hid (RowAt w3 (w.heap.size + 1) 29 (eCells k2 px py qx qy rx ry)) := (hx.block _ hlt).trans RB2.out
            clear fp0 fp1 hx hlt
            by_cases hm : (bx, by') ∈ acc
            · rw [decide_eq_true hm]
              have Hm := Lib.hid hm
              clear hm
              go_wp2
              exact ⟨⟨2, acc, by omega, by simp, by rw [Hkey.out, if_neg (by rintro ⟨h1, h2⟩; exact h2 Hm.out)], HO3.out, RA3.out, RB3.out, HBw3.out⟩, by simp [intOf]⟩
            · rw [decide_eq_false hm]
              have Hm := Lib.hid hm
              clear hm
              have fp0 : w3.cell? ⟨wr.heap.size, 0, none⟩ = some (.int .i64 bx) := RP3.out.cell 0
              have fp1 : w3.cell? ⟨wr.heap.size, 1, none⟩ = some (.int .i64 by') := RP3.out.cell 1
              have Hown3 : Hid (∀ o, (w3.alloc o).ownsRow (w.heap.size + 2) 24 2 u5 acc.length (ptCells acc)) := fun o => World.ownsRow.alloc HO3.out o
              have hszw : w.heap.size + 2 ≤ w3.heap.size := by have := (Array.getElem?_eq_some_iff.1 RB3.out).1; omega
              have hl3 : acc.length ≤ 4 := by have := Hlen.out; omega
              go_wp2_with (at_builtin; refine wpList_append_own _ rfl (.tmp 34) (.tmp 36) 86 rfl (w.heap.size + 2) 24 i0 (.agg #[.int .i64 0, .int .i64 0]) 2 16 Try.underlying86 hi hz0 hz1 hz2 rfl (by decide) _ _ _ rfl (Hown3.out _) ⟨w3.heap.size, 0, none⟩ 1 1 [.int .i64 bx, .int .i64 by'] rfl rfl (cell_two _ _ _ _) (by intro u hu; simp at hu; rcases hu with rfl | rfl <;> rfl) (by unfold maxLen; omega) (by omega) (by simp; omega) ?_; intro v' w4 hown' hgrow _; obtain ⟨ho4, hb4⟩ := own_step2 Hown3.out hown' hgrow hszw; have HO4 := Lib.hid ho4; have HB4 := Lib.hid hb4; clear hown' hgrow ho4 hb4)
              go_wp2
              exact ⟨⟨2, acc ++ [(bx, by')], by omega, by simp, by rw [Hkey.out, if_pos ⟨by simp [Ha.out, Hb.out], Hm.out⟩], HO4.out, (HB4.out.block _ (by omega)).trans RA3.out, (HB4.out.block _ (by omega)).trans RB3.out, HBw3.out.trans (HB4.out.mono (by omega))⟩, by simp [intOf]⟩
      · have hkey : endsL (fun z : Int × Int => oa z.1 z.2 && ob z.1 z.2) ([(ax, ay), (bx, by'), (px, py), (qx, qy)].take 3) [] = if (fun z : Int × Int => oa z.1 z.2 && ob z.1 z.2) (px, py) = true ∧ (px, py) ∉ acc then acc ++ [(px, py)] else acc := by
          have := endsL_snoc (fun z : Int × Int => oa z.1 z.2 && ob z.1 z.2) (px, py) ([(ax, ay), (bx, by'), (px, py), (qx, qy)].take 2) []
          rw [← Hacc.out] at this
          exact this
        have Hkey := Lib.hid hkey
        clear hkey
        have hlen : acc.length ≤ 2 := by
          rw [Hacc.out]
          have := endsL_len (fun z : Int × Int => oa z.1 z.2 && ob z.1 z.2) ([(ax, ay), (bx, by'), (px, py), (qx, qy)].take 2) []
          simpa using this
        have Hlen := Lib.hid hlen
        clear hlen
        have fa0 : (wr.alloc (.cells #[.int .i64 px, .int .i64 py] 24)).cell? ⟨w.heap.size, 0, none⟩ = some (.int .i64 k) := (RA.out.alloc _).cell 0
        have fa1 : (wr.alloc (.cells #[.int .i64 px, .int .i64 py] 24)).cell? ⟨w.heap.size, 1, none⟩ = some (.int .i64 ax) := (RA.out.alloc _).cell 1
        have fa2 : (wr.alloc (.cells #[.int .i64 px, .int .i64 py] 24)).cell? ⟨w.heap.size, 2, none⟩ = some (.int .i64 ay) := (RA.out.alloc _).cell 2
        have fa3 : (wr.alloc (.cells #[.int .i64 px, .int .i64 py] 24)).cell? ⟨w.heap.size, 3, none⟩ = some (.int .i64 bx) := (RA.out.alloc _).cell 3
        have fa4 : (wr.alloc (.cells #[.int .i64 px, .int .i64 py] 24)).cell? ⟨w.heap.size, 4, none⟩ = some (.int .i64 by') := (RA.out.alloc _).cell 4
        have fa5 : (wr.alloc (.cells #[.int .i64 px, .int .i64 py] 24)).cell? ⟨w.heap.size, 5, none⟩ = some (.int .i64 cx) := (RA.out.alloc _).cell 5
        have fa6 : (wr.alloc (.cells #[.int .i64 px, .int .i64 py] 24)).cell? ⟨w.heap.size, 6, none⟩ = some (.int .i64 cy) := (RA.out.alloc _).cell 6
        have fp0 : (wr.alloc (.cells #[.int .i64 px, .int .i64 py] 24)).cell? ⟨wr.heap.size, 0, none⟩ = some (.int .i64 px) := (RowAt.new wr _ _).cell 0
        have fp1 : (wr.alloc (.cells #[.int .i64 px, .int .i64 py] 24)).cell? ⟨wr.heap.size, 1, none⟩ = some (.int .i64 py) := (RowAt.new wr _ _).cell 1
        have hb0 : Below wr.heap.size wr (wr.alloc (.cells #[.int .i64 px, .int .i64 py] 24)) := (Below.refl _ _).alloc (Nat.le_refl _) _
        have HB0 := Lib.hid hb0
        clear hb0
        go_wp2_with fail
        refine (HOA.out px py _).mono ?_
        rintro e w1 ⟨rfl, hx⟩
        have HX1 : Hid (Below wr.heap.size wr w1) := HB0.out.trans (hx.mono HB0.out.size)
        have RP1 : Hid (RowAt w1 wr.heap.size 24 #[.int .i64 px, .int .i64 py]) := (hx.block wr.heap.size (by simp)).trans (RowAt.new wr _ _)
        have HO1 : Hid (OwnPts w1 (w.heap.size + 2) u5 acc) := (Hown.out.alloc _).below (B := 0) hx
        have HBw1 : Hid (Below w.heap.size w w1) := HB.out.trans (HX1.out.mono HB.out.size)
        have hlt : w.heap.size + 1 < wr.heap.size := (Array.getElem?_eq_some_iff.1 RB.out).1
        have RA1 : Hid (RowAt w1 w.heap.size 29 (eCells k ax ay bx by' cx cy)) := (HX1.out.block _ (by omega)).trans RA.out
        have RB1 : Hid (RowAt w1 (w.heap.size + 1) 29 (eCells k2 px py qx qy rx ry)) := (HX1.out.block _ hlt).trans RB.out
        clear fa0 fa1 fa2 fa3 fa4 fa5 fa6 fp0 fp1 hx hlt
        cases ha : oa px py with
        | false =>
          have Ha := Lib.hid ha
          clear ha
          go_wp2
          exact ⟨⟨3, acc, by omega, by simp, by rw [Hkey.out, if_neg (by rintro ⟨h1, h2⟩; simp [Ha.out] at h1)], HO1.out, RA1.out, RB1.out, HBw1.out⟩, by simp [intOf]⟩
        | true =>
          have Ha := Lib.hid ha
          clear ha
          have fb0 : w1.cell? ⟨w.heap.size + 1, 0, none⟩ = some (.int .i64 k2) := RB1.out.cell 0
          have fb1 : w1.cell? ⟨w.heap.size + 1, 1, none⟩ = some (.int .i64 px) := RB1.out.cell 1
          have fb2 : w1.cell? ⟨w.heap.size + 1, 2, none⟩ = some (.int .i64 py) := RB1.out.cell 2
          have fb3 : w1.cell? ⟨w.heap.size + 1, 3, none⟩ = some (.int .i64 qx) := RB1.out.cell 3
          have fb4 : w1.cell? ⟨w.heap.size + 1, 4, none⟩ = some (.int .i64 qy) := RB1.out.cell 4
          have fb5 : w1.cell? ⟨w.heap.size + 1, 5, none⟩ = some (.int .i64 rx) := RB1.out.cell 5
          have fb6 : w1.cell? ⟨w.heap.size + 1, 6, none⟩ = some (.int .i64 ry) := RB1.out.cell 6
          have fp0 : w1.cell? ⟨wr.heap.size, 0, none⟩ = some (.int .i64 px) := RP1.out.cell 0
          have fp1 : w1.cell? ⟨wr.heap.size, 1, none⟩ = some (.int .i64 py) := RP1.out.cell 1
          go_wp2_with fail
          refine (HOB.out px py w1).mono ?_
          rintro e w2 ⟨rfl, hx⟩
          have hlt : w.heap.size + 1 < w1.heap.size := (Array.getElem?_eq_some_iff.1 RB1.out).1
          have RP2 : Hid (RowAt w2 wr.heap.size 24 #[.int .i64 px, .int .i64 py]) := (hx.block wr.heap.size (Array.getElem?_eq_some_iff.1 RP1.out).1).trans RP1.out
          have HO2 : Hid (OwnPts w2 (w.heap.size + 2) u5 acc) := HO1.out.below (B := 0) hx
          have HBw2 : Hid (Below w.heap.size w w2) := HBw1.out.trans (hx.mono HBw1.out.size)
          have RA2 : Hid (RowAt w2 w.heap.size 29 (eCells k ax ay bx by' cx cy)) := (hx.block _ (by omega)).trans RA1.out
          have RB2 : Hid (RowAt w2 (w.heap.size + 1) 29 (eCells k2 px py qx qy rx ry)) := (hx.block _ hlt).trans RB1.out
          clear fb0 fb1 fb2 fb3 fb4 fb5 fb6 fp0 fp1 hx hlt
          cases hb : ob px py with
          | false =>
            have Hb := Lib.hid hb
            clear hb
            go_wp2
            exact ⟨⟨3, acc, by omega, by simp, by rw [Hkey.out, if_neg (by rintro ⟨h1, h2⟩; simp [Hb.out] at h1)], HO2.out, RA2.out, RB2.out, HBw2.out⟩, by simp [intOf]⟩
          | true =>
            have Hb := Lib.hid hb
            clear hb
            have fp0 : w2.cell? ⟨wr.heap.size, 0, none⟩ = some (.int .i64 px) := RP2.out.cell 0
            have fp1 : w2.cell? ⟨wr.heap.size, 1, none⟩ = some (.int .i64 py) := RP2.out.cell 1
            go_wp2_with fail
            refine (contains_calls px py w2 HO2.out (by have := Hlen.out; omega)).mono ?_
            rintro e w3 ⟨rfl, hx⟩
            have hlt : w.heap.size + 1 < w2.heap.size := (Array.getElem?_eq_some_iff.1 RB2.out).1
            have RP3 : Hid (RowAt w3 wr.heap.size 24 #[.int .i64 px, .int .i64 py]) := (hx.block wr.heap.size (Array.getElem?_eq_some_iff.1 RP2.out).1).trans RP2.out
            have HO3 : Hid (OwnPts w3 (w.heap.size + 2) u5 acc) := HO2.out.below (B := 0) hx
            have HBw3 : Hid (Below w.heap.size w w3) := HBw2.out.trans (hx.mono HBw2.out.size)
            have RA3 : Hid (RowAt w3 w.heap.size 29 (eCells k ax ay bx by' cx cy)) := (hx.block _ (by omega)).trans RA2.out
            have RB3 : Hid (RowAt w3 (w.heap.size + 1) 29 (eCells k2 px py qx qy rx ry)) := (hx.block _ hlt).trans RB2.out
            clear fp0 fp1 hx hlt
            by_cases hm : (px, py) ∈ acc
            · rw [decide_eq_true hm]
              have Hm := Lib.hid hm
              clear hm
              go_wp2
              exact ⟨⟨3, acc, by omega, by simp, by rw [Hkey.out, if_neg (by rintro ⟨h1, h2⟩; exact h2 Hm.out)], HO3.out, RA3.out, RB3.out, HBw3.out⟩, by simp [intOf]⟩
            · rw [decide_eq_false hm]
              have Hm := Lib.hid hm
              clear hm
              have fp0 : w3.cell? ⟨wr.heap.size, 0, none⟩ = some (.int .i64 px) := RP3.out.cell 0
              have fp1 : w3.cell? ⟨wr.heap.size, 1, none⟩ = some (.int .i64 py) := RP3.out.cell 1
              have Hown3 : Hid (∀ o, (w3.alloc o).ownsRow (w.heap.size + 2) 24 2 u5 acc.length (ptCells acc)) := fun o => World.ownsRow.alloc HO3.out o
              have hszw : w.heap.size + 2 ≤ w3.heap.size := by have := (Array.getElem?_eq_some_iff.1 RB3.out).1; omega
              have hl3 : acc.length ≤ 4 := by have := Hlen.out; omega
              go_wp2_with (at_builtin; refine wpList_append_own _ rfl (.tmp 34) (.tmp 36) 86 rfl (w.heap.size + 2) 24 i0 (.agg #[.int .i64 0, .int .i64 0]) 2 16 Try.underlying86 hi hz0 hz1 hz2 rfl (by decide) _ _ _ rfl (Hown3.out _) ⟨w3.heap.size, 0, none⟩ 1 1 [.int .i64 px, .int .i64 py] rfl rfl (cell_two _ _ _ _) (by intro u hu; simp at hu; rcases hu with rfl | rfl <;> rfl) (by unfold maxLen; omega) (by omega) (by simp; omega) ?_; intro v' w4 hown' hgrow _; obtain ⟨ho4, hb4⟩ := own_step2 Hown3.out hown' hgrow hszw; have HO4 := Lib.hid ho4; have HB4 := Lib.hid hb4; clear hown' hgrow ho4 hb4)
              go_wp2
              exact ⟨⟨3, acc ++ [(px, py)], by omega, by simp, by rw [Hkey.out, if_pos ⟨by simp [Ha.out, Hb.out], Hm.out⟩], HO4.out, (HB4.out.block _ (by omega)).trans RA3.out, (HB4.out.block _ (by omega)).trans RB3.out, HBw3.out.trans (HB4.out.mono (by omega))⟩, by simp [intOf]⟩
      · have hkey : endsL (fun z : Int × Int => oa z.1 z.2 && ob z.1 z.2) ([(ax, ay), (bx, by'), (px, py), (qx, qy)].take 4) [] = if (fun z : Int × Int => oa z.1 z.2 && ob z.1 z.2) (qx, qy) = true ∧ (qx, qy) ∉ acc then acc ++ [(qx, qy)] else acc := by
          have := endsL_snoc (fun z : Int × Int => oa z.1 z.2 && ob z.1 z.2) (qx, qy) ([(ax, ay), (bx, by'), (px, py), (qx, qy)].take 3) []
          rw [← Hacc.out] at this
          exact this
        have Hkey := Lib.hid hkey
        clear hkey
        have hlen : acc.length ≤ 3 := by
          rw [Hacc.out]
          have := endsL_len (fun z : Int × Int => oa z.1 z.2 && ob z.1 z.2) ([(ax, ay), (bx, by'), (px, py), (qx, qy)].take 3) []
          simpa using this
        have Hlen := Lib.hid hlen
        clear hlen
        have fa0 : (wr.alloc (.cells #[.int .i64 qx, .int .i64 qy] 24)).cell? ⟨w.heap.size, 0, none⟩ = some (.int .i64 k) := (RA.out.alloc _).cell 0
        have fa1 : (wr.alloc (.cells #[.int .i64 qx, .int .i64 qy] 24)).cell? ⟨w.heap.size, 1, none⟩ = some (.int .i64 ax) := (RA.out.alloc _).cell 1
        have fa2 : (wr.alloc (.cells #[.int .i64 qx, .int .i64 qy] 24)).cell? ⟨w.heap.size, 2, none⟩ = some (.int .i64 ay) := (RA.out.alloc _).cell 2
        have fa3 : (wr.alloc (.cells #[.int .i64 qx, .int .i64 qy] 24)).cell? ⟨w.heap.size, 3, none⟩ = some (.int .i64 bx) := (RA.out.alloc _).cell 3
        have fa4 : (wr.alloc (.cells #[.int .i64 qx, .int .i64 qy] 24)).cell? ⟨w.heap.size, 4, none⟩ = some (.int .i64 by') := (RA.out.alloc _).cell 4
        have fa5 : (wr.alloc (.cells #[.int .i64 qx, .int .i64 qy] 24)).cell? ⟨w.heap.size, 5, none⟩ = some (.int .i64 cx) := (RA.out.alloc _).cell 5
        have fa6 : (wr.alloc (.cells #[.int .i64 qx, .int .i64 qy] 24)).cell? ⟨w.heap.size, 6, none⟩ = some (.int .i64 cy) := (RA.out.alloc _).cell 6
        have fp0 : (wr.alloc (.cells #[.int .i64 qx, .int .i64 qy] 24)).cell? ⟨wr.heap.size, 0, none⟩ = some (.int .i64 qx) := (RowAt.new wr _ _).cell 0
        have fp1 : (wr.alloc (.cells #[.int .i64 qx, .int .i64 qy] 24)).cell? ⟨wr.heap.size, 1, none⟩ = some (.int .i64 qy) := (RowAt.new wr _ _).cell 1
        have hb0 : Below wr.heap.size wr (wr.alloc (.cells #[.int .i64 qx, .int .i64 qy] 24)) := (Below.refl _ _).alloc (Nat.le_refl _) _
        have HB0 := Lib.hid hb0
        clear hb0
        go_wp2_with fail
        refine (HOA.out qx qy _).mono ?_
        rintro e w1 ⟨rfl, hx⟩
        have HX1 : Hid (Below wr.heap.size wr w1) := HB0.out.trans (hx.mono HB0.out.size)
        have RP1 : Hid (RowAt w1 wr.heap.size 24 #[.int .i64 qx, .int .i64 qy]) := (hx.block wr.heap.size (by simp)).trans (RowAt.new wr _ _)
        have HO1 : Hid (OwnPts w1 (w.heap.size + 2) u5 acc) := (Hown.out.alloc _).below (B := 0) hx
        have HBw1 : Hid (Below w.heap.size w w1) := HB.out.trans (HX1.out.mono HB.out.size)
        have hlt : w.heap.size + 1 < wr.heap.size := (Array.getElem?_eq_some_iff.1 RB.out).1
        have RA1 : Hid (RowAt w1 w.heap.size 29 (eCells k ax ay bx by' cx cy)) := (HX1.out.block _ (by omega)).trans RA.out
        have RB1 : Hid (RowAt w1 (w.heap.size + 1) 29 (eCells k2 px py qx qy rx ry)) := (HX1.out.block _ hlt).trans RB.out
        clear fa0 fa1 fa2 fa3 fa4 fa5 fa6 fp0 fp1 hx hlt
        cases ha : oa qx qy with
        | false =>
          have Ha := Lib.hid ha
          clear ha
          go_wp2
          exact ⟨⟨4, acc, by omega, by simp, by rw [Hkey.out, if_neg (by rintro ⟨h1, h2⟩; simp [Ha.out] at h1)], HO1.out, RA1.out, RB1.out, HBw1.out⟩, by simp [intOf]⟩
        | true =>
          have Ha := Lib.hid ha
          clear ha
          have fb0 : w1.cell? ⟨w.heap.size + 1, 0, none⟩ = some (.int .i64 k2) := RB1.out.cell 0
          have fb1 : w1.cell? ⟨w.heap.size + 1, 1, none⟩ = some (.int .i64 px) := RB1.out.cell 1
          have fb2 : w1.cell? ⟨w.heap.size + 1, 2, none⟩ = some (.int .i64 py) := RB1.out.cell 2
          have fb3 : w1.cell? ⟨w.heap.size + 1, 3, none⟩ = some (.int .i64 qx) := RB1.out.cell 3
          have fb4 : w1.cell? ⟨w.heap.size + 1, 4, none⟩ = some (.int .i64 qy) := RB1.out.cell 4
          have fb5 : w1.cell? ⟨w.heap.size + 1, 5, none⟩ = some (.int .i64 rx) := RB1.out.cell 5
          have fb6 : w1.cell? ⟨w.heap.size + 1, 6, none⟩ = some (.int .i64 ry) := RB1.out.cell 6
          have fp0 : w1.cell? ⟨wr.heap.size, 0, none⟩ = some (.int .i64 qx) := RP1.out.cell 0
          have fp1 : w1.cell? ⟨wr.heap.size, 1, none⟩ = some (.int .i64 qy) := RP1.out.cell 1
          go_wp2_with fail
          refine (HOB.out qx qy w1).mono ?_
          rintro e w2 ⟨rfl, hx⟩
          have hlt : w.heap.size + 1 < w1.heap.size := (Array.getElem?_eq_some_iff.1 RB1.out).1
          have RP2 : Hid (RowAt w2 wr.heap.size 24 #[.int .i64 qx, .int .i64 qy]) := (hx.block wr.heap.size (Array.getElem?_eq_some_iff.1 RP1.out).1).trans RP1.out
          have HO2 : Hid (OwnPts w2 (w.heap.size + 2) u5 acc) := HO1.out.below (B := 0) hx
          have HBw2 : Hid (Below w.heap.size w w2) := HBw1.out.trans (hx.mono HBw1.out.size)
          have RA2 : Hid (RowAt w2 w.heap.size 29 (eCells k ax ay bx by' cx cy)) := (hx.block _ (by omega)).trans RA1.out
          have RB2 : Hid (RowAt w2 (w.heap.size + 1) 29 (eCells k2 px py qx qy rx ry)) := (hx.block _ hlt).trans RB1.out
          clear fb0 fb1 fb2 fb3 fb4 fb5 fb6 fp0 fp1 hx hlt
          cases hb : ob qx qy with
          | false =>
            have Hb := Lib.hid hb
            clear hb
            go_wp2
            exact ⟨⟨4, acc, by omega, by simp, by rw [Hkey.out, if_neg (by rintro ⟨h1, h2⟩; simp [Hb.out] at h1)], HO2.out, RA2.out, RB2.out, HBw2.out⟩, by simp [intOf]⟩
          | true =>
            have Hb := Lib.hid hb
            clear hb
            have fp0 : w2.cell? ⟨wr.heap.size, 0, none⟩ = some (.int .i64 qx) := RP2.out.cell 0
            have fp1 : w2.cell? ⟨wr.heap.size, 1, none⟩ = some (.int .i64 qy) := RP2.out.cell 1
            go_wp2_with fail
            refine (contains_calls qx qy w2 HO2.out (by have := Hlen.out; omega)).mono ?_
            rintro e w3 ⟨rfl, hx⟩
            have hlt : w.heap.size + 1 < w2.heap.size := (Array.getElem?_eq_some_iff.1 RB2.out).1
            have RP3 : Hid (RowAt w3 wr.heap.size 24 #[.int .i64 qx, .int .i64 qy]) := (hx.block wr.heap.size (Array.getElem?_eq_some_iff.1 RP2.out).1).trans RP2.out
            have HO3 : Hid (OwnPts w3 (w.heap.size + 2) u5 acc) := HO2.out.below (B := 0) hx
            have HBw3 : Hid (Below w.heap.size w w3) := HBw2.out.trans (hx.mono HBw2.out.size)
            have RA3 : Hid (RowAt w3 w.heap.size 29 (eCells k ax ay bx by' cx cy)) := (hx.block _ (by omega)).trans RA2.out
            have RB3 : Hid (RowAt w3 (w.heap.size + 1) 29 (eCells k2 px py qx qy rx ry)) := (hx.block _ hlt).trans RB2.out
            clear fp0 fp1 hx hlt
            by_cases hm : (qx, qy) ∈ acc
            · rw [decide_eq_true hm]
              have Hm := Lib.hid hm
              clear hm
              go_wp2
              exact ⟨⟨4, acc, by omega, by simp, by rw [Hkey.out, if_neg (by rintro ⟨h1, h2⟩; exact h2 Hm.out)], HO3.out, RA3.out, RB3.out, HBw3.out⟩, by simp [intOf]⟩
            · rw [decide_eq_false hm]
              have Hm := Lib.hid hm
              clear hm
              have fp0 : w3.cell? ⟨wr.heap.size, 0, none⟩ = some (.int .i64 qx) := RP3.out.cell 0
              have fp1 : w3.cell? ⟨wr.heap.size, 1, none⟩ = some (.int .i64 qy) := RP3.out.cell 1
              have Hown3 : Hid (∀ o, (w3.alloc o).ownsRow (w.heap.size + 2) 24 2 u5 acc.length (ptCells acc)) := fun o => World.ownsRow.alloc HO3.out o
              have hszw : w.heap.size + 2 ≤ w3.heap.size := by have := (Array.getElem?_eq_some_iff.1 RB3.out).1; omega
              have hl3 : acc.length ≤ 4 := by have := Hlen.out; omega
              go_wp2_with (at_builtin; refine wpList_append_own _ rfl (.tmp 34) (.tmp 36) 86 rfl (w.heap.size + 2) 24 i0 (.agg #[.int .i64 0, .int .i64 0]) 2 16 Try.underlying86 hi hz0 hz1 hz2 rfl (by decide) _ _ _ rfl (Hown3.out _) ⟨w3.heap.size, 0, none⟩ 1 1 [.int .i64 qx, .int .i64 qy] rfl rfl (cell_two _ _ _ _) (by intro u hu; simp at hu; rcases hu with rfl | rfl <;> rfl) (by unfold maxLen; omega) (by omega) (by simp; omega) ?_; intro v' w4 hown' hgrow _; obtain ⟨ho4, hb4⟩ := own_step2 Hown3.out hown' hgrow hszw; have HO4 := Lib.hid ho4; have HB4 := Lib.hid hb4; clear hown' hgrow ho4 hb4)
              go_wp2
              exact ⟨⟨4, acc ++ [(qx, qy)], by omega, by simp, by rw [Hkey.out, if_pos ⟨by simp [Ha.out, Hb.out], Hm.out⟩], HO4.out, (HB4.out.block _ (by omega)).trans RA3.out, (HB4.out.block _ (by omega)).trans RB3.out, HBw3.out.trans (HB4.out.mono (by omega))⟩, by simp [intOf]⟩
    · have hn4 : n = 4 := by omega
      subst hn4
      have hl : acc = L := by rw [Hacc.out, HL.out]; rfl
      have Hl := Lib.hid hl
      have hO := Hown.out.2
      clear hl
      rcases hO with ⟨rfl, h0⟩ | ⟨g, cap, cur, rfl, -⟩
      · have hz : L.length = 0 := by rw [← Hl.out]; exact h0
        have Hz := Lib.hid hz
        clear hz h0
        go_wp2
        go_ret
        refine ⟨?_, HB.out⟩
        rw [HR.out, Hz.out]
        rfl
      · obtain ⟨m, hm⟩ : ∃ m, m = acc.length := ⟨_, rfl⟩
        rw [← hm]
        have Hm : Hid (m = L.length) := Lib.hid (hm.trans (by rw [Hl.out]))
        clear hm
        by_cases h1 : 1 < m
        · have h2 : (1 : Int) < (m : Int) := by omega
          go_wp2
          go_ret
          refine ⟨?_, HB.out⟩
          rw [HR.out, ← Hm.out, if_pos h1]
          rfl
        · have h2 : ¬ ((1 : Int) < (m : Int)) := by omega
          go_wp2
          go_ret
          refine ⟨?_, HB.out⟩
          rw [HR.out, ← Hm.out, if_neg h1]
          rfl
theorem Sx.countEnds_c (k ax ay bx by' cx cy k2 px py qx qy rx ry : Int) (w : World) : Calls Try.prog 29 #[.agg #[.int .i64 k, .int .i64 ax, .int .i64 ay, .int .i64 bx, .int .i64 by', .int .i64 cx, .int .i64 cy], .agg #[.int .i64 k2, .int .i64 px, .int .i64 py, .int .i64 qx, .int .i64 qy, .int .i64 rx, .int .i64 ry]] w
    (fun e w' => e = .returned (.int .i64 (endsZ k ax ay bx by' cx cy k2 px py qx qy rx ry)) ∧ Below w.heap.size w w') := by
  have h := ends_walk k ax ay bx by' cx cy k2 px py qx qy rx ry w (fun x y => decide (onP k ax ay bx by' cx cy x y)) (fun x y => decide (onP k2 px py qx qy rx ry x y)) (fun x y W => von_c _ _ _ _ _ _ _ _ _ W) (fun x y W => von_c _ _ _ _ _ _ _ _ _ W)
    (endsL (onB k ax ay bx by' cx cy k2 px py qx qy rx ry) [(ax, ay), (bx, by'), (px, py), (qx, qy)] []) (by
      congr 1
      funext z
      unfold onB
      rw [Bool.decide_and])
  exact h
end Go.Proofs.Ytmoclgpdcnjacaa
