/- Count, by the program, of any edges. -/
import Derived.Test.YtmoclgpdcnjacaaMc1
import Derived.Test.YtmoclgpdcnjacaaMc2
import Derived.Test.YtmoclgpdcnjacaaMc3
import Derived.Test.YtmoclgpdcnjacaaMc4
set_option linter.all false
set_option autoImplicit false
namespace Go.Proofs.Ytmoclgpdcnjacaa.Sx
open Go Go.RowKit

theorem check_iff (k ax ay bx by' cx cy : Int) : checkZ k ax ay bx by' cx cy = 0 ↔ okP k ax ay bx by' cx cy := by
  unfold checkZ okP
  split
  · constructor
    · intro h; omega
    · rintro ⟨h1, h2, -⟩; omega
  · rename_i hk
    split
    · rename_i h
      constructor
      · intro h'; omega
      · rintro ⟨-, -, h1, h2, h3, -⟩; exact absurd ⟨h1, h2, h3⟩ h
    · rename_i h
      have h := Decidable.not_not.1 h
      split
      · rename_i h4
        exact ⟨fun _ => ⟨by omega, by omega, h.1, h.2.1, h.2.2, h4⟩, fun _ => rfl⟩
      · rename_i h4
        exact ⟨fun h' => by omega, fun h' => absurd h'.2.2.2.2.2 h4⟩
theorem ok_arc {k ax ay bx by' cx cy : Int} (h : okP k ax ay bx by' cx cy) (hk : k ≠ 1) : arcP k ax ay bx by' cx cy := by
  rcases h.2.2.2.2.2 with h | h
  · exact absurd h.1 hk
  · exact h
theorem arc_ne {k ax ay bx by' cx cy : Int} (h : arcP k ax ay bx by' cx cy) : ax ≠ bx ∧ ay ≠ by' := by unfold arcP at h; omega
theorem rad_bounds {k ax ay bx by' cx cy : Int} (h : okP k ax ay bx by' cx cy) : 0 ≤ radiusZ k ax ay bx by' cx cy ∧ radiusZ k ax ay bx by' cx cy ≤ 134217728 := by
  have hr := h.2.2
  unfold radiusZ
  split
  · rename_i hk
    have := ok_arc h hk.1
    obtain ⟨r1, r2, r3, -⟩ := hr
    unfold rightP at r1 r2 r3
    unfold arcP at this
    omega
  · omega
def no0T : Tree V := .leaf (.c (.int .i64 (.lit 0)))
set_option maxRecDepth 1000000 in
theorem no0_tree : vals (execF Try.prog ctCount 20 11 [.agg [iv 0, iv 1, iv 2, iv 3, iv 4, iv 5, iv 6], .agg [iv 7, iv 8, iv 9, iv 10, iv 11, iv 12, iv 13]] ⟨[], 0, ⟨[(.eq (.app 4 (tlM [.var 0, .var 1, .var 2, .var 3, .var 4, .var 5, .var 6])) (.lit 0), false)], [], 0⟩⟩) = no0T := by kernel_rfl
set_option maxRecDepth 1000000 in
theorem no1_tree : vals (execF Try.prog ctCount 20 11 [.agg [iv 0, iv 1, iv 2, iv 3, iv 4, iv 5, iv 6], .agg [iv 7, iv 8, iv 9, iv 10, iv 11, iv 12, iv 13]] ⟨[], 0, ⟨[(.eq (.app 4 (tlM [.var 0, .var 1, .var 2, .var 3, .var 4, .var 5, .var 6])) (.lit 0), true), (.eq (.app 4 (tlM [.var 7, .var 8, .var 9, .var 10, .var 11, .var 12, .var 13])) (.lit 0), false)], [], 0⟩⟩) = no0T := by kernel_rfl
theorem count_c (k ax ay bx by' cx cy k2 px py qx qy rx ry : Int) (w : World) :
    Calls Try.prog 11 #[.agg #[.int .i64 k, .int .i64 ax, .int .i64 ay, .int .i64 bx, .int .i64 by', .int .i64 cx, .int .i64 cy], .agg #[.int .i64 k2, .int .i64 px, .int .i64 py, .int .i64 qx, .int .i64 qy, .int .i64 rx, .int .i64 ry]] w (fun e w' => e = .returned (.int .i64 (countZ k ax ay bx by' cx cy k2 px py qx qy rx ry)) ∧ Below w.heap.size w w') := by
  unfold countZ
  by_cases ha : okP k ax ay bx by' cx cy
  · by_cases hb : okP k2 px py qx qy rx ry
    · rw [if_pos ⟨ha, hb⟩]
      have ca := (check_iff k ax ay bx by' cx cy).2 ha
      have cb := (check_iff k2 px py qx qy rx ry).2 hb
      obtain ⟨ra0, ra1⟩ := rad_bounds ha
      obtain ⟨rb0, rb1⟩ := rad_bounds hb
      have ba := ha.2.2
      have bb := hb.2.2
      unfold rightP at ba bb
      obtain ⟨⟨a1, a2, a3, a4⟩, ⟨a5, a6, a7, a8⟩, ⟨a9, a10, a11, a12⟩, -⟩ := ba
      obtain ⟨⟨b1, b2, b3, b4⟩, ⟨b5, b6, b7, b8⟩, ⟨b9, b10, b11, b12⟩, -⟩ := bb
      by_cases hk : k = 1
      · by_cases hk2 : k2 = 1
        · exact cLL_c k ax ay bx by' cx cy k2 px py qx qy rx ry w hk hk2 ca cb a1 a2 a3 a4 a5 a6 a7 a8 a9 a10 a11 a12 b1 b2 b3 b4 b5 b6 b7 b8 b9 b10 b11 b12 ra0 ra1 rb0 rb1
        · exact cLC_c k ax ay bx by' cx cy k2 px py qx qy rx ry w (arc_ne (ok_arc hb hk2)).1 hk hk2 ca cb a1 a2 a3 a4 a5 a6 a7 a8 a9 a10 a11 a12 b1 b2 b3 b4 b5 b6 b7 b8 b9 b10 b11 b12 ra0 ra1 rb0 rb1
      · by_cases hk2 : k2 = 1
        · exact cCL_c k ax ay bx by' cx cy k2 px py qx qy rx ry w (arc_ne (ok_arc ha hk)).1 hk hk2 ca cb a1 a2 a3 a4 a5 a6 a7 a8 a9 a10 a11 a12 b1 b2 b3 b4 b5 b6 b7 b8 b9 b10 b11 b12 ra0 ra1 rb0 rb1
        · exact cCC_c k ax ay bx by' cx cy k2 px py qx qy rx ry w (arc_ne (ok_arc ha hk)).1 (arc_ne (ok_arc hb hk2)).1 hk hk2 ca cb a1 a2 a3 a4 a5 a6 a7 a8 a9 a10 a11 a12 b1 b2 b3 b4 b5 b6 b7 b8 b9 b10 b11 b12 ra0 ra1 rb0 rb1
    · rw [if_neg (fun h => hb h.2)]
      exact @calls_litD Try.prog IM (envOf [k, ax, ay, bx, by', cx, cy, k2, px, py, qx, qy, rx, ry] []) mixed nocount ctCount (ctCount_ok _) 20 11 [.agg [iv 0, iv 1, iv 2, iv 3, iv 4, iv 5, iv 6], .agg [iv 7, iv 8, iv 9, iv 10, iv 11, iv 12, iv 13]] ⟨[(.eq (.app 4 (tlM [.var 0, .var 1, .var 2, .var 3, .var 4, .var 5, .var 6])) (.lit 0), true), (.eq (.app 4 (tlM [.var 7, .var 8, .var 9, .var 10, .var 11, .var 12, .var 13])) (.lit 0), false)], [], 0⟩ no0T w (.int .i64 0) (fun _ h => nomatch h) ⟨fun p hp => by
        simp only [List.mem_cons, List.not_mem_nil, or_false] at hp
        rcases hp with rfl | rfl
        · exact B.eq_t.2 ((check_iff k ax ay bx by' cx cy).2 ha)
        · exact B.eq_f.2 (fun h => hb ((check_iff k2 px py qx qy rx ry).1 h)), (fun _ h => nomatch h), fun _ h => absurd h (Nat.not_lt_zero _)⟩ rfl no1_tree ⟨rfl, rfl⟩
  · rw [if_neg (fun h => ha h.1)]
    exact @calls_litD Try.prog IM (envOf [k, ax, ay, bx, by', cx, cy, k2, px, py, qx, qy, rx, ry] []) mixed nocount ctCount (ctCount_ok _) 20 11 [.agg [iv 0, iv 1, iv 2, iv 3, iv 4, iv 5, iv 6], .agg [iv 7, iv 8, iv 9, iv 10, iv 11, iv 12, iv 13]] ⟨[(.eq (.app 4 (tlM [.var 0, .var 1, .var 2, .var 3, .var 4, .var 5, .var 6])) (.lit 0), false)], [], 0⟩ no0T w (.int .i64 0) (fun _ h => nomatch h) ⟨fun p hp => by
        simp only [List.mem_cons, List.not_mem_nil, or_false] at hp
        rcases hp with rfl
        exact B.eq_f.2 (fun h => ha ((check_iff k ax ay bx by' cx cy).1 h)), (fun _ h => nomatch h), fun _ h => absurd h (Nat.not_lt_zero _)⟩ rfl no0_tree ⟨rfl, rfl⟩
end Go.Proofs.Ytmoclgpdcnjacaa.Sx
