import Derived.Test.YtliimpbbppbghaaUTga
import Derived.Test.YtliimpbbppbghaaUTgb
import Derived.Test.YtliimpbbppbghaaUTg2a
import Derived.Test.YtliimpbbppbghaaUTg2b
import Derived.Test.YtliimpbbppbghaaUTg2c0
import Derived.Test.YtliimpbbppbghaaUTg2c1
import Derived.Test.YtliimpbbppbghaaUTg2c2
import Derived.Test.YtliimpbbppbghaaUTg2c3
import Derived.Test.YtliimpbbppbghaaUTg3a
import Derived.Test.YtliimpbbppbghaaUTg3b
import Derived.Test.YtliimpbbppbghaaUTg3c0
import Derived.Test.YtliimpbbppbghaaUTg3c1
import Derived.Test.YtliimpbbppbghaaUTg3c2
import Derived.Test.YtliimpbbppbghaaUTg3c3
set_option linter.all false
set_option autoImplicit false
set_option maxRecDepth 1000000
set_option maxHeartbeats 0
namespace Go.Proofs.Ytliimpbbppbghaa.Sx
open Go Go.RowKit
section
variable {W : World} {l : Ls}
theorem fact_den (k n v : Int) (t : Bool) (hk : 0 ≤ k) : (B.eq (.app 0 (tl [.lit k, .lit n])) (.lit v)).den (IS W l) (envOf [] []) = t ↔ decide (drawV l.zs k.toNat n = v) = t := by
  show decide (drawV l.zs k.toNat n = v) = t ↔ _
  exact Iff.rfl
theorem made_case (h0 : l.Ok W) {F : List (B × Bool)} (hF : ∀ p ∈ F, p.1.den (IS W l) (envOf [] []) = p.2) (hL : leavesS shpOk (execF Try.prog ctG 20 9 [.c (.abs 0 .nil)] ⟨[], 0, ⟨F, [0, 20, 21, 24, 25], 0⟩⟩) = true) :
    ∃ K R es, Made K R es ∧ MadeAs W l K R es 9 #[l.v] :=
  shape_ex h0 (drawsS_ok hF (fun _ h => absurd h (Nat.not_lt_zero _))) (args := [.c (.abs 0 .nil)]) rfl hL
theorem case_K0 (h0' : l.Ok W) (h0 : decide (drawV l.zs 0 7 = 0) = true) : ∃ K R es, Made K R es ∧ MadeAs W l K R es 9 #[l.v] :=
  made_case h0' (F := FK0) (by
    intro p hp
    simp only [FK0, List.mem_cons, List.not_mem_nil, or_false] at hp
    subst hp
    exact (fact_den 0 7 0 _ (by decide)).2 h0) made_K0
theorem case_K1 (h0' : l.Ok W) (h0 : decide (drawV l.zs 0 7 = 1) = true) : ∃ K R es, Made K R es ∧ MadeAs W l K R es 9 #[l.v] :=
  made_case h0' (F := FK1) (by
    intro p hp
    simp only [FK1, List.mem_cons, List.not_mem_nil, or_false] at hp
    subst hp
    exact (fact_den 0 7 1 _ (by decide)).2 h0) made_K1
theorem case_K4 (h0' : l.Ok W) (h0 : decide (drawV l.zs 0 7 = 4) = true) : ∃ K R es, Made K R es ∧ MadeAs W l K R es 9 #[l.v] :=
  made_case h0' (F := FK4) (by
    intro p hp
    simp only [FK4, List.mem_cons, List.not_mem_nil, or_false] at hp
    subst hp
    exact (fact_den 0 7 4 _ (by decide)).2 h0) made_K4
theorem case_K6 (h0' : l.Ok W) (h0 : decide (drawV l.zs 0 7 = 6) = true) : ∃ K R es, Made K R es ∧ MadeAs W l K R es 9 #[l.v] :=
  made_case h0' (F := FK6) (by
    intro p hp
    simp only [FK6, List.mem_cons, List.not_mem_nil, or_false] at hp
    subst hp
    exact (fact_den 0 7 6 _ (by decide)).2 h0) made_K6
theorem case_K5 (h0' : l.Ok W) (h0 : decide (drawV l.zs 0 7 = 5) = true) : ∃ K R es, Made K R es ∧ MadeAs W l K R es 9 #[l.v] :=
  made_case h0' (F := FK5) (by
    intro p hp
    simp only [FK5, List.mem_cons, List.not_mem_nil, or_false] at hp
    subst hp
    exact (fact_den 0 7 5 _ (by decide)).2 h0) made_K5
theorem case_K2a (h0' : l.Ok W) (h0 : decide (drawV l.zs 0 7 = 2) = true) (h1 : decide (drawV l.zs 5 3 = 0) = true) : ∃ K R es, Made K R es ∧ MadeAs W l K R es 9 #[l.v] :=
  made_case h0' (F := FK2a) (by
    intro p hp
    simp only [FK2a, List.mem_cons, List.not_mem_nil, or_false] at hp
    rcases hp with rfl | rfl
    · exact (fact_den 0 7 2 _ (by decide)).2 h0
    · exact (fact_den 5 3 0 _ (by decide)).2 h1) made_K2a
theorem case_K2b (h0' : l.Ok W) (h0 : decide (drawV l.zs 0 7 = 2) = true) (h1 : decide (drawV l.zs 5 3 = 1) = true) : ∃ K R es, Made K R es ∧ MadeAs W l K R es 9 #[l.v] :=
  made_case h0' (F := FK2b) (by
    intro p hp
    simp only [FK2b, List.mem_cons, List.not_mem_nil, or_false] at hp
    rcases hp with rfl | rfl
    · exact (fact_den 0 7 2 _ (by decide)).2 h0
    · exact (fact_den 5 3 1 _ (by decide)).2 h1) made_K2b
theorem case_K2ll (h0' : l.Ok W) (h0 : decide (drawV l.zs 0 7 = 2) = true) (h1 : decide (drawV l.zs 5 3 = 2) = true) (h2 : decide (drawV l.zs 8 3 = 0) = false) (h3 : decide (drawV l.zs 11 3 = 0) = false) : ∃ K R es, Made K R es ∧ MadeAs W l K R es 9 #[l.v] :=
  made_case h0' (F := FK2ll) (by
    intro p hp
    simp only [FK2ll, List.mem_cons, List.not_mem_nil, or_false] at hp
    rcases hp with rfl | rfl | rfl | rfl
    · exact (fact_den 0 7 2 _ (by decide)).2 h0
    · exact (fact_den 5 3 2 _ (by decide)).2 h1
    · exact (fact_den 8 3 0 _ (by decide)).2 h2
    · exact (fact_den 11 3 0 _ (by decide)).2 h3) made_K2ll
theorem case_K2l0 (h0' : l.Ok W) (h0 : decide (drawV l.zs 0 7 = 2) = true) (h1 : decide (drawV l.zs 5 3 = 2) = true) (h2 : decide (drawV l.zs 8 3 = 0) = false) (h3 : decide (drawV l.zs 11 3 = 0) = true) (h4 : decide (drawV l.zs 13 4 = 0) = true) : ∃ K R es, Made K R es ∧ MadeAs W l K R es 9 #[l.v] :=
  made_case h0' (F := FK2l0) (by
    intro p hp
    simp only [FK2l0, List.mem_cons, List.not_mem_nil, or_false] at hp
    rcases hp with rfl | rfl | rfl | rfl | rfl
    · exact (fact_den 0 7 2 _ (by decide)).2 h0
    · exact (fact_den 5 3 2 _ (by decide)).2 h1
    · exact (fact_den 8 3 0 _ (by decide)).2 h2
    · exact (fact_den 11 3 0 _ (by decide)).2 h3
    · exact (fact_den 13 4 0 _ (by decide)).2 h4) made_K2l0
theorem case_K2l1 (h0' : l.Ok W) (h0 : decide (drawV l.zs 0 7 = 2) = true) (h1 : decide (drawV l.zs 5 3 = 2) = true) (h2 : decide (drawV l.zs 8 3 = 0) = false) (h3 : decide (drawV l.zs 11 3 = 0) = true) (h4 : decide (drawV l.zs 13 4 = 1) = true) : ∃ K R es, Made K R es ∧ MadeAs W l K R es 9 #[l.v] :=
  made_case h0' (F := FK2l1) (by
    intro p hp
    simp only [FK2l1, List.mem_cons, List.not_mem_nil, or_false] at hp
    rcases hp with rfl | rfl | rfl | rfl | rfl
    · exact (fact_den 0 7 2 _ (by decide)).2 h0
    · exact (fact_den 5 3 2 _ (by decide)).2 h1
    · exact (fact_den 8 3 0 _ (by decide)).2 h2
    · exact (fact_den 11 3 0 _ (by decide)).2 h3
    · exact (fact_den 13 4 1 _ (by decide)).2 h4) made_K2l1
theorem case_K2l2 (h0' : l.Ok W) (h0 : decide (drawV l.zs 0 7 = 2) = true) (h1 : decide (drawV l.zs 5 3 = 2) = true) (h2 : decide (drawV l.zs 8 3 = 0) = false) (h3 : decide (drawV l.zs 11 3 = 0) = true) (h4 : decide (drawV l.zs 13 4 = 2) = true) : ∃ K R es, Made K R es ∧ MadeAs W l K R es 9 #[l.v] :=
  made_case h0' (F := FK2l2) (by
    intro p hp
    simp only [FK2l2, List.mem_cons, List.not_mem_nil, or_false] at hp
    rcases hp with rfl | rfl | rfl | rfl | rfl
    · exact (fact_den 0 7 2 _ (by decide)).2 h0
    · exact (fact_den 5 3 2 _ (by decide)).2 h1
    · exact (fact_den 8 3 0 _ (by decide)).2 h2
    · exact (fact_den 11 3 0 _ (by decide)).2 h3
    · exact (fact_den 13 4 2 _ (by decide)).2 h4) made_K2l2
theorem case_K2l3 (h0' : l.Ok W) (h0 : decide (drawV l.zs 0 7 = 2) = true) (h1 : decide (drawV l.zs 5 3 = 2) = true) (h2 : decide (drawV l.zs 8 3 = 0) = false) (h3 : decide (drawV l.zs 11 3 = 0) = true) (h4 : decide (drawV l.zs 13 4 = 3) = true) : ∃ K R es, Made K R es ∧ MadeAs W l K R es 9 #[l.v] :=
  made_case h0' (F := FK2l3) (by
    intro p hp
    simp only [FK2l3, List.mem_cons, List.not_mem_nil, or_false] at hp
    rcases hp with rfl | rfl | rfl | rfl | rfl
    · exact (fact_den 0 7 2 _ (by decide)).2 h0
    · exact (fact_den 5 3 2 _ (by decide)).2 h1
    · exact (fact_den 8 3 0 _ (by decide)).2 h2
    · exact (fact_den 11 3 0 _ (by decide)).2 h3
    · exact (fact_den 13 4 3 _ (by decide)).2 h4) made_K2l3
theorem case_K20l (h0' : l.Ok W) (h0 : decide (drawV l.zs 0 7 = 2) = true) (h1 : decide (drawV l.zs 5 3 = 2) = true) (h2 : decide (drawV l.zs 8 3 = 0) = true) (h3 : decide (drawV l.zs 10 4 = 0) = true) (h4 : decide (drawV l.zs 15 3 = 0) = false) : ∃ K R es, Made K R es ∧ MadeAs W l K R es 9 #[l.v] :=
  made_case h0' (F := FK20l) (by
    intro p hp
    simp only [FK20l, List.mem_cons, List.not_mem_nil, or_false] at hp
    rcases hp with rfl | rfl | rfl | rfl | rfl
    · exact (fact_den 0 7 2 _ (by decide)).2 h0
    · exact (fact_den 5 3 2 _ (by decide)).2 h1
    · exact (fact_den 8 3 0 _ (by decide)).2 h2
    · exact (fact_den 10 4 0 _ (by decide)).2 h3
    · exact (fact_den 15 3 0 _ (by decide)).2 h4) made_K20l
theorem case_K200 (h0' : l.Ok W) (h0 : decide (drawV l.zs 0 7 = 2) = true) (h1 : decide (drawV l.zs 5 3 = 2) = true) (h2 : decide (drawV l.zs 8 3 = 0) = true) (h3 : decide (drawV l.zs 10 4 = 0) = true) (h4 : decide (drawV l.zs 15 3 = 0) = true) (h5 : decide (drawV l.zs 17 4 = 0) = true) : ∃ K R es, Made K R es ∧ MadeAs W l K R es 9 #[l.v] :=
  made_case h0' (F := FK200) (by
    intro p hp
    simp only [FK200, List.mem_cons, List.not_mem_nil, or_false] at hp
    rcases hp with rfl | rfl | rfl | rfl | rfl | rfl
    · exact (fact_den 0 7 2 _ (by decide)).2 h0
    · exact (fact_den 5 3 2 _ (by decide)).2 h1
    · exact (fact_den 8 3 0 _ (by decide)).2 h2
    · exact (fact_den 10 4 0 _ (by decide)).2 h3
    · exact (fact_den 15 3 0 _ (by decide)).2 h4
    · exact (fact_den 17 4 0 _ (by decide)).2 h5) made_K200
theorem case_K201 (h0' : l.Ok W) (h0 : decide (drawV l.zs 0 7 = 2) = true) (h1 : decide (drawV l.zs 5 3 = 2) = true) (h2 : decide (drawV l.zs 8 3 = 0) = true) (h3 : decide (drawV l.zs 10 4 = 0) = true) (h4 : decide (drawV l.zs 15 3 = 0) = true) (h5 : decide (drawV l.zs 17 4 = 1) = true) : ∃ K R es, Made K R es ∧ MadeAs W l K R es 9 #[l.v] :=
  made_case h0' (F := FK201) (by
    intro p hp
    simp only [FK201, List.mem_cons, List.not_mem_nil, or_false] at hp
    rcases hp with rfl | rfl | rfl | rfl | rfl | rfl
    · exact (fact_den 0 7 2 _ (by decide)).2 h0
    · exact (fact_den 5 3 2 _ (by decide)).2 h1
    · exact (fact_den 8 3 0 _ (by decide)).2 h2
    · exact (fact_den 10 4 0 _ (by decide)).2 h3
    · exact (fact_den 15 3 0 _ (by decide)).2 h4
    · exact (fact_den 17 4 1 _ (by decide)).2 h5) made_K201
theorem case_K202 (h0' : l.Ok W) (h0 : decide (drawV l.zs 0 7 = 2) = true) (h1 : decide (drawV l.zs 5 3 = 2) = true) (h2 : decide (drawV l.zs 8 3 = 0) = true) (h3 : decide (drawV l.zs 10 4 = 0) = true) (h4 : decide (drawV l.zs 15 3 = 0) = true) (h5 : decide (drawV l.zs 17 4 = 2) = true) : ∃ K R es, Made K R es ∧ MadeAs W l K R es 9 #[l.v] :=
  made_case h0' (F := FK202) (by
    intro p hp
    simp only [FK202, List.mem_cons, List.not_mem_nil, or_false] at hp
    rcases hp with rfl | rfl | rfl | rfl | rfl | rfl
    · exact (fact_den 0 7 2 _ (by decide)).2 h0
    · exact (fact_den 5 3 2 _ (by decide)).2 h1
    · exact (fact_den 8 3 0 _ (by decide)).2 h2
    · exact (fact_den 10 4 0 _ (by decide)).2 h3
    · exact (fact_den 15 3 0 _ (by decide)).2 h4
    · exact (fact_den 17 4 2 _ (by decide)).2 h5) made_K202
theorem case_K203 (h0' : l.Ok W) (h0 : decide (drawV l.zs 0 7 = 2) = true) (h1 : decide (drawV l.zs 5 3 = 2) = true) (h2 : decide (drawV l.zs 8 3 = 0) = true) (h3 : decide (drawV l.zs 10 4 = 0) = true) (h4 : decide (drawV l.zs 15 3 = 0) = true) (h5 : decide (drawV l.zs 17 4 = 3) = true) : ∃ K R es, Made K R es ∧ MadeAs W l K R es 9 #[l.v] :=
  made_case h0' (F := FK203) (by
    intro p hp
    simp only [FK203, List.mem_cons, List.not_mem_nil, or_false] at hp
    rcases hp with rfl | rfl | rfl | rfl | rfl | rfl
    · exact (fact_den 0 7 2 _ (by decide)).2 h0
    · exact (fact_den 5 3 2 _ (by decide)).2 h1
    · exact (fact_den 8 3 0 _ (by decide)).2 h2
    · exact (fact_den 10 4 0 _ (by decide)).2 h3
    · exact (fact_den 15 3 0 _ (by decide)).2 h4
    · exact (fact_den 17 4 3 _ (by decide)).2 h5) made_K203
theorem case_K21l (h0' : l.Ok W) (h0 : decide (drawV l.zs 0 7 = 2) = true) (h1 : decide (drawV l.zs 5 3 = 2) = true) (h2 : decide (drawV l.zs 8 3 = 0) = true) (h3 : decide (drawV l.zs 10 4 = 1) = true) (h4 : decide (drawV l.zs 15 3 = 0) = false) : ∃ K R es, Made K R es ∧ MadeAs W l K R es 9 #[l.v] :=
  made_case h0' (F := FK21l) (by
    intro p hp
    simp only [FK21l, List.mem_cons, List.not_mem_nil, or_false] at hp
    rcases hp with rfl | rfl | rfl | rfl | rfl
    · exact (fact_den 0 7 2 _ (by decide)).2 h0
    · exact (fact_den 5 3 2 _ (by decide)).2 h1
    · exact (fact_den 8 3 0 _ (by decide)).2 h2
    · exact (fact_den 10 4 1 _ (by decide)).2 h3
    · exact (fact_den 15 3 0 _ (by decide)).2 h4) made_K21l
theorem case_K210 (h0' : l.Ok W) (h0 : decide (drawV l.zs 0 7 = 2) = true) (h1 : decide (drawV l.zs 5 3 = 2) = true) (h2 : decide (drawV l.zs 8 3 = 0) = true) (h3 : decide (drawV l.zs 10 4 = 1) = true) (h4 : decide (drawV l.zs 15 3 = 0) = true) (h5 : decide (drawV l.zs 17 4 = 0) = true) : ∃ K R es, Made K R es ∧ MadeAs W l K R es 9 #[l.v] :=
  made_case h0' (F := FK210) (by
    intro p hp
    simp only [FK210, List.mem_cons, List.not_mem_nil, or_false] at hp
    rcases hp with rfl | rfl | rfl | rfl | rfl | rfl
    · exact (fact_den 0 7 2 _ (by decide)).2 h0
    · exact (fact_den 5 3 2 _ (by decide)).2 h1
    · exact (fact_den 8 3 0 _ (by decide)).2 h2
    · exact (fact_den 10 4 1 _ (by decide)).2 h3
    · exact (fact_den 15 3 0 _ (by decide)).2 h4
    · exact (fact_den 17 4 0 _ (by decide)).2 h5) made_K210
theorem case_K211 (h0' : l.Ok W) (h0 : decide (drawV l.zs 0 7 = 2) = true) (h1 : decide (drawV l.zs 5 3 = 2) = true) (h2 : decide (drawV l.zs 8 3 = 0) = true) (h3 : decide (drawV l.zs 10 4 = 1) = true) (h4 : decide (drawV l.zs 15 3 = 0) = true) (h5 : decide (drawV l.zs 17 4 = 1) = true) : ∃ K R es, Made K R es ∧ MadeAs W l K R es 9 #[l.v] :=
  made_case h0' (F := FK211) (by
    intro p hp
    simp only [FK211, List.mem_cons, List.not_mem_nil, or_false] at hp
    rcases hp with rfl | rfl | rfl | rfl | rfl | rfl
    · exact (fact_den 0 7 2 _ (by decide)).2 h0
    · exact (fact_den 5 3 2 _ (by decide)).2 h1
    · exact (fact_den 8 3 0 _ (by decide)).2 h2
    · exact (fact_den 10 4 1 _ (by decide)).2 h3
    · exact (fact_den 15 3 0 _ (by decide)).2 h4
    · exact (fact_den 17 4 1 _ (by decide)).2 h5) made_K211
theorem case_K212 (h0' : l.Ok W) (h0 : decide (drawV l.zs 0 7 = 2) = true) (h1 : decide (drawV l.zs 5 3 = 2) = true) (h2 : decide (drawV l.zs 8 3 = 0) = true) (h3 : decide (drawV l.zs 10 4 = 1) = true) (h4 : decide (drawV l.zs 15 3 = 0) = true) (h5 : decide (drawV l.zs 17 4 = 2) = true) : ∃ K R es, Made K R es ∧ MadeAs W l K R es 9 #[l.v] :=
  made_case h0' (F := FK212) (by
    intro p hp
    simp only [FK212, List.mem_cons, List.not_mem_nil, or_false] at hp
    rcases hp with rfl | rfl | rfl | rfl | rfl | rfl
    · exact (fact_den 0 7 2 _ (by decide)).2 h0
    · exact (fact_den 5 3 2 _ (by decide)).2 h1
    · exact (fact_den 8 3 0 _ (by decide)).2 h2
    · exact (fact_den 10 4 1 _ (by decide)).2 h3
    · exact (fact_den 15 3 0 _ (by decide)).2 h4
    · exact (fact_den 17 4 2 _ (by decide)).2 h5) made_K212
theorem case_K213 (h0' : l.Ok W) (h0 : decide (drawV l.zs 0 7 = 2) = true) (h1 : decide (drawV l.zs 5 3 = 2) = true) (h2 : decide (drawV l.zs 8 3 = 0) = true) (h3 : decide (drawV l.zs 10 4 = 1) = true) (h4 : decide (drawV l.zs 15 3 = 0) = true) (h5 : decide (drawV l.zs 17 4 = 3) = true) : ∃ K R es, Made K R es ∧ MadeAs W l K R es 9 #[l.v] :=
  made_case h0' (F := FK213) (by
    intro p hp
    simp only [FK213, List.mem_cons, List.not_mem_nil, or_false] at hp
    rcases hp with rfl | rfl | rfl | rfl | rfl | rfl
    · exact (fact_den 0 7 2 _ (by decide)).2 h0
    · exact (fact_den 5 3 2 _ (by decide)).2 h1
    · exact (fact_den 8 3 0 _ (by decide)).2 h2
    · exact (fact_den 10 4 1 _ (by decide)).2 h3
    · exact (fact_den 15 3 0 _ (by decide)).2 h4
    · exact (fact_den 17 4 3 _ (by decide)).2 h5) made_K213
theorem case_K22l (h0' : l.Ok W) (h0 : decide (drawV l.zs 0 7 = 2) = true) (h1 : decide (drawV l.zs 5 3 = 2) = true) (h2 : decide (drawV l.zs 8 3 = 0) = true) (h3 : decide (drawV l.zs 10 4 = 2) = true) (h4 : decide (drawV l.zs 15 3 = 0) = false) : ∃ K R es, Made K R es ∧ MadeAs W l K R es 9 #[l.v] :=
  made_case h0' (F := FK22l) (by
    intro p hp
    simp only [FK22l, List.mem_cons, List.not_mem_nil, or_false] at hp
    rcases hp with rfl | rfl | rfl | rfl | rfl
    · exact (fact_den 0 7 2 _ (by decide)).2 h0
    · exact (fact_den 5 3 2 _ (by decide)).2 h1
    · exact (fact_den 8 3 0 _ (by decide)).2 h2
    · exact (fact_den 10 4 2 _ (by decide)).2 h3
    · exact (fact_den 15 3 0 _ (by decide)).2 h4) made_K22l
theorem case_K220 (h0' : l.Ok W) (h0 : decide (drawV l.zs 0 7 = 2) = true) (h1 : decide (drawV l.zs 5 3 = 2) = true) (h2 : decide (drawV l.zs 8 3 = 0) = true) (h3 : decide (drawV l.zs 10 4 = 2) = true) (h4 : decide (drawV l.zs 15 3 = 0) = true) (h5 : decide (drawV l.zs 17 4 = 0) = true) : ∃ K R es, Made K R es ∧ MadeAs W l K R es 9 #[l.v] :=
  made_case h0' (F := FK220) (by
    intro p hp
    simp only [FK220, List.mem_cons, List.not_mem_nil, or_false] at hp
    rcases hp with rfl | rfl | rfl | rfl | rfl | rfl
    · exact (fact_den 0 7 2 _ (by decide)).2 h0
    · exact (fact_den 5 3 2 _ (by decide)).2 h1
    · exact (fact_den 8 3 0 _ (by decide)).2 h2
    · exact (fact_den 10 4 2 _ (by decide)).2 h3
    · exact (fact_den 15 3 0 _ (by decide)).2 h4
    · exact (fact_den 17 4 0 _ (by decide)).2 h5) made_K220
theorem case_K221 (h0' : l.Ok W) (h0 : decide (drawV l.zs 0 7 = 2) = true) (h1 : decide (drawV l.zs 5 3 = 2) = true) (h2 : decide (drawV l.zs 8 3 = 0) = true) (h3 : decide (drawV l.zs 10 4 = 2) = true) (h4 : decide (drawV l.zs 15 3 = 0) = true) (h5 : decide (drawV l.zs 17 4 = 1) = true) : ∃ K R es, Made K R es ∧ MadeAs W l K R es 9 #[l.v] :=
  made_case h0' (F := FK221) (by
    intro p hp
    simp only [FK221, List.mem_cons, List.not_mem_nil, or_false] at hp
    rcases hp with rfl | rfl | rfl | rfl | rfl | rfl
    · exact (fact_den 0 7 2 _ (by decide)).2 h0
    · exact (fact_den 5 3 2 _ (by decide)).2 h1
    · exact (fact_den 8 3 0 _ (by decide)).2 h2
    · exact (fact_den 10 4 2 _ (by decide)).2 h3
    · exact (fact_den 15 3 0 _ (by decide)).2 h4
    · exact (fact_den 17 4 1 _ (by decide)).2 h5) made_K221
theorem case_K222 (h0' : l.Ok W) (h0 : decide (drawV l.zs 0 7 = 2) = true) (h1 : decide (drawV l.zs 5 3 = 2) = true) (h2 : decide (drawV l.zs 8 3 = 0) = true) (h3 : decide (drawV l.zs 10 4 = 2) = true) (h4 : decide (drawV l.zs 15 3 = 0) = true) (h5 : decide (drawV l.zs 17 4 = 2) = true) : ∃ K R es, Made K R es ∧ MadeAs W l K R es 9 #[l.v] :=
  made_case h0' (F := FK222) (by
    intro p hp
    simp only [FK222, List.mem_cons, List.not_mem_nil, or_false] at hp
    rcases hp with rfl | rfl | rfl | rfl | rfl | rfl
    · exact (fact_den 0 7 2 _ (by decide)).2 h0
    · exact (fact_den 5 3 2 _ (by decide)).2 h1
    · exact (fact_den 8 3 0 _ (by decide)).2 h2
    · exact (fact_den 10 4 2 _ (by decide)).2 h3
    · exact (fact_den 15 3 0 _ (by decide)).2 h4
    · exact (fact_den 17 4 2 _ (by decide)).2 h5) made_K222
theorem case_K223 (h0' : l.Ok W) (h0 : decide (drawV l.zs 0 7 = 2) = true) (h1 : decide (drawV l.zs 5 3 = 2) = true) (h2 : decide (drawV l.zs 8 3 = 0) = true) (h3 : decide (drawV l.zs 10 4 = 2) = true) (h4 : decide (drawV l.zs 15 3 = 0) = true) (h5 : decide (drawV l.zs 17 4 = 3) = true) : ∃ K R es, Made K R es ∧ MadeAs W l K R es 9 #[l.v] :=
  made_case h0' (F := FK223) (by
    intro p hp
    simp only [FK223, List.mem_cons, List.not_mem_nil, or_false] at hp
    rcases hp with rfl | rfl | rfl | rfl | rfl | rfl
    · exact (fact_den 0 7 2 _ (by decide)).2 h0
    · exact (fact_den 5 3 2 _ (by decide)).2 h1
    · exact (fact_den 8 3 0 _ (by decide)).2 h2
    · exact (fact_den 10 4 2 _ (by decide)).2 h3
    · exact (fact_den 15 3 0 _ (by decide)).2 h4
    · exact (fact_den 17 4 3 _ (by decide)).2 h5) made_K223
theorem case_K23l (h0' : l.Ok W) (h0 : decide (drawV l.zs 0 7 = 2) = true) (h1 : decide (drawV l.zs 5 3 = 2) = true) (h2 : decide (drawV l.zs 8 3 = 0) = true) (h3 : decide (drawV l.zs 10 4 = 3) = true) (h4 : decide (drawV l.zs 15 3 = 0) = false) : ∃ K R es, Made K R es ∧ MadeAs W l K R es 9 #[l.v] :=
  made_case h0' (F := FK23l) (by
    intro p hp
    simp only [FK23l, List.mem_cons, List.not_mem_nil, or_false] at hp
    rcases hp with rfl | rfl | rfl | rfl | rfl
    · exact (fact_den 0 7 2 _ (by decide)).2 h0
    · exact (fact_den 5 3 2 _ (by decide)).2 h1
    · exact (fact_den 8 3 0 _ (by decide)).2 h2
    · exact (fact_den 10 4 3 _ (by decide)).2 h3
    · exact (fact_den 15 3 0 _ (by decide)).2 h4) made_K23l
theorem case_K230 (h0' : l.Ok W) (h0 : decide (drawV l.zs 0 7 = 2) = true) (h1 : decide (drawV l.zs 5 3 = 2) = true) (h2 : decide (drawV l.zs 8 3 = 0) = true) (h3 : decide (drawV l.zs 10 4 = 3) = true) (h4 : decide (drawV l.zs 15 3 = 0) = true) (h5 : decide (drawV l.zs 17 4 = 0) = true) : ∃ K R es, Made K R es ∧ MadeAs W l K R es 9 #[l.v] :=
  made_case h0' (F := FK230) (by
    intro p hp
    simp only [FK230, List.mem_cons, List.not_mem_nil, or_false] at hp
    rcases hp with rfl | rfl | rfl | rfl | rfl | rfl
    · exact (fact_den 0 7 2 _ (by decide)).2 h0
    · exact (fact_den 5 3 2 _ (by decide)).2 h1
    · exact (fact_den 8 3 0 _ (by decide)).2 h2
    · exact (fact_den 10 4 3 _ (by decide)).2 h3
    · exact (fact_den 15 3 0 _ (by decide)).2 h4
    · exact (fact_den 17 4 0 _ (by decide)).2 h5) made_K230
theorem case_K231 (h0' : l.Ok W) (h0 : decide (drawV l.zs 0 7 = 2) = true) (h1 : decide (drawV l.zs 5 3 = 2) = true) (h2 : decide (drawV l.zs 8 3 = 0) = true) (h3 : decide (drawV l.zs 10 4 = 3) = true) (h4 : decide (drawV l.zs 15 3 = 0) = true) (h5 : decide (drawV l.zs 17 4 = 1) = true) : ∃ K R es, Made K R es ∧ MadeAs W l K R es 9 #[l.v] :=
  made_case h0' (F := FK231) (by
    intro p hp
    simp only [FK231, List.mem_cons, List.not_mem_nil, or_false] at hp
    rcases hp with rfl | rfl | rfl | rfl | rfl | rfl
    · exact (fact_den 0 7 2 _ (by decide)).2 h0
    · exact (fact_den 5 3 2 _ (by decide)).2 h1
    · exact (fact_den 8 3 0 _ (by decide)).2 h2
    · exact (fact_den 10 4 3 _ (by decide)).2 h3
    · exact (fact_den 15 3 0 _ (by decide)).2 h4
    · exact (fact_den 17 4 1 _ (by decide)).2 h5) made_K231
theorem case_K232 (h0' : l.Ok W) (h0 : decide (drawV l.zs 0 7 = 2) = true) (h1 : decide (drawV l.zs 5 3 = 2) = true) (h2 : decide (drawV l.zs 8 3 = 0) = true) (h3 : decide (drawV l.zs 10 4 = 3) = true) (h4 : decide (drawV l.zs 15 3 = 0) = true) (h5 : decide (drawV l.zs 17 4 = 2) = true) : ∃ K R es, Made K R es ∧ MadeAs W l K R es 9 #[l.v] :=
  made_case h0' (F := FK232) (by
    intro p hp
    simp only [FK232, List.mem_cons, List.not_mem_nil, or_false] at hp
    rcases hp with rfl | rfl | rfl | rfl | rfl | rfl
    · exact (fact_den 0 7 2 _ (by decide)).2 h0
    · exact (fact_den 5 3 2 _ (by decide)).2 h1
    · exact (fact_den 8 3 0 _ (by decide)).2 h2
    · exact (fact_den 10 4 3 _ (by decide)).2 h3
    · exact (fact_den 15 3 0 _ (by decide)).2 h4
    · exact (fact_den 17 4 2 _ (by decide)).2 h5) made_K232
theorem case_K233 (h0' : l.Ok W) (h0 : decide (drawV l.zs 0 7 = 2) = true) (h1 : decide (drawV l.zs 5 3 = 2) = true) (h2 : decide (drawV l.zs 8 3 = 0) = true) (h3 : decide (drawV l.zs 10 4 = 3) = true) (h4 : decide (drawV l.zs 15 3 = 0) = true) (h5 : decide (drawV l.zs 17 4 = 3) = true) : ∃ K R es, Made K R es ∧ MadeAs W l K R es 9 #[l.v] :=
  made_case h0' (F := FK233) (by
    intro p hp
    simp only [FK233, List.mem_cons, List.not_mem_nil, or_false] at hp
    rcases hp with rfl | rfl | rfl | rfl | rfl | rfl
    · exact (fact_den 0 7 2 _ (by decide)).2 h0
    · exact (fact_den 5 3 2 _ (by decide)).2 h1
    · exact (fact_den 8 3 0 _ (by decide)).2 h2
    · exact (fact_den 10 4 3 _ (by decide)).2 h3
    · exact (fact_den 15 3 0 _ (by decide)).2 h4
    · exact (fact_den 17 4 3 _ (by decide)).2 h5) made_K233
theorem case_K3a (h0' : l.Ok W) (h0 : decide (drawV l.zs 0 7 = 3) = true) (h1 : decide (drawV l.zs 5 3 = 0) = true) : ∃ K R es, Made K R es ∧ MadeAs W l K R es 9 #[l.v] :=
  made_case h0' (F := FK3a) (by
    intro p hp
    simp only [FK3a, List.mem_cons, List.not_mem_nil, or_false] at hp
    rcases hp with rfl | rfl
    · exact (fact_den 0 7 3 _ (by decide)).2 h0
    · exact (fact_den 5 3 0 _ (by decide)).2 h1) made_K3a
theorem case_K3b (h0' : l.Ok W) (h0 : decide (drawV l.zs 0 7 = 3) = true) (h1 : decide (drawV l.zs 5 3 = 1) = true) : ∃ K R es, Made K R es ∧ MadeAs W l K R es 9 #[l.v] :=
  made_case h0' (F := FK3b) (by
    intro p hp
    simp only [FK3b, List.mem_cons, List.not_mem_nil, or_false] at hp
    rcases hp with rfl | rfl
    · exact (fact_den 0 7 3 _ (by decide)).2 h0
    · exact (fact_den 5 3 1 _ (by decide)).2 h1) made_K3b
theorem case_K3ll (h0' : l.Ok W) (h0 : decide (drawV l.zs 0 7 = 3) = true) (h1 : decide (drawV l.zs 5 3 = 2) = true) (h2 : decide (drawV l.zs 8 3 = 0) = false) (h3 : decide (drawV l.zs 11 3 = 0) = false) : ∃ K R es, Made K R es ∧ MadeAs W l K R es 9 #[l.v] :=
  made_case h0' (F := FK3ll) (by
    intro p hp
    simp only [FK3ll, List.mem_cons, List.not_mem_nil, or_false] at hp
    rcases hp with rfl | rfl | rfl | rfl
    · exact (fact_den 0 7 3 _ (by decide)).2 h0
    · exact (fact_den 5 3 2 _ (by decide)).2 h1
    · exact (fact_den 8 3 0 _ (by decide)).2 h2
    · exact (fact_den 11 3 0 _ (by decide)).2 h3) made_K3ll
theorem case_K3l0 (h0' : l.Ok W) (h0 : decide (drawV l.zs 0 7 = 3) = true) (h1 : decide (drawV l.zs 5 3 = 2) = true) (h2 : decide (drawV l.zs 8 3 = 0) = false) (h3 : decide (drawV l.zs 11 3 = 0) = true) (h4 : decide (drawV l.zs 13 4 = 0) = true) : ∃ K R es, Made K R es ∧ MadeAs W l K R es 9 #[l.v] :=
  made_case h0' (F := FK3l0) (by
    intro p hp
    simp only [FK3l0, List.mem_cons, List.not_mem_nil, or_false] at hp
    rcases hp with rfl | rfl | rfl | rfl | rfl
    · exact (fact_den 0 7 3 _ (by decide)).2 h0
    · exact (fact_den 5 3 2 _ (by decide)).2 h1
    · exact (fact_den 8 3 0 _ (by decide)).2 h2
    · exact (fact_den 11 3 0 _ (by decide)).2 h3
    · exact (fact_den 13 4 0 _ (by decide)).2 h4) made_K3l0
theorem case_K3l1 (h0' : l.Ok W) (h0 : decide (drawV l.zs 0 7 = 3) = true) (h1 : decide (drawV l.zs 5 3 = 2) = true) (h2 : decide (drawV l.zs 8 3 = 0) = false) (h3 : decide (drawV l.zs 11 3 = 0) = true) (h4 : decide (drawV l.zs 13 4 = 1) = true) : ∃ K R es, Made K R es ∧ MadeAs W l K R es 9 #[l.v] :=
  made_case h0' (F := FK3l1) (by
    intro p hp
    simp only [FK3l1, List.mem_cons, List.not_mem_nil, or_false] at hp
    rcases hp with rfl | rfl | rfl | rfl | rfl
    · exact (fact_den 0 7 3 _ (by decide)).2 h0
    · exact (fact_den 5 3 2 _ (by decide)).2 h1
    · exact (fact_den 8 3 0 _ (by decide)).2 h2
    · exact (fact_den 11 3 0 _ (by decide)).2 h3
    · exact (fact_den 13 4 1 _ (by decide)).2 h4) made_K3l1
theorem case_K3l2 (h0' : l.Ok W) (h0 : decide (drawV l.zs 0 7 = 3) = true) (h1 : decide (drawV l.zs 5 3 = 2) = true) (h2 : decide (drawV l.zs 8 3 = 0) = false) (h3 : decide (drawV l.zs 11 3 = 0) = true) (h4 : decide (drawV l.zs 13 4 = 2) = true) : ∃ K R es, Made K R es ∧ MadeAs W l K R es 9 #[l.v] :=
  made_case h0' (F := FK3l2) (by
    intro p hp
    simp only [FK3l2, List.mem_cons, List.not_mem_nil, or_false] at hp
    rcases hp with rfl | rfl | rfl | rfl | rfl
    · exact (fact_den 0 7 3 _ (by decide)).2 h0
    · exact (fact_den 5 3 2 _ (by decide)).2 h1
    · exact (fact_den 8 3 0 _ (by decide)).2 h2
    · exact (fact_den 11 3 0 _ (by decide)).2 h3
    · exact (fact_den 13 4 2 _ (by decide)).2 h4) made_K3l2
theorem case_K3l3 (h0' : l.Ok W) (h0 : decide (drawV l.zs 0 7 = 3) = true) (h1 : decide (drawV l.zs 5 3 = 2) = true) (h2 : decide (drawV l.zs 8 3 = 0) = false) (h3 : decide (drawV l.zs 11 3 = 0) = true) (h4 : decide (drawV l.zs 13 4 = 3) = true) : ∃ K R es, Made K R es ∧ MadeAs W l K R es 9 #[l.v] :=
  made_case h0' (F := FK3l3) (by
    intro p hp
    simp only [FK3l3, List.mem_cons, List.not_mem_nil, or_false] at hp
    rcases hp with rfl | rfl | rfl | rfl | rfl
    · exact (fact_den 0 7 3 _ (by decide)).2 h0
    · exact (fact_den 5 3 2 _ (by decide)).2 h1
    · exact (fact_den 8 3 0 _ (by decide)).2 h2
    · exact (fact_den 11 3 0 _ (by decide)).2 h3
    · exact (fact_den 13 4 3 _ (by decide)).2 h4) made_K3l3
theorem case_K30l (h0' : l.Ok W) (h0 : decide (drawV l.zs 0 7 = 3) = true) (h1 : decide (drawV l.zs 5 3 = 2) = true) (h2 : decide (drawV l.zs 8 3 = 0) = true) (h3 : decide (drawV l.zs 10 4 = 0) = true) (h4 : decide (drawV l.zs 15 3 = 0) = false) : ∃ K R es, Made K R es ∧ MadeAs W l K R es 9 #[l.v] :=
  made_case h0' (F := FK30l) (by
    intro p hp
    simp only [FK30l, List.mem_cons, List.not_mem_nil, or_false] at hp
    rcases hp with rfl | rfl | rfl | rfl | rfl
    · exact (fact_den 0 7 3 _ (by decide)).2 h0
    · exact (fact_den 5 3 2 _ (by decide)).2 h1
    · exact (fact_den 8 3 0 _ (by decide)).2 h2
    · exact (fact_den 10 4 0 _ (by decide)).2 h3
    · exact (fact_den 15 3 0 _ (by decide)).2 h4) made_K30l
theorem case_K300 (h0' : l.Ok W) (h0 : decide (drawV l.zs 0 7 = 3) = true) (h1 : decide (drawV l.zs 5 3 = 2) = true) (h2 : decide (drawV l.zs 8 3 = 0) = true) (h3 : decide (drawV l.zs 10 4 = 0) = true) (h4 : decide (drawV l.zs 15 3 = 0) = true) (h5 : decide (drawV l.zs 17 4 = 0) = true) : ∃ K R es, Made K R es ∧ MadeAs W l K R es 9 #[l.v] :=
  made_case h0' (F := FK300) (by
    intro p hp
    simp only [FK300, List.mem_cons, List.not_mem_nil, or_false] at hp
    rcases hp with rfl | rfl | rfl | rfl | rfl | rfl
    · exact (fact_den 0 7 3 _ (by decide)).2 h0
    · exact (fact_den 5 3 2 _ (by decide)).2 h1
    · exact (fact_den 8 3 0 _ (by decide)).2 h2
    · exact (fact_den 10 4 0 _ (by decide)).2 h3
    · exact (fact_den 15 3 0 _ (by decide)).2 h4
    · exact (fact_den 17 4 0 _ (by decide)).2 h5) made_K300
theorem case_K301 (h0' : l.Ok W) (h0 : decide (drawV l.zs 0 7 = 3) = true) (h1 : decide (drawV l.zs 5 3 = 2) = true) (h2 : decide (drawV l.zs 8 3 = 0) = true) (h3 : decide (drawV l.zs 10 4 = 0) = true) (h4 : decide (drawV l.zs 15 3 = 0) = true) (h5 : decide (drawV l.zs 17 4 = 1) = true) : ∃ K R es, Made K R es ∧ MadeAs W l K R es 9 #[l.v] :=
  made_case h0' (F := FK301) (by
    intro p hp
    simp only [FK301, List.mem_cons, List.not_mem_nil, or_false] at hp
    rcases hp with rfl | rfl | rfl | rfl | rfl | rfl
    · exact (fact_den 0 7 3 _ (by decide)).2 h0
    · exact (fact_den 5 3 2 _ (by decide)).2 h1
    · exact (fact_den 8 3 0 _ (by decide)).2 h2
    · exact (fact_den 10 4 0 _ (by decide)).2 h3
    · exact (fact_den 15 3 0 _ (by decide)).2 h4
    · exact (fact_den 17 4 1 _ (by decide)).2 h5) made_K301
theorem case_K302 (h0' : l.Ok W) (h0 : decide (drawV l.zs 0 7 = 3) = true) (h1 : decide (drawV l.zs 5 3 = 2) = true) (h2 : decide (drawV l.zs 8 3 = 0) = true) (h3 : decide (drawV l.zs 10 4 = 0) = true) (h4 : decide (drawV l.zs 15 3 = 0) = true) (h5 : decide (drawV l.zs 17 4 = 2) = true) : ∃ K R es, Made K R es ∧ MadeAs W l K R es 9 #[l.v] :=
  made_case h0' (F := FK302) (by
    intro p hp
    simp only [FK302, List.mem_cons, List.not_mem_nil, or_false] at hp
    rcases hp with rfl | rfl | rfl | rfl | rfl | rfl
    · exact (fact_den 0 7 3 _ (by decide)).2 h0
    · exact (fact_den 5 3 2 _ (by decide)).2 h1
    · exact (fact_den 8 3 0 _ (by decide)).2 h2
    · exact (fact_den 10 4 0 _ (by decide)).2 h3
    · exact (fact_den 15 3 0 _ (by decide)).2 h4
    · exact (fact_den 17 4 2 _ (by decide)).2 h5) made_K302
theorem case_K303 (h0' : l.Ok W) (h0 : decide (drawV l.zs 0 7 = 3) = true) (h1 : decide (drawV l.zs 5 3 = 2) = true) (h2 : decide (drawV l.zs 8 3 = 0) = true) (h3 : decide (drawV l.zs 10 4 = 0) = true) (h4 : decide (drawV l.zs 15 3 = 0) = true) (h5 : decide (drawV l.zs 17 4 = 3) = true) : ∃ K R es, Made K R es ∧ MadeAs W l K R es 9 #[l.v] :=
  made_case h0' (F := FK303) (by
    intro p hp
    simp only [FK303, List.mem_cons, List.not_mem_nil, or_false] at hp
    rcases hp with rfl | rfl | rfl | rfl | rfl | rfl
    · exact (fact_den 0 7 3 _ (by decide)).2 h0
    · exact (fact_den 5 3 2 _ (by decide)).2 h1
    · exact (fact_den 8 3 0 _ (by decide)).2 h2
    · exact (fact_den 10 4 0 _ (by decide)).2 h3
    · exact (fact_den 15 3 0 _ (by decide)).2 h4
    · exact (fact_den 17 4 3 _ (by decide)).2 h5) made_K303
theorem case_K31l (h0' : l.Ok W) (h0 : decide (drawV l.zs 0 7 = 3) = true) (h1 : decide (drawV l.zs 5 3 = 2) = true) (h2 : decide (drawV l.zs 8 3 = 0) = true) (h3 : decide (drawV l.zs 10 4 = 1) = true) (h4 : decide (drawV l.zs 15 3 = 0) = false) : ∃ K R es, Made K R es ∧ MadeAs W l K R es 9 #[l.v] :=
  made_case h0' (F := FK31l) (by
    intro p hp
    simp only [FK31l, List.mem_cons, List.not_mem_nil, or_false] at hp
    rcases hp with rfl | rfl | rfl | rfl | rfl
    · exact (fact_den 0 7 3 _ (by decide)).2 h0
    · exact (fact_den 5 3 2 _ (by decide)).2 h1
    · exact (fact_den 8 3 0 _ (by decide)).2 h2
    · exact (fact_den 10 4 1 _ (by decide)).2 h3
    · exact (fact_den 15 3 0 _ (by decide)).2 h4) made_K31l
theorem case_K310 (h0' : l.Ok W) (h0 : decide (drawV l.zs 0 7 = 3) = true) (h1 : decide (drawV l.zs 5 3 = 2) = true) (h2 : decide (drawV l.zs 8 3 = 0) = true) (h3 : decide (drawV l.zs 10 4 = 1) = true) (h4 : decide (drawV l.zs 15 3 = 0) = true) (h5 : decide (drawV l.zs 17 4 = 0) = true) : ∃ K R es, Made K R es ∧ MadeAs W l K R es 9 #[l.v] :=
  made_case h0' (F := FK310) (by
    intro p hp
    simp only [FK310, List.mem_cons, List.not_mem_nil, or_false] at hp
    rcases hp with rfl | rfl | rfl | rfl | rfl | rfl
    · exact (fact_den 0 7 3 _ (by decide)).2 h0
    · exact (fact_den 5 3 2 _ (by decide)).2 h1
    · exact (fact_den 8 3 0 _ (by decide)).2 h2
    · exact (fact_den 10 4 1 _ (by decide)).2 h3
    · exact (fact_den 15 3 0 _ (by decide)).2 h4
    · exact (fact_den 17 4 0 _ (by decide)).2 h5) made_K310
theorem case_K311 (h0' : l.Ok W) (h0 : decide (drawV l.zs 0 7 = 3) = true) (h1 : decide (drawV l.zs 5 3 = 2) = true) (h2 : decide (drawV l.zs 8 3 = 0) = true) (h3 : decide (drawV l.zs 10 4 = 1) = true) (h4 : decide (drawV l.zs 15 3 = 0) = true) (h5 : decide (drawV l.zs 17 4 = 1) = true) : ∃ K R es, Made K R es ∧ MadeAs W l K R es 9 #[l.v] :=
  made_case h0' (F := FK311) (by
    intro p hp
    simp only [FK311, List.mem_cons, List.not_mem_nil, or_false] at hp
    rcases hp with rfl | rfl | rfl | rfl | rfl | rfl
    · exact (fact_den 0 7 3 _ (by decide)).2 h0
    · exact (fact_den 5 3 2 _ (by decide)).2 h1
    · exact (fact_den 8 3 0 _ (by decide)).2 h2
    · exact (fact_den 10 4 1 _ (by decide)).2 h3
    · exact (fact_den 15 3 0 _ (by decide)).2 h4
    · exact (fact_den 17 4 1 _ (by decide)).2 h5) made_K311
theorem case_K312 (h0' : l.Ok W) (h0 : decide (drawV l.zs 0 7 = 3) = true) (h1 : decide (drawV l.zs 5 3 = 2) = true) (h2 : decide (drawV l.zs 8 3 = 0) = true) (h3 : decide (drawV l.zs 10 4 = 1) = true) (h4 : decide (drawV l.zs 15 3 = 0) = true) (h5 : decide (drawV l.zs 17 4 = 2) = true) : ∃ K R es, Made K R es ∧ MadeAs W l K R es 9 #[l.v] :=
  made_case h0' (F := FK312) (by
    intro p hp
    simp only [FK312, List.mem_cons, List.not_mem_nil, or_false] at hp
    rcases hp with rfl | rfl | rfl | rfl | rfl | rfl
    · exact (fact_den 0 7 3 _ (by decide)).2 h0
    · exact (fact_den 5 3 2 _ (by decide)).2 h1
    · exact (fact_den 8 3 0 _ (by decide)).2 h2
    · exact (fact_den 10 4 1 _ (by decide)).2 h3
    · exact (fact_den 15 3 0 _ (by decide)).2 h4
    · exact (fact_den 17 4 2 _ (by decide)).2 h5) made_K312
theorem case_K313 (h0' : l.Ok W) (h0 : decide (drawV l.zs 0 7 = 3) = true) (h1 : decide (drawV l.zs 5 3 = 2) = true) (h2 : decide (drawV l.zs 8 3 = 0) = true) (h3 : decide (drawV l.zs 10 4 = 1) = true) (h4 : decide (drawV l.zs 15 3 = 0) = true) (h5 : decide (drawV l.zs 17 4 = 3) = true) : ∃ K R es, Made K R es ∧ MadeAs W l K R es 9 #[l.v] :=
  made_case h0' (F := FK313) (by
    intro p hp
    simp only [FK313, List.mem_cons, List.not_mem_nil, or_false] at hp
    rcases hp with rfl | rfl | rfl | rfl | rfl | rfl
    · exact (fact_den 0 7 3 _ (by decide)).2 h0
    · exact (fact_den 5 3 2 _ (by decide)).2 h1
    · exact (fact_den 8 3 0 _ (by decide)).2 h2
    · exact (fact_den 10 4 1 _ (by decide)).2 h3
    · exact (fact_den 15 3 0 _ (by decide)).2 h4
    · exact (fact_den 17 4 3 _ (by decide)).2 h5) made_K313
theorem case_K32l (h0' : l.Ok W) (h0 : decide (drawV l.zs 0 7 = 3) = true) (h1 : decide (drawV l.zs 5 3 = 2) = true) (h2 : decide (drawV l.zs 8 3 = 0) = true) (h3 : decide (drawV l.zs 10 4 = 2) = true) (h4 : decide (drawV l.zs 15 3 = 0) = false) : ∃ K R es, Made K R es ∧ MadeAs W l K R es 9 #[l.v] :=
  made_case h0' (F := FK32l) (by
    intro p hp
    simp only [FK32l, List.mem_cons, List.not_mem_nil, or_false] at hp
    rcases hp with rfl | rfl | rfl | rfl | rfl
    · exact (fact_den 0 7 3 _ (by decide)).2 h0
    · exact (fact_den 5 3 2 _ (by decide)).2 h1
    · exact (fact_den 8 3 0 _ (by decide)).2 h2
    · exact (fact_den 10 4 2 _ (by decide)).2 h3
    · exact (fact_den 15 3 0 _ (by decide)).2 h4) made_K32l
theorem case_K320 (h0' : l.Ok W) (h0 : decide (drawV l.zs 0 7 = 3) = true) (h1 : decide (drawV l.zs 5 3 = 2) = true) (h2 : decide (drawV l.zs 8 3 = 0) = true) (h3 : decide (drawV l.zs 10 4 = 2) = true) (h4 : decide (drawV l.zs 15 3 = 0) = true) (h5 : decide (drawV l.zs 17 4 = 0) = true) : ∃ K R es, Made K R es ∧ MadeAs W l K R es 9 #[l.v] :=
  made_case h0' (F := FK320) (by
    intro p hp
    simp only [FK320, List.mem_cons, List.not_mem_nil, or_false] at hp
    rcases hp with rfl | rfl | rfl | rfl | rfl | rfl
    · exact (fact_den 0 7 3 _ (by decide)).2 h0
    · exact (fact_den 5 3 2 _ (by decide)).2 h1
    · exact (fact_den 8 3 0 _ (by decide)).2 h2
    · exact (fact_den 10 4 2 _ (by decide)).2 h3
    · exact (fact_den 15 3 0 _ (by decide)).2 h4
    · exact (fact_den 17 4 0 _ (by decide)).2 h5) made_K320
theorem case_K321 (h0' : l.Ok W) (h0 : decide (drawV l.zs 0 7 = 3) = true) (h1 : decide (drawV l.zs 5 3 = 2) = true) (h2 : decide (drawV l.zs 8 3 = 0) = true) (h3 : decide (drawV l.zs 10 4 = 2) = true) (h4 : decide (drawV l.zs 15 3 = 0) = true) (h5 : decide (drawV l.zs 17 4 = 1) = true) : ∃ K R es, Made K R es ∧ MadeAs W l K R es 9 #[l.v] :=
  made_case h0' (F := FK321) (by
    intro p hp
    simp only [FK321, List.mem_cons, List.not_mem_nil, or_false] at hp
    rcases hp with rfl | rfl | rfl | rfl | rfl | rfl
    · exact (fact_den 0 7 3 _ (by decide)).2 h0
    · exact (fact_den 5 3 2 _ (by decide)).2 h1
    · exact (fact_den 8 3 0 _ (by decide)).2 h2
    · exact (fact_den 10 4 2 _ (by decide)).2 h3
    · exact (fact_den 15 3 0 _ (by decide)).2 h4
    · exact (fact_den 17 4 1 _ (by decide)).2 h5) made_K321
theorem case_K322 (h0' : l.Ok W) (h0 : decide (drawV l.zs 0 7 = 3) = true) (h1 : decide (drawV l.zs 5 3 = 2) = true) (h2 : decide (drawV l.zs 8 3 = 0) = true) (h3 : decide (drawV l.zs 10 4 = 2) = true) (h4 : decide (drawV l.zs 15 3 = 0) = true) (h5 : decide (drawV l.zs 17 4 = 2) = true) : ∃ K R es, Made K R es ∧ MadeAs W l K R es 9 #[l.v] :=
  made_case h0' (F := FK322) (by
    intro p hp
    simp only [FK322, List.mem_cons, List.not_mem_nil, or_false] at hp
    rcases hp with rfl | rfl | rfl | rfl | rfl | rfl
    · exact (fact_den 0 7 3 _ (by decide)).2 h0
    · exact (fact_den 5 3 2 _ (by decide)).2 h1
    · exact (fact_den 8 3 0 _ (by decide)).2 h2
    · exact (fact_den 10 4 2 _ (by decide)).2 h3
    · exact (fact_den 15 3 0 _ (by decide)).2 h4
    · exact (fact_den 17 4 2 _ (by decide)).2 h5) made_K322
theorem case_K323 (h0' : l.Ok W) (h0 : decide (drawV l.zs 0 7 = 3) = true) (h1 : decide (drawV l.zs 5 3 = 2) = true) (h2 : decide (drawV l.zs 8 3 = 0) = true) (h3 : decide (drawV l.zs 10 4 = 2) = true) (h4 : decide (drawV l.zs 15 3 = 0) = true) (h5 : decide (drawV l.zs 17 4 = 3) = true) : ∃ K R es, Made K R es ∧ MadeAs W l K R es 9 #[l.v] :=
  made_case h0' (F := FK323) (by
    intro p hp
    simp only [FK323, List.mem_cons, List.not_mem_nil, or_false] at hp
    rcases hp with rfl | rfl | rfl | rfl | rfl | rfl
    · exact (fact_den 0 7 3 _ (by decide)).2 h0
    · exact (fact_den 5 3 2 _ (by decide)).2 h1
    · exact (fact_den 8 3 0 _ (by decide)).2 h2
    · exact (fact_den 10 4 2 _ (by decide)).2 h3
    · exact (fact_den 15 3 0 _ (by decide)).2 h4
    · exact (fact_den 17 4 3 _ (by decide)).2 h5) made_K323
theorem case_K33l (h0' : l.Ok W) (h0 : decide (drawV l.zs 0 7 = 3) = true) (h1 : decide (drawV l.zs 5 3 = 2) = true) (h2 : decide (drawV l.zs 8 3 = 0) = true) (h3 : decide (drawV l.zs 10 4 = 3) = true) (h4 : decide (drawV l.zs 15 3 = 0) = false) : ∃ K R es, Made K R es ∧ MadeAs W l K R es 9 #[l.v] :=
  made_case h0' (F := FK33l) (by
    intro p hp
    simp only [FK33l, List.mem_cons, List.not_mem_nil, or_false] at hp
    rcases hp with rfl | rfl | rfl | rfl | rfl
    · exact (fact_den 0 7 3 _ (by decide)).2 h0
    · exact (fact_den 5 3 2 _ (by decide)).2 h1
    · exact (fact_den 8 3 0 _ (by decide)).2 h2
    · exact (fact_den 10 4 3 _ (by decide)).2 h3
    · exact (fact_den 15 3 0 _ (by decide)).2 h4) made_K33l
theorem case_K330 (h0' : l.Ok W) (h0 : decide (drawV l.zs 0 7 = 3) = true) (h1 : decide (drawV l.zs 5 3 = 2) = true) (h2 : decide (drawV l.zs 8 3 = 0) = true) (h3 : decide (drawV l.zs 10 4 = 3) = true) (h4 : decide (drawV l.zs 15 3 = 0) = true) (h5 : decide (drawV l.zs 17 4 = 0) = true) : ∃ K R es, Made K R es ∧ MadeAs W l K R es 9 #[l.v] :=
  made_case h0' (F := FK330) (by
    intro p hp
    simp only [FK330, List.mem_cons, List.not_mem_nil, or_false] at hp
    rcases hp with rfl | rfl | rfl | rfl | rfl | rfl
    · exact (fact_den 0 7 3 _ (by decide)).2 h0
    · exact (fact_den 5 3 2 _ (by decide)).2 h1
    · exact (fact_den 8 3 0 _ (by decide)).2 h2
    · exact (fact_den 10 4 3 _ (by decide)).2 h3
    · exact (fact_den 15 3 0 _ (by decide)).2 h4
    · exact (fact_den 17 4 0 _ (by decide)).2 h5) made_K330
theorem case_K331 (h0' : l.Ok W) (h0 : decide (drawV l.zs 0 7 = 3) = true) (h1 : decide (drawV l.zs 5 3 = 2) = true) (h2 : decide (drawV l.zs 8 3 = 0) = true) (h3 : decide (drawV l.zs 10 4 = 3) = true) (h4 : decide (drawV l.zs 15 3 = 0) = true) (h5 : decide (drawV l.zs 17 4 = 1) = true) : ∃ K R es, Made K R es ∧ MadeAs W l K R es 9 #[l.v] :=
  made_case h0' (F := FK331) (by
    intro p hp
    simp only [FK331, List.mem_cons, List.not_mem_nil, or_false] at hp
    rcases hp with rfl | rfl | rfl | rfl | rfl | rfl
    · exact (fact_den 0 7 3 _ (by decide)).2 h0
    · exact (fact_den 5 3 2 _ (by decide)).2 h1
    · exact (fact_den 8 3 0 _ (by decide)).2 h2
    · exact (fact_den 10 4 3 _ (by decide)).2 h3
    · exact (fact_den 15 3 0 _ (by decide)).2 h4
    · exact (fact_den 17 4 1 _ (by decide)).2 h5) made_K331
theorem case_K332 (h0' : l.Ok W) (h0 : decide (drawV l.zs 0 7 = 3) = true) (h1 : decide (drawV l.zs 5 3 = 2) = true) (h2 : decide (drawV l.zs 8 3 = 0) = true) (h3 : decide (drawV l.zs 10 4 = 3) = true) (h4 : decide (drawV l.zs 15 3 = 0) = true) (h5 : decide (drawV l.zs 17 4 = 2) = true) : ∃ K R es, Made K R es ∧ MadeAs W l K R es 9 #[l.v] :=
  made_case h0' (F := FK332) (by
    intro p hp
    simp only [FK332, List.mem_cons, List.not_mem_nil, or_false] at hp
    rcases hp with rfl | rfl | rfl | rfl | rfl | rfl
    · exact (fact_den 0 7 3 _ (by decide)).2 h0
    · exact (fact_den 5 3 2 _ (by decide)).2 h1
    · exact (fact_den 8 3 0 _ (by decide)).2 h2
    · exact (fact_den 10 4 3 _ (by decide)).2 h3
    · exact (fact_den 15 3 0 _ (by decide)).2 h4
    · exact (fact_den 17 4 2 _ (by decide)).2 h5) made_K332
theorem case_K333 (h0' : l.Ok W) (h0 : decide (drawV l.zs 0 7 = 3) = true) (h1 : decide (drawV l.zs 5 3 = 2) = true) (h2 : decide (drawV l.zs 8 3 = 0) = true) (h3 : decide (drawV l.zs 10 4 = 3) = true) (h4 : decide (drawV l.zs 15 3 = 0) = true) (h5 : decide (drawV l.zs 17 4 = 3) = true) : ∃ K R es, Made K R es ∧ MadeAs W l K R es 9 #[l.v] :=
  made_case h0' (F := FK333) (by
    intro p hp
    simp only [FK333, List.mem_cons, List.not_mem_nil, or_false] at hp
    rcases hp with rfl | rfl | rfl | rfl | rfl | rfl
    · exact (fact_den 0 7 3 _ (by decide)).2 h0
    · exact (fact_den 5 3 2 _ (by decide)).2 h1
    · exact (fact_den 8 3 0 _ (by decide)).2 h2
    · exact (fact_den 10 4 3 _ (by decide)).2 h3
    · exact (fact_den 15 3 0 _ (by decide)).2 h4
    · exact (fact_den 17 4 3 _ (by decide)).2 h5) made_K333
theorem four {a : Int} (h : 0 ≤ a ∧ a < 4) : a = 0 ∨ a = 1 ∨ a = 2 ∨ a = 3 := by omega
theorem made_s (h0 : l.Ok W) : ∃ K R es, Made K R es ∧ MadeAs W l K R es 9 #[l.v] := by
  have hk := drawV_in l.zs 0 (n := 7) (by decide)
  have hm := drawV_in l.zs 5 (n := 3) (by decide)
  have hq := drawV_in l.zs 10 (n := 4) (by decide)
  have T : ∀ {a b : Int}, a = b → decide (a = b) = true := fun h => decide_eq_true h
  rcases (show drawV l.zs 0 7 = 0 ∨ drawV l.zs 0 7 = 1 ∨ drawV l.zs 0 7 = 2 ∨ drawV l.zs 0 7 = 3 ∨ drawV l.zs 0 7 = 4 ∨ drawV l.zs 0 7 = 5 ∨ drawV l.zs 0 7 = 6 by omega) with h | h | h | h | h | h | h
  · exact case_K0 h0 (T h)
  · exact case_K1 h0 (T h)
  · rcases (show drawV l.zs 5 3 = 0 ∨ drawV l.zs 5 3 = 1 ∨ drawV l.zs 5 3 = 2 by omega) with g | g | g
    · exact case_K2a h0 (T h) (T g)
    · exact case_K2b h0 (T h) (T g)
    · by_cases f : drawV l.zs 8 3 = 0
      · rcases four hq with q | q | q | q
        · by_cases f2 : drawV l.zs 15 3 = 0
          · rcases four (drawV_in l.zs 17 (n := 4) (by decide)) with r | r | r | r
            · exact case_K200 h0 (T h) (T g) (T f) (T q) (T f2) (T r)
            · exact case_K201 h0 (T h) (T g) (T f) (T q) (T f2) (T r)
            · exact case_K202 h0 (T h) (T g) (T f) (T q) (T f2) (T r)
            · exact case_K203 h0 (T h) (T g) (T f) (T q) (T f2) (T r)
          · exact case_K20l h0 (T h) (T g) (T f) (T q) (decide_eq_false f2)
        · by_cases f2 : drawV l.zs 15 3 = 0
          · rcases four (drawV_in l.zs 17 (n := 4) (by decide)) with r | r | r | r
            · exact case_K210 h0 (T h) (T g) (T f) (T q) (T f2) (T r)
            · exact case_K211 h0 (T h) (T g) (T f) (T q) (T f2) (T r)
            · exact case_K212 h0 (T h) (T g) (T f) (T q) (T f2) (T r)
            · exact case_K213 h0 (T h) (T g) (T f) (T q) (T f2) (T r)
          · exact case_K21l h0 (T h) (T g) (T f) (T q) (decide_eq_false f2)
        · by_cases f2 : drawV l.zs 15 3 = 0
          · rcases four (drawV_in l.zs 17 (n := 4) (by decide)) with r | r | r | r
            · exact case_K220 h0 (T h) (T g) (T f) (T q) (T f2) (T r)
            · exact case_K221 h0 (T h) (T g) (T f) (T q) (T f2) (T r)
            · exact case_K222 h0 (T h) (T g) (T f) (T q) (T f2) (T r)
            · exact case_K223 h0 (T h) (T g) (T f) (T q) (T f2) (T r)
          · exact case_K22l h0 (T h) (T g) (T f) (T q) (decide_eq_false f2)
        · by_cases f2 : drawV l.zs 15 3 = 0
          · rcases four (drawV_in l.zs 17 (n := 4) (by decide)) with r | r | r | r
            · exact case_K230 h0 (T h) (T g) (T f) (T q) (T f2) (T r)
            · exact case_K231 h0 (T h) (T g) (T f) (T q) (T f2) (T r)
            · exact case_K232 h0 (T h) (T g) (T f) (T q) (T f2) (T r)
            · exact case_K233 h0 (T h) (T g) (T f) (T q) (T f2) (T r)
          · exact case_K23l h0 (T h) (T g) (T f) (T q) (decide_eq_false f2)
      · by_cases f2 : drawV l.zs 11 3 = 0
        · rcases four (drawV_in l.zs 13 (n := 4) (by decide)) with r | r | r | r
          · exact case_K2l0 h0 (T h) (T g) (decide_eq_false f) (T f2) (T r)
          · exact case_K2l1 h0 (T h) (T g) (decide_eq_false f) (T f2) (T r)
          · exact case_K2l2 h0 (T h) (T g) (decide_eq_false f) (T f2) (T r)
          · exact case_K2l3 h0 (T h) (T g) (decide_eq_false f) (T f2) (T r)
        · exact case_K2ll h0 (T h) (T g) (decide_eq_false f) (decide_eq_false f2)
  · rcases (show drawV l.zs 5 3 = 0 ∨ drawV l.zs 5 3 = 1 ∨ drawV l.zs 5 3 = 2 by omega) with g | g | g
    · exact case_K3a h0 (T h) (T g)
    · exact case_K3b h0 (T h) (T g)
    · by_cases f : drawV l.zs 8 3 = 0
      · rcases four hq with q | q | q | q
        · by_cases f2 : drawV l.zs 15 3 = 0
          · rcases four (drawV_in l.zs 17 (n := 4) (by decide)) with r | r | r | r
            · exact case_K300 h0 (T h) (T g) (T f) (T q) (T f2) (T r)
            · exact case_K301 h0 (T h) (T g) (T f) (T q) (T f2) (T r)
            · exact case_K302 h0 (T h) (T g) (T f) (T q) (T f2) (T r)
            · exact case_K303 h0 (T h) (T g) (T f) (T q) (T f2) (T r)
          · exact case_K30l h0 (T h) (T g) (T f) (T q) (decide_eq_false f2)
        · by_cases f2 : drawV l.zs 15 3 = 0
          · rcases four (drawV_in l.zs 17 (n := 4) (by decide)) with r | r | r | r
            · exact case_K310 h0 (T h) (T g) (T f) (T q) (T f2) (T r)
            · exact case_K311 h0 (T h) (T g) (T f) (T q) (T f2) (T r)
            · exact case_K312 h0 (T h) (T g) (T f) (T q) (T f2) (T r)
            · exact case_K313 h0 (T h) (T g) (T f) (T q) (T f2) (T r)
          · exact case_K31l h0 (T h) (T g) (T f) (T q) (decide_eq_false f2)
        · by_cases f2 : drawV l.zs 15 3 = 0
          · rcases four (drawV_in l.zs 17 (n := 4) (by decide)) with r | r | r | r
            · exact case_K320 h0 (T h) (T g) (T f) (T q) (T f2) (T r)
            · exact case_K321 h0 (T h) (T g) (T f) (T q) (T f2) (T r)
            · exact case_K322 h0 (T h) (T g) (T f) (T q) (T f2) (T r)
            · exact case_K323 h0 (T h) (T g) (T f) (T q) (T f2) (T r)
          · exact case_K32l h0 (T h) (T g) (T f) (T q) (decide_eq_false f2)
        · by_cases f2 : drawV l.zs 15 3 = 0
          · rcases four (drawV_in l.zs 17 (n := 4) (by decide)) with r | r | r | r
            · exact case_K330 h0 (T h) (T g) (T f) (T q) (T f2) (T r)
            · exact case_K331 h0 (T h) (T g) (T f) (T q) (T f2) (T r)
            · exact case_K332 h0 (T h) (T g) (T f) (T q) (T f2) (T r)
            · exact case_K333 h0 (T h) (T g) (T f) (T q) (T f2) (T r)
          · exact case_K33l h0 (T h) (T g) (T f) (T q) (decide_eq_false f2)
      · by_cases f2 : drawV l.zs 11 3 = 0
        · rcases four (drawV_in l.zs 13 (n := 4) (by decide)) with r | r | r | r
          · exact case_K3l0 h0 (T h) (T g) (decide_eq_false f) (T f2) (T r)
          · exact case_K3l1 h0 (T h) (T g) (decide_eq_false f) (T f2) (T r)
          · exact case_K3l2 h0 (T h) (T g) (decide_eq_false f) (T f2) (T r)
          · exact case_K3l3 h0 (T h) (T g) (decide_eq_false f) (T f2) (T r)
        · exact case_K3ll h0 (T h) (T g) (decide_eq_false f) (decide_eq_false f2)
  · exact case_K4 h0 (T h)
  · exact case_K5 h0 (T h)
  · exact case_K6 h0 (T h)
end
end Go.Proofs.Ytliimpbbppbghaa.Sx

