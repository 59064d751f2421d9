import Derived.Test.YthkkipkhofkpmaaQSq
set_option linter.all false
set_option autoImplicit false
namespace Go.Proofs.Ythkkipkhofkpmaa.Sx
open Go Go.RowKit
def ex40 : List (B × Bool) := [((.app 11 (.cons (.lit 1) (.cons (.lit (-10000)) (.cons (.lit (-10500)) (.cons (.lit 40000000) (.cons (.lit 42000000) (.cons (.lit 0) (.cons (.lit 0) (.cons (.bin .mul (.bin .add (.lit 1) (.bin .rem (.var 1) (.lit 100000))) (.lit 29)) (.cons (.bin .add (.bin .add (.bin .mul (.bin .sub (.lit 0) (.bin .add (.lit 1) (.bin .rem (.var 1) (.lit 100000)))) (.lit 21)) (.lit 20)) (.lit 0)) (.cons (.bin .add (.bin .add (.bin .mul (.bin .add (.lit 1) (.bin .rem (.var 1) (.lit 100000))) (.lit 20)) (.lit 21)) (.lit 0)) .nil))))))))))), true), ((.lt (.bin .add (.bin .add (.bin .mul (.bin .sub (.lit 0) (.bin .add (.lit 1) (.bin .rem (.var 1) (.lit 100000)))) (.lit 21)) (.lit 20)) (.lit 0)) (.bin .sub (.lit (-10000)) (.bin .mul (.bin .add (.lit 1) (.bin .rem (.var 1) (.lit 100000))) (.lit 29)))), false), ((.app 11 (.cons (.lit 1) (.cons (.lit (-10000)) (.cons (.lit (-10500)) (.cons (.lit 40000000) (.cons (.lit 42000000) (.cons (.lit 0) (.cons (.lit 0) (.cons (.bin .sub (.bin .mul (.bin .add (.lit 1) (.bin .rem (.var 1) (.lit 100000))) (.lit 29)) (.lit 1)) (.cons (.bin .add (.bin .add (.bin .mul (.bin .sub (.lit 0) (.bin .add (.lit 1) (.bin .rem (.var 1) (.lit 100000)))) (.lit 21)) (.lit 20)) (.lit 0)) (.cons (.bin .add (.bin .add (.bin .mul (.bin .add (.lit 1) (.bin .rem (.var 1) (.lit 100000))) (.lit 20)) (.lit 21)) (.lit 0)) .nil))))))))))), false)]
set_option maxRecDepth 1000000 in
theorem ex40_chk : leavesOk isYes (vals (execF Try.prog ctHS 20 7 exA ⟨[], 0, ⟨ex40 ++ exB 4 0 0, [], 0⟩⟩)) = true := by kernel_rfl
theorem ex40_ok (w s t : Int) (hs : 0 ≤ s ∧ s < 4294967296) : ∀ p ∈ ex40, p.1.den IH (envOf [w, s, t] []) = p.2 := by
  obtain ⟨K, hK, h1, h2⟩ := exK s hs
  intro p hp
  simp only [ex40, List.mem_cons, List.not_mem_nil, or_false] at hp
  rcases hp with rfl | rfl | rfl
  · exact ex_yes (K := K) (c := 1682420500) (h := 29) (by exf) (by exf) (by decide) (by exf) (by exf)
  · exact B.lt_f.2 (by exf)
  · exact ex_no (K := K) (c := 1682420500) (h := 29) (by exf) (by exf) (by decide) (by omega) (by decide)
def ex41 : List (B × Bool) := [((.app 11 (.cons (.lit 1) (.cons (.lit 10500) (.cons (.lit (-10000)) (.cons (.lit (-42000000)) (.cons (.lit 40000000) (.cons (.lit 0) (.cons (.lit 0) (.cons (.bin .mul (.bin .add (.lit 1) (.bin .rem (.var 1) (.lit 100000))) (.lit 29)) (.cons (.bin .add (.bin .sub (.lit 0) (.bin .add (.bin .mul (.bin .add (.lit 1) (.bin .rem (.var 1) (.lit 100000))) (.lit 20)) (.lit 21))) (.lit 0)) (.cons (.bin .add (.bin .add (.bin .mul (.bin .sub (.lit 0) (.bin .add (.lit 1) (.bin .rem (.var 1) (.lit 100000)))) (.lit 21)) (.lit 20)) (.lit 0)) .nil))))))))))), true), ((.lt (.bin .add (.bin .add (.bin .mul (.bin .sub (.lit 0) (.bin .add (.lit 1) (.bin .rem (.var 1) (.lit 100000)))) (.lit 21)) (.lit 20)) (.lit 0)) (.bin .sub (.lit (-10000)) (.bin .mul (.bin .add (.lit 1) (.bin .rem (.var 1) (.lit 100000))) (.lit 29)))), false), ((.app 11 (.cons (.lit 1) (.cons (.lit 10500) (.cons (.lit (-10000)) (.cons (.lit (-42000000)) (.cons (.lit 40000000) (.cons (.lit 0) (.cons (.lit 0) (.cons (.bin .sub (.bin .mul (.bin .add (.lit 1) (.bin .rem (.var 1) (.lit 100000))) (.lit 29)) (.lit 1)) (.cons (.bin .add (.bin .sub (.lit 0) (.bin .add (.bin .mul (.bin .add (.lit 1) (.bin .rem (.var 1) (.lit 100000))) (.lit 20)) (.lit 21))) (.lit 0)) (.cons (.bin .add (.bin .add (.bin .mul (.bin .sub (.lit 0) (.bin .add (.lit 1) (.bin .rem (.var 1) (.lit 100000)))) (.lit 21)) (.lit 20)) (.lit 0)) .nil))))))))))), false)]
set_option maxRecDepth 1000000 in
theorem ex41_chk : leavesOk isYes (vals (execF Try.prog ctHS 20 7 exA ⟨[], 0, ⟨ex41 ++ exB 4 1 1, [], 0⟩⟩)) = true := by kernel_rfl
theorem ex41_ok (w s t : Int) (hs : 0 ≤ s ∧ s < 4294967296) : ∀ p ∈ ex41, p.1.den IH (envOf [w, s, t] []) = p.2 := by
  obtain ⟨K, hK, h1, h2⟩ := exK s hs
  intro p hp
  simp only [ex41, List.mem_cons, List.not_mem_nil, or_false] at hp
  rcases hp with rfl | rfl | rfl
  · exact ex_yes (K := K) (c := 1682420500) (h := 29) (by exf) (by exf) (by decide) (by exf) (by exf)
  · exact B.lt_f.2 (by exf)
  · exact ex_no (K := K) (c := 1682420500) (h := 29) (by exf) (by exf) (by decide) (by omega) (by decide)
def ex42 : List (B × Bool) := [((.app 11 (.cons (.lit 1) (.cons (.lit 10000) (.cons (.lit 10500) (.cons (.lit (-40000000)) (.cons (.lit (-42000000)) (.cons (.lit 0) (.cons (.lit 0) (.cons (.bin .mul (.bin .add (.lit 1) (.bin .rem (.var 1) (.lit 100000))) (.lit 29)) (.cons (.bin .add (.bin .sub (.lit 0) (.bin .add (.bin .mul (.bin .sub (.lit 0) (.bin .add (.lit 1) (.bin .rem (.var 1) (.lit 100000)))) (.lit 21)) (.lit 20))) (.lit 0)) (.cons (.bin .add (.bin .sub (.lit 0) (.bin .add (.bin .mul (.bin .add (.lit 1) (.bin .rem (.var 1) (.lit 100000))) (.lit 20)) (.lit 21))) (.lit 0)) .nil))))))))))), true), ((.lt (.bin .add (.lit 10000) (.bin .mul (.bin .add (.lit 1) (.bin .rem (.var 1) (.lit 100000))) (.lit 29))) (.bin .add (.bin .sub (.lit 0) (.bin .add (.bin .mul (.bin .sub (.lit 0) (.bin .add (.lit 1) (.bin .rem (.var 1) (.lit 100000)))) (.lit 21)) (.lit 20))) (.lit 0))), false), ((.app 11 (.cons (.lit 1) (.cons (.lit 10000) (.cons (.lit 10500) (.cons (.lit (-40000000)) (.cons (.lit (-42000000)) (.cons (.lit 0) (.cons (.lit 0) (.cons (.bin .sub (.bin .mul (.bin .add (.lit 1) (.bin .rem (.var 1) (.lit 100000))) (.lit 29)) (.lit 1)) (.cons (.bin .add (.bin .sub (.lit 0) (.bin .add (.bin .mul (.bin .sub (.lit 0) (.bin .add (.lit 1) (.bin .rem (.var 1) (.lit 100000)))) (.lit 21)) (.lit 20))) (.lit 0)) (.cons (.bin .add (.bin .sub (.lit 0) (.bin .add (.bin .mul (.bin .add (.lit 1) (.bin .rem (.var 1) (.lit 100000))) (.lit 20)) (.lit 21))) (.lit 0)) .nil))))))))))), false)]
set_option maxRecDepth 1000000 in
theorem ex42_chk : leavesOk isYes (vals (execF Try.prog ctHS 20 7 exA ⟨[], 0, ⟨ex42 ++ exB 4 2 2, [], 0⟩⟩)) = true := by kernel_rfl
theorem ex42_ok (w s t : Int) (hs : 0 ≤ s ∧ s < 4294967296) : ∀ p ∈ ex42, p.1.den IH (envOf [w, s, t] []) = p.2 := by
  obtain ⟨K, hK, h1, h2⟩ := exK s hs
  intro p hp
  simp only [ex42, List.mem_cons, List.not_mem_nil, or_false] at hp
  rcases hp with rfl | rfl | rfl
  · exact ex_yes (K := K) (c := 1682420500) (h := 29) (by exf) (by exf) (by decide) (by exf) (by exf)
  · exact B.lt_f.2 (by exf)
  · exact ex_no (K := K) (c := 1682420500) (h := 29) (by exf) (by exf) (by decide) (by omega) (by decide)
def ex43 : List (B × Bool) := [((.app 11 (.cons (.lit 1) (.cons (.lit (-10500)) (.cons (.lit 10000) (.cons (.lit 42000000) (.cons (.lit (-40000000)) (.cons (.lit 0) (.cons (.lit 0) (.cons (.bin .mul (.bin .add (.lit 1) (.bin .rem (.var 1) (.lit 100000))) (.lit 29)) (.cons (.bin .add (.bin .add (.bin .mul (.bin .add (.lit 1) (.bin .rem (.var 1) (.lit 100000))) (.lit 20)) (.lit 21)) (.lit 0)) (.cons (.bin .add (.bin .sub (.lit 0) (.bin .add (.bin .mul (.bin .sub (.lit 0) (.bin .add (.lit 1) (.bin .rem (.var 1) (.lit 100000)))) (.lit 21)) (.lit 20))) (.lit 0)) .nil))))))))))), true), ((.lt (.bin .add (.lit 10000) (.bin .mul (.bin .add (.lit 1) (.bin .rem (.var 1) (.lit 100000))) (.lit 29))) (.bin .add (.bin .sub (.lit 0) (.bin .add (.bin .mul (.bin .sub (.lit 0) (.bin .add (.lit 1) (.bin .rem (.var 1) (.lit 100000)))) (.lit 21)) (.lit 20))) (.lit 0))), false), ((.app 11 (.cons (.lit 1) (.cons (.lit (-10500)) (.cons (.lit 10000) (.cons (.lit 42000000) (.cons (.lit (-40000000)) (.cons (.lit 0) (.cons (.lit 0) (.cons (.bin .sub (.bin .mul (.bin .add (.lit 1) (.bin .rem (.var 1) (.lit 100000))) (.lit 29)) (.lit 1)) (.cons (.bin .add (.bin .add (.bin .mul (.bin .add (.lit 1) (.bin .rem (.var 1) (.lit 100000))) (.lit 20)) (.lit 21)) (.lit 0)) (.cons (.bin .add (.bin .sub (.lit 0) (.bin .add (.bin .mul (.bin .sub (.lit 0) (.bin .add (.lit 1) (.bin .rem (.var 1) (.lit 100000)))) (.lit 21)) (.lit 20))) (.lit 0)) .nil))))))))))), false)]
set_option maxRecDepth 1000000 in
theorem ex43_chk : leavesOk isYes (vals (execF Try.prog ctHS 20 7 exA ⟨[], 0, ⟨ex43 ++ exB 4 3 3, [], 0⟩⟩)) = true := by kernel_rfl
theorem ex43_ok (w s t : Int) (hs : 0 ≤ s ∧ s < 4294967296) : ∀ p ∈ ex43, p.1.den IH (envOf [w, s, t] []) = p.2 := by
  obtain ⟨K, hK, h1, h2⟩ := exK s hs
  intro p hp
  simp only [ex43, List.mem_cons, List.not_mem_nil, or_false] at hp
  rcases hp with rfl | rfl | rfl
  · exact ex_yes (K := K) (c := 1682420500) (h := 29) (by exf) (by exf) (by decide) (by exf) (by exf)
  · exact B.lt_f.2 (by exf)
  · exact ex_no (K := K) (c := 1682420500) (h := 29) (by exf) (by exf) (by decide) (by omega) (by decide)
def ex44 : List (B × Bool) := [((.app 11 (.cons (.lit 1) (.cons (.lit 10000) (.cons (.lit (-10500)) (.cons (.lit (-40000000)) (.cons (.lit 42000000) (.cons (.lit 0) (.cons (.lit 0) (.cons (.bin .mul (.bin .add (.lit 1) (.bin .rem (.var 1) (.lit 100000))) (.lit 29)) (.cons (.bin .add (.bin .sub (.lit 0) (.bin .add (.bin .mul (.bin .sub (.lit 0) (.bin .add (.lit 1) (.bin .rem (.var 1) (.lit 100000)))) (.lit 21)) (.lit 20))) (.lit 0)) (.cons (.bin .add (.bin .add (.bin .mul (.bin .add (.lit 1) (.bin .rem (.var 1) (.lit 100000))) (.lit 20)) (.lit 21)) (.lit 0)) .nil))))))))))), true), ((.lt (.bin .add (.lit 10000) (.bin .mul (.bin .add (.lit 1) (.bin .rem (.var 1) (.lit 100000))) (.lit 29))) (.bin .add (.bin .sub (.lit 0) (.bin .add (.bin .mul (.bin .sub (.lit 0) (.bin .add (.lit 1) (.bin .rem (.var 1) (.lit 100000)))) (.lit 21)) (.lit 20))) (.lit 0))), false), ((.app 11 (.cons (.lit 1) (.cons (.lit 10000) (.cons (.lit (-10500)) (.cons (.lit (-40000000)) (.cons (.lit 42000000) (.cons (.lit 0) (.cons (.lit 0) (.cons (.bin .sub (.bin .mul (.bin .add (.lit 1) (.bin .rem (.var 1) (.lit 100000))) (.lit 29)) (.lit 1)) (.cons (.bin .add (.bin .sub (.lit 0) (.bin .add (.bin .mul (.bin .sub (.lit 0) (.bin .add (.lit 1) (.bin .rem (.var 1) (.lit 100000)))) (.lit 21)) (.lit 20))) (.lit 0)) (.cons (.bin .add (.bin .add (.bin .mul (.bin .add (.lit 1) (.bin .rem (.var 1) (.lit 100000))) (.lit 20)) (.lit 21)) (.lit 0)) .nil))))))))))), false)]
set_option maxRecDepth 1000000 in
theorem ex44_chk : leavesOk isYes (vals (execF Try.prog ctHS 20 7 exA ⟨[], 0, ⟨ex44 ++ exB 4 0 4, [], 0⟩⟩)) = true := by kernel_rfl
theorem ex44_ok (w s t : Int) (hs : 0 ≤ s ∧ s < 4294967296) : ∀ p ∈ ex44, p.1.den IH (envOf [w, s, t] []) = p.2 := by
  obtain ⟨K, hK, h1, h2⟩ := exK s hs
  intro p hp
  simp only [ex44, List.mem_cons, List.not_mem_nil, or_false] at hp
  rcases hp with rfl | rfl | rfl
  · exact ex_yes (K := K) (c := -1682420500) (h := 29) (by exf) (by exf) (by decide) (by exf) (by exf)
  · exact B.lt_f.2 (by exf)
  · exact ex_no (K := K) (c := -1682420500) (h := 29) (by exf) (by exf) (by decide) (by omega) (by decide)
def ex45 : List (B × Bool) := [((.app 11 (.cons (.lit 1) (.cons (.lit 10500) (.cons (.lit 10000) (.cons (.lit (-42000000)) (.cons (.lit (-40000000)) (.cons (.lit 0) (.cons (.lit 0) (.cons (.bin .mul (.bin .add (.lit 1) (.bin .rem (.var 1) (.lit 100000))) (.lit 29)) (.cons (.bin .add (.bin .sub (.lit 0) (.bin .add (.bin .mul (.bin .add (.lit 1) (.bin .rem (.var 1) (.lit 100000))) (.lit 20)) (.lit 21))) (.lit 0)) (.cons (.bin .add (.bin .sub (.lit 0) (.bin .add (.bin .mul (.bin .sub (.lit 0) (.bin .add (.lit 1) (.bin .rem (.var 1) (.lit 100000)))) (.lit 21)) (.lit 20))) (.lit 0)) .nil))))))))))), true), ((.lt (.bin .add (.lit 10000) (.bin .mul (.bin .add (.lit 1) (.bin .rem (.var 1) (.lit 100000))) (.lit 29))) (.bin .add (.bin .sub (.lit 0) (.bin .add (.bin .mul (.bin .sub (.lit 0) (.bin .add (.lit 1) (.bin .rem (.var 1) (.lit 100000)))) (.lit 21)) (.lit 20))) (.lit 0))), false), ((.app 11 (.cons (.lit 1) (.cons (.lit 10500) (.cons (.lit 10000) (.cons (.lit (-42000000)) (.cons (.lit (-40000000)) (.cons (.lit 0) (.cons (.lit 0) (.cons (.bin .sub (.bin .mul (.bin .add (.lit 1) (.bin .rem (.var 1) (.lit 100000))) (.lit 29)) (.lit 1)) (.cons (.bin .add (.bin .sub (.lit 0) (.bin .add (.bin .mul (.bin .add (.lit 1) (.bin .rem (.var 1) (.lit 100000))) (.lit 20)) (.lit 21))) (.lit 0)) (.cons (.bin .add (.bin .sub (.lit 0) (.bin .add (.bin .mul (.bin .sub (.lit 0) (.bin .add (.lit 1) (.bin .rem (.var 1) (.lit 100000)))) (.lit 21)) (.lit 20))) (.lit 0)) .nil))))))))))), false)]
set_option maxRecDepth 1000000 in
theorem ex45_chk : leavesOk isYes (vals (execF Try.prog ctHS 20 7 exA ⟨[], 0, ⟨ex45 ++ exB 4 1 5, [], 0⟩⟩)) = true := by kernel_rfl
theorem ex45_ok (w s t : Int) (hs : 0 ≤ s ∧ s < 4294967296) : ∀ p ∈ ex45, p.1.den IH (envOf [w, s, t] []) = p.2 := by
  obtain ⟨K, hK, h1, h2⟩ := exK s hs
  intro p hp
  simp only [ex45, List.mem_cons, List.not_mem_nil, or_false] at hp
  rcases hp with rfl | rfl | rfl
  · exact ex_yes (K := K) (c := -1682420500) (h := 29) (by exf) (by exf) (by decide) (by exf) (by exf)
  · exact B.lt_f.2 (by exf)
  · exact ex_no (K := K) (c := -1682420500) (h := 29) (by exf) (by exf) (by decide) (by omega) (by decide)
def ex46 : List (B × Bool) := [((.app 11 (.cons (.lit 1) (.cons (.lit (-10000)) (.cons (.lit 10500) (.cons (.lit 40000000) (.cons (.lit (-42000000)) (.cons (.lit 0) (.cons (.lit 0) (.cons (.bin .mul (.bin .add (.lit 1) (.bin .rem (.var 1) (.lit 100000))) (.lit 29)) (.cons (.bin .add (.bin .sub (.lit 0) (.bin .sub (.lit 0) (.bin .add (.bin .mul (.bin .sub (.lit 0) (.bin .add (.lit 1) (.bin .rem (.var 1) (.lit 100000)))) (.lit 21)) (.lit 20)))) (.lit 0)) (.cons (.bin .add (.bin .sub (.lit 0) (.bin .add (.bin .mul (.bin .add (.lit 1) (.bin .rem (.var 1) (.lit 100000))) (.lit 20)) (.lit 21))) (.lit 0)) .nil))))))))))), true), ((.lt (.bin .add (.bin .sub (.lit 0) (.bin .sub (.lit 0) (.bin .add (.bin .mul (.bin .sub (.lit 0) (.bin .add (.lit 1) (.bin .rem (.var 1) (.lit 100000)))) (.lit 21)) (.lit 20)))) (.lit 0)) (.bin .sub (.lit (-10000)) (.bin .mul (.bin .add (.lit 1) (.bin .rem (.var 1) (.lit 100000))) (.lit 29)))), false), ((.app 11 (.cons (.lit 1) (.cons (.lit (-10000)) (.cons (.lit 10500) (.cons (.lit 40000000) (.cons (.lit (-42000000)) (.cons (.lit 0) (.cons (.lit 0) (.cons (.bin .sub (.bin .mul (.bin .add (.lit 1) (.bin .rem (.var 1) (.lit 100000))) (.lit 29)) (.lit 1)) (.cons (.bin .add (.bin .sub (.lit 0) (.bin .sub (.lit 0) (.bin .add (.bin .mul (.bin .sub (.lit 0) (.bin .add (.lit 1) (.bin .rem (.var 1) (.lit 100000)))) (.lit 21)) (.lit 20)))) (.lit 0)) (.cons (.bin .add (.bin .sub (.lit 0) (.bin .add (.bin .mul (.bin .add (.lit 1) (.bin .rem (.var 1) (.lit 100000))) (.lit 20)) (.lit 21))) (.lit 0)) .nil))))))))))), false)]
set_option maxRecDepth 1000000 in
theorem ex46_chk : leavesOk isYes (vals (execF Try.prog ctHS 20 7 exA ⟨[], 0, ⟨ex46 ++ exB 4 2 6, [], 0⟩⟩)) = true := by kernel_rfl
theorem ex46_ok (w s t : Int) (hs : 0 ≤ s ∧ s < 4294967296) : ∀ p ∈ ex46, p.1.den IH (envOf [w, s, t] []) = p.2 := by
  obtain ⟨K, hK, h1, h2⟩ := exK s hs
  intro p hp
  simp only [ex46, List.mem_cons, List.not_mem_nil, or_false] at hp
  rcases hp with rfl | rfl | rfl
  · exact ex_yes (K := K) (c := -1682420500) (h := 29) (by exf) (by exf) (by decide) (by exf) (by exf)
  · exact B.lt_f.2 (by exf)
  · exact ex_no (K := K) (c := -1682420500) (h := 29) (by exf) (by exf) (by decide) (by omega) (by decide)
def ex47 : List (B × Bool) := [((.app 11 (.cons (.lit 1) (.cons (.lit (-10500)) (.cons (.lit (-10000)) (.cons (.lit 42000000) (.cons (.lit 40000000) (.cons (.lit 0) (.cons (.lit 0) (.cons (.bin .mul (.bin .add (.lit 1) (.bin .rem (.var 1) (.lit 100000))) (.lit 29)) (.cons (.bin .add (.bin .add (.bin .mul (.bin .add (.lit 1) (.bin .rem (.var 1) (.lit 100000))) (.lit 20)) (.lit 21)) (.lit 0)) (.cons (.bin .add (.bin .sub (.lit 0) (.bin .sub (.lit 0) (.bin .add (.bin .mul (.bin .sub (.lit 0) (.bin .add (.lit 1) (.bin .rem (.var 1) (.lit 100000)))) (.lit 21)) (.lit 20)))) (.lit 0)) .nil))))))))))), true), ((.lt (.bin .add (.bin .sub (.lit 0) (.bin .sub (.lit 0) (.bin .add (.bin .mul (.bin .sub (.lit 0) (.bin .add (.lit 1) (.bin .rem (.var 1) (.lit 100000)))) (.lit 21)) (.lit 20)))) (.lit 0)) (.bin .sub (.lit (-10000)) (.bin .mul (.bin .add (.lit 1) (.bin .rem (.var 1) (.lit 100000))) (.lit 29)))), false), ((.app 11 (.cons (.lit 1) (.cons (.lit (-10500)) (.cons (.lit (-10000)) (.cons (.lit 42000000) (.cons (.lit 40000000) (.cons (.lit 0) (.cons (.lit 0) (.cons (.bin .sub (.bin .mul (.bin .add (.lit 1) (.bin .rem (.var 1) (.lit 100000))) (.lit 29)) (.lit 1)) (.cons (.bin .add (.bin .add (.bin .mul (.bin .add (.lit 1) (.bin .rem (.var 1) (.lit 100000))) (.lit 20)) (.lit 21)) (.lit 0)) (.cons (.bin .add (.bin .sub (.lit 0) (.bin .sub (.lit 0) (.bin .add (.bin .mul (.bin .sub (.lit 0) (.bin .add (.lit 1) (.bin .rem (.var 1) (.lit 100000)))) (.lit 21)) (.lit 20)))) (.lit 0)) .nil))))))))))), false)]
set_option maxRecDepth 1000000 in
theorem ex47_chk : leavesOk isYes (vals (execF Try.prog ctHS 20 7 exA ⟨[], 0, ⟨ex47 ++ exB 4 3 7, [], 0⟩⟩)) = true := by kernel_rfl
theorem ex47_ok (w s t : Int) (hs : 0 ≤ s ∧ s < 4294967296) : ∀ p ∈ ex47, p.1.den IH (envOf [w, s, t] []) = p.2 := by
  obtain ⟨K, hK, h1, h2⟩ := exK s hs
  intro p hp
  simp only [ex47, List.mem_cons, List.not_mem_nil, or_false] at hp
  rcases hp with rfl | rfl | rfl
  · exact ex_yes (K := K) (c := -1682420500) (h := 29) (by exf) (by exf) (by decide) (by exf) (by exf)
  · exact B.lt_f.2 (by exf)
  · exact ex_no (K := K) (c := -1682420500) (h := 29) (by exf) (by exf) (by decide) (by omega) (by decide)
end Go.Proofs.Ythkkipkhofkpmaa.Sx

