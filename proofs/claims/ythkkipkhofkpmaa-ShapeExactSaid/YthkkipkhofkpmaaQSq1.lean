import Derived.Test.YthkkipkhofkpmaaQSq
set_option linter.all false
set_option autoImplicit false
namespace Go.Proofs.Ythkkipkhofkpmaa.Sx
open Go Go.RowKit
def ex10 : List (B × Bool) := [((.app 11 (.cons (.lit 1) (.cons (.lit (-2500)) (.cons (.lit (-6000)) (.cons (.lit 10000000) (.cons (.lit 24000000) (.cons (.lit 0) (.cons (.lit 0) (.cons (.bin .mul (.bin .add (.lit 1) (.bin .rem (.var 1) (.lit 100000))) (.lit 13)) (.cons (.bin .add (.bin .add (.bin .mul (.bin .sub (.lit 0) (.bin .add (.lit 1) (.bin .rem (.var 1) (.lit 100000)))) (.lit 12)) (.lit 5)) (.lit 0)) (.cons (.bin .add (.bin .add (.bin .mul (.bin .add (.lit 1) (.bin .rem (.var 1) (.lit 100000))) (.lit 5)) (.lit 12)) (.lit 0)) .nil))))))))))), true), ((.lt (.bin .add (.bin .add (.bin .mul (.bin .sub (.lit 0) (.bin .add (.lit 1) (.bin .rem (.var 1) (.lit 100000)))) (.lit 12)) (.lit 5)) (.lit 0)) (.bin .sub (.lit (-2500)) (.bin .mul (.bin .add (.lit 1) (.bin .rem (.var 1) (.lit 100000))) (.lit 13)))), false), ((.app 11 (.cons (.lit 1) (.cons (.lit (-2500)) (.cons (.lit (-6000)) (.cons (.lit 10000000) (.cons (.lit 24000000) (.cons (.lit 0) (.cons (.lit 0) (.cons (.bin .sub (.bin .mul (.bin .add (.lit 1) (.bin .rem (.var 1) (.lit 100000))) (.lit 13)) (.lit 1)) (.cons (.bin .add (.bin .add (.bin .mul (.bin .sub (.lit 0) (.bin .add (.lit 1) (.bin .rem (.var 1) (.lit 100000)))) (.lit 12)) (.lit 5)) (.lit 0)) (.cons (.bin .add (.bin .add (.bin .mul (.bin .add (.lit 1) (.bin .rem (.var 1) (.lit 100000))) (.lit 5)) (.lit 12)) (.lit 0)) .nil))))))))))), false)]
set_option maxRecDepth 1000000 in
theorem ex10_chk : leavesOk isYes (vals (execF Try.prog ctHS 20 7 exA ⟨[], 0, ⟨ex10 ++ exB 1 0 0, [], 0⟩⟩)) = true := by kernel_rfl
theorem ex10_ok (w s t : Int) (hs : 0 ≤ s ∧ s < 4294967296) : ∀ p ∈ ex10, p.1.den IH (envOf [w, s, t] []) = p.2 := by
  obtain ⟨K, hK, h1, h2⟩ := exK s hs
  intro p hp
  simp only [ex10, List.mem_cons, List.not_mem_nil, or_false] at hp
  rcases hp with rfl | rfl | rfl
  · exact ex_yes (K := K) (c := 338084500) (h := 13) (by exf) (by exf) (by decide) (by exf) (by exf)
  · exact B.lt_f.2 (by exf)
  · exact ex_no (K := K) (c := 338084500) (h := 13) (by exf) (by exf) (by decide) (by omega) (by decide)
def ex11 : List (B × Bool) := [((.app 11 (.cons (.lit 1) (.cons (.lit 6000) (.cons (.lit (-2500)) (.cons (.lit (-24000000)) (.cons (.lit 10000000) (.cons (.lit 0) (.cons (.lit 0) (.cons (.bin .mul (.bin .add (.lit 1) (.bin .rem (.var 1) (.lit 100000))) (.lit 13)) (.cons (.bin .add (.bin .sub (.lit 0) (.bin .add (.bin .mul (.bin .add (.lit 1) (.bin .rem (.var 1) (.lit 100000))) (.lit 5)) (.lit 12))) (.lit 0)) (.cons (.bin .add (.bin .add (.bin .mul (.bin .sub (.lit 0) (.bin .add (.lit 1) (.bin .rem (.var 1) (.lit 100000)))) (.lit 12)) (.lit 5)) (.lit 0)) .nil))))))))))), true), ((.lt (.bin .add (.bin .add (.bin .mul (.bin .sub (.lit 0) (.bin .add (.lit 1) (.bin .rem (.var 1) (.lit 100000)))) (.lit 12)) (.lit 5)) (.lit 0)) (.bin .sub (.lit (-2500)) (.bin .mul (.bin .add (.lit 1) (.bin .rem (.var 1) (.lit 100000))) (.lit 13)))), false), ((.app 11 (.cons (.lit 1) (.cons (.lit 6000) (.cons (.lit (-2500)) (.cons (.lit (-24000000)) (.cons (.lit 10000000) (.cons (.lit 0) (.cons (.lit 0) (.cons (.bin .sub (.bin .mul (.bin .add (.lit 1) (.bin .rem (.var 1) (.lit 100000))) (.lit 13)) (.lit 1)) (.cons (.bin .add (.bin .sub (.lit 0) (.bin .add (.bin .mul (.bin .add (.lit 1) (.bin .rem (.var 1) (.lit 100000))) (.lit 5)) (.lit 12))) (.lit 0)) (.cons (.bin .add (.bin .add (.bin .mul (.bin .sub (.lit 0) (.bin .add (.lit 1) (.bin .rem (.var 1) (.lit 100000)))) (.lit 12)) (.lit 5)) (.lit 0)) .nil))))))))))), false)]
set_option maxRecDepth 1000000 in
theorem ex11_chk : leavesOk isYes (vals (execF Try.prog ctHS 20 7 exA ⟨[], 0, ⟨ex11 ++ exB 1 1 1, [], 0⟩⟩)) = true := by kernel_rfl
theorem ex11_ok (w s t : Int) (hs : 0 ≤ s ∧ s < 4294967296) : ∀ p ∈ ex11, p.1.den IH (envOf [w, s, t] []) = p.2 := by
  obtain ⟨K, hK, h1, h2⟩ := exK s hs
  intro p hp
  simp only [ex11, List.mem_cons, List.not_mem_nil, or_false] at hp
  rcases hp with rfl | rfl | rfl
  · exact ex_yes (K := K) (c := 338084500) (h := 13) (by exf) (by exf) (by decide) (by exf) (by exf)
  · exact B.lt_f.2 (by exf)
  · exact ex_no (K := K) (c := 338084500) (h := 13) (by exf) (by exf) (by decide) (by omega) (by decide)
def ex12 : List (B × Bool) := [((.app 11 (.cons (.lit 1) (.cons (.lit 2500) (.cons (.lit 6000) (.cons (.lit (-10000000)) (.cons (.lit (-24000000)) (.cons (.lit 0) (.cons (.lit 0) (.cons (.bin .mul (.bin .add (.lit 1) (.bin .rem (.var 1) (.lit 100000))) (.lit 13)) (.cons (.bin .add (.bin .sub (.lit 0) (.bin .add (.bin .mul (.bin .sub (.lit 0) (.bin .add (.lit 1) (.bin .rem (.var 1) (.lit 100000)))) (.lit 12)) (.lit 5))) (.lit 0)) (.cons (.bin .add (.bin .sub (.lit 0) (.bin .add (.bin .mul (.bin .add (.lit 1) (.bin .rem (.var 1) (.lit 100000))) (.lit 5)) (.lit 12))) (.lit 0)) .nil))))))))))), true), ((.lt (.bin .add (.lit 2500) (.bin .mul (.bin .add (.lit 1) (.bin .rem (.var 1) (.lit 100000))) (.lit 13))) (.bin .add (.bin .sub (.lit 0) (.bin .add (.bin .mul (.bin .sub (.lit 0) (.bin .add (.lit 1) (.bin .rem (.var 1) (.lit 100000)))) (.lit 12)) (.lit 5))) (.lit 0))), false), ((.app 11 (.cons (.lit 1) (.cons (.lit 2500) (.cons (.lit 6000) (.cons (.lit (-10000000)) (.cons (.lit (-24000000)) (.cons (.lit 0) (.cons (.lit 0) (.cons (.bin .sub (.bin .mul (.bin .add (.lit 1) (.bin .rem (.var 1) (.lit 100000))) (.lit 13)) (.lit 1)) (.cons (.bin .add (.bin .sub (.lit 0) (.bin .add (.bin .mul (.bin .sub (.lit 0) (.bin .add (.lit 1) (.bin .rem (.var 1) (.lit 100000)))) (.lit 12)) (.lit 5))) (.lit 0)) (.cons (.bin .add (.bin .sub (.lit 0) (.bin .add (.bin .mul (.bin .add (.lit 1) (.bin .rem (.var 1) (.lit 100000))) (.lit 5)) (.lit 12))) (.lit 0)) .nil))))))))))), false)]
set_option maxRecDepth 1000000 in
theorem ex12_chk : leavesOk isYes (vals (execF Try.prog ctHS 20 7 exA ⟨[], 0, ⟨ex12 ++ exB 1 2 2, [], 0⟩⟩)) = true := by kernel_rfl
theorem ex12_ok (w s t : Int) (hs : 0 ≤ s ∧ s < 4294967296) : ∀ p ∈ ex12, p.1.den IH (envOf [w, s, t] []) = p.2 := by
  obtain ⟨K, hK, h1, h2⟩ := exK s hs
  intro p hp
  simp only [ex12, List.mem_cons, List.not_mem_nil, or_false] at hp
  rcases hp with rfl | rfl | rfl
  · exact ex_yes (K := K) (c := 338084500) (h := 13) (by exf) (by exf) (by decide) (by exf) (by exf)
  · exact B.lt_f.2 (by exf)
  · exact ex_no (K := K) (c := 338084500) (h := 13) (by exf) (by exf) (by decide) (by omega) (by decide)
def ex13 : List (B × Bool) := [((.app 11 (.cons (.lit 1) (.cons (.lit (-6000)) (.cons (.lit 2500) (.cons (.lit 24000000) (.cons (.lit (-10000000)) (.cons (.lit 0) (.cons (.lit 0) (.cons (.bin .mul (.bin .add (.lit 1) (.bin .rem (.var 1) (.lit 100000))) (.lit 13)) (.cons (.bin .add (.bin .add (.bin .mul (.bin .add (.lit 1) (.bin .rem (.var 1) (.lit 100000))) (.lit 5)) (.lit 12)) (.lit 0)) (.cons (.bin .add (.bin .sub (.lit 0) (.bin .add (.bin .mul (.bin .sub (.lit 0) (.bin .add (.lit 1) (.bin .rem (.var 1) (.lit 100000)))) (.lit 12)) (.lit 5))) (.lit 0)) .nil))))))))))), true), ((.lt (.bin .add (.lit 2500) (.bin .mul (.bin .add (.lit 1) (.bin .rem (.var 1) (.lit 100000))) (.lit 13))) (.bin .add (.bin .sub (.lit 0) (.bin .add (.bin .mul (.bin .sub (.lit 0) (.bin .add (.lit 1) (.bin .rem (.var 1) (.lit 100000)))) (.lit 12)) (.lit 5))) (.lit 0))), false), ((.app 11 (.cons (.lit 1) (.cons (.lit (-6000)) (.cons (.lit 2500) (.cons (.lit 24000000) (.cons (.lit (-10000000)) (.cons (.lit 0) (.cons (.lit 0) (.cons (.bin .sub (.bin .mul (.bin .add (.lit 1) (.bin .rem (.var 1) (.lit 100000))) (.lit 13)) (.lit 1)) (.cons (.bin .add (.bin .add (.bin .mul (.bin .add (.lit 1) (.bin .rem (.var 1) (.lit 100000))) (.lit 5)) (.lit 12)) (.lit 0)) (.cons (.bin .add (.bin .sub (.lit 0) (.bin .add (.bin .mul (.bin .sub (.lit 0) (.bin .add (.lit 1) (.bin .rem (.var 1) (.lit 100000)))) (.lit 12)) (.lit 5))) (.lit 0)) .nil))))))))))), false)]
set_option maxRecDepth 1000000 in
theorem ex13_chk : leavesOk isYes (vals (execF Try.prog ctHS 20 7 exA ⟨[], 0, ⟨ex13 ++ exB 1 3 3, [], 0⟩⟩)) = true := by kernel_rfl
theorem ex13_ok (w s t : Int) (hs : 0 ≤ s ∧ s < 4294967296) : ∀ p ∈ ex13, p.1.den IH (envOf [w, s, t] []) = p.2 := by
  obtain ⟨K, hK, h1, h2⟩ := exK s hs
  intro p hp
  simp only [ex13, List.mem_cons, List.not_mem_nil, or_false] at hp
  rcases hp with rfl | rfl | rfl
  · exact ex_yes (K := K) (c := 338084500) (h := 13) (by exf) (by exf) (by decide) (by exf) (by exf)
  · exact B.lt_f.2 (by exf)
  · exact ex_no (K := K) (c := 338084500) (h := 13) (by exf) (by exf) (by decide) (by omega) (by decide)
def ex14 : List (B × Bool) := [((.app 11 (.cons (.lit 1) (.cons (.lit 2500) (.cons (.lit (-6000)) (.cons (.lit (-10000000)) (.cons (.lit 24000000) (.cons (.lit 0) (.cons (.lit 0) (.cons (.bin .mul (.bin .add (.lit 1) (.bin .rem (.var 1) (.lit 100000))) (.lit 13)) (.cons (.bin .add (.bin .sub (.lit 0) (.bin .add (.bin .mul (.bin .sub (.lit 0) (.bin .add (.lit 1) (.bin .rem (.var 1) (.lit 100000)))) (.lit 12)) (.lit 5))) (.lit 0)) (.cons (.bin .add (.bin .add (.bin .mul (.bin .add (.lit 1) (.bin .rem (.var 1) (.lit 100000))) (.lit 5)) (.lit 12)) (.lit 0)) .nil))))))))))), true), ((.lt (.bin .add (.lit 2500) (.bin .mul (.bin .add (.lit 1) (.bin .rem (.var 1) (.lit 100000))) (.lit 13))) (.bin .add (.bin .sub (.lit 0) (.bin .add (.bin .mul (.bin .sub (.lit 0) (.bin .add (.lit 1) (.bin .rem (.var 1) (.lit 100000)))) (.lit 12)) (.lit 5))) (.lit 0))), false), ((.app 11 (.cons (.lit 1) (.cons (.lit 2500) (.cons (.lit (-6000)) (.cons (.lit (-10000000)) (.cons (.lit 24000000) (.cons (.lit 0) (.cons (.lit 0) (.cons (.bin .sub (.bin .mul (.bin .add (.lit 1) (.bin .rem (.var 1) (.lit 100000))) (.lit 13)) (.lit 1)) (.cons (.bin .add (.bin .sub (.lit 0) (.bin .add (.bin .mul (.bin .sub (.lit 0) (.bin .add (.lit 1) (.bin .rem (.var 1) (.lit 100000)))) (.lit 12)) (.lit 5))) (.lit 0)) (.cons (.bin .add (.bin .add (.bin .mul (.bin .add (.lit 1) (.bin .rem (.var 1) (.lit 100000))) (.lit 5)) (.lit 12)) (.lit 0)) .nil))))))))))), false)]
set_option maxRecDepth 1000000 in
theorem ex14_chk : leavesOk isYes (vals (execF Try.prog ctHS 20 7 exA ⟨[], 0, ⟨ex14 ++ exB 1 0 4, [], 0⟩⟩)) = true := by kernel_rfl
theorem ex14_ok (w s t : Int) (hs : 0 ≤ s ∧ s < 4294967296) : ∀ p ∈ ex14, p.1.den IH (envOf [w, s, t] []) = p.2 := by
  obtain ⟨K, hK, h1, h2⟩ := exK s hs
  intro p hp
  simp only [ex14, List.mem_cons, List.not_mem_nil, or_false] at hp
  rcases hp with rfl | rfl | rfl
  · exact ex_yes (K := K) (c := -338084500) (h := 13) (by exf) (by exf) (by decide) (by exf) (by exf)
  · exact B.lt_f.2 (by exf)
  · exact ex_no (K := K) (c := -338084500) (h := 13) (by exf) (by exf) (by decide) (by omega) (by decide)
def ex15 : List (B × Bool) := [((.app 11 (.cons (.lit 1) (.cons (.lit 6000) (.cons (.lit 2500) (.cons (.lit (-24000000)) (.cons (.lit (-10000000)) (.cons (.lit 0) (.cons (.lit 0) (.cons (.bin .mul (.bin .add (.lit 1) (.bin .rem (.var 1) (.lit 100000))) (.lit 13)) (.cons (.bin .add (.bin .sub (.lit 0) (.bin .add (.bin .mul (.bin .add (.lit 1) (.bin .rem (.var 1) (.lit 100000))) (.lit 5)) (.lit 12))) (.lit 0)) (.cons (.bin .add (.bin .sub (.lit 0) (.bin .add (.bin .mul (.bin .sub (.lit 0) (.bin .add (.lit 1) (.bin .rem (.var 1) (.lit 100000)))) (.lit 12)) (.lit 5))) (.lit 0)) .nil))))))))))), true), ((.lt (.bin .add (.lit 2500) (.bin .mul (.bin .add (.lit 1) (.bin .rem (.var 1) (.lit 100000))) (.lit 13))) (.bin .add (.bin .sub (.lit 0) (.bin .add (.bin .mul (.bin .sub (.lit 0) (.bin .add (.lit 1) (.bin .rem (.var 1) (.lit 100000)))) (.lit 12)) (.lit 5))) (.lit 0))), false), ((.app 11 (.cons (.lit 1) (.cons (.lit 6000) (.cons (.lit 2500) (.cons (.lit (-24000000)) (.cons (.lit (-10000000)) (.cons (.lit 0) (.cons (.lit 0) (.cons (.bin .sub (.bin .mul (.bin .add (.lit 1) (.bin .rem (.var 1) (.lit 100000))) (.lit 13)) (.lit 1)) (.cons (.bin .add (.bin .sub (.lit 0) (.bin .add (.bin .mul (.bin .add (.lit 1) (.bin .rem (.var 1) (.lit 100000))) (.lit 5)) (.lit 12))) (.lit 0)) (.cons (.bin .add (.bin .sub (.lit 0) (.bin .add (.bin .mul (.bin .sub (.lit 0) (.bin .add (.lit 1) (.bin .rem (.var 1) (.lit 100000)))) (.lit 12)) (.lit 5))) (.lit 0)) .nil))))))))))), false)]
set_option maxRecDepth 1000000 in
theorem ex15_chk : leavesOk isYes (vals (execF Try.prog ctHS 20 7 exA ⟨[], 0, ⟨ex15 ++ exB 1 1 5, [], 0⟩⟩)) = true := by kernel_rfl
theorem ex15_ok (w s t : Int) (hs : 0 ≤ s ∧ s < 4294967296) : ∀ p ∈ ex15, p.1.den IH (envOf [w, s, t] []) = p.2 := by
  obtain ⟨K, hK, h1, h2⟩ := exK s hs
  intro p hp
  simp only [ex15, List.mem_cons, List.not_mem_nil, or_false] at hp
  rcases hp with rfl | rfl | rfl
  · exact ex_yes (K := K) (c := -338084500) (h := 13) (by exf) (by exf) (by decide) (by exf) (by exf)
  · exact B.lt_f.2 (by exf)
  · exact ex_no (K := K) (c := -338084500) (h := 13) (by exf) (by exf) (by decide) (by omega) (by decide)
def ex16 : List (B × Bool) := [((.app 11 (.cons (.lit 1) (.cons (.lit (-2500)) (.cons (.lit 6000) (.cons (.lit 10000000) (.cons (.lit (-24000000)) (.cons (.lit 0) (.cons (.lit 0) (.cons (.bin .mul (.bin .add (.lit 1) (.bin .rem (.var 1) (.lit 100000))) (.lit 13)) (.cons (.bin .add (.bin .sub (.lit 0) (.bin .sub (.lit 0) (.bin .add (.bin .mul (.bin .sub (.lit 0) (.bin .add (.lit 1) (.bin .rem (.var 1) (.lit 100000)))) (.lit 12)) (.lit 5)))) (.lit 0)) (.cons (.bin .add (.bin .sub (.lit 0) (.bin .add (.bin .mul (.bin .add (.lit 1) (.bin .rem (.var 1) (.lit 100000))) (.lit 5)) (.lit 12))) (.lit 0)) .nil))))))))))), true), ((.lt (.bin .add (.bin .sub (.lit 0) (.bin .sub (.lit 0) (.bin .add (.bin .mul (.bin .sub (.lit 0) (.bin .add (.lit 1) (.bin .rem (.var 1) (.lit 100000)))) (.lit 12)) (.lit 5)))) (.lit 0)) (.bin .sub (.lit (-2500)) (.bin .mul (.bin .add (.lit 1) (.bin .rem (.var 1) (.lit 100000))) (.lit 13)))), false), ((.app 11 (.cons (.lit 1) (.cons (.lit (-2500)) (.cons (.lit 6000) (.cons (.lit 10000000) (.cons (.lit (-24000000)) (.cons (.lit 0) (.cons (.lit 0) (.cons (.bin .sub (.bin .mul (.bin .add (.lit 1) (.bin .rem (.var 1) (.lit 100000))) (.lit 13)) (.lit 1)) (.cons (.bin .add (.bin .sub (.lit 0) (.bin .sub (.lit 0) (.bin .add (.bin .mul (.bin .sub (.lit 0) (.bin .add (.lit 1) (.bin .rem (.var 1) (.lit 100000)))) (.lit 12)) (.lit 5)))) (.lit 0)) (.cons (.bin .add (.bin .sub (.lit 0) (.bin .add (.bin .mul (.bin .add (.lit 1) (.bin .rem (.var 1) (.lit 100000))) (.lit 5)) (.lit 12))) (.lit 0)) .nil))))))))))), false)]
set_option maxRecDepth 1000000 in
theorem ex16_chk : leavesOk isYes (vals (execF Try.prog ctHS 20 7 exA ⟨[], 0, ⟨ex16 ++ exB 1 2 6, [], 0⟩⟩)) = true := by kernel_rfl
theorem ex16_ok (w s t : Int) (hs : 0 ≤ s ∧ s < 4294967296) : ∀ p ∈ ex16, p.1.den IH (envOf [w, s, t] []) = p.2 := by
  obtain ⟨K, hK, h1, h2⟩ := exK s hs
  intro p hp
  simp only [ex16, List.mem_cons, List.not_mem_nil, or_false] at hp
  rcases hp with rfl | rfl | rfl
  · exact ex_yes (K := K) (c := -338084500) (h := 13) (by exf) (by exf) (by decide) (by exf) (by exf)
  · exact B.lt_f.2 (by exf)
  · exact ex_no (K := K) (c := -338084500) (h := 13) (by exf) (by exf) (by decide) (by omega) (by decide)
def ex17 : List (B × Bool) := [((.app 11 (.cons (.lit 1) (.cons (.lit (-6000)) (.cons (.lit (-2500)) (.cons (.lit 24000000) (.cons (.lit 10000000) (.cons (.lit 0) (.cons (.lit 0) (.cons (.bin .mul (.bin .add (.lit 1) (.bin .rem (.var 1) (.lit 100000))) (.lit 13)) (.cons (.bin .add (.bin .add (.bin .mul (.bin .add (.lit 1) (.bin .rem (.var 1) (.lit 100000))) (.lit 5)) (.lit 12)) (.lit 0)) (.cons (.bin .add (.bin .sub (.lit 0) (.bin .sub (.lit 0) (.bin .add (.bin .mul (.bin .sub (.lit 0) (.bin .add (.lit 1) (.bin .rem (.var 1) (.lit 100000)))) (.lit 12)) (.lit 5)))) (.lit 0)) .nil))))))))))), true), ((.lt (.bin .add (.bin .sub (.lit 0) (.bin .sub (.lit 0) (.bin .add (.bin .mul (.bin .sub (.lit 0) (.bin .add (.lit 1) (.bin .rem (.var 1) (.lit 100000)))) (.lit 12)) (.lit 5)))) (.lit 0)) (.bin .sub (.lit (-2500)) (.bin .mul (.bin .add (.lit 1) (.bin .rem (.var 1) (.lit 100000))) (.lit 13)))), false), ((.app 11 (.cons (.lit 1) (.cons (.lit (-6000)) (.cons (.lit (-2500)) (.cons (.lit 24000000) (.cons (.lit 10000000) (.cons (.lit 0) (.cons (.lit 0) (.cons (.bin .sub (.bin .mul (.bin .add (.lit 1) (.bin .rem (.var 1) (.lit 100000))) (.lit 13)) (.lit 1)) (.cons (.bin .add (.bin .add (.bin .mul (.bin .add (.lit 1) (.bin .rem (.var 1) (.lit 100000))) (.lit 5)) (.lit 12)) (.lit 0)) (.cons (.bin .add (.bin .sub (.lit 0) (.bin .sub (.lit 0) (.bin .add (.bin .mul (.bin .sub (.lit 0) (.bin .add (.lit 1) (.bin .rem (.var 1) (.lit 100000)))) (.lit 12)) (.lit 5)))) (.lit 0)) .nil))))))))))), false)]
set_option maxRecDepth 1000000 in
theorem ex17_chk : leavesOk isYes (vals (execF Try.prog ctHS 20 7 exA ⟨[], 0, ⟨ex17 ++ exB 1 3 7, [], 0⟩⟩)) = true := by kernel_rfl
theorem ex17_ok (w s t : Int) (hs : 0 ≤ s ∧ s < 4294967296) : ∀ p ∈ ex17, p.1.den IH (envOf [w, s, t] []) = p.2 := by
  obtain ⟨K, hK, h1, h2⟩ := exK s hs
  intro p hp
  simp only [ex17, List.mem_cons, List.not_mem_nil, or_false] at hp
  rcases hp with rfl | rfl | rfl
  · exact ex_yes (K := K) (c := -338084500) (h := 13) (by exf) (by exf) (by decide) (by exf) (by exf)
  · exact B.lt_f.2 (by exf)
  · exact ex_no (K := K) (c := -338084500) (h := 13) (by exf) (by exf) (by decide) (by omega) (by decide)
end Go.Proofs.Ythkkipkhofkpmaa.Sx

