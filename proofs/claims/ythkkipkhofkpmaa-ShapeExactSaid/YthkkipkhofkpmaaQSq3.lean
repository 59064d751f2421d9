import Derived.Test.YthkkipkhofkpmaaQSq
set_option linter.all false
set_option autoImplicit false
namespace Go.Proofs.Ythkkipkhofkpmaa.Sx
open Go Go.RowKit
def ex30 : List (B × Bool) := [((.app 11 (.cons (.lit 1) (.cons (.lit (-3500)) (.cons (.lit (-12000)) (.cons (.lit 14000000) (.cons (.lit 48000000) (.cons (.lit 0) (.cons (.lit 0) (.cons (.bin .mul (.bin .add (.lit 1) (.bin .rem (.var 1) (.lit 100000))) (.lit 25)) (.cons (.bin .add (.bin .add (.bin .mul (.bin .sub (.lit 0) (.bin .add (.lit 1) (.bin .rem (.var 1) (.lit 100000)))) (.lit 24)) (.lit 7)) (.lit 0)) (.cons (.bin .add (.bin .add (.bin .mul (.bin .add (.lit 1) (.bin .rem (.var 1) (.lit 100000))) (.lit 7)) (.lit 24)) (.lit 0)) .nil))))))))))), true), ((.lt (.bin .add (.bin .add (.bin .mul (.bin .sub (.lit 0) (.bin .add (.lit 1) (.bin .rem (.var 1) (.lit 100000)))) (.lit 24)) (.lit 7)) (.lit 0)) (.bin .sub (.lit (-3500)) (.bin .mul (.bin .add (.lit 1) (.bin .rem (.var 1) (.lit 100000))) (.lit 25)))), false), ((.app 11 (.cons (.lit 1) (.cons (.lit (-3500)) (.cons (.lit (-12000)) (.cons (.lit 14000000) (.cons (.lit 48000000) (.cons (.lit 0) (.cons (.lit 0) (.cons (.bin .sub (.bin .mul (.bin .add (.lit 1) (.bin .rem (.var 1) (.lit 100000))) (.lit 25)) (.lit 1)) (.cons (.bin .add (.bin .add (.bin .mul (.bin .sub (.lit 0) (.bin .add (.lit 1) (.bin .rem (.var 1) (.lit 100000)))) (.lit 24)) (.lit 7)) (.lit 0)) (.cons (.bin .add (.bin .add (.bin .mul (.bin .add (.lit 1) (.bin .rem (.var 1) (.lit 100000))) (.lit 7)) (.lit 24)) (.lit 0)) .nil))))))))))), false)]
set_option maxRecDepth 1000000 in
theorem ex30_chk : leavesOk isYes (vals (execF Try.prog ctHS 20 7 exA ⟨[], 0, ⟨ex30 ++ exB 3 0 0, [], 0⟩⟩)) = true := by kernel_rfl
theorem ex30_ok (w s t : Int) (hs : 0 ≤ s ∧ s < 4294967296) : ∀ p ∈ ex30, p.1.den IH (envOf [w, s, t] []) = p.2 := by
  obtain ⟨K, hK, h1, h2⟩ := exK s hs
  intro p hp
  simp only [ex30, List.mem_cons, List.not_mem_nil, or_false] at hp
  rcases hp with rfl | rfl | rfl
  · exact ex_yes (K := K) (c := 1250312500) (h := 25) (by exf) (by exf) (by decide) (by exf) (by exf)
  · exact B.lt_f.2 (by exf)
  · exact ex_no (K := K) (c := 1250312500) (h := 25) (by exf) (by exf) (by decide) (by omega) (by decide)
def ex31 : List (B × Bool) := [((.app 11 (.cons (.lit 1) (.cons (.lit 12000) (.cons (.lit (-3500)) (.cons (.lit (-48000000)) (.cons (.lit 14000000) (.cons (.lit 0) (.cons (.lit 0) (.cons (.bin .mul (.bin .add (.lit 1) (.bin .rem (.var 1) (.lit 100000))) (.lit 25)) (.cons (.bin .add (.bin .sub (.lit 0) (.bin .add (.bin .mul (.bin .add (.lit 1) (.bin .rem (.var 1) (.lit 100000))) (.lit 7)) (.lit 24))) (.lit 0)) (.cons (.bin .add (.bin .add (.bin .mul (.bin .sub (.lit 0) (.bin .add (.lit 1) (.bin .rem (.var 1) (.lit 100000)))) (.lit 24)) (.lit 7)) (.lit 0)) .nil))))))))))), true), ((.lt (.bin .add (.bin .add (.bin .mul (.bin .sub (.lit 0) (.bin .add (.lit 1) (.bin .rem (.var 1) (.lit 100000)))) (.lit 24)) (.lit 7)) (.lit 0)) (.bin .sub (.lit (-3500)) (.bin .mul (.bin .add (.lit 1) (.bin .rem (.var 1) (.lit 100000))) (.lit 25)))), false), ((.app 11 (.cons (.lit 1) (.cons (.lit 12000) (.cons (.lit (-3500)) (.cons (.lit (-48000000)) (.cons (.lit 14000000) (.cons (.lit 0) (.cons (.lit 0) (.cons (.bin .sub (.bin .mul (.bin .add (.lit 1) (.bin .rem (.var 1) (.lit 100000))) (.lit 25)) (.lit 1)) (.cons (.bin .add (.bin .sub (.lit 0) (.bin .add (.bin .mul (.bin .add (.lit 1) (.bin .rem (.var 1) (.lit 100000))) (.lit 7)) (.lit 24))) (.lit 0)) (.cons (.bin .add (.bin .add (.bin .mul (.bin .sub (.lit 0) (.bin .add (.lit 1) (.bin .rem (.var 1) (.lit 100000)))) (.lit 24)) (.lit 7)) (.lit 0)) .nil))))))))))), false)]
set_option maxRecDepth 1000000 in
theorem ex31_chk : leavesOk isYes (vals (execF Try.prog ctHS 20 7 exA ⟨[], 0, ⟨ex31 ++ exB 3 1 1, [], 0⟩⟩)) = true := by kernel_rfl
theorem ex31_ok (w s t : Int) (hs : 0 ≤ s ∧ s < 4294967296) : ∀ p ∈ ex31, p.1.den IH (envOf [w, s, t] []) = p.2 := by
  obtain ⟨K, hK, h1, h2⟩ := exK s hs
  intro p hp
  simp only [ex31, List.mem_cons, List.not_mem_nil, or_false] at hp
  rcases hp with rfl | rfl | rfl
  · exact ex_yes (K := K) (c := 1250312500) (h := 25) (by exf) (by exf) (by decide) (by exf) (by exf)
  · exact B.lt_f.2 (by exf)
  · exact ex_no (K := K) (c := 1250312500) (h := 25) (by exf) (by exf) (by decide) (by omega) (by decide)
def ex32 : List (B × Bool) := [((.app 11 (.cons (.lit 1) (.cons (.lit 3500) (.cons (.lit 12000) (.cons (.lit (-14000000)) (.cons (.lit (-48000000)) (.cons (.lit 0) (.cons (.lit 0) (.cons (.bin .mul (.bin .add (.lit 1) (.bin .rem (.var 1) (.lit 100000))) (.lit 25)) (.cons (.bin .add (.bin .sub (.lit 0) (.bin .add (.bin .mul (.bin .sub (.lit 0) (.bin .add (.lit 1) (.bin .rem (.var 1) (.lit 100000)))) (.lit 24)) (.lit 7))) (.lit 0)) (.cons (.bin .add (.bin .sub (.lit 0) (.bin .add (.bin .mul (.bin .add (.lit 1) (.bin .rem (.var 1) (.lit 100000))) (.lit 7)) (.lit 24))) (.lit 0)) .nil))))))))))), true), ((.lt (.bin .add (.lit 3500) (.bin .mul (.bin .add (.lit 1) (.bin .rem (.var 1) (.lit 100000))) (.lit 25))) (.bin .add (.bin .sub (.lit 0) (.bin .add (.bin .mul (.bin .sub (.lit 0) (.bin .add (.lit 1) (.bin .rem (.var 1) (.lit 100000)))) (.lit 24)) (.lit 7))) (.lit 0))), false), ((.app 11 (.cons (.lit 1) (.cons (.lit 3500) (.cons (.lit 12000) (.cons (.lit (-14000000)) (.cons (.lit (-48000000)) (.cons (.lit 0) (.cons (.lit 0) (.cons (.bin .sub (.bin .mul (.bin .add (.lit 1) (.bin .rem (.var 1) (.lit 100000))) (.lit 25)) (.lit 1)) (.cons (.bin .add (.bin .sub (.lit 0) (.bin .add (.bin .mul (.bin .sub (.lit 0) (.bin .add (.lit 1) (.bin .rem (.var 1) (.lit 100000)))) (.lit 24)) (.lit 7))) (.lit 0)) (.cons (.bin .add (.bin .sub (.lit 0) (.bin .add (.bin .mul (.bin .add (.lit 1) (.bin .rem (.var 1) (.lit 100000))) (.lit 7)) (.lit 24))) (.lit 0)) .nil))))))))))), false)]
set_option maxRecDepth 1000000 in
theorem ex32_chk : leavesOk isYes (vals (execF Try.prog ctHS 20 7 exA ⟨[], 0, ⟨ex32 ++ exB 3 2 2, [], 0⟩⟩)) = true := by kernel_rfl
theorem ex32_ok (w s t : Int) (hs : 0 ≤ s ∧ s < 4294967296) : ∀ p ∈ ex32, p.1.den IH (envOf [w, s, t] []) = p.2 := by
  obtain ⟨K, hK, h1, h2⟩ := exK s hs
  intro p hp
  simp only [ex32, List.mem_cons, List.not_mem_nil, or_false] at hp
  rcases hp with rfl | rfl | rfl
  · exact ex_yes (K := K) (c := 1250312500) (h := 25) (by exf) (by exf) (by decide) (by exf) (by exf)
  · exact B.lt_f.2 (by exf)
  · exact ex_no (K := K) (c := 1250312500) (h := 25) (by exf) (by exf) (by decide) (by omega) (by decide)
def ex33 : List (B × Bool) := [((.app 11 (.cons (.lit 1) (.cons (.lit (-12000)) (.cons (.lit 3500) (.cons (.lit 48000000) (.cons (.lit (-14000000)) (.cons (.lit 0) (.cons (.lit 0) (.cons (.bin .mul (.bin .add (.lit 1) (.bin .rem (.var 1) (.lit 100000))) (.lit 25)) (.cons (.bin .add (.bin .add (.bin .mul (.bin .add (.lit 1) (.bin .rem (.var 1) (.lit 100000))) (.lit 7)) (.lit 24)) (.lit 0)) (.cons (.bin .add (.bin .sub (.lit 0) (.bin .add (.bin .mul (.bin .sub (.lit 0) (.bin .add (.lit 1) (.bin .rem (.var 1) (.lit 100000)))) (.lit 24)) (.lit 7))) (.lit 0)) .nil))))))))))), true), ((.lt (.bin .add (.lit 3500) (.bin .mul (.bin .add (.lit 1) (.bin .rem (.var 1) (.lit 100000))) (.lit 25))) (.bin .add (.bin .sub (.lit 0) (.bin .add (.bin .mul (.bin .sub (.lit 0) (.bin .add (.lit 1) (.bin .rem (.var 1) (.lit 100000)))) (.lit 24)) (.lit 7))) (.lit 0))), false), ((.app 11 (.cons (.lit 1) (.cons (.lit (-12000)) (.cons (.lit 3500) (.cons (.lit 48000000) (.cons (.lit (-14000000)) (.cons (.lit 0) (.cons (.lit 0) (.cons (.bin .sub (.bin .mul (.bin .add (.lit 1) (.bin .rem (.var 1) (.lit 100000))) (.lit 25)) (.lit 1)) (.cons (.bin .add (.bin .add (.bin .mul (.bin .add (.lit 1) (.bin .rem (.var 1) (.lit 100000))) (.lit 7)) (.lit 24)) (.lit 0)) (.cons (.bin .add (.bin .sub (.lit 0) (.bin .add (.bin .mul (.bin .sub (.lit 0) (.bin .add (.lit 1) (.bin .rem (.var 1) (.lit 100000)))) (.lit 24)) (.lit 7))) (.lit 0)) .nil))))))))))), false)]
set_option maxRecDepth 1000000 in
theorem ex33_chk : leavesOk isYes (vals (execF Try.prog ctHS 20 7 exA ⟨[], 0, ⟨ex33 ++ exB 3 3 3, [], 0⟩⟩)) = true := by kernel_rfl
theorem ex33_ok (w s t : Int) (hs : 0 ≤ s ∧ s < 4294967296) : ∀ p ∈ ex33, p.1.den IH (envOf [w, s, t] []) = p.2 := by
  obtain ⟨K, hK, h1, h2⟩ := exK s hs
  intro p hp
  simp only [ex33, List.mem_cons, List.not_mem_nil, or_false] at hp
  rcases hp with rfl | rfl | rfl
  · exact ex_yes (K := K) (c := 1250312500) (h := 25) (by exf) (by exf) (by decide) (by exf) (by exf)
  · exact B.lt_f.2 (by exf)
  · exact ex_no (K := K) (c := 1250312500) (h := 25) (by exf) (by exf) (by decide) (by omega) (by decide)
def ex34 : List (B × Bool) := [((.app 11 (.cons (.lit 1) (.cons (.lit 3500) (.cons (.lit (-12000)) (.cons (.lit (-14000000)) (.cons (.lit 48000000) (.cons (.lit 0) (.cons (.lit 0) (.cons (.bin .mul (.bin .add (.lit 1) (.bin .rem (.var 1) (.lit 100000))) (.lit 25)) (.cons (.bin .add (.bin .sub (.lit 0) (.bin .add (.bin .mul (.bin .sub (.lit 0) (.bin .add (.lit 1) (.bin .rem (.var 1) (.lit 100000)))) (.lit 24)) (.lit 7))) (.lit 0)) (.cons (.bin .add (.bin .add (.bin .mul (.bin .add (.lit 1) (.bin .rem (.var 1) (.lit 100000))) (.lit 7)) (.lit 24)) (.lit 0)) .nil))))))))))), true), ((.lt (.bin .add (.lit 3500) (.bin .mul (.bin .add (.lit 1) (.bin .rem (.var 1) (.lit 100000))) (.lit 25))) (.bin .add (.bin .sub (.lit 0) (.bin .add (.bin .mul (.bin .sub (.lit 0) (.bin .add (.lit 1) (.bin .rem (.var 1) (.lit 100000)))) (.lit 24)) (.lit 7))) (.lit 0))), false), ((.app 11 (.cons (.lit 1) (.cons (.lit 3500) (.cons (.lit (-12000)) (.cons (.lit (-14000000)) (.cons (.lit 48000000) (.cons (.lit 0) (.cons (.lit 0) (.cons (.bin .sub (.bin .mul (.bin .add (.lit 1) (.bin .rem (.var 1) (.lit 100000))) (.lit 25)) (.lit 1)) (.cons (.bin .add (.bin .sub (.lit 0) (.bin .add (.bin .mul (.bin .sub (.lit 0) (.bin .add (.lit 1) (.bin .rem (.var 1) (.lit 100000)))) (.lit 24)) (.lit 7))) (.lit 0)) (.cons (.bin .add (.bin .add (.bin .mul (.bin .add (.lit 1) (.bin .rem (.var 1) (.lit 100000))) (.lit 7)) (.lit 24)) (.lit 0)) .nil))))))))))), false)]
set_option maxRecDepth 1000000 in
theorem ex34_chk : leavesOk isYes (vals (execF Try.prog ctHS 20 7 exA ⟨[], 0, ⟨ex34 ++ exB 3 0 4, [], 0⟩⟩)) = true := by kernel_rfl
theorem ex34_ok (w s t : Int) (hs : 0 ≤ s ∧ s < 4294967296) : ∀ p ∈ ex34, p.1.den IH (envOf [w, s, t] []) = p.2 := by
  obtain ⟨K, hK, h1, h2⟩ := exK s hs
  intro p hp
  simp only [ex34, List.mem_cons, List.not_mem_nil, or_false] at hp
  rcases hp with rfl | rfl | rfl
  · exact ex_yes (K := K) (c := -1250312500) (h := 25) (by exf) (by exf) (by decide) (by exf) (by exf)
  · exact B.lt_f.2 (by exf)
  · exact ex_no (K := K) (c := -1250312500) (h := 25) (by exf) (by exf) (by decide) (by omega) (by decide)
def ex35 : List (B × Bool) := [((.app 11 (.cons (.lit 1) (.cons (.lit 12000) (.cons (.lit 3500) (.cons (.lit (-48000000)) (.cons (.lit (-14000000)) (.cons (.lit 0) (.cons (.lit 0) (.cons (.bin .mul (.bin .add (.lit 1) (.bin .rem (.var 1) (.lit 100000))) (.lit 25)) (.cons (.bin .add (.bin .sub (.lit 0) (.bin .add (.bin .mul (.bin .add (.lit 1) (.bin .rem (.var 1) (.lit 100000))) (.lit 7)) (.lit 24))) (.lit 0)) (.cons (.bin .add (.bin .sub (.lit 0) (.bin .add (.bin .mul (.bin .sub (.lit 0) (.bin .add (.lit 1) (.bin .rem (.var 1) (.lit 100000)))) (.lit 24)) (.lit 7))) (.lit 0)) .nil))))))))))), true), ((.lt (.bin .add (.lit 3500) (.bin .mul (.bin .add (.lit 1) (.bin .rem (.var 1) (.lit 100000))) (.lit 25))) (.bin .add (.bin .sub (.lit 0) (.bin .add (.bin .mul (.bin .sub (.lit 0) (.bin .add (.lit 1) (.bin .rem (.var 1) (.lit 100000)))) (.lit 24)) (.lit 7))) (.lit 0))), false), ((.app 11 (.cons (.lit 1) (.cons (.lit 12000) (.cons (.lit 3500) (.cons (.lit (-48000000)) (.cons (.lit (-14000000)) (.cons (.lit 0) (.cons (.lit 0) (.cons (.bin .sub (.bin .mul (.bin .add (.lit 1) (.bin .rem (.var 1) (.lit 100000))) (.lit 25)) (.lit 1)) (.cons (.bin .add (.bin .sub (.lit 0) (.bin .add (.bin .mul (.bin .add (.lit 1) (.bin .rem (.var 1) (.lit 100000))) (.lit 7)) (.lit 24))) (.lit 0)) (.cons (.bin .add (.bin .sub (.lit 0) (.bin .add (.bin .mul (.bin .sub (.lit 0) (.bin .add (.lit 1) (.bin .rem (.var 1) (.lit 100000)))) (.lit 24)) (.lit 7))) (.lit 0)) .nil))))))))))), false)]
set_option maxRecDepth 1000000 in
theorem ex35_chk : leavesOk isYes (vals (execF Try.prog ctHS 20 7 exA ⟨[], 0, ⟨ex35 ++ exB 3 1 5, [], 0⟩⟩)) = true := by kernel_rfl
theorem ex35_ok (w s t : Int) (hs : 0 ≤ s ∧ s < 4294967296) : ∀ p ∈ ex35, p.1.den IH (envOf [w, s, t] []) = p.2 := by
  obtain ⟨K, hK, h1, h2⟩ := exK s hs
  intro p hp
  simp only [ex35, List.mem_cons, List.not_mem_nil, or_false] at hp
  rcases hp with rfl | rfl | rfl
  · exact ex_yes (K := K) (c := -1250312500) (h := 25) (by exf) (by exf) (by decide) (by exf) (by exf)
  · exact B.lt_f.2 (by exf)
  · exact ex_no (K := K) (c := -1250312500) (h := 25) (by exf) (by exf) (by decide) (by omega) (by decide)
def ex36 : List (B × Bool) := [((.app 11 (.cons (.lit 1) (.cons (.lit (-3500)) (.cons (.lit 12000) (.cons (.lit 14000000) (.cons (.lit (-48000000)) (.cons (.lit 0) (.cons (.lit 0) (.cons (.bin .mul (.bin .add (.lit 1) (.bin .rem (.var 1) (.lit 100000))) (.lit 25)) (.cons (.bin .add (.bin .sub (.lit 0) (.bin .sub (.lit 0) (.bin .add (.bin .mul (.bin .sub (.lit 0) (.bin .add (.lit 1) (.bin .rem (.var 1) (.lit 100000)))) (.lit 24)) (.lit 7)))) (.lit 0)) (.cons (.bin .add (.bin .sub (.lit 0) (.bin .add (.bin .mul (.bin .add (.lit 1) (.bin .rem (.var 1) (.lit 100000))) (.lit 7)) (.lit 24))) (.lit 0)) .nil))))))))))), true), ((.lt (.bin .add (.bin .sub (.lit 0) (.bin .sub (.lit 0) (.bin .add (.bin .mul (.bin .sub (.lit 0) (.bin .add (.lit 1) (.bin .rem (.var 1) (.lit 100000)))) (.lit 24)) (.lit 7)))) (.lit 0)) (.bin .sub (.lit (-3500)) (.bin .mul (.bin .add (.lit 1) (.bin .rem (.var 1) (.lit 100000))) (.lit 25)))), false), ((.app 11 (.cons (.lit 1) (.cons (.lit (-3500)) (.cons (.lit 12000) (.cons (.lit 14000000) (.cons (.lit (-48000000)) (.cons (.lit 0) (.cons (.lit 0) (.cons (.bin .sub (.bin .mul (.bin .add (.lit 1) (.bin .rem (.var 1) (.lit 100000))) (.lit 25)) (.lit 1)) (.cons (.bin .add (.bin .sub (.lit 0) (.bin .sub (.lit 0) (.bin .add (.bin .mul (.bin .sub (.lit 0) (.bin .add (.lit 1) (.bin .rem (.var 1) (.lit 100000)))) (.lit 24)) (.lit 7)))) (.lit 0)) (.cons (.bin .add (.bin .sub (.lit 0) (.bin .add (.bin .mul (.bin .add (.lit 1) (.bin .rem (.var 1) (.lit 100000))) (.lit 7)) (.lit 24))) (.lit 0)) .nil))))))))))), false)]
set_option maxRecDepth 1000000 in
theorem ex36_chk : leavesOk isYes (vals (execF Try.prog ctHS 20 7 exA ⟨[], 0, ⟨ex36 ++ exB 3 2 6, [], 0⟩⟩)) = true := by kernel_rfl
theorem ex36_ok (w s t : Int) (hs : 0 ≤ s ∧ s < 4294967296) : ∀ p ∈ ex36, p.1.den IH (envOf [w, s, t] []) = p.2 := by
  obtain ⟨K, hK, h1, h2⟩ := exK s hs
  intro p hp
  simp only [ex36, List.mem_cons, List.not_mem_nil, or_false] at hp
  rcases hp with rfl | rfl | rfl
  · exact ex_yes (K := K) (c := -1250312500) (h := 25) (by exf) (by exf) (by decide) (by exf) (by exf)
  · exact B.lt_f.2 (by exf)
  · exact ex_no (K := K) (c := -1250312500) (h := 25) (by exf) (by exf) (by decide) (by omega) (by decide)
def ex37 : List (B × Bool) := [((.app 11 (.cons (.lit 1) (.cons (.lit (-12000)) (.cons (.lit (-3500)) (.cons (.lit 48000000) (.cons (.lit 14000000) (.cons (.lit 0) (.cons (.lit 0) (.cons (.bin .mul (.bin .add (.lit 1) (.bin .rem (.var 1) (.lit 100000))) (.lit 25)) (.cons (.bin .add (.bin .add (.bin .mul (.bin .add (.lit 1) (.bin .rem (.var 1) (.lit 100000))) (.lit 7)) (.lit 24)) (.lit 0)) (.cons (.bin .add (.bin .sub (.lit 0) (.bin .sub (.lit 0) (.bin .add (.bin .mul (.bin .sub (.lit 0) (.bin .add (.lit 1) (.bin .rem (.var 1) (.lit 100000)))) (.lit 24)) (.lit 7)))) (.lit 0)) .nil))))))))))), true), ((.lt (.bin .add (.bin .sub (.lit 0) (.bin .sub (.lit 0) (.bin .add (.bin .mul (.bin .sub (.lit 0) (.bin .add (.lit 1) (.bin .rem (.var 1) (.lit 100000)))) (.lit 24)) (.lit 7)))) (.lit 0)) (.bin .sub (.lit (-3500)) (.bin .mul (.bin .add (.lit 1) (.bin .rem (.var 1) (.lit 100000))) (.lit 25)))), false), ((.app 11 (.cons (.lit 1) (.cons (.lit (-12000)) (.cons (.lit (-3500)) (.cons (.lit 48000000) (.cons (.lit 14000000) (.cons (.lit 0) (.cons (.lit 0) (.cons (.bin .sub (.bin .mul (.bin .add (.lit 1) (.bin .rem (.var 1) (.lit 100000))) (.lit 25)) (.lit 1)) (.cons (.bin .add (.bin .add (.bin .mul (.bin .add (.lit 1) (.bin .rem (.var 1) (.lit 100000))) (.lit 7)) (.lit 24)) (.lit 0)) (.cons (.bin .add (.bin .sub (.lit 0) (.bin .sub (.lit 0) (.bin .add (.bin .mul (.bin .sub (.lit 0) (.bin .add (.lit 1) (.bin .rem (.var 1) (.lit 100000)))) (.lit 24)) (.lit 7)))) (.lit 0)) .nil))))))))))), false)]
set_option maxRecDepth 1000000 in
theorem ex37_chk : leavesOk isYes (vals (execF Try.prog ctHS 20 7 exA ⟨[], 0, ⟨ex37 ++ exB 3 3 7, [], 0⟩⟩)) = true := by kernel_rfl
theorem ex37_ok (w s t : Int) (hs : 0 ≤ s ∧ s < 4294967296) : ∀ p ∈ ex37, p.1.den IH (envOf [w, s, t] []) = p.2 := by
  obtain ⟨K, hK, h1, h2⟩ := exK s hs
  intro p hp
  simp only [ex37, List.mem_cons, List.not_mem_nil, or_false] at hp
  rcases hp with rfl | rfl | rfl
  · exact ex_yes (K := K) (c := -1250312500) (h := 25) (by exf) (by exf) (by decide) (by exf) (by exf)
  · exact B.lt_f.2 (by exf)
  · exact ex_no (K := K) (c := -1250312500) (h := 25) (by exf) (by exf) (by decide) (by omega) (by decide)
end Go.Proofs.Ythkkipkhofkpmaa.Sx

