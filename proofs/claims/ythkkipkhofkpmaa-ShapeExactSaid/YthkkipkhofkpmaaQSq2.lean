import Derived.Test.YthkkipkhofkpmaaQSq
set_option linter.all false
set_option autoImplicit false
namespace Go.Proofs.Ythkkipkhofkpmaa.Sx
open Go Go.RowKit
def ex20 : List (B × Bool) := [((.app 11 (.cons (.lit 1) (.cons (.lit (-4000)) (.cons (.lit (-7500)) (.cons (.lit 16000000) (.cons (.lit 30000000) (.cons (.lit 0) (.cons (.lit 0) (.cons (.bin .mul (.bin .add (.lit 1) (.bin .rem (.var 1) (.lit 100000))) (.lit 17)) (.cons (.bin .add (.bin .add (.bin .mul (.bin .sub (.lit 0) (.bin .add (.lit 1) (.bin .rem (.var 1) (.lit 100000)))) (.lit 15)) (.lit 8)) (.lit 0)) (.cons (.bin .add (.bin .add (.bin .mul (.bin .add (.lit 1) (.bin .rem (.var 1) (.lit 100000))) (.lit 8)) (.lit 15)) (.lit 0)) .nil))))))))))), true), ((.lt (.bin .add (.bin .add (.bin .mul (.bin .sub (.lit 0) (.bin .add (.lit 1) (.bin .rem (.var 1) (.lit 100000)))) (.lit 15)) (.lit 8)) (.lit 0)) (.bin .sub (.lit (-4000)) (.bin .mul (.bin .add (.lit 1) (.bin .rem (.var 1) (.lit 100000))) (.lit 17)))), false), ((.app 11 (.cons (.lit 1) (.cons (.lit (-4000)) (.cons (.lit (-7500)) (.cons (.lit 16000000) (.cons (.lit 30000000) (.cons (.lit 0) (.cons (.lit 0) (.cons (.bin .sub (.bin .mul (.bin .add (.lit 1) (.bin .rem (.var 1) (.lit 100000))) (.lit 17)) (.lit 1)) (.cons (.bin .add (.bin .add (.bin .mul (.bin .sub (.lit 0) (.bin .add (.lit 1) (.bin .rem (.var 1) (.lit 100000)))) (.lit 15)) (.lit 8)) (.lit 0)) (.cons (.bin .add (.bin .add (.bin .mul (.bin .add (.lit 1) (.bin .rem (.var 1) (.lit 100000))) (.lit 8)) (.lit 15)) (.lit 0)) .nil))))))))))), false)]
set_option maxRecDepth 1000000 in
theorem ex20_chk : leavesOk isYes (vals (execF Try.prog ctHS 20 7 exA ⟨[], 0, ⟨ex20 ++ exB 2 0 0, [], 0⟩⟩)) = true := by kernel_rfl
theorem ex20_ok (w s t : Int) (hs : 0 ≤ s ∧ s < 4294967296) : ∀ p ∈ ex20, p.1.den IH (envOf [w, s, t] []) = p.2 := by
  obtain ⟨K, hK, h1, h2⟩ := exK s hs
  intro p hp
  simp only [ex20, List.mem_cons, List.not_mem_nil, or_false] at hp
  rcases hp with rfl | rfl | rfl
  · exact ex_yes (K := K) (c := 578144500) (h := 17) (by exf) (by exf) (by decide) (by exf) (by exf)
  · exact B.lt_f.2 (by exf)
  · exact ex_no (K := K) (c := 578144500) (h := 17) (by exf) (by exf) (by decide) (by omega) (by decide)
def ex21 : List (B × Bool) := [((.app 11 (.cons (.lit 1) (.cons (.lit 7500) (.cons (.lit (-4000)) (.cons (.lit (-30000000)) (.cons (.lit 16000000) (.cons (.lit 0) (.cons (.lit 0) (.cons (.bin .mul (.bin .add (.lit 1) (.bin .rem (.var 1) (.lit 100000))) (.lit 17)) (.cons (.bin .add (.bin .sub (.lit 0) (.bin .add (.bin .mul (.bin .add (.lit 1) (.bin .rem (.var 1) (.lit 100000))) (.lit 8)) (.lit 15))) (.lit 0)) (.cons (.bin .add (.bin .add (.bin .mul (.bin .sub (.lit 0) (.bin .add (.lit 1) (.bin .rem (.var 1) (.lit 100000)))) (.lit 15)) (.lit 8)) (.lit 0)) .nil))))))))))), true), ((.lt (.bin .add (.bin .add (.bin .mul (.bin .sub (.lit 0) (.bin .add (.lit 1) (.bin .rem (.var 1) (.lit 100000)))) (.lit 15)) (.lit 8)) (.lit 0)) (.bin .sub (.lit (-4000)) (.bin .mul (.bin .add (.lit 1) (.bin .rem (.var 1) (.lit 100000))) (.lit 17)))), false), ((.app 11 (.cons (.lit 1) (.cons (.lit 7500) (.cons (.lit (-4000)) (.cons (.lit (-30000000)) (.cons (.lit 16000000) (.cons (.lit 0) (.cons (.lit 0) (.cons (.bin .sub (.bin .mul (.bin .add (.lit 1) (.bin .rem (.var 1) (.lit 100000))) (.lit 17)) (.lit 1)) (.cons (.bin .add (.bin .sub (.lit 0) (.bin .add (.bin .mul (.bin .add (.lit 1) (.bin .rem (.var 1) (.lit 100000))) (.lit 8)) (.lit 15))) (.lit 0)) (.cons (.bin .add (.bin .add (.bin .mul (.bin .sub (.lit 0) (.bin .add (.lit 1) (.bin .rem (.var 1) (.lit 100000)))) (.lit 15)) (.lit 8)) (.lit 0)) .nil))))))))))), false)]
set_option maxRecDepth 1000000 in
theorem ex21_chk : leavesOk isYes (vals (execF Try.prog ctHS 20 7 exA ⟨[], 0, ⟨ex21 ++ exB 2 1 1, [], 0⟩⟩)) = true := by kernel_rfl
theorem ex21_ok (w s t : Int) (hs : 0 ≤ s ∧ s < 4294967296) : ∀ p ∈ ex21, p.1.den IH (envOf [w, s, t] []) = p.2 := by
  obtain ⟨K, hK, h1, h2⟩ := exK s hs
  intro p hp
  simp only [ex21, List.mem_cons, List.not_mem_nil, or_false] at hp
  rcases hp with rfl | rfl | rfl
  · exact ex_yes (K := K) (c := 578144500) (h := 17) (by exf) (by exf) (by decide) (by exf) (by exf)
  · exact B.lt_f.2 (by exf)
  · exact ex_no (K := K) (c := 578144500) (h := 17) (by exf) (by exf) (by decide) (by omega) (by decide)
def ex22 : List (B × Bool) := [((.app 11 (.cons (.lit 1) (.cons (.lit 4000) (.cons (.lit 7500) (.cons (.lit (-16000000)) (.cons (.lit (-30000000)) (.cons (.lit 0) (.cons (.lit 0) (.cons (.bin .mul (.bin .add (.lit 1) (.bin .rem (.var 1) (.lit 100000))) (.lit 17)) (.cons (.bin .add (.bin .sub (.lit 0) (.bin .add (.bin .mul (.bin .sub (.lit 0) (.bin .add (.lit 1) (.bin .rem (.var 1) (.lit 100000)))) (.lit 15)) (.lit 8))) (.lit 0)) (.cons (.bin .add (.bin .sub (.lit 0) (.bin .add (.bin .mul (.bin .add (.lit 1) (.bin .rem (.var 1) (.lit 100000))) (.lit 8)) (.lit 15))) (.lit 0)) .nil))))))))))), true), ((.lt (.bin .add (.lit 4000) (.bin .mul (.bin .add (.lit 1) (.bin .rem (.var 1) (.lit 100000))) (.lit 17))) (.bin .add (.bin .sub (.lit 0) (.bin .add (.bin .mul (.bin .sub (.lit 0) (.bin .add (.lit 1) (.bin .rem (.var 1) (.lit 100000)))) (.lit 15)) (.lit 8))) (.lit 0))), false), ((.app 11 (.cons (.lit 1) (.cons (.lit 4000) (.cons (.lit 7500) (.cons (.lit (-16000000)) (.cons (.lit (-30000000)) (.cons (.lit 0) (.cons (.lit 0) (.cons (.bin .sub (.bin .mul (.bin .add (.lit 1) (.bin .rem (.var 1) (.lit 100000))) (.lit 17)) (.lit 1)) (.cons (.bin .add (.bin .sub (.lit 0) (.bin .add (.bin .mul (.bin .sub (.lit 0) (.bin .add (.lit 1) (.bin .rem (.var 1) (.lit 100000)))) (.lit 15)) (.lit 8))) (.lit 0)) (.cons (.bin .add (.bin .sub (.lit 0) (.bin .add (.bin .mul (.bin .add (.lit 1) (.bin .rem (.var 1) (.lit 100000))) (.lit 8)) (.lit 15))) (.lit 0)) .nil))))))))))), false)]
set_option maxRecDepth 1000000 in
theorem ex22_chk : leavesOk isYes (vals (execF Try.prog ctHS 20 7 exA ⟨[], 0, ⟨ex22 ++ exB 2 2 2, [], 0⟩⟩)) = true := by kernel_rfl
theorem ex22_ok (w s t : Int) (hs : 0 ≤ s ∧ s < 4294967296) : ∀ p ∈ ex22, p.1.den IH (envOf [w, s, t] []) = p.2 := by
  obtain ⟨K, hK, h1, h2⟩ := exK s hs
  intro p hp
  simp only [ex22, List.mem_cons, List.not_mem_nil, or_false] at hp
  rcases hp with rfl | rfl | rfl
  · exact ex_yes (K := K) (c := 578144500) (h := 17) (by exf) (by exf) (by decide) (by exf) (by exf)
  · exact B.lt_f.2 (by exf)
  · exact ex_no (K := K) (c := 578144500) (h := 17) (by exf) (by exf) (by decide) (by omega) (by decide)
def ex23 : List (B × Bool) := [((.app 11 (.cons (.lit 1) (.cons (.lit (-7500)) (.cons (.lit 4000) (.cons (.lit 30000000) (.cons (.lit (-16000000)) (.cons (.lit 0) (.cons (.lit 0) (.cons (.bin .mul (.bin .add (.lit 1) (.bin .rem (.var 1) (.lit 100000))) (.lit 17)) (.cons (.bin .add (.bin .add (.bin .mul (.bin .add (.lit 1) (.bin .rem (.var 1) (.lit 100000))) (.lit 8)) (.lit 15)) (.lit 0)) (.cons (.bin .add (.bin .sub (.lit 0) (.bin .add (.bin .mul (.bin .sub (.lit 0) (.bin .add (.lit 1) (.bin .rem (.var 1) (.lit 100000)))) (.lit 15)) (.lit 8))) (.lit 0)) .nil))))))))))), true), ((.lt (.bin .add (.lit 4000) (.bin .mul (.bin .add (.lit 1) (.bin .rem (.var 1) (.lit 100000))) (.lit 17))) (.bin .add (.bin .sub (.lit 0) (.bin .add (.bin .mul (.bin .sub (.lit 0) (.bin .add (.lit 1) (.bin .rem (.var 1) (.lit 100000)))) (.lit 15)) (.lit 8))) (.lit 0))), false), ((.app 11 (.cons (.lit 1) (.cons (.lit (-7500)) (.cons (.lit 4000) (.cons (.lit 30000000) (.cons (.lit (-16000000)) (.cons (.lit 0) (.cons (.lit 0) (.cons (.bin .sub (.bin .mul (.bin .add (.lit 1) (.bin .rem (.var 1) (.lit 100000))) (.lit 17)) (.lit 1)) (.cons (.bin .add (.bin .add (.bin .mul (.bin .add (.lit 1) (.bin .rem (.var 1) (.lit 100000))) (.lit 8)) (.lit 15)) (.lit 0)) (.cons (.bin .add (.bin .sub (.lit 0) (.bin .add (.bin .mul (.bin .sub (.lit 0) (.bin .add (.lit 1) (.bin .rem (.var 1) (.lit 100000)))) (.lit 15)) (.lit 8))) (.lit 0)) .nil))))))))))), false)]
set_option maxRecDepth 1000000 in
theorem ex23_chk : leavesOk isYes (vals (execF Try.prog ctHS 20 7 exA ⟨[], 0, ⟨ex23 ++ exB 2 3 3, [], 0⟩⟩)) = true := by kernel_rfl
theorem ex23_ok (w s t : Int) (hs : 0 ≤ s ∧ s < 4294967296) : ∀ p ∈ ex23, p.1.den IH (envOf [w, s, t] []) = p.2 := by
  obtain ⟨K, hK, h1, h2⟩ := exK s hs
  intro p hp
  simp only [ex23, List.mem_cons, List.not_mem_nil, or_false] at hp
  rcases hp with rfl | rfl | rfl
  · exact ex_yes (K := K) (c := 578144500) (h := 17) (by exf) (by exf) (by decide) (by exf) (by exf)
  · exact B.lt_f.2 (by exf)
  · exact ex_no (K := K) (c := 578144500) (h := 17) (by exf) (by exf) (by decide) (by omega) (by decide)
def ex24 : List (B × Bool) := [((.app 11 (.cons (.lit 1) (.cons (.lit 4000) (.cons (.lit (-7500)) (.cons (.lit (-16000000)) (.cons (.lit 30000000) (.cons (.lit 0) (.cons (.lit 0) (.cons (.bin .mul (.bin .add (.lit 1) (.bin .rem (.var 1) (.lit 100000))) (.lit 17)) (.cons (.bin .add (.bin .sub (.lit 0) (.bin .add (.bin .mul (.bin .sub (.lit 0) (.bin .add (.lit 1) (.bin .rem (.var 1) (.lit 100000)))) (.lit 15)) (.lit 8))) (.lit 0)) (.cons (.bin .add (.bin .add (.bin .mul (.bin .add (.lit 1) (.bin .rem (.var 1) (.lit 100000))) (.lit 8)) (.lit 15)) (.lit 0)) .nil))))))))))), true), ((.lt (.bin .add (.lit 4000) (.bin .mul (.bin .add (.lit 1) (.bin .rem (.var 1) (.lit 100000))) (.lit 17))) (.bin .add (.bin .sub (.lit 0) (.bin .add (.bin .mul (.bin .sub (.lit 0) (.bin .add (.lit 1) (.bin .rem (.var 1) (.lit 100000)))) (.lit 15)) (.lit 8))) (.lit 0))), false), ((.app 11 (.cons (.lit 1) (.cons (.lit 4000) (.cons (.lit (-7500)) (.cons (.lit (-16000000)) (.cons (.lit 30000000) (.cons (.lit 0) (.cons (.lit 0) (.cons (.bin .sub (.bin .mul (.bin .add (.lit 1) (.bin .rem (.var 1) (.lit 100000))) (.lit 17)) (.lit 1)) (.cons (.bin .add (.bin .sub (.lit 0) (.bin .add (.bin .mul (.bin .sub (.lit 0) (.bin .add (.lit 1) (.bin .rem (.var 1) (.lit 100000)))) (.lit 15)) (.lit 8))) (.lit 0)) (.cons (.bin .add (.bin .add (.bin .mul (.bin .add (.lit 1) (.bin .rem (.var 1) (.lit 100000))) (.lit 8)) (.lit 15)) (.lit 0)) .nil))))))))))), false)]
set_option maxRecDepth 1000000 in
theorem ex24_chk : leavesOk isYes (vals (execF Try.prog ctHS 20 7 exA ⟨[], 0, ⟨ex24 ++ exB 2 0 4, [], 0⟩⟩)) = true := by kernel_rfl
theorem ex24_ok (w s t : Int) (hs : 0 ≤ s ∧ s < 4294967296) : ∀ p ∈ ex24, p.1.den IH (envOf [w, s, t] []) = p.2 := by
  obtain ⟨K, hK, h1, h2⟩ := exK s hs
  intro p hp
  simp only [ex24, List.mem_cons, List.not_mem_nil, or_false] at hp
  rcases hp with rfl | rfl | rfl
  · exact ex_yes (K := K) (c := -578144500) (h := 17) (by exf) (by exf) (by decide) (by exf) (by exf)
  · exact B.lt_f.2 (by exf)
  · exact ex_no (K := K) (c := -578144500) (h := 17) (by exf) (by exf) (by decide) (by omega) (by decide)
def ex25 : List (B × Bool) := [((.app 11 (.cons (.lit 1) (.cons (.lit 7500) (.cons (.lit 4000) (.cons (.lit (-30000000)) (.cons (.lit (-16000000)) (.cons (.lit 0) (.cons (.lit 0) (.cons (.bin .mul (.bin .add (.lit 1) (.bin .rem (.var 1) (.lit 100000))) (.lit 17)) (.cons (.bin .add (.bin .sub (.lit 0) (.bin .add (.bin .mul (.bin .add (.lit 1) (.bin .rem (.var 1) (.lit 100000))) (.lit 8)) (.lit 15))) (.lit 0)) (.cons (.bin .add (.bin .sub (.lit 0) (.bin .add (.bin .mul (.bin .sub (.lit 0) (.bin .add (.lit 1) (.bin .rem (.var 1) (.lit 100000)))) (.lit 15)) (.lit 8))) (.lit 0)) .nil))))))))))), true), ((.lt (.bin .add (.lit 4000) (.bin .mul (.bin .add (.lit 1) (.bin .rem (.var 1) (.lit 100000))) (.lit 17))) (.bin .add (.bin .sub (.lit 0) (.bin .add (.bin .mul (.bin .sub (.lit 0) (.bin .add (.lit 1) (.bin .rem (.var 1) (.lit 100000)))) (.lit 15)) (.lit 8))) (.lit 0))), false), ((.app 11 (.cons (.lit 1) (.cons (.lit 7500) (.cons (.lit 4000) (.cons (.lit (-30000000)) (.cons (.lit (-16000000)) (.cons (.lit 0) (.cons (.lit 0) (.cons (.bin .sub (.bin .mul (.bin .add (.lit 1) (.bin .rem (.var 1) (.lit 100000))) (.lit 17)) (.lit 1)) (.cons (.bin .add (.bin .sub (.lit 0) (.bin .add (.bin .mul (.bin .add (.lit 1) (.bin .rem (.var 1) (.lit 100000))) (.lit 8)) (.lit 15))) (.lit 0)) (.cons (.bin .add (.bin .sub (.lit 0) (.bin .add (.bin .mul (.bin .sub (.lit 0) (.bin .add (.lit 1) (.bin .rem (.var 1) (.lit 100000)))) (.lit 15)) (.lit 8))) (.lit 0)) .nil))))))))))), false)]
set_option maxRecDepth 1000000 in
theorem ex25_chk : leavesOk isYes (vals (execF Try.prog ctHS 20 7 exA ⟨[], 0, ⟨ex25 ++ exB 2 1 5, [], 0⟩⟩)) = true := by kernel_rfl
theorem ex25_ok (w s t : Int) (hs : 0 ≤ s ∧ s < 4294967296) : ∀ p ∈ ex25, p.1.den IH (envOf [w, s, t] []) = p.2 := by
  obtain ⟨K, hK, h1, h2⟩ := exK s hs
  intro p hp
  simp only [ex25, List.mem_cons, List.not_mem_nil, or_false] at hp
  rcases hp with rfl | rfl | rfl
  · exact ex_yes (K := K) (c := -578144500) (h := 17) (by exf) (by exf) (by decide) (by exf) (by exf)
  · exact B.lt_f.2 (by exf)
  · exact ex_no (K := K) (c := -578144500) (h := 17) (by exf) (by exf) (by decide) (by omega) (by decide)
def ex26 : List (B × Bool) := [((.app 11 (.cons (.lit 1) (.cons (.lit (-4000)) (.cons (.lit 7500) (.cons (.lit 16000000) (.cons (.lit (-30000000)) (.cons (.lit 0) (.cons (.lit 0) (.cons (.bin .mul (.bin .add (.lit 1) (.bin .rem (.var 1) (.lit 100000))) (.lit 17)) (.cons (.bin .add (.bin .sub (.lit 0) (.bin .sub (.lit 0) (.bin .add (.bin .mul (.bin .sub (.lit 0) (.bin .add (.lit 1) (.bin .rem (.var 1) (.lit 100000)))) (.lit 15)) (.lit 8)))) (.lit 0)) (.cons (.bin .add (.bin .sub (.lit 0) (.bin .add (.bin .mul (.bin .add (.lit 1) (.bin .rem (.var 1) (.lit 100000))) (.lit 8)) (.lit 15))) (.lit 0)) .nil))))))))))), true), ((.lt (.bin .add (.bin .sub (.lit 0) (.bin .sub (.lit 0) (.bin .add (.bin .mul (.bin .sub (.lit 0) (.bin .add (.lit 1) (.bin .rem (.var 1) (.lit 100000)))) (.lit 15)) (.lit 8)))) (.lit 0)) (.bin .sub (.lit (-4000)) (.bin .mul (.bin .add (.lit 1) (.bin .rem (.var 1) (.lit 100000))) (.lit 17)))), false), ((.app 11 (.cons (.lit 1) (.cons (.lit (-4000)) (.cons (.lit 7500) (.cons (.lit 16000000) (.cons (.lit (-30000000)) (.cons (.lit 0) (.cons (.lit 0) (.cons (.bin .sub (.bin .mul (.bin .add (.lit 1) (.bin .rem (.var 1) (.lit 100000))) (.lit 17)) (.lit 1)) (.cons (.bin .add (.bin .sub (.lit 0) (.bin .sub (.lit 0) (.bin .add (.bin .mul (.bin .sub (.lit 0) (.bin .add (.lit 1) (.bin .rem (.var 1) (.lit 100000)))) (.lit 15)) (.lit 8)))) (.lit 0)) (.cons (.bin .add (.bin .sub (.lit 0) (.bin .add (.bin .mul (.bin .add (.lit 1) (.bin .rem (.var 1) (.lit 100000))) (.lit 8)) (.lit 15))) (.lit 0)) .nil))))))))))), false)]
set_option maxRecDepth 1000000 in
theorem ex26_chk : leavesOk isYes (vals (execF Try.prog ctHS 20 7 exA ⟨[], 0, ⟨ex26 ++ exB 2 2 6, [], 0⟩⟩)) = true := by kernel_rfl
theorem ex26_ok (w s t : Int) (hs : 0 ≤ s ∧ s < 4294967296) : ∀ p ∈ ex26, p.1.den IH (envOf [w, s, t] []) = p.2 := by
  obtain ⟨K, hK, h1, h2⟩ := exK s hs
  intro p hp
  simp only [ex26, List.mem_cons, List.not_mem_nil, or_false] at hp
  rcases hp with rfl | rfl | rfl
  · exact ex_yes (K := K) (c := -578144500) (h := 17) (by exf) (by exf) (by decide) (by exf) (by exf)
  · exact B.lt_f.2 (by exf)
  · exact ex_no (K := K) (c := -578144500) (h := 17) (by exf) (by exf) (by decide) (by omega) (by decide)
def ex27 : List (B × Bool) := [((.app 11 (.cons (.lit 1) (.cons (.lit (-7500)) (.cons (.lit (-4000)) (.cons (.lit 30000000) (.cons (.lit 16000000) (.cons (.lit 0) (.cons (.lit 0) (.cons (.bin .mul (.bin .add (.lit 1) (.bin .rem (.var 1) (.lit 100000))) (.lit 17)) (.cons (.bin .add (.bin .add (.bin .mul (.bin .add (.lit 1) (.bin .rem (.var 1) (.lit 100000))) (.lit 8)) (.lit 15)) (.lit 0)) (.cons (.bin .add (.bin .sub (.lit 0) (.bin .sub (.lit 0) (.bin .add (.bin .mul (.bin .sub (.lit 0) (.bin .add (.lit 1) (.bin .rem (.var 1) (.lit 100000)))) (.lit 15)) (.lit 8)))) (.lit 0)) .nil))))))))))), true), ((.lt (.bin .add (.bin .sub (.lit 0) (.bin .sub (.lit 0) (.bin .add (.bin .mul (.bin .sub (.lit 0) (.bin .add (.lit 1) (.bin .rem (.var 1) (.lit 100000)))) (.lit 15)) (.lit 8)))) (.lit 0)) (.bin .sub (.lit (-4000)) (.bin .mul (.bin .add (.lit 1) (.bin .rem (.var 1) (.lit 100000))) (.lit 17)))), false), ((.app 11 (.cons (.lit 1) (.cons (.lit (-7500)) (.cons (.lit (-4000)) (.cons (.lit 30000000) (.cons (.lit 16000000) (.cons (.lit 0) (.cons (.lit 0) (.cons (.bin .sub (.bin .mul (.bin .add (.lit 1) (.bin .rem (.var 1) (.lit 100000))) (.lit 17)) (.lit 1)) (.cons (.bin .add (.bin .add (.bin .mul (.bin .add (.lit 1) (.bin .rem (.var 1) (.lit 100000))) (.lit 8)) (.lit 15)) (.lit 0)) (.cons (.bin .add (.bin .sub (.lit 0) (.bin .sub (.lit 0) (.bin .add (.bin .mul (.bin .sub (.lit 0) (.bin .add (.lit 1) (.bin .rem (.var 1) (.lit 100000)))) (.lit 15)) (.lit 8)))) (.lit 0)) .nil))))))))))), false)]
set_option maxRecDepth 1000000 in
theorem ex27_chk : leavesOk isYes (vals (execF Try.prog ctHS 20 7 exA ⟨[], 0, ⟨ex27 ++ exB 2 3 7, [], 0⟩⟩)) = true := by kernel_rfl
theorem ex27_ok (w s t : Int) (hs : 0 ≤ s ∧ s < 4294967296) : ∀ p ∈ ex27, p.1.den IH (envOf [w, s, t] []) = p.2 := by
  obtain ⟨K, hK, h1, h2⟩ := exK s hs
  intro p hp
  simp only [ex27, List.mem_cons, List.not_mem_nil, or_false] at hp
  rcases hp with rfl | rfl | rfl
  · exact ex_yes (K := K) (c := -578144500) (h := 17) (by exf) (by exf) (by decide) (by exf) (by exf)
  · exact B.lt_f.2 (by exf)
  · exact ex_no (K := K) (c := -578144500) (h := 17) (by exf) (by exf) (by decide) (by omega) (by decide)
end Go.Proofs.Ythkkipkhofkpmaa.Sx

