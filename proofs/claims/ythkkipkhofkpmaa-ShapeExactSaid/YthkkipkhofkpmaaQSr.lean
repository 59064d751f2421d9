import Derived.Test.YthkkipkhofkpmaaQSq0
import Derived.Test.YthkkipkhofkpmaaQSq1
import Derived.Test.YthkkipkhofkpmaaQSq2
import Derived.Test.YthkkipkhofkpmaaQSq3
import Derived.Test.YthkkipkhofkpmaaQSq4
set_option linter.all false
set_option autoImplicit false
namespace Go.Proofs.Ythkkipkhofkpmaa.Sx
open Go Go.RowKit
theorem shapeExact_law (w s t : Int) (W : World) (hw : 0 ≤ w ∧ w < 256) (hs : 0 ≤ s ∧ s < 4294967296) (ht : 0 ≤ t ∧ t < 256) :
    Calls Try.prog 7 #[.int .u8 w, .int .u32 s, .int .u8 t] W (fun e w' => e = .returned (.bool true) ∧ Below W.heap.size W w') := by
  have e5 : w.tmod 5 = w % 5 := Int.tmod_eq_emod_of_nonneg hw.1
  have e4 : t.tmod 4 = t % 4 := Int.tmod_eq_emod_of_nonneg ht.1
  have e8 : t.tmod 8 = t % 8 := Int.tmod_eq_emod_of_nonneg ht.1
  have c5 : w.tmod 5 = 0 ∨ w.tmod 5 = 1 ∨ w.tmod 5 = 2 ∨ w.tmod 5 = 3 ∨ w.tmod 5 = 4 := by omega
  have c8 : (t.tmod 8 = 0 ∧ t.tmod 4 = 0) ∨ (t.tmod 8 = 1 ∧ t.tmod 4 = 1) ∨ (t.tmod 8 = 2 ∧ t.tmod 4 = 2) ∨ (t.tmod 8 = 3 ∧ t.tmod 4 = 3) ∨ (t.tmod 8 = 4 ∧ t.tmod 4 = 0) ∨ (t.tmod 8 = 5 ∧ t.tmod 4 = 1) ∨ (t.tmod 8 = 6 ∧ t.tmod 4 = 2) ∨ (t.tmod 8 = 7 ∧ t.tmod 4 = 3) := by omega
  rcases c5 with h5 | h5 | h5 | h5 | h5
  · rcases c8 with ⟨h8, h4⟩ | ⟨h8, h4⟩ | ⟨h8, h4⟩ | ⟨h8, h4⟩ | ⟨h8, h4⟩ | ⟨h8, h4⟩ | ⟨h8, h4⟩ | ⟨h8, h4⟩
    · exact ex_law hw hs ht h5 h4 h8 (ex00_ok w s t hs) ex00_chk W
    · exact ex_law hw hs ht h5 h4 h8 (ex01_ok w s t hs) ex01_chk W
    · exact ex_law hw hs ht h5 h4 h8 (ex02_ok w s t hs) ex02_chk W
    · exact ex_law hw hs ht h5 h4 h8 (ex03_ok w s t hs) ex03_chk W
    · exact ex_law hw hs ht h5 h4 h8 (ex04_ok w s t hs) ex04_chk W
    · exact ex_law hw hs ht h5 h4 h8 (ex05_ok w s t hs) ex05_chk W
    · exact ex_law hw hs ht h5 h4 h8 (ex06_ok w s t hs) ex06_chk W
    · exact ex_law hw hs ht h5 h4 h8 (ex07_ok w s t hs) ex07_chk W
  · rcases c8 with ⟨h8, h4⟩ | ⟨h8, h4⟩ | ⟨h8, h4⟩ | ⟨h8, h4⟩ | ⟨h8, h4⟩ | ⟨h8, h4⟩ | ⟨h8, h4⟩ | ⟨h8, h4⟩
    · exact ex_law hw hs ht h5 h4 h8 (ex10_ok w s t hs) ex10_chk W
    · exact ex_law hw hs ht h5 h4 h8 (ex11_ok w s t hs) ex11_chk W
    · exact ex_law hw hs ht h5 h4 h8 (ex12_ok w s t hs) ex12_chk W
    · exact ex_law hw hs ht h5 h4 h8 (ex13_ok w s t hs) ex13_chk W
    · exact ex_law hw hs ht h5 h4 h8 (ex14_ok w s t hs) ex14_chk W
    · exact ex_law hw hs ht h5 h4 h8 (ex15_ok w s t hs) ex15_chk W
    · exact ex_law hw hs ht h5 h4 h8 (ex16_ok w s t hs) ex16_chk W
    · exact ex_law hw hs ht h5 h4 h8 (ex17_ok w s t hs) ex17_chk W
  · rcases c8 with ⟨h8, h4⟩ | ⟨h8, h4⟩ | ⟨h8, h4⟩ | ⟨h8, h4⟩ | ⟨h8, h4⟩ | ⟨h8, h4⟩ | ⟨h8, h4⟩ | ⟨h8, h4⟩
    · exact ex_law hw hs ht h5 h4 h8 (ex20_ok w s t hs) ex20_chk W
    · exact ex_law hw hs ht h5 h4 h8 (ex21_ok w s t hs) ex21_chk W
    · exact ex_law hw hs ht h5 h4 h8 (ex22_ok w s t hs) ex22_chk W
    · exact ex_law hw hs ht h5 h4 h8 (ex23_ok w s t hs) ex23_chk W
    · exact ex_law hw hs ht h5 h4 h8 (ex24_ok w s t hs) ex24_chk W
    · exact ex_law hw hs ht h5 h4 h8 (ex25_ok w s t hs) ex25_chk W
    · exact ex_law hw hs ht h5 h4 h8 (ex26_ok w s t hs) ex26_chk W
    · exact ex_law hw hs ht h5 h4 h8 (ex27_ok w s t hs) ex27_chk W
  · rcases c8 with ⟨h8, h4⟩ | ⟨h8, h4⟩ | ⟨h8, h4⟩ | ⟨h8, h4⟩ | ⟨h8, h4⟩ | ⟨h8, h4⟩ | ⟨h8, h4⟩ | ⟨h8, h4⟩
    · exact ex_law hw hs ht h5 h4 h8 (ex30_ok w s t hs) ex30_chk W
    · exact ex_law hw hs ht h5 h4 h8 (ex31_ok w s t hs) ex31_chk W
    · exact ex_law hw hs ht h5 h4 h8 (ex32_ok w s t hs) ex32_chk W
    · exact ex_law hw hs ht h5 h4 h8 (ex33_ok w s t hs) ex33_chk W
    · exact ex_law hw hs ht h5 h4 h8 (ex34_ok w s t hs) ex34_chk W
    · exact ex_law hw hs ht h5 h4 h8 (ex35_ok w s t hs) ex35_chk W
    · exact ex_law hw hs ht h5 h4 h8 (ex36_ok w s t hs) ex36_chk W
    · exact ex_law hw hs ht h5 h4 h8 (ex37_ok w s t hs) ex37_chk W
  · rcases c8 with ⟨h8, h4⟩ | ⟨h8, h4⟩ | ⟨h8, h4⟩ | ⟨h8, h4⟩ | ⟨h8, h4⟩ | ⟨h8, h4⟩ | ⟨h8, h4⟩ | ⟨h8, h4⟩
    · exact ex_law hw hs ht h5 h4 h8 (ex40_ok w s t hs) ex40_chk W
    · exact ex_law hw hs ht h5 h4 h8 (ex41_ok w s t hs) ex41_chk W
    · exact ex_law hw hs ht h5 h4 h8 (ex42_ok w s t hs) ex42_chk W
    · exact ex_law hw hs ht h5 h4 h8 (ex43_ok w s t hs) ex43_chk W
    · exact ex_law hw hs ht h5 h4 h8 (ex44_ok w s t hs) ex44_chk W
    · exact ex_law hw hs ht h5 h4 h8 (ex45_ok w s t hs) ex45_chk W
    · exact ex_law hw hs ht h5 h4 h8 (ex46_ok w s t hs) ex46_chk W
    · exact ex_law hw hs ht h5 h4 h8 (ex47_ok w s t hs) ex47_chk W
end Go.Proofs.Ythkkipkhofkpmaa.Sx

