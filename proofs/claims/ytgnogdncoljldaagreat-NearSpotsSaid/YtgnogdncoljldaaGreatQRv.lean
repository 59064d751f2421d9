import Derived.Test.YtgnogdncoljldaaGreatQRopq
import Derived.Test.YtgnogdncoljldaaGreatQRt
set_option linter.all false
namespace Go.Proofs.YtgnogdncoljldaaGreat.Sx
open Go Go.RowKit
def fnCase (r : RT) : FnR := ⟨13, [.ints, .ints], fun _ ts => match ts with
 | [[.var 0, .var 1, .var 2, .var 3, .var 4, .var 5, .var 6], [.var 7, .var 8]] => some r
 | _ => none⟩
def same4 (a s n d b t m e : T) : Bool := a.same b && (s.same t && (n.same m && d.same e))
def fnCmpS (g : FuncId) : FnR := ⟨g, [.root, .root], fun k ts => match ts with
 | [[a, s, n, d], [b, t, m, e]] => bif rtK k a s n d && same4 a s n d b t m e then some ⟨[], .c (.int .i64 (.lit 0))⟩ else none
 | _ => none⟩
def rA : RT := ptR (.lit 0) 1 (sq2 1 2) (.lit 1) (.var 1) (.var 2) (.lit 0) (.lit 0) (.lit 0) (.lit 1) (.lit 0)
def rB : RT := ptR (.lit 0) 1 (sq2 3 4) (.lit 1) (.var 3) (.var 4) (.lit 0) (.lit 0) (.lit 0) (.lit 1) (.lit 0)
def crT : T := .bin .sub (.bin .mul (sbT 3 1) (sbT 8 2)) (.bin .mul (sbT 4 2) (sbT 7 1))
def ccT : T := .bin .mul crT crT
def rF : RT := ptR (.lit 0) 1 ccT sqT (.var 1) (.var 2) (sbT 3 1) (sbT 4 2) dtT sqT (.lit 0)
def raT : T := .app 5 (.cons (.var 0) (.cons (.var 1) (.cons (.var 2) (.cons (.var 3) (.cons (.var 4) (.cons (.var 5) (.cons (.var 6) .nil)))))))
def rW1 : RT := ptR raT (-1) (sq2 5 6) (.lit 1) (.var 5) (.var 6) (sbT 7 5) (sbT 8 6) (.lit 0) (.lit 0) raT
def rW2 : RT := ptR (.bin .sub (.lit 0) raT) 1 (sq2 5 6) (.lit 1) (.var 5) (.var 6) (sbT 7 5) (sbT 8 6) (.lit 0) (.lit 0) raT
def ctSp (r : RT) : CT := ctOr (ctL entX) (ctOr (ctFn [fnCase r, fnCmpS 20]) (ctOr ctM ctRt))
def bdE (m : Int) : List (B × Bool) := rt raT 0 800 ++ (rg 1 (-200) 200 ++ (rg 2 (-200) 200 ++ (rg 3 (-200) 200 ++ (rg 4 (-200) 200 ++ (rg 5 (-200) 200 ++ (rg 6 (-200) 200 ++ (rg 7 (-m) m ++ rg 8 (-m) m)))))))
def zeroT (a : T) (s : Int) (n d : T) : T := cmp8 a (app2 30 (.lit s) n) (app2 31 n d) (app2 32 n d) (.lit 0) (.lit 0) (.lit 0) (.lit 1)
def vxT : T := .bin .sub (.bin .mul sqT (sbT 7 1)) (.bin .mul dtT (sbT 3 1))
def vyT : T := .bin .sub (.bin .mul sqT (sbT 8 2)) (.bin .mul dtT (sbT 4 2))
def nnV : T := .bin .add (.bin .mul vxT vxT) (.bin .mul vyT vyT)
def qqT : T := .bin .mul sqT sqT
def kA : List (B × Bool) := (.lt (zeroT (.lit 0) 1 (sq2 1 2) (.lit 1)) (.lit 0), false) :: bdE 200000
def kB : List (B × Bool) := (.lt (zeroT (.lit 0) 1 (sq2 3 4) (.lit 1)) (.lit 0), false) :: bdE 200000
def kFa : List (B × Bool) := (.eq (.var 0) (.lit 1), true) :: (.eq (sbT 3 1) (.lit 0), false) :: (.lt (.lit 0) dtT, true) :: (.lt dtT sqT, true) :: (.lt sqT (.lit 1), false) :: (.lt qqT (.lit 1), false) :: (.lt (zeroT (.lit 0) 1 ccT sqT) (.lit 0), false) ::
 (.eq (.bin .add (.bin .mul vxT (sbT 3 1)) (.bin .mul vyT (sbT 4 2))) (.lit 0), true) ::
 (.eq (cmp8 (.lit 0) (app2 30 (.lit 1) ccT) (app2 31 ccT sqT) (app2 32 ccT sqT) (.lit 0) (app2 30 (.lit 1) nnV) (app2 31 nnV qqT) (app2 32 nnV qqT)) (.lit 0), true) :: bdE 1100
def kFb : List (B × Bool) := (.eq (.var 0) (.lit 1), true) :: (.eq (sbT 3 1) (.lit 0), true) :: (.eq (sbT 4 2) (.lit 0), false) :: (.lt (.lit 0) dtT, true) :: (.lt dtT sqT, true) :: (.lt sqT (.lit 1), false) :: (.lt qqT (.lit 1), false) :: (.lt (zeroT (.lit 0) 1 ccT sqT) (.lit 0), false) ::
 (.eq (.bin .add (.bin .mul vxT (sbT 3 1)) (.bin .mul vyT (sbT 4 2))) (.lit 0), true) ::
 (.eq (cmp8 (.lit 0) (app2 30 (.lit 1) ccT) (app2 31 ccT sqT) (app2 32 ccT sqT) (.lit 0) (app2 30 (.lit 1) nnV) (app2 31 nnV qqT) (app2 32 nnV qqT)) (.lit 0), true) :: bdE 1100
def kW1a : List (B × Bool) := (.eq (.var 0) (.lit 1), false) :: (.lt (zeroT raT (-1) (sq2 5 6) (.lit 1)) (.lit 0), false) :: (.eq (sbT 7 5) (.lit 0), false) :: bdE 200000
def kW1b : List (B × Bool) := (.eq (.var 0) (.lit 1), false) :: (.lt (zeroT raT (-1) (sq2 5 6) (.lit 1)) (.lit 0), false) :: (.eq (sbT 7 5) (.lit 0), true) :: (.eq (sbT 8 6) (.lit 0), false) :: bdE 200000
def kW2a : List (B × Bool) := (.eq (.var 0) (.lit 1), false) :: (.lt (zeroT (.bin .sub (.lit 0) raT) 1 (sq2 5 6) (.lit 1)) (.lit 0), false) :: (.eq (sbT 7 5) (.lit 0), false) :: bdE 200000
def kW2b : List (B × Bool) := (.eq (.var 0) (.lit 1), false) :: (.lt (zeroT (.bin .sub (.lit 0) raT) 1 (sq2 5 6) (.lit 1)) (.lit 0), false) :: (.eq (sbT 7 5) (.lit 0), true) :: (.eq (sbT 8 6) (.lit 0), false) :: bdE 200000
set_option maxRecDepth 1000000 in
theorem spA_chk : leavesOk isYes (vals (execF Tryz.prog (ctSp rA) 20 8 [.c (.abs 0 .nil), .c (.abs 1 .nil)] ⟨[], 0, ⟨kA, [0, 2], 0⟩⟩)) = true := by kernel_rfl
set_option maxRecDepth 1000000 in
theorem spB_chk : leavesOk isYes (vals (execF Tryz.prog (ctSp rB) 20 8 [.c (.abs 0 .nil), .c (.abs 1 .nil)] ⟨[], 0, ⟨kB, [0, 2], 0⟩⟩)) = true := by kernel_rfl
set_option maxRecDepth 1000000 in
theorem spFa_chk : leavesOk isYes (vals (execF Tryz.prog (ctSp rF) 20 8 [.c (.abs 0 .nil), .c (.abs 1 .nil)] ⟨[], 0, ⟨kFa, [0, 2], 0⟩⟩)) = true := by kernel_rfl
set_option maxRecDepth 1000000 in
theorem spFb_chk : leavesOk isYes (vals (execF Tryz.prog (ctSp rF) 20 8 [.c (.abs 0 .nil), .c (.abs 1 .nil)] ⟨[], 0, ⟨kFb, [0, 2], 0⟩⟩)) = true := by kernel_rfl
set_option maxRecDepth 1000000 in
theorem spW1a_chk : leavesOk isYes (vals (execF Tryz.prog (ctSp rW1) 20 8 [.c (.abs 0 .nil), .c (.abs 1 .nil)] ⟨[], 0, ⟨kW1a, [0, 2], 0⟩⟩)) = true := by kernel_rfl
set_option maxRecDepth 1000000 in
theorem spW1b_chk : leavesOk isYes (vals (execF Tryz.prog (ctSp rW1) 20 8 [.c (.abs 0 .nil), .c (.abs 1 .nil)] ⟨[], 0, ⟨kW1b, [0, 2], 0⟩⟩)) = true := by kernel_rfl
set_option maxRecDepth 1000000 in
theorem spW2a_chk : leavesOk isYes (vals (execF Tryz.prog (ctSp rW2) 20 8 [.c (.abs 0 .nil), .c (.abs 1 .nil)] ⟨[], 0, ⟨kW2a, [0, 2], 0⟩⟩)) = true := by kernel_rfl
set_option maxRecDepth 1000000 in
theorem spW2b_chk : leavesOk isYes (vals (execF Tryz.prog (ctSp rW2) 20 8 [.c (.abs 0 .nil), .c (.abs 1 .nil)] ⟨[], 0, ⟨kW2b, [0, 2], 0⟩⟩)) = true := by kernel_rfl
theorem cmpZ_self {a s n d : Int} (h : RtZ a s n d) : RM.cmpZ a s n d a s n d = 0 := by
 have hd := h.d0
 have hz := h.z
 unfold RM.cmpZ
 rw [Int.sub_self, Int.zero_mul, Int.zero_mul, Int.zero_mul, Int.zero_add, Int.sub_self, Int.mul_zero, Int.zero_mul]
 have e2 : RM.sideZ 0 0 (n * d) = 0 := by unfold RM.sideZ; rw [if_pos (.inl rfl)]; rfl
 have e1 : RM.sideZ 0 s (n * d) = s := by
  unfold RM.sideZ
  by_cases h0 : s = 0
  ·rw [if_pos (.inl h0), h0]; rfl
  ·have hn : n ≠ 0 := fun e => h0 (hz.2 e)
   have hnd : n * d ≠ 0 := Int.mul_ne_zero hn (by omega)
   rw [if_neg (fun g => g.elim h0 hnd), if_pos (.inl rfl)]
   have := h.s0
   have := h.s1
   obtain rfl | rfl : s = 1 ∨ s = -1 := by omega
   ·rfl
   ·rfl
 rw [e1, if_neg (fun g => g rfl), e2, Int.mul_zero]
theorem cmpZ_zero {a s n d : Int} (h : 0 ≤ RM.sideZ ((a - 0) * d) s (n * d)) : 0 ≤ RM.cmpZ a s n d 0 0 0 1 := by
 unfold RM.cmpZ
 by_cases h0 : RM.sideZ ((a - 0) * d) s (n * d) = 0
 ·rw [if_neg (fun g => g h0), h0, Int.zero_mul]; exact Int.le_refl 0
 ·rw [if_pos h0, if_pos (by omega)]; decide
end Go.Proofs.YtgnogdncoljldaaGreat.Sx

