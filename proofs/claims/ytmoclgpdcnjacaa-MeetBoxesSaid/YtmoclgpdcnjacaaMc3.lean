/- Count, by the program: CL. -/
import Derived.Test.YtmoclgpdcnjacaaMc
set_option linter.all false
set_option autoImplicit false
namespace Go.Proofs.Ytmoclgpdcnjacaa.Sx
open Go Go.RowKit

def cCLq0 : T := (.bin .sub (.lit 0) (.bin .sub (.var 11) (.var 9)))
def cCLq1 : T := (.bin .sub (.lit 0) (.bin .sub (.var 10) (.var 8)))
def cCLq2 : T := (.bin .min (.bin .max (.var 1) (.var 3)) (.bin .max (.var 8) (.var 10)))
def cCLq3 : T := (.bin .max (.bin .min (.var 1) (.var 3)) (.bin .min (.var 8) (.var 10)))
def cCLq4 : T := (.bin .min (.bin .max (.var 2) (.var 4)) (.bin .max (.var 9) (.var 11)))
def cCLq5 : T := (.bin .max (.bin .min (.var 2) (.var 4)) (.bin .min (.var 9) (.var 11)))
def cCLq6 : T := (.app 5 (.cons (.var 0) (.cons (.var 1) (.cons (.var 2) (.cons (.var 3) (.cons (.var 4) (.cons (.var 5) (.cons (.var 6) .nil))))))))
def cCLq7 : T := (.bin .mul (.lit 2) (.bin .sub (.bin .mul (.bin .sub (.var 10) (.var 8)) (.bin .sub (.var 9) (.var 6))) (.bin .mul (.bin .sub (.var 11) (.var 9)) (.bin .sub (.var 8) (.var 5)))))
def cCLq8 : T := (.bin .add (.bin .mul cCLq0 cCLq0) (.bin .mul (.bin .sub (.var 10) (.var 8)) (.bin .sub (.var 10) (.var 8))))
def cCLq9 : T := (.bin .sub (.bin .mul (.bin .mul (.lit 4) cCLq8) (.bin .mul cCLq6 cCLq6)) (.bin .mul cCLq7 cCLq7))
def cCLq10 : T := (.cons cCLq7 (.cons (.bin .mul (.lit 2) cCLq8) (.cons cCLq9 (.cons cCLq3 (.cons cCLq5 (.cons cCLq2 (.cons cCLq4 .nil)))))))
def cCLq11 : T := (.cons (.var 5) (.cons (.var 6) (.cons cCLq0 (.cons (.bin .sub (.var 10) (.var 8)) (.cons cCLq1 (.cons cCLq0 cCLq10))))))
def cCLq12 : T := (.cons (.var 5) (.cons (.var 6) (.cons cCLq0 (.cons (.bin .sub (.var 10) (.var 8)) (.cons (.bin .sub (.lit 0) cCLq1) (.cons (.bin .sub (.lit 0) cCLq0) cCLq10))))))
def kcCL : List (B × Bool) := [(.eq (.var 1) (.var 3), false), (.eq (.var 0) (.lit 1), false), (.eq (.var 7) (.lit 1), true), (.eq (.app 4 (tlM [.var 0, .var 1, .var 2, .var 3, .var 4, .var 5, .var 6])) (.lit 0), true), (.eq (.app 4 (tlM [.var 7, .var 8, .var 9, .var 10, .var 11, .var 12, .var 13])) (.lit 0), true), (.lt (.var 1) (.lit (-67108864)), false), (.lt (.lit 67108864) (.var 1), false), (.lt (.var 2) (.lit (-67108864)), false), (.lt (.lit 67108864) (.var 2), false), (.lt (.var 3) (.lit (-67108864)), false), (.lt (.lit 67108864) (.var 3), false), (.lt (.var 4) (.lit (-67108864)), false), (.lt (.lit 67108864) (.var 4), false), (.lt (.var 5) (.lit (-67108864)), false), (.lt (.lit 67108864) (.var 5), false), (.lt (.var 6) (.lit (-67108864)), false), (.lt (.lit 67108864) (.var 6), false), (.lt (.var 8) (.lit (-67108864)), false), (.lt (.lit 67108864) (.var 8), false), (.lt (.var 9) (.lit (-67108864)), false), (.lt (.lit 67108864) (.var 9), false), (.lt (.var 10) (.lit (-67108864)), false), (.lt (.lit 67108864) (.var 10), false), (.lt (.var 11) (.lit (-67108864)), false), (.lt (.lit 67108864) (.var 11), false), (.lt (.var 12) (.lit (-67108864)), false), (.lt (.lit 67108864) (.var 12), false), (.lt (.var 13) (.lit (-67108864)), false), (.lt (.lit 67108864) (.var 13), false), (.lt (.app 5 (tlM [.var 0, .var 1, .var 2, .var 3, .var 4, .var 5, .var 6])) (.lit 0), false), (.lt (.lit 134217728) (.app 5 (tlM [.var 0, .var 1, .var 2, .var 3, .var 4, .var 5, .var 6])), false), (.lt (.app 5 (tlM [.var 7, .var 8, .var 9, .var 10, .var 11, .var 12, .var 13])) (.lit 0), false), (.lt (.lit 134217728) (.app 5 (tlM [.var 7, .var 8, .var 9, .var 10, .var 11, .var 12, .var 13])), false)]
def cCLT : Tree V :=
 (.node (.lt cCLq2 cCLq3)
  (.leaf (.c (.int .i64 (.lit 0))))
  (.node (.lt cCLq4 cCLq5)
   (.leaf (.c (.int .i64 (.lit 0))))
   (.node (.eq (.var 8) (.var 10))
    (.node (.eq (.var 9) (.var 11))
     (.leaf (.c (.int .i64 (.app 11 (.cons (.var 0) (.cons (.var 1) (.cons (.var 2) (.cons (.var 3) (.cons (.var 4) (.cons (.var 5) (.cons (.var 6) (.cons (.var 7) (.cons (.var 8) (.cons (.var 9) (.cons (.var 10) (.cons (.var 11) (.cons (.var 12) (.cons (.var 13) .nil))))))))))))))))))
     (.node (.lt cCLq9 (.lit 0))
      (.leaf (.c (.int .i64 (.lit 0))))
      (.node (.lt (.lit 0) cCLq9)
       (.node (.app 3 cCLq11)
        (.node (.app 3 cCLq12)
         (.leaf (.c (.int .i64 (.lit 2))))
         (.leaf (.c (.int .i64 (.lit 1)))))
        (.node (.app 3 cCLq12)
         (.leaf (.c (.int .i64 (.lit 1))))
         (.leaf (.c (.int .i64 (.lit 0))))))
       (.node (.app 3 cCLq11)
        (.leaf (.c (.int .i64 (.lit 1))))
        (.leaf (.c (.int .i64 (.lit 0))))))))
    (.node (.lt cCLq9 (.lit 0))
     (.leaf (.c (.int .i64 (.lit 0))))
     (.node (.lt (.lit 0) cCLq9)
      (.node (.app 3 cCLq11)
       (.node (.app 3 cCLq12)
        (.leaf (.c (.int .i64 (.lit 2))))
        (.leaf (.c (.int .i64 (.lit 1)))))
       (.node (.app 3 cCLq12)
        (.leaf (.c (.int .i64 (.lit 1))))
        (.leaf (.c (.int .i64 (.lit 0))))))
      (.node (.app 3 cCLq11)
       (.leaf (.c (.int .i64 (.lit 1))))
       (.leaf (.c (.int .i64 (.lit 0))))))))))
set_option maxRecDepth 1000000 in
theorem cCL_tree : vals (execF Try.prog ctCount 20 11 [.agg [iv 0, iv 1, iv 2, iv 3, iv 4, iv 5, iv 6], .agg [iv 7, iv 8, iv 9, iv 10, iv 11, iv 12, iv 13]] ⟨[], 0, ⟨kcCL, [], 0⟩⟩) = cCLT := by kernel_rfl
set_option maxRecDepth 100000 in
set_option maxHeartbeats 20000000 in
theorem cCL_c (k ax ay bx by' cx cy k2 px py qx qy rx ry : Int) (w : World) (h0 : ax ≠ bx) (h1 : k ≠ 1) (h2 : k2 = 1) (h3 : checkZ k ax ay bx by' cx cy = 0) (h4 : checkZ k2 px py qx qy rx ry = 0) (h5 : -67108864 ≤ ax) (h6 : ax ≤ 67108864) (h7 : -67108864 ≤ ay) (h8 : ay ≤ 67108864) (h9 : -67108864 ≤ bx) (h10 : bx ≤ 67108864) (h11 : -67108864 ≤ by') (h12 : by' ≤ 67108864) (h13 : -67108864 ≤ cx) (h14 : cx ≤ 67108864) (h15 : -67108864 ≤ cy) (h16 : cy ≤ 67108864) (h17 : -67108864 ≤ px) (h18 : px ≤ 67108864) (h19 : -67108864 ≤ py) (h20 : py ≤ 67108864) (h21 : -67108864 ≤ qx) (h22 : qx ≤ 67108864) (h23 : -67108864 ≤ qy) (h24 : qy ≤ 67108864) (h25 : -67108864 ≤ rx) (h26 : rx ≤ 67108864) (h27 : -67108864 ≤ ry) (h28 : ry ≤ 67108864) (h29 : 0 ≤ radiusZ k ax ay bx by' cx cy) (h30 : radiusZ k ax ay bx by' cx cy ≤ 134217728) (h31 : 0 ≤ radiusZ k2 px py qx qy rx ry) (h32 : radiusZ k2 px py qx qy rx ry ≤ 134217728) :
    Calls Try.prog 11 #[.agg #[.int .i64 k, .int .i64 ax, .int .i64 ay, .int .i64 bx, .int .i64 by', .int .i64 cx, .int .i64 cy], .agg #[.int .i64 k2, .int .i64 px, .int .i64 py, .int .i64 qx, .int .i64 qy, .int .i64 rx, .int .i64 ry]] w (fun e w' => e = .returned (.int .i64 (countOk k ax ay bx by' cx cy k2 px py qx qy rx ry)) ∧ Below w.heap.size w w') := by
  have hk : ∀ p ∈ kcCL, p.1.den IM (envOf [k, ax, ay, bx, by', cx, cy, k2, px, py, qx, qy, rx, ry] []) = p.2 := by
    intro p hp
    simp only [kcCL, List.mem_cons, List.not_mem_nil, or_false] at hp
    rcases hp with rfl | rfl | rfl | rfl | rfl | rfl | rfl | rfl | rfl | rfl | rfl | rfl | rfl | rfl | rfl | rfl | rfl | rfl | rfl | rfl | rfl | rfl | rfl | rfl | rfl | rfl | rfl | rfl | rfl | rfl | rfl | rfl | rfl
    · exact B.eq_f.2 h0
    · exact B.eq_f.2 h1
    · exact B.eq_t.2 h2
    · exact B.eq_t.2 h3
    · exact B.eq_t.2 h4
    · exact B.lt_f.2 h5
    · exact B.lt_f.2 h6
    · exact B.lt_f.2 h7
    · exact B.lt_f.2 h8
    · exact B.lt_f.2 h9
    · exact B.lt_f.2 h10
    · exact B.lt_f.2 h11
    · exact B.lt_f.2 h12
    · exact B.lt_f.2 h13
    · exact B.lt_f.2 h14
    · exact B.lt_f.2 h15
    · exact B.lt_f.2 h16
    · exact B.lt_f.2 h17
    · exact B.lt_f.2 h18
    · exact B.lt_f.2 h19
    · exact B.lt_f.2 h20
    · exact B.lt_f.2 h21
    · exact B.lt_f.2 h22
    · exact B.lt_f.2 h23
    · exact B.lt_f.2 h24
    · exact B.lt_f.2 h25
    · exact B.lt_f.2 h26
    · exact B.lt_f.2 h27
    · exact B.lt_f.2 h28
    · exact B.lt_f.2 h29
    · exact B.lt_f.2 h30
    · exact B.lt_f.2 h31
    · exact B.lt_f.2 h32
  have key : cCLT.vc IM (envOf [k, ax, ay, bx, by', cx, cy, k2, px, py, qx, qy, rx, ry] []) (fun v => v.wf 0 = true ∧ v.den IM (envOf [k, ax, ay, bx, by', cx, cy, k2, px, py, qx, qy, rx, ry] []) id = .int .i64 (countOk k ax ay bx by' cx cy k2 px py qx qy rx ry)) := ?key
  · exact @calls_litD Try.prog IM (envOf [k, ax, ay, bx, by', cx, cy, k2, px, py, qx, qy, rx, ry] []) mixed nocount ctCount (ctCount_ok _) 20 11 [.agg [iv 0, iv 1, iv 2, iv 3, iv 4, iv 5, iv 6], .agg [iv 7, iv 8, iv 9, iv 10, iv 11, iv 12, iv 13]] ⟨kcCL, [], 0⟩ cCLT w (.int .i64 (countOk k ax ay bx by' cx cy k2 px py qx qy rx ry)) (fun _ h => nomatch h) ⟨hk, (fun _ h => nomatch h), fun _ h => absurd h (Nat.not_lt_zero _)⟩ rfl cCL_tree key
  clear hk
  unfold cCLT countOk
  simp only [h0, h1, h2, and_self, if_true, true_and, false_and, if_false, and_true, and_false, false_or, or_false, ne_eq, not_false_eq_true]
  simp only [Tree.vc]
  repeat' (first | refine And.intro ?_ ?_ | intro _)
  all_goals first | rfl | skip
  all_goals
    simp only [cCLq0, cCLq1, cCLq2, cCLq3, cCLq4, cCLq5, cCLq6, cCLq7, cCLq8, cCLq9, cCLq10, cCLq11, cCLq12, B.lt_t, B.lt_f, B.eq_t, B.eq_f, B.den_var, B.den_lit, B.den_not, B.den_and, B.den_iff, T.den_lit, T.den_var, T.den_wrap, T.den_bin, ev_add, ev_sub, ev_mul, ev_quo, ev_rem, ev_max, ev_min, envOf, List.getD_cons_zero, List.getD_cons_succ, w64, T.den_app, B.den_app, T.dens_cons, T.dens_nil, tlM, im4, im5, im11, im3, decide_eq_true_eq, decide_eq_false_iff_not, V.den, C.den] at *
    refine int_eq ?_
    unfold ovP
    (try unfold lcZ)
    (try unfold ccZ)
    (try unfold cutZ)
    (try unfold crossZ2)
    repeat' split
    all_goals first | rfl | omega | (exfalso; simp_all; done) | (simp_all; done)
end Go.Proofs.Ytmoclgpdcnjacaa.Sx
