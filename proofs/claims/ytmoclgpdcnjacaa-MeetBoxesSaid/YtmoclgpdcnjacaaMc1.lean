/- Count, by the program: LL. -/
import Derived.Test.YtmoclgpdcnjacaaMc
set_option linter.all false
set_option autoImplicit false
namespace Go.Proofs.Ytmoclgpdcnjacaa.Sx
open Go Go.RowKit

def cLLq0 : T := (.bin .min (.bin .max (.var 1) (.var 3)) (.bin .max (.var 8) (.var 10)))
def cLLq1 : T := (.bin .max (.bin .min (.var 1) (.var 3)) (.bin .min (.var 8) (.var 10)))
def cLLq2 : T := (.bin .min (.bin .max (.var 2) (.var 4)) (.bin .max (.var 9) (.var 11)))
def cLLq3 : T := (.bin .max (.bin .min (.var 2) (.var 4)) (.bin .min (.var 9) (.var 11)))
def cLLq4 : T := (.bin .sub (.bin .mul (.bin .sub (.var 3) (.var 1)) (.bin .sub (.var 11) (.var 9))) (.bin .mul (.bin .sub (.var 4) (.var 2)) (.bin .sub (.var 10) (.var 8))))
def cLLq5 : T := (.bin .sub (.bin .mul (.bin .sub (.var 8) (.var 1)) (.bin .sub (.var 11) (.var 9))) (.bin .mul (.bin .sub (.var 9) (.var 2)) (.bin .sub (.var 10) (.var 8))))
def cLLq6 : T := (.app 11 (.cons (.var 0) (.cons (.var 1) (.cons (.var 2) (.cons (.var 3) (.cons (.var 4) (.cons (.var 5) (.cons (.var 6) (.cons (.var 7) (.cons (.var 8) (.cons (.var 9) (.cons (.var 10) (.cons (.var 11) (.cons (.var 12) (.cons (.var 13) .nil)))))))))))))))
def cLLq7 : T := (.cons (.lit 0) (.cons cLLq1 (.cons cLLq3 (.cons cLLq0 (.cons cLLq2 .nil)))))
def cLLq8 : T := (.cons (.var 1) (.cons (.var 2) (.cons (.bin .sub (.var 3) (.var 1)) (.cons (.bin .sub (.var 4) (.var 2)) (.cons (.lit 0) (.cons (.lit 0) (.cons cLLq5 (.cons cLLq4 cLLq7))))))))
def cLLq9 : T := (.cons (.var 1) (.cons (.var 2) (.cons (.bin .sub (.var 3) (.var 1)) (.cons (.bin .sub (.var 4) (.var 2)) (.cons (.lit 0) (.cons (.lit 0) (.cons (.bin .sub (.lit 0) cLLq5) (.cons (.bin .sub (.lit 0) cLLq4) cLLq7))))))))
def kcLL : List (B × Bool) := [(.eq (.var 0) (.lit 1), true), (.eq (.var 7) (.lit 1), true), (.eq (.app 4 (tlM [.var 0, .var 1, .var 2, .var 3, .var 4, .var 5, .var 6])) (.lit 0), true), (.eq (.app 4 (tlM [.var 7, .var 8, .var 9, .var 10, .var 11, .var 12, .var 13])) (.lit 0), true), (.lt (.var 1) (.lit (-67108864)), false), (.lt (.lit 67108864) (.var 1), false), (.lt (.var 2) (.lit (-67108864)), false), (.lt (.lit 67108864) (.var 2), false), (.lt (.var 3) (.lit (-67108864)), false), (.lt (.lit 67108864) (.var 3), false), (.lt (.var 4) (.lit (-67108864)), false), (.lt (.lit 67108864) (.var 4), false), (.lt (.var 5) (.lit (-67108864)), false), (.lt (.lit 67108864) (.var 5), false), (.lt (.var 6) (.lit (-67108864)), false), (.lt (.lit 67108864) (.var 6), false), (.lt (.var 8) (.lit (-67108864)), false), (.lt (.lit 67108864) (.var 8), false), (.lt (.var 9) (.lit (-67108864)), false), (.lt (.lit 67108864) (.var 9), false), (.lt (.var 10) (.lit (-67108864)), false), (.lt (.lit 67108864) (.var 10), false), (.lt (.var 11) (.lit (-67108864)), false), (.lt (.lit 67108864) (.var 11), false), (.lt (.var 12) (.lit (-67108864)), false), (.lt (.lit 67108864) (.var 12), false), (.lt (.var 13) (.lit (-67108864)), false), (.lt (.lit 67108864) (.var 13), false), (.lt (.app 5 (tlM [.var 0, .var 1, .var 2, .var 3, .var 4, .var 5, .var 6])) (.lit 0), false), (.lt (.lit 134217728) (.app 5 (tlM [.var 0, .var 1, .var 2, .var 3, .var 4, .var 5, .var 6])), false), (.lt (.app 5 (tlM [.var 7, .var 8, .var 9, .var 10, .var 11, .var 12, .var 13])) (.lit 0), false), (.lt (.lit 134217728) (.app 5 (tlM [.var 7, .var 8, .var 9, .var 10, .var 11, .var 12, .var 13])), false)]
def cLLT : Tree V :=
 (.node (.lt cLLq0 cLLq1)
  (.leaf (.c (.int .i64 (.lit 0))))
  (.node (.lt cLLq2 cLLq3)
   (.leaf (.c (.int .i64 (.lit 0))))
   (.node (.eq (.var 1) (.var 3))
    (.node (.eq (.var 2) (.var 4))
     (.leaf (.c (.int .i64 cLLq6)))
     (.node (.eq (.var 8) (.var 10))
      (.node (.eq (.var 9) (.var 11))
       (.leaf (.c (.int .i64 cLLq6)))
       (.node (.eq cLLq4 (.lit 0))
        (.leaf (.c (.int .i64 cLLq6)))
        (.node (.lt cLLq4 (.lit 0))
         (.node (.app 3 cLLq9)
          (.leaf (.c (.int .i64 (.lit 1))))
          (.leaf (.c (.int .i64 (.lit 0)))))
         (.node (.app 3 cLLq8)
          (.leaf (.c (.int .i64 (.lit 1))))
          (.leaf (.c (.int .i64 (.lit 0))))))))
      (.node (.eq cLLq4 (.lit 0))
       (.leaf (.c (.int .i64 cLLq6)))
       (.node (.lt cLLq4 (.lit 0))
        (.node (.app 3 cLLq9)
         (.leaf (.c (.int .i64 (.lit 1))))
         (.leaf (.c (.int .i64 (.lit 0)))))
        (.node (.app 3 cLLq8)
         (.leaf (.c (.int .i64 (.lit 1))))
         (.leaf (.c (.int .i64 (.lit 0)))))))))
    (.node (.eq (.var 8) (.var 10))
     (.node (.eq (.var 9) (.var 11))
      (.leaf (.c (.int .i64 cLLq6)))
      (.node (.eq cLLq4 (.lit 0))
       (.leaf (.c (.int .i64 cLLq6)))
       (.node (.lt cLLq4 (.lit 0))
        (.node (.app 3 cLLq9)
         (.leaf (.c (.int .i64 (.lit 1))))
         (.leaf (.c (.int .i64 (.lit 0)))))
        (.node (.app 3 cLLq8)
         (.leaf (.c (.int .i64 (.lit 1))))
         (.leaf (.c (.int .i64 (.lit 0))))))))
     (.node (.eq cLLq4 (.lit 0))
      (.leaf (.c (.int .i64 cLLq6)))
      (.node (.lt cLLq4 (.lit 0))
       (.node (.app 3 cLLq9)
        (.leaf (.c (.int .i64 (.lit 1))))
        (.leaf (.c (.int .i64 (.lit 0)))))
       (.node (.app 3 cLLq8)
        (.leaf (.c (.int .i64 (.lit 1))))
        (.leaf (.c (.int .i64 (.lit 0)))))))))))
set_option maxRecDepth 1000000 in
theorem cLL_tree : vals (execF Try.prog ctCount 20 11 [.agg [iv 0, iv 1, iv 2, iv 3, iv 4, iv 5, iv 6], .agg [iv 7, iv 8, iv 9, iv 10, iv 11, iv 12, iv 13]] ⟨[], 0, ⟨kcLL, [], 0⟩⟩) = cLLT := by kernel_rfl
set_option maxRecDepth 100000 in
set_option maxHeartbeats 20000000 in
theorem cLL_c (k ax ay bx by' cx cy k2 px py qx qy rx ry : Int) (w : World) (h0 : k = 1) (h1 : k2 = 1) (h2 : checkZ k ax ay bx by' cx cy = 0) (h3 : checkZ k2 px py qx qy rx ry = 0) (h4 : -67108864 ≤ ax) (h5 : ax ≤ 67108864) (h6 : -67108864 ≤ ay) (h7 : ay ≤ 67108864) (h8 : -67108864 ≤ bx) (h9 : bx ≤ 67108864) (h10 : -67108864 ≤ by') (h11 : by' ≤ 67108864) (h12 : -67108864 ≤ cx) (h13 : cx ≤ 67108864) (h14 : -67108864 ≤ cy) (h15 : cy ≤ 67108864) (h16 : -67108864 ≤ px) (h17 : px ≤ 67108864) (h18 : -67108864 ≤ py) (h19 : py ≤ 67108864) (h20 : -67108864 ≤ qx) (h21 : qx ≤ 67108864) (h22 : -67108864 ≤ qy) (h23 : qy ≤ 67108864) (h24 : -67108864 ≤ rx) (h25 : rx ≤ 67108864) (h26 : -67108864 ≤ ry) (h27 : ry ≤ 67108864) (h28 : 0 ≤ radiusZ k ax ay bx by' cx cy) (h29 : radiusZ k ax ay bx by' cx cy ≤ 134217728) (h30 : 0 ≤ radiusZ k2 px py qx qy rx ry) (h31 : radiusZ k2 px py qx qy rx ry ≤ 134217728) :
    Calls Try.prog 11 #[.agg #[.int .i64 k, .int .i64 ax, .int .i64 ay, .int .i64 bx, .int .i64 by', .int .i64 cx, .int .i64 cy], .agg #[.int .i64 k2, .int .i64 px, .int .i64 py, .int .i64 qx, .int .i64 qy, .int .i64 rx, .int .i64 ry]] w (fun e w' => e = .returned (.int .i64 (countOk k ax ay bx by' cx cy k2 px py qx qy rx ry)) ∧ Below w.heap.size w w') := by
  have hk : ∀ p ∈ kcLL, p.1.den IM (envOf [k, ax, ay, bx, by', cx, cy, k2, px, py, qx, qy, rx, ry] []) = p.2 := by
    intro p hp
    simp only [kcLL, List.mem_cons, List.not_mem_nil, or_false] at hp
    rcases hp with rfl | rfl | rfl | rfl | rfl | rfl | rfl | rfl | rfl | rfl | rfl | rfl | rfl | rfl | rfl | rfl | rfl | rfl | rfl | rfl | rfl | rfl | rfl | rfl | rfl | rfl | rfl | rfl | rfl | rfl | rfl | rfl
    · exact B.eq_t.2 h0
    · exact B.eq_t.2 h1
    · exact B.eq_t.2 h2
    · exact B.eq_t.2 h3
    · exact B.lt_f.2 h4
    · exact B.lt_f.2 h5
    · exact B.lt_f.2 h6
    · exact B.lt_f.2 h7
    · exact B.lt_f.2 h8
    · exact B.lt_f.2 h9
    · exact B.lt_f.2 h10
    · exact B.lt_f.2 h11
    · exact B.lt_f.2 h12
    · exact B.lt_f.2 h13
    · exact B.lt_f.2 h14
    · exact B.lt_f.2 h15
    · exact B.lt_f.2 h16
    · exact B.lt_f.2 h17
    · exact B.lt_f.2 h18
    · exact B.lt_f.2 h19
    · exact B.lt_f.2 h20
    · exact B.lt_f.2 h21
    · exact B.lt_f.2 h22
    · exact B.lt_f.2 h23
    · exact B.lt_f.2 h24
    · exact B.lt_f.2 h25
    · exact B.lt_f.2 h26
    · exact B.lt_f.2 h27
    · exact B.lt_f.2 h28
    · exact B.lt_f.2 h29
    · exact B.lt_f.2 h30
    · exact B.lt_f.2 h31
  have key : cLLT.vc IM (envOf [k, ax, ay, bx, by', cx, cy, k2, px, py, qx, qy, rx, ry] []) (fun v => v.wf 0 = true ∧ v.den IM (envOf [k, ax, ay, bx, by', cx, cy, k2, px, py, qx, qy, rx, ry] []) id = .int .i64 (countOk k ax ay bx by' cx cy k2 px py qx qy rx ry)) := ?key
  · exact @calls_litD Try.prog IM (envOf [k, ax, ay, bx, by', cx, cy, k2, px, py, qx, qy, rx, ry] []) mixed nocount ctCount (ctCount_ok _) 20 11 [.agg [iv 0, iv 1, iv 2, iv 3, iv 4, iv 5, iv 6], .agg [iv 7, iv 8, iv 9, iv 10, iv 11, iv 12, iv 13]] ⟨kcLL, [], 0⟩ cLLT w (.int .i64 (countOk k ax ay bx by' cx cy k2 px py qx qy rx ry)) (fun _ h => nomatch h) ⟨hk, (fun _ h => nomatch h), fun _ h => absurd h (Nat.not_lt_zero _)⟩ rfl cLL_tree key
  clear hk
  unfold cLLT countOk
  simp only [h0, h1, and_self, if_true, true_and, false_and, if_false, and_true, and_false, false_or, or_false, ne_eq, not_false_eq_true]
  simp only [Tree.vc]
  repeat' (first | refine And.intro ?_ ?_ | intro _)
  all_goals first | rfl | skip
  all_goals
    simp only [cLLq0, cLLq1, cLLq2, cLLq3, cLLq4, cLLq5, cLLq6, cLLq7, cLLq8, cLLq9, B.lt_t, B.lt_f, B.eq_t, B.eq_f, B.den_var, B.den_lit, B.den_not, B.den_and, B.den_iff, T.den_lit, T.den_var, T.den_wrap, T.den_bin, ev_add, ev_sub, ev_mul, ev_quo, ev_rem, ev_max, ev_min, envOf, List.getD_cons_zero, List.getD_cons_succ, w64, T.den_app, B.den_app, T.dens_cons, T.dens_nil, tlM, im4, im5, im11, im3, decide_eq_true_eq, decide_eq_false_iff_not, V.den, C.den] at *
    refine int_eq ?_
    unfold ovP
    (try unfold lcZ)
    (try unfold ccZ)
    (try unfold cutZ)
    (try unfold crossZ2)
    repeat' split
    all_goals first | rfl | omega | (exfalso; simp_all; done) | (simp_all; done)
end Go.Proofs.Ytmoclgpdcnjacaa.Sx
