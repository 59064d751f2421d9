/- Count, by the program: LC. -/
import Derived.Test.YtmoclgpdcnjacaaMc
set_option linter.all false
set_option autoImplicit false
namespace Go.Proofs.Ytmoclgpdcnjacaa.Sx
open Go Go.RowKit

def cLCq0 : T := (.bin .sub (.lit 0) (.bin .sub (.var 4) (.var 2)))
def cLCq1 : T := (.bin .sub (.lit 0) (.bin .sub (.var 3) (.var 1)))
def cLCq2 : T := (.bin .min (.bin .max (.var 1) (.var 3)) (.bin .max (.var 8) (.var 10)))
def cLCq3 : T := (.bin .max (.bin .min (.var 1) (.var 3)) (.bin .min (.var 8) (.var 10)))
def cLCq4 : T := (.bin .min (.bin .max (.var 2) (.var 4)) (.bin .max (.var 9) (.var 11)))
def cLCq5 : T := (.bin .max (.bin .min (.var 2) (.var 4)) (.bin .min (.var 9) (.var 11)))
def cLCq6 : T := (.cons (.var 7) (.cons (.var 8) (.cons (.var 9) (.cons (.var 10) (.cons (.var 11) (.cons (.var 12) (.cons (.var 13) .nil)))))))
def cLCq7 : T := (.app 5 cLCq6)
def cLCq8 : T := (.bin .mul (.lit 2) (.bin .sub (.bin .mul (.bin .sub (.var 3) (.var 1)) (.bin .sub (.var 2) (.var 13))) (.bin .mul (.bin .sub (.var 4) (.var 2)) (.bin .sub (.var 1) (.var 12)))))
def cLCq9 : T := (.bin .add (.bin .mul cLCq0 cLCq0) (.bin .mul (.bin .sub (.var 3) (.var 1)) (.bin .sub (.var 3) (.var 1))))
def cLCq10 : T := (.bin .sub (.bin .mul (.bin .mul (.lit 4) cLCq9) (.bin .mul cLCq7 cLCq7)) (.bin .mul cLCq8 cLCq8))
def cLCq11 : T := (.cons cLCq8 (.cons (.bin .mul (.lit 2) cLCq9) (.cons cLCq10 (.cons cLCq3 (.cons cLCq5 (.cons cLCq2 (.cons cLCq4 .nil)))))))
def cLCq12 : T := (.cons (.var 12) (.cons (.var 13) (.cons cLCq0 (.cons (.bin .sub (.var 3) (.var 1)) (.cons cLCq1 (.cons cLCq0 cLCq11))))))
def cLCq13 : T := (.cons (.var 12) (.cons (.var 13) (.cons cLCq0 (.cons (.bin .sub (.var 3) (.var 1)) (.cons (.bin .sub (.lit 0) cLCq1) (.cons (.bin .sub (.lit 0) cLCq0) cLCq11))))))
def kcLC : List (B × Bool) := [(.eq (.var 8) (.var 10), false), (.eq (.var 0) (.lit 1), true), (.eq (.var 7) (.lit 1), false), (.eq (.app 4 (tlM [.var 0, .var 1, .var 2, .var 3, .var 4, .var 5, .var 6])) (.lit 0), true), (.eq (.app 4 (tlM [.var 7, .var 8, .var 9, .var 10, .var 11, .var 12, .var 13])) (.lit 0), true), (.lt (.var 1) (.lit (-67108864)), false), (.lt (.lit 67108864) (.var 1), false), (.lt (.var 2) (.lit (-67108864)), false), (.lt (.lit 67108864) (.var 2), false), (.lt (.var 3) (.lit (-67108864)), false), (.lt (.lit 67108864) (.var 3), false), (.lt (.var 4) (.lit (-67108864)), false), (.lt (.lit 67108864) (.var 4), false), (.lt (.var 5) (.lit (-67108864)), false), (.lt (.lit 67108864) (.var 5), false), (.lt (.var 6) (.lit (-67108864)), false), (.lt (.lit 67108864) (.var 6), false), (.lt (.var 8) (.lit (-67108864)), false), (.lt (.lit 67108864) (.var 8), false), (.lt (.var 9) (.lit (-67108864)), false), (.lt (.lit 67108864) (.var 9), false), (.lt (.var 10) (.lit (-67108864)), false), (.lt (.lit 67108864) (.var 10), false), (.lt (.var 11) (.lit (-67108864)), false), (.lt (.lit 67108864) (.var 11), false), (.lt (.var 12) (.lit (-67108864)), false), (.lt (.lit 67108864) (.var 12), false), (.lt (.var 13) (.lit (-67108864)), false), (.lt (.lit 67108864) (.var 13), false), (.lt (.app 5 (tlM [.var 0, .var 1, .var 2, .var 3, .var 4, .var 5, .var 6])) (.lit 0), false), (.lt (.lit 134217728) (.app 5 (tlM [.var 0, .var 1, .var 2, .var 3, .var 4, .var 5, .var 6])), false), (.lt (.app 5 (tlM [.var 7, .var 8, .var 9, .var 10, .var 11, .var 12, .var 13])) (.lit 0), false), (.lt (.lit 134217728) (.app 5 (tlM [.var 7, .var 8, .var 9, .var 10, .var 11, .var 12, .var 13])), false)]
def cLCT : Tree V :=
 (.node (.lt cLCq2 cLCq3)
  (.leaf (.c (.int .i64 (.lit 0))))
  (.node (.lt cLCq4 cLCq5)
   (.leaf (.c (.int .i64 (.lit 0))))
   (.node (.eq (.var 1) (.var 3))
    (.node (.eq (.var 2) (.var 4))
     (.leaf (.c (.int .i64 (.app 11 (.cons (.var 0) (.cons (.var 1) (.cons (.var 2) (.cons (.var 3) (.cons (.var 4) (.cons (.var 5) (.cons (.var 6) cLCq6)))))))))))
     (.node (.lt cLCq10 (.lit 0))
      (.leaf (.c (.int .i64 (.lit 0))))
      (.node (.lt (.lit 0) cLCq10)
       (.node (.app 3 cLCq12)
        (.node (.app 3 cLCq13)
         (.leaf (.c (.int .i64 (.lit 2))))
         (.leaf (.c (.int .i64 (.lit 1)))))
        (.node (.app 3 cLCq13)
         (.leaf (.c (.int .i64 (.lit 1))))
         (.leaf (.c (.int .i64 (.lit 0))))))
       (.node (.app 3 cLCq12)
        (.leaf (.c (.int .i64 (.lit 1))))
        (.leaf (.c (.int .i64 (.lit 0))))))))
    (.node (.lt cLCq10 (.lit 0))
     (.leaf (.c (.int .i64 (.lit 0))))
     (.node (.lt (.lit 0) cLCq10)
      (.node (.app 3 cLCq12)
       (.node (.app 3 cLCq13)
        (.leaf (.c (.int .i64 (.lit 2))))
        (.leaf (.c (.int .i64 (.lit 1)))))
       (.node (.app 3 cLCq13)
        (.leaf (.c (.int .i64 (.lit 1))))
        (.leaf (.c (.int .i64 (.lit 0))))))
      (.node (.app 3 cLCq12)
       (.leaf (.c (.int .i64 (.lit 1))))
       (.leaf (.c (.int .i64 (.lit 0))))))))))
set_option maxRecDepth 1000000 in
theorem cLC_tree : vals (execF Try.prog ctCount 20 11 [.agg [iv 0, iv 1, iv 2, iv 3, iv 4, iv 5, iv 6], .agg [iv 7, iv 8, iv 9, iv 10, iv 11, iv 12, iv 13]] ⟨[], 0, ⟨kcLC, [], 0⟩⟩) = cLCT := by kernel_rfl
set_option maxRecDepth 100000 in
set_option maxHeartbeats 20000000 in
theorem cLC_c (k ax ay bx by' cx cy k2 px py qx qy rx ry : Int) (w : World) (h0 : px ≠ qx) (h1 : k = 1) (h2 : k2 ≠ 1) (h3 : checkZ k ax ay bx by' cx cy = 0) (h4 : checkZ k2 px py qx qy rx ry = 0) (h5 : -67108864 ≤ ax) (h6 : ax ≤ 67108864) (h7 : -67108864 ≤ ay) (h8 : ay ≤ 67108864) (h9 : -67108864 ≤ bx) (h10 : bx ≤ 67108864) (h11 : -67108864 ≤ by') (h12 : by' ≤ 67108864) (h13 : -67108864 ≤ cx) (h14 : cx ≤ 67108864) (h15 : -67108864 ≤ cy) (h16 : cy ≤ 67108864) (h17 : -67108864 ≤ px) (h18 : px ≤ 67108864) (h19 : -67108864 ≤ py) (h20 : py ≤ 67108864) (h21 : -67108864 ≤ qx) (h22 : qx ≤ 67108864) (h23 : -67108864 ≤ qy) (h24 : qy ≤ 67108864) (h25 : -67108864 ≤ rx) (h26 : rx ≤ 67108864) (h27 : -67108864 ≤ ry) (h28 : ry ≤ 67108864) (h29 : 0 ≤ radiusZ k ax ay bx by' cx cy) (h30 : radiusZ k ax ay bx by' cx cy ≤ 134217728) (h31 : 0 ≤ radiusZ k2 px py qx qy rx ry) (h32 : radiusZ k2 px py qx qy rx ry ≤ 134217728) :
    Calls Try.prog 11 #[.agg #[.int .i64 k, .int .i64 ax, .int .i64 ay, .int .i64 bx, .int .i64 by', .int .i64 cx, .int .i64 cy], .agg #[.int .i64 k2, .int .i64 px, .int .i64 py, .int .i64 qx, .int .i64 qy, .int .i64 rx, .int .i64 ry]] w (fun e w' => e = .returned (.int .i64 (countOk k ax ay bx by' cx cy k2 px py qx qy rx ry)) ∧ Below w.heap.size w w') := by
  have hk : ∀ p ∈ kcLC, p.1.den IM (envOf [k, ax, ay, bx, by', cx, cy, k2, px, py, qx, qy, rx, ry] []) = p.2 := by
    intro p hp
    simp only [kcLC, List.mem_cons, List.not_mem_nil, or_false] at hp
    rcases hp with rfl | rfl | rfl | rfl | rfl | rfl | rfl | rfl | rfl | rfl | rfl | rfl | rfl | rfl | rfl | rfl | rfl | rfl | rfl | rfl | rfl | rfl | rfl | rfl | rfl | rfl | rfl | rfl | rfl | rfl | rfl | rfl | rfl
    · exact B.eq_f.2 h0
    · exact B.eq_t.2 h1
    · exact B.eq_f.2 h2
    · exact B.eq_t.2 h3
    · exact B.eq_t.2 h4
    · exact B.lt_f.2 h5
    · exact B.lt_f.2 h6
    · exact B.lt_f.2 h7
    · exact B.lt_f.2 h8
    · exact B.lt_f.2 h9
    · exact B.lt_f.2 h10
    · exact B.lt_f.2 h11
    · exact B.lt_f.2 h12
    · exact B.lt_f.2 h13
    · exact B.lt_f.2 h14
    · exact B.lt_f.2 h15
    · exact B.lt_f.2 h16
    · exact B.lt_f.2 h17
    · exact B.lt_f.2 h18
    · exact B.lt_f.2 h19
    · exact B.lt_f.2 h20
    · exact B.lt_f.2 h21
    · exact B.lt_f.2 h22
    · exact B.lt_f.2 h23
    · exact B.lt_f.2 h24
    · exact B.lt_f.2 h25
    · exact B.lt_f.2 h26
    · exact B.lt_f.2 h27
    · exact B.lt_f.2 h28
    · exact B.lt_f.2 h29
    · exact B.lt_f.2 h30
    · exact B.lt_f.2 h31
    · exact B.lt_f.2 h32
  have key : cLCT.vc IM (envOf [k, ax, ay, bx, by', cx, cy, k2, px, py, qx, qy, rx, ry] []) (fun v => v.wf 0 = true ∧ v.den IM (envOf [k, ax, ay, bx, by', cx, cy, k2, px, py, qx, qy, rx, ry] []) id = .int .i64 (countOk k ax ay bx by' cx cy k2 px py qx qy rx ry)) := ?key
  · exact @calls_litD Try.prog IM (envOf [k, ax, ay, bx, by', cx, cy, k2, px, py, qx, qy, rx, ry] []) mixed nocount ctCount (ctCount_ok _) 20 11 [.agg [iv 0, iv 1, iv 2, iv 3, iv 4, iv 5, iv 6], .agg [iv 7, iv 8, iv 9, iv 10, iv 11, iv 12, iv 13]] ⟨kcLC, [], 0⟩ cLCT w (.int .i64 (countOk k ax ay bx by' cx cy k2 px py qx qy rx ry)) (fun _ h => nomatch h) ⟨hk, (fun _ h => nomatch h), fun _ h => absurd h (Nat.not_lt_zero _)⟩ rfl cLC_tree key
  clear hk
  unfold cLCT countOk
  simp only [h0, h1, h2, and_self, if_true, true_and, false_and, if_false, and_true, and_false, false_or, or_false, ne_eq, not_false_eq_true]
  simp only [Tree.vc]
  repeat' (first | refine And.intro ?_ ?_ | intro _)
  all_goals first | rfl | skip
  all_goals
    simp only [cLCq0, cLCq1, cLCq2, cLCq3, cLCq4, cLCq5, cLCq6, cLCq7, cLCq8, cLCq9, cLCq10, cLCq11, cLCq12, cLCq13, B.lt_t, B.lt_f, B.eq_t, B.eq_f, B.den_var, B.den_lit, B.den_not, B.den_and, B.den_iff, T.den_lit, T.den_var, T.den_wrap, T.den_bin, ev_add, ev_sub, ev_mul, ev_quo, ev_rem, ev_max, ev_min, envOf, List.getD_cons_zero, List.getD_cons_succ, w64, T.den_app, B.den_app, T.dens_cons, T.dens_nil, tlM, im4, im5, im11, im3, decide_eq_true_eq, decide_eq_false_iff_not, V.den, C.den] at *
    refine int_eq ?_
    unfold ovP
    (try unfold lcZ)
    (try unfold ccZ)
    (try unfold cutZ)
    (try unfold crossZ2)
    repeat' split
    all_goals first | rfl | omega | (exfalso; simp_all; done) | (simp_all; done)
end Go.Proofs.Ytmoclgpdcnjacaa.Sx
