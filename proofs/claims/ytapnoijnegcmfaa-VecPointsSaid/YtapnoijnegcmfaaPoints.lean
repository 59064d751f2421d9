/- VecPoints, as a walk. -/
import Derived.Test.YtapnoijnegcmfaaOws
import Derived.Deep.Cut
set_option linter.all false
namespace Go.Proofs.Ytapnoijnegcmfaa
open Go Go.RowKit Go.Shelf

def pts5_0V (w : World) (x0 y0 x1 y1 x2 y2 : Int) (W0 : World) (w1 : World) : Nat → Value
  | 0 => .pointer (some ⟨w.heap.size, 0, none⟩)
  | 1 => .agg #[.int .i64 x0, .int .i64 y0]
  | 2 => .pointer (some ⟨w.heap.size, 2, none⟩)
  | 3 => .agg #[.int .i64 x1, .int .i64 y1]
  | 4 => .pointer (some ⟨w.heap.size, 4, none⟩)
  | 5 => .agg #[.int .i64 x2, .int .i64 y2]
  | _ => undef
def pts5_0F (w : World) (x0 y0 x1 y1 x2 y2 : Int) (W0 : World) (w1 : World) : Nat → Value → Prop
  | 6, _ => True
  | 7, _ => True
  | 8, _ => True
  | 9, _ => True
  | 10, _ => True
  | 11, _ => True
  | j, v => v = pts5_0V w x0 y0 x1 y1 x2 y2 W0 w1 j
def pts6_0V (w : World) (x0 y0 x1 y1 x2 y2 : Int) (W0 : World) (w1 : World) (wfpts5_0 : World) (ga0 gb0 gc0 : Nat) (tvr0 : Nat → Value) : Nat → Value
  | 0 => .agg #[.int .i64 x0, .int .i64 y0]
  | 1 => .bool (rightB x0 y0)
  | 2 => .agg #[.int .i64 x0, .int .i64 y0]
  | 3 => .bool (rightB x0 y0)
  | 4 => .bool true
  | 5 => .bool true
  | 6 => .agg #[.int .i64 x0, .int .i64 y0]
  | 7 => .agg #[.int .i64 x1, .int .i64 y1]
  | 8 => .agg #[.int .i64 (wrap64 (x0 + x1)), .int .i64 (wrap64 (y0 + y1))]
  | 9 => .agg #[.int .i64 x0, .int .i64 y0]
  | 10 => .agg #[.int .i64 x1, .int .i64 y1]
  | 11 => .agg #[.int .i64 (wrap64 (x0 + x1)), .int .i64 (wrap64 (y0 + y1))]
  | 12 => .bool true
  | 13 => .bool true
  | 14 => .bool true
  | 15 => .agg #[.int .i64 x0, .int .i64 y0]
  | 16 => .agg #[.int .i64 x1, .int .i64 y1]
  | 17 => .agg #[.int .i64 (wrap64 (x0 - x1)), .int .i64 (wrap64 (y0 - y1))]
  | 18 => .agg #[.int .i64 x0, .int .i64 y0]
  | 19 => .agg #[.int .i64 x1, .int .i64 y1]
  | 20 => .agg #[.int .i64 (wrap64 (x0 - x1)), .int .i64 (wrap64 (y0 - y1))]
  | 21 => .bool true
  | 22 => .bool true
  | _ => undef
def pts6_0F (w : World) (x0 y0 x1 y1 x2 y2 : Int) (W0 : World) (w1 : World) (wfpts5_0 : World) (ga0 gb0 gc0 : Nat) (tvr0 : Nat → Value) (j : Nat) (v : Value) : Prop := v = pts6_0V w x0 y0 x1 y1 x2 y2 W0 w1 wfpts5_0 ga0 gb0 gc0 tvr0 j
def pts7_0V (w : World) (x0 y0 x1 y1 x2 y2 : Int) (W0 : World) (w1 : World) (wfpts5_0 : World) (ga0 gb0 gc0 : Nat) (tvr0 : Nat → Value) (wfpts6_0 : World) (tvpts6_0 : Nat → Value) : Nat → Value
  | 0 => .agg #[.int .i64 x0, .int .i64 y0]
  | 1 => .agg #[.int .i64 x1, .int .i64 y1]
  | 2 => .int .i64 (crossZ x0 y0 x1 y1)
  | 3 => .agg #[.int .i64 x0, .int .i64 y0]
  | 4 => .agg #[.int .i64 x1, .int .i64 y1]
  | 5 => .int .i64 (crossZ x0 y0 x1 y1)
  | 6 => .bool true
  | 7 => .bool true
  | 8 => .agg #[.int .i64 x0, .int .i64 y0]
  | 9 => .agg #[.int .i64 x1, .int .i64 y1]
  | 10 => .int .i64 (dotZ x0 y0 x1 y1)
  | 11 => .agg #[.int .i64 x0, .int .i64 y0]
  | 12 => .agg #[.int .i64 x1, .int .i64 y1]
  | 13 => .int .i64 (dotZ x0 y0 x1 y1)
  | 14 => .bool true
  | 15 => .bool true
  | 16 => .bool true
  | 17 => .agg #[.int .i64 x0, .int .i64 y0]
  | 18 => .agg #[.int .i64 x1, .int .i64 y1]
  | 19 => .agg #[.int .i64 x2, .int .i64 y2]
  | 20 => .int .i64 (sideZ x0 y0 x1 y1 x2 y2)
  | 21 => .agg #[.int .i64 x0, .int .i64 y0]
  | 22 => .agg #[.int .i64 x1, .int .i64 y1]
  | 23 => .agg #[.int .i64 x2, .int .i64 y2]
  | 24 => .int .i64 (sideZ x0 y0 x1 y1 x2 y2)
  | 25 => .bool true
  | 26 => .bool true
  | 27 => .bool true
  | 28 => .agg #[.int .i64 x0, .int .i64 y0]
  | 29 => .agg #[.int .i64 x1, .int .i64 y1]
  | 30 => .agg #[.int .i64 x2, .int .i64 y2]
  | 31 => .bool (withinB x0 y0 x1 y1 x2 y2)
  | 32 => .agg #[.int .i64 x0, .int .i64 y0]
  | 33 => .agg #[.int .i64 x1, .int .i64 y1]
  | 34 => .agg #[.int .i64 x2, .int .i64 y2]
  | 35 => .bool (withinB x0 y0 x1 y1 x2 y2)
  | 36 => .bool true
  | 37 => .bool true
  | _ => undef
def pts7_0F (w : World) (x0 y0 x1 y1 x2 y2 : Int) (W0 : World) (w1 : World) (wfpts5_0 : World) (ga0 gb0 gc0 : Nat) (tvr0 : Nat → Value) (wfpts6_0 : World) (tvpts6_0 : Nat → Value) (j : Nat) (v : Value) : Prop := v = pts7_0V w x0 y0 x1 y1 x2 y2 W0 w1 wfpts5_0 ga0 gb0 gc0 tvr0 wfpts6_0 tvpts6_0 j
def pts13_00V (w : World) (x0 y0 x1 y1 x2 y2 : Int) (W0 : World) (w1 : World) (wfpts5_0 : World) (ga0 gb0 gc0 : Nat) (tvr0 : Nat → Value) (wfpts6_0 : World) (tvpts6_0 : Nat → Value) (wfpts7_0 : World) (tvpts7_0 : Nat → Value) : Nat → Value
  | 0 => .int .i64 0
  | 1 => .int .i64 0
  | 2 => .pointer (some ⟨w.heap.size, 0, none⟩)
  | 3 => .pointer (some ⟨w.heap.size, 0, none⟩)
  | 4 => .int .i64 x0
  | 5 => .int .i64 (x0.tmod 100)
  | 6 => .int .i64 0
  | 7 => .pointer (some ⟨w.heap.size, 0, none⟩)
  | 8 => .pointer (some ⟨w.heap.size, 1, none⟩)
  | 9 => .int .i64 y0
  | 10 => .int .i64 (y0.tmod 100)
  | 11 => .agg #[.int .i64 (x0.tmod 100), .int .i64 (y0.tmod 100)]
  | _ => undef
def pts13_00F (w : World) (x0 y0 x1 y1 x2 y2 : Int) (W0 : World) (w1 : World) (wfpts5_0 : World) (ga0 gb0 gc0 : Nat) (tvr0 : Nat → Value) (wfpts6_0 : World) (tvpts6_0 : Nat → Value) (wfpts7_0 : World) (tvpts7_0 : Nat → Value) (j : Nat) (v : Value) : Prop := v = pts13_00V w x0 y0 x1 y1 x2 y2 W0 w1 wfpts5_0 ga0 gb0 gc0 tvr0 wfpts6_0 tvpts6_0 wfpts7_0 tvpts7_0 j
def pts13_01V (w : World) (x0 y0 x1 y1 x2 y2 : Int) (W0 : World) (w1 : World) (wfpts5_0 : World) (ga0 gb0 gc0 : Nat) (tvr0 : Nat → Value) (wfpts6_0 : World) (tvpts6_0 : Nat → Value) (wfpts7_0 : World) (tvpts7_0 : Nat → Value) (wfpts13_00 : World) (tvpts13_00 : Nat → Value) (ux00 uy00 : Int) (V00 : World) : Nat → Value
  | 0 => .int .i64 1
  | 1 => .int .i64 1
  | 2 => .pointer (some ⟨w.heap.size, 2, none⟩)
  | 3 => .pointer (some ⟨w.heap.size, 2, none⟩)
  | 4 => .int .i64 x1
  | 5 => .int .i64 (x1.tmod 100)
  | 6 => .int .i64 1
  | 7 => .pointer (some ⟨w.heap.size, 2, none⟩)
  | 8 => .pointer (some ⟨w.heap.size, 3, none⟩)
  | 9 => .int .i64 y1
  | 10 => .int .i64 (y1.tmod 100)
  | 11 => .agg #[.int .i64 (x1.tmod 100), .int .i64 (y1.tmod 100)]
  | _ => undef
def pts13_01F (w : World) (x0 y0 x1 y1 x2 y2 : Int) (W0 : World) (w1 : World) (wfpts5_0 : World) (ga0 gb0 gc0 : Nat) (tvr0 : Nat → Value) (wfpts6_0 : World) (tvpts6_0 : Nat → Value) (wfpts7_0 : World) (tvpts7_0 : Nat → Value) (wfpts13_00 : World) (tvpts13_00 : Nat → Value) (ux00 uy00 : Int) (V00 : World) (j : Nat) (v : Value) : Prop := v = pts13_01V w x0 y0 x1 y1 x2 y2 W0 w1 wfpts5_0 ga0 gb0 gc0 tvr0 wfpts6_0 tvpts6_0 wfpts7_0 tvpts7_0 wfpts13_00 tvpts13_00 ux00 uy00 V00 j
def pts13_02V (w : World) (x0 y0 x1 y1 x2 y2 : Int) (W0 : World) (w1 : World) (wfpts5_0 : World) (ga0 gb0 gc0 : Nat) (tvr0 : Nat → Value) (wfpts6_0 : World) (tvpts6_0 : Nat → Value) (wfpts7_0 : World) (tvpts7_0 : Nat → Value) (wfpts13_00 : World) (tvpts13_00 : Nat → Value) (ux00 uy00 : Int) (V00 : World) (wfpts13_01 : World) (tvpts13_01 : Nat → Value) (ux01 uy01 : Int) (V01 : World) : Nat → Value
  | 0 => .int .i64 2
  | 1 => .int .i64 2
  | 2 => .pointer (some ⟨w.heap.size, 4, none⟩)
  | 3 => .pointer (some ⟨w.heap.size, 4, none⟩)
  | 4 => .int .i64 x2
  | 5 => .int .i64 (x2.tmod 100)
  | 6 => .int .i64 2
  | 7 => .pointer (some ⟨w.heap.size, 4, none⟩)
  | 8 => .pointer (some ⟨w.heap.size, 5, none⟩)
  | 9 => .int .i64 y2
  | 10 => .int .i64 (y2.tmod 100)
  | 11 => .agg #[.int .i64 (x2.tmod 100), .int .i64 (y2.tmod 100)]
  | _ => undef
def pts13_02F (w : World) (x0 y0 x1 y1 x2 y2 : Int) (W0 : World) (w1 : World) (wfpts5_0 : World) (ga0 gb0 gc0 : Nat) (tvr0 : Nat → Value) (wfpts6_0 : World) (tvpts6_0 : Nat → Value) (wfpts7_0 : World) (tvpts7_0 : Nat → Value) (wfpts13_00 : World) (tvpts13_00 : Nat → Value) (ux00 uy00 : Int) (V00 : World) (wfpts13_01 : World) (tvpts13_01 : Nat → Value) (ux01 uy01 : Int) (V01 : World) (j : Nat) (v : Value) : Prop := v = pts13_02V w x0 y0 x1 y1 x2 y2 W0 w1 wfpts5_0 ga0 gb0 gc0 tvr0 wfpts6_0 tvpts6_0 wfpts7_0 tvpts7_0 wfpts13_00 tvpts13_00 ux00 uy00 V00 wfpts13_01 tvpts13_01 ux01 uy01 V01 j
def pts5_1V (w : World) (x0 y0 x1 y1 x2 y2 : Int) (W0 : World) (w1 : World) (wfpts5_0 : World) (ga0 gb0 gc0 : Nat) (tvr0 : Nat → Value) (wfpts6_0 : World) (tvpts6_0 : Nat → Value) (wfpts7_0 : World) (tvpts7_0 : Nat → Value) (wfpts13_00 : World) (tvpts13_00 : Nat → Value) (ux00 uy00 : Int) (V00 : World) (wfpts13_01 : World) (tvpts13_01 : Nat → Value) (ux01 uy01 : Int) (V01 : World) (wfpts13_02 : World) (tvpts13_02 : Nat → Value) (ux02 uy02 : Int) (V02 : World) : Nat → Value
  | 0 => .pointer (some ⟨w.heap.size, 0, none⟩)
  | 1 => .agg #[.int .i64 ux00, .int .i64 uy00]
  | 2 => .pointer (some ⟨w.heap.size, 2, none⟩)
  | 3 => .agg #[.int .i64 ux01, .int .i64 uy01]
  | 4 => .pointer (some ⟨w.heap.size, 4, none⟩)
  | 5 => .agg #[.int .i64 ux02, .int .i64 uy02]
  | _ => undef
def pts5_1F (w : World) (x0 y0 x1 y1 x2 y2 : Int) (W0 : World) (w1 : World) (wfpts5_0 : World) (ga0 gb0 gc0 : Nat) (tvr0 : Nat → Value) (wfpts6_0 : World) (tvpts6_0 : Nat → Value) (wfpts7_0 : World) (tvpts7_0 : Nat → Value) (wfpts13_00 : World) (tvpts13_00 : Nat → Value) (ux00 uy00 : Int) (V00 : World) (wfpts13_01 : World) (tvpts13_01 : Nat → Value) (ux01 uy01 : Int) (V01 : World) (wfpts13_02 : World) (tvpts13_02 : Nat → Value) (ux02 uy02 : Int) (V02 : World) : Nat → Value → Prop
  | 6, _ => True
  | 7, _ => True
  | 8, _ => True
  | 9, _ => True
  | 10, _ => True
  | 11, _ => True
  | j, v => v = pts5_1V w x0 y0 x1 y1 x2 y2 W0 w1 wfpts5_0 ga0 gb0 gc0 tvr0 wfpts6_0 tvpts6_0 wfpts7_0 tvpts7_0 wfpts13_00 tvpts13_00 ux00 uy00 V00 wfpts13_01 tvpts13_01 ux01 uy01 V01 wfpts13_02 tvpts13_02 ux02 uy02 V02 j
def pts6_1V (w : World) (x0 y0 x1 y1 x2 y2 : Int) (W0 : World) (w1 : World) (wfpts5_0 : World) (ga0 gb0 gc0 : Nat) (tvr0 : Nat → Value) (wfpts6_0 : World) (tvpts6_0 : Nat → Value) (wfpts7_0 : World) (tvpts7_0 : Nat → Value) (wfpts13_00 : World) (tvpts13_00 : Nat → Value) (ux00 uy00 : Int) (V00 : World) (wfpts13_01 : World) (tvpts13_01 : Nat → Value) (ux01 uy01 : Int) (V01 : World) (wfpts13_02 : World) (tvpts13_02 : Nat → Value) (ux02 uy02 : Int) (V02 : World) (wfpts5_1 : World) (ga1 gb1 gc1 : Nat) (tvr1 : Nat → Value) : Nat → Value
  | 0 => .agg #[.int .i64 ux00, .int .i64 uy00]
  | 1 => .bool (rightB ux00 uy00)
  | 2 => .agg #[.int .i64 ux00, .int .i64 uy00]
  | 3 => .bool (rightB ux00 uy00)
  | 4 => .bool true
  | 5 => .bool true
  | 6 => .agg #[.int .i64 ux00, .int .i64 uy00]
  | 7 => .agg #[.int .i64 ux01, .int .i64 uy01]
  | 8 => .agg #[.int .i64 (wrap64 (ux00 + ux01)), .int .i64 (wrap64 (uy00 + uy01))]
  | 9 => .agg #[.int .i64 ux00, .int .i64 uy00]
  | 10 => .agg #[.int .i64 ux01, .int .i64 uy01]
  | 11 => .agg #[.int .i64 (wrap64 (ux00 + ux01)), .int .i64 (wrap64 (uy00 + uy01))]
  | 12 => .bool true
  | 13 => .bool true
  | 14 => .bool true
  | 15 => .agg #[.int .i64 ux00, .int .i64 uy00]
  | 16 => .agg #[.int .i64 ux01, .int .i64 uy01]
  | 17 => .agg #[.int .i64 (wrap64 (ux00 - ux01)), .int .i64 (wrap64 (uy00 - uy01))]
  | 18 => .agg #[.int .i64 ux00, .int .i64 uy00]
  | 19 => .agg #[.int .i64 ux01, .int .i64 uy01]
  | 20 => .agg #[.int .i64 (wrap64 (ux00 - ux01)), .int .i64 (wrap64 (uy00 - uy01))]
  | 21 => .bool true
  | 22 => .bool true
  | _ => undef
def pts6_1F (w : World) (x0 y0 x1 y1 x2 y2 : Int) (W0 : World) (w1 : World) (wfpts5_0 : World) (ga0 gb0 gc0 : Nat) (tvr0 : Nat → Value) (wfpts6_0 : World) (tvpts6_0 : Nat → Value) (wfpts7_0 : World) (tvpts7_0 : Nat → Value) (wfpts13_00 : World) (tvpts13_00 : Nat → Value) (ux00 uy00 : Int) (V00 : World) (wfpts13_01 : World) (tvpts13_01 : Nat → Value) (ux01 uy01 : Int) (V01 : World) (wfpts13_02 : World) (tvpts13_02 : Nat → Value) (ux02 uy02 : Int) (V02 : World) (wfpts5_1 : World) (ga1 gb1 gc1 : Nat) (tvr1 : Nat → Value) (j : Nat) (v : Value) : Prop := v = pts6_1V w x0 y0 x1 y1 x2 y2 W0 w1 wfpts5_0 ga0 gb0 gc0 tvr0 wfpts6_0 tvpts6_0 wfpts7_0 tvpts7_0 wfpts13_00 tvpts13_00 ux00 uy00 V00 wfpts13_01 tvpts13_01 ux01 uy01 V01 wfpts13_02 tvpts13_02 ux02 uy02 V02 wfpts5_1 ga1 gb1 gc1 tvr1 j
def pts7_1V (w : World) (x0 y0 x1 y1 x2 y2 : Int) (W0 : World) (w1 : World) (wfpts5_0 : World) (ga0 gb0 gc0 : Nat) (tvr0 : Nat → Value) (wfpts6_0 : World) (tvpts6_0 : Nat → Value) (wfpts7_0 : World) (tvpts7_0 : Nat → Value) (wfpts13_00 : World) (tvpts13_00 : Nat → Value) (ux00 uy00 : Int) (V00 : World) (wfpts13_01 : World) (tvpts13_01 : Nat → Value) (ux01 uy01 : Int) (V01 : World) (wfpts13_02 : World) (tvpts13_02 : Nat → Value) (ux02 uy02 : Int) (V02 : World) (wfpts5_1 : World) (ga1 gb1 gc1 : Nat) (tvr1 : Nat → Value) (wfpts6_1 : World) (tvpts6_1 : Nat → Value) : Nat → Value
  | 0 => .agg #[.int .i64 ux00, .int .i64 uy00]
  | 1 => .agg #[.int .i64 ux01, .int .i64 uy01]
  | 2 => .int .i64 (crossZ ux00 uy00 ux01 uy01)
  | 3 => .agg #[.int .i64 ux00, .int .i64 uy00]
  | 4 => .agg #[.int .i64 ux01, .int .i64 uy01]
  | 5 => .int .i64 (crossZ ux00 uy00 ux01 uy01)
  | 6 => .bool true
  | 7 => .bool true
  | 8 => .agg #[.int .i64 ux00, .int .i64 uy00]
  | 9 => .agg #[.int .i64 ux01, .int .i64 uy01]
  | 10 => .int .i64 (dotZ ux00 uy00 ux01 uy01)
  | 11 => .agg #[.int .i64 ux00, .int .i64 uy00]
  | 12 => .agg #[.int .i64 ux01, .int .i64 uy01]
  | 13 => .int .i64 (dotZ ux00 uy00 ux01 uy01)
  | 14 => .bool true
  | 15 => .bool true
  | 16 => .bool true
  | 17 => .agg #[.int .i64 ux00, .int .i64 uy00]
  | 18 => .agg #[.int .i64 ux01, .int .i64 uy01]
  | 19 => .agg #[.int .i64 ux02, .int .i64 uy02]
  | 20 => .int .i64 (sideZ ux00 uy00 ux01 uy01 ux02 uy02)
  | 21 => .agg #[.int .i64 ux00, .int .i64 uy00]
  | 22 => .agg #[.int .i64 ux01, .int .i64 uy01]
  | 23 => .agg #[.int .i64 ux02, .int .i64 uy02]
  | 24 => .int .i64 (sideZ ux00 uy00 ux01 uy01 ux02 uy02)
  | 25 => .bool true
  | 26 => .bool true
  | 27 => .bool true
  | 28 => .agg #[.int .i64 ux00, .int .i64 uy00]
  | 29 => .agg #[.int .i64 ux01, .int .i64 uy01]
  | 30 => .agg #[.int .i64 ux02, .int .i64 uy02]
  | 31 => .bool (withinB ux00 uy00 ux01 uy01 ux02 uy02)
  | 32 => .agg #[.int .i64 ux00, .int .i64 uy00]
  | 33 => .agg #[.int .i64 ux01, .int .i64 uy01]
  | 34 => .agg #[.int .i64 ux02, .int .i64 uy02]
  | 35 => .bool (withinB ux00 uy00 ux01 uy01 ux02 uy02)
  | 36 => .bool true
  | 37 => .bool true
  | _ => undef
def pts7_1F (w : World) (x0 y0 x1 y1 x2 y2 : Int) (W0 : World) (w1 : World) (wfpts5_0 : World) (ga0 gb0 gc0 : Nat) (tvr0 : Nat → Value) (wfpts6_0 : World) (tvpts6_0 : Nat → Value) (wfpts7_0 : World) (tvpts7_0 : Nat → Value) (wfpts13_00 : World) (tvpts13_00 : Nat → Value) (ux00 uy00 : Int) (V00 : World) (wfpts13_01 : World) (tvpts13_01 : Nat → Value) (ux01 uy01 : Int) (V01 : World) (wfpts13_02 : World) (tvpts13_02 : Nat → Value) (ux02 uy02 : Int) (V02 : World) (wfpts5_1 : World) (ga1 gb1 gc1 : Nat) (tvr1 : Nat → Value) (wfpts6_1 : World) (tvpts6_1 : Nat → Value) (j : Nat) (v : Value) : Prop := v = pts7_1V w x0 y0 x1 y1 x2 y2 W0 w1 wfpts5_0 ga0 gb0 gc0 tvr0 wfpts6_0 tvpts6_0 wfpts7_0 tvpts7_0 wfpts13_00 tvpts13_00 ux00 uy00 V00 wfpts13_01 tvpts13_01 ux01 uy01 V01 wfpts13_02 tvpts13_02 ux02 uy02 V02 wfpts5_1 ga1 gb1 gc1 tvr1 wfpts6_1 tvpts6_1 j
def pts13_10V (w : World) (x0 y0 x1 y1 x2 y2 : Int) (W0 : World) (w1 : World) (wfpts5_0 : World) (ga0 gb0 gc0 : Nat) (tvr0 : Nat → Value) (wfpts6_0 : World) (tvpts6_0 : Nat → Value) (wfpts7_0 : World) (tvpts7_0 : Nat → Value) (wfpts13_00 : World) (tvpts13_00 : Nat → Value) (ux00 uy00 : Int) (V00 : World) (wfpts13_01 : World) (tvpts13_01 : Nat → Value) (ux01 uy01 : Int) (V01 : World) (wfpts13_02 : World) (tvpts13_02 : Nat → Value) (ux02 uy02 : Int) (V02 : World) (wfpts5_1 : World) (ga1 gb1 gc1 : Nat) (tvr1 : Nat → Value) (wfpts6_1 : World) (tvpts6_1 : Nat → Value) (wfpts7_1 : World) (tvpts7_1 : Nat → Value) : Nat → Value
  | 0 => .int .i64 0
  | 1 => .int .i64 0
  | 2 => .pointer (some ⟨w.heap.size, 0, none⟩)
  | 3 => .pointer (some ⟨w.heap.size, 0, none⟩)
  | 4 => .int .i64 ux00
  | 5 => .int .i64 (ux00.tmod 100)
  | 6 => .int .i64 0
  | 7 => .pointer (some ⟨w.heap.size, 0, none⟩)
  | 8 => .pointer (some ⟨w.heap.size, 1, none⟩)
  | 9 => .int .i64 uy00
  | 10 => .int .i64 (uy00.tmod 100)
  | 11 => .agg #[.int .i64 (ux00.tmod 100), .int .i64 (uy00.tmod 100)]
  | _ => undef
def pts13_10F (w : World) (x0 y0 x1 y1 x2 y2 : Int) (W0 : World) (w1 : World) (wfpts5_0 : World) (ga0 gb0 gc0 : Nat) (tvr0 : Nat → Value) (wfpts6_0 : World) (tvpts6_0 : Nat → Value) (wfpts7_0 : World) (tvpts7_0 : Nat → Value) (wfpts13_00 : World) (tvpts13_00 : Nat → Value) (ux00 uy00 : Int) (V00 : World) (wfpts13_01 : World) (tvpts13_01 : Nat → Value) (ux01 uy01 : Int) (V01 : World) (wfpts13_02 : World) (tvpts13_02 : Nat → Value) (ux02 uy02 : Int) (V02 : World) (wfpts5_1 : World) (ga1 gb1 gc1 : Nat) (tvr1 : Nat → Value) (wfpts6_1 : World) (tvpts6_1 : Nat → Value) (wfpts7_1 : World) (tvpts7_1 : Nat → Value) (j : Nat) (v : Value) : Prop := v = pts13_10V w x0 y0 x1 y1 x2 y2 W0 w1 wfpts5_0 ga0 gb0 gc0 tvr0 wfpts6_0 tvpts6_0 wfpts7_0 tvpts7_0 wfpts13_00 tvpts13_00 ux00 uy00 V00 wfpts13_01 tvpts13_01 ux01 uy01 V01 wfpts13_02 tvpts13_02 ux02 uy02 V02 wfpts5_1 ga1 gb1 gc1 tvr1 wfpts6_1 tvpts6_1 wfpts7_1 tvpts7_1 j
def pts13_11V (w : World) (x0 y0 x1 y1 x2 y2 : Int) (W0 : World) (w1 : World) (wfpts5_0 : World) (ga0 gb0 gc0 : Nat) (tvr0 : Nat → Value) (wfpts6_0 : World) (tvpts6_0 : Nat → Value) (wfpts7_0 : World) (tvpts7_0 : Nat → Value) (wfpts13_00 : World) (tvpts13_00 : Nat → Value) (ux00 uy00 : Int) (V00 : World) (wfpts13_01 : World) (tvpts13_01 : Nat → Value) (ux01 uy01 : Int) (V01 : World) (wfpts13_02 : World) (tvpts13_02 : Nat → Value) (ux02 uy02 : Int) (V02 : World) (wfpts5_1 : World) (ga1 gb1 gc1 : Nat) (tvr1 : Nat → Value) (wfpts6_1 : World) (tvpts6_1 : Nat → Value) (wfpts7_1 : World) (tvpts7_1 : Nat → Value) (wfpts13_10 : World) (tvpts13_10 : Nat → Value) (ux10 uy10 : Int) (V10 : World) : Nat → Value
  | 0 => .int .i64 1
  | 1 => .int .i64 1
  | 2 => .pointer (some ⟨w.heap.size, 2, none⟩)
  | 3 => .pointer (some ⟨w.heap.size, 2, none⟩)
  | 4 => .int .i64 ux01
  | 5 => .int .i64 (ux01.tmod 100)
  | 6 => .int .i64 1
  | 7 => .pointer (some ⟨w.heap.size, 2, none⟩)
  | 8 => .pointer (some ⟨w.heap.size, 3, none⟩)
  | 9 => .int .i64 uy01
  | 10 => .int .i64 (uy01.tmod 100)
  | 11 => .agg #[.int .i64 (ux01.tmod 100), .int .i64 (uy01.tmod 100)]
  | _ => undef
def pts13_11F (w : World) (x0 y0 x1 y1 x2 y2 : Int) (W0 : World) (w1 : World) (wfpts5_0 : World) (ga0 gb0 gc0 : Nat) (tvr0 : Nat → Value) (wfpts6_0 : World) (tvpts6_0 : Nat → Value) (wfpts7_0 : World) (tvpts7_0 : Nat → Value) (wfpts13_00 : World) (tvpts13_00 : Nat → Value) (ux00 uy00 : Int) (V00 : World) (wfpts13_01 : World) (tvpts13_01 : Nat → Value) (ux01 uy01 : Int) (V01 : World) (wfpts13_02 : World) (tvpts13_02 : Nat → Value) (ux02 uy02 : Int) (V02 : World) (wfpts5_1 : World) (ga1 gb1 gc1 : Nat) (tvr1 : Nat → Value) (wfpts6_1 : World) (tvpts6_1 : Nat → Value) (wfpts7_1 : World) (tvpts7_1 : Nat → Value) (wfpts13_10 : World) (tvpts13_10 : Nat → Value) (ux10 uy10 : Int) (V10 : World) (j : Nat) (v : Value) : Prop := v = pts13_11V w x0 y0 x1 y1 x2 y2 W0 w1 wfpts5_0 ga0 gb0 gc0 tvr0 wfpts6_0 tvpts6_0 wfpts7_0 tvpts7_0 wfpts13_00 tvpts13_00 ux00 uy00 V00 wfpts13_01 tvpts13_01 ux01 uy01 V01 wfpts13_02 tvpts13_02 ux02 uy02 V02 wfpts5_1 ga1 gb1 gc1 tvr1 wfpts6_1 tvpts6_1 wfpts7_1 tvpts7_1 wfpts13_10 tvpts13_10 ux10 uy10 V10 j
def pts13_12V (w : World) (x0 y0 x1 y1 x2 y2 : Int) (W0 : World) (w1 : World) (wfpts5_0 : World) (ga0 gb0 gc0 : Nat) (tvr0 : Nat → Value) (wfpts6_0 : World) (tvpts6_0 : Nat → Value) (wfpts7_0 : World) (tvpts7_0 : Nat → Value) (wfpts13_00 : World) (tvpts13_00 : Nat → Value) (ux00 uy00 : Int) (V00 : World) (wfpts13_01 : World) (tvpts13_01 : Nat → Value) (ux01 uy01 : Int) (V01 : World) (wfpts13_02 : World) (tvpts13_02 : Nat → Value) (ux02 uy02 : Int) (V02 : World) (wfpts5_1 : World) (ga1 gb1 gc1 : Nat) (tvr1 : Nat → Value) (wfpts6_1 : World) (tvpts6_1 : Nat → Value) (wfpts7_1 : World) (tvpts7_1 : Nat → Value) (wfpts13_10 : World) (tvpts13_10 : Nat → Value) (ux10 uy10 : Int) (V10 : World) (wfpts13_11 : World) (tvpts13_11 : Nat → Value) (ux11 uy11 : Int) (V11 : World) : Nat → Value
  | 0 => .int .i64 2
  | 1 => .int .i64 2
  | 2 => .pointer (some ⟨w.heap.size, 4, none⟩)
  | 3 => .pointer (some ⟨w.heap.size, 4, none⟩)
  | 4 => .int .i64 ux02
  | 5 => .int .i64 (ux02.tmod 100)
  | 6 => .int .i64 2
  | 7 => .pointer (some ⟨w.heap.size, 4, none⟩)
  | 8 => .pointer (some ⟨w.heap.size, 5, none⟩)
  | 9 => .int .i64 uy02
  | 10 => .int .i64 (uy02.tmod 100)
  | 11 => .agg #[.int .i64 (ux02.tmod 100), .int .i64 (uy02.tmod 100)]
  | _ => undef
def pts13_12F (w : World) (x0 y0 x1 y1 x2 y2 : Int) (W0 : World) (w1 : World) (wfpts5_0 : World) (ga0 gb0 gc0 : Nat) (tvr0 : Nat → Value) (wfpts6_0 : World) (tvpts6_0 : Nat → Value) (wfpts7_0 : World) (tvpts7_0 : Nat → Value) (wfpts13_00 : World) (tvpts13_00 : Nat → Value) (ux00 uy00 : Int) (V00 : World) (wfpts13_01 : World) (tvpts13_01 : Nat → Value) (ux01 uy01 : Int) (V01 : World) (wfpts13_02 : World) (tvpts13_02 : Nat → Value) (ux02 uy02 : Int) (V02 : World) (wfpts5_1 : World) (ga1 gb1 gc1 : Nat) (tvr1 : Nat → Value) (wfpts6_1 : World) (tvpts6_1 : Nat → Value) (wfpts7_1 : World) (tvpts7_1 : Nat → Value) (wfpts13_10 : World) (tvpts13_10 : Nat → Value) (ux10 uy10 : Int) (V10 : World) (wfpts13_11 : World) (tvpts13_11 : Nat → Value) (ux11 uy11 : Int) (V11 : World) (j : Nat) (v : Value) : Prop := v = pts13_12V w x0 y0 x1 y1 x2 y2 W0 w1 wfpts5_0 ga0 gb0 gc0 tvr0 wfpts6_0 tvpts6_0 wfpts7_0 tvpts7_0 wfpts13_00 tvpts13_00 ux00 uy00 V00 wfpts13_01 tvpts13_01 ux01 uy01 V01 wfpts13_02 tvpts13_02 ux02 uy02 V02 wfpts5_1 ga1 gb1 gc1 tvr1 wfpts6_1 tvpts6_1 wfpts7_1 tvpts7_1 wfpts13_10 tvpts13_10 ux10 uy10 V10 wfpts13_11 tvpts13_11 ux11 uy11 V11 j
set_option maxRecDepth 100000 in
set_option maxHeartbeats 4000000 in
theorem vecPoints_walk (x0 y0 x1 y1 x2 y2 : Int) (w : World) : Calls Try.prog 3 #[.agg #[.int .i64 x0, .int .i64 y0, .int .i64 x1, .int .i64 y1, .int .i64 x2, .int .i64 y2]] w fun e w' => e = .returned (.bool true) ∧ Ext w w' := by
  have E0 := Lib.hid (Ext.refl w)
  go_enter Try.func3, Try.ntmps3
  go_wp2_with fail
  obtain ⟨W0, hW0⟩ : ∃ W0, W0 = (w.alloc (.cells #[.int .i64 x0, .int .i64 y0, .int .i64 x1, .int .i64 y1, .int .i64 x2, .int .i64 y2] 24)) := ⟨_, rfl⟩
  have hx : Ext w W0 := by rw [hW0]; exact Ext.alloc _ _
  have L_0 := Lib.hid (show RowAt W0 (w.heap.size) 24 #[.int .i64 x0, .int .i64 y0, .int .i64 x1, .int .i64 y1, .int .i64 x2, .int .i64 y2] from by rw [hW0]; exact (RowAt.new' _ _ (by simp)))
  have SZW0 := Lib.hid (show W0.heap.size = w.heap.size + 1 from by rw [hW0]; simp)
  have E1 := Lib.hid (E0.out.trans hx)
  clear E0
  clear hx
  rw [← hW0]
  clear hW0
  refine (sanity_c _).mono ?_; rintro e w1 ⟨rfl, hx⟩
  have E2 := Lib.hid (E1.out.trans hx)
  have L_2 := Lib.hid (hx.row L_0.out)
  clear E1 L_0
  clear hx
  go_wp2_with fail
  refine wp_loop_rounds 3 ?_
  rw [rounds_succ]
  go_wp2_with fail
  refine wp_region_tail (fun D ac w' => ∃ vs : Nat → Value, ac = { tmps := #[Value.agg #[Value.int IntKind.i64 x0, Value.int IntKind.i64 y0, Value.int IntKind.i64 x1, Value.int IntKind.i64 y1, Value.int IntKind.i64 x2, Value.int IntKind.i64 y2], Value.pointer (some { block := w.heap.size, off := 0 }), Value.bool false, Value.bool true, Value.int IntKind.i64 0, vs 6, vs 7, vs 8, undef, undef, undef, Value.bool true, Value.int IntKind.i64 0, Value.bool true, undef, undef, vs 0, vs 1, vs 2, vs 3, vs 4, vs 5, undef, undef, undef, undef, undef, undef, undef, undef, undef, undef, undef, undef, undef, undef, undef, undef, undef, undef, undef, undef, undef, undef, undef, undef, undef, undef, undef, undef, undef, undef, undef, undef, undef, undef, undef, undef, undef, undef, undef, undef, undef, undef, undef, undef, undef, undef, undef, undef, undef, undef, undef, undef, undef, undef, undef, undef, undef, undef, undef, undef, undef, undef, undef, undef, undef, undef, undef, undef, undef, undef, undef, undef, undef, undef, undef, undef, undef, undef, undef, undef, undef, undef, undef, undef, undef], defers := [] } ∧ Ext w1 w' ∧ (∀ j, D j → pts5_0F w x0 y0 x1 y1 x2 y2 W0 w1 j (vs j)) ∧ Ows w1.heap.size [(6, 9), (7, 10), (8, 11)] (fun _ => 23) (fun _ => #[.int .i64 0, .int .i64 0]) (fun k => match k with | 6 => #[.int .i64 x0, .int .i64 y0] | 7 => #[.int .i64 x1, .int .i64 y1] | 8 => #[.int .i64 x2, .int .i64 y2] | _ => #[]) D vs w') 12 (by kernel_rfl) (by kernel_rfl) (by kernel_rfl) ?startpts5_0 ?steppts5_0 ?finpts5_0
  case startpts5_0 => exact ⟨fun _ => undef, rfl, Ext.drew _, fun _ h => h.elim, ows_none⟩
  case steppts5_0 =>
    rintro i o D ac wz hin hio hnd he ⟨vs, rfl, k0, hF, hO⟩
    rcases i with _ | _ | _ | _ | _ | _ | _ | _ | _ | _ | _ | _ | i
    rotate_left 12
    · exact absurd hin (by omega)
    all_goals (obtain rfl := Option.some.inj (hio.symm.trans (by rfl)))
    · refine step_yes (wanted_of_none rfl _) ?_
      exact wp_of_run (run_ixa3_2 (.tmp 1) (.const (.int .i64 0)) rfl _ _ rfl 0 rfl (by decide)) ⟨upd vs 0 _, rfl, k0, inv_same hF rfl, ows_pure hO (Ext.refl _) rfl⟩
    · refine step_yes (wanted_of_none rfl _) ?_
      exact wp_of_run (run_ld_pt (.tmp 16) rfl _ _ (by exact (hF 0 (he ⟨0, .data⟩ (by simp) rfl))) _ _ ((k0.row L_2.out).cell 0) ((k0.row L_2.out).cell 1)) ⟨upd vs 1 _, rfl, k0, inv_same hF rfl, ows_pure hO (Ext.refl _) rfl⟩
    · refine step_yes (wanted_of_none rfl _) ?_
      exact wp_of_run (run_ixa3_2 (.tmp 1) (.const (.int .i64 1)) rfl _ _ rfl 1 rfl (by decide)) ⟨upd vs 2 _, rfl, k0, inv_same hF rfl, ows_pure hO (Ext.refl _) rfl⟩
    · refine step_yes (wanted_of_none rfl _) ?_
      exact wp_of_run (run_ld_pt (.tmp 18) rfl _ _ (by exact (hF 2 (he ⟨2, .data⟩ (by simp) rfl))) _ _ ((k0.row L_2.out).cell 2) ((k0.row L_2.out).cell 3)) ⟨upd vs 3 _, rfl, k0, inv_same hF rfl, ows_pure hO (Ext.refl _) rfl⟩
    · refine step_yes (wanted_of_none rfl _) ?_
      exact wp_of_run (run_ixa3_2 (.tmp 1) (.const (.int .i64 2)) rfl _ _ rfl 2 rfl (by decide)) ⟨upd vs 4 _, rfl, k0, inv_same hF rfl, ows_pure hO (Ext.refl _) rfl⟩
    · refine step_yes (wanted_of_none rfl _) ?_
      exact wp_of_run (run_ld_pt (.tmp 20) rfl _ _ (by exact (hF 4 (he ⟨4, .data⟩ (by simp) rfl))) _ _ ((k0.row L_2.out).cell 4) ((k0.row L_2.out).cell 5)) ⟨upd vs 5 _, rfl, k0, inv_same hF rfl, ows_pure hO (Ext.refl _) rfl⟩
    · refine step_yes (wanted_of_none rfl _) ?_
      exact wp_of_run (run_alloc_pt rfl) ⟨upd vs 6 _, rfl, k0.trans (Ext.alloc _ _), inv_same hF trivial, ows_alloc (s := 9) rfl (by simp) hO (Below.size k0) hnd⟩
    · refine step_yes (wanted_of_none rfl _) ?_
      exact wp_of_run (run_alloc_pt rfl) ⟨upd vs 7 _, rfl, k0.trans (Ext.alloc _ _), inv_same hF trivial, ows_alloc (s := 10) rfl (by simp) hO (Below.size k0) hnd⟩
    · refine step_yes (wanted_of_none rfl _) ?_
      exact wp_of_run (run_alloc_pt rfl) ⟨upd vs 8 _, rfl, k0.trans (Ext.alloc _ _), inv_same hF trivial, ows_alloc (s := 11) rfl (by simp) hO (Below.size k0) hnd⟩
    · refine step_yes (wanted_of_none rfl _) ?_
      obtain ⟨g, hg, hle, hr, hO2⟩ := ows_store (a := 6) (s := 9) rfl (by simp) hO (he ⟨6, .data⟩ (by simp) rfl) hnd
      exact wp_of_skip (run_st_pt (.tmp 5) (.tmp 17) rfl g 0 (by exact hg) _ _ (by exact (hF 1 (he ⟨1, .data⟩ (by simp) rfl))) _ _ _ _ (#[.int .i64 x0, .int .i64 y0]) hr rfl rfl rfl) ⟨vs, rfl, ext_setRow k0 (by exact hle) _, inv_skip hF trivial, hO2⟩
    · refine step_yes (wanted_of_none rfl _) ?_
      obtain ⟨g, hg, hle, hr, hO2⟩ := ows_store (a := 7) (s := 10) rfl (by simp) hO (he ⟨7, .data⟩ (by simp) rfl) hnd
      exact wp_of_skip (run_st_pt (.tmp 6) (.tmp 19) rfl g 0 (by exact hg) _ _ (by exact (hF 3 (he ⟨3, .data⟩ (by simp) rfl))) _ _ _ _ (#[.int .i64 x1, .int .i64 y1]) hr rfl rfl rfl) ⟨vs, rfl, ext_setRow k0 (by exact hle) _, inv_skip hF trivial, hO2⟩
    · refine step_yes (wanted_of_none rfl _) ?_
      obtain ⟨g, hg, hle, hr, hO2⟩ := ows_store (a := 8) (s := 11) rfl (by simp) hO (he ⟨8, .data⟩ (by simp) rfl) hnd
      exact wp_of_skip (run_st_pt (.tmp 7) (.tmp 21) rfl g 0 (by exact hg) _ _ (by exact (hF 5 (he ⟨5, .data⟩ (by simp) rfl))) _ _ _ _ (#[.int .i64 x2, .int .i64 y2]) hr rfl rfl rfl) ⟨vs, rfl, ext_setRow k0 (by exact hle) _, inv_skip hF trivial, hO2⟩
  case finpts5_0 =>
    rintro D ac wfpts5_0 hD ⟨vs, rfl, k0, hF, hO⟩
    change wpList _ _ _ [] _ _
    unfold wpList
    have E3 := Lib.hid (E2.out.trans k0)
    have L_3 := Lib.hid (k0.row L_2.out)
    clear E2 L_2
    clear k0
    obtain ⟨ga0, hga, -, rga⟩ := ows_get (a := 6) (s := 9) hO (by simp) (hD 6 (by decide)) (hD 9 (by decide))
    rw [hga]
    obtain ⟨gb0, hgb, -, rgb⟩ := ows_get (a := 7) (s := 10) hO (by simp) (hD 7 (by decide)) (hD 10 (by decide))
    rw [hgb]
    obtain ⟨gc0, hgc, -, rgc⟩ := ows_get (a := 8) (s := 11) hO (by simp) (hD 8 (by decide)) (hD 11 (by decide))
    rw [hgc]
    clear hF hD hO hga hgb hgc
    generalize vs = tvr0
    have GA0_0 := Lib.hid rga
    clear rga
    have GB0_0 := Lib.hid rgb
    clear rgb
    have GC0_0 := Lib.hid rgc
    clear rgc
    go_wp2_with fail
    refine wp_region_tail (fun D ac w' => ∃ vs : Nat → Value, ac = { tmps := #[Value.agg #[Value.int IntKind.i64 x0, Value.int IntKind.i64 y0, Value.int IntKind.i64 x1, Value.int IntKind.i64 y1, Value.int IntKind.i64 x2, Value.int IntKind.i64 y2], Value.pointer (some { block := w.heap.size, off := 0 }), Value.bool false, Value.bool true, Value.int IntKind.i64 0, Value.pointer (some { block := ga0, off := 0 }), Value.pointer (some { block := gb0, off := 0 }), Value.pointer (some { block := gc0, off := 0 }), undef, undef, undef, Value.bool true, Value.int IntKind.i64 0, Value.bool true, undef, undef, tvr0 0, tvr0 1, tvr0 2, tvr0 3, tvr0 4, tvr0 5, vs 0, vs 1, vs 2, vs 3, vs 4, vs 5, vs 6, vs 7, vs 8, vs 9, vs 10, vs 11, vs 12, vs 13, vs 14, vs 15, vs 16, vs 17, vs 18, vs 19, vs 20, vs 21, vs 22, undef, undef, undef, undef, undef, undef, undef, undef, undef, undef, undef, undef, undef, undef, undef, undef, undef, undef, undef, undef, undef, undef, undef, undef, undef, undef, undef, undef, undef, undef, undef, undef, undef, undef, undef, undef, undef, undef, undef, undef, undef, undef, undef, undef, undef, undef, undef, undef, undef, undef, undef, undef, undef, undef, undef, undef, undef, undef, undef, undef, undef, undef], defers := [] } ∧ Ext wfpts5_0 w' ∧ ∀ j, D j → pts6_0F w x0 y0 x1 y1 x2 y2 W0 w1 wfpts5_0 ga0 gb0 gc0 tvr0 j (vs j)) 23 (by kernel_rfl) (by kernel_rfl) (by kernel_rfl) ?startpts6_0 ?steppts6_0 ?finpts6_0
    case startpts6_0 => exact ⟨fun _ => undef, rfl, Ext.drew _, fun _ h => h.elim⟩
    case steppts6_0 =>
      rintro i o D ac wz hin hio hnd he ⟨vs, rfl, k0, hF⟩
      rcases i with _ | _ | _ | _ | _ | _ | _ | _ | _ | _ | _ | _ | _ | _ | _ | _ | _ | _ | _ | _ | _ | _ | _ | i
      rotate_left 23
      · exact absurd hin (by omega)
      all_goals (obtain rfl := Option.some.inj (hio.symm.trans (by rfl)))
      · refine step_yes (wanted_of_none rfl _) ?_
        exact wp_of_run (run_ld_pt (.tmp 5) rfl _ _ rfl _ _ ((k0.row GA0_0.out).cell 0) ((k0.row GA0_0.out).cell 1)) ⟨upd vs 0 _, rfl, k0, inv_same hF rfl⟩
      · refine step_yes (wanted_of_none rfl _) ?_
        refine wp_of_callE (run_enter1 9 (.tmp 22) _ rfl _ (by exact (hF 0 (he ⟨0, .data⟩ (by simp) rfl))) (fun args w => enters_of Try.func9 (by kernel_rfl) rfl args w)) (vright x0 y0 wz) ?_
        rintro e w' ⟨rfl, hx⟩
        exact ⟨_, rfl, upd vs 1 _, rfl, k0.trans hx, inv_same hF rfl⟩
      · refine step_yes (wanted_of_none rfl _) ?_
        exact wp_of_run (run_ld_pt (.tmp 5) rfl _ _ rfl _ _ ((k0.row GA0_0.out).cell 0) ((k0.row GA0_0.out).cell 1)) ⟨upd vs 2 _, rfl, k0, inv_same hF rfl⟩
      · refine step_yes (wanted_of_none rfl _) ?_
        refine wp_of_callE (run_enter1 10 (.tmp 24) _ rfl _ (by exact (hF 2 (he ⟨2, .data⟩ (by simp) rfl))) (fun args w => enters_of Try.func10 (by kernel_rfl) rfl args w)) (rright x0 y0 wz) ?_
        rintro e w' ⟨rfl, hx⟩
        exact ⟨_, rfl, upd vs 3 _, rfl, k0.trans hx, inv_same hF rfl⟩
      · refine step_yes (wanted_of_none rfl _) ?_
        exact wp_of_run (run_eqb (.tmp 23) (.tmp 25) rfl _ _ (by exact (hF 1 (he ⟨1, .data⟩ (by simp) rfl))) (by exact (hF 3 (he ⟨3, .data⟩ (by simp) rfl))) _ (by simp)) ⟨upd vs 4 _, rfl, k0, inv_same hF rfl⟩
      · refine step_yes (wanted_of_none rfl _) ?_
        exact wp_of_run (run_mov (.tmp 26) rfl _ (by exact (hF 4 (he ⟨4, .data⟩ (by simp) rfl)))) ⟨upd vs 5 _, rfl, k0, inv_same hF rfl⟩
      · refine step_yes (wanted_g (j := 5) (d := 27) rfl rfl rfl (hF 5 (he ⟨5, .guard⟩ (by simp) rfl))) ?_
        exact wp_of_run (run_ld_pt (.tmp 5) rfl _ _ rfl _ _ ((k0.row GA0_0.out).cell 0) ((k0.row GA0_0.out).cell 1)) ⟨upd vs 6 _, rfl, k0, inv_same hF rfl⟩
      · refine step_yes (wanted_g (j := 5) (d := 27) rfl rfl rfl (hF 5 (he ⟨5, .guard⟩ (by simp) rfl))) ?_
        exact wp_of_run (run_ld_pt (.tmp 6) rfl _ _ rfl _ _ ((k0.row GB0_0.out).cell 0) ((k0.row GB0_0.out).cell 1)) ⟨upd vs 7 _, rfl, k0, inv_same hF rfl⟩
      · refine step_yes (wanted_g (j := 5) (d := 27) rfl rfl rfl (hF 5 (he ⟨5, .chain⟩ (by simp) rfl))) ?_
        refine wp_of_callE (run_enter2 11 (.tmp 28) (.tmp 29) _ rfl _ _ (by exact (hF 6 (he ⟨6, .data⟩ (by simp) rfl))) (by exact (hF 7 (he ⟨7, .data⟩ (by simp) rfl))) (fun args w => enters_of Try.func11 (by kernel_rfl) rfl args w)) (vadd x0 y0 x1 y1 wz) ?_
        rintro e w' ⟨rfl, hx⟩
        exact ⟨_, rfl, upd vs 8 _, rfl, k0.trans hx, inv_same hF rfl⟩
      · refine step_yes (wanted_g (j := 5) (d := 27) rfl rfl rfl (hF 5 (he ⟨5, .guard⟩ (by simp) rfl))) ?_
        exact wp_of_run (run_ld_pt (.tmp 5) rfl _ _ rfl _ _ ((k0.row GA0_0.out).cell 0) ((k0.row GA0_0.out).cell 1)) ⟨upd vs 9 _, rfl, k0, inv_same hF rfl⟩
      · refine step_yes (wanted_g (j := 5) (d := 27) rfl rfl rfl (hF 5 (he ⟨5, .guard⟩ (by simp) rfl))) ?_
        exact wp_of_run (run_ld_pt (.tmp 6) rfl _ _ rfl _ _ ((k0.row GB0_0.out).cell 0) ((k0.row GB0_0.out).cell 1)) ⟨upd vs 10 _, rfl, k0, inv_same hF rfl⟩
      · refine step_yes (wanted_g (j := 5) (d := 27) rfl rfl rfl (hF 5 (he ⟨5, .guard⟩ (by simp) rfl))) ?_
        refine wp_of_callE (run_enter2 12 (.tmp 31) (.tmp 32) _ rfl _ _ (by exact (hF 9 (he ⟨9, .data⟩ (by simp) rfl))) (by exact (hF 10 (he ⟨10, .data⟩ (by simp) rfl))) (fun args w => enters_of Try.func12 (by kernel_rfl) rfl args w)) (radd x0 y0 x1 y1 wz) ?_
        rintro e w' ⟨rfl, hx⟩
        exact ⟨_, rfl, upd vs 11 _, rfl, k0.trans hx, inv_same hF rfl⟩
      · refine step_yes (wanted_g (j := 5) (d := 27) rfl rfl rfl (hF 5 (he ⟨5, .guard⟩ (by simp) rfl))) ?_
        exact wp_of_run (run_eq_pt (.tmp 30) (.tmp 33) rfl _ _ _ _ (by exact (hF 8 (he ⟨8, .data⟩ (by simp) rfl))) (by exact (hF 11 (he ⟨11, .data⟩ (by simp) rfl))) _ (by simp)) ⟨upd vs 12 _, rfl, k0, inv_same hF rfl⟩
      · refine step_yes (wanted_of_none rfl _) ?_
        exact wp_of_run (run_pick_t (.tmp 27) (.tmp 34) (.const (.bool false)) rfl (by exact (hF 5 (he ⟨5, .data⟩ (by simp) rfl))) _ (by exact (hF 12 (he ⟨12, .data⟩ (by simp) rfl)))) ⟨upd vs 13 _, rfl, k0, inv_same hF rfl⟩
      · refine step_yes (wanted_of_none rfl _) ?_
        exact wp_of_run (run_mov (.tmp 35) rfl _ (by exact (hF 13 (he ⟨13, .data⟩ (by simp) rfl)))) ⟨upd vs 14 _, rfl, k0, inv_same hF rfl⟩
      · refine step_yes (wanted_g (j := 14) (d := 36) rfl rfl rfl (hF 14 (he ⟨14, .guard⟩ (by simp) rfl))) ?_
        exact wp_of_run (run_ld_pt (.tmp 5) rfl _ _ rfl _ _ ((k0.row GA0_0.out).cell 0) ((k0.row GA0_0.out).cell 1)) ⟨upd vs 15 _, rfl, k0, inv_same hF rfl⟩
      · refine step_yes (wanted_g (j := 14) (d := 36) rfl rfl rfl (hF 14 (he ⟨14, .guard⟩ (by simp) rfl))) ?_
        exact wp_of_run (run_ld_pt (.tmp 6) rfl _ _ rfl _ _ ((k0.row GB0_0.out).cell 0) ((k0.row GB0_0.out).cell 1)) ⟨upd vs 16 _, rfl, k0, inv_same hF rfl⟩
      · refine step_yes (wanted_g (j := 14) (d := 36) rfl rfl rfl (hF 14 (he ⟨14, .chain⟩ (by simp) rfl))) ?_
        refine wp_of_callE (run_enter2 13 (.tmp 37) (.tmp 38) _ rfl _ _ (by exact (hF 15 (he ⟨15, .data⟩ (by simp) rfl))) (by exact (hF 16 (he ⟨16, .data⟩ (by simp) rfl))) (fun args w => enters_of Try.func13 (by kernel_rfl) rfl args w)) (vsub x0 y0 x1 y1 wz) ?_
        rintro e w' ⟨rfl, hx⟩
        exact ⟨_, rfl, upd vs 17 _, rfl, k0.trans hx, inv_same hF rfl⟩
      · refine step_yes (wanted_g (j := 14) (d := 36) rfl rfl rfl (hF 14 (he ⟨14, .guard⟩ (by simp) rfl))) ?_
        exact wp_of_run (run_ld_pt (.tmp 5) rfl _ _ rfl _ _ ((k0.row GA0_0.out).cell 0) ((k0.row GA0_0.out).cell 1)) ⟨upd vs 18 _, rfl, k0, inv_same hF rfl⟩
      · refine step_yes (wanted_g (j := 14) (d := 36) rfl rfl rfl (hF 14 (he ⟨14, .guard⟩ (by simp) rfl))) ?_
        exact wp_of_run (run_ld_pt (.tmp 6) rfl _ _ rfl _ _ ((k0.row GB0_0.out).cell 0) ((k0.row GB0_0.out).cell 1)) ⟨upd vs 19 _, rfl, k0, inv_same hF rfl⟩
      · refine step_yes (wanted_g (j := 14) (d := 36) rfl rfl rfl (hF 14 (he ⟨14, .guard⟩ (by simp) rfl))) ?_
        refine wp_of_callE (run_enter2 14 (.tmp 40) (.tmp 41) _ rfl _ _ (by exact (hF 18 (he ⟨18, .data⟩ (by simp) rfl))) (by exact (hF 19 (he ⟨19, .data⟩ (by simp) rfl))) (fun args w => enters_of Try.func14 (by kernel_rfl) rfl args w)) (rsub x0 y0 x1 y1 wz) ?_
        rintro e w' ⟨rfl, hx⟩
        exact ⟨_, rfl, upd vs 20 _, rfl, k0.trans hx, inv_same hF rfl⟩
      · refine step_yes (wanted_g (j := 14) (d := 36) rfl rfl rfl (hF 14 (he ⟨14, .guard⟩ (by simp) rfl))) ?_
        exact wp_of_run (run_eq_pt (.tmp 39) (.tmp 42) rfl _ _ _ _ (by exact (hF 17 (he ⟨17, .data⟩ (by simp) rfl))) (by exact (hF 20 (he ⟨20, .data⟩ (by simp) rfl))) _ (by simp)) ⟨upd vs 21 _, rfl, k0, inv_same hF rfl⟩
      · refine step_yes (wanted_of_none rfl _) ?_
        exact wp_of_run (run_pick_t (.tmp 36) (.tmp 43) (.const (.bool false)) rfl (by exact (hF 14 (he ⟨14, .data⟩ (by simp) rfl))) _ (by exact (hF 21 (he ⟨21, .data⟩ (by simp) rfl)))) ⟨upd vs 22 _, rfl, k0, inv_same hF rfl⟩
    case finpts6_0 =>
      rintro D ac wfpts6_0 hD ⟨vs, rfl, k0, hF⟩
      change wpList _ _ _ [_] _ _
      have hl22 : vs 22 = .bool true := hF 22 (hD 22 (by decide))
      rw [hl22]
      clear hl22
      clear hF hD
      generalize vs = tvpts6_0
      have E4 := Lib.hid (E3.out.trans k0)
      have L_4 := Lib.hid (k0.row L_3.out)
      have GA0_4 := Lib.hid (k0.row GA0_0.out)
      have GB0_4 := Lib.hid (k0.row GB0_0.out)
      have GC0_4 := Lib.hid (k0.row GC0_0.out)
      clear E3 L_3 GA0_0 GB0_0 GC0_0
      clear k0
      go_wp2_with fail
      refine wp_region_tail (fun D ac w' => ∃ vs : Nat → Value, ac = { tmps := #[Value.agg #[Value.int IntKind.i64 x0, Value.int IntKind.i64 y0, Value.int IntKind.i64 x1, Value.int IntKind.i64 y1, Value.int IntKind.i64 x2, Value.int IntKind.i64 y2], Value.pointer (some { block := w.heap.size, off := 0 }), Value.bool false, Value.bool true, Value.int IntKind.i64 0, Value.pointer (some { block := ga0, off := 0 }), Value.pointer (some { block := gb0, off := 0 }), Value.pointer (some { block := gc0, off := 0 }), Value.bool true, undef, undef, Value.bool true, Value.int IntKind.i64 0, Value.bool true, undef, undef, tvr0 0, tvr0 1, tvr0 2, tvr0 3, tvr0 4, tvr0 5, tvpts6_0 0, tvpts6_0 1, tvpts6_0 2, tvpts6_0 3, tvpts6_0 4, tvpts6_0 5, tvpts6_0 6, tvpts6_0 7, tvpts6_0 8, tvpts6_0 9, tvpts6_0 10, tvpts6_0 11, tvpts6_0 12, tvpts6_0 13, tvpts6_0 14, tvpts6_0 15, tvpts6_0 16, tvpts6_0 17, tvpts6_0 18, tvpts6_0 19, tvpts6_0 20, tvpts6_0 21, Value.bool true, vs 0, vs 1, vs 2, vs 3, vs 4, vs 5, vs 6, vs 7, vs 8, vs 9, vs 10, vs 11, vs 12, vs 13, vs 14, vs 15, vs 16, vs 17, vs 18, vs 19, vs 20, vs 21, vs 22, vs 23, vs 24, vs 25, vs 26, vs 27, vs 28, vs 29, vs 30, vs 31, vs 32, vs 33, vs 34, vs 35, vs 36, vs 37, undef, undef, undef, undef, undef, undef, undef, undef, undef, undef, undef, undef, undef, undef, undef, undef, undef, undef, undef, undef, undef, undef, undef, undef], defers := [] } ∧ Ext wfpts6_0 w' ∧ ∀ j, D j → pts7_0F w x0 y0 x1 y1 x2 y2 W0 w1 wfpts5_0 ga0 gb0 gc0 tvr0 wfpts6_0 tvpts6_0 j (vs j)) 38 (by kernel_rfl) (by kernel_rfl) (by kernel_rfl) ?startpts7_0 ?steppts7_0 ?finpts7_0
      case startpts7_0 => exact ⟨fun _ => undef, rfl, Ext.drew _, fun _ h => h.elim⟩
      case steppts7_0 =>
        rintro i o D ac wz hin hio hnd he ⟨vs, rfl, k0, hF⟩
        rcases i with _ | _ | _ | _ | _ | _ | _ | _ | _ | _ | _ | _ | _ | _ | _ | _ | _ | _ | _ | _ | _ | _ | _ | _ | _ | _ | _ | _ | _ | _ | _ | _ | _ | _ | _ | _ | _ | _ | i
        rotate_left 38
        · exact absurd hin (by omega)
        all_goals (obtain rfl := Option.some.inj (hio.symm.trans (by rfl)))
        · refine step_yes (wanted_of_none rfl _) ?_
          exact wp_of_run (run_ld_pt (.tmp 5) rfl _ _ rfl _ _ ((k0.row GA0_4.out).cell 0) ((k0.row GA0_4.out).cell 1)) ⟨upd vs 0 _, rfl, k0, inv_same hF rfl⟩
        · refine step_yes (wanted_of_none rfl _) ?_
          exact wp_of_run (run_ld_pt (.tmp 6) rfl _ _ rfl _ _ ((k0.row GB0_4.out).cell 0) ((k0.row GB0_4.out).cell 1)) ⟨upd vs 1 _, rfl, k0, inv_same hF rfl⟩
        · refine step_yes (wanted_of_none rfl _) ?_
          refine wp_of_callE (run_enter2 15 (.tmp 45) (.tmp 46) _ rfl _ _ (by exact (hF 0 (he ⟨0, .data⟩ (by simp) rfl))) (by exact (hF 1 (he ⟨1, .data⟩ (by simp) rfl))) (fun args w => enters_of Try.func15 (by kernel_rfl) rfl args w)) (vcross x0 y0 x1 y1 wz) ?_
          rintro e w' ⟨rfl, hx⟩
          exact ⟨_, rfl, upd vs 2 _, rfl, k0.trans hx, inv_same hF rfl⟩
        · refine step_yes (wanted_of_none rfl _) ?_
          exact wp_of_run (run_ld_pt (.tmp 5) rfl _ _ rfl _ _ ((k0.row GA0_4.out).cell 0) ((k0.row GA0_4.out).cell 1)) ⟨upd vs 3 _, rfl, k0, inv_same hF rfl⟩
        · refine step_yes (wanted_of_none rfl _) ?_
          exact wp_of_run (run_ld_pt (.tmp 6) rfl _ _ rfl _ _ ((k0.row GB0_4.out).cell 0) ((k0.row GB0_4.out).cell 1)) ⟨upd vs 4 _, rfl, k0, inv_same hF rfl⟩
        · refine step_yes (wanted_of_none rfl _) ?_
          refine wp_of_callE (run_enter2 16 (.tmp 48) (.tmp 49) _ rfl _ _ (by exact (hF 3 (he ⟨3, .data⟩ (by simp) rfl))) (by exact (hF 4 (he ⟨4, .data⟩ (by simp) rfl))) (fun args w => enters_of Try.func16 (by kernel_rfl) rfl args w)) (rcross x0 y0 x1 y1 wz) ?_
          rintro e w' ⟨rfl, hx⟩
          exact ⟨_, rfl, upd vs 5 _, rfl, k0.trans hx, inv_same hF rfl⟩
        · refine step_yes (wanted_of_none rfl _) ?_
          exact wp_of_run (run_eqi (.tmp 47) (.tmp 50) rfl _ _ (by exact (hF 2 (he ⟨2, .data⟩ (by simp) rfl))) (by exact (hF 5 (he ⟨5, .data⟩ (by simp) rfl))) _ (by simp)) ⟨upd vs 6 _, rfl, k0, inv_same hF rfl⟩
        · refine step_yes (wanted_of_none rfl _) ?_
          exact wp_of_run (run_mov (.tmp 51) rfl _ (by exact (hF 6 (he ⟨6, .data⟩ (by simp) rfl)))) ⟨upd vs 7 _, rfl, k0, inv_same hF rfl⟩
        · refine step_yes (wanted_g (j := 7) (d := 52) rfl rfl rfl (hF 7 (he ⟨7, .guard⟩ (by simp) rfl))) ?_
          exact wp_of_run (run_ld_pt (.tmp 5) rfl _ _ rfl _ _ ((k0.row GA0_4.out).cell 0) ((k0.row GA0_4.out).cell 1)) ⟨upd vs 8 _, rfl, k0, inv_same hF rfl⟩
        · refine step_yes (wanted_g (j := 7) (d := 52) rfl rfl rfl (hF 7 (he ⟨7, .guard⟩ (by simp) rfl))) ?_
          exact wp_of_run (run_ld_pt (.tmp 6) rfl _ _ rfl _ _ ((k0.row GB0_4.out).cell 0) ((k0.row GB0_4.out).cell 1)) ⟨upd vs 9 _, rfl, k0, inv_same hF rfl⟩
        · refine step_yes (wanted_g (j := 7) (d := 52) rfl rfl rfl (hF 7 (he ⟨7, .chain⟩ (by simp) rfl))) ?_
          refine wp_of_callE (run_enter2 17 (.tmp 53) (.tmp 54) _ rfl _ _ (by exact (hF 8 (he ⟨8, .data⟩ (by simp) rfl))) (by exact (hF 9 (he ⟨9, .data⟩ (by simp) rfl))) (fun args w => enters_of Try.func17 (by kernel_rfl) rfl args w)) (vdot x0 y0 x1 y1 wz) ?_
          rintro e w' ⟨rfl, hx⟩
          exact ⟨_, rfl, upd vs 10 _, rfl, k0.trans hx, inv_same hF rfl⟩
        · refine step_yes (wanted_g (j := 7) (d := 52) rfl rfl rfl (hF 7 (he ⟨7, .guard⟩ (by simp) rfl))) ?_
          exact wp_of_run (run_ld_pt (.tmp 5) rfl _ _ rfl _ _ ((k0.row GA0_4.out).cell 0) ((k0.row GA0_4.out).cell 1)) ⟨upd vs 11 _, rfl, k0, inv_same hF rfl⟩
        · refine step_yes (wanted_g (j := 7) (d := 52) rfl rfl rfl (hF 7 (he ⟨7, .guard⟩ (by simp) rfl))) ?_
          exact wp_of_run (run_ld_pt (.tmp 6) rfl _ _ rfl _ _ ((k0.row GB0_4.out).cell 0) ((k0.row GB0_4.out).cell 1)) ⟨upd vs 12 _, rfl, k0, inv_same hF rfl⟩
        · refine step_yes (wanted_g (j := 7) (d := 52) rfl rfl rfl (hF 7 (he ⟨7, .guard⟩ (by simp) rfl))) ?_
          refine wp_of_callE (run_enter2 18 (.tmp 56) (.tmp 57) _ rfl _ _ (by exact (hF 11 (he ⟨11, .data⟩ (by simp) rfl))) (by exact (hF 12 (he ⟨12, .data⟩ (by simp) rfl))) (fun args w => enters_of Try.func18 (by kernel_rfl) rfl args w)) (rdot x0 y0 x1 y1 wz) ?_
          rintro e w' ⟨rfl, hx⟩
          exact ⟨_, rfl, upd vs 13 _, rfl, k0.trans hx, inv_same hF rfl⟩
        · refine step_yes (wanted_g (j := 7) (d := 52) rfl rfl rfl (hF 7 (he ⟨7, .guard⟩ (by simp) rfl))) ?_
          exact wp_of_run (run_eqi (.tmp 55) (.tmp 58) rfl _ _ (by exact (hF 10 (he ⟨10, .data⟩ (by simp) rfl))) (by exact (hF 13 (he ⟨13, .data⟩ (by simp) rfl))) _ (by simp)) ⟨upd vs 14 _, rfl, k0, inv_same hF rfl⟩
        · refine step_yes (wanted_of_none rfl _) ?_
          exact wp_of_run (run_pick_t (.tmp 52) (.tmp 59) (.const (.bool false)) rfl (by exact (hF 7 (he ⟨7, .data⟩ (by simp) rfl))) _ (by exact (hF 14 (he ⟨14, .data⟩ (by simp) rfl)))) ⟨upd vs 15 _, rfl, k0, inv_same hF rfl⟩
        · refine step_yes (wanted_of_none rfl _) ?_
          exact wp_of_run (run_mov (.tmp 60) rfl _ (by exact (hF 15 (he ⟨15, .data⟩ (by simp) rfl)))) ⟨upd vs 16 _, rfl, k0, inv_same hF rfl⟩
        · refine step_yes (wanted_g (j := 16) (d := 61) rfl rfl rfl (hF 16 (he ⟨16, .guard⟩ (by simp) rfl))) ?_
          exact wp_of_run (run_ld_pt (.tmp 5) rfl _ _ rfl _ _ ((k0.row GA0_4.out).cell 0) ((k0.row GA0_4.out).cell 1)) ⟨upd vs 17 _, rfl, k0, inv_same hF rfl⟩
        · refine step_yes (wanted_g (j := 16) (d := 61) rfl rfl rfl (hF 16 (he ⟨16, .guard⟩ (by simp) rfl))) ?_
          exact wp_of_run (run_ld_pt (.tmp 6) rfl _ _ rfl _ _ ((k0.row GB0_4.out).cell 0) ((k0.row GB0_4.out).cell 1)) ⟨upd vs 18 _, rfl, k0, inv_same hF rfl⟩
        · refine step_yes (wanted_g (j := 16) (d := 61) rfl rfl rfl (hF 16 (he ⟨16, .guard⟩ (by simp) rfl))) ?_
          exact wp_of_run (run_ld_pt (.tmp 7) rfl _ _ rfl _ _ ((k0.row GC0_4.out).cell 0) ((k0.row GC0_4.out).cell 1)) ⟨upd vs 19 _, rfl, k0, inv_same hF rfl⟩
        · refine step_yes (wanted_g (j := 16) (d := 61) rfl rfl rfl (hF 16 (he ⟨16, .chain⟩ (by simp) rfl))) ?_
          refine wp_of_callE (run_enter3 19 (.tmp 62) (.tmp 63) (.tmp 64) _ rfl _ _ _ (by exact (hF 17 (he ⟨17, .data⟩ (by simp) rfl))) (by exact (hF 18 (he ⟨18, .data⟩ (by simp) rfl))) (by exact (hF 19 (he ⟨19, .data⟩ (by simp) rfl))) (fun args w => enters_of Try.func19 (by kernel_rfl) rfl args w)) (vside x0 y0 x1 y1 x2 y2 wz) ?_
          rintro e w' ⟨rfl, hx⟩
          exact ⟨_, rfl, upd vs 20 _, rfl, k0.trans hx, inv_same hF rfl⟩
        · refine step_yes (wanted_g (j := 16) (d := 61) rfl rfl rfl (hF 16 (he ⟨16, .guard⟩ (by simp) rfl))) ?_
          exact wp_of_run (run_ld_pt (.tmp 5) rfl _ _ rfl _ _ ((k0.row GA0_4.out).cell 0) ((k0.row GA0_4.out).cell 1)) ⟨upd vs 21 _, rfl, k0, inv_same hF rfl⟩
        · refine step_yes (wanted_g (j := 16) (d := 61) rfl rfl rfl (hF 16 (he ⟨16, .guard⟩ (by simp) rfl))) ?_
          exact wp_of_run (run_ld_pt (.tmp 6) rfl _ _ rfl _ _ ((k0.row GB0_4.out).cell 0) ((k0.row GB0_4.out).cell 1)) ⟨upd vs 22 _, rfl, k0, inv_same hF rfl⟩
        · refine step_yes (wanted_g (j := 16) (d := 61) rfl rfl rfl (hF 16 (he ⟨16, .guard⟩ (by simp) rfl))) ?_
          exact wp_of_run (run_ld_pt (.tmp 7) rfl _ _ rfl _ _ ((k0.row GC0_4.out).cell 0) ((k0.row GC0_4.out).cell 1)) ⟨upd vs 23 _, rfl, k0, inv_same hF rfl⟩
        · refine step_yes (wanted_g (j := 16) (d := 61) rfl rfl rfl (hF 16 (he ⟨16, .guard⟩ (by simp) rfl))) ?_
          refine wp_of_callE (run_enter3 20 (.tmp 66) (.tmp 67) (.tmp 68) _ rfl _ _ _ (by exact (hF 21 (he ⟨21, .data⟩ (by simp) rfl))) (by exact (hF 22 (he ⟨22, .data⟩ (by simp) rfl))) (by exact (hF 23 (he ⟨23, .data⟩ (by simp) rfl))) (fun args w => enters_of Try.func20 (by kernel_rfl) rfl args w)) (rside x0 y0 x1 y1 x2 y2 wz) ?_
          rintro e w' ⟨rfl, hx⟩
          exact ⟨_, rfl, upd vs 24 _, rfl, k0.trans hx, inv_same hF rfl⟩
        · refine step_yes (wanted_g (j := 16) (d := 61) rfl rfl rfl (hF 16 (he ⟨16, .guard⟩ (by simp) rfl))) ?_
          exact wp_of_run (run_eqi (.tmp 65) (.tmp 69) rfl _ _ (by exact (hF 20 (he ⟨20, .data⟩ (by simp) rfl))) (by exact (hF 24 (he ⟨24, .data⟩ (by simp) rfl))) _ (by simp)) ⟨upd vs 25 _, rfl, k0, inv_same hF rfl⟩
        · refine step_yes (wanted_of_none rfl _) ?_
          exact wp_of_run (run_pick_t (.tmp 61) (.tmp 70) (.const (.bool false)) rfl (by exact (hF 16 (he ⟨16, .data⟩ (by simp) rfl))) _ (by exact (hF 25 (he ⟨25, .data⟩ (by simp) rfl)))) ⟨upd vs 26 _, rfl, k0, inv_same hF rfl⟩
        · refine step_yes (wanted_of_none rfl _) ?_
          exact wp_of_run (run_mov (.tmp 71) rfl _ (by exact (hF 26 (he ⟨26, .data⟩ (by simp) rfl)))) ⟨upd vs 27 _, rfl, k0, inv_same hF rfl⟩
        · refine step_yes (wanted_g (j := 27) (d := 72) rfl rfl rfl (hF 27 (he ⟨27, .guard⟩ (by simp) rfl))) ?_
          exact wp_of_run (run_ld_pt (.tmp 5) rfl _ _ rfl _ _ ((k0.row GA0_4.out).cell 0) ((k0.row GA0_4.out).cell 1)) ⟨upd vs 28 _, rfl, k0, inv_same hF rfl⟩
        · refine step_yes (wanted_g (j := 27) (d := 72) rfl rfl rfl (hF 27 (he ⟨27, .guard⟩ (by simp) rfl))) ?_
          exact wp_of_run (run_ld_pt (.tmp 6) rfl _ _ rfl _ _ ((k0.row GB0_4.out).cell 0) ((k0.row GB0_4.out).cell 1)) ⟨upd vs 29 _, rfl, k0, inv_same hF rfl⟩
        · refine step_yes (wanted_g (j := 27) (d := 72) rfl rfl rfl (hF 27 (he ⟨27, .guard⟩ (by simp) rfl))) ?_
          exact wp_of_run (run_ld_pt (.tmp 7) rfl _ _ rfl _ _ ((k0.row GC0_4.out).cell 0) ((k0.row GC0_4.out).cell 1)) ⟨upd vs 30 _, rfl, k0, inv_same hF rfl⟩
        · refine step_yes (wanted_g (j := 27) (d := 72) rfl rfl rfl (hF 27 (he ⟨27, .chain⟩ (by simp) rfl))) ?_
          refine wp_of_callE (run_enter3 21 (.tmp 73) (.tmp 74) (.tmp 75) _ rfl _ _ _ (by exact (hF 28 (he ⟨28, .data⟩ (by simp) rfl))) (by exact (hF 29 (he ⟨29, .data⟩ (by simp) rfl))) (by exact (hF 30 (he ⟨30, .data⟩ (by simp) rfl))) (fun args w => enters_of Try.func21 (by kernel_rfl) rfl args w)) (vwithin x0 y0 x1 y1 x2 y2 wz) ?_
          rintro e w' ⟨rfl, hx⟩
          exact ⟨_, rfl, upd vs 31 _, rfl, k0.trans hx, inv_same hF rfl⟩
        · refine step_yes (wanted_g (j := 27) (d := 72) rfl rfl rfl (hF 27 (he ⟨27, .guard⟩ (by simp) rfl))) ?_
          exact wp_of_run (run_ld_pt (.tmp 5) rfl _ _ rfl _ _ ((k0.row GA0_4.out).cell 0) ((k0.row GA0_4.out).cell 1)) ⟨upd vs 32 _, rfl, k0, inv_same hF rfl⟩
        · refine step_yes (wanted_g (j := 27) (d := 72) rfl rfl rfl (hF 27 (he ⟨27, .guard⟩ (by simp) rfl))) ?_
          exact wp_of_run (run_ld_pt (.tmp 6) rfl _ _ rfl _ _ ((k0.row GB0_4.out).cell 0) ((k0.row GB0_4.out).cell 1)) ⟨upd vs 33 _, rfl, k0, inv_same hF rfl⟩
        · refine step_yes (wanted_g (j := 27) (d := 72) rfl rfl rfl (hF 27 (he ⟨27, .guard⟩ (by simp) rfl))) ?_
          exact wp_of_run (run_ld_pt (.tmp 7) rfl _ _ rfl _ _ ((k0.row GC0_4.out).cell 0) ((k0.row GC0_4.out).cell 1)) ⟨upd vs 34 _, rfl, k0, inv_same hF rfl⟩
        · refine step_yes (wanted_g (j := 27) (d := 72) rfl rfl rfl (hF 27 (he ⟨27, .guard⟩ (by simp) rfl))) ?_
          refine wp_of_callE (run_enter3 22 (.tmp 77) (.tmp 78) (.tmp 79) _ rfl _ _ _ (by exact (hF 32 (he ⟨32, .data⟩ (by simp) rfl))) (by exact (hF 33 (he ⟨33, .data⟩ (by simp) rfl))) (by exact (hF 34 (he ⟨34, .data⟩ (by simp) rfl))) (fun args w => enters_of Try.func22 (by kernel_rfl) rfl args w)) (rwithin x0 y0 x1 y1 x2 y2 wz) ?_
          rintro e w' ⟨rfl, hx⟩
          exact ⟨_, rfl, upd vs 35 _, rfl, k0.trans hx, inv_same hF rfl⟩
        · refine step_yes (wanted_g (j := 27) (d := 72) rfl rfl rfl (hF 27 (he ⟨27, .guard⟩ (by simp) rfl))) ?_
          exact wp_of_run (run_eqb (.tmp 76) (.tmp 80) rfl _ _ (by exact (hF 31 (he ⟨31, .data⟩ (by simp) rfl))) (by exact (hF 35 (he ⟨35, .data⟩ (by simp) rfl))) _ (by simp)) ⟨upd vs 36 _, rfl, k0, inv_same hF rfl⟩
        · refine step_yes (wanted_of_none rfl _) ?_
          exact wp_of_run (run_pick_t (.tmp 72) (.tmp 81) (.const (.bool false)) rfl (by exact (hF 27 (he ⟨27, .data⟩ (by simp) rfl))) _ (by exact (hF 36 (he ⟨36, .data⟩ (by simp) rfl)))) ⟨upd vs 37 _, rfl, k0, inv_same hF rfl⟩
      case finpts7_0 =>
        rintro D ac wfpts7_0 hD ⟨vs, rfl, k0, hF⟩
        change wpList _ _ _ [_] _ _
        have hl37 : vs 37 = .bool true := hF 37 (hD 37 (by decide))
        rw [hl37]
        clear hl37
        clear hF hD
        generalize vs = tvpts7_0
        have E5 := Lib.hid (E4.out.trans k0)
        have L_5 := Lib.hid (k0.row L_4.out)
        have GA0_5 := Lib.hid (k0.row GA0_4.out)
        have GB0_5 := Lib.hid (k0.row GB0_4.out)
        have GC0_5 := Lib.hid (k0.row GC0_4.out)
        clear E4 L_4 GA0_4 GB0_4 GC0_4
        clear k0
        go_wp2_with fail
        refine wp_loop_rounds 4 ?_
        rw [rounds_succ]
        go_wp2_with fail
        refine wp_region_tail (fun D ac w' => ∃ vs : Nat → Value, ac = { tmps := #[Value.agg #[Value.int IntKind.i64 x0, Value.int IntKind.i64 y0, Value.int IntKind.i64 x1, Value.int IntKind.i64 y1, Value.int IntKind.i64 x2, Value.int IntKind.i64 y2], Value.pointer (some { block := w.heap.size, off := 0 }), Value.bool false, Value.bool true, Value.int IntKind.i64 0, Value.pointer (some { block := ga0, off := 0 }), Value.pointer (some { block := gb0, off := 0 }), Value.pointer (some { block := gc0, off := 0 }), Value.bool true, Value.bool true, Value.int IntKind.i64 0, Value.bool true, Value.int IntKind.i64 0, Value.bool true, undef, undef, tvr0 0, tvr0 1, tvr0 2, tvr0 3, tvr0 4, tvr0 5, tvpts6_0 0, tvpts6_0 1, tvpts6_0 2, tvpts6_0 3, tvpts6_0 4, tvpts6_0 5, tvpts6_0 6, tvpts6_0 7, tvpts6_0 8, tvpts6_0 9, tvpts6_0 10, tvpts6_0 11, tvpts6_0 12, tvpts6_0 13, tvpts6_0 14, tvpts6_0 15, tvpts6_0 16, tvpts6_0 17, tvpts6_0 18, tvpts6_0 19, tvpts6_0 20, tvpts6_0 21, Value.bool true, tvpts7_0 0, tvpts7_0 1, tvpts7_0 2, tvpts7_0 3, tvpts7_0 4, tvpts7_0 5, tvpts7_0 6, tvpts7_0 7, tvpts7_0 8, tvpts7_0 9, tvpts7_0 10, tvpts7_0 11, tvpts7_0 12, tvpts7_0 13, tvpts7_0 14, tvpts7_0 15, tvpts7_0 16, tvpts7_0 17, tvpts7_0 18, tvpts7_0 19, tvpts7_0 20, tvpts7_0 21, tvpts7_0 22, tvpts7_0 23, tvpts7_0 24, tvpts7_0 25, tvpts7_0 26, tvpts7_0 27, tvpts7_0 28, tvpts7_0 29, tvpts7_0 30, tvpts7_0 31, tvpts7_0 32, tvpts7_0 33, tvpts7_0 34, tvpts7_0 35, tvpts7_0 36, Value.bool true, Value.bool true, Value.bool false, Value.bool false, Value.bool true, Value.bool false, Value.bool false, Value.int IntKind.i64 0, Value.bool true, undef, undef, vs 0, vs 1, vs 2, vs 3, vs 4, vs 5, vs 6, vs 7, vs 8, vs 9, vs 10, vs 11, undef, undef], defers := [] } ∧ Ext wfpts7_0 w' ∧ ∀ j, D j → pts13_00F w x0 y0 x1 y1 x2 y2 W0 w1 wfpts5_0 ga0 gb0 gc0 tvr0 wfpts6_0 tvpts6_0 wfpts7_0 tvpts7_0 j (vs j)) 12 (by kernel_rfl) (by kernel_rfl) (by kernel_rfl) ?startpts13_00 ?steppts13_00 ?finpts13_00
        case startpts13_00 => exact ⟨fun _ => undef, rfl, Ext.drew _, fun _ h => h.elim⟩
        case steppts13_00 =>
          rintro i o D ac wz hin hio hnd he ⟨vs, rfl, k0, hF⟩
          rcases i with _ | _ | _ | _ | _ | _ | _ | _ | _ | _ | _ | _ | i
          rotate_left 12
          · exact absurd hin (by omega)
          all_goals (obtain rfl := Option.some.inj (hio.symm.trans (by rfl)))
          · refine step_yes (wanted_of_none rfl _) ?_
            exact wp_of_run (run_mov (.tmp 10) rfl _ rfl) ⟨upd vs 0 _, rfl, k0, inv_same hF rfl⟩
          · refine step_yes (wanted_of_none rfl _) ?_
            exact wp_of_run (run_mov (.tmp 10) rfl _ rfl) ⟨upd vs 1 _, rfl, k0, inv_same hF rfl⟩
          · refine step_yes (wanted_of_none rfl _) ?_
            exact wp_of_run (run_ixa3_2 (.tmp 1) (.tmp 94) rfl _ _ rfl 0 (by exact (hF 1 (he ⟨1, .data⟩ (by simp) rfl))) (by decide)) ⟨upd vs 2 _, rfl, k0, inv_same hF rfl⟩
          · refine step_yes (wanted_of_none rfl _) ?_
            exact wp_of_run (run_fld_pt0 (.tmp 95) rfl _ _ (by exact (hF 2 (he ⟨2, .data⟩ (by simp) rfl)))) ⟨upd vs 3 _, rfl, k0, inv_same hF rfl⟩
          · refine step_yes (wanted_of_none rfl _) ?_
            exact wp_of_run (run_ldi (.tmp 96) rfl _ _ (by exact (hF 3 (he ⟨3, .data⟩ (by simp) rfl))) _ ((k0.row L_5.out).cell 0)) ⟨upd vs 4 _, rfl, k0, inv_same hF rfl⟩
          · refine step_yes (wanted_of_none rfl _) ?_
            exact wp_of_run (run_remi (.tmp 97) (.const (.int .i64 100)) rfl rfl _ 100 (by decide) (by decide) (by exact (hF 4 (he ⟨4, .data⟩ (by simp) rfl))) rfl) ⟨upd vs 5 _, rfl, k0, inv_same hF rfl⟩
          · refine step_yes (wanted_of_none rfl _) ?_
            exact wp_of_run (run_mov (.tmp 10) rfl _ rfl) ⟨upd vs 6 _, rfl, k0, inv_same hF rfl⟩
          · refine step_yes (wanted_of_none rfl _) ?_
            exact wp_of_run (run_ixa3_2 (.tmp 1) (.tmp 99) rfl _ _ rfl 0 (by exact (hF 6 (he ⟨6, .data⟩ (by simp) rfl))) (by decide)) ⟨upd vs 7 _, rfl, k0, inv_same hF rfl⟩
          · refine step_yes (wanted_of_none rfl _) ?_
            exact wp_of_run (run_fld_pt1 (.tmp 100) rfl _ _ (by exact (hF 7 (he ⟨7, .data⟩ (by simp) rfl)))) ⟨upd vs 8 _, rfl, k0, inv_same hF rfl⟩
          · refine step_yes (wanted_of_none rfl _) ?_
            exact wp_of_run (run_ldi (.tmp 101) rfl _ _ (by exact (hF 8 (he ⟨8, .data⟩ (by simp) rfl))) _ ((k0.row L_5.out).cell 1)) ⟨upd vs 9 _, rfl, k0, inv_same hF rfl⟩
          · refine step_yes (wanted_of_none rfl _) ?_
            exact wp_of_run (run_remi (.tmp 102) (.const (.int .i64 100)) rfl rfl _ 100 (by decide) (by decide) (by exact (hF 9 (he ⟨9, .data⟩ (by simp) rfl))) rfl) ⟨upd vs 10 _, rfl, k0, inv_same hF rfl⟩
          · refine step_yes (wanted_of_none rfl _) ?_
            refine wp_of_callE (run_enter2 23 (.tmp 98) (.tmp 103) _ rfl _ _ (by exact (hF 5 (he ⟨5, .data⟩ (by simp) rfl))) (by exact (hF 10 (he ⟨10, .data⟩ (by simp) rfl))) (fun args w => enters_of Try.func23 (by kernel_rfl) rfl args w)) (lat (x0.tmod 100) (y0.tmod 100) wz) ?_
            rintro e w' ⟨rfl, hx⟩
            exact ⟨_, rfl, upd vs 11 _, rfl, k0.trans hx, inv_same hF rfl⟩
        case finpts13_00 =>
          rintro D ac wfpts13_00 hD ⟨vs, rfl, k0, hF⟩
          change wpList _ _ _ [_, _] _ _
          have hl0 : vs 0 = .int .i64 0 := hF 0 (hD 0 (by decide))
          rw [hl0]
          clear hl0
          have hl11 : vs 11 = .agg #[.int .i64 (x0.tmod 100), .int .i64 (y0.tmod 100)] := hF 11 (hD 11 (by decide))
          rw [hl11]
          clear hl11
          clear hF hD
          generalize vs = tvpts13_00
          have E6 := Lib.hid (E5.out.trans k0)
          have L_6 := Lib.hid (k0.row L_5.out)
          clear E5 L_5
          clear k0
          obtain ⟨ux00, hux00⟩ : ∃ z : Int, z = (x0.tmod 100) := ⟨_, rfl⟩
          obtain ⟨uy00, huy00⟩ : ∃ z : Int, z = (y0.tmod 100) := ⟨_, rfl⟩
          rw [← hux00, ← huy00]
          clear hux00 huy00
          obtain ⟨V00, hV00⟩ : ∃ V00, V00 = wfpts13_00.setRow w.heap.size (#[.int .i64 ux00, .int .i64 uy00, .int .i64 x1, .int .i64 y1, .int .i64 x2, .int .i64 y2]) := ⟨_, rfl⟩
          have LV00_0 := Lib.hid (show RowAt V00 w.heap.size 24 (#[.int .i64 ux00, .int .i64 uy00, .int .i64 x1, .int .i64 y1, .int .i64 x2, .int .i64 y2]) from by rw [hV00]; exact L_6.out.setRow _)
          have EV00 := Lib.hid (show Ext w V00 from by rw [hV00]; exact ext_setRow E6.out (Nat.le_refl _) _)
          have HV00 := Lib.hid hV00
          clear hV00
          go_wp2_with (refine store_pt_at rfl (.tmp 105) (.tmp 104) rfl w.heap.size 0 rfl _ _ rfl _ _ _ _ (#[.int .i64 ux00, .int .i64 uy00, .int .i64 x1, .int .i64 y1, .int .i64 x2, .int .i64 y2]) L_6.out rfl rfl rfl ?_; rw [← HV00.out])
          rw [rounds_succ]
          go_wp2_with fail
          refine wp_region_tail (fun D ac w' => ∃ vs : Nat → Value, ac = { tmps := #[Value.agg #[Value.int IntKind.i64 x0, Value.int IntKind.i64 y0, Value.int IntKind.i64 x1, Value.int IntKind.i64 y1, Value.int IntKind.i64 x2, Value.int IntKind.i64 y2], Value.pointer (some { block := w.heap.size, off := 0 }), Value.bool false, Value.bool true, Value.int IntKind.i64 0, Value.pointer (some { block := ga0, off := 0 }), Value.pointer (some { block := gb0, off := 0 }), Value.pointer (some { block := gc0, off := 0 }), Value.bool true, Value.bool true, Value.int IntKind.i64 1, Value.bool true, Value.int IntKind.i64 0, Value.bool true, undef, undef, tvr0 0, tvr0 1, tvr0 2, tvr0 3, tvr0 4, tvr0 5, tvpts6_0 0, tvpts6_0 1, tvpts6_0 2, tvpts6_0 3, tvpts6_0 4, tvpts6_0 5, tvpts6_0 6, tvpts6_0 7, tvpts6_0 8, tvpts6_0 9, tvpts6_0 10, tvpts6_0 11, tvpts6_0 12, tvpts6_0 13, tvpts6_0 14, tvpts6_0 15, tvpts6_0 16, tvpts6_0 17, tvpts6_0 18, tvpts6_0 19, tvpts6_0 20, tvpts6_0 21, Value.bool true, tvpts7_0 0, tvpts7_0 1, tvpts7_0 2, tvpts7_0 3, tvpts7_0 4, tvpts7_0 5, tvpts7_0 6, tvpts7_0 7, tvpts7_0 8, tvpts7_0 9, tvpts7_0 10, tvpts7_0 11, tvpts7_0 12, tvpts7_0 13, tvpts7_0 14, tvpts7_0 15, tvpts7_0 16, tvpts7_0 17, tvpts7_0 18, tvpts7_0 19, tvpts7_0 20, tvpts7_0 21, tvpts7_0 22, tvpts7_0 23, tvpts7_0 24, tvpts7_0 25, tvpts7_0 26, tvpts7_0 27, tvpts7_0 28, tvpts7_0 29, tvpts7_0 30, tvpts7_0 31, tvpts7_0 32, tvpts7_0 33, tvpts7_0 34, tvpts7_0 35, tvpts7_0 36, Value.bool true, Value.bool true, Value.bool false, Value.bool false, Value.bool true, Value.bool false, Value.bool false, Value.int IntKind.i64 1, Value.bool true, Value.int IntKind.i64 0, Value.int IntKind.i64 1, vs 0, vs 1, vs 2, vs 3, vs 4, vs 5, vs 6, vs 7, vs 8, vs 9, vs 10, vs 11, Value.pointer (some { block := w.heap.size, off := 0 }), undef], defers := [] } ∧ Ext V00 w' ∧ ∀ j, D j → pts13_01F w x0 y0 x1 y1 x2 y2 W0 w1 wfpts5_0 ga0 gb0 gc0 tvr0 wfpts6_0 tvpts6_0 wfpts7_0 tvpts7_0 wfpts13_00 tvpts13_00 ux00 uy00 V00 j (vs j)) 12 (by kernel_rfl) (by kernel_rfl) (by kernel_rfl) ?startpts13_01 ?steppts13_01 ?finpts13_01
          case startpts13_01 => exact ⟨fun j => match j with | 0 => Value.int IntKind.i64 0 | 1 => tvpts13_00 1 | 2 => tvpts13_00 2 | 3 => tvpts13_00 3 | 4 => tvpts13_00 4 | 5 => tvpts13_00 5 | 6 => tvpts13_00 6 | 7 => tvpts13_00 7 | 8 => tvpts13_00 8 | 9 => tvpts13_00 9 | 10 => tvpts13_00 10 | 11 => Value.agg #[Value.int IntKind.i64 ux00, Value.int IntKind.i64 uy00] | _ => undef, rfl, Ext.drew _, fun _ h => h.elim⟩
          case steppts13_01 =>
            rintro i o D ac wz hin hio hnd he ⟨vs, rfl, k0, hF⟩
            rcases i with _ | _ | _ | _ | _ | _ | _ | _ | _ | _ | _ | _ | i
            rotate_left 12
            · exact absurd hin (by omega)
            all_goals (obtain rfl := Option.some.inj (hio.symm.trans (by rfl)))
            · refine step_yes (wanted_of_none rfl _) ?_
              exact wp_of_run (run_mov (.tmp 10) rfl _ rfl) ⟨upd vs 0 _, rfl, k0, inv_same hF rfl⟩
            · refine step_yes (wanted_of_none rfl _) ?_
              exact wp_of_run (run_mov (.tmp 10) rfl _ rfl) ⟨upd vs 1 _, rfl, k0, inv_same hF rfl⟩
            · refine step_yes (wanted_of_none rfl _) ?_
              exact wp_of_run (run_ixa3_2 (.tmp 1) (.tmp 94) rfl _ _ rfl 1 (by exact (hF 1 (he ⟨1, .data⟩ (by simp) rfl))) (by decide)) ⟨upd vs 2 _, rfl, k0, inv_same hF rfl⟩
            · refine step_yes (wanted_of_none rfl _) ?_
              exact wp_of_run (run_fld_pt0 (.tmp 95) rfl _ _ (by exact (hF 2 (he ⟨2, .data⟩ (by simp) rfl)))) ⟨upd vs 3 _, rfl, k0, inv_same hF rfl⟩
            · refine step_yes (wanted_of_none rfl _) ?_
              exact wp_of_run (run_ldi (.tmp 96) rfl _ _ (by exact (hF 3 (he ⟨3, .data⟩ (by simp) rfl))) _ ((k0.row LV00_0.out).cell 2)) ⟨upd vs 4 _, rfl, k0, inv_same hF rfl⟩
            · refine step_yes (wanted_of_none rfl _) ?_
              exact wp_of_run (run_remi (.tmp 97) (.const (.int .i64 100)) rfl rfl _ 100 (by decide) (by decide) (by exact (hF 4 (he ⟨4, .data⟩ (by simp) rfl))) rfl) ⟨upd vs 5 _, rfl, k0, inv_same hF rfl⟩
            · refine step_yes (wanted_of_none rfl _) ?_
              exact wp_of_run (run_mov (.tmp 10) rfl _ rfl) ⟨upd vs 6 _, rfl, k0, inv_same hF rfl⟩
            · refine step_yes (wanted_of_none rfl _) ?_
              exact wp_of_run (run_ixa3_2 (.tmp 1) (.tmp 99) rfl _ _ rfl 1 (by exact (hF 6 (he ⟨6, .data⟩ (by simp) rfl))) (by decide)) ⟨upd vs 7 _, rfl, k0, inv_same hF rfl⟩
            · refine step_yes (wanted_of_none rfl _) ?_
              exact wp_of_run (run_fld_pt1 (.tmp 100) rfl _ _ (by exact (hF 7 (he ⟨7, .data⟩ (by simp) rfl)))) ⟨upd vs 8 _, rfl, k0, inv_same hF rfl⟩
            · refine step_yes (wanted_of_none rfl _) ?_
              exact wp_of_run (run_ldi (.tmp 101) rfl _ _ (by exact (hF 8 (he ⟨8, .data⟩ (by simp) rfl))) _ ((k0.row LV00_0.out).cell 3)) ⟨upd vs 9 _, rfl, k0, inv_same hF rfl⟩
            · refine step_yes (wanted_of_none rfl _) ?_
              exact wp_of_run (run_remi (.tmp 102) (.const (.int .i64 100)) rfl rfl _ 100 (by decide) (by decide) (by exact (hF 9 (he ⟨9, .data⟩ (by simp) rfl))) rfl) ⟨upd vs 10 _, rfl, k0, inv_same hF rfl⟩
            · refine step_yes (wanted_of_none rfl _) ?_
              refine wp_of_callE (run_enter2 23 (.tmp 98) (.tmp 103) _ rfl _ _ (by exact (hF 5 (he ⟨5, .data⟩ (by simp) rfl))) (by exact (hF 10 (he ⟨10, .data⟩ (by simp) rfl))) (fun args w => enters_of Try.func23 (by kernel_rfl) rfl args w)) (lat (x1.tmod 100) (y1.tmod 100) wz) ?_
              rintro e w' ⟨rfl, hx⟩
              exact ⟨_, rfl, upd vs 11 _, rfl, k0.trans hx, inv_same hF rfl⟩
          case finpts13_01 =>
            rintro D ac wfpts13_01 hD ⟨vs, rfl, k0, hF⟩
            change wpList _ _ _ [_, _] _ _
            have hl0 : vs 0 = .int .i64 1 := hF 0 (hD 0 (by decide))
            rw [hl0]
            clear hl0
            have hl11 : vs 11 = .agg #[.int .i64 (x1.tmod 100), .int .i64 (y1.tmod 100)] := hF 11 (hD 11 (by decide))
            rw [hl11]
            clear hl11
            clear hF hD
            generalize vs = tvpts13_01
            have E7 := Lib.hid (EV00.out.trans k0)
            have LV00_7 := Lib.hid (k0.row LV00_0.out)
            clear EV00 LV00_0
            clear k0
            obtain ⟨ux01, hux01⟩ : ∃ z : Int, z = (x1.tmod 100) := ⟨_, rfl⟩
            obtain ⟨uy01, huy01⟩ : ∃ z : Int, z = (y1.tmod 100) := ⟨_, rfl⟩
            rw [← hux01, ← huy01]
            clear hux01 huy01
            obtain ⟨V01, hV01⟩ : ∃ V01, V01 = wfpts13_01.setRow w.heap.size (#[.int .i64 ux00, .int .i64 uy00, .int .i64 ux01, .int .i64 uy01, .int .i64 x2, .int .i64 y2]) := ⟨_, rfl⟩
            have LV01_0 := Lib.hid (show RowAt V01 w.heap.size 24 (#[.int .i64 ux00, .int .i64 uy00, .int .i64 ux01, .int .i64 uy01, .int .i64 x2, .int .i64 y2]) from by rw [hV01]; exact LV00_7.out.setRow _)
            have EV01 := Lib.hid (show Ext w V01 from by rw [hV01]; exact ext_setRow E7.out (Nat.le_refl _) _)
            have HV01 := Lib.hid hV01
            clear hV01
            go_wp2_with (refine store_pt_at rfl (.tmp 105) (.tmp 104) rfl w.heap.size 2 rfl _ _ rfl _ _ _ _ (#[.int .i64 ux00, .int .i64 uy00, .int .i64 ux01, .int .i64 uy01, .int .i64 x2, .int .i64 y2]) LV00_7.out rfl rfl rfl ?_; rw [← HV01.out])
            rw [rounds_succ]
            go_wp2_with fail
            refine wp_region_tail (fun D ac w' => ∃ vs : Nat → Value, ac = { tmps := #[Value.agg #[Value.int IntKind.i64 x0, Value.int IntKind.i64 y0, Value.int IntKind.i64 x1, Value.int IntKind.i64 y1, Value.int IntKind.i64 x2, Value.int IntKind.i64 y2], Value.pointer (some { block := w.heap.size, off := 0 }), Value.bool false, Value.bool true, Value.int IntKind.i64 0, Value.pointer (some { block := ga0, off := 0 }), Value.pointer (some { block := gb0, off := 0 }), Value.pointer (some { block := gc0, off := 0 }), Value.bool true, Value.bool true, Value.int IntKind.i64 2, Value.bool true, Value.int IntKind.i64 0, Value.bool true, undef, undef, tvr0 0, tvr0 1, tvr0 2, tvr0 3, tvr0 4, tvr0 5, tvpts6_0 0, tvpts6_0 1, tvpts6_0 2, tvpts6_0 3, tvpts6_0 4, tvpts6_0 5, tvpts6_0 6, tvpts6_0 7, tvpts6_0 8, tvpts6_0 9, tvpts6_0 10, tvpts6_0 11, tvpts6_0 12, tvpts6_0 13, tvpts6_0 14, tvpts6_0 15, tvpts6_0 16, tvpts6_0 17, tvpts6_0 18, tvpts6_0 19, tvpts6_0 20, tvpts6_0 21, Value.bool true, tvpts7_0 0, tvpts7_0 1, tvpts7_0 2, tvpts7_0 3, tvpts7_0 4, tvpts7_0 5, tvpts7_0 6, tvpts7_0 7, tvpts7_0 8, tvpts7_0 9, tvpts7_0 10, tvpts7_0 11, tvpts7_0 12, tvpts7_0 13, tvpts7_0 14, tvpts7_0 15, tvpts7_0 16, tvpts7_0 17, tvpts7_0 18, tvpts7_0 19, tvpts7_0 20, tvpts7_0 21, tvpts7_0 22, tvpts7_0 23, tvpts7_0 24, tvpts7_0 25, tvpts7_0 26, tvpts7_0 27, tvpts7_0 28, tvpts7_0 29, tvpts7_0 30, tvpts7_0 31, tvpts7_0 32, tvpts7_0 33, tvpts7_0 34, tvpts7_0 35, tvpts7_0 36, Value.bool true, Value.bool true, Value.bool false, Value.bool false, Value.bool true, Value.bool false, Value.bool false, Value.int IntKind.i64 2, Value.bool true, Value.int IntKind.i64 1, Value.int IntKind.i64 2, vs 0, vs 1, vs 2, vs 3, vs 4, vs 5, vs 6, vs 7, vs 8, vs 9, vs 10, vs 11, Value.pointer (some { block := w.heap.size, off := 2 }), undef], defers := [] } ∧ Ext V01 w' ∧ ∀ j, D j → pts13_02F w x0 y0 x1 y1 x2 y2 W0 w1 wfpts5_0 ga0 gb0 gc0 tvr0 wfpts6_0 tvpts6_0 wfpts7_0 tvpts7_0 wfpts13_00 tvpts13_00 ux00 uy00 V00 wfpts13_01 tvpts13_01 ux01 uy01 V01 j (vs j)) 12 (by kernel_rfl) (by kernel_rfl) (by kernel_rfl) ?startpts13_02 ?steppts13_02 ?finpts13_02
            case startpts13_02 => exact ⟨fun j => match j with | 0 => Value.int IntKind.i64 1 | 1 => tvpts13_01 1 | 2 => tvpts13_01 2 | 3 => tvpts13_01 3 | 4 => tvpts13_01 4 | 5 => tvpts13_01 5 | 6 => tvpts13_01 6 | 7 => tvpts13_01 7 | 8 => tvpts13_01 8 | 9 => tvpts13_01 9 | 10 => tvpts13_01 10 | 11 => Value.agg #[Value.int IntKind.i64 ux01, Value.int IntKind.i64 uy01] | _ => undef, rfl, Ext.drew _, fun _ h => h.elim⟩
            case steppts13_02 =>
              rintro i o D ac wz hin hio hnd he ⟨vs, rfl, k0, hF⟩
              rcases i with _ | _ | _ | _ | _ | _ | _ | _ | _ | _ | _ | _ | i
              rotate_left 12
              · exact absurd hin (by omega)
              all_goals (obtain rfl := Option.some.inj (hio.symm.trans (by rfl)))
              · refine step_yes (wanted_of_none rfl _) ?_
                exact wp_of_run (run_mov (.tmp 10) rfl _ rfl) ⟨upd vs 0 _, rfl, k0, inv_same hF rfl⟩
              · refine step_yes (wanted_of_none rfl _) ?_
                exact wp_of_run (run_mov (.tmp 10) rfl _ rfl) ⟨upd vs 1 _, rfl, k0, inv_same hF rfl⟩
              · refine step_yes (wanted_of_none rfl _) ?_
                exact wp_of_run (run_ixa3_2 (.tmp 1) (.tmp 94) rfl _ _ rfl 2 (by exact (hF 1 (he ⟨1, .data⟩ (by simp) rfl))) (by decide)) ⟨upd vs 2 _, rfl, k0, inv_same hF rfl⟩
              · refine step_yes (wanted_of_none rfl _) ?_
                exact wp_of_run (run_fld_pt0 (.tmp 95) rfl _ _ (by exact (hF 2 (he ⟨2, .data⟩ (by simp) rfl)))) ⟨upd vs 3 _, rfl, k0, inv_same hF rfl⟩
              · refine step_yes (wanted_of_none rfl _) ?_
                exact wp_of_run (run_ldi (.tmp 96) rfl _ _ (by exact (hF 3 (he ⟨3, .data⟩ (by simp) rfl))) _ ((k0.row LV01_0.out).cell 4)) ⟨upd vs 4 _, rfl, k0, inv_same hF rfl⟩
              · refine step_yes (wanted_of_none rfl _) ?_
                exact wp_of_run (run_remi (.tmp 97) (.const (.int .i64 100)) rfl rfl _ 100 (by decide) (by decide) (by exact (hF 4 (he ⟨4, .data⟩ (by simp) rfl))) rfl) ⟨upd vs 5 _, rfl, k0, inv_same hF rfl⟩
              · refine step_yes (wanted_of_none rfl _) ?_
                exact wp_of_run (run_mov (.tmp 10) rfl _ rfl) ⟨upd vs 6 _, rfl, k0, inv_same hF rfl⟩
              · refine step_yes (wanted_of_none rfl _) ?_
                exact wp_of_run (run_ixa3_2 (.tmp 1) (.tmp 99) rfl _ _ rfl 2 (by exact (hF 6 (he ⟨6, .data⟩ (by simp) rfl))) (by decide)) ⟨upd vs 7 _, rfl, k0, inv_same hF rfl⟩
              · refine step_yes (wanted_of_none rfl _) ?_
                exact wp_of_run (run_fld_pt1 (.tmp 100) rfl _ _ (by exact (hF 7 (he ⟨7, .data⟩ (by simp) rfl)))) ⟨upd vs 8 _, rfl, k0, inv_same hF rfl⟩
              · refine step_yes (wanted_of_none rfl _) ?_
                exact wp_of_run (run_ldi (.tmp 101) rfl _ _ (by exact (hF 8 (he ⟨8, .data⟩ (by simp) rfl))) _ ((k0.row LV01_0.out).cell 5)) ⟨upd vs 9 _, rfl, k0, inv_same hF rfl⟩
              · refine step_yes (wanted_of_none rfl _) ?_
                exact wp_of_run (run_remi (.tmp 102) (.const (.int .i64 100)) rfl rfl _ 100 (by decide) (by decide) (by exact (hF 9 (he ⟨9, .data⟩ (by simp) rfl))) rfl) ⟨upd vs 10 _, rfl, k0, inv_same hF rfl⟩
              · refine step_yes (wanted_of_none rfl _) ?_
                refine wp_of_callE (run_enter2 23 (.tmp 98) (.tmp 103) _ rfl _ _ (by exact (hF 5 (he ⟨5, .data⟩ (by simp) rfl))) (by exact (hF 10 (he ⟨10, .data⟩ (by simp) rfl))) (fun args w => enters_of Try.func23 (by kernel_rfl) rfl args w)) (lat (x2.tmod 100) (y2.tmod 100) wz) ?_
                rintro e w' ⟨rfl, hx⟩
                exact ⟨_, rfl, upd vs 11 _, rfl, k0.trans hx, inv_same hF rfl⟩
            case finpts13_02 =>
              rintro D ac wfpts13_02 hD ⟨vs, rfl, k0, hF⟩
              change wpList _ _ _ [_, _] _ _
              have hl0 : vs 0 = .int .i64 2 := hF 0 (hD 0 (by decide))
              rw [hl0]
              clear hl0
              have hl11 : vs 11 = .agg #[.int .i64 (x2.tmod 100), .int .i64 (y2.tmod 100)] := hF 11 (hD 11 (by decide))
              rw [hl11]
              clear hl11
              clear hF hD
              generalize vs = tvpts13_02
              have E8 := Lib.hid (EV01.out.trans k0)
              have LV01_8 := Lib.hid (k0.row LV01_0.out)
              clear EV01 LV01_0
              clear k0
              obtain ⟨ux02, hux02⟩ : ∃ z : Int, z = (x2.tmod 100) := ⟨_, rfl⟩
              obtain ⟨uy02, huy02⟩ : ∃ z : Int, z = (y2.tmod 100) := ⟨_, rfl⟩
              rw [← hux02, ← huy02]
              clear hux02 huy02
              obtain ⟨V02, hV02⟩ : ∃ V02, V02 = wfpts13_02.setRow w.heap.size (#[.int .i64 ux00, .int .i64 uy00, .int .i64 ux01, .int .i64 uy01, .int .i64 ux02, .int .i64 uy02]) := ⟨_, rfl⟩
              have LV02_0 := Lib.hid (show RowAt V02 w.heap.size 24 (#[.int .i64 ux00, .int .i64 uy00, .int .i64 ux01, .int .i64 uy01, .int .i64 ux02, .int .i64 uy02]) from by rw [hV02]; exact LV01_8.out.setRow _)
              have EV02 := Lib.hid (show Ext w V02 from by rw [hV02]; exact ext_setRow E8.out (Nat.le_refl _) _)
              have HV02 := Lib.hid hV02
              clear hV02
              go_wp2_with (refine store_pt_at rfl (.tmp 105) (.tmp 104) rfl w.heap.size 4 rfl _ _ rfl _ _ _ _ (#[.int .i64 ux00, .int .i64 uy00, .int .i64 ux01, .int .i64 uy01, .int .i64 ux02, .int .i64 uy02]) LV01_8.out rfl rfl rfl ?_; rw [← HV02.out])
              rw [rounds_succ]
              go_wp2_with fail
              rw [rounds_succ]
              go_wp2_with fail
              refine wp_region_tail (fun D ac w' => ∃ vs : Nat → Value, ac = { tmps := #[Value.agg #[Value.int IntKind.i64 x0, Value.int IntKind.i64 y0, Value.int IntKind.i64 x1, Value.int IntKind.i64 y1, Value.int IntKind.i64 x2, Value.int IntKind.i64 y2], Value.pointer (some { block := w.heap.size, off := 0 }), Value.bool false, Value.bool true, Value.int IntKind.i64 1, vs 6, vs 7, vs 8, Value.bool true, Value.bool true, Value.int IntKind.i64 3, Value.bool true, Value.int IntKind.i64 1, Value.bool true, Value.int IntKind.i64 0, Value.int IntKind.i64 1, vs 0, vs 1, vs 2, vs 3, vs 4, vs 5, tvpts6_0 0, tvpts6_0 1, tvpts6_0 2, tvpts6_0 3, tvpts6_0 4, tvpts6_0 5, tvpts6_0 6, tvpts6_0 7, tvpts6_0 8, tvpts6_0 9, tvpts6_0 10, tvpts6_0 11, tvpts6_0 12, tvpts6_0 13, tvpts6_0 14, tvpts6_0 15, tvpts6_0 16, tvpts6_0 17, tvpts6_0 18, tvpts6_0 19, tvpts6_0 20, tvpts6_0 21, Value.bool true, tvpts7_0 0, tvpts7_0 1, tvpts7_0 2, tvpts7_0 3, tvpts7_0 4, tvpts7_0 5, tvpts7_0 6, tvpts7_0 7, tvpts7_0 8, tvpts7_0 9, tvpts7_0 10, tvpts7_0 11, tvpts7_0 12, tvpts7_0 13, tvpts7_0 14, tvpts7_0 15, tvpts7_0 16, tvpts7_0 17, tvpts7_0 18, tvpts7_0 19, tvpts7_0 20, tvpts7_0 21, tvpts7_0 22, tvpts7_0 23, tvpts7_0 24, tvpts7_0 25, tvpts7_0 26, tvpts7_0 27, tvpts7_0 28, tvpts7_0 29, tvpts7_0 30, tvpts7_0 31, tvpts7_0 32, tvpts7_0 33, tvpts7_0 34, tvpts7_0 35, tvpts7_0 36, Value.bool true, Value.bool true, Value.bool false, Value.bool false, Value.bool true, Value.bool false, Value.bool false, Value.int IntKind.i64 3, Value.bool false, Value.int IntKind.i64 2, Value.int IntKind.i64 3, Value.int IntKind.i64 2, tvpts13_02 1, tvpts13_02 2, tvpts13_02 3, tvpts13_02 4, tvpts13_02 5, tvpts13_02 6, tvpts13_02 7, tvpts13_02 8, tvpts13_02 9, tvpts13_02 10, Value.agg #[Value.int IntKind.i64 ux02, Value.int IntKind.i64 uy02], Value.pointer (some { block := w.heap.size, off := 4 }), undef], defers := [] } ∧ Ext V02 w' ∧ (∀ j, D j → pts5_1F w x0 y0 x1 y1 x2 y2 W0 w1 wfpts5_0 ga0 gb0 gc0 tvr0 wfpts6_0 tvpts6_0 wfpts7_0 tvpts7_0 wfpts13_00 tvpts13_00 ux00 uy00 V00 wfpts13_01 tvpts13_01 ux01 uy01 V01 wfpts13_02 tvpts13_02 ux02 uy02 V02 j (vs j)) ∧ Ows V02.heap.size [(6, 9), (7, 10), (8, 11)] (fun _ => 23) (fun _ => #[.int .i64 0, .int .i64 0]) (fun k => match k with | 6 => #[.int .i64 ux00, .int .i64 uy00] | 7 => #[.int .i64 ux01, .int .i64 uy01] | 8 => #[.int .i64 ux02, .int .i64 uy02] | _ => #[]) D vs w') 12 (by kernel_rfl) (by kernel_rfl) (by kernel_rfl) ?startpts5_1 ?steppts5_1 ?finpts5_1
              case startpts5_1 => exact ⟨fun j => match j with | 0 => tvr0 0 | 1 => tvr0 1 | 2 => tvr0 2 | 3 => tvr0 3 | 4 => tvr0 4 | 5 => tvr0 5 | 6 => Value.pointer (some { block := ga0, off := 0 }) | 7 => Value.pointer (some { block := gb0, off := 0 }) | 8 => Value.pointer (some { block := gc0, off := 0 }) | _ => undef, rfl, Ext.drew _, fun _ h => h.elim, ows_none⟩
              case steppts5_1 =>
                rintro i o D ac wz hin hio hnd he ⟨vs, rfl, k0, hF, hO⟩
                rcases i with _ | _ | _ | _ | _ | _ | _ | _ | _ | _ | _ | _ | i
                rotate_left 12
                · exact absurd hin (by omega)
                all_goals (obtain rfl := Option.some.inj (hio.symm.trans (by rfl)))
                · refine step_yes (wanted_of_none rfl _) ?_
                  exact wp_of_run (run_ixa3_2 (.tmp 1) (.const (.int .i64 0)) rfl _ _ rfl 0 rfl (by decide)) ⟨upd vs 0 _, rfl, k0, inv_same hF rfl, ows_pure hO (Ext.refl _) rfl⟩
                · refine step_yes (wanted_of_none rfl _) ?_
                  exact wp_of_run (run_ld_pt (.tmp 16) rfl _ _ (by exact (hF 0 (he ⟨0, .data⟩ (by simp) rfl))) _ _ ((k0.row LV02_0.out).cell 0) ((k0.row LV02_0.out).cell 1)) ⟨upd vs 1 _, rfl, k0, inv_same hF rfl, ows_pure hO (Ext.refl _) rfl⟩
                · refine step_yes (wanted_of_none rfl _) ?_
                  exact wp_of_run (run_ixa3_2 (.tmp 1) (.const (.int .i64 1)) rfl _ _ rfl 1 rfl (by decide)) ⟨upd vs 2 _, rfl, k0, inv_same hF rfl, ows_pure hO (Ext.refl _) rfl⟩
                · refine step_yes (wanted_of_none rfl _) ?_
                  exact wp_of_run (run_ld_pt (.tmp 18) rfl _ _ (by exact (hF 2 (he ⟨2, .data⟩ (by simp) rfl))) _ _ ((k0.row LV02_0.out).cell 2) ((k0.row LV02_0.out).cell 3)) ⟨upd vs 3 _, rfl, k0, inv_same hF rfl, ows_pure hO (Ext.refl _) rfl⟩
                · refine step_yes (wanted_of_none rfl _) ?_
                  exact wp_of_run (run_ixa3_2 (.tmp 1) (.const (.int .i64 2)) rfl _ _ rfl 2 rfl (by decide)) ⟨upd vs 4 _, rfl, k0, inv_same hF rfl, ows_pure hO (Ext.refl _) rfl⟩
                · refine step_yes (wanted_of_none rfl _) ?_
                  exact wp_of_run (run_ld_pt (.tmp 20) rfl _ _ (by exact (hF 4 (he ⟨4, .data⟩ (by simp) rfl))) _ _ ((k0.row LV02_0.out).cell 4) ((k0.row LV02_0.out).cell 5)) ⟨upd vs 5 _, rfl, k0, inv_same hF rfl, ows_pure hO (Ext.refl _) rfl⟩
                · refine step_yes (wanted_of_none rfl _) ?_
                  exact wp_of_run (run_alloc_pt rfl) ⟨upd vs 6 _, rfl, k0.trans (Ext.alloc _ _), inv_same hF trivial, ows_alloc (s := 9) rfl (by simp) hO (Below.size k0) hnd⟩
                · refine step_yes (wanted_of_none rfl _) ?_
                  exact wp_of_run (run_alloc_pt rfl) ⟨upd vs 7 _, rfl, k0.trans (Ext.alloc _ _), inv_same hF trivial, ows_alloc (s := 10) rfl (by simp) hO (Below.size k0) hnd⟩
                · refine step_yes (wanted_of_none rfl _) ?_
                  exact wp_of_run (run_alloc_pt rfl) ⟨upd vs 8 _, rfl, k0.trans (Ext.alloc _ _), inv_same hF trivial, ows_alloc (s := 11) rfl (by simp) hO (Below.size k0) hnd⟩
                · refine step_yes (wanted_of_none rfl _) ?_
                  obtain ⟨g, hg, hle, hr, hO2⟩ := ows_store (a := 6) (s := 9) rfl (by simp) hO (he ⟨6, .data⟩ (by simp) rfl) hnd
                  exact wp_of_skip (run_st_pt (.tmp 5) (.tmp 17) rfl g 0 (by exact hg) _ _ (by exact (hF 1 (he ⟨1, .data⟩ (by simp) rfl))) _ _ _ _ (#[.int .i64 ux00, .int .i64 uy00]) hr rfl rfl rfl) ⟨vs, rfl, ext_setRow k0 (by exact hle) _, inv_skip hF trivial, hO2⟩
                · refine step_yes (wanted_of_none rfl _) ?_
                  obtain ⟨g, hg, hle, hr, hO2⟩ := ows_store (a := 7) (s := 10) rfl (by simp) hO (he ⟨7, .data⟩ (by simp) rfl) hnd
                  exact wp_of_skip (run_st_pt (.tmp 6) (.tmp 19) rfl g 0 (by exact hg) _ _ (by exact (hF 3 (he ⟨3, .data⟩ (by simp) rfl))) _ _ _ _ (#[.int .i64 ux01, .int .i64 uy01]) hr rfl rfl rfl) ⟨vs, rfl, ext_setRow k0 (by exact hle) _, inv_skip hF trivial, hO2⟩
                · refine step_yes (wanted_of_none rfl _) ?_
                  obtain ⟨g, hg, hle, hr, hO2⟩ := ows_store (a := 8) (s := 11) rfl (by simp) hO (he ⟨8, .data⟩ (by simp) rfl) hnd
                  exact wp_of_skip (run_st_pt (.tmp 7) (.tmp 21) rfl g 0 (by exact hg) _ _ (by exact (hF 5 (he ⟨5, .data⟩ (by simp) rfl))) _ _ _ _ (#[.int .i64 ux02, .int .i64 uy02]) hr rfl rfl rfl) ⟨vs, rfl, ext_setRow k0 (by exact hle) _, inv_skip hF trivial, hO2⟩
              case finpts5_1 =>
                rintro D ac wfpts5_1 hD ⟨vs, rfl, k0, hF, hO⟩
                change wpList _ _ _ [] _ _
                unfold wpList
                have E9 := Lib.hid (EV02.out.trans k0)
                have LV02_9 := Lib.hid (k0.row LV02_0.out)
                clear EV02 LV02_0
                clear k0
                obtain ⟨ga1, hga, -, rga⟩ := ows_get (a := 6) (s := 9) hO (by simp) (hD 6 (by decide)) (hD 9 (by decide))
                rw [hga]
                obtain ⟨gb1, hgb, -, rgb⟩ := ows_get (a := 7) (s := 10) hO (by simp) (hD 7 (by decide)) (hD 10 (by decide))
                rw [hgb]
                obtain ⟨gc1, hgc, -, rgc⟩ := ows_get (a := 8) (s := 11) hO (by simp) (hD 8 (by decide)) (hD 11 (by decide))
                rw [hgc]
                clear hF hD hO hga hgb hgc
                generalize vs = tvr1
                have GA1_0 := Lib.hid rga
                clear rga
                have GB1_0 := Lib.hid rgb
                clear rgb
                have GC1_0 := Lib.hid rgc
                clear rgc
                go_wp2_with fail
                refine wp_region_tail (fun D ac w' => ∃ vs : Nat → Value, ac = { tmps := #[Value.agg #[Value.int IntKind.i64 x0, Value.int IntKind.i64 y0, Value.int IntKind.i64 x1, Value.int IntKind.i64 y1, Value.int IntKind.i64 x2, Value.int IntKind.i64 y2], Value.pointer (some { block := w.heap.size, off := 0 }), Value.bool false, Value.bool true, Value.int IntKind.i64 1, Value.pointer (some { block := ga1, off := 0 }), Value.pointer (some { block := gb1, off := 0 }), Value.pointer (some { block := gc1, off := 0 }), Value.bool true, Value.bool true, Value.int IntKind.i64 3, Value.bool true, Value.int IntKind.i64 1, Value.bool true, Value.int IntKind.i64 0, Value.int IntKind.i64 1, tvr1 0, tvr1 1, tvr1 2, tvr1 3, tvr1 4, tvr1 5, vs 0, vs 1, vs 2, vs 3, vs 4, vs 5, vs 6, vs 7, vs 8, vs 9, vs 10, vs 11, vs 12, vs 13, vs 14, vs 15, vs 16, vs 17, vs 18, vs 19, vs 20, vs 21, vs 22, tvpts7_0 0, tvpts7_0 1, tvpts7_0 2, tvpts7_0 3, tvpts7_0 4, tvpts7_0 5, tvpts7_0 6, tvpts7_0 7, tvpts7_0 8, tvpts7_0 9, tvpts7_0 10, tvpts7_0 11, tvpts7_0 12, tvpts7_0 13, tvpts7_0 14, tvpts7_0 15, tvpts7_0 16, tvpts7_0 17, tvpts7_0 18, tvpts7_0 19, tvpts7_0 20, tvpts7_0 21, tvpts7_0 22, tvpts7_0 23, tvpts7_0 24, tvpts7_0 25, tvpts7_0 26, tvpts7_0 27, tvpts7_0 28, tvpts7_0 29, tvpts7_0 30, tvpts7_0 31, tvpts7_0 32, tvpts7_0 33, tvpts7_0 34, tvpts7_0 35, tvpts7_0 36, Value.bool true, Value.bool true, Value.bool false, Value.bool false, Value.bool true, Value.bool false, Value.bool false, Value.int IntKind.i64 3, Value.bool false, Value.int IntKind.i64 2, Value.int IntKind.i64 3, Value.int IntKind.i64 2, tvpts13_02 1, tvpts13_02 2, tvpts13_02 3, tvpts13_02 4, tvpts13_02 5, tvpts13_02 6, tvpts13_02 7, tvpts13_02 8, tvpts13_02 9, tvpts13_02 10, Value.agg #[Value.int IntKind.i64 ux02, Value.int IntKind.i64 uy02], Value.pointer (some { block := w.heap.size, off := 4 }), undef], defers := [] } ∧ Ext wfpts5_1 w' ∧ ∀ j, D j → pts6_1F w x0 y0 x1 y1 x2 y2 W0 w1 wfpts5_0 ga0 gb0 gc0 tvr0 wfpts6_0 tvpts6_0 wfpts7_0 tvpts7_0 wfpts13_00 tvpts13_00 ux00 uy00 V00 wfpts13_01 tvpts13_01 ux01 uy01 V01 wfpts13_02 tvpts13_02 ux02 uy02 V02 wfpts5_1 ga1 gb1 gc1 tvr1 j (vs j)) 23 (by kernel_rfl) (by kernel_rfl) (by kernel_rfl) ?startpts6_1 ?steppts6_1 ?finpts6_1
                case startpts6_1 => exact ⟨fun j => match j with | 0 => tvpts6_0 0 | 1 => tvpts6_0 1 | 2 => tvpts6_0 2 | 3 => tvpts6_0 3 | 4 => tvpts6_0 4 | 5 => tvpts6_0 5 | 6 => tvpts6_0 6 | 7 => tvpts6_0 7 | 8 => tvpts6_0 8 | 9 => tvpts6_0 9 | 10 => tvpts6_0 10 | 11 => tvpts6_0 11 | 12 => tvpts6_0 12 | 13 => tvpts6_0 13 | 14 => tvpts6_0 14 | 15 => tvpts6_0 15 | 16 => tvpts6_0 16 | 17 => tvpts6_0 17 | 18 => tvpts6_0 18 | 19 => tvpts6_0 19 | 20 => tvpts6_0 20 | 21 => tvpts6_0 21 | 22 => Value.bool true | _ => undef, rfl, Ext.drew _, fun _ h => h.elim⟩
                case steppts6_1 =>
                  rintro i o D ac wz hin hio hnd he ⟨vs, rfl, k0, hF⟩
                  rcases i with _ | _ | _ | _ | _ | _ | _ | _ | _ | _ | _ | _ | _ | _ | _ | _ | _ | _ | _ | _ | _ | _ | _ | i
                  rotate_left 23
                  · exact absurd hin (by omega)
                  all_goals (obtain rfl := Option.some.inj (hio.symm.trans (by rfl)))
                  · refine step_yes (wanted_of_none rfl _) ?_
                    exact wp_of_run (run_ld_pt (.tmp 5) rfl _ _ rfl _ _ ((k0.row GA1_0.out).cell 0) ((k0.row GA1_0.out).cell 1)) ⟨upd vs 0 _, rfl, k0, inv_same hF rfl⟩
                  · refine step_yes (wanted_of_none rfl _) ?_
                    refine wp_of_callE (run_enter1 9 (.tmp 22) _ rfl _ (by exact (hF 0 (he ⟨0, .data⟩ (by simp) rfl))) (fun args w => enters_of Try.func9 (by kernel_rfl) rfl args w)) (vright ux00 uy00 wz) ?_
                    rintro e w' ⟨rfl, hx⟩
                    exact ⟨_, rfl, upd vs 1 _, rfl, k0.trans hx, inv_same hF rfl⟩
                  · refine step_yes (wanted_of_none rfl _) ?_
                    exact wp_of_run (run_ld_pt (.tmp 5) rfl _ _ rfl _ _ ((k0.row GA1_0.out).cell 0) ((k0.row GA1_0.out).cell 1)) ⟨upd vs 2 _, rfl, k0, inv_same hF rfl⟩
                  · refine step_yes (wanted_of_none rfl _) ?_
                    refine wp_of_callE (run_enter1 10 (.tmp 24) _ rfl _ (by exact (hF 2 (he ⟨2, .data⟩ (by simp) rfl))) (fun args w => enters_of Try.func10 (by kernel_rfl) rfl args w)) (rright ux00 uy00 wz) ?_
                    rintro e w' ⟨rfl, hx⟩
                    exact ⟨_, rfl, upd vs 3 _, rfl, k0.trans hx, inv_same hF rfl⟩
                  · refine step_yes (wanted_of_none rfl _) ?_
                    exact wp_of_run (run_eqb (.tmp 23) (.tmp 25) rfl _ _ (by exact (hF 1 (he ⟨1, .data⟩ (by simp) rfl))) (by exact (hF 3 (he ⟨3, .data⟩ (by simp) rfl))) _ (by simp)) ⟨upd vs 4 _, rfl, k0, inv_same hF rfl⟩
                  · refine step_yes (wanted_of_none rfl _) ?_
                    exact wp_of_run (run_mov (.tmp 26) rfl _ (by exact (hF 4 (he ⟨4, .data⟩ (by simp) rfl)))) ⟨upd vs 5 _, rfl, k0, inv_same hF rfl⟩
                  · refine step_yes (wanted_g (j := 5) (d := 27) rfl rfl rfl (hF 5 (he ⟨5, .guard⟩ (by simp) rfl))) ?_
                    exact wp_of_run (run_ld_pt (.tmp 5) rfl _ _ rfl _ _ ((k0.row GA1_0.out).cell 0) ((k0.row GA1_0.out).cell 1)) ⟨upd vs 6 _, rfl, k0, inv_same hF rfl⟩
                  · refine step_yes (wanted_g (j := 5) (d := 27) rfl rfl rfl (hF 5 (he ⟨5, .guard⟩ (by simp) rfl))) ?_
                    exact wp_of_run (run_ld_pt (.tmp 6) rfl _ _ rfl _ _ ((k0.row GB1_0.out).cell 0) ((k0.row GB1_0.out).cell 1)) ⟨upd vs 7 _, rfl, k0, inv_same hF rfl⟩
                  · refine step_yes (wanted_g (j := 5) (d := 27) rfl rfl rfl (hF 5 (he ⟨5, .chain⟩ (by simp) rfl))) ?_
                    refine wp_of_callE (run_enter2 11 (.tmp 28) (.tmp 29) _ rfl _ _ (by exact (hF 6 (he ⟨6, .data⟩ (by simp) rfl))) (by exact (hF 7 (he ⟨7, .data⟩ (by simp) rfl))) (fun args w => enters_of Try.func11 (by kernel_rfl) rfl args w)) (vadd ux00 uy00 ux01 uy01 wz) ?_
                    rintro e w' ⟨rfl, hx⟩
                    exact ⟨_, rfl, upd vs 8 _, rfl, k0.trans hx, inv_same hF rfl⟩
                  · refine step_yes (wanted_g (j := 5) (d := 27) rfl rfl rfl (hF 5 (he ⟨5, .guard⟩ (by simp) rfl))) ?_
                    exact wp_of_run (run_ld_pt (.tmp 5) rfl _ _ rfl _ _ ((k0.row GA1_0.out).cell 0) ((k0.row GA1_0.out).cell 1)) ⟨upd vs 9 _, rfl, k0, inv_same hF rfl⟩
                  · refine step_yes (wanted_g (j := 5) (d := 27) rfl rfl rfl (hF 5 (he ⟨5, .guard⟩ (by simp) rfl))) ?_
                    exact wp_of_run (run_ld_pt (.tmp 6) rfl _ _ rfl _ _ ((k0.row GB1_0.out).cell 0) ((k0.row GB1_0.out).cell 1)) ⟨upd vs 10 _, rfl, k0, inv_same hF rfl⟩
                  · refine step_yes (wanted_g (j := 5) (d := 27) rfl rfl rfl (hF 5 (he ⟨5, .guard⟩ (by simp) rfl))) ?_
                    refine wp_of_callE (run_enter2 12 (.tmp 31) (.tmp 32) _ rfl _ _ (by exact (hF 9 (he ⟨9, .data⟩ (by simp) rfl))) (by exact (hF 10 (he ⟨10, .data⟩ (by simp) rfl))) (fun args w => enters_of Try.func12 (by kernel_rfl) rfl args w)) (radd ux00 uy00 ux01 uy01 wz) ?_
                    rintro e w' ⟨rfl, hx⟩
                    exact ⟨_, rfl, upd vs 11 _, rfl, k0.trans hx, inv_same hF rfl⟩
                  · refine step_yes (wanted_g (j := 5) (d := 27) rfl rfl rfl (hF 5 (he ⟨5, .guard⟩ (by simp) rfl))) ?_
                    exact wp_of_run (run_eq_pt (.tmp 30) (.tmp 33) rfl _ _ _ _ (by exact (hF 8 (he ⟨8, .data⟩ (by simp) rfl))) (by exact (hF 11 (he ⟨11, .data⟩ (by simp) rfl))) _ (by simp)) ⟨upd vs 12 _, rfl, k0, inv_same hF rfl⟩
                  · refine step_yes (wanted_of_none rfl _) ?_
                    exact wp_of_run (run_pick_t (.tmp 27) (.tmp 34) (.const (.bool false)) rfl (by exact (hF 5 (he ⟨5, .data⟩ (by simp) rfl))) _ (by exact (hF 12 (he ⟨12, .data⟩ (by simp) rfl)))) ⟨upd vs 13 _, rfl, k0, inv_same hF rfl⟩
                  · refine step_yes (wanted_of_none rfl _) ?_
                    exact wp_of_run (run_mov (.tmp 35) rfl _ (by exact (hF 13 (he ⟨13, .data⟩ (by simp) rfl)))) ⟨upd vs 14 _, rfl, k0, inv_same hF rfl⟩
                  · refine step_yes (wanted_g (j := 14) (d := 36) rfl rfl rfl (hF 14 (he ⟨14, .guard⟩ (by simp) rfl))) ?_
                    exact wp_of_run (run_ld_pt (.tmp 5) rfl _ _ rfl _ _ ((k0.row GA1_0.out).cell 0) ((k0.row GA1_0.out).cell 1)) ⟨upd vs 15 _, rfl, k0, inv_same hF rfl⟩
                  · refine step_yes (wanted_g (j := 14) (d := 36) rfl rfl rfl (hF 14 (he ⟨14, .guard⟩ (by simp) rfl))) ?_
                    exact wp_of_run (run_ld_pt (.tmp 6) rfl _ _ rfl _ _ ((k0.row GB1_0.out).cell 0) ((k0.row GB1_0.out).cell 1)) ⟨upd vs 16 _, rfl, k0, inv_same hF rfl⟩
                  · refine step_yes (wanted_g (j := 14) (d := 36) rfl rfl rfl (hF 14 (he ⟨14, .chain⟩ (by simp) rfl))) ?_
                    refine wp_of_callE (run_enter2 13 (.tmp 37) (.tmp 38) _ rfl _ _ (by exact (hF 15 (he ⟨15, .data⟩ (by simp) rfl))) (by exact (hF 16 (he ⟨16, .data⟩ (by simp) rfl))) (fun args w => enters_of Try.func13 (by kernel_rfl) rfl args w)) (vsub ux00 uy00 ux01 uy01 wz) ?_
                    rintro e w' ⟨rfl, hx⟩
                    exact ⟨_, rfl, upd vs 17 _, rfl, k0.trans hx, inv_same hF rfl⟩
                  · refine step_yes (wanted_g (j := 14) (d := 36) rfl rfl rfl (hF 14 (he ⟨14, .guard⟩ (by simp) rfl))) ?_
                    exact wp_of_run (run_ld_pt (.tmp 5) rfl _ _ rfl _ _ ((k0.row GA1_0.out).cell 0) ((k0.row GA1_0.out).cell 1)) ⟨upd vs 18 _, rfl, k0, inv_same hF rfl⟩
                  · refine step_yes (wanted_g (j := 14) (d := 36) rfl rfl rfl (hF 14 (he ⟨14, .guard⟩ (by simp) rfl))) ?_
                    exact wp_of_run (run_ld_pt (.tmp 6) rfl _ _ rfl _ _ ((k0.row GB1_0.out).cell 0) ((k0.row GB1_0.out).cell 1)) ⟨upd vs 19 _, rfl, k0, inv_same hF rfl⟩
                  · refine step_yes (wanted_g (j := 14) (d := 36) rfl rfl rfl (hF 14 (he ⟨14, .guard⟩ (by simp) rfl))) ?_
                    refine wp_of_callE (run_enter2 14 (.tmp 40) (.tmp 41) _ rfl _ _ (by exact (hF 18 (he ⟨18, .data⟩ (by simp) rfl))) (by exact (hF 19 (he ⟨19, .data⟩ (by simp) rfl))) (fun args w => enters_of Try.func14 (by kernel_rfl) rfl args w)) (rsub ux00 uy00 ux01 uy01 wz) ?_
                    rintro e w' ⟨rfl, hx⟩
                    exact ⟨_, rfl, upd vs 20 _, rfl, k0.trans hx, inv_same hF rfl⟩
                  · refine step_yes (wanted_g (j := 14) (d := 36) rfl rfl rfl (hF 14 (he ⟨14, .guard⟩ (by simp) rfl))) ?_
                    exact wp_of_run (run_eq_pt (.tmp 39) (.tmp 42) rfl _ _ _ _ (by exact (hF 17 (he ⟨17, .data⟩ (by simp) rfl))) (by exact (hF 20 (he ⟨20, .data⟩ (by simp) rfl))) _ (by simp)) ⟨upd vs 21 _, rfl, k0, inv_same hF rfl⟩
                  · refine step_yes (wanted_of_none rfl _) ?_
                    exact wp_of_run (run_pick_t (.tmp 36) (.tmp 43) (.const (.bool false)) rfl (by exact (hF 14 (he ⟨14, .data⟩ (by simp) rfl))) _ (by exact (hF 21 (he ⟨21, .data⟩ (by simp) rfl)))) ⟨upd vs 22 _, rfl, k0, inv_same hF rfl⟩
                case finpts6_1 =>
                  rintro D ac wfpts6_1 hD ⟨vs, rfl, k0, hF⟩
                  change wpList _ _ _ [_] _ _
                  have hl22 : vs 22 = .bool true := hF 22 (hD 22 (by decide))
                  rw [hl22]
                  clear hl22
                  clear hF hD
                  generalize vs = tvpts6_1
                  have E10 := Lib.hid (E9.out.trans k0)
                  have LV02_10 := Lib.hid (k0.row LV02_9.out)
                  have GA1_10 := Lib.hid (k0.row GA1_0.out)
                  have GB1_10 := Lib.hid (k0.row GB1_0.out)
                  have GC1_10 := Lib.hid (k0.row GC1_0.out)
                  clear E9 LV02_9 GA1_0 GB1_0 GC1_0
                  clear k0
                  go_wp2_with fail
                  refine wp_region_tail (fun D ac w' => ∃ vs : Nat → Value, ac = { tmps := #[Value.agg #[Value.int IntKind.i64 x0, Value.int IntKind.i64 y0, Value.int IntKind.i64 x1, Value.int IntKind.i64 y1, Value.int IntKind.i64 x2, Value.int IntKind.i64 y2], Value.pointer (some { block := w.heap.size, off := 0 }), Value.bool false, Value.bool true, Value.int IntKind.i64 1, Value.pointer (some { block := ga1, off := 0 }), Value.pointer (some { block := gb1, off := 0 }), Value.pointer (some { block := gc1, off := 0 }), Value.bool true, Value.bool true, Value.int IntKind.i64 3, Value.bool true, Value.int IntKind.i64 1, Value.bool true, Value.int IntKind.i64 0, Value.int IntKind.i64 1, tvr1 0, tvr1 1, tvr1 2, tvr1 3, tvr1 4, tvr1 5, tvpts6_1 0, tvpts6_1 1, tvpts6_1 2, tvpts6_1 3, tvpts6_1 4, tvpts6_1 5, tvpts6_1 6, tvpts6_1 7, tvpts6_1 8, tvpts6_1 9, tvpts6_1 10, tvpts6_1 11, tvpts6_1 12, tvpts6_1 13, tvpts6_1 14, tvpts6_1 15, tvpts6_1 16, tvpts6_1 17, tvpts6_1 18, tvpts6_1 19, tvpts6_1 20, tvpts6_1 21, Value.bool true, vs 0, vs 1, vs 2, vs 3, vs 4, vs 5, vs 6, vs 7, vs 8, vs 9, vs 10, vs 11, vs 12, vs 13, vs 14, vs 15, vs 16, vs 17, vs 18, vs 19, vs 20, vs 21, vs 22, vs 23, vs 24, vs 25, vs 26, vs 27, vs 28, vs 29, vs 30, vs 31, vs 32, vs 33, vs 34, vs 35, vs 36, vs 37, Value.bool true, Value.bool false, Value.bool false, Value.bool true, Value.bool false, Value.bool false, Value.int IntKind.i64 3, Value.bool false, Value.int IntKind.i64 2, Value.int IntKind.i64 3, Value.int IntKind.i64 2, tvpts13_02 1, tvpts13_02 2, tvpts13_02 3, tvpts13_02 4, tvpts13_02 5, tvpts13_02 6, tvpts13_02 7, tvpts13_02 8, tvpts13_02 9, tvpts13_02 10, Value.agg #[Value.int IntKind.i64 ux02, Value.int IntKind.i64 uy02], Value.pointer (some { block := w.heap.size, off := 4 }), undef], defers := [] } ∧ Ext wfpts6_1 w' ∧ ∀ j, D j → pts7_1F w x0 y0 x1 y1 x2 y2 W0 w1 wfpts5_0 ga0 gb0 gc0 tvr0 wfpts6_0 tvpts6_0 wfpts7_0 tvpts7_0 wfpts13_00 tvpts13_00 ux00 uy00 V00 wfpts13_01 tvpts13_01 ux01 uy01 V01 wfpts13_02 tvpts13_02 ux02 uy02 V02 wfpts5_1 ga1 gb1 gc1 tvr1 wfpts6_1 tvpts6_1 j (vs j)) 38 (by kernel_rfl) (by kernel_rfl) (by kernel_rfl) ?startpts7_1 ?steppts7_1 ?finpts7_1
                  case startpts7_1 => exact ⟨fun j => match j with | 0 => tvpts7_0 0 | 1 => tvpts7_0 1 | 2 => tvpts7_0 2 | 3 => tvpts7_0 3 | 4 => tvpts7_0 4 | 5 => tvpts7_0 5 | 6 => tvpts7_0 6 | 7 => tvpts7_0 7 | 8 => tvpts7_0 8 | 9 => tvpts7_0 9 | 10 => tvpts7_0 10 | 11 => tvpts7_0 11 | 12 => tvpts7_0 12 | 13 => tvpts7_0 13 | 14 => tvpts7_0 14 | 15 => tvpts7_0 15 | 16 => tvpts7_0 16 | 17 => tvpts7_0 17 | 18 => tvpts7_0 18 | 19 => tvpts7_0 19 | 20 => tvpts7_0 20 | 21 => tvpts7_0 21 | 22 => tvpts7_0 22 | 23 => tvpts7_0 23 | 24 => tvpts7_0 24 | 25 => tvpts7_0 25 | 26 => tvpts7_0 26 | 27 => tvpts7_0 27 | 28 => tvpts7_0 28 | 29 => tvpts7_0 29 | 30 => tvpts7_0 30 | 31 => tvpts7_0 31 | 32 => tvpts7_0 32 | 33 => tvpts7_0 33 | 34 => tvpts7_0 34 | 35 => tvpts7_0 35 | 36 => tvpts7_0 36 | 37 => Value.bool true | _ => undef, rfl, Ext.drew _, fun _ h => h.elim⟩
                  case steppts7_1 =>
                    rintro i o D ac wz hin hio hnd he ⟨vs, rfl, k0, hF⟩
                    rcases i with _ | _ | _ | _ | _ | _ | _ | _ | _ | _ | _ | _ | _ | _ | _ | _ | _ | _ | _ | _ | _ | _ | _ | _ | _ | _ | _ | _ | _ | _ | _ | _ | _ | _ | _ | _ | _ | _ | i
                    rotate_left 38
                    · exact absurd hin (by omega)
                    all_goals (obtain rfl := Option.some.inj (hio.symm.trans (by rfl)))
                    · refine step_yes (wanted_of_none rfl _) ?_
                      exact wp_of_run (run_ld_pt (.tmp 5) rfl _ _ rfl _ _ ((k0.row GA1_10.out).cell 0) ((k0.row GA1_10.out).cell 1)) ⟨upd vs 0 _, rfl, k0, inv_same hF rfl⟩
                    · refine step_yes (wanted_of_none rfl _) ?_
                      exact wp_of_run (run_ld_pt (.tmp 6) rfl _ _ rfl _ _ ((k0.row GB1_10.out).cell 0) ((k0.row GB1_10.out).cell 1)) ⟨upd vs 1 _, rfl, k0, inv_same hF rfl⟩
                    · refine step_yes (wanted_of_none rfl _) ?_
                      refine wp_of_callE (run_enter2 15 (.tmp 45) (.tmp 46) _ rfl _ _ (by exact (hF 0 (he ⟨0, .data⟩ (by simp) rfl))) (by exact (hF 1 (he ⟨1, .data⟩ (by simp) rfl))) (fun args w => enters_of Try.func15 (by kernel_rfl) rfl args w)) (vcross ux00 uy00 ux01 uy01 wz) ?_
                      rintro e w' ⟨rfl, hx⟩
                      exact ⟨_, rfl, upd vs 2 _, rfl, k0.trans hx, inv_same hF rfl⟩
                    · refine step_yes (wanted_of_none rfl _) ?_
                      exact wp_of_run (run_ld_pt (.tmp 5) rfl _ _ rfl _ _ ((k0.row GA1_10.out).cell 0) ((k0.row GA1_10.out).cell 1)) ⟨upd vs 3 _, rfl, k0, inv_same hF rfl⟩
                    · refine step_yes (wanted_of_none rfl _) ?_
                      exact wp_of_run (run_ld_pt (.tmp 6) rfl _ _ rfl _ _ ((k0.row GB1_10.out).cell 0) ((k0.row GB1_10.out).cell 1)) ⟨upd vs 4 _, rfl, k0, inv_same hF rfl⟩
                    · refine step_yes (wanted_of_none rfl _) ?_
                      refine wp_of_callE (run_enter2 16 (.tmp 48) (.tmp 49) _ rfl _ _ (by exact (hF 3 (he ⟨3, .data⟩ (by simp) rfl))) (by exact (hF 4 (he ⟨4, .data⟩ (by simp) rfl))) (fun args w => enters_of Try.func16 (by kernel_rfl) rfl args w)) (rcross ux00 uy00 ux01 uy01 wz) ?_
                      rintro e w' ⟨rfl, hx⟩
                      exact ⟨_, rfl, upd vs 5 _, rfl, k0.trans hx, inv_same hF rfl⟩
                    · refine step_yes (wanted_of_none rfl _) ?_
                      exact wp_of_run (run_eqi (.tmp 47) (.tmp 50) rfl _ _ (by exact (hF 2 (he ⟨2, .data⟩ (by simp) rfl))) (by exact (hF 5 (he ⟨5, .data⟩ (by simp) rfl))) _ (by simp)) ⟨upd vs 6 _, rfl, k0, inv_same hF rfl⟩
                    · refine step_yes (wanted_of_none rfl _) ?_
                      exact wp_of_run (run_mov (.tmp 51) rfl _ (by exact (hF 6 (he ⟨6, .data⟩ (by simp) rfl)))) ⟨upd vs 7 _, rfl, k0, inv_same hF rfl⟩
                    · refine step_yes (wanted_g (j := 7) (d := 52) rfl rfl rfl (hF 7 (he ⟨7, .guard⟩ (by simp) rfl))) ?_
                      exact wp_of_run (run_ld_pt (.tmp 5) rfl _ _ rfl _ _ ((k0.row GA1_10.out).cell 0) ((k0.row GA1_10.out).cell 1)) ⟨upd vs 8 _, rfl, k0, inv_same hF rfl⟩
                    · refine step_yes (wanted_g (j := 7) (d := 52) rfl rfl rfl (hF 7 (he ⟨7, .guard⟩ (by simp) rfl))) ?_
                      exact wp_of_run (run_ld_pt (.tmp 6) rfl _ _ rfl _ _ ((k0.row GB1_10.out).cell 0) ((k0.row GB1_10.out).cell 1)) ⟨upd vs 9 _, rfl, k0, inv_same hF rfl⟩
                    · refine step_yes (wanted_g (j := 7) (d := 52) rfl rfl rfl (hF 7 (he ⟨7, .chain⟩ (by simp) rfl))) ?_
                      refine wp_of_callE (run_enter2 17 (.tmp 53) (.tmp 54) _ rfl _ _ (by exact (hF 8 (he ⟨8, .data⟩ (by simp) rfl))) (by exact (hF 9 (he ⟨9, .data⟩ (by simp) rfl))) (fun args w => enters_of Try.func17 (by kernel_rfl) rfl args w)) (vdot ux00 uy00 ux01 uy01 wz) ?_
                      rintro e w' ⟨rfl, hx⟩
                      exact ⟨_, rfl, upd vs 10 _, rfl, k0.trans hx, inv_same hF rfl⟩
                    · refine step_yes (wanted_g (j := 7) (d := 52) rfl rfl rfl (hF 7 (he ⟨7, .guard⟩ (by simp) rfl))) ?_
                      exact wp_of_run (run_ld_pt (.tmp 5) rfl _ _ rfl _ _ ((k0.row GA1_10.out).cell 0) ((k0.row GA1_10.out).cell 1)) ⟨upd vs 11 _, rfl, k0, inv_same hF rfl⟩
                    · refine step_yes (wanted_g (j := 7) (d := 52) rfl rfl rfl (hF 7 (he ⟨7, .guard⟩ (by simp) rfl))) ?_
                      exact wp_of_run (run_ld_pt (.tmp 6) rfl _ _ rfl _ _ ((k0.row GB1_10.out).cell 0) ((k0.row GB1_10.out).cell 1)) ⟨upd vs 12 _, rfl, k0, inv_same hF rfl⟩
                    · refine step_yes (wanted_g (j := 7) (d := 52) rfl rfl rfl (hF 7 (he ⟨7, .guard⟩ (by simp) rfl))) ?_
                      refine wp_of_callE (run_enter2 18 (.tmp 56) (.tmp 57) _ rfl _ _ (by exact (hF 11 (he ⟨11, .data⟩ (by simp) rfl))) (by exact (hF 12 (he ⟨12, .data⟩ (by simp) rfl))) (fun args w => enters_of Try.func18 (by kernel_rfl) rfl args w)) (rdot ux00 uy00 ux01 uy01 wz) ?_
                      rintro e w' ⟨rfl, hx⟩
                      exact ⟨_, rfl, upd vs 13 _, rfl, k0.trans hx, inv_same hF rfl⟩
                    · refine step_yes (wanted_g (j := 7) (d := 52) rfl rfl rfl (hF 7 (he ⟨7, .guard⟩ (by simp) rfl))) ?_
                      exact wp_of_run (run_eqi (.tmp 55) (.tmp 58) rfl _ _ (by exact (hF 10 (he ⟨10, .data⟩ (by simp) rfl))) (by exact (hF 13 (he ⟨13, .data⟩ (by simp) rfl))) _ (by simp)) ⟨upd vs 14 _, rfl, k0, inv_same hF rfl⟩
                    · refine step_yes (wanted_of_none rfl _) ?_
                      exact wp_of_run (run_pick_t (.tmp 52) (.tmp 59) (.const (.bool false)) rfl (by exact (hF 7 (he ⟨7, .data⟩ (by simp) rfl))) _ (by exact (hF 14 (he ⟨14, .data⟩ (by simp) rfl)))) ⟨upd vs 15 _, rfl, k0, inv_same hF rfl⟩
                    · refine step_yes (wanted_of_none rfl _) ?_
                      exact wp_of_run (run_mov (.tmp 60) rfl _ (by exact (hF 15 (he ⟨15, .data⟩ (by simp) rfl)))) ⟨upd vs 16 _, rfl, k0, inv_same hF rfl⟩
                    · refine step_yes (wanted_g (j := 16) (d := 61) rfl rfl rfl (hF 16 (he ⟨16, .guard⟩ (by simp) rfl))) ?_
                      exact wp_of_run (run_ld_pt (.tmp 5) rfl _ _ rfl _ _ ((k0.row GA1_10.out).cell 0) ((k0.row GA1_10.out).cell 1)) ⟨upd vs 17 _, rfl, k0, inv_same hF rfl⟩
                    · refine step_yes (wanted_g (j := 16) (d := 61) rfl rfl rfl (hF 16 (he ⟨16, .guard⟩ (by simp) rfl))) ?_
                      exact wp_of_run (run_ld_pt (.tmp 6) rfl _ _ rfl _ _ ((k0.row GB1_10.out).cell 0) ((k0.row GB1_10.out).cell 1)) ⟨upd vs 18 _, rfl, k0, inv_same hF rfl⟩
                    · refine step_yes (wanted_g (j := 16) (d := 61) rfl rfl rfl (hF 16 (he ⟨16, .guard⟩ (by simp) rfl))) ?_
                      exact wp_of_run (run_ld_pt (.tmp 7) rfl _ _ rfl _ _ ((k0.row GC1_10.out).cell 0) ((k0.row GC1_10.out).cell 1)) ⟨upd vs 19 _, rfl, k0, inv_same hF rfl⟩
                    · refine step_yes (wanted_g (j := 16) (d := 61) rfl rfl rfl (hF 16 (he ⟨16, .chain⟩ (by simp) rfl))) ?_
                      refine wp_of_callE (run_enter3 19 (.tmp 62) (.tmp 63) (.tmp 64) _ rfl _ _ _ (by exact (hF 17 (he ⟨17, .data⟩ (by simp) rfl))) (by exact (hF 18 (he ⟨18, .data⟩ (by simp) rfl))) (by exact (hF 19 (he ⟨19, .data⟩ (by simp) rfl))) (fun args w => enters_of Try.func19 (by kernel_rfl) rfl args w)) (vside ux00 uy00 ux01 uy01 ux02 uy02 wz) ?_
                      rintro e w' ⟨rfl, hx⟩
                      exact ⟨_, rfl, upd vs 20 _, rfl, k0.trans hx, inv_same hF rfl⟩
                    · refine step_yes (wanted_g (j := 16) (d := 61) rfl rfl rfl (hF 16 (he ⟨16, .guard⟩ (by simp) rfl))) ?_
                      exact wp_of_run (run_ld_pt (.tmp 5) rfl _ _ rfl _ _ ((k0.row GA1_10.out).cell 0) ((k0.row GA1_10.out).cell 1)) ⟨upd vs 21 _, rfl, k0, inv_same hF rfl⟩
                    · refine step_yes (wanted_g (j := 16) (d := 61) rfl rfl rfl (hF 16 (he ⟨16, .guard⟩ (by simp) rfl))) ?_
                      exact wp_of_run (run_ld_pt (.tmp 6) rfl _ _ rfl _ _ ((k0.row GB1_10.out).cell 0) ((k0.row GB1_10.out).cell 1)) ⟨upd vs 22 _, rfl, k0, inv_same hF rfl⟩
                    · refine step_yes (wanted_g (j := 16) (d := 61) rfl rfl rfl (hF 16 (he ⟨16, .guard⟩ (by simp) rfl))) ?_
                      exact wp_of_run (run_ld_pt (.tmp 7) rfl _ _ rfl _ _ ((k0.row GC1_10.out).cell 0) ((k0.row GC1_10.out).cell 1)) ⟨upd vs 23 _, rfl, k0, inv_same hF rfl⟩
                    · refine step_yes (wanted_g (j := 16) (d := 61) rfl rfl rfl (hF 16 (he ⟨16, .guard⟩ (by simp) rfl))) ?_
                      refine wp_of_callE (run_enter3 20 (.tmp 66) (.tmp 67) (.tmp 68) _ rfl _ _ _ (by exact (hF 21 (he ⟨21, .data⟩ (by simp) rfl))) (by exact (hF 22 (he ⟨22, .data⟩ (by simp) rfl))) (by exact (hF 23 (he ⟨23, .data⟩ (by simp) rfl))) (fun args w => enters_of Try.func20 (by kernel_rfl) rfl args w)) (rside ux00 uy00 ux01 uy01 ux02 uy02 wz) ?_
                      rintro e w' ⟨rfl, hx⟩
                      exact ⟨_, rfl, upd vs 24 _, rfl, k0.trans hx, inv_same hF rfl⟩
                    · refine step_yes (wanted_g (j := 16) (d := 61) rfl rfl rfl (hF 16 (he ⟨16, .guard⟩ (by simp) rfl))) ?_
                      exact wp_of_run (run_eqi (.tmp 65) (.tmp 69) rfl _ _ (by exact (hF 20 (he ⟨20, .data⟩ (by simp) rfl))) (by exact (hF 24 (he ⟨24, .data⟩ (by simp) rfl))) _ (by simp)) ⟨upd vs 25 _, rfl, k0, inv_same hF rfl⟩
                    · refine step_yes (wanted_of_none rfl _) ?_
                      exact wp_of_run (run_pick_t (.tmp 61) (.tmp 70) (.const (.bool false)) rfl (by exact (hF 16 (he ⟨16, .data⟩ (by simp) rfl))) _ (by exact (hF 25 (he ⟨25, .data⟩ (by simp) rfl)))) ⟨upd vs 26 _, rfl, k0, inv_same hF rfl⟩
                    · refine step_yes (wanted_of_none rfl _) ?_
                      exact wp_of_run (run_mov (.tmp 71) rfl _ (by exact (hF 26 (he ⟨26, .data⟩ (by simp) rfl)))) ⟨upd vs 27 _, rfl, k0, inv_same hF rfl⟩
                    · refine step_yes (wanted_g (j := 27) (d := 72) rfl rfl rfl (hF 27 (he ⟨27, .guard⟩ (by simp) rfl))) ?_
                      exact wp_of_run (run_ld_pt (.tmp 5) rfl _ _ rfl _ _ ((k0.row GA1_10.out).cell 0) ((k0.row GA1_10.out).cell 1)) ⟨upd vs 28 _, rfl, k0, inv_same hF rfl⟩
                    · refine step_yes (wanted_g (j := 27) (d := 72) rfl rfl rfl (hF 27 (he ⟨27, .guard⟩ (by simp) rfl))) ?_
                      exact wp_of_run (run_ld_pt (.tmp 6) rfl _ _ rfl _ _ ((k0.row GB1_10.out).cell 0) ((k0.row GB1_10.out).cell 1)) ⟨upd vs 29 _, rfl, k0, inv_same hF rfl⟩
                    · refine step_yes (wanted_g (j := 27) (d := 72) rfl rfl rfl (hF 27 (he ⟨27, .guard⟩ (by simp) rfl))) ?_
                      exact wp_of_run (run_ld_pt (.tmp 7) rfl _ _ rfl _ _ ((k0.row GC1_10.out).cell 0) ((k0.row GC1_10.out).cell 1)) ⟨upd vs 30 _, rfl, k0, inv_same hF rfl⟩
                    · refine step_yes (wanted_g (j := 27) (d := 72) rfl rfl rfl (hF 27 (he ⟨27, .chain⟩ (by simp) rfl))) ?_
                      refine wp_of_callE (run_enter3 21 (.tmp 73) (.tmp 74) (.tmp 75) _ rfl _ _ _ (by exact (hF 28 (he ⟨28, .data⟩ (by simp) rfl))) (by exact (hF 29 (he ⟨29, .data⟩ (by simp) rfl))) (by exact (hF 30 (he ⟨30, .data⟩ (by simp) rfl))) (fun args w => enters_of Try.func21 (by kernel_rfl) rfl args w)) (vwithin ux00 uy00 ux01 uy01 ux02 uy02 wz) ?_
                      rintro e w' ⟨rfl, hx⟩
                      exact ⟨_, rfl, upd vs 31 _, rfl, k0.trans hx, inv_same hF rfl⟩
                    · refine step_yes (wanted_g (j := 27) (d := 72) rfl rfl rfl (hF 27 (he ⟨27, .guard⟩ (by simp) rfl))) ?_
                      exact wp_of_run (run_ld_pt (.tmp 5) rfl _ _ rfl _ _ ((k0.row GA1_10.out).cell 0) ((k0.row GA1_10.out).cell 1)) ⟨upd vs 32 _, rfl, k0, inv_same hF rfl⟩
                    · refine step_yes (wanted_g (j := 27) (d := 72) rfl rfl rfl (hF 27 (he ⟨27, .guard⟩ (by simp) rfl))) ?_
                      exact wp_of_run (run_ld_pt (.tmp 6) rfl _ _ rfl _ _ ((k0.row GB1_10.out).cell 0) ((k0.row GB1_10.out).cell 1)) ⟨upd vs 33 _, rfl, k0, inv_same hF rfl⟩
                    · refine step_yes (wanted_g (j := 27) (d := 72) rfl rfl rfl (hF 27 (he ⟨27, .guard⟩ (by simp) rfl))) ?_
                      exact wp_of_run (run_ld_pt (.tmp 7) rfl _ _ rfl _ _ ((k0.row GC1_10.out).cell 0) ((k0.row GC1_10.out).cell 1)) ⟨upd vs 34 _, rfl, k0, inv_same hF rfl⟩
                    · refine step_yes (wanted_g (j := 27) (d := 72) rfl rfl rfl (hF 27 (he ⟨27, .guard⟩ (by simp) rfl))) ?_
                      refine wp_of_callE (run_enter3 22 (.tmp 77) (.tmp 78) (.tmp 79) _ rfl _ _ _ (by exact (hF 32 (he ⟨32, .data⟩ (by simp) rfl))) (by exact (hF 33 (he ⟨33, .data⟩ (by simp) rfl))) (by exact (hF 34 (he ⟨34, .data⟩ (by simp) rfl))) (fun args w => enters_of Try.func22 (by kernel_rfl) rfl args w)) (rwithin ux00 uy00 ux01 uy01 ux02 uy02 wz) ?_
                      rintro e w' ⟨rfl, hx⟩
                      exact ⟨_, rfl, upd vs 35 _, rfl, k0.trans hx, inv_same hF rfl⟩
                    · refine step_yes (wanted_g (j := 27) (d := 72) rfl rfl rfl (hF 27 (he ⟨27, .guard⟩ (by simp) rfl))) ?_
                      exact wp_of_run (run_eqb (.tmp 76) (.tmp 80) rfl _ _ (by exact (hF 31 (he ⟨31, .data⟩ (by simp) rfl))) (by exact (hF 35 (he ⟨35, .data⟩ (by simp) rfl))) _ (by simp)) ⟨upd vs 36 _, rfl, k0, inv_same hF rfl⟩
                    · refine step_yes (wanted_of_none rfl _) ?_
                      exact wp_of_run (run_pick_t (.tmp 72) (.tmp 81) (.const (.bool false)) rfl (by exact (hF 27 (he ⟨27, .data⟩ (by simp) rfl))) _ (by exact (hF 36 (he ⟨36, .data⟩ (by simp) rfl)))) ⟨upd vs 37 _, rfl, k0, inv_same hF rfl⟩
                  case finpts7_1 =>
                    rintro D ac wfpts7_1 hD ⟨vs, rfl, k0, hF⟩
                    change wpList _ _ _ [_] _ _
                    have hl37 : vs 37 = .bool true := hF 37 (hD 37 (by decide))
                    rw [hl37]
                    clear hl37
                    clear hF hD
                    generalize vs = tvpts7_1
                    have E11 := Lib.hid (E10.out.trans k0)
                    have LV02_11 := Lib.hid (k0.row LV02_10.out)
                    have GA1_11 := Lib.hid (k0.row GA1_10.out)
                    have GB1_11 := Lib.hid (k0.row GB1_10.out)
                    have GC1_11 := Lib.hid (k0.row GC1_10.out)
                    clear E10 LV02_10 GA1_10 GB1_10 GC1_10
                    clear k0
                    go_wp2_with fail
                    refine wp_loop_rounds 4 ?_
                    rw [rounds_succ]
                    go_wp2_with fail
                    refine wp_region_tail (fun D ac w' => ∃ vs : Nat → Value, ac = { tmps := #[Value.agg #[Value.int IntKind.i64 x0, Value.int IntKind.i64 y0, Value.int IntKind.i64 x1, Value.int IntKind.i64 y1, Value.int IntKind.i64 x2, Value.int IntKind.i64 y2], Value.pointer (some { block := w.heap.size, off := 0 }), Value.bool false, Value.bool true, Value.int IntKind.i64 1, Value.pointer (some { block := ga1, off := 0 }), Value.pointer (some { block := gb1, off := 0 }), Value.pointer (some { block := gc1, off := 0 }), Value.bool true, Value.bool true, Value.int IntKind.i64 0, Value.bool true, Value.int IntKind.i64 1, Value.bool true, Value.int IntKind.i64 0, Value.int IntKind.i64 1, tvr1 0, tvr1 1, tvr1 2, tvr1 3, tvr1 4, tvr1 5, tvpts6_1 0, tvpts6_1 1, tvpts6_1 2, tvpts6_1 3, tvpts6_1 4, tvpts6_1 5, tvpts6_1 6, tvpts6_1 7, tvpts6_1 8, tvpts6_1 9, tvpts6_1 10, tvpts6_1 11, tvpts6_1 12, tvpts6_1 13, tvpts6_1 14, tvpts6_1 15, tvpts6_1 16, tvpts6_1 17, tvpts6_1 18, tvpts6_1 19, tvpts6_1 20, tvpts6_1 21, Value.bool true, tvpts7_1 0, tvpts7_1 1, tvpts7_1 2, tvpts7_1 3, tvpts7_1 4, tvpts7_1 5, tvpts7_1 6, tvpts7_1 7, tvpts7_1 8, tvpts7_1 9, tvpts7_1 10, tvpts7_1 11, tvpts7_1 12, tvpts7_1 13, tvpts7_1 14, tvpts7_1 15, tvpts7_1 16, tvpts7_1 17, tvpts7_1 18, tvpts7_1 19, tvpts7_1 20, tvpts7_1 21, tvpts7_1 22, tvpts7_1 23, tvpts7_1 24, tvpts7_1 25, tvpts7_1 26, tvpts7_1 27, tvpts7_1 28, tvpts7_1 29, tvpts7_1 30, tvpts7_1 31, tvpts7_1 32, tvpts7_1 33, tvpts7_1 34, tvpts7_1 35, tvpts7_1 36, Value.bool true, Value.bool true, Value.bool false, Value.bool false, Value.bool true, Value.bool false, Value.bool false, Value.int IntKind.i64 0, Value.bool true, Value.int IntKind.i64 2, Value.int IntKind.i64 3, vs 0, vs 1, vs 2, vs 3, vs 4, vs 5, vs 6, vs 7, vs 8, vs 9, vs 10, vs 11, Value.pointer (some { block := w.heap.size, off := 4 }), undef], defers := [] } ∧ Ext wfpts7_1 w' ∧ ∀ j, D j → pts13_10F w x0 y0 x1 y1 x2 y2 W0 w1 wfpts5_0 ga0 gb0 gc0 tvr0 wfpts6_0 tvpts6_0 wfpts7_0 tvpts7_0 wfpts13_00 tvpts13_00 ux00 uy00 V00 wfpts13_01 tvpts13_01 ux01 uy01 V01 wfpts13_02 tvpts13_02 ux02 uy02 V02 wfpts5_1 ga1 gb1 gc1 tvr1 wfpts6_1 tvpts6_1 wfpts7_1 tvpts7_1 j (vs j)) 12 (by kernel_rfl) (by kernel_rfl) (by kernel_rfl) ?startpts13_10 ?steppts13_10 ?finpts13_10
                    case startpts13_10 => exact ⟨fun j => match j with | 0 => Value.int IntKind.i64 2 | 1 => tvpts13_02 1 | 2 => tvpts13_02 2 | 3 => tvpts13_02 3 | 4 => tvpts13_02 4 | 5 => tvpts13_02 5 | 6 => tvpts13_02 6 | 7 => tvpts13_02 7 | 8 => tvpts13_02 8 | 9 => tvpts13_02 9 | 10 => tvpts13_02 10 | 11 => Value.agg #[Value.int IntKind.i64 ux02, Value.int IntKind.i64 uy02] | _ => undef, rfl, Ext.drew _, fun _ h => h.elim⟩
                    case steppts13_10 =>
                      rintro i o D ac wz hin hio hnd he ⟨vs, rfl, k0, hF⟩
                      rcases i with _ | _ | _ | _ | _ | _ | _ | _ | _ | _ | _ | _ | i
                      rotate_left 12
                      · exact absurd hin (by omega)
                      all_goals (obtain rfl := Option.some.inj (hio.symm.trans (by rfl)))
                      · refine step_yes (wanted_of_none rfl _) ?_
                        exact wp_of_run (run_mov (.tmp 10) rfl _ rfl) ⟨upd vs 0 _, rfl, k0, inv_same hF rfl⟩
                      · refine step_yes (wanted_of_none rfl _) ?_
                        exact wp_of_run (run_mov (.tmp 10) rfl _ rfl) ⟨upd vs 1 _, rfl, k0, inv_same hF rfl⟩
                      · refine step_yes (wanted_of_none rfl _) ?_
                        exact wp_of_run (run_ixa3_2 (.tmp 1) (.tmp 94) rfl _ _ rfl 0 (by exact (hF 1 (he ⟨1, .data⟩ (by simp) rfl))) (by decide)) ⟨upd vs 2 _, rfl, k0, inv_same hF rfl⟩
                      · refine step_yes (wanted_of_none rfl _) ?_
                        exact wp_of_run (run_fld_pt0 (.tmp 95) rfl _ _ (by exact (hF 2 (he ⟨2, .data⟩ (by simp) rfl)))) ⟨upd vs 3 _, rfl, k0, inv_same hF rfl⟩
                      · refine step_yes (wanted_of_none rfl _) ?_
                        exact wp_of_run (run_ldi (.tmp 96) rfl _ _ (by exact (hF 3 (he ⟨3, .data⟩ (by simp) rfl))) _ ((k0.row LV02_11.out).cell 0)) ⟨upd vs 4 _, rfl, k0, inv_same hF rfl⟩
                      · refine step_yes (wanted_of_none rfl _) ?_
                        exact wp_of_run (run_remi (.tmp 97) (.const (.int .i64 100)) rfl rfl _ 100 (by decide) (by decide) (by exact (hF 4 (he ⟨4, .data⟩ (by simp) rfl))) rfl) ⟨upd vs 5 _, rfl, k0, inv_same hF rfl⟩
                      · refine step_yes (wanted_of_none rfl _) ?_
                        exact wp_of_run (run_mov (.tmp 10) rfl _ rfl) ⟨upd vs 6 _, rfl, k0, inv_same hF rfl⟩
                      · refine step_yes (wanted_of_none rfl _) ?_
                        exact wp_of_run (run_ixa3_2 (.tmp 1) (.tmp 99) rfl _ _ rfl 0 (by exact (hF 6 (he ⟨6, .data⟩ (by simp) rfl))) (by decide)) ⟨upd vs 7 _, rfl, k0, inv_same hF rfl⟩
                      · refine step_yes (wanted_of_none rfl _) ?_
                        exact wp_of_run (run_fld_pt1 (.tmp 100) rfl _ _ (by exact (hF 7 (he ⟨7, .data⟩ (by simp) rfl)))) ⟨upd vs 8 _, rfl, k0, inv_same hF rfl⟩
                      · refine step_yes (wanted_of_none rfl _) ?_
                        exact wp_of_run (run_ldi (.tmp 101) rfl _ _ (by exact (hF 8 (he ⟨8, .data⟩ (by simp) rfl))) _ ((k0.row LV02_11.out).cell 1)) ⟨upd vs 9 _, rfl, k0, inv_same hF rfl⟩
                      · refine step_yes (wanted_of_none rfl _) ?_
                        exact wp_of_run (run_remi (.tmp 102) (.const (.int .i64 100)) rfl rfl _ 100 (by decide) (by decide) (by exact (hF 9 (he ⟨9, .data⟩ (by simp) rfl))) rfl) ⟨upd vs 10 _, rfl, k0, inv_same hF rfl⟩
                      · refine step_yes (wanted_of_none rfl _) ?_
                        refine wp_of_callE (run_enter2 23 (.tmp 98) (.tmp 103) _ rfl _ _ (by exact (hF 5 (he ⟨5, .data⟩ (by simp) rfl))) (by exact (hF 10 (he ⟨10, .data⟩ (by simp) rfl))) (fun args w => enters_of Try.func23 (by kernel_rfl) rfl args w)) (lat (ux00.tmod 100) (uy00.tmod 100) wz) ?_
                        rintro e w' ⟨rfl, hx⟩
                        exact ⟨_, rfl, upd vs 11 _, rfl, k0.trans hx, inv_same hF rfl⟩
                    case finpts13_10 =>
                      rintro D ac wfpts13_10 hD ⟨vs, rfl, k0, hF⟩
                      change wpList _ _ _ [_, _] _ _
                      have hl0 : vs 0 = .int .i64 0 := hF 0 (hD 0 (by decide))
                      rw [hl0]
                      clear hl0
                      have hl11 : vs 11 = .agg #[.int .i64 (ux00.tmod 100), .int .i64 (uy00.tmod 100)] := hF 11 (hD 11 (by decide))
                      rw [hl11]
                      clear hl11
                      clear hF hD
                      generalize vs = tvpts13_10
                      have E12 := Lib.hid (E11.out.trans k0)
                      have LV02_12 := Lib.hid (k0.row LV02_11.out)
                      clear E11 LV02_11
                      clear k0
                      obtain ⟨ux10, hux10⟩ : ∃ z : Int, z = (ux00.tmod 100) := ⟨_, rfl⟩
                      obtain ⟨uy10, huy10⟩ : ∃ z : Int, z = (uy00.tmod 100) := ⟨_, rfl⟩
                      rw [← hux10, ← huy10]
                      clear hux10 huy10
                      obtain ⟨V10, hV10⟩ : ∃ V10, V10 = wfpts13_10.setRow w.heap.size (#[.int .i64 ux10, .int .i64 uy10, .int .i64 ux01, .int .i64 uy01, .int .i64 ux02, .int .i64 uy02]) := ⟨_, rfl⟩
                      have LV10_0 := Lib.hid (show RowAt V10 w.heap.size 24 (#[.int .i64 ux10, .int .i64 uy10, .int .i64 ux01, .int .i64 uy01, .int .i64 ux02, .int .i64 uy02]) from by rw [hV10]; exact LV02_12.out.setRow _)
                      have EV10 := Lib.hid (show Ext w V10 from by rw [hV10]; exact ext_setRow E12.out (Nat.le_refl _) _)
                      have HV10 := Lib.hid hV10
                      clear hV10
                      go_wp2_with (refine store_pt_at rfl (.tmp 105) (.tmp 104) rfl w.heap.size 0 rfl _ _ rfl _ _ _ _ (#[.int .i64 ux10, .int .i64 uy10, .int .i64 ux01, .int .i64 uy01, .int .i64 ux02, .int .i64 uy02]) LV02_12.out rfl rfl rfl ?_; rw [← HV10.out])
                      rw [rounds_succ]
                      go_wp2_with fail
                      refine wp_region_tail (fun D ac w' => ∃ vs : Nat → Value, ac = { tmps := #[Value.agg #[Value.int IntKind.i64 x0, Value.int IntKind.i64 y0, Value.int IntKind.i64 x1, Value.int IntKind.i64 y1, Value.int IntKind.i64 x2, Value.int IntKind.i64 y2], Value.pointer (some { block := w.heap.size, off := 0 }), Value.bool false, Value.bool true, Value.int IntKind.i64 1, Value.pointer (some { block := ga1, off := 0 }), Value.pointer (some { block := gb1, off := 0 }), Value.pointer (some { block := gc1, off := 0 }), Value.bool true, Value.bool true, Value.int IntKind.i64 1, Value.bool true, Value.int IntKind.i64 1, Value.bool true, Value.int IntKind.i64 0, Value.int IntKind.i64 1, tvr1 0, tvr1 1, tvr1 2, tvr1 3, tvr1 4, tvr1 5, tvpts6_1 0, tvpts6_1 1, tvpts6_1 2, tvpts6_1 3, tvpts6_1 4, tvpts6_1 5, tvpts6_1 6, tvpts6_1 7, tvpts6_1 8, tvpts6_1 9, tvpts6_1 10, tvpts6_1 11, tvpts6_1 12, tvpts6_1 13, tvpts6_1 14, tvpts6_1 15, tvpts6_1 16, tvpts6_1 17, tvpts6_1 18, tvpts6_1 19, tvpts6_1 20, tvpts6_1 21, Value.bool true, tvpts7_1 0, tvpts7_1 1, tvpts7_1 2, tvpts7_1 3, tvpts7_1 4, tvpts7_1 5, tvpts7_1 6, tvpts7_1 7, tvpts7_1 8, tvpts7_1 9, tvpts7_1 10, tvpts7_1 11, tvpts7_1 12, tvpts7_1 13, tvpts7_1 14, tvpts7_1 15, tvpts7_1 16, tvpts7_1 17, tvpts7_1 18, tvpts7_1 19, tvpts7_1 20, tvpts7_1 21, tvpts7_1 22, tvpts7_1 23, tvpts7_1 24, tvpts7_1 25, tvpts7_1 26, tvpts7_1 27, tvpts7_1 28, tvpts7_1 29, tvpts7_1 30, tvpts7_1 31, tvpts7_1 32, tvpts7_1 33, tvpts7_1 34, tvpts7_1 35, tvpts7_1 36, Value.bool true, Value.bool true, Value.bool false, Value.bool false, Value.bool true, Value.bool false, Value.bool false, Value.int IntKind.i64 1, Value.bool true, Value.int IntKind.i64 0, Value.int IntKind.i64 1, vs 0, vs 1, vs 2, vs 3, vs 4, vs 5, vs 6, vs 7, vs 8, vs 9, vs 10, vs 11, Value.pointer (some { block := w.heap.size, off := 0 }), undef], defers := [] } ∧ Ext V10 w' ∧ ∀ j, D j → pts13_11F w x0 y0 x1 y1 x2 y2 W0 w1 wfpts5_0 ga0 gb0 gc0 tvr0 wfpts6_0 tvpts6_0 wfpts7_0 tvpts7_0 wfpts13_00 tvpts13_00 ux00 uy00 V00 wfpts13_01 tvpts13_01 ux01 uy01 V01 wfpts13_02 tvpts13_02 ux02 uy02 V02 wfpts5_1 ga1 gb1 gc1 tvr1 wfpts6_1 tvpts6_1 wfpts7_1 tvpts7_1 wfpts13_10 tvpts13_10 ux10 uy10 V10 j (vs j)) 12 (by kernel_rfl) (by kernel_rfl) (by kernel_rfl) ?startpts13_11 ?steppts13_11 ?finpts13_11
                      case startpts13_11 => exact ⟨fun j => match j with | 0 => Value.int IntKind.i64 0 | 1 => tvpts13_10 1 | 2 => tvpts13_10 2 | 3 => tvpts13_10 3 | 4 => tvpts13_10 4 | 5 => tvpts13_10 5 | 6 => tvpts13_10 6 | 7 => tvpts13_10 7 | 8 => tvpts13_10 8 | 9 => tvpts13_10 9 | 10 => tvpts13_10 10 | 11 => Value.agg #[Value.int IntKind.i64 ux10, Value.int IntKind.i64 uy10] | _ => undef, rfl, Ext.drew _, fun _ h => h.elim⟩
                      case steppts13_11 =>
                        rintro i o D ac wz hin hio hnd he ⟨vs, rfl, k0, hF⟩
                        rcases i with _ | _ | _ | _ | _ | _ | _ | _ | _ | _ | _ | _ | i
                        rotate_left 12
                        · exact absurd hin (by omega)
                        all_goals (obtain rfl := Option.some.inj (hio.symm.trans (by rfl)))
                        · refine step_yes (wanted_of_none rfl _) ?_
                          exact wp_of_run (run_mov (.tmp 10) rfl _ rfl) ⟨upd vs 0 _, rfl, k0, inv_same hF rfl⟩
                        · refine step_yes (wanted_of_none rfl _) ?_
                          exact wp_of_run (run_mov (.tmp 10) rfl _ rfl) ⟨upd vs 1 _, rfl, k0, inv_same hF rfl⟩
                        · refine step_yes (wanted_of_none rfl _) ?_
                          exact wp_of_run (run_ixa3_2 (.tmp 1) (.tmp 94) rfl _ _ rfl 1 (by exact (hF 1 (he ⟨1, .data⟩ (by simp) rfl))) (by decide)) ⟨upd vs 2 _, rfl, k0, inv_same hF rfl⟩
                        · refine step_yes (wanted_of_none rfl _) ?_
                          exact wp_of_run (run_fld_pt0 (.tmp 95) rfl _ _ (by exact (hF 2 (he ⟨2, .data⟩ (by simp) rfl)))) ⟨upd vs 3 _, rfl, k0, inv_same hF rfl⟩
                        · refine step_yes (wanted_of_none rfl _) ?_
                          exact wp_of_run (run_ldi (.tmp 96) rfl _ _ (by exact (hF 3 (he ⟨3, .data⟩ (by simp) rfl))) _ ((k0.row LV10_0.out).cell 2)) ⟨upd vs 4 _, rfl, k0, inv_same hF rfl⟩
                        · refine step_yes (wanted_of_none rfl _) ?_
                          exact wp_of_run (run_remi (.tmp 97) (.const (.int .i64 100)) rfl rfl _ 100 (by decide) (by decide) (by exact (hF 4 (he ⟨4, .data⟩ (by simp) rfl))) rfl) ⟨upd vs 5 _, rfl, k0, inv_same hF rfl⟩
                        · refine step_yes (wanted_of_none rfl _) ?_
                          exact wp_of_run (run_mov (.tmp 10) rfl _ rfl) ⟨upd vs 6 _, rfl, k0, inv_same hF rfl⟩
                        · refine step_yes (wanted_of_none rfl _) ?_
                          exact wp_of_run (run_ixa3_2 (.tmp 1) (.tmp 99) rfl _ _ rfl 1 (by exact (hF 6 (he ⟨6, .data⟩ (by simp) rfl))) (by decide)) ⟨upd vs 7 _, rfl, k0, inv_same hF rfl⟩
                        · refine step_yes (wanted_of_none rfl _) ?_
                          exact wp_of_run (run_fld_pt1 (.tmp 100) rfl _ _ (by exact (hF 7 (he ⟨7, .data⟩ (by simp) rfl)))) ⟨upd vs 8 _, rfl, k0, inv_same hF rfl⟩
                        · refine step_yes (wanted_of_none rfl _) ?_
                          exact wp_of_run (run_ldi (.tmp 101) rfl _ _ (by exact (hF 8 (he ⟨8, .data⟩ (by simp) rfl))) _ ((k0.row LV10_0.out).cell 3)) ⟨upd vs 9 _, rfl, k0, inv_same hF rfl⟩
                        · refine step_yes (wanted_of_none rfl _) ?_
                          exact wp_of_run (run_remi (.tmp 102) (.const (.int .i64 100)) rfl rfl _ 100 (by decide) (by decide) (by exact (hF 9 (he ⟨9, .data⟩ (by simp) rfl))) rfl) ⟨upd vs 10 _, rfl, k0, inv_same hF rfl⟩
                        · refine step_yes (wanted_of_none rfl _) ?_
                          refine wp_of_callE (run_enter2 23 (.tmp 98) (.tmp 103) _ rfl _ _ (by exact (hF 5 (he ⟨5, .data⟩ (by simp) rfl))) (by exact (hF 10 (he ⟨10, .data⟩ (by simp) rfl))) (fun args w => enters_of Try.func23 (by kernel_rfl) rfl args w)) (lat (ux01.tmod 100) (uy01.tmod 100) wz) ?_
                          rintro e w' ⟨rfl, hx⟩
                          exact ⟨_, rfl, upd vs 11 _, rfl, k0.trans hx, inv_same hF rfl⟩
                      case finpts13_11 =>
                        rintro D ac wfpts13_11 hD ⟨vs, rfl, k0, hF⟩
                        change wpList _ _ _ [_, _] _ _
                        have hl0 : vs 0 = .int .i64 1 := hF 0 (hD 0 (by decide))
                        rw [hl0]
                        clear hl0
                        have hl11 : vs 11 = .agg #[.int .i64 (ux01.tmod 100), .int .i64 (uy01.tmod 100)] := hF 11 (hD 11 (by decide))
                        rw [hl11]
                        clear hl11
                        clear hF hD
                        generalize vs = tvpts13_11
                        have E13 := Lib.hid (EV10.out.trans k0)
                        have LV10_13 := Lib.hid (k0.row LV10_0.out)
                        clear EV10 LV10_0
                        clear k0
                        obtain ⟨ux11, hux11⟩ : ∃ z : Int, z = (ux01.tmod 100) := ⟨_, rfl⟩
                        obtain ⟨uy11, huy11⟩ : ∃ z : Int, z = (uy01.tmod 100) := ⟨_, rfl⟩
                        rw [← hux11, ← huy11]
                        clear hux11 huy11
                        obtain ⟨V11, hV11⟩ : ∃ V11, V11 = wfpts13_11.setRow w.heap.size (#[.int .i64 ux10, .int .i64 uy10, .int .i64 ux11, .int .i64 uy11, .int .i64 ux02, .int .i64 uy02]) := ⟨_, rfl⟩
                        have LV11_0 := Lib.hid (show RowAt V11 w.heap.size 24 (#[.int .i64 ux10, .int .i64 uy10, .int .i64 ux11, .int .i64 uy11, .int .i64 ux02, .int .i64 uy02]) from by rw [hV11]; exact LV10_13.out.setRow _)
                        have EV11 := Lib.hid (show Ext w V11 from by rw [hV11]; exact ext_setRow E13.out (Nat.le_refl _) _)
                        have HV11 := Lib.hid hV11
                        clear hV11
                        go_wp2_with (refine store_pt_at rfl (.tmp 105) (.tmp 104) rfl w.heap.size 2 rfl _ _ rfl _ _ _ _ (#[.int .i64 ux10, .int .i64 uy10, .int .i64 ux11, .int .i64 uy11, .int .i64 ux02, .int .i64 uy02]) LV10_13.out rfl rfl rfl ?_; rw [← HV11.out])
                        rw [rounds_succ]
                        go_wp2_with fail
                        refine wp_region_tail (fun D ac w' => ∃ vs : Nat → Value, ac = { tmps := #[Value.agg #[Value.int IntKind.i64 x0, Value.int IntKind.i64 y0, Value.int IntKind.i64 x1, Value.int IntKind.i64 y1, Value.int IntKind.i64 x2, Value.int IntKind.i64 y2], Value.pointer (some { block := w.heap.size, off := 0 }), Value.bool false, Value.bool true, Value.int IntKind.i64 1, Value.pointer (some { block := ga1, off := 0 }), Value.pointer (some { block := gb1, off := 0 }), Value.pointer (some { block := gc1, off := 0 }), Value.bool true, Value.bool true, Value.int IntKind.i64 2, Value.bool true, Value.int IntKind.i64 1, Value.bool true, Value.int IntKind.i64 0, Value.int IntKind.i64 1, tvr1 0, tvr1 1, tvr1 2, tvr1 3, tvr1 4, tvr1 5, tvpts6_1 0, tvpts6_1 1, tvpts6_1 2, tvpts6_1 3, tvpts6_1 4, tvpts6_1 5, tvpts6_1 6, tvpts6_1 7, tvpts6_1 8, tvpts6_1 9, tvpts6_1 10, tvpts6_1 11, tvpts6_1 12, tvpts6_1 13, tvpts6_1 14, tvpts6_1 15, tvpts6_1 16, tvpts6_1 17, tvpts6_1 18, tvpts6_1 19, tvpts6_1 20, tvpts6_1 21, Value.bool true, tvpts7_1 0, tvpts7_1 1, tvpts7_1 2, tvpts7_1 3, tvpts7_1 4, tvpts7_1 5, tvpts7_1 6, tvpts7_1 7, tvpts7_1 8, tvpts7_1 9, tvpts7_1 10, tvpts7_1 11, tvpts7_1 12, tvpts7_1 13, tvpts7_1 14, tvpts7_1 15, tvpts7_1 16, tvpts7_1 17, tvpts7_1 18, tvpts7_1 19, tvpts7_1 20, tvpts7_1 21, tvpts7_1 22, tvpts7_1 23, tvpts7_1 24, tvpts7_1 25, tvpts7_1 26, tvpts7_1 27, tvpts7_1 28, tvpts7_1 29, tvpts7_1 30, tvpts7_1 31, tvpts7_1 32, tvpts7_1 33, tvpts7_1 34, tvpts7_1 35, tvpts7_1 36, Value.bool true, Value.bool true, Value.bool false, Value.bool false, Value.bool true, Value.bool false, Value.bool false, Value.int IntKind.i64 2, Value.bool true, Value.int IntKind.i64 1, Value.int IntKind.i64 2, vs 0, vs 1, vs 2, vs 3, vs 4, vs 5, vs 6, vs 7, vs 8, vs 9, vs 10, vs 11, Value.pointer (some { block := w.heap.size, off := 2 }), undef], defers := [] } ∧ Ext V11 w' ∧ ∀ j, D j → pts13_12F w x0 y0 x1 y1 x2 y2 W0 w1 wfpts5_0 ga0 gb0 gc0 tvr0 wfpts6_0 tvpts6_0 wfpts7_0 tvpts7_0 wfpts13_00 tvpts13_00 ux00 uy00 V00 wfpts13_01 tvpts13_01 ux01 uy01 V01 wfpts13_02 tvpts13_02 ux02 uy02 V02 wfpts5_1 ga1 gb1 gc1 tvr1 wfpts6_1 tvpts6_1 wfpts7_1 tvpts7_1 wfpts13_10 tvpts13_10 ux10 uy10 V10 wfpts13_11 tvpts13_11 ux11 uy11 V11 j (vs j)) 12 (by kernel_rfl) (by kernel_rfl) (by kernel_rfl) ?startpts13_12 ?steppts13_12 ?finpts13_12
                        case startpts13_12 => exact ⟨fun j => match j with | 0 => Value.int IntKind.i64 1 | 1 => tvpts13_11 1 | 2 => tvpts13_11 2 | 3 => tvpts13_11 3 | 4 => tvpts13_11 4 | 5 => tvpts13_11 5 | 6 => tvpts13_11 6 | 7 => tvpts13_11 7 | 8 => tvpts13_11 8 | 9 => tvpts13_11 9 | 10 => tvpts13_11 10 | 11 => Value.agg #[Value.int IntKind.i64 ux11, Value.int IntKind.i64 uy11] | _ => undef, rfl, Ext.drew _, fun _ h => h.elim⟩
                        case steppts13_12 =>
                          rintro i o D ac wz hin hio hnd he ⟨vs, rfl, k0, hF⟩
                          rcases i with _ | _ | _ | _ | _ | _ | _ | _ | _ | _ | _ | _ | i
                          rotate_left 12
                          · exact absurd hin (by omega)
                          all_goals (obtain rfl := Option.some.inj (hio.symm.trans (by rfl)))
                          · refine step_yes (wanted_of_none rfl _) ?_
                            exact wp_of_run (run_mov (.tmp 10) rfl _ rfl) ⟨upd vs 0 _, rfl, k0, inv_same hF rfl⟩
                          · refine step_yes (wanted_of_none rfl _) ?_
                            exact wp_of_run (run_mov (.tmp 10) rfl _ rfl) ⟨upd vs 1 _, rfl, k0, inv_same hF rfl⟩
                          · refine step_yes (wanted_of_none rfl _) ?_
                            exact wp_of_run (run_ixa3_2 (.tmp 1) (.tmp 94) rfl _ _ rfl 2 (by exact (hF 1 (he ⟨1, .data⟩ (by simp) rfl))) (by decide)) ⟨upd vs 2 _, rfl, k0, inv_same hF rfl⟩
                          · refine step_yes (wanted_of_none rfl _) ?_
                            exact wp_of_run (run_fld_pt0 (.tmp 95) rfl _ _ (by exact (hF 2 (he ⟨2, .data⟩ (by simp) rfl)))) ⟨upd vs 3 _, rfl, k0, inv_same hF rfl⟩
                          · refine step_yes (wanted_of_none rfl _) ?_
                            exact wp_of_run (run_ldi (.tmp 96) rfl _ _ (by exact (hF 3 (he ⟨3, .data⟩ (by simp) rfl))) _ ((k0.row LV11_0.out).cell 4)) ⟨upd vs 4 _, rfl, k0, inv_same hF rfl⟩
                          · refine step_yes (wanted_of_none rfl _) ?_
                            exact wp_of_run (run_remi (.tmp 97) (.const (.int .i64 100)) rfl rfl _ 100 (by decide) (by decide) (by exact (hF 4 (he ⟨4, .data⟩ (by simp) rfl))) rfl) ⟨upd vs 5 _, rfl, k0, inv_same hF rfl⟩
                          · refine step_yes (wanted_of_none rfl _) ?_
                            exact wp_of_run (run_mov (.tmp 10) rfl _ rfl) ⟨upd vs 6 _, rfl, k0, inv_same hF rfl⟩
                          · refine step_yes (wanted_of_none rfl _) ?_
                            exact wp_of_run (run_ixa3_2 (.tmp 1) (.tmp 99) rfl _ _ rfl 2 (by exact (hF 6 (he ⟨6, .data⟩ (by simp) rfl))) (by decide)) ⟨upd vs 7 _, rfl, k0, inv_same hF rfl⟩
                          · refine step_yes (wanted_of_none rfl _) ?_
                            exact wp_of_run (run_fld_pt1 (.tmp 100) rfl _ _ (by exact (hF 7 (he ⟨7, .data⟩ (by simp) rfl)))) ⟨upd vs 8 _, rfl, k0, inv_same hF rfl⟩
                          · refine step_yes (wanted_of_none rfl _) ?_
                            exact wp_of_run (run_ldi (.tmp 101) rfl _ _ (by exact (hF 8 (he ⟨8, .data⟩ (by simp) rfl))) _ ((k0.row LV11_0.out).cell 5)) ⟨upd vs 9 _, rfl, k0, inv_same hF rfl⟩
                          · refine step_yes (wanted_of_none rfl _) ?_
                            exact wp_of_run (run_remi (.tmp 102) (.const (.int .i64 100)) rfl rfl _ 100 (by decide) (by decide) (by exact (hF 9 (he ⟨9, .data⟩ (by simp) rfl))) rfl) ⟨upd vs 10 _, rfl, k0, inv_same hF rfl⟩
                          · refine step_yes (wanted_of_none rfl _) ?_
                            refine wp_of_callE (run_enter2 23 (.tmp 98) (.tmp 103) _ rfl _ _ (by exact (hF 5 (he ⟨5, .data⟩ (by simp) rfl))) (by exact (hF 10 (he ⟨10, .data⟩ (by simp) rfl))) (fun args w => enters_of Try.func23 (by kernel_rfl) rfl args w)) (lat (ux02.tmod 100) (uy02.tmod 100) wz) ?_
                            rintro e w' ⟨rfl, hx⟩
                            exact ⟨_, rfl, upd vs 11 _, rfl, k0.trans hx, inv_same hF rfl⟩
                        case finpts13_12 =>
                          rintro D ac wfpts13_12 hD ⟨vs, rfl, k0, hF⟩
                          change wpList _ _ _ [_, _] _ _
                          have hl0 : vs 0 = .int .i64 2 := hF 0 (hD 0 (by decide))
                          rw [hl0]
                          clear hl0
                          have hl11 : vs 11 = .agg #[.int .i64 (ux02.tmod 100), .int .i64 (uy02.tmod 100)] := hF 11 (hD 11 (by decide))
                          rw [hl11]
                          clear hl11
                          clear hF hD
                          generalize vs = tvpts13_12
                          have E14 := Lib.hid (EV11.out.trans k0)
                          have LV11_14 := Lib.hid (k0.row LV11_0.out)
                          clear EV11 LV11_0
                          clear k0
                          obtain ⟨ux12, hux12⟩ : ∃ z : Int, z = (ux02.tmod 100) := ⟨_, rfl⟩
                          obtain ⟨uy12, huy12⟩ : ∃ z : Int, z = (uy02.tmod 100) := ⟨_, rfl⟩
                          rw [← hux12, ← huy12]
                          clear hux12 huy12
                          obtain ⟨V12, hV12⟩ : ∃ V12, V12 = wfpts13_12.setRow w.heap.size (#[.int .i64 ux10, .int .i64 uy10, .int .i64 ux11, .int .i64 uy11, .int .i64 ux12, .int .i64 uy12]) := ⟨_, rfl⟩
                          have LV12_0 := Lib.hid (show RowAt V12 w.heap.size 24 (#[.int .i64 ux10, .int .i64 uy10, .int .i64 ux11, .int .i64 uy11, .int .i64 ux12, .int .i64 uy12]) from by rw [hV12]; exact LV11_14.out.setRow _)
                          have EV12 := Lib.hid (show Ext w V12 from by rw [hV12]; exact ext_setRow E14.out (Nat.le_refl _) _)
                          have HV12 := Lib.hid hV12
                          clear hV12
                          go_wp2_with (refine store_pt_at rfl (.tmp 105) (.tmp 104) rfl w.heap.size 4 rfl _ _ rfl _ _ _ _ (#[.int .i64 ux10, .int .i64 uy10, .int .i64 ux11, .int .i64 uy11, .int .i64 ux12, .int .i64 uy12]) LV11_14.out rfl rfl rfl ?_; rw [← HV12.out])
                          rw [rounds_succ]
                          go_wp2_with fail
                          rw [rounds_succ]
                          go_wp2_with fail
                          go_ret
                          exact ⟨rfl, EV12.out⟩

end Go.Proofs.Ytapnoijnegcmfaa
