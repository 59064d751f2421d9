import Derived.Test.YtliimpbbppbghaaUSd
import Derived.Test.YtliimpbbppbghaaUEd3
import Derived.Test.YtliimpbbppbghaaUEd5
set_option linter.all false
namespace Go.Proofs.Ytliimpbbppbghaa
open Go Go.RowKit Go.Shelf Sx
def E7.on (e : E7) (px py : Int) : Prop := onP e.k e.ax e.ay e.bx e.by' e.cx e.cy px py
instance (e : E7) (px py : Int) : Decidable (e.on px py) := by unfold E7.on; exact inferInstance
def E7.ray (e : E7) (px py : Int) : Int := rayZ e.k e.ax e.ay e.bx e.by' e.cx e.cy px py
theorem E7.ray_bd (e : E7) (px py : Int) : -1 ≤ e.ray px py ∧ e.ray px py ≤ 1 := by
  unfold E7.ray rayZ
  split
  · omega
  · split <;> omega
def windU (es : List E7) (px py : Int) : Nat → Int
  | 0 => 0
  | k + 1 => windU es px py k + es[k]!.ray px py
theorem windU_bd (es : List E7) (px py : Int) : ∀ k : Nat, -(k : Int) ≤ windU es px py k ∧ windU es px py k ≤ k
  | 0 => by simp [windU]
  | k + 1 => by
    have h1 := windU_bd es px py k
    have h2 := es[k]!.ray_bd px py
    simp only [windU]
    omega
def surS (es : List E7) (px py : Int) : Bool := decide (∃ e ∈ es, e.on px py) || decide (windU es px py es.length ≠ 0)
theorem surS_on {es : List E7} {px py : Int} {k : Nat} (hk : k < es.length) (h : es[k]!.on px py) : surS es px py = true := by
  unfold surS
  rw [decide_eq_true (p := ∃ e ∈ es, e.on px py) ⟨es[k]!, by rw [getElem!_pos es k hk]; exact List.getElem_mem hk, h⟩]
  rfl
theorem surS_off {es : List E7} {px py : Int} (h : ∀ j, j < es.length → ¬ es[j]!.on px py) : surS es px py = decide (windU es px py es.length ≠ 0) := by
  unfold surS
  rw [decide_eq_false (p := ∃ e ∈ es, e.on px py), Bool.false_or]
  rintro ⟨e, he, hon⟩
  obtain ⟨j, hj, rfl⟩ := List.getElem_of_mem he
  have := h j hj
  rw [getElem!_pos es j hj] at this
  exact this hon
theorem von_e (e : E7) (px py : Int) (w : World) : Calls Try.prog 63 #[.agg #[.int .i64 e.k, .int .i64 e.ax, .int .i64 e.ay, .int .i64 e.bx, .int .i64 e.by', .int .i64 e.cx, .int .i64 e.cy], .agg #[.int .i64 px, .int .i64 py]] w (fun x w' => x = .returned (.bool (decide (e.on px py))) ∧ Below w.heap.size w w') := von_c _ _ _ _ _ _ _ _ _ w
theorem vray_e (e : E7) (px py : Int) (w : World) : Calls Try.prog 64 #[.agg #[.int .i64 e.k, .int .i64 e.ax, .int .i64 e.ay, .int .i64 e.bx, .int .i64 e.by', .int .i64 e.cx, .int .i64 e.cy], .agg #[.int .i64 px, .int .i64 py]] w (fun x w' => x = .returned (.int .i64 (e.ray px py)) ∧ Below w.heap.size w w') := vray_c _ _ _ _ _ _ _ _ _ w
set_option maxRecDepth 100000 in
set_option maxHeartbeats 4000000 in
theorem surrounds_calls (p : Option Addr) (len cap : Nat) (es : List E7) (px py : Int) (w : World) (hL : SlE w.heap.size w (.slice p len cap) es) :
    Calls Try.prog 43 #[.slice p len cap, .agg #[.int .i64 px, .int .i64 py]] w (fun e w' => e = .returned (.bool (surS es px py)) ∧ Below w.heap.size w w') := by
  obtain ⟨q0, q1, hq0, hq1, hq⟩ := id hL
  obtain ⟨rfl, rfl, rfl⟩ : p = q0 ∧ len = es.length ∧ cap = q1 := by injection hq0 with a b c; exact ⟨a, b, c⟩
  clear hq0
  have hB1 : Below w.heap.size w (w.alloc (.cells #[.int .i64 px, .int .i64 py] 24)) := (Below.refl _ w).alloc (Nat.le_refl _) _
  have hcells := fun j => cell_of_row _ w.heap.size j _ _ _ (heap_alloc_new w (.cells #[.int .i64 px, .int .i64 py] 24))
  have c0 : (w.alloc (.cells #[.int .i64 px, .int .i64 py] 24)).cell? ⟨w.heap.size, 0, none⟩ = some (.int .i64 px) := hcells 0
  have c1 : (w.alloc (.cells #[.int .i64 px, .int .i64 py] 24)).cell? ⟨w.heap.size, 1, none⟩ = some (.int .i64 py) := hcells 1
  have hsz1 : (w.alloc (.cells #[.int .i64 px, .int .i64 py] 24)).heap.size = w.heap.size + 1 := by simp
  have HB1 := Lib.hid hB1
  have HZ1 := Lib.hid hsz1
  have HS := Lib.hid (And.intro c0 c1)
  have HQ1 := Lib.hid hq1
  clear hB1 hcells c0 c1 hsz1 hq1
  go_enter Try.func43, Try.ntmps43
  go_wp2
  obtain ⟨W1, hW1⟩ : ∃ W1, w.alloc (.cells #[.int .i64 px, .int .i64 py] 24) = W1 := ⟨_, rfl⟩
  rw [hW1] at HB1 HZ1 HS
  simp only [hW1]
  clear hW1
  go_loopw [5, 10] (fun v i wr => ∃ k : Nat, k ≤ es.length ∧ v = .int .i64 (windU es px py k) ∧ i = .int .i64 k ∧ Below W1.heap.size W1 wr ∧ ∀ j, j < k → ¬ es[j]!.on px py) (fun _ i _ => es.length - (intOf i).toNat)
  case atStart => exact ⟨0, Nat.zero_le _, rfl, rfl, Below.refl _ _, fun _ h => absurd h (Nat.not_lt_zero _)⟩
  case round =>
    obtain ⟨k, hk, rfl, rfl, hB, hch⟩ := hrel
    have s0 := (hB.cell (p := ⟨w.heap.size, 0, none⟩) (by show w.heap.size < W1.heap.size; have := HZ1.out; omega)).trans HS.out.1
    have s1 := (hB.cell (p := ⟨w.heap.size, 1, none⟩) (by show w.heap.size < W1.heap.size; have := HZ1.out; omega)).trans HS.out.2
    have hBw : Below w.heap.size w wr := HB1.out.trans (hB.mono (by have := HZ1.out; omega))
    have HB := Lib.hid hB
    have HBw := Lib.hid hBw
    have HCh := Lib.hid hch
    obtain ⟨wd, hwd⟩ : ∃ wd, wd = windU es px py k := ⟨_, rfl⟩
    rw [← hwd]
    have HWd := Lib.hid hwd
    have hbd := windU_bd es px py k
    rw [← hwd] at hbd
    by_cases hlt : k < es.length
    · have hlt' : (k : Int) < (es.length : Int) := by omega
      obtain ⟨b, off, rfl, hb, hed⟩ := hq (by omega)
      have hce := (hed.below hBw hb) k hlt
      obtain ⟨x, hx⟩ : ∃ x, es[k]! = x := ⟨_, rfl⟩
      rw [hx] at hce
      have HX := Lib.hid hx
      have HLT := Lib.hid hlt
      have hrd := x.ray_bd px py
      obtain ⟨c0, c1, c2, c3, c4, c5, c6⟩ := hce
      obtain ⟨W2, hW2⟩ : ∃ W2, wr.alloc (.cells #[.int .i64 x.k, .int .i64 x.ax, .int .i64 x.ay, .int .i64 x.bx, .int .i64 x.by', .int .i64 x.cx, .int .i64 x.cy] 41) = W2 := ⟨_, rfl⟩
      have HCall := Lib.hid (von_e x px py W2)
      have HW2 := Lib.hid hW2
      have HSz := Lib.hid hB.size
      have HB2 : RowKit.Hid (Below wr.heap.size wr W2) := Lib.hid (by rw [← hW2]; exact (Below.refl _ wr).alloc (Nat.le_refl _) _)
      have HZ2 : RowKit.Hid (W2.heap.size = wr.heap.size + 1) := Lib.hid (by rw [← hW2]; simp)
      have HE2 : RowKit.Hid (cellsAt W2 wr.heap.size 0 x) := Lib.hid (by
        have hh := fun j => cell_of_row _ wr.heap.size j _ _ _ (heap_alloc_new wr (.cells #[.int .i64 x.k, .int .i64 x.ax, .int .i64 x.ay, .int .i64 x.bx, .int .i64 x.by', .int .i64 x.cx, .int .i64 x.cy] 41))
        rw [hW2] at hh
        exact ⟨hh 0, hh 1, hh 2, hh 3, hh 4, hh 5, hh 6⟩)
      have t0 := Lib.cell?_alloc_some (.cells #[.int .i64 x.k, .int .i64 x.ax, .int .i64 x.ay, .int .i64 x.bx, .int .i64 x.by', .int .i64 x.cx, .int .i64 x.cy] 41) s0
      have t1 := Lib.cell?_alloc_some (.cells #[.int .i64 x.k, .int .i64 x.ax, .int .i64 x.ay, .int .i64 x.bx, .int .i64 x.by', .int .i64 x.cx, .int .i64 x.cy] 41) s1
      have HS0 : RowKit.Hid (W2.cell? ⟨w.heap.size, 0, none⟩ = some (.int .i64 px) ∧ W2.cell? ⟨w.heap.size, 1, none⟩ = some (.int .i64 py)) := Lib.hid (by rw [← hW2]; exact ⟨t0, t1⟩)
      clear hx hlt hB hBw hch hed hW2 hwd
      go_wp2_with fail
      rw [HW2.out]
      refine HCall.out.mono ?_
      rintro e w4 ⟨rfl, hb4⟩
      have HB4 := Lib.hid hb4
      clear t0 t1 s0 s1 c0 c1 c2 c3 c4 c5 c6
      by_cases hon : x.on px py
      · rw [decide_eq_true hon]
        have HOn := Lib.hid hon
        clear hon
        go_wp2
        go_ret
        exact ⟨by rw [surS_on HLT.out (by rw [HX.out]; exact HOn.out)]; rfl, (HBw.out.trans (HB2.out.mono HBw.out.size)).trans (HB4.out.mono (by have := HZ2.out; have := HBw.out.size; omega))⟩
      · rw [decide_eq_false hon]
        have HOn := Lib.hid hon
        clear hon
        obtain ⟨c0, c1, c2, c3, c4, c5, c6⟩ := HE2.out.below HB4.out (by have := HZ2.out; omega)
        have s0 := (HB4.out.cell (p := ⟨w.heap.size, 0, none⟩) (by show w.heap.size < W2.heap.size; have := HZ2.out; have := HBw.out.size; omega)).trans HS0.out.1
        have s1 := (HB4.out.cell (p := ⟨w.heap.size, 1, none⟩) (by show w.heap.size < W2.heap.size; have := HZ2.out; have := HBw.out.size; omega)).trans HS0.out.2
        have HCall2 := Lib.hid (vray_e x px py w4)
        go_wp2_with fail
        refine HCall2.out.mono ?_
        rintro e w5 ⟨rfl, hb5⟩
        have HB5 := Lib.hid hb5
        clear s0 s1 c0 c1 c2 c3 c4 c5 c6
        have hl := HQ1.out
        go_wp2
        go_roundw
        case rel =>
          refine ⟨k + 1, HLT.out, ?_, by go_num, (HB.out.trans (HB2.out.mono HSz.out)).trans ((HB4.out.mono (by have := HZ2.out; have := HSz.out; omega)).trans (HB5.out.mono (by have := HB4.out.size; have := HZ2.out; have := HSz.out; omega))), fun j hj => ?_⟩
          · simp only [windU]
            rw [← HWd.out, HX.out]
          · rcases Nat.lt_succ_iff_lt_or_eq.1 hj with h | rfl
            · exact HCh.out j h
            · rw [HX.out]; exact HOn.out
        case measure => simp [intOf]; have := HLT.out; omega
    · obtain rfl : k = es.length := by omega
      have HOff := Lib.hid (surS_off hch)
      clear hch hB hBw
      clear hwd
      go_wp2
      go_ret
      refine ⟨?_, HBw.out⟩
      rw [HOff.out, ← HWd.out]
      exact congrArg (fun b => Ending.returned (.bool b)) (show (wd != 0) = decide (wd ≠ 0) by by_cases h : wd = 0 <;> simp [h])
end Go.Proofs.Ytliimpbbppbghaa

