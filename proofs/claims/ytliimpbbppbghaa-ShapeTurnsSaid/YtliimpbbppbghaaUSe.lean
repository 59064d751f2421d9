import Derived.Test.YtliimpbbppbghaaUSd
import Derived.Lib.MinMax
set_option linter.all false
namespace Go.Proofs.Ytliimpbbppbghaa
open Go Go.RowKit Go.Shelf Sx
structure Q4 where
  x0 : Int
  y0 : Int
  x1 : Int
  y1 : Int
  deriving Inhabited, DecidableEq
def Q4.cells (q : Q4) : Array Value := #[.int .i64 q.x0, .int .i64 q.y0, .int .i64 q.x1, .int .i64 q.y1]
def E7.box (e : E7) : Q4 := ⟨min e.ax e.bx, min e.ay e.by', max e.ax e.bx, max e.ay e.by'⟩
def Q4.join (a b : Q4) : Q4 := ⟨min a.x0 b.x0, min a.y0 b.y0, max a.x1 b.x1, max a.y1 b.y1⟩
def Q4.grow (q : Q4) (r : Int) : Q4 := ⟨wrap64 (q.x0 - r), wrap64 (q.y0 - r), wrap64 (q.x1 + r), wrap64 (q.y1 + r)⟩
def boxU (es : List E7) : Nat → Q4
  | 0 => es[0]!.box
  | k + 1 => (boxU es k).join es[k + 1]!.box
def boxS (es : List E7) (R : Int) : Q4 := if es.length = 0 then ⟨0, 0, 0, 0⟩ else (boxU es (es.length - 1)).grow R
def BoxR (W : World) (B : Nat) (q : Q4) : Prop := W.heap[B]? = some (.cells q.cells 46 (0, 0))
theorem vbox_e (e : E7) (w : World) : Calls Try.prog 47 #[.agg #[.int .i64 e.k, .int .i64 e.ax, .int .i64 e.ay, .int .i64 e.bx, .int .i64 e.by', .int .i64 e.cx, .int .i64 e.cy]] w (fun x w' => x = .returned (.agg #[.int .i64 e.box.x0, .int .i64 e.box.y0, .int .i64 e.box.x1, .int .i64 e.box.y1]) ∧ Below w.heap.size w w') := vbox_c _ _ _ _ _ _ _ w
theorem rc_info : (Try.prog.info? 46).map (·.size) = some 4 := by kernel_rfl
theorem store_rc {ops : Array Oper} {rest : List Oper} {o : Oper} {a : Act} {w : World} {Q : Exit → Act → World → Prop} (hgd : o.guard = none) (x y : Operand) (ho : o.op = .store 46 x y)
    (g : Nat) (hx : a.eval x = .pointer (some ⟨g, 0, none⟩)) (q r : Q4) (hy : a.eval y = .agg #[.int .i64 q.x0, .int .i64 q.y0, .int .i64 q.x1, .int .i64 q.y1]) (hg : BoxR w g r)
    (h : wpList Try.prog ops Q rest (a.put o.dst undef) (w.setRow g q.cells)) : wpList Try.prog ops Q (o :: rest) a w :=
  wpList_plain hgd fun _ hK => wp_store_row 46 x y ho g q.cells hx hy 46 _ hg rc_info rfl (by simp [Value.oneCell', Q4.cells]) (hK _ _ h)
theorem BoxR.at0 {W : World} {B : Nat} {q : Q4} (h : BoxR W B q) : W.cell? ⟨B, 0, none⟩ = some (.int .i64 q.x0) := cell_of_row W B 0 _ _ _ h
theorem BoxR.at1 {W : World} {B : Nat} {q : Q4} (h : BoxR W B q) : W.cell? ⟨B, 1, none⟩ = some (.int .i64 q.y0) := cell_of_row W B 1 _ _ _ h
theorem BoxR.at2 {W : World} {B : Nat} {q : Q4} (h : BoxR W B q) : W.cell? ⟨B, 2, none⟩ = some (.int .i64 q.x1) := cell_of_row W B 2 _ _ _ h
theorem BoxR.at3 {W : World} {B : Nat} {q : Q4} (h : BoxR W B q) : W.cell? ⟨B, 3, none⟩ = some (.int .i64 q.y1) := cell_of_row W B 3 _ _ _ h
theorem BoxR.lt {W : World} {B : Nat} {q : Q4} (h : BoxR W B q) : B < W.heap.size := (Array.getElem?_eq_some_iff.1 h).1
theorem BoxR.below {n : Nat} {W W' : World} {B : Nat} {q : Q4} (h : BoxR W B q) (hb : Below n W W') (hn : B < n) : BoxR W' B q := (hb.block B hn).trans h
theorem BoxR.alloc {W : World} {B : Nat} {q : Q4} (h : BoxR W B q) (o : Obj) : BoxR (W.alloc o) B q := (heap_alloc_old W o B h.lt).trans h
structure BoxI (w : World) (S R : Value) (B : Nat) (q : Q4) (W : World) : Prop where
  below : Below w.heap.size w W
  c1 : W.cell? ⟨w.heap.size, 1, none⟩ = some S
  c2 : W.cell? ⟨w.heap.size, 2, none⟩ = some R
  ans : BoxR W (w.heap.size + 1) ⟨0, 0, 0, 0⟩
  box : BoxR W B q
  lt : w.heap.size + 2 ≤ B
theorem BoxI.size {w : World} {S R : Value} {B : Nat} {q : Q4} {W : World} (h : BoxI w S R B q W) : B < W.heap.size := h.box.lt
theorem BoxI.keep {w : World} {S R : Value} {B : Nat} {q : Q4} {W W' : World} (h : BoxI w S R B q W) (hb : Below W.heap.size W W') : BoxI w S R B q W' where
  below := h.below.trans (hb.mono h.below.size)
  c1 := (hb.cell (p := ⟨w.heap.size, 1, none⟩) (by show w.heap.size < W.heap.size; have := h.size; have := h.lt; omega)).trans h.c1
  c2 := (hb.cell (p := ⟨w.heap.size, 2, none⟩) (by show w.heap.size < W.heap.size; have := h.size; have := h.lt; omega)).trans h.c2
  ans := h.ans.below hb (by have := h.size; have := h.lt; omega)
  box := h.box.below hb h.size
  lt := h.lt
theorem cell_setRow {w : World} {g : Nat} {cs : Array Value} {p : Addr} (h : p.block ≠ g) : (w.setRow g cs).cell? p = w.cell? p := World.cell?_of_block (w := w) (setRow_other _ _ _ _ h)
theorem Below.setRow' {n g : Nat} {w W : World} (h : Below n w W) (cs : Array Value) (hg : n ≤ g) : Below n w (W.setRow g cs) :=
  h.trans ⟨rfl, rfl, rfl, by simp, fun k hk => setRow_other _ _ _ _ (by omega)⟩
theorem BoxI.put {w : World} {S R : Value} {B : Nat} {q : Q4} {W : World} (h : BoxI w S R B q W) (r : Q4) : BoxI w S R B r (W.setRow B r.cells) where
  below := Below.setRow' h.below _ (by have := h.lt; omega)
  c1 := (cell_setRow (p := ⟨w.heap.size, 1, none⟩) (by show w.heap.size ≠ B; have := h.lt; omega)).trans h.c1
  c2 := (cell_setRow (p := ⟨w.heap.size, 2, none⟩) (by show w.heap.size ≠ B; have := h.lt; omega)).trans h.c2
  ans := (setRow_other _ _ _ _ (by have := h.lt; omega)).trans h.ans
  box := setRow_heap _ _ _ _ _ _ h.box
  lt := h.lt
set_option maxRecDepth 100000 in
set_option maxHeartbeats 4000000 in
theorem box_calls (K R : Int) (p : Option Addr) (len cap : Nat) (es : List E7) (w : World) (hL : SlE w.heap.size w (.slice p len cap) es) (hcap : len ≤ cap) :
    Calls Try.prog 17 #[.agg #[.int .i64 K, .slice p len cap, .int .i64 R]] w (fun e w' => e = .returned (.agg (boxS es R).cells) ∧ Below w.heap.size w w') := by
  obtain ⟨q0, q1, hq0, hq1, hq⟩ := id hL
  obtain ⟨rfl, rfl, rfl⟩ : p = q0 ∧ len = es.length ∧ cap = q1 := by injection hq0 with a b c; exact ⟨a, b, c⟩
  clear hq0
  have hcells := fun j => cell_of_row _ w.heap.size j _ _ _ (heap_alloc_new w (.cells #[.int .i64 K, .slice p es.length cap, .int .i64 R] 30))
  have c1 : ((w.alloc (.cells #[.int .i64 K, .slice p es.length cap, .int .i64 R] 30)).alloc (.cells #[.int .i64 0, .int .i64 0, .int .i64 0, .int .i64 0] 46)).cell? ⟨w.heap.size, 1, none⟩ = some (.slice p es.length cap) := Lib.cell?_alloc_some _ (hcells 1)
  have c2 : ((w.alloc (.cells #[.int .i64 K, .slice p es.length cap, .int .i64 R] 30)).alloc (.cells #[.int .i64 0, .int .i64 0, .int .i64 0, .int .i64 0] 46)).cell? ⟨w.heap.size, 2, none⟩ = some (.int .i64 R) := Lib.cell?_alloc_some _ (hcells 2)
  have hB1 : Below w.heap.size w ((w.alloc (.cells #[.int .i64 K, .slice p es.length cap, .int .i64 R] 30)).alloc (.cells #[.int .i64 0, .int .i64 0, .int .i64 0, .int .i64 0] 46)) := ((Below.refl _ w).alloc (Nat.le_refl _) _).alloc (by simp) _
  have hsz1 : ((w.alloc (.cells #[.int .i64 K, .slice p es.length cap, .int .i64 R] 30)).alloc (.cells #[.int .i64 0, .int .i64 0, .int .i64 0, .int .i64 0] 46)).heap.size = w.heap.size + 2 := by simp
  have hR1 : BoxR ((w.alloc (.cells #[.int .i64 K, .slice p es.length cap, .int .i64 R] 30)).alloc (.cells #[.int .i64 0, .int .i64 0, .int .i64 0, .int .i64 0] 46)) (w.heap.size + 1) ⟨0, 0, 0, 0⟩ := by
    have h := heap_alloc_new (w.alloc (.cells #[.int .i64 K, .slice p es.length cap, .int .i64 R] 30)) (.cells #[.int .i64 0, .int .i64 0, .int .i64 0, .int .i64 0] 46)
    rw [World.size_alloc] at h
    exact h
  rcases Nat.eq_zero_or_pos es.length with h0 | h0
  · obtain rfl : es = [] := List.length_eq_zero_iff.1 h0
    simp only [List.length_nil] at *
    clear c1 c2
    have HB1 := Lib.hid hB1
    have HR1 := Lib.hid hR1
    clear hB1 hR1 hcells
    go_enter Try.func17, Try.ntmps17
    go_wp2
    refine bodyPost_ret (results_cell_row rfl _ _ (w.heap.size + 1) _ _ _ _ rfl HR1.out Try.underlying46 rfl (by kernel_rfl)) rfl ⟨?_, HB1.out⟩
    rfl
  · obtain ⟨b, off, rfl, hb, hed⟩ := hq h0
    have hce := hed 0 h0
    obtain ⟨x, hx⟩ : ∃ x, es[0]! = x := ⟨_, rfl⟩
    rw [hx, Nat.zero_mul, Nat.add_zero] at hce
    obtain ⟨x0, x1, x2, x3, x4, x5, x6⟩ := hce.below hB1 hb
    obtain ⟨W1, hW1⟩ : ∃ W1, ((w.alloc (.cells #[.int .i64 K, .slice (some ⟨b, off, none⟩) es.length cap, .int .i64 R] 30)).alloc (.cells #[.int .i64 0, .int .i64 0, .int .i64 0, .int .i64 0] 46)) = W1 := ⟨_, rfl⟩
    have d1 := c1
    have d2 := c2
    rw [hW1] at d1 d2 hB1 hsz1 hR1
    have HD := Lib.hid (And.intro d1 d2)
    clear d1 d2
    have h0' : (0 : Int) < (es.length : Int) := by omega
    have h0'' : ((es.length : Int) == 0) = false := beq_eq_false_iff_ne.2 (by omega)
    have HCall := Lib.hid (vbox_e x W1)
    have HW1 := Lib.hid hW1
    have HX := Lib.hid hx
    have HB1 := Lib.hid hB1
    clear hW1 hx hcells hce hq
    go_enter Try.func17, Try.ntmps17
    go_wp2_with fail
    rw [HW1.out]
    refine HCall.out.mono ?_
    rintro e w2 ⟨rfl, hb2⟩
    have hs2 : w.heap.size + 2 ≤ w2.heap.size := by rw [← hsz1]; exact hb2.size
    have g1 : (w2.alloc (.cells #[.int .i64 x.box.x0, .int .i64 x.box.y0, .int .i64 x.box.x1, .int .i64 x.box.y1] 46)).cell? ⟨w.heap.size, 1, none⟩ = some (.slice (some ⟨b, off, none⟩) es.length cap) := Lib.cell?_alloc_some _ ((hb2.cell (p := ⟨w.heap.size, 1, none⟩) (by show w.heap.size < W1.heap.size; omega)).trans HD.out.1)
    have g2 : (w2.alloc (.cells #[.int .i64 x.box.x0, .int .i64 x.box.y0, .int .i64 x.box.x1, .int .i64 x.box.y1] 46)).cell? ⟨w.heap.size, 2, none⟩ = some (.int .i64 R) := Lib.cell?_alloc_some _ ((hb2.cell (p := ⟨w.heap.size, 2, none⟩) (by show w.heap.size < W1.heap.size; omega)).trans HD.out.2)
    have hR2 : BoxR (w2.alloc (.cells #[.int .i64 x.box.x0, .int .i64 x.box.y0, .int .i64 x.box.x1, .int .i64 x.box.y1] 46)) w2.heap.size (boxU es 0) := by
      have h := heap_alloc_new w2 (.cells #[.int .i64 x.box.x0, .int .i64 x.box.y0, .int .i64 x.box.x1, .int .i64 x.box.y1] 46)
      unfold boxU
      rw [HX.out]
      exact h
    have hB2 : Below w.heap.size w (w2.alloc (.cells #[.int .i64 x.box.x0, .int .i64 x.box.y0, .int .i64 x.box.x1, .int .i64 x.box.y1] 46)) := (HB1.out.trans (hb2.mono (by omega))).alloc (by omega) _
    have hsz2 : (w2.alloc (.cells #[.int .i64 x.box.x0, .int .i64 x.box.y0, .int .i64 x.box.x1, .int .i64 x.box.y1] 46)).heap.size = w2.heap.size + 1 := by simp
    have HG := Lib.hid (And.intro g1 g2)
    have HR2 := Lib.hid hR2
    have HB2 := Lib.hid hB2
    have HS2 := Lib.hid hsz2
    have hc1 : (1 : Int) ≤ (es.length : Int) := by omega
    obtain ⟨W3, hW3⟩ : ∃ W3, w2.alloc (.cells #[.int .i64 x.box.x0, .int .i64 x.box.y0, .int .i64 x.box.x1, .int .i64 x.box.y1] 46) = W3 := ⟨_, rfl⟩
    have hI : BoxI w (.slice (some ⟨b, off, none⟩) es.length cap) (.int .i64 R) w2.heap.size (boxU es 0) W3 := by
      rw [← hW3]
      exact ⟨hB2, g1, g2, (hR1.below hb2 (by omega)).alloc _, hR2, by omega⟩
    have HI := Lib.hid hI
    have HW3 := Lib.hid hW3
    clear hR2 hB2 hsz2 hb2 hR1 c1 c2 HCall x0 x1 x2 x3 x4 x5 x6 hI hW3 HG HR2 HS2
    -- LOOP
    clear g2 HB2 HD hB1 HB1
    go_wp2
    · have hlen : es.length = 1 := by omega
      rw [HW3.out]
      clear HW3 g1 hc1
      go_loopw [21] (fun i wr => i = .int .i64 0 ∧ wr = W3) (fun _ _ => 0)
      case atStart => exact ⟨rfl, rfl⟩
      case round =>
        obtain ⟨rfl, rfl⟩ := hrel
        have HIk := HI
        have hz : ((es.length - 1 : Nat) : Int) = 0 := by omega
        have f0 := (HIk.out.box).at0
        have f1 := (HIk.out.box).at1
        have f2 := (HIk.out.box).at2
        have f3 := (HIk.out.box).at3
        have f4 := HIk.out.c2
        have HA := Lib.hid HIk.out.ans
        go_wp2_with (refine store_rc rfl (.tmp 2) (.tmp 69) rfl _ rfl ((boxU es 0).grow R) _ rfl HA.out ?_)
        have hans : BoxR (wr.setRow (w.heap.size + 1) ((boxU es 0).grow R).cells) (w.heap.size + 1) ((boxU es 0).grow R) := setRow_heap _ _ _ _ _ _ HA.out
        have hbx : boxS es R = (boxU es 0).grow R := by
          unfold boxS
          rw [if_neg (by omega)]
          rw [hlen]
        refine bodyPost_ret (results_cell_row rfl _ _ (w.heap.size + 1) _ _ _ _ rfl hans Try.underlying46 rfl (by kernel_rfl)) rfl ⟨?_, Below.setRow' HIk.out.below _ (by omega)⟩
        rw [hbx]
    · rw [HW3.out]
      clear HW3 g1 hc1
      go_loopw [21] (fun i wr => ∃ k : Nat, k + 1 ≤ es.length ∧ i = .int .i64 k ∧ BoxI w (.slice (some ⟨b, off, none⟩) es.length cap) (.int .i64 R) w2.heap.size (boxU es k) wr) (fun i _ => es.length - (intOf i).toNat)
      case atStart => exact ⟨0, h0, rfl, HI.out⟩
      case round =>
        obtain ⟨k, hk, rfl, hIk⟩ := hrel
        have HIk := Lib.hid hIk
        obtain ⟨q, hq⟩ : ∃ q, q = boxU es k := ⟨_, rfl⟩
        rw [← hq] at HIk
        have HQ := Lib.hid hq
        clear hIk hq
        by_cases hlt : k + 1 < es.length
        · have hlt' : (k : Int) < ((es.length - 1 : Nat) : Int) := by omega
          have hce := (hed.below HIk.out.below hb) (k + 1) hlt
          obtain ⟨y, hy⟩ : ∃ y, es[k + 1]! = y := ⟨_, rfl⟩
          rw [hy, show off + (k + 1) * 7 = off + 7 + k * 7 by omega] at hce
          have HY := Lib.hid hy
          have HLT := Lib.hid hlt
          obtain ⟨c0, c1, c2, c3, c4, c5, c6⟩ := hce
          obtain ⟨W4, hW4⟩ : ∃ W4, wr.alloc (.cells #[.int .i64 y.k, .int .i64 y.ax, .int .i64 y.ay, .int .i64 y.bx, .int .i64 y.by', .int .i64 y.cx, .int .i64 y.cy] 41) = W4 := ⟨_, rfl⟩
          have HCall := Lib.hid (vbox_e y W4)
          have HW4 := Lib.hid hW4
          have HI4 : RowKit.Hid (BoxI w (.slice (some ⟨b, off, none⟩) es.length cap) (.int .i64 R) w2.heap.size q W4) := Lib.hid (by rw [← hW4]; exact HIk.out.keep ((Below.refl _ wr).alloc (Nat.le_refl _) _))
          clear hy hlt hW4
          go_wp2_with fail
          rw [HW4.out]
          refine HCall.out.mono ?_
          rintro e w5 ⟨rfl, hb5⟩
          have HI5 := Lib.hid (HI4.out.keep hb5)
          clear hb5 HCall c0 c1 c2 c3 c4 c5 c6 HW4
          obtain ⟨W6, hW6⟩ : ∃ W6, w5.alloc (.cells #[.int .i64 y.box.x0, .int .i64 y.box.y0, .int .i64 y.box.x1, .int .i64 y.box.y1] 46) = W6 := ⟨_, rfl⟩
          have HI6 : RowKit.Hid (BoxI w (.slice (some ⟨b, off, none⟩) es.length cap) (.int .i64 R) w2.heap.size q W6) := Lib.hid (by rw [← hW6]; exact HI5.out.keep ((Below.refl _ w5).alloc (Nat.le_refl _) _))
          have hBy : BoxR W6 w5.heap.size y.box := by rw [← hW6]; exact heap_alloc_new w5 _
          have g0 := hBy.at0
          have g1 := hBy.at1
          have g2 := hBy.at2
          have g3 := hBy.at3
          have f0 := HI6.out.box.at0
          have f1 := HI6.out.box.at1
          have f2 := HI6.out.box.at2
          have f3 := HI6.out.box.at3
          rw [← hW6] at f0 f1 f2 f3 g0 g1 g2 g3
          have HW6 := Lib.hid hW6
          clear hW6 hBy
          have HB6 : RowKit.Hid (BoxR (w5.alloc (.cells #[.int .i64 y.box.x0, .int .i64 y.box.y0, .int .i64 y.box.x1, .int .i64 y.box.y1] 46)) w2.heap.size q) := Lib.hid (by rw [HW6.out]; exact HI6.out.box)
          go_wp2_with (refine store_rc rfl (.tmp 3) (.tmp 47) rfl _ rfl (q.join y.box) _ rfl HB6.out ?_)
          have e : boxU es (k + 1) = q.join y.box := by rw [HQ.out, ← HY.out]; rfl
          refine ⟨⟨k + 1, HLT.out, by push_cast; rfl, ?_⟩, by simp [intOf]; have := HLT.out; omega⟩
          rw [e, HW6.out]
          exact HI6.out.put _
        · obtain hke : k + 1 = es.length := by omega
          have hz : ((es.length - 1 : Nat) : Int) = (k : Int) := by omega
          have hnl : ¬ (k : Int) < ((es.length - 1 : Nat) : Int) := by omega
          have f0 := (HIk.out.box).at0
          have f1 := (HIk.out.box).at1
          have f2 := (HIk.out.box).at2
          have f3 := (HIk.out.box).at3
          have f4 := HIk.out.c2
          have HA := Lib.hid HIk.out.ans
          go_wp2_with (refine store_rc rfl (.tmp 2) (.tmp 69) rfl _ rfl (q.grow R) _ rfl HA.out ?_)
          have hans : BoxR (wr.setRow (w.heap.size + 1) (q.grow R).cells) (w.heap.size + 1) (q.grow R) := setRow_heap _ _ _ _ _ _ HA.out
          have hbx : boxS es R = q.grow R := by
            unfold boxS
            rw [if_neg (by omega)]
            rw [HQ.out, show es.length - 1 = k by omega]
          refine bodyPost_ret (results_cell_row rfl _ _ (w.heap.size + 1) _ _ _ _ rfl hans Try.underlying46 rfl (by kernel_rfl)) rfl ⟨?_, Below.setRow' HIk.out.below _ (by omega)⟩
          rw [hbx]
end Go.Proofs.Ytliimpbbppbghaa

