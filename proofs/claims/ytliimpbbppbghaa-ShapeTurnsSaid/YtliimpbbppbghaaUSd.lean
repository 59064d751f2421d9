import Derived.Test.YtliimpbbppbghaaUSc
import Derived.Test.YtliimpbbppbghaaUSh
set_option linter.all false
namespace Go.Proofs.Ytliimpbbppbghaa
open Go Go.RowKit Go.Shelf Sx
def E7.chk (e : E7) : Int := checkZ e.k e.ax e.ay e.bx e.by' e.cx e.cy
def firstBad : List E7 → Int
  | [] => 0
  | e :: r => if e.chk ≠ 0 then e.chk else firstBad r
theorem firstBad_zero {es : List E7} : firstBad es = 0 ↔ ∀ e ∈ es, e.chk = 0 := by
  induction es with
  | nil => simp [firstBad]
  | cons e r ih =>
    unfold firstBad
    by_cases h : e.chk = 0
    · simp [h, ih]
    · simp [h]
theorem firstBad_at {es : List E7} {k : Nat} (hk : k < es.length) (h : ∀ j, j < k → es[j]!.chk = 0) (hb : es[k]!.chk ≠ 0) : firstBad es = es[k]!.chk := by
  induction es generalizing k with
  | nil => simp at hk
  | cons e r ih =>
    unfold firstBad
    cases k with
    | zero => simp at hb ⊢; intro h; exact absurd h hb
    | succ k =>
      have h0 := h 0 (by omega)
      simp at h0
      rw [if_neg (by simp [h0])]
      have := ih (k := k) (by simpa using hk) (fun j hj => by have := h (j + 1) (by omega); simpa using this) (by simpa using hb)
      simpa using this
theorem firstBad_none {es : List E7} (h : ∀ j, j < es.length → es[j]!.chk = 0) : firstBad es = 0 := firstBad_zero.2 fun e he => by
  obtain ⟨j, hj, rfl⟩ := List.getElem_of_mem he
  have := h j hj
  rw [getElem!_pos es j hj] at this
  exact this
def chainP (es : List E7) (closed : Bool) : Prop := ∀ x ∈ prAll es closed, meets x
instance (es : List E7) (closed : Bool) : Decidable (chainP es closed) := by unfold chainP; exact inferInstance
def checkS (K R : Int) (es : List E7) : Int :=
  if K ≠ 1 ∧ K ≠ 2 then 12 else if (es.length : Int) < K then 12 else if 40 < es.length then 2 else if firstBad es ≠ 0 then firstBad es
  else if ¬ chainP es (decide (K = 2)) then 12 else if R < 0 ∨ (if K = 1 then 4194304 else 0) < R then 3 else 0
theorem checkS_kind {K R : Int} {es : List E7} (h1 : K ≠ 1) (h2 : K ≠ 2) : checkS K R es = 12 := by unfold checkS; rw [if_pos ⟨h1, h2⟩]
theorem checkS_few {K R : Int} {es : List E7} (h : (es.length : Int) < K) : checkS K R es = 12 := by unfold checkS; rw [if_pos h]; split <;> rfl
section
variable {K R : Int} {es : List E7} (h : K = 1 ∨ K = 2) (h1 : K ≤ (es.length : Int))
include h h1
theorem checkS_many (h2 : 40 < es.length) : checkS K R es = 2 := by unfold checkS; rw [if_neg (by omega), if_neg (by omega), if_pos h2]
theorem checkS_bad (h2 : es.length ≤ 40) (h3 : firstBad es ≠ 0) : checkS K R es = firstBad es := by unfold checkS; rw [if_neg (by omega), if_neg (by omega), if_neg (by omega), if_pos h3]
theorem checkS_chain (h2 : es.length ≤ 40) (h3 : firstBad es = 0) (h4 : ¬ chainP es (decide (K = 2))) : checkS K R es = 12 := by unfold checkS; rw [if_neg (by omega), if_neg (by omega), if_neg (by omega), if_neg (by omega), if_pos h4]
theorem checkS_end (h2 : es.length ≤ 40) (h3 : firstBad es = 0) (h4 : chainP es (decide (K = 2))) : checkS K R es = if R < 0 ∨ (if K = 1 then 4194304 else 0) < R then 3 else 0 := by unfold checkS; rw [if_neg (by omega), if_neg (by omega), if_neg (by omega), if_neg (by omega), if_neg (fun h => h h4)]
end
theorem vcheck_e (e : E7) (w : World) : Calls Try.prog 37 #[.agg #[.int .i64 e.k, .int .i64 e.ax, .int .i64 e.ay, .int .i64 e.bx, .int .i64 e.by', .int .i64 e.cx, .int .i64 e.cy]] w (fun x w' => x = .returned (.int .i64 e.chk) ∧ Below w.heap.size w w') := vcheck_c _ _ _ _ _ _ _ w
set_option maxRecDepth 100000 in
set_option maxHeartbeats 4000000 in
theorem check_calls (K R : Int) (p : Option Addr) (len cap : Nat) (es : List E7) (w : World) (hL : SlE w.heap.size w (.slice p len cap) es) :
    Calls Try.prog 13 #[.agg #[.int .i64 K, .slice p len cap, .int .i64 R]] w (fun e w' => e = .returned (.int .i64 (checkS K R es)) ∧ Below w.heap.size w w') := by
  have hfam := fam_c K (w.alloc (.cells #[.int .i64 K, .slice p len cap, .int .i64 R] 30))
  have hB1 : Below w.heap.size w (w.alloc (.cells #[.int .i64 K, .slice p len cap, .int .i64 R] 30)) := (Below.refl _ w).alloc (Nat.le_refl _) _
  have hcells := fun j => cell_of_row _ w.heap.size j _ _ _ (heap_alloc_new w (.cells #[.int .i64 K, .slice p len cap, .int .i64 R] 30))
  have c0 := hcells 0
  have c1 := hcells 1
  have c2 := hcells 2
  have hsz1 : (w.alloc (.cells #[.int .i64 K, .slice p len cap, .int .i64 R] 30)).heap.size = w.heap.size + 1 := by simp
  obtain ⟨W1, hW1⟩ : ∃ W1, w.alloc (.cells #[.int .i64 K, .slice p len cap, .int .i64 R] 30) = W1 := ⟨_, rfl⟩
  rw [hW1] at hfam hB1 hcells c0 c1 c2 hsz1
  have HW1 := Lib.hid hW1
  have HFam := Lib.hid hfam
  obtain ⟨q0, q1, hlen, hq⟩ := id hL
  clear hcells hW1 hfam
  simp at c0 c1 c2
  go_enter Try.func13, Try.ntmps13
  go_wp2_with fail
  rw [HW1.out]
  refine HFam.out.mono ?_
  rintro e w2 ⟨rfl, hb2⟩
  have c0' := (hb2.cell (p := ⟨w.heap.size, 0, none⟩) (by show w.heap.size < W1.heap.size; omega)).trans c0
  have c1' := (hb2.cell (p := ⟨w.heap.size, 1, none⟩) (by show w.heap.size < W1.heap.size; omega)).trans c1
  have c2' := (hb2.cell (p := ⟨w.heap.size, 2, none⟩) (by show w.heap.size < W1.heap.size; omega)).trans c2
  have hB2 : Below w.heap.size w w2 := hB1.trans (hb2.mono (by omega))
  have hsz2 : w.heap.size + 1 ≤ w2.heap.size := by rw [← hsz1]; exact hb2.size
  have HB2 := Lib.hid hB2
  have HL := Lib.hid hL
  clear c0 c1 c2 hb2 hB1 hB2 hL HFam HW1 hsz1 W1
  by_cases hK : K = 1 ∨ K = 2
  · have HK := Lib.hid hK
    obtain ⟨fw, hfw⟩ : ∃ fw, fw = (if K = 1 then 1 else if K = 2 then 2 else 0 : Int) := ⟨_, rfl⟩
    obtain ⟨wd, hwd⟩ : ∃ wd, wd = (if K = 1 then 4194304 else 0 : Int) := ⟨_, rfl⟩
    obtain ⟨cl, hcl⟩ : ∃ cl, cl = decide (K = 2) := ⟨_, rfl⟩
    rw [← hfw, ← hwd, ← hcl, decide_eq_true hK]
    have hfk : fw = K := by rw [hfw]; rcases hK with rfl | rfl <;> rfl
    have HFW := Lib.hid hfk
    have HWD := Lib.hid hwd
    have HCL := Lib.hid hcl
    clear hK hfw hwd hcl hfk
    have d0 := fun j => cell_of_row _ w2.heap.size j _ _ _ (heap_alloc_new w2 (.cells #[.int .i64 fw, .bool cl, .int .i64 wd] 74))
    have HF : RowKit.Hid ((w2.alloc (.cells #[.int .i64 fw, .bool cl, .int .i64 wd] 74)).cell? ⟨w2.heap.size, 0, none⟩ = some (.int .i64 fw) ∧ (w2.alloc (.cells #[.int .i64 fw, .bool cl, .int .i64 wd] 74)).cell? ⟨w2.heap.size, 1, none⟩ = some (.bool cl) ∧ (w2.alloc (.cells #[.int .i64 fw, .bool cl, .int .i64 wd] 74)).cell? ⟨w2.heap.size, 2, none⟩ = some (.int .i64 wd)) := Lib.hid ⟨d0 0, d0 1, d0 2⟩
    have e0 := Lib.cell?_alloc_some (.cells #[.int .i64 fw, .bool cl, .int .i64 wd] 74) c0'
    have e1 := Lib.cell?_alloc_some (.cells #[.int .i64 fw, .bool cl, .int .i64 wd] 74) c1'
    have e2 := Lib.cell?_alloc_some (.cells #[.int .i64 fw, .bool cl, .int .i64 wd] 74) c2'
    have hB3 : Below w.heap.size w (w2.alloc (.cells #[.int .i64 fw, .bool cl, .int .i64 wd] 74)) := HB2.out.alloc (by omega) _
    have hsz3 : (w2.alloc (.cells #[.int .i64 fw, .bool cl, .int .i64 wd] 74)).heap.size = w2.heap.size + 1 := by simp
    clear d0 c0' c1' c2'
    have HB3 := Lib.hid hB3
    clear hB3 HB2
    by_cases h1 : (es.length : Int) < fw
    · have HE := Lib.hid (show (es.length : Int) < K by rw [← HFW.out]; exact h1)
      go_wp2
      go_ret
      exact ⟨by rw [checkS_few HE.out]; rfl, HB3.out⟩
    by_cases h2 : (40 : Int) < (es.length : Int)
    · have HE := Lib.hid (show K ≤ (es.length : Int) by rw [← HFW.out]; omega)
      have HE2 := Lib.hid (show 40 < es.length by omega)
      go_wp2
      go_ret
      exact ⟨by rw [checkS_many HK.out HE.out HE2.out]; rfl, HB3.out⟩
    have HE := Lib.hid (show K ≤ (es.length : Int) by rw [← HFW.out]; omega)
    have HE2 := Lib.hid (show es.length ≤ 40 by omega)
    have hle : (es.length : Int) ≤ 40 := by omega
    have HS := Lib.hid (And.intro e0 (And.intro e1 e2))
    have HZ3 := Lib.hid hsz3
    go_wp2
    obtain ⟨W3, hW3⟩ : ∃ W3, w2.alloc (.cells #[.int .i64 fw, .bool cl, .int .i64 wd] 74) = W3 := ⟨_, rfl⟩
    rw [hW3] at HF HS HB3 HZ3
    simp only [hW3]
    clear hW3 e0 e1 e2 hsz3
    go_loopw [33] (fun i wr => ∃ k : Nat, k ≤ es.length ∧ i = .int .i64 k ∧ Below W3.heap.size W3 wr ∧ ∀ j, j < k → es[j]!.chk = 0) (fun i _ => es.length - (intOf i).toNat)
    case atStart => exact ⟨0, Nat.zero_le _, rfl, Below.refl _ _, fun _ h => absurd h (Nat.not_lt_zero _)⟩
    case round =>
      obtain ⟨k, hk, rfl, hB, hch⟩ := hrel
      have s0 := (hB.cell (p := ⟨w.heap.size, 0, none⟩) (by show w.heap.size < W3.heap.size; have := HZ3.out; omega)).trans HS.out.1
      have s1 := (hB.cell (p := ⟨w.heap.size, 1, none⟩) (by show w.heap.size < W3.heap.size; have := HZ3.out; omega)).trans HS.out.2.1
      have s2 := (hB.cell (p := ⟨w.heap.size, 2, none⟩) (by show w.heap.size < W3.heap.size; have := HZ3.out; omega)).trans HS.out.2.2
      have f0 := (hB.cell (p := ⟨w2.heap.size, 0, none⟩) (by show w2.heap.size < W3.heap.size; have := HZ3.out; omega)).trans HF.out.1
      have f1 := (hB.cell (p := ⟨w2.heap.size, 1, none⟩) (by show w2.heap.size < W3.heap.size; have := HZ3.out; omega)).trans HF.out.2.1
      have f2 := (hB.cell (p := ⟨w2.heap.size, 2, none⟩) (by show w2.heap.size < W3.heap.size; have := HZ3.out; omega)).trans HF.out.2.2
      have hBw : Below w.heap.size w wr := HB3.out.trans (hB.mono (by have := HZ3.out; omega))
      have HB := Lib.hid hB
      have HBw := Lib.hid hBw
      have HCh := Lib.hid hch
      by_cases hlt : k < es.length
      · have hlt' : (k : Int) < (es.length : Int) := by omega
        obtain ⟨b, off, rfl, hb, hed⟩ := hq.2 (by omega)
        have hce := (hed.below hBw hb) k hlt
        obtain ⟨x, hx⟩ : ∃ x, es[k]! = x := ⟨_, rfl⟩
        rw [hx] at hce
        have HX := Lib.hid hx
        have HLT := Lib.hid hlt
        obtain ⟨c0, c1, c2, c3, c4, c5, c6⟩ := hce
        have hcall := vcheck_e x (wr.alloc (.cells #[.int .i64 x.k, .int .i64 x.ax, .int .i64 x.ay, .int .i64 x.bx, .int .i64 x.by', .int .i64 x.cx, .int .i64 x.cy] 41))
        have HCall := Lib.hid hcall
        have HSz := Lib.hid hB.size
        clear hcall hx hlt hB hBw hch hed
        go_wp2_with fail
        refine HCall.out.mono ?_
        rintro e w4 ⟨rfl, hb4⟩
        have HB4 := Lib.hid ((HBw.out.alloc (by have := HBw.out.size; omega) _).trans (hb4.mono (by simp; have := HBw.out.size; omega)))
        have HB5 := Lib.hid ((HB.out.alloc HSz.out _).trans (hb4.mono (by simp; have := HSz.out; omega)))
        clear hb4 HCall c0 c1 c2 c3 c4 c5 c6 s0 s1 s2 f0 f1 f2
        by_cases hz : x.chk = 0
        · have HZ := Lib.hid hz
          rw [hz]
          clear hz
          go_wp2
          go_roundw
          case rel =>
            refine ⟨k + 1, HLT.out, by go_num, HB5.out, fun j hj => ?_⟩
            rcases Nat.lt_succ_iff_lt_or_eq.1 hj with h | rfl
            · exact HCh.out j h
            · rw [HX.out]; exact HZ.out
          case measure => simp [intOf]; have := HLT.out; omega
        · have HZ := Lib.hid hz
          have hz' : (x.chk == 0) = false := by simpa using hz
          go_wp2
          go_ret
          have hfb : firstBad es = x.chk := by
            have := firstBad_at HLT.out HCh.out (by rw [HX.out]; exact HZ.out)
            rw [HX.out] at this
            exact this
          exact ⟨by rw [checkS_bad HK.out HE.out HE2.out (by rw [hfb]; exact HZ.out), hfb]; rfl, HB4.out⟩
      · obtain rfl : k = es.length := by omega
        have hfb := firstBad_none hch
        have HFb := Lib.hid hfb
        have hcall := isChain_calls p es.length cap cl es wr (HL.out.below hBw |> fun h => by
          obtain ⟨a1, a2, a3, a4, a5⟩ := h
          exact ⟨a1, a2, a3, a4, fun h => by obtain ⟨b, off, b1, b2, b3⟩ := a5 h; exact ⟨b, off, b1, Nat.lt_of_lt_of_le b2 hBw.size, b3⟩⟩)
        have HCall := Lib.hid hcall
        clear hcall hfb hch hB hBw
        go_wp2_with fail
        refine HCall.out.mono ?_
        rintro e w4 ⟨rfl, hb4⟩
        have s0' := (hb4.cell (p := ⟨w.heap.size, 0, none⟩) (by show w.heap.size < wr.heap.size; have := HZ3.out; have := HB.out.size; omega)).trans s0
        have s1' := (hb4.cell (p := ⟨w.heap.size, 1, none⟩) (by show w.heap.size < wr.heap.size; have := HZ3.out; have := HB.out.size; omega)).trans s1
        have s2' := (hb4.cell (p := ⟨w.heap.size, 2, none⟩) (by show w.heap.size < wr.heap.size; have := HZ3.out; have := HB.out.size; omega)).trans s2
        have f0' := (hb4.cell (p := ⟨w2.heap.size, 0, none⟩) (by show w2.heap.size < wr.heap.size; have := HZ3.out; have := HB.out.size; omega)).trans f0
        have f1' := (hb4.cell (p := ⟨w2.heap.size, 1, none⟩) (by show w2.heap.size < wr.heap.size; have := HZ3.out; have := HB.out.size; omega)).trans f1
        have f2' := (hb4.cell (p := ⟨w2.heap.size, 2, none⟩) (by show w2.heap.size < wr.heap.size; have := HZ3.out; have := HB.out.size; omega)).trans f2
        have HB4 := Lib.hid (HBw.out.trans (hb4.mono HBw.out.size))
        clear hb4 HCall s0 s1 s2 f0 f1 f2
        by_cases hc : chainP es cl
        · have HC := Lib.hid (show chainP es (decide (K = 2)) by rw [← HCL.out]; exact hc)
          rw [show decide (∀ x ∈ prAll es cl, meets x) = true from decide_eq_true (p := ∀ x ∈ prAll es cl, meets x) hc]
          clear hc
          by_cases h3 : R < 0
          · have HR := Lib.hid (show R < 0 ∨ (if K = 1 then 4194304 else 0) < R from .inl h3)
            go_wp2
            go_ret
            exact ⟨by rw [checkS_end HK.out HE.out HE2.out HFb.out HC.out, if_pos HR.out]; rfl, HB4.out⟩
          · have h3' : 0 ≤ R := by omega
            by_cases h4 : wd < R
            · have HR := Lib.hid (show R < 0 ∨ (if K = 1 then 4194304 else 0) < R from .inr (by rw [← HWD.out]; exact h4))
              go_wp2
              go_ret
              exact ⟨by rw [checkS_end HK.out HE.out HE2.out HFb.out HC.out, if_pos HR.out]; rfl, HB4.out⟩
            · have h4' : R ≤ wd := by omega
              have HR := Lib.hid (show ¬ (R < 0 ∨ (if K = 1 then 4194304 else 0) < R) from fun h => h.elim h3 (fun h => h4 (by rw [HWD.out]; exact h)))
              go_wp2
              go_ret
              exact ⟨by rw [checkS_end HK.out HE.out HE2.out HFb.out HC.out, if_neg HR.out]; rfl, HB4.out⟩
        · have HC := Lib.hid (show ¬ chainP es (decide (K = 2)) by rw [← HCL.out]; exact hc)
          rw [show decide (∀ x ∈ prAll es cl, meets x) = false from decide_eq_false (p := ∀ x ∈ prAll es cl, meets x) hc]
          clear hc
          go_wp2
          go_ret
          exact ⟨by rw [checkS_chain HK.out HE.out HE2.out HFb.out HC.out]; rfl, HB4.out⟩
  · have h1 : K ≠ 1 := fun h => hK (.inl h)
    have h2 : K ≠ 2 := fun h => hK (.inr h)
    have HK := Lib.hid (And.intro h1 h2)
    rw [decide_eq_false hK, if_neg h1, if_neg h2, if_neg h1, decide_eq_false h2]
    clear hK
    go_wp2
    go_ret
    exact ⟨by rw [checkS_kind HK.out.1 HK.out.2]; rfl, HB2.out.alloc (by have := HB2.out.size; omega) _⟩
end Go.Proofs.Ytliimpbbppbghaa

