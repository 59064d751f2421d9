import Derived.Test.YtliimpbbppbghaaUSu
import Derived.Test.YtliimpbbppbghaaUSo
import Derived.Lib.QuietBelow
import Derived.BigQuiet
set_option linter.all false
namespace Go.Proofs.Ytliimpbbppbghaa
open Go Go.RowKit Go.Shelf Go.Sort Sx
def Q4.has (q : Q4) (px py : Int) : Prop := hasP q.x0 q.y0 q.x1 q.y1 px py
instance (q : Q4) (px py : Int) : Decidable (q.has px py) := by unfold Q4.has; exact inferInstance
def insideS (K R : Int) (es : List E7) (px py : Int) : Bool :=
  if checkS K R es ≠ 0 then false else if ¬ (boxS es R).has px py then false else if K = 1 then decide (∃ e ∈ es, e.cov R px py) else surS es px py
theorem has_e (q : Q4) (px py : Int) (w : World) : Calls Try.prog 39 #[.agg #[.int .i64 q.x0, .int .i64 q.y0, .int .i64 q.x1, .int .i64 q.y1], .agg #[.int .i64 px, .int .i64 py]] w (fun x w' => x = .returned (.bool (decide (q.has px py))) ∧ Below w.heap.size w w') := has_c _ _ _ _ _ _ w
theorem box_e (K R : Int) (p : Option Addr) (len cap : Nat) (es : List E7) (w : World) (hL : SlE w.heap.size w (.slice p len cap) es) (hcap : len ≤ cap) :
    Calls Try.prog 17 #[.agg #[.int .i64 K, .slice p len cap, .int .i64 R]] w (fun e w' => e = .returned (.agg #[.int .i64 (boxS es R).x0, .int .i64 (boxS es R).y0, .int .i64 (boxS es R).x1, .int .i64 (boxS es R).y1]) ∧ Below w.heap.size w w') := box_calls K R p len cap es w hL hcap
theorem firstBad_all {es : List E7} (h : firstBad es = 0) : ∀ e ∈ es, e.okE := fun e he => ok_of_check (firstBad_zero.1 h e he)
theorem checkS_zero {K R : Int} {es : List E7} (h : checkS K R es = 0) : (K = 1 ∨ K = 2) ∧ K ≤ (es.length : Int) ∧ es.length ≤ 40 ∧ (∀ e ∈ es, e.okE) ∧ chainP es (decide (K = 2)) ∧ 0 ≤ R ∧ R ≤ (if K = 1 then 4194304 else 0) := by
  unfold checkS at h
  by_cases h1 : K ≠ 1 ∧ K ≠ 2
  · rw [if_pos h1] at h; exact absurd h (by decide)
  rw [if_neg h1] at h
  by_cases h2 : (es.length : Int) < K
  · rw [if_pos h2] at h; exact absurd h (by decide)
  rw [if_neg h2] at h
  by_cases h3 : 40 < es.length
  · rw [if_pos h3] at h; exact absurd h (by decide)
  rw [if_neg h3] at h
  by_cases h4 : firstBad es ≠ 0
  · rw [if_pos h4] at h; exact absurd h h4
  rw [if_neg h4] at h
  by_cases h5 : ¬ chainP es (decide (K = 2))
  · rw [if_pos h5] at h; exact absurd h (by decide)
  rw [if_neg h5] at h
  by_cases h6 : R < 0 ∨ (if K = 1 then 4194304 else 0) < R
  · rw [if_pos h6] at h; exact absurd h (by decide)
  exact ⟨by omega, by omega, by omega, firstBad_all (Classical.not_not.1 h4), Classical.not_not.1 h5, Int.not_lt.1 fun h => h6 (.inl h), Int.not_lt.1 fun h => h6 (.inr h)⟩
theorem w64_in (n : Int) (h : -9223372036854775808 ≤ n ∧ n ≤ 9223372036854775807) : wrap64 n = n := by unfold wrap64; omega
def Q4.near (q : Q4) : Prop := (-67108864 ≤ q.x0 ∧ q.x0 ≤ 67108864) ∧ (-67108864 ≤ q.y0 ∧ q.y0 ≤ 67108864) ∧ (-67108864 ≤ q.x1 ∧ q.x1 ≤ 67108864) ∧ (-67108864 ≤ q.y1 ∧ q.y1 ≤ 67108864)
theorem box_near {e : E7} (h : e.okE) : e.box.near := by
  obtain ⟨-, -, h1, h2, -, -⟩ := h
  unfold rightP at h1 h2
  unfold Q4.near E7.box
  simp only
  omega
theorem boxU_near {es : List E7} (h : ∀ e ∈ es, e.okE) : ∀ k, k < es.length → (boxU es k).near
  | 0, hk => by
    unfold boxU
    exact box_near (h _ (by rw [getElem!_pos es 0 hk]; exact List.getElem_mem hk))
  | k + 1, hk => by
    have a := boxU_near h k (by omega)
    have b := box_near (h es[k + 1]! (by rw [getElem!_pos es (k + 1) hk]; exact List.getElem_mem hk))
    unfold boxU
    unfold Q4.near Q4.join at *
    simp only
    omega
theorem has_near {K R : Int} {es : List E7} (h : checkS K R es = 0) {px py : Int} (hb : (boxS es R).has px py) : -71303168 ≤ px ∧ px ≤ 71303168 ∧ -71303168 ≤ py ∧ py ≤ 71303168 := by
  obtain ⟨h1, h2, h3, h4, -, h5, h6⟩ := checkS_zero h
  have hR : R ≤ 4194304 := by split at h6 <;> omega
  have hq := boxU_near h4 (es.length - 1) (by omega)
  unfold boxS at hb
  rw [if_neg (by omega)] at hb
  unfold Q4.near at hq
  unfold Q4.has hasP Q4.grow at hb
  simp only at hb
  rw [w64_in _ (by omega), w64_in _ (by omega), w64_in _ (by omega), w64_in _ (by omega)] at hb
  omega
theorem SlE.up {w W : World} {v : Value} {es : List E7} (h : SlE w.heap.size w v es) (hB : Below w.heap.size w W) : SlE W.heap.size W v es := by
  obtain ⟨p, cap, a3, a4, a5⟩ := h.below hB
  exact ⟨p, cap, a3, a4, fun h => by obtain ⟨b, off, b1, b2, b3⟩ := a5 h; exact ⟨b, off, b1, Nat.lt_of_lt_of_le b2 hB.size, b3⟩⟩
set_option maxRecDepth 100000 in
set_option maxHeartbeats 4000000 in
theorem inside_calls (K R px py : Int) (p : Option Addr) (len cap : Nat) (es : List E7) (w : World) (hL : SlE w.heap.size w (.slice p len cap) es) (hcap : len ≤ cap) :
    Calls Try.prog 14 #[.agg #[.int .i64 K, .slice p len cap, .int .i64 R], .agg #[.int .i64 px, .int .i64 py]] w (fun e w' => e = .returned (.bool (insideS K R es px py)) ∧ Below w.heap.size w w') := by
  obtain ⟨W1, hW1⟩ : ∃ W1, (w.alloc (.cells #[.int .i64 K, .slice p len cap, .int .i64 R] 30)).alloc (.cells #[.int .i64 px, .int .i64 py] 24) = W1 := ⟨_, rfl⟩
  have hB1 : Below w.heap.size w W1 := by rw [← hW1]; exact ((Below.refl _ w).alloc (Nat.le_refl _) _).alloc (by simp) _
  have hsz1 : W1.heap.size = w.heap.size + 2 := by rw [← hW1]; simp
  have hcells := fun j => cell_of_row _ w.heap.size j _ _ _ (heap_alloc_new w (.cells #[.int .i64 K, .slice p len cap, .int .i64 R] 30))
  have hcellp := fun j => cell_of_row _ (w.heap.size + 1) j _ _ _ ((show (w.alloc (.cells #[.int .i64 K, .slice p len cap, .int .i64 R] 30)).heap.size = w.heap.size + 1 by simp) ▸ heap_alloc_new (w.alloc (.cells #[.int .i64 K, .slice p len cap, .int .i64 R] 30)) (.cells #[.int .i64 px, .int .i64 py] 24))
  have s0 : W1.cell? ⟨w.heap.size, 0, none⟩ = some (.int .i64 K) := hW1 ▸ Lib.cell?_alloc_some _ (hcells 0)
  have s1 : W1.cell? ⟨w.heap.size, 1, none⟩ = some (.slice p len cap) := hW1 ▸ Lib.cell?_alloc_some _ (hcells 1)
  have s2 : W1.cell? ⟨w.heap.size, 2, none⟩ = some (.int .i64 R) := hW1 ▸ Lib.cell?_alloc_some _ (hcells 2)
  have p0 : W1.cell? ⟨w.heap.size + 1, 0, none⟩ = some (.int .i64 px) := hW1 ▸ hcellp 0
  have p1 : W1.cell? ⟨w.heap.size + 1, 1, none⟩ = some (.int .i64 py) := hW1 ▸ hcellp 1
  clear hcells hcellp
  go_enter Try.func14, Try.ntmps14
  have HS := Lib.hid (And.intro s0 (And.intro s1 (And.intro s2 (And.intro p0 p1))))
  have HW1 := Lib.hid hW1
  have HB1 := Lib.hid hB1
  have hreg : ∀ d os, Below w.heap.size w (grow (redrawn W1 d) os) := fun d os => hB1.trans ((below_regrown W1 d os).mono (by omega))
  have cC : ∀ d os, Calls Try.prog 13 #[.agg #[.int .i64 K, .slice p len cap, .int .i64 R]] (grow (redrawn W1 d) os) fun e w'' => e = .returned (.int .i64 (checkS K R es)) ∧ ∃ p : Regrown, w'' = grow (redrawn W1 p.d) p.os := fun d os => Calls.regrown_of (check_calls K R p len cap es _ (hL.up (hreg d os)))
  have cB : ∀ d os, Calls Try.prog 17 #[.agg #[.int .i64 K, .slice p len cap, .int .i64 R]] (grow (redrawn W1 d) os) fun e w'' => e = .returned (.agg #[.int .i64 (boxS es R).x0, .int .i64 (boxS es R).y0, .int .i64 (boxS es R).x1, .int .i64 (boxS es R).y1]) ∧ ∃ p : Regrown, w'' = grow (redrawn W1 p.d) p.os := fun d os => Calls.regrown_of (box_e K R p len cap es _ (hL.up (hreg d os)) hcap)
  have cH : ∀ d os, Calls Try.prog 39 #[.agg #[.int .i64 (boxS es R).x0, .int .i64 (boxS es R).y0, .int .i64 (boxS es R).x1, .int .i64 (boxS es R).y1], .agg #[.int .i64 px, .int .i64 py]] (grow (redrawn W1 d) os) fun e w'' => e = .returned (.bool (decide ((boxS es R).has px py))) ∧ ∃ p : Regrown, w'' = grow (redrawn W1 p.d) p.os := fun d os => Calls.regrown_of (has_e (boxS es R) px py _)
  have k0 := cell_regrown s0
  have k1 := cell_regrown s1
  have k2 := cell_regrown s2
  have k3 := cell_regrown p0
  have k4 := cell_regrown p1
  have HReg := Lib.hid hreg
  clear s0 s1 s2 p0 p1 hW1 hB1 hreg
  by_cases hck : checkS K R es = 0
  · rw [hck] at cC
    have HCk := Lib.hid hck
    clear hck
    by_cases hbx : (boxS es R).has px py
    · rw [decide_eq_true hbx] at cH
      have HBx := Lib.hid hbx
      clear hbx
      go_wp2_with fail
      rw [HW1.out]
      refine wp_region_quiet_below mixed0 (by kernel_rfl) ?_
      repeat (quiet_step (first | exact cC _ _ | exact cB _ _ | exact cH _ _))
      refine wpQuiet_nil ?_
      intro _ hw'
      obtain ⟨⟨dq, osq⟩, hw''⟩ := hw'
      subst hw''
      obtain ⟨W2, hW2⟩ : ∃ W2, grow (redrawn W1 dq) osq = W2 := ⟨_, rfl⟩
      have hB2 := HReg.out dq osq
      have s0 := cell_regrown HS.out.1 dq osq
      have s1 := cell_regrown HS.out.2.1 dq osq
      have s2 := cell_regrown HS.out.2.2.1 dq osq
      have p0 := cell_regrown HS.out.2.2.2.1 dq osq
      have p1 := cell_regrown HS.out.2.2.2.2 dq osq
      have hz2 : W1.heap.size ≤ W2.heap.size := by rw [← hW2]; exact (below_regrown W1 dq osq).size
      rw [hW2] at hB2 s0 s1 s2 p0 p1
      show Exit.then _ _ _ _ (grow (redrawn W1 dq) osq)
      rw [hW2]
      obtain ⟨hK, hKl, hl, hok, -, hR0, hR1⟩ := checkS_zero HCk.out
      have hnear := has_near HCk.out HBx.out
      have HB2 := Lib.hid hB2
      clear k0 k1 k2 k3 k4 cC cB cH hW2 hB2
      have hin : insideS K R es px py = if K = 1 then decide (∃ e ∈ es, e.cov R px py) else surS es px py := by unfold insideS; rw [if_neg (by simp [HCk.out]), if_neg (by simp [HBx.out])]
      have HIn := Lib.hid hin
      clear hin
      by_cases hk1 : K = 1
      · subst hk1
        obtain ⟨q0, q1, hq0, hq1, hq⟩ := hL
        obtain ⟨rfl, rfl, rfl⟩ : p = q0 ∧ len = es.length ∧ cap = q1 := by injection hq0 with a b c; exact ⟨a, b, c⟩
        obtain ⟨b, off, rfl, hb, hed⟩ := hq (by omega)
        have hcall := contains_calls w.heap.size (w.heap.size + 1) b off cap R px py es hok ⟨hR0, by simpa using hR1⟩ hnear W2 s2 p0 p1 (by omega) (by omega) (Nat.lt_of_lt_of_le hb HB2.out.size) hq1 (hed.below HB2.out hb)
        have HCall := Lib.hid hcall
        clear hcall hq hed hnear hok hKl hl hR0 hR1 hq1
        go_wp2_with fail
        refine HCall.out.mono ?_
        rintro e w3 ⟨rfl, hb3⟩
        have HB3 := Lib.hid hb3
        clear hb3 HCall s0 s1 s2 p0 p1
        go_wp2
        go_ret
        exact ⟨by first | (rw [HIn.out, if_pos rfl]; rfl) | (rw [HIn.out]; rfl), HB2.out.trans (HB3.out.mono HB2.out.size)⟩
      · have hk2 : (K == 1) = false := beq_eq_false_iff_ne.2 hk1
        have HK := Lib.hid hk1
        have hcall := surrounds_calls p len cap es px py W2 (hL.up HB2.out)
        have HCall := Lib.hid hcall
        clear hcall hk1 hnear hok hKl hl hR0 hR1 hK
        go_wp2_with fail
        refine HCall.out.mono ?_
        rintro e w3 ⟨rfl, hb3⟩
        have HB3 := Lib.hid hb3
        clear hb3 HCall s0 s1 s2 p0 p1
        go_wp2
        go_ret
        exact ⟨by first | (rw [HIn.out, if_neg HK.out]; rfl) | (rw [HIn.out]; rfl), HB2.out.trans (HB3.out.mono HB2.out.size)⟩
    · rw [decide_eq_false hbx] at cH
      have HBx := Lib.hid hbx
      clear hbx
      go_wp2_with fail
      rw [HW1.out]
      refine wp_region_quiet_below mixed0 (by kernel_rfl) ?_
      repeat (quiet_step (first | exact cC _ _ | exact cB _ _ | exact cH _ _))
      refine wpQuiet_nil ?_
      intro _ hw'
      obtain ⟨⟨dq, osq⟩, hw''⟩ := hw'
      subst hw''
      go_wp2
      go_ret
      exact ⟨by unfold insideS; rw [if_neg (by simp [HCk.out]), if_pos HBx.out]; rfl, HReg.out dq osq⟩
  · have hck' : (checkS K R es == 0) = false := beq_eq_false_iff_ne.2 hck
    have hck2 : (checkS K R es != 0) = true := bne_iff_ne.2 hck
    have HCk := Lib.hid hck
    clear hck
    go_wp2_with fail
    rw [HW1.out]
    refine wp_region_quiet_below mixed0 (by kernel_rfl) ?_
    repeat (quiet_step (first | exact cC _ _ | exact cB _ _ | exact cH _ _))
    refine wpQuiet_nil ?_
    intro _ hw'
    obtain ⟨⟨dq, osq⟩, hw''⟩ := hw'
    subst hw''
    go_wp2
    go_ret
    exact ⟨by unfold insideS; rw [if_pos HCk.out]; rfl, HReg.out dq osq⟩
end Go.Proofs.Ytliimpbbppbghaa

