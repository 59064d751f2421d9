import Derived.Test.YtliimpbbppbghaaQSg
set_option linter.all false
namespace Go.Proofs.Ytliimpbbppbghaa
open Go Go.RowKit Go.Shelf Sx
attribute [local go_sem] Oper.semAt_some
def frP (l Bs Bc b off n cap k xb : Nat) (x u : Value) (vs : Nat → Value) : Array Value := #[.func (.yield l) #[] #[], .pointer (some ⟨Bs, 0, none⟩), .pointer (some ⟨Bc, 0, none⟩), undef, .int .i64 (k : Int), .pointer (some ⟨xb, 0, none⟩), .slice (some ⟨b, off, none⟩) n cap, .int .i64 (n : Int), .int .i64 (k : Int), .bool true, .int .i64 (k : Int), .pointer (some ⟨b, off + k * 7, none⟩), x, vs 0, vs 1, vs 2, vs 3, vs 4, vs 5, vs 6, vs 7, vs 8, vs 9, vs 10, vs 11, vs 12, u, undef, undef, undef, undef, undef, undef, undef, undef, undef, undef, undef, undef, undef, undef, undef, undef, undef]
def vFP (l b off n cap k m : Nat) (es : List E7) (x : E7) : Nat → Value → Prop
  | 0, v => v = .int .i64 (k : Int)
  | 1, v => v = .bool true
  | 2, v => v = .bool true
  | 3, v => v = .func (.yield l) #[] #[]
  | 4, v => v = .slice (some ⟨b, off, none⟩) n cap
  | 5, v => v = .int .i64 (k : Int)
  | 6, v => v = .int .i64 (m : Int)
  | 7, v => v = .pointer (some ⟨b, off + m * 7, none⟩)
  | 8, v => v = (es[m]!).val
  | 9, v => v = x.val
  | _, _ => True
def frL (l Bs Bc b off n cap : Nat) (u4 u5 u10 u11 u12 u13 u14 u15 u16 u17 u18 u19 u20 u21 u22 u23 u24 u25 u26 : Value) (vs : Nat → Value) : Array Value := #[.func (.yield l) #[] #[], .pointer (some ⟨Bs, 0, none⟩), .pointer (some ⟨Bc, 0, none⟩), undef, u4, u5, .slice (some ⟨b, off, none⟩) n cap, .int .i64 (n : Int), .int .i64 (n : Int), .bool false, u10, u11, u12, u13, u14, u15, u16, u17, u18, u19, u20, u21, u22, u23, u24, u25, u26, .bool true, .bool true, .slice (some ⟨b, off, none⟩) n cap, .int .i64 (n : Int), .bool true, .bool true, vs 0, vs 1, vs 2, vs 3, vs 4, vs 5, vs 6, vs 7, vs 8, vs 9, vs 10]
def vFL (l b off n cap k m : Nat) (es : List E7) (x : E7) : Nat → Value → Prop
  | 0, v => v = .func (.yield l) #[] #[]
  | 1, v => v = .slice (some ⟨b, off, none⟩) n cap
  | 2, v => v = .slice (some ⟨b, off, none⟩) n cap
  | 3, v => v = .int .i64 (n : Int)
  | 4, v => v = .int .i64 (m : Int)
  | 5, v => v = .pointer (some ⟨b, off + m * 7, none⟩)
  | 6, v => v = (es[m]!).val
  | 7, v => v = .slice (some ⟨b, off, none⟩) n cap
  | 8, v => v = .pointer (some ⟨b, off, none⟩)
  | 9, v => v = x.val
  | _, _ => True
def vFZ : Nat → Value → Prop
  | 0, v => v = .int .i64 0
  | 1, v => v = .bool false
  | 2, v => v = .bool false
  | 12, v => v = .bool false
  | _, _ => True
theorem cellsAt_new {w : World} (x : E7) (t : TypeId) : cellsAt (w.alloc (.cells #[.int .i64 x.k, .int .i64 x.ax, .int .i64 x.ay, .int .i64 x.bx, .int .i64 x.by', .int .i64 x.cx, .int .i64 x.cy] t)).drew w.heap.size 0 x := by
  have h := fun j => cell_of_row (w.alloc (.cells #[.int .i64 x.k, .int .i64 x.ax, .int .i64 x.ay, .int .i64 x.bx, .int .i64 x.by', .int .i64 x.cx, .int .i64 x.cy] t)) w.heap.size j _ _ _ (heap_alloc_new w _)
  exact ⟨h 0, h 1, h 2, h 3, h 4, h 5, h 6⟩
theorem _root_.Go.AbidesFrom.alloc {β : Type} {B : Nat} {J : β → World → Prop} (h : AbidesFrom B J) {s : β} {w : World} {o : Obj} (hs : J s w) : J s (w.alloc o) := h s _ _ none hs (World.grownBy_alloc w o none) (fun _ e => by cases e)
theorem _root_.Go.AbidesFrom.drew {β : Type} {B : Nat} {J : β → World → Prop} (h : AbidesFrom B J) {s : β} {w : World} (hs : J s w) : J s w.drew := h s _ _ none hs ⟨rfl, rfl, rfl, Nat.le_refl _, fun _ _ _ => rfl⟩ (fun _ e => by cases e)
set_option maxRecDepth 100000 in
set_option maxHeartbeats 4000000 in
theorem pairs1_in (F : Fence) (n : Nat) (hF : F = RF none) (hn : n = 0) (l Bs Bc n₀ b off cap : Nat) (es : List E7) (closed : Bool) (h0 : 0 < es.length) (hbig : es.length ≤ 1000000000000) (hb : b < n₀) (hBs : Bs < n₀) (hBc : Bc < n₀) (J Jx : List (E7 × E7) → World → Prop)
    (Ba : Nat) (hJa : AbidesFrom Ba J)
    (hY : ∀ pre x W, J pre W → pre.length < es.length → YieldAt F (n - 1) Try.prog l #[x.1.val, x.2.val] W fun e W' =>
      (e = .returned (.bool true) ∧ J (pre ++ [x]) W' ∧ Below n₀ W W') ∨ (e = .returned (.bool false) ∧ Jx (pre ++ [x]) W'))
    (W : World) (hn₀ : n₀ ≤ W.heap.size) (hcs : W.cell? ⟨Bs, 0, none⟩ = some (.slice (some ⟨b, off, none⟩) es.length cap)) (hcc : W.cell? ⟨Bc, 0, none⟩ = some (.bool closed))
    (hc : Edges W b off es) (hJ : J [] W) :
    CallsIn F n Try.prog 72 #[.func (.yield l) #[] #[], .pointer (some ⟨Bs, 0, none⟩), .pointer (some ⟨Bc, 0, none⟩)] W fun e W' => (∃ v, e = .returned v) ∧
      (J (prAll es closed) W' ∨ (∃ pre, pre <+: prAll es closed ∧ Jx pre W')) := by
  have hf : F.fn 72 := by rw [hF]; trivial
  have hro : F.round = none := by rw [hF]; rfl
  have HF := Lib.hid hF
  have HN := Lib.hid hn
  clear hF hn
  refine callsIn_of_wp Try.func72 rfl hf ?_ hro
  simp only [Try.ntmps72, List.size_toArray, List.length_cons, List.length_nil, Nat.reduceAdd, Nat.reduceSub, Array.replicate_succ, Array.replicate_zero, List.push_toArray, List.append_toArray, List.nil_append, List.cons_append]
  gi_wp2
  gi_loopw [8] (fun i wr => ∃ k : Nat, k ≤ es.length ∧ i = .int .i64 k ∧ J (prU es k) wr ∧ Below n₀ W wr)
    (fun i _ => es.length - (intOf i).toNat)
  case atStart => exact ⟨0, Nat.zero_le _, rfl, hJ, Below.refl _ _⟩
  case round =>
    obtain ⟨k, hk, rfl, hJs, hB⟩ := hrel
    have hbs := (hB.cell (p := ⟨Bs, 0, none⟩) hBs).trans hcs
    have hbc := (hB.cell (p := ⟨Bc, 0, none⟩) hBc).trans hcc
    have hsz : n₀ ≤ wr.heap.size := Nat.le_trans hn₀ hB.size
    by_cases hlt : k < es.length
    · have hlt' : (k : Int) < (es.length : Int) := by omega
      have hce := (hc.below hB hb) k hlt
      obtain ⟨x, hx⟩ : ∃ x, es[k]! = x := ⟨_, rfl⟩
      rw [hx] at hce
      have HX := Lib.hid hx
      clear hx
      obtain ⟨c0, c1, c2, c3, c4, c5, c6⟩ := hce
      have HB := Lib.hid hB
      have HCS := Lib.hid hbs
      have HJs := Lib.hid hJs
      have HLT := Lib.hid hlt
      by_cases hk0 : k = 0
      · subst hk0
        simp only [Nat.zero_mul, Nat.add_zero] at c0 c1 c2 c3 c4 c5 c6
        gi_wp2
        obtain ⟨W1, hW1⟩ : ∃ W1, wr.alloc (.cells #[.int .i64 x.k, .int .i64 x.ax, .int .i64 x.ay, .int .i64 x.bx, .int .i64 x.by', .int .i64 x.cx, .int .i64 x.cy] 41) = W1 := ⟨_, rfl⟩
        rw [hW1]
        obtain ⟨Wd, hWd⟩ : ∃ Wd, W1.drew = Wd := ⟨_, rfl⟩
        have HWd := Lib.hid hWd
        have HB1 := Lib.hid (show Below n₀ W Wd by rw [← hWd, ← hW1]; exact (HB.out.alloc hsz _).drew)
        have HJd := Lib.hid (show J [] Wd by rw [← hWd, ← hW1]; exact hJa.drew (hJa.alloc (HJs.out : J [] wr)))
        have hFF := HF.out
        have hNN := HN.out
        subst hFF
        subst hNN
        clear hY hWd hW1 hc hJ hB hbs hbc c0 c1 c2 c3 c4 c5 c6
        refine wp_region_invC (fun D a w' => ∃ vs, a = ⟨frP l Bs Bc b off es.length cap 0 wr.heap.size (.agg #[.int .i64 x.k, .int .i64 x.ax, .int .i64 x.ay, .int .i64 x.bx, .int .i64 x.by', .int .i64 x.cx, .int .i64 x.cy]) u26 vs, []⟩ ∧ (∀ j, D j → vFZ j (vs j)) ∧ w' = Wd) mixed0 (by kernel_rfl) ?init ?step ?done
        case init => exact ⟨fun i => (#[u13, u14, u15, u16, u17, u18, u19, u20, u21, u22, u23, u24, u25] : Array Value).getD i undef, rfl, fun _ h => h.elim, HWd.out⟩
        case step =>
          rintro i o D a w' ho hnd he hC ⟨vs, rfl, hF, rfl⟩
          have hlt : i < 13 := (Array.getElem?_eq_some_iff.1 ho).1
          have hc : i = 0 ∨ i = 1 ∨ i = 2 ∨ i = 3 ∨ i = 4 ∨ i = 5 ∨ i = 6 ∨ i = 7 ∨ i = 8 ∨ i = 9 ∨ i = 10 ∨ i = 11 ∨ i = 12 := by omega
          rcases hc with rfl | rfl | rfl | rfl | rfl | rfl | rfl | rfl | rfl | rfl | rfl | rfl | rfl <;> (simp at ho; subst ho)
          · refine stepG_run rfl (run_mov (.tmp 4) rfl _ rfl) ⟨upd vs 0 _, rfl, fun j hj => ?_, rfl⟩
            rcases hj with rfl | hj
            · exact rfl
            · exact inv_old (hF j hj) hnd hj
          · refine stepG_run rfl (run_gt00 (.tmp 13) rfl (by exact (hF 0 (he ⟨0, .data⟩ (by simp) rfl)))) ⟨upd vs 1 _, rfl, fun j hj => ?_, rfl⟩
            rcases hj with rfl | hj
            · exact rfl
            · exact inv_old (hF j hj) hnd hj
          · refine stepG_run rfl (run_mov (.tmp 14) rfl _ (by exact (hF 1 (he ⟨1, .data⟩ (by simp) rfl)))) ⟨upd vs 2 _, rfl, fun j hj => ?_, rfl⟩
            rcases hj with rfl | hj
            · exact rfl
            · exact inv_old (hF j hj) hnd hj
          · refine stepG_skip (unwanted_slot rfl rfl (by exact congrArg some (hF 2 (he ⟨2, .guard⟩ (by simp) rfl)))) ⟨upd vs 3 undef, rfl, fun j hj => ?_, rfl⟩
            rcases hj with rfl | hj
            · exact trivial
            · exact inv_old (hF j hj) hnd hj
          · refine stepG_skip (unwanted_slot rfl rfl (by exact congrArg some (hF 2 (he ⟨2, .guard⟩ (by simp) rfl)))) ⟨upd vs 4 undef, rfl, fun j hj => ?_, rfl⟩
            rcases hj with rfl | hj
            · exact trivial
            · exact inv_old (hF j hj) hnd hj
          · refine stepG_skip (unwanted_slot rfl rfl (by exact congrArg some (hF 2 (he ⟨2, .guard⟩ (by simp) rfl)))) ⟨upd vs 5 undef, rfl, fun j hj => ?_, rfl⟩
            rcases hj with rfl | hj
            · exact trivial
            · exact inv_old (hF j hj) hnd hj
          · refine stepG_skip (unwanted_slot rfl rfl (by exact congrArg some (hF 2 (he ⟨2, .guard⟩ (by simp) rfl)))) ⟨upd vs 6 undef, rfl, fun j hj => ?_, rfl⟩
            rcases hj with rfl | hj
            · exact trivial
            · exact inv_old (hF j hj) hnd hj
          · refine stepG_skip (unwanted_slot rfl rfl (by exact congrArg some (hF 2 (he ⟨2, .guard⟩ (by simp) rfl)))) ⟨upd vs 7 undef, rfl, fun j hj => ?_, rfl⟩
            rcases hj with rfl | hj
            · exact trivial
            · exact inv_old (hF j hj) hnd hj
          · refine stepG_skip (unwanted_slot rfl rfl (by exact congrArg some (hF 2 (he ⟨2, .guard⟩ (by simp) rfl)))) ⟨upd vs 8 undef, rfl, fun j hj => ?_, rfl⟩
            rcases hj with rfl | hj
            · exact trivial
            · exact inv_old (hF j hj) hnd hj
          · refine stepG_skip (unwanted_slot rfl rfl (by exact congrArg some (hF 2 (he ⟨2, .guard⟩ (by simp) rfl)))) ⟨upd vs 9 undef, rfl, fun j hj => ?_, rfl⟩
            rcases hj with rfl | hj
            · exact trivial
            · exact inv_old (hF j hj) hnd hj
          · refine stepG_skip (unwanted_slot rfl rfl (by exact congrArg some (hF 2 (he ⟨2, .guard⟩ (by simp) rfl)))) ⟨upd vs 10 undef, rfl, fun j hj => ?_, rfl⟩
            rcases hj with rfl | hj
            · exact trivial
            · exact inv_old (hF j hj) hnd hj
          · refine stepG_skip (unwanted_slot rfl rfl (by exact congrArg some (hF 2 (he ⟨2, .guard⟩ (by simp) rfl)))) ⟨upd vs 11 undef, rfl, fun j hj => ?_, rfl⟩
            rcases hj with rfl | hj
            · exact trivial
            · exact inv_old (hF j hj) hnd hj
          · refine stepG_run rfl (run_pick_f 15 _ rfl (by exact (hF 2 (he ⟨2, .data⟩ (by simp) rfl)))) ⟨upd vs 12 _, rfl, fun j hj => ?_, rfl⟩
            rcases hj with rfl | hj
            · exact rfl
            · exact inv_old (hF j hj) hnd hj
        case done =>
          rintro D a w' hall ⟨vs, rfl, hF, rfl⟩
          have h12 : vs 12 = .bool false := hF 12 (hall 12 (by decide))
          have h0' : vs 0 = .int .i64 0 := hF 0 (hall 0 (by decide))
          unfold frP
          rw [h12]
          generalize vs 0 = z0, vs 1 = z1, vs 2 = z2, vs 3 = z3, vs 4 = z4, vs 5 = z5, vs 6 = z6, vs 7 = z7, vs 8 = z8, vs 9 = z9, vs 10 = z10, vs 11 = z11
          clear hF hall h12 h0'
          gi_wp2
          go_roundw
          case rel => exact ⟨1, by omega, rfl, HJd.out, HB1.out⟩
          case measure => simp [intOf]; omega
      · gi_wp2
        obtain ⟨m, hkm⟩ : ∃ m, k = m + 1 := ⟨k - 1, by omega⟩
        have HK := Lib.hid (show 0 < k by omega)
        have HM := Lib.hid (show IntKind.i64.wrap ((k : Int) - 1) = (m : Int) by rw [IntKind.wrap_i64]; omega)
        have HMN := Lib.hid (show m < es.length by omega)
        obtain ⟨W1, hW1⟩ : ∃ W1, wr.alloc (.cells #[.int .i64 x.k, .int .i64 x.ax, .int .i64 x.ay, .int .i64 x.bx, .int .i64 x.by', .int .i64 x.cx, .int .i64 x.cy] 41) = W1 := ⟨_, rfl⟩
        rw [hW1]
        obtain ⟨Wd, hWd⟩ : ∃ Wd, W1.drew = Wd := ⟨_, rfl⟩
        have HWd := Lib.hid hWd
        have hB1 : Below n₀ W Wd := by rw [← hWd, ← hW1]; exact (hB.alloc hsz _).drew
        have CS := Lib.hid ((hB1.cell (p := ⟨Bs, 0, none⟩) hBs).trans hcs)
        have EM := Lib.hid ((hc.below hB1 hb) m HMN.out)
        have EK := Lib.hid (show cellsAt Wd wr.heap.size 0 x from by rw [← hWd, ← hW1]; exact cellsAt_new _ _)
        have hJd : J (prU es k) Wd := by rw [← hWd, ← hW1]; exact hJa.drew (hJa.alloc hJs)
        have hy := hY _ (es[m]!, x) Wd hJd (by rw [prU_length]; omega)
        have HR := Lib.hid hy
        obtain ⟨Out, hOut⟩ : ∃ Out : Bool → World → Prop, Out = fun q W' => (q = true ∧ J (prU es k ++ [(es[m]!, x)]) W' ∧ Below n₀ Wd W') ∨ (q = false ∧ Jx (prU es k ++ [(es[m]!, x)]) W') := ⟨_, rfl⟩
        have hq3 : ∀ (e : Ending) (w3 : World), ((e = .returned (.bool true) ∧ J (prU es k ++ [(es[m]!, x)]) w3 ∧ Below n₀ Wd w3) ∨ (e = .returned (.bool false) ∧ Jx (prU es k ++ [(es[m]!, x)]) w3)) → ∃ q, e = .returned (.bool q) ∧ Out q w3 := by
          rintro e w3 (⟨rfl, h1, h2⟩ | ⟨rfl, h1⟩)
          · exact ⟨true, rfl, by rw [hOut]; exact .inl ⟨rfl, h1, h2⟩⟩
          · exact ⟨false, rfl, by rw [hOut]; exact .inr ⟨rfl, h1⟩⟩
        have hFF := HF.out
        have hNN := HN.out
        subst hFF
        subst hNN
        have HOut := Lib.hid hOut
        clear hOut hy hY hWd hW1 hc hJ hB hbs hbc c0 c1 c2 c3 c4 c5 c6
        refine wp_region_invC (fun D a w' => ∃ vs, a = ⟨frP l Bs Bc b off es.length cap k wr.heap.size (.agg #[.int .i64 x.k, .int .i64 x.ax, .int .i64 x.ay, .int .i64 x.bx, .int .i64 x.by', .int .i64 x.cx, .int .i64 x.cy]) u26 vs, []⟩ ∧ (∀ j, D j → vFP l b off es.length cap k m es x j (vs j)) ∧ ((¬ D 10 ∧ ¬ D 11 ∧ ¬ D 12 ∧ w' = Wd) ∨ (D 10 ∧ ∃ q, vs 10 = .bool q ∧ Out q w' ∧ (D 11 → vs 11 = .bool (!q)) ∧ (D 12 → vs 12 = .bool (!q))))) mixed0 (by kernel_rfl) ?init ?step ?done
        case init => exact ⟨fun i => (#[u13, u14, u15, u16, u17, u18, u19, u20, u21, u22, u23, u24, u25] : Array Value).getD i undef, rfl, fun _ h => h.elim, .inl ⟨id, id, id, HWd.out⟩⟩
        case step =>
          rintro i o D a w' ho hnd he hC ⟨vs, rfl, hF, hdis⟩
          have hlt : i < 13 := (Array.getElem?_eq_some_iff.1 ho).1
          have hcl : D 10 → ∀ j, j < 10 → D j := by
            intro h j hj
            have hc : j = 0 ∨ j = 1 ∨ j = 2 ∨ j = 3 ∨ j = 4 ∨ j = 5 ∨ j = 6 ∨ j = 7 ∨ j = 8 ∨ j = 9 := by omega
            rcases hc with rfl | rfl | rfl | rfl | rfl | rfl | rfl | rfl | rfl | rfl <;> exact closed_reach hC 12 10 _ (by kernel_rfl) h
          have hc : i = 0 ∨ i = 1 ∨ i = 2 ∨ i = 3 ∨ i = 4 ∨ i = 5 ∨ i = 6 ∨ i = 7 ∨ i = 8 ∨ i = 9 ∨ i = 10 ∨ i = 11 ∨ i = 12 := by omega
          rcases hc with rfl | rfl | rfl | rfl | rfl | rfl | rfl | rfl | rfl | rfl | rfl | rfl | rfl <;> (simp at ho; subst ho)
          · rcases hdis with ⟨g0, g1, g2, rfl⟩ | ⟨g, q, hq⟩
            · refine stepG_run rfl (run_mov (.tmp 4) rfl _ rfl) ⟨upd vs 0 _, rfl, fun j hj => ?_, .inl ⟨fun h => h.elim (by decide) g0, fun h => h.elim (by decide) g1, fun h => h.elim (by decide) g2, rfl⟩⟩
              rcases hj with rfl | hj
              · exact rfl
              · exact inv_old (hF j hj) hnd hj
            · exact (hnd (hcl g 0 (by decide))).elim
          · rcases hdis with ⟨g0, g1, g2, rfl⟩ | ⟨g, q, hq⟩
            · refine stepG_run rfl (run_gt0' (.tmp 13) rfl k (by exact (hF 0 (he ⟨0, .data⟩ (by simp) rfl))) HK.out) ⟨upd vs 1 _, rfl, fun j hj => ?_, .inl ⟨fun h => h.elim (by decide) g0, fun h => h.elim (by decide) g1, fun h => h.elim (by decide) g2, rfl⟩⟩
              rcases hj with rfl | hj
              · exact rfl
              · exact inv_old (hF j hj) hnd hj
            · exact (hnd (hcl g 1 (by decide))).elim
          · rcases hdis with ⟨g0, g1, g2, rfl⟩ | ⟨g, q, hq⟩
            · refine stepG_run rfl (run_mov (.tmp 14) rfl _ (by exact (hF 1 (he ⟨1, .data⟩ (by simp) rfl)))) ⟨upd vs 2 _, rfl, fun j hj => ?_, .inl ⟨fun h => h.elim (by decide) g0, fun h => h.elim (by decide) g1, fun h => h.elim (by decide) g2, rfl⟩⟩
              rcases hj with rfl | hj
              · exact rfl
              · exact inv_old (hF j hj) hnd hj
            · exact (hnd (hcl g 2 (by decide))).elim
          · rcases hdis with ⟨g0, g1, g2, rfl⟩ | ⟨g, q, hq⟩
            · refine stepG_run (wanted_slot rfl rfl (by exact congrArg some (hF 2 (he ⟨2, .guard⟩ (by simp) rfl)))) (run_mov (.tmp 0) rfl _ rfl) ⟨upd vs 3 _, rfl, fun j hj => ?_, .inl ⟨fun h => h.elim (by decide) g0, fun h => h.elim (by decide) g1, fun h => h.elim (by decide) g2, rfl⟩⟩
              rcases hj with rfl | hj
              · exact rfl
              · exact inv_old (hF j hj) hnd hj
            · exact (hnd (hcl g 3 (by decide))).elim
          · rcases hdis with ⟨g0, g1, g2, rfl⟩ | ⟨g, q, hq⟩
            · refine stepG_run (wanted_slot rfl rfl (by exact congrArg some (hF 2 (he ⟨2, .guard⟩ (by simp) rfl)))) (run_lds (.tmp 1) rfl _ rfl _ CS.out) ⟨upd vs 4 _, rfl, fun j hj => ?_, .inl ⟨fun h => h.elim (by decide) g0, fun h => h.elim (by decide) g1, fun h => h.elim (by decide) g2, rfl⟩⟩
              rcases hj with rfl | hj
              · exact rfl
              · exact inv_old (hF j hj) hnd hj
            · exact (hnd (hcl g 4 (by decide))).elim
          · rcases hdis with ⟨g0, g1, g2, rfl⟩ | ⟨g, q, hq⟩
            · refine stepG_run (wanted_slot rfl rfl (by exact congrArg some (hF 2 (he ⟨2, .guard⟩ (by simp) rfl)))) (run_mov (.tmp 4) rfl _ rfl) ⟨upd vs 5 _, rfl, fun j hj => ?_, .inl ⟨fun h => h.elim (by decide) g0, fun h => h.elim (by decide) g1, fun h => h.elim (by decide) g2, rfl⟩⟩
              rcases hj with rfl | hj
              · exact rfl
              · exact inv_old (hF j hj) hnd hj
            · exact (hnd (hcl g 5 (by decide))).elim
          · rcases hdis with ⟨g0, g1, g2, rfl⟩ | ⟨g, q, hq⟩
            · refine stepG_run (wanted_slot rfl rfl (by exact congrArg some (hF 2 (he ⟨2, .guard⟩ (by simp) rfl)))) (run_sub1 (.tmp 18) rfl rfl _ _ (by exact (hF 5 (he ⟨5, .data⟩ (by simp) rfl))) HM.out) ⟨upd vs 6 _, rfl, fun j hj => ?_, .inl ⟨fun h => h.elim (by decide) g0, fun h => h.elim (by decide) g1, fun h => h.elim (by decide) g2, rfl⟩⟩
              rcases hj with rfl | hj
              · exact rfl
              · exact inv_old (hF j hj) hnd hj
            · exact (hnd (hcl g 6 (by decide))).elim
          · rcases hdis with ⟨g0, g1, g2, rfl⟩ | ⟨g, q, hq⟩
            · refine stepG_run (wanted_slot rfl rfl (by exact congrArg some (hF 2 (he ⟨2, .guard⟩ (by simp) rfl)))) (run_ixs (.tmp 17) (.tmp 19) rfl _ _ _ _ m (by exact (hF 4 (he ⟨4, .data⟩ (by simp) rfl))) (by exact (hF 6 (he ⟨6, .data⟩ (by simp) rfl))) HMN.out) ⟨upd vs 7 _, rfl, fun j hj => ?_, .inl ⟨fun h => h.elim (by decide) g0, fun h => h.elim (by decide) g1, fun h => h.elim (by decide) g2, rfl⟩⟩
              rcases hj with rfl | hj
              · exact rfl
              · exact inv_old (hF j hj) hnd hj
            · exact (hnd (hcl g 7 (by decide))).elim
          · rcases hdis with ⟨g0, g1, g2, rfl⟩ | ⟨g, q, hq⟩
            · refine stepG_run (wanted_slot rfl rfl (by exact congrArg some (hF 2 (he ⟨2, .guard⟩ (by simp) rfl)))) (run_lde (.tmp 20) rfl _ _ (by exact (hF 7 (he ⟨7, .data⟩ (by simp) rfl))) _ EM.out) ⟨upd vs 8 _, rfl, fun j hj => ?_, .inl ⟨fun h => h.elim (by decide) g0, fun h => h.elim (by decide) g1, fun h => h.elim (by decide) g2, rfl⟩⟩
              rcases hj with rfl | hj
              · exact rfl
              · exact inv_old (hF j hj) hnd hj
            · exact (hnd (hcl g 8 (by decide))).elim
          · rcases hdis with ⟨g0, g1, g2, rfl⟩ | ⟨g, q, hq⟩
            · refine stepG_run (wanted_slot rfl rfl (by exact congrArg some (hF 2 (he ⟨2, .guard⟩ (by simp) rfl)))) (run_lde (.tmp 5) rfl _ _ rfl _ EK.out) ⟨upd vs 9 _, rfl, fun j hj => ?_, .inl ⟨fun h => h.elim (by decide) g0, fun h => h.elim (by decide) g1, fun h => h.elim (by decide) g2, rfl⟩⟩
              rcases hj with rfl | hj
              · exact rfl
              · exact inv_old (hF j hj) hnd hj
            · exact (hnd (hcl g 9 (by decide))).elim
          · rcases hdis with ⟨g0, g1, g2, rfl⟩ | ⟨g, q, hq⟩
            · refine stepG_yield (wanted_slot rfl rfl (by exact congrArg some (hF 2 (he ⟨2, .guard⟩ (by simp) rfl)))) (run_yield 16 21 22 rfl l (by exact (hF 3 (he ⟨3, .data⟩ (by simp) rfl))) _ _ (by exact (hF 8 (he ⟨8, .data⟩ (by simp) rfl))) (by exact (hF 9 (he ⟨9, .data⟩ (by simp) rfl)))) HR.out ?_
              intro e w3 h3
              obtain ⟨q, rfl, h5⟩ := hq3 e w3 h3
              refine ⟨_, rfl, upd vs 10 _, rfl, fun j hj => ?_, .inr ⟨.inl rfl, q, rfl, h5, fun h => (h.elim (by decide) g1).elim, fun h => (h.elim (by decide) g2).elim⟩⟩
              rcases hj with rfl | hj
              · exact trivial
              · exact inv_old (hF j hj) hnd hj
            · exact (hnd g).elim
          · rcases hdis with ⟨g0, g1, g2, rfl⟩ | ⟨g, q, hq, ho3, t0, t1⟩
            · exact absurd (he ⟨10, .data⟩ (by simp) rfl) g0
            · refine stepG_run (wanted_slot rfl rfl (by exact congrArg some (hF 2 (he ⟨2, .guard⟩ (by simp) rfl)))) (run_not (.tmp 23) rfl _ (by exact hq)) ⟨upd vs 11 _, rfl, fun j hj => ?_, .inr ⟨.inr g, q, by rw [upd_ne (by decide)]; exact hq, ho3, fun _ => rfl, fun h => by rw [upd_ne (by decide)]; exact t1 (h.resolve_left (by decide))⟩⟩
              rcases hj with rfl | hj
              · exact trivial
              · exact inv_old (hF j hj) hnd hj
          · rcases hdis with ⟨g0, g1, g2, rfl⟩ | ⟨g, q, hq, ho3, t0, t1⟩
            · exact absurd (he ⟨11, .data⟩ (by simp) rfl) g1
            · refine stepG_run rfl (run_pick_t 15 24 _ rfl (by exact (hF 2 (he ⟨2, .data⟩ (by simp) rfl))) _ (by exact t0 (he ⟨11, .data⟩ (by simp) rfl))) ⟨upd vs 12 _, rfl, fun j hj => ?_, .inr ⟨.inr g, q, by rw [upd_ne (by decide)]; exact hq, ho3, fun h => by rw [upd_ne (by decide)]; exact t0 (h.resolve_left (by decide)), fun _ => rfl⟩⟩
              rcases hj with rfl | hj
              · exact trivial
              · exact inv_old (hF j hj) hnd hj
        case done =>
          rintro D a w' hall ⟨vs, rfl, hF, ⟨g0, -⟩ | ⟨-, q, hq, ho3, -, h12⟩⟩
          · exact absurd (hall 10 (by decide)) g0
          · have h12 := h12 (hall 12 (by decide))
            have HB1 := Lib.hid hB1
            unfold frP
            rw [h12]
            generalize vs 0 = z0, vs 1 = z1, vs 2 = z2, vs 3 = z3, vs 4 = z4, vs 5 = z5, vs 6 = z6, vs 7 = z7, vs 8 = z8, vs 9 = z9, vs 10 = z10, vs 11 = z11
            clear hF hall h12 hB1
            rw [HOut.out] at ho3
            rcases ho3 with ⟨rfl, h5, h6⟩ | ⟨rfl, h5⟩
            · gi_wp2
              go_roundw
              case rel => exact ⟨k + 1, by have := HLT.out; omega, by go_num, by rw [prU_succ es HK.out, show k - 1 = m by omega, HX.out]; exact h5, HB1.out.trans h6⟩
              case measure => simp [intOf]; have := HLT.out; omega
            · gi_wp2
              refine bodyPost_ret (results_none rfl _ _ _) rfl ?_
              exact ⟨⟨_, rfl⟩, .inr ⟨_, by have h := prAll_prefix es closed (show k + 1 ≤ es.length from HLT.out); rw [prU_succ es HK.out, show k - 1 = m by omega, HX.out] at h; exact h, h5⟩⟩
    · obtain rfl : k = es.length := by omega
      cases closed with
      | false =>
        gi_wp2
        go_end0
        exact ⟨⟨_, rfl⟩, .inl (by simpa [prAll] using hJs)⟩
      | true =>
        have HJs := Lib.hid hJs
        have HB := Lib.hid hB
        have e0 : IntKind.i64.wrap ((es.length : Int) - 1) = ((es.length - 1 : Nat) : Int) := by rw [IntKind.wrap_i64]; omega
        gi_wp2
        obtain ⟨m, hkm⟩ : ∃ m, es.length = m + 1 := ⟨es.length - 1, by omega⟩
        have HK := Lib.hid h0
        have HM := Lib.hid (show IntKind.i64.wrap ((es.length : Int) - 1) = (m : Int) by rw [IntKind.wrap_i64]; omega)
        have HMN := Lib.hid (show m < es.length by omega)
        obtain ⟨Wd, hWd⟩ : ∃ Wd, wr.drew = Wd := ⟨_, rfl⟩
        have HWd := Lib.hid hWd
        have hB1 : Below n₀ W Wd := by rw [← hWd]; exact HB.out.drew
        have CS := Lib.hid ((hB1.cell (p := ⟨Bs, 0, none⟩) hBs).trans hcs)
        have EM := Lib.hid ((hc.below hB1 hb) m HMN.out)
        have hek := (hc.below hB1 hb) 0 h0
        obtain ⟨x, hx⟩ : ∃ x, es[0]! = x := ⟨_, rfl⟩
        rw [hx, Nat.zero_mul, Nat.add_zero] at hek
        have HX := Lib.hid hx
        have EK := Lib.hid hek
        have hJd : J (prU es es.length) Wd := by rw [← hWd]; exact hJa.drew HJs.out
        have hy := hY _ (es[m]!, x) Wd hJd (by rw [prU_length]; omega)
        have HR := Lib.hid hy
        obtain ⟨Out, hOut⟩ : ∃ Out : Bool → World → Prop, Out = fun q W' => (q = true ∧ J (prU es es.length ++ [(es[m]!, x)]) W' ∧ Below n₀ Wd W') ∨ (q = false ∧ Jx (prU es es.length ++ [(es[m]!, x)]) W') := ⟨_, rfl⟩
        have hq3 : ∀ (e : Ending) (w3 : World), ((e = .returned (.bool true) ∧ J (prU es es.length ++ [(es[m]!, x)]) w3 ∧ Below n₀ Wd w3) ∨ (e = .returned (.bool false) ∧ Jx (prU es es.length ++ [(es[m]!, x)]) w3)) → ∃ q, e = .returned (.bool q) ∧ Out q w3 := by
          rintro e w3 (⟨rfl, h1, h2⟩ | ⟨rfl, h1⟩)
          · exact ⟨true, rfl, by rw [hOut]; exact .inl ⟨rfl, h1, h2⟩⟩
          · exact ⟨false, rfl, by rw [hOut]; exact .inr ⟨rfl, h1⟩⟩
        have hFF := HF.out
        have hNN := HN.out
        subst hFF
        subst hNN
        have HOut := Lib.hid hOut
        have HP := Lib.hid (show prAll es true = prU es es.length ++ [(es[m]!, x)] by unfold prAll; rw [if_pos ⟨rfl, h0⟩, hkm, Nat.add_sub_cancel, hx])
        clear hOut hy hY hWd hc hJ hbs hbc hek hx e0 h0 hB1 hJd
        refine wp_region_invC (fun D a w' => ∃ vs, a = ⟨frL l Bs Bc b off es.length cap u4 u5 u10 u11 u12 u13 u14 u15 u16 u17 u18 u19 u20 u21 u22 u23 u24 u25 u26 vs, []⟩ ∧ (∀ j, D j → vFL l b off es.length cap 0 m es x j (vs j)) ∧ ((¬ D 10 ∧ w' = Wd) ∨ (D 10 ∧ ∃ q, vs 10 = .bool q ∧ Out q w'))) mixed0 (by kernel_rfl) ?init ?step ?done
        case init => exact ⟨fun i => undef, rfl, fun _ h => h.elim, .inl ⟨id, HWd.out⟩⟩
        case step =>
          rintro i o D a w' ho hnd he hC ⟨vs, rfl, hF, hdis⟩
          have hlt : i < 11 := (Array.getElem?_eq_some_iff.1 ho).1
          have hcl : D 10 → ∀ j, j < 10 → D j := by
            intro h j hj
            have hc : j = 0 ∨ j = 1 ∨ j = 2 ∨ j = 3 ∨ j = 4 ∨ j = 5 ∨ j = 6 ∨ j = 7 ∨ j = 8 ∨ j = 9 := by omega
            rcases hc with rfl | rfl | rfl | rfl | rfl | rfl | rfl | rfl | rfl | rfl <;> exact closed_reach hC 12 10 _ (by kernel_rfl) h
          have hc : i = 0 ∨ i = 1 ∨ i = 2 ∨ i = 3 ∨ i = 4 ∨ i = 5 ∨ i = 6 ∨ i = 7 ∨ i = 8 ∨ i = 9 ∨ i = 10 := by omega
          rcases hc with rfl | rfl | rfl | rfl | rfl | rfl | rfl | rfl | rfl | rfl | rfl <;> (simp at ho; subst ho)
          · rcases hdis with ⟨g0, rfl⟩ | ⟨g, q, hq⟩
            · refine stepG_run rfl (run_mov (.tmp 0) rfl _ rfl) ⟨upd vs 0 _, rfl, fun j hj => ?_, .inl ⟨fun h => h.elim (by decide) g0, rfl⟩⟩
              rcases hj with rfl | hj
              · exact rfl
              · exact inv_old (hF j hj) hnd hj
            · exact (hnd (hcl g 0 (by decide))).elim
          · rcases hdis with ⟨g0, rfl⟩ | ⟨g, q, hq⟩
            · refine stepG_run rfl (run_lds (.tmp 1) rfl _ rfl _ CS.out) ⟨upd vs 1 _, rfl, fun j hj => ?_, .inl ⟨fun h => h.elim (by decide) g0, rfl⟩⟩
              rcases hj with rfl | hj
              · exact rfl
              · exact inv_old (hF j hj) hnd hj
            · exact (hnd (hcl g 1 (by decide))).elim
          · rcases hdis with ⟨g0, rfl⟩ | ⟨g, q, hq⟩
            · refine stepG_run rfl (run_lds (.tmp 1) rfl _ rfl _ CS.out) ⟨upd vs 2 _, rfl, fun j hj => ?_, .inl ⟨fun h => h.elim (by decide) g0, rfl⟩⟩
              rcases hj with rfl | hj
              · exact rfl
              · exact inv_old (hF j hj) hnd hj
            · exact (hnd (hcl g 2 (by decide))).elim
          · rcases hdis with ⟨g0, rfl⟩ | ⟨g, q, hq⟩
            · refine stepG_run rfl (run_len 35 rfl _ _ _ (by exact (hF 2 (he ⟨2, .data⟩ (by simp) rfl)))) ⟨upd vs 3 _, rfl, fun j hj => ?_, .inl ⟨fun h => h.elim (by decide) g0, rfl⟩⟩
              rcases hj with rfl | hj
              · exact rfl
              · exact inv_old (hF j hj) hnd hj
            · exact (hnd (hcl g 3 (by decide))).elim
          · rcases hdis with ⟨g0, rfl⟩ | ⟨g, q, hq⟩
            · refine stepG_run rfl (run_sub1 (.tmp 36) rfl rfl _ _ (by exact (hF 3 (he ⟨3, .data⟩ (by simp) rfl))) HM.out) ⟨upd vs 4 _, rfl, fun j hj => ?_, .inl ⟨fun h => h.elim (by decide) g0, rfl⟩⟩
              rcases hj with rfl | hj
              · exact rfl
              · exact inv_old (hF j hj) hnd hj
            · exact (hnd (hcl g 4 (by decide))).elim
          · rcases hdis with ⟨g0, rfl⟩ | ⟨g, q, hq⟩
            · refine stepG_run rfl (run_ixs (.tmp 34) (.tmp 37) rfl _ _ _ _ m (by exact (hF 1 (he ⟨1, .data⟩ (by simp) rfl))) (by exact (hF 4 (he ⟨4, .data⟩ (by simp) rfl))) HMN.out) ⟨upd vs 5 _, rfl, fun j hj => ?_, .inl ⟨fun h => h.elim (by decide) g0, rfl⟩⟩
              rcases hj with rfl | hj
              · exact rfl
              · exact inv_old (hF j hj) hnd hj
            · exact (hnd (hcl g 5 (by decide))).elim
          · rcases hdis with ⟨g0, rfl⟩ | ⟨g, q, hq⟩
            · refine stepG_run rfl (run_lde (.tmp 38) rfl _ _ (by exact (hF 5 (he ⟨5, .data⟩ (by simp) rfl))) _ EM.out) ⟨upd vs 6 _, rfl, fun j hj => ?_, .inl ⟨fun h => h.elim (by decide) g0, rfl⟩⟩
              rcases hj with rfl | hj
              · exact rfl
              · exact inv_old (hF j hj) hnd hj
            · exact (hnd (hcl g 6 (by decide))).elim
          · rcases hdis with ⟨g0, rfl⟩ | ⟨g, q, hq⟩
            · refine stepG_run rfl (run_lds (.tmp 1) rfl _ rfl _ CS.out) ⟨upd vs 7 _, rfl, fun j hj => ?_, .inl ⟨fun h => h.elim (by decide) g0, rfl⟩⟩
              rcases hj with rfl | hj
              · exact rfl
              · exact inv_old (hF j hj) hnd hj
            · exact (hnd (hcl g 7 (by decide))).elim
          · rcases hdis with ⟨g0, rfl⟩ | ⟨g, q, hq⟩
            · refine stepG_run rfl (run_ixs0 (.tmp 40) rfl _ _ _ _ (by exact (hF 7 (he ⟨7, .data⟩ (by simp) rfl))) HK.out) ⟨upd vs 8 _, rfl, fun j hj => ?_, .inl ⟨fun h => h.elim (by decide) g0, rfl⟩⟩
              rcases hj with rfl | hj
              · exact rfl
              · exact inv_old (hF j hj) hnd hj
            · exact (hnd (hcl g 8 (by decide))).elim
          · rcases hdis with ⟨g0, rfl⟩ | ⟨g, q, hq⟩
            · refine stepG_run rfl (run_lde (.tmp 41) rfl _ _ (by exact (hF 8 (he ⟨8, .data⟩ (by simp) rfl))) _ EK.out) ⟨upd vs 9 _, rfl, fun j hj => ?_, .inl ⟨fun h => h.elim (by decide) g0, rfl⟩⟩
              rcases hj with rfl | hj
              · exact rfl
              · exact inv_old (hF j hj) hnd hj
            · exact (hnd (hcl g 9 (by decide))).elim
          · rcases hdis with ⟨g0, rfl⟩ | ⟨g, q, hq⟩
            · refine stepG_yield rfl (run_yield 33 39 42 rfl l (by exact (hF 0 (he ⟨0, .data⟩ (by simp) rfl))) _ _ (by exact (hF 6 (he ⟨6, .data⟩ (by simp) rfl))) (by exact (hF 9 (he ⟨9, .data⟩ (by simp) rfl)))) HR.out ?_
              intro e w3 h3
              obtain ⟨q, rfl, h5⟩ := hq3 e w3 h3
              refine ⟨_, rfl, upd vs 10 _, rfl, fun j hj => ?_, .inr ⟨.inl rfl, q, rfl, h5⟩⟩
              rcases hj with rfl | hj
              · exact trivial
              · exact inv_old (hF j hj) hnd hj
            · exact (hnd g).elim
        case done =>
          rintro D a w' hall ⟨vs, rfl, hF, ⟨g0, -⟩ | ⟨-, q, hq, ho3⟩⟩
          · exact absurd (hall 10 (by decide)) g0
          · rw [HOut.out] at ho3
            go_end0
            refine ⟨⟨_, rfl⟩, ?_⟩
            rw [HP.out]
            rcases ho3 with ⟨rfl, h5, h6⟩ | ⟨rfl, h5⟩
            · exact .inl h5
            · exact .inr ⟨_, List.prefix_refl _, h5⟩
end Go.Proofs.Ytliimpbbppbghaa

