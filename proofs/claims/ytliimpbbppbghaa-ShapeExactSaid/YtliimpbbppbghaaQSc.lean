import Derived.Test.YtliimpbbppbghaaQSb
set_option linter.all false
namespace Go.Proofs.Ytliimpbbppbghaa
open Go Go.RowKit Go.Shelf Sx
attribute [local go_sem] Oper.semAt_some
set_option maxRecDepth 100000 in
set_option maxHeartbeats 1000000 in
theorem pairs0_in (F : Fence) (n : Nat) (hf : F.fn 72) (hro : F.round = none) (l Bs Bc cap : Nat) (p : Option Addr) (closed : Bool) (J : List (E7 × E7) → World → Prop) (W : World)
    (hcs : W.cell? ⟨Bs, 0, none⟩ = some (.slice p 0 cap)) (hcc : W.cell? ⟨Bc, 0, none⟩ = some (.bool closed)) (h0 : J [] W) :
    CallsIn F n Try.prog 72 #[.func (.yield l) #[] #[], .pointer (some ⟨Bs, 0, none⟩), .pointer (some ⟨Bc, 0, none⟩)] W fun e W' => (∃ v, e = .returned v) ∧ J [] W' := by
  refine callsIn_of_wp Try.func72 rfl hf ?_ hro
  simp only [Try.ntmps72, List.size_toArray, List.length_cons, List.length_nil, Nat.reduceAdd, Nat.reduceSub, Array.replicate_succ, Array.replicate_zero, List.push_toArray, List.append_toArray, List.nil_append, List.cons_append]
  gi_wp2
  gi_loopw [8] (fun i wr => i = .int .i64 0 ∧ J [] wr ∧ wr.cell? ⟨Bs, 0, none⟩ = some (.slice p 0 cap) ∧ wr.cell? ⟨Bc, 0, none⟩ = some (.bool closed)) (fun _ _ => 0)
  case atStart => exact ⟨rfl, h0, hcs, hcc⟩
  case round =>
    obtain ⟨rfl, hJs, h1, h2⟩ := hrel
    cases closed with
    | false =>
      gi_wp2
      go_end0
      exact ⟨⟨_, rfl⟩, hJs⟩
    | true =>
      gi_wp2
      go_end0
      exact ⟨⟨_, rfl⟩, hJs⟩
set_option maxHeartbeats 1000000 in
theorem pairs_in (F : Fence) (n : Nat) (hf : F.fn 58) (hro : F.round = none) (a : Option Addr) (len cap : Nat) (closed : Bool) (w : World) :
    CallsIn F n Try.prog 58 #[.slice a len cap, .bool closed] w fun e w' => e = .returned (.func (.func 72) #[] #[.pointer (some ⟨w.heap.size, 0, none⟩), .pointer (some ⟨w.heap.size + 1, 0, none⟩)]) ∧
      w' = (w.alloc (.cells #[.slice a len cap] 28)).alloc (.cells #[.bool closed] 4) := by
  refine callsIn_of_wp Try.func58 rfl hf ?_ hro
  simp only [Try.ntmps58, List.size_toArray, List.length_cons, List.length_nil, Nat.reduceAdd, Nat.reduceSub, Array.replicate_succ, Array.replicate_zero, List.push_toArray, List.append_toArray, List.nil_append, List.cons_append]
  gi_wp2
  go_ret
  exact ⟨rfl, rfl⟩
theorem pairs_stops (Bs Bc n₀ : Nat) (sv : Value) (es : List E7) (closed : Bool) (w : World) (hBs : Bs < n₀) (hBc : Bc < n₀) (hn₀ : n₀ ≤ w.heap.size)
    (hcs : w.cell? ⟨Bs, 0, none⟩ = some sv) (hcc : w.cell? ⟨Bc, 0, none⟩ = some (.bool closed)) (hI : SlE n₀ w sv es) :
    SeqStopsK (RF none) 0 Try.prog 72 #[.pointer (some ⟨Bs, 0, none⟩), .pointer (some ⟨Bc, 0, none⟩)] (fun x : E7 × E7 => #[x.1.val, x.2.val]) (Below n₀) (fun ys => ys = prAll es closed) (fun pre => pre <+: prAll es closed) es.length w := fun l J Jx W hW hJa hJx hY h0 => by
  have hc1 := ((hW.mono hn₀).cell (p := ⟨Bs, 0, none⟩) hBs).trans hcs
  have hc2 := ((hW.mono hn₀).cell (p := ⟨Bc, 0, none⟩) hBc).trans hcc
  obtain ⟨p, cap, rfl, hlen, hc⟩ := hI
  rcases Nat.eq_zero_or_pos es.length with he | he
  · obtain rfl : es = [] := List.length_eq_zero_iff.1 he
    refine (pairs0_in (RF none) 0 trivial rfl l Bs Bc cap p closed J W hc1 hc2 h0).mono fun e W' ⟨he, hj⟩ => ⟨he, .inl ⟨_, rfl, ?_⟩⟩
    simpa [prAll, prU] using hj
  · obtain ⟨b, off, rfl, hb, hed⟩ := hc he
    have hsz : n₀ ≤ W.heap.size := Nat.le_trans hn₀ hW.size
    refine (pairs1_in (RF none) 0 rfl rfl l Bs Bc n₀ b off cap es closed he hlen hb hBs hBc J Jx _ hJa hY W hsz hc1 hc2 (hed.below (hW.mono hn₀) hb) h0).mono ?_
    rintro e W' ⟨h1, h2 | h2⟩
    · exact ⟨h1, .inl ⟨_, rfl, h2⟩⟩
    · exact ⟨h1, .inr h2⟩
def meets (x : E7 × E7) : Prop := x.2.ax = x.1.bx ∧ x.2.ay = x.1.by'
instance (x : E7 × E7) : Decidable (meets x) := by unfold meets; exact inferInstance
def allM (l : List (E7 × E7)) : Prop := ∀ x ∈ l, meets x
def someN (l : List (E7 × E7)) : Prop := ∃ x ∈ l, ¬ meets x
def cellsE (x : E7) : Array Value := #[.int .i64 x.k, .int .i64 x.ax, .int .i64 x.ay, .int .i64 x.bx, .int .i64 x.by', .int .i64 x.cx, .int .i64 x.cy]
def BoxE (W : World) (B : Nat) (x : E7) : Prop := W.heap[B]? = some (.cells (cellsE x) 41 (0, 0))
theorem BoxE.kept {W W' : World} {B : Nat} {x : E7} {row : Option Nat} (h : BoxE W B x) (hg : W.grownBy W' row) (hne : some B ≠ row) : BoxE W' B x := (hg.block B (Array.getElem?_eq_some_iff.1 h).1 hne).trans h
theorem boxE_own {β : Type} (B : Nat) (x : E7) : Own (fun (_ : β) W => BoxE W B x) := fun s X Y row hs hg hrow => hs.kept hg (fun e => by
  obtain ⟨o, ho, hc⟩ := hrow B e.symm
  rw [show X.heap[B]? = _ from hs] at ho
  cases ho
  cases hc)
set_option maxRecDepth 100000 in
set_option maxHeartbeats 4000000 in
theorem isChain_in (F : Fence) (n : Nat) (hF : F = RF none) (hn : n = 1) (a : Option Addr) (len cap : Nat) (closed : Bool) (es : List E7) (w : World) (hL : SlE w.heap.size w (.slice a len cap) es) :
    CallsIn F n Try.prog 38 #[.slice a len cap, .bool closed] w fun e W' => e = .returned (.bool (decide (∀ x ∈ prAll es closed, meets x))) ∧ Below w.heap.size w W' := by
  have hf : ∀ k, F.fn k := fun k => by rw [hF]; trivial
  have hro : F.round = none := by rw [hF]; rfl
  have h1 : 1 ≤ n := by omega
  have HF := Lib.hid hF
  have HN := Lib.hid hn
  clear hF hn
  refine callsIn_of_wp_marks Try.func38 rfl (hf _) ?_ hro
  simp only [Try.ntmps38, List.size_toArray, List.length_cons, List.length_nil, Nat.reduceAdd, Nat.reduceSub, Array.replicate_succ, Array.replicate_zero, List.push_toArray, List.append_toArray, List.nil_append, List.cons_append]
  gi_wp2_with (gi_at_call 58; refine (pairs_in F (n - 1) (hf _) hro _ _ _ _ _).mono ?_; rintro e w' ⟨rfl, rfl⟩)
  have bR := ((Boxed.new w 4 (.bool false)).alloc (.cells #[.slice a len cap] 28)).alloc (.cells #[.bool closed] 4)
  have bS := (Boxed.new (w.alloc (.cells #[.bool false] 4)) 28 (.slice a len cap)).alloc (.cells #[.bool closed] 4)
  have bC := Boxed.new ((w.alloc (.cells #[.bool false] 4)).alloc (.cells #[.slice a len cap] 28)) 4 (.bool closed)
  simp only [World.size_alloc] at bS bC
  have hB0 : Below w.heap.size w (((w.alloc (.cells #[.bool false] 4)).alloc (.cells #[.slice a len cap] 28)).alloc (.cells #[.bool closed] 4)) := (((Below.refl _ w).alloc (Nat.le_refl _) _).alloc (by simp) _).alloc (by simp; omega) _
  have hsz : (((w.alloc (.cells #[.bool false] 4)).alloc (.cells #[.slice a len cap] 28)).alloc (.cells #[.bool closed] 4)).heap.size = w.heap.size + 3 := by simp
  obtain ⟨W0, hW0⟩ : ∃ W0, ((w.alloc (.cells #[.bool false] 4)).alloc (.cells #[.slice a len cap] 28)).alloc (.cells #[.bool closed] 4) = W0 := ⟨_, rfl⟩
  rw [hW0] at bR bS bC hB0 hsz ⊢
  clear hW0
  have hst : SeqStopsK F (n - 1) Try.prog 72 #[.pointer (some ⟨w.heap.size + 1, 0, none⟩), .pointer (some ⟨w.heap.size + 1 + 1, 0, none⟩)] (fun x : E7 × E7 => #[x.1.val, x.2.val]) (Below W0.heap.size) (fun ys => ys = prAll es closed) (fun pre => pre <+: prAll es closed) es.length W0 := by
    rw [HF.out, HN.out]
    obtain ⟨p, c, e1, e2, e3⟩ := hL.below hB0
    exact pairs_stops _ _ _ _ es closed W0 (by omega) (by omega) (Nat.le_refl _) bS.cell bC.cell ⟨p, c, e1, e2, fun h => by obtain ⟨b, off, f1, f2, f3⟩ := e3 h; exact ⟨b, off, f1, by omega, f3⟩⟩
  clear hL
  refine wpIn_rangeFunc_ownH hro h1 (gf := 72) (lb := #[.pointer (some ⟨w.heap.size + 1, 0, none⟩), .pointer (some ⟨w.heap.size + 1 + 1, 0, none⟩)]) rfl (hf _) (enters_of Try.func72 (by kernel_rfl) rfl)
    hst belowK_t (belowK_b (Nat.le_refl _)) (Below.refl _ _) (fun _ => rfl)
    (fun pre W => ((allM pre ∧ W0.heap.size ≤ W.heap.size) ∧ Boxed W w.heap.size 4 (.bool false)) ∧ Below w.heap.size w W)
    (fun c pre W => ((c = .ret ∧ someN pre) ∧ Boxed W w.heap.size 4 (.bool false)) ∧ Below w.heap.size w W)
    (OwnFrom.and (OwnFrom.and (OwnFrom.and (ownFrom_pure _ _) (fun _ _ _ _ hs hg _ => Nat.le_trans hs hg.size)) (Own.from (boxed_own _ _ _) _)) (ownFrom_below (Nat.le_refl _) (by omega)))
    (fun c => OwnFrom.and (OwnFrom.and (ownFrom_pure _ _) (Own.from (boxed_own _ _ _) _)) (ownFrom_below (Nat.le_refl _) (by omega)))
    ⟨⟨⟨(fun _ h => nomatch h), Nat.le_refl _⟩, bR⟩, hB0⟩
    (fun x a' W => ∃ B1 B2, w.heap.size + 1 < B1 ∧ w.heap.size + 1 < B2 ∧ (BoxE W B1 x.1 ∧ BoxE W B2 x.2) ∧ a' = { tmps := #[.slice a len cap, .bool closed, undef, undef, .pointer (some ⟨w.heap.size, 0, none⟩), .pointer (some ⟨B1, 0, none⟩), .pointer (some ⟨B2, 0, none⟩), .slice a len cap, .bool closed, .func (.func 72) #[] #[.pointer (some ⟨w.heap.size + 1, 0, none⟩), .pointer (some ⟨w.heap.size + 1 + 1, 0, none⟩)], x.1.val, x.2.val, undef, undef, undef, undef, undef], defers := [] })
    (fun x a' u X Y row hs hg hr => by obtain ⟨B1, B2, e1, e2, ⟨e3, e4⟩, e5⟩ := hs; exact ⟨B1, B2, e1, e2, ⟨boxE_own (β := Unit) B1 x.1 u X Y row e3 hg (fun r e => (hr r e).2), boxE_own (β := Unit) B2 x.2 u X Y row e4 hg (fun r e => (hr r e).2)⟩, e5⟩) ?assign ?body ?done ?stop
  case assign =>
    rintro l pre ⟨x, y⟩ W K ⟨⟨⟨hp, hs0⟩, bR1⟩, hB1⟩ hK
    have hsW := hB1.size
    dsimp only [E7.val] at hK ⊢
    have HK := Lib.hid hK
    clear hK
    gi_wp2
    refine HK.out _ _ (((KeepsOthers.alloc _ _).trans (KeepsOthers.alloc _ _)).from _) (((Below.refl _ W).alloc (by omega) _).alloc (by simp; omega) _) ⟨⟨⟨hp, by simp; omega⟩, (bR1.alloc _).alloc _⟩, (hB1.alloc hsW _).alloc (by simp; omega) _⟩ ⟨W.heap.size, W.heap.size + 1, by omega, by omega, ⟨?_, ?_⟩, rfl⟩
    · exact (Below.heap_alloc _ _ _ (by simp)).trans (World.alloc_heap_new W _)
    · have h := World.alloc_heap_new (W.alloc (.cells #[.int .i64 x.k, .int .i64 x.ax, .int .i64 x.ay, .int .i64 x.bx, .int .i64 x.by', .int .i64 x.cx, .int .i64 x.cy] 41)) (.cells #[.int .i64 y.k, .int .i64 y.ax, .int .i64 y.ay, .int .i64 y.bx, .int .i64 y.by', .int .i64 y.cx, .int .i64 y.cy] 41)
      rw [World.size_alloc] at h
      exact h
  case body =>
    rintro l pre ⟨x, y⟩ a' W hl - ⟨⟨⟨hp, hs0⟩, bR1⟩, hB1⟩ ⟨B1, B2, hb1, hb2, ⟨b1, b2⟩, rfl⟩ hlt
    have cR := bR1.cell
    have fR := bR1.frozen
    have c1 := cell_of_row W B1 3 _ _ _ b1
    have c2 := cell_of_row W B1 4 _ _ _ b1
    have c3 := cell_of_row W B2 1 _ _ _ b2
    have c4 := cell_of_row W B2 2 _ _ _ b2
    simp [cellsE] at c1 c2 c3 c4
    have hsW := hB1.size
    have yes : y.ax = x.bx → y.ay = x.by' → allM (pre ++ [(x, y)]) := fun h1 h2 z hz => by
      rcases List.mem_append.1 hz with h | h
      · exact hp z h
      · simp at h; subst h; exact ⟨h1, h2⟩
    have no : ¬ meets (x, y) → someN (pre ++ [(x, y)]) := fun h => ⟨(x, y), by simp, h⟩
    have HY := Lib.hid yes
    have HN2 := Lib.hid no
    have HB1 := Lib.hid hB1
    have HP := Lib.hid hp
    clear yes no hp hst
    gi_wp2
    · refine ⟨KeepsFrom.refl _ _, Below.refl _ _, ⟨⟨HY.out (by assumption) (by assumption), by rw [← hsz]; exact hs0⟩, bR1⟩, HB1.out⟩
    all_goals
      refine ⟨(KeepsOthers.setCell _ _ _).from _, ⟨⟨rfl, HN2.out ?_⟩, bR1.set _⟩, HB1.out.setCell (p := ⟨w.heap.size, 0, none⟩) (Nat.le_refl _) _⟩
      unfold meets
      rintro ⟨e1, e2⟩
      first | exact absurd e1 (by assumption) | exact absurd e2 (by assumption)
  case done =>
    rintro D ys W hD rfl ⟨⟨⟨hne, hs0⟩, bR2⟩, hB⟩ hK
    have cR := bR2.cell
    have fR := bR2.frozen
    have hsW := hB.size
    have HNe := Lib.hid hne
    have HB := Lib.hid hB
    have HKK := Lib.hid hK
    clear hne hst
    gi_wp2
    have hK' := (KeepsOthers.setCell W ⟨w.heap.size, 0, none⟩ (.bool true)).same D _ HKK.out rfl
    refine ⟨by simp, .inl ⟨_, _, rfl, run_takeDeferred hK', ?_⟩⟩
    have hc5 := cell_kept (bR2.set (.bool true)).cell (grownBy_putObj' _ D (.deferred none)) (fun r e => by cases e; exact ⟨_, hK', rfl⟩)
    refine ⟨.bool true, ?_, congrArg (fun b => Ending.returned (.bool b)) (decide_eq_true (p := ∀ x ∈ prAll es closed, meets x) HNe.out).symm, (HB.out.setCell (p := ⟨w.heap.size, 0, none⟩) (Nat.le_refl _) _).trans (belowK_b (w := w) (Nat.le_refl _) _ D _ _ (by omega) hK' rfl rfl)⟩
    simp [results, Try.f38, go_sem, hc5]
  case stop =>
    rintro D c pre W hD hpre ⟨⟨⟨rfl, hne⟩, bR2⟩, hB⟩ hK
    have hno : ¬ ∀ x ∈ prAll es closed, meets x := fun h => by
      obtain ⟨x, hx, hm⟩ := hne
      exact hm (h x (hpre.subset hx))
    have HNo := Lib.hid hno
    have HB := Lib.hid hB
    have HKK := Lib.hid hK
    clear hne hno hst
    gi_wp2
    refine ⟨by simp, .inl ⟨_, _, rfl, run_takeDeferred HKK.out, ?_⟩⟩
    have hc5 := cell_kept bR2.cell (grownBy_putObj' _ D (.deferred none)) (fun r e => by cases e; exact ⟨_, HKK.out, rfl⟩)
    refine ⟨.bool false, ?_, congrArg (fun b => Ending.returned (.bool b)) (decide_eq_false HNo.out).symm, HB.out.trans (belowK_b (w := w) (Nat.le_refl _) _ D _ _ (by omega) HKK.out rfl rfl)⟩
    simp [results, Try.f38, go_sem, hc5]
theorem isChain_calls (a : Option Addr) (len cap : Nat) (closed : Bool) (es : List E7) (w : World) (hL : SlE w.heap.size w (.slice a len cap) es) :
    Calls Try.prog 38 #[.slice a len cap, .bool closed] w fun e W' => e = .returned (.bool (decide (∀ x ∈ prAll es closed, meets x))) ∧ Below w.heap.size w W' :=
  callsIn_wide.1 (isChain_in (RF none) 1 rfl rfl a len cap closed es w hL)
end Go.Proofs.Ytliimpbbppbghaa

