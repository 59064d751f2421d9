/- The reference's reader of layer 3: what it holds, and its small functions. -/
import Derived.Test.YtckhbejgkgpilaaDoorCanonical
import Derived.Test.YtckhbejgkgpilaaDoorRefW
import Derived.BigQuiet
set_option linter.all false
namespace Go.Proofs.YtckhbejgkgpilaaDoor
open Go Go.RowKit Go.Shelf

abbrev TQ : TypeId := 59
def QAt (b : Nat) (s : Bs) (k : Nat) (wrong : Bool) (w : World) : Prop := w.heap[b]? = some (.cells #[.string ⟨s.toArray⟩, .int .i64 k, .bool wrong] TQ (0, 0))
section
variable {b : Nat} {s : Bs} {k : Nat} {wrong : Bool} {w w' : World}
theorem QAt.c0 (h : QAt b s k wrong w) : w.cell? ⟨b, 0, none⟩ = some (.string ⟨s.toArray⟩) := by rw [Lib.cell_of_heap h]; rfl
theorem QAt.c1 (h : QAt b s k wrong w) : w.cell? ⟨b, 1, none⟩ = some (.int .i64 k) := by rw [Lib.cell_of_heap h]; rfl
theorem QAt.c2 (h : QAt b s k wrong w) : w.cell? ⟨b, 2, none⟩ = some (.bool wrong) := by rw [Lib.cell_of_heap h]; rfl
theorem QAt.f (h : QAt b s k wrong w) (j : Nat) : w.frozen? ⟨b, j, none⟩ = false := Lib.frozen_of_heap h j
theorem QAt.lt (h : QAt b s k wrong w) : b < w.heap.size := (Array.getElem?_eq_some_iff.1 h).1
theorem QAt.ext (h : QAt b s k wrong w) (hx : Ext w w') : QAt b s k wrong w' := (Below.block hx b h.lt).trans h
theorem QAt.set1 (h : QAt b s k wrong w) (i : Nat) : QAt b s i wrong (w.setCell ⟨b, 1, none⟩ (.int .i64 i)) := by
  unfold QAt at *
  simp [World.setCell, Array.getElem?_modify, h]
theorem QAt.set2 (h : QAt b s k wrong w) (x : Bool) : QAt b s k x (w.setCell ⟨b, 2, none⟩ (.bool x)) := by
  unfold QAt at *
  simp [World.setCell, Array.getElem?_modify, h]
end
/-- The reference's reader, by what it can still read. -/
def QP (b : Nat) (s : Bs) (st : Option Bs) (w : World) : Prop := ∃ k wrong, k ≤ s.length ∧ QAt b s k wrong w ∧ st = (if wrong then none else some (s.drop k))
theorem QP.ext {b : Nat} {s : Bs} {st : Option Bs} {w w' : World} (h : QP b s st w) (hx : Ext w w') : QP b s st w' := by
  obtain ⟨k, wr, h1, h2, h3⟩ := h
  exact ⟨k, wr, h1, h2.ext hx, h3⟩
theorem QP.keep {b : Nat} {rb : Option Nat} {s : Bs} {st : Option Bs} {w w' : World} (h : QP b s st w) (hk : Keep rb w w') (hb : rb ≠ some b) : QP b s st w' := by
  obtain ⟨k, wr, h1, h2, h3⟩ := h
  exact ⟨k, wr, h1, (hk.block b h2.lt hb).trans h2, h3⟩
theorem QP.lt {b : Nat} {s : Bs} {st : Option Bs} {w : World} (h : QP b s st w) : b < w.heap.size := by
  obtain ⟨k, wr, h1, h2, h3⟩ := h
  exact h2.lt

set_option maxRecDepth 100000 in
set_option maxHeartbeats 1000000 in
theorem qnew_calls (s : Bs) (w : World) : Calls Tryd.prog 21 #[.string ⟨s.toArray⟩] w fun e w' => e = .returned (.pointer (some ⟨w.heap.size, 0, none⟩)) ∧ QP w.heap.size s (some s) w' ∧ Ext w w' := by
  go_enter Tryd.func21, Tryd.ntmps21
  go_wp2
  go_ret
  exact ⟨rfl, ⟨0, false, Nat.zero_le _, heap_alloc_new w _, rfl⟩, Ext.alloc _ _⟩
set_option maxRecDepth 100000 in
set_option maxHeartbeats 1000000 in
theorem qbad_calls (b : Nat) (s : Bs) (st : Option Bs) (w : World) (h : QP b s st w) : Calls Tryd.prog 35 #[.pointer (some ⟨b, 0, none⟩)] w fun e w' => e = .returned (.bool st.isNone) ∧ w' = w := by
  obtain ⟨k, wrong, hk, hq, rfl⟩ := h
  have c2 := hq.c2
  have hb : (if wrong = true then (none : Option Bs) else some (s.drop k)).isNone = wrong := by cases wrong <;> rfl
  rw [hb]
  clear hq hb
  go_enter Tryd.func35, Tryd.ntmps35
  go_wp2
  go_ret
  exact ⟨rfl, rfl⟩
set_option maxRecDepth 100000 in
set_option maxHeartbeats 1000000 in
theorem qfail_calls (b : Nat) (s : Bs) (st : Option Bs) (w : World) (h : QP b s st w) : Calls Tryd.prog 44 #[.pointer (some ⟨b, 0, none⟩)] w fun e w' => (∃ v, e = .returned v) ∧ QP b s none w' ∧ Keep (some b) w w' := by
  obtain ⟨k, wrong, hk, hq, -⟩ := h
  have c2 := hq.c2
  have f2 := hq.f 2
  have HQ := Lib.hid hq
  have HK := Lib.hid hk
  clear hq hk
  go_enter Tryd.func44, Tryd.ntmps44
  go_wp2
  go_end0
  exact ⟨⟨_, rfl⟩, ⟨k, true, HK.out, HQ.out.set2 true, rfl⟩, Keep.set w 2 _⟩
set_option maxRecDepth 100000 in
set_option maxHeartbeats 1000000 in
theorem qleft_calls (b : Nat) (s : Bs) (st : Option Bs) (hl : s.length ≤ 4294967280) (w : World) (h : QP b s st w) : Calls Tryd.prog 33 #[.pointer (some ⟨b, 0, none⟩)] w fun e w' => e = .returned (.int .i64 ((st.getD []).length : Int)) ∧ Ext w w' := by
  obtain ⟨k, wrong, hk, hq, rfl⟩ := h
  have c0 := hq.c0
  have c1 := hq.c1
  have c2 := hq.c2
  have hsz := bytes_size s
  cases wrong with
  | true =>
    clear hq
    go_enter Tryd.func33, Tryd.ntmps33
    go_wp2
    go_ret
    exact ⟨rfl, Ext.refl _⟩
  | false =>
    have hw : IntKind.i64.wrap ((s.length : Int) - (k : Int)) = (s.length : Int) - (k : Int) := by rw [IntKind.wrap_i64]; omega
    have hfin : (((if false = true then (none : Option Bs) else some (s.drop k)).getD []).length : Int) = (s.length : Int) - (k : Int) := by
      simp only [Bool.false_eq_true, if_false, Option.getD_some, List.length_drop]; omega
    rw [hfin]
    clear hq hfin
    go_enter Tryd.func33, Tryd.ntmps33
    go_wp2
    go_quiet (fail)
    go_wp2
    go_ret
    exact ⟨rfl, Ext.drewN _ _⟩
theorem byte_at {s : Bs} {k : Nat} {d : UInt8} (h : s[k]? = some d) (hk : k < (⟨s.toArray⟩ : ByteArray).size) : (⟨s.toArray⟩ : ByteArray)[k]'hk = d := by
  obtain ⟨h1, h2⟩ := List.getElem?_eq_some_iff.1 h
  rw [← h2]
  rfl
set_option maxRecDepth 100000 in
set_option maxHeartbeats 2000000 in
theorem qbyte_calls (b : Nat) (s : Bs) (st : Option Bs) (hl : s.length ≤ 4294967280) (c : UInt8) (w : World) (h : QP b s st w) : Calls Tryd.prog 47 #[.pointer (some ⟨b, 0, none⟩), .int .u8 (c.toNat : Int)] w fun e w' =>
    (∃ r, st.getD [] = c :: r ∧ e = .returned (.bool true) ∧ QP b s (some r) w' ∧ Keep (some b) w w') ∨ ((∀ r, st.getD [] ≠ c :: r) ∧ e = .returned (.bool false) ∧ QP b s st w' ∧ Keep (some b) w w') := by
  have HL := Lib.hid (qleft_calls b s st hl w h)
  have HQ := Lib.hid h
  cases hst : st.getD [] with
  | nil =>
    rw [hst] at HL
    clear h hst
    go_enter Tryd.func47, Tryd.ntmps47
    go_wp2_with fail
    refine HL.out.mono ?_
    rintro e w1 ⟨rfl, hx⟩
    have HX := Lib.hid hx
    clear hx
    simp only [List.length_nil]
    go_wp2
    go_quiet (fail)
    go_wp2
    go_ret
    exact .inr ⟨by simp, rfl, HQ.out.ext (HX.out.trans (Ext.drewN _ _)), (HX.out.trans (Ext.drewN _ _)).keep⟩
  | cons d r =>
    rw [hst] at HL
    obtain ⟨k, wrong, hk, hq, hs⟩ := h
    cases wrong with
    | true => subst hs; simp at hst
    | false =>
      have hs2 : st = some (s.drop k) := hs
      subst hs2
      have hdr : s.drop k = d :: r := hst
      have HDR := Lib.hid hdr
      have hkl : k < s.length := by
        apply Classical.byContradiction
        intro hn
        rw [List.drop_eq_nil_of_le (by omega)] at hdr
        cases hdr
      have hget : s[k]? = some d := by
        have h1 := congrArg (fun l : Bs => l[0]?) hdr
        simpa [List.getElem?_drop] using h1
      have hr : s.drop (k + 1) = r := by
        have h1 := congrArg (fun l : Bs => l.drop 1) hdr
        simpa [List.drop_drop, Nat.add_comm] using h1
      have HR := Lib.hid hr
      have HQA := Lib.hid hq
      obtain ⟨n, hn⟩ : ∃ n, n = (d :: r).length := ⟨_, rfl⟩
      rw [← hn] at HL
      have hn0 : 0 < n := by rw [hn]; simp
      have hne : ((n : Int) == 0) = false := by simp; omega
      have hge : ∀ h, (⟨s.toArray⟩ : ByteArray)[k]'h = d := fun h => byte_at hget h
      have hwk : IntKind.i64.wrap ((k : Int) + 1) = (k : Int) + 1 := by rw [IntKind.wrap_i64]; omega
      clear hst hs hdr hr hn hq
      go_enter Tryd.func47, Tryd.ntmps47
      go_wp2_with fail
      refine HL.out.mono ?_
      rintro e w1 ⟨rfl, hx⟩
      have HX := Lib.hid hx
      have hq1 := HQA.out.ext hx
      have c0 := hq1.c0
      have c1 := hq1.c1
      have f1 := hq1.f 1
      have HQ1 := Lib.hid hq1
      clear hx hq1
      have hsz := bytes_size s
      have hkI : (k : Int) < (s.length : Int) := by omega
      by_cases hcd : d = c
      · subst hcd
        have hbb : ((d.toNat : Int) == (d.toNat : Int)) = true := by simp
        go_wp2
        go_quiet (fail)
        go_wp2
        go_ret
        exact .inl ⟨r, rfl, rfl, ⟨k + 1, false, hkl, QAt.set1 (w := w1.drewN _) HQ1.out (k + 1), by rw [HR.out]; rfl⟩, (HX.out.trans (Ext.drewN _ _)).keep.trans (Keep.set _ 1 _)⟩
      · have hbb : ((d.toNat : Int) == (c.toNat : Int)) = false := by
          have h1 : d.toNat ≠ c.toNat := fun e => hcd (UInt8.toNat_inj.1 e)
          simp; omega
        go_wp2
        go_quiet (fail)
        go_wp2
        go_ret
        exact .inr ⟨fun r' e => hcd (by simp at e; exact e.1), rfl, HQ.out.ext (HX.out.trans (Ext.drewN _ _)), (HX.out.trans (Ext.drewN _ _)).keep⟩

end Go.Proofs.YtckhbejgkgpilaaDoor
