/- Decoding: lists. (Written by gen_el.py.) -/
import Derived.Test.YtckhbejgkgpilaaDoorDec2
import Derived.Laws.AppendOwn
set_option linter.all false
namespace Go.Proofs.YtckhbejgkgpilaaDoor
open Go Go.RowKit Go.Shelf

/-- The slice v, which the call made itself, holds xs. -/
def OwnsE {α : Type} (enc : α → Value) (t : TypeId) (w : World) (base : Nat) (v : Value) (xs : List α) : Prop := w.ownsRow base t 1 v xs.length (xs.map enc)
section
variable {α : Type} {enc : α → Value} {t : TypeId} {w w' : World} {base : Nat} {v : Value} {xs : List α}
theorem OwnsE.keep {rb : Option Nat} (h : OwnsE enc t w base v xs) (hk : Keep rb w w') (hb : ∀ b, rb = some b → b < base) : OwnsE enc t w' base v xs := by
  refine World.ownsRow.kept (row := rb) h ⟨hk.os, hk.tape, hk.output, hk.size, fun k hk1 hk2 => hk.block k hk1 (fun e => hk2 e.symm)⟩ ?_
  rcases hv : v.ownBlock with _ | k
  · exact .inl rfl
  · refine .inr (fun e => ?_)
    have h1 := (World.ownsRow.lt h k hv).1
    have h2 := hb k e.symm
    omega
theorem OwnsE.shape (h : OwnsE enc t w base v xs) : ∃ p cap, v = .slice p xs.length cap := by
  obtain ⟨hl, ⟨rfl, h0⟩ | ⟨g, cap, cur, rfl, hb, hc, hn, hcm, hcs, hx⟩⟩ := h
  · exact ⟨none, 0, by rw [h0]⟩
  · exact ⟨_, cap, rfl⟩
theorem OwnsE.nil : OwnsE enc t w base (.slice none 0 0) ([] : List α) := World.ownsRow_nil _ _ _ _
theorem OwnsE.sl (h : OwnsE enc t w base v xs) (hm : xs.length ≤ maxLen) : SlOf enc (fun b => base ≤ b) w v xs := by
  obtain ⟨hl, ⟨rfl, h0⟩ | ⟨g, cap, cur, rfl, hb, hc, hn, hcm, hcs, hx⟩⟩ := id h
  · obtain rfl : xs = [] := List.length_eq_zero_iff.1 h0
    exact SlOf.nil
  · refine ⟨some ⟨g, 0, none⟩, cap, rfl, hm, fun _ => ⟨g, 0, rfl, hb, (Array.getElem?_eq_some_iff.1 hc).1, fun j x hj => ?_⟩⟩
    have hlt : j < xs.length := (List.getElem?_eq_some_iff.1 hj).1
    have := World.ownsRow.cellAt h j (by omega)
    rw [Nat.zero_add, this, List.getElem?_map, hj]
    rfl
theorem own_step {wr w1 : World} {j : Nat} {x : α} {o : Obj} {v v' : Value} (ho : OwnsE enc t wr base v xs) (hj : xs.length = j) (hbase : base ≤ wr.heap.size)
    (h : w1.ownsRow base t 1 v' (j + 1) (xs.map enc ++ [enc x])) (hg : (wr.alloc o).grownBy w1 v.ownBlock) : OwnsE enc t w1 base v' (xs ++ [x]) ∧ Below base wr w1 := by
  subst hj
  refine ⟨?_, ?_⟩
  · show w1.ownsRow base t 1 v' (xs ++ [x]).length ((xs ++ [x]).map enc)
    rw [List.map_append, List.length_append]; exact h
  · exact Below.grown ((Below.refl _ _).alloc hbase o) hg (by simp; omega) (fun k hk => (World.ownsRow.lt ho k hk).1)
end
theorem cell_one_own (w : World) (v : Value) (t : TypeId) : ∀ (j : Nat) (u : Value), [v][j]? = some u → (w.alloc (.cells #[v] t)).cell? (Addr.add ⟨w.heap.size, 0, none⟩ j) = some u := fun j u hj => by
  match j, hj with
  | 0, hj =>
    simp at hj; subst hj
    rw [show Addr.add ⟨w.heap.size, 0, none⟩ 0 = ⟨w.heap.size, 0, none⟩ by simp [Addr.add], Lib.cell_of_heap (heap_alloc_new w _)]
    rfl
theorem flat_ge {α : Type} {ser : α → Bs} (ho : Opens ser) : ∀ xs : List α, xs.length ≤ (xs.flatMap ser).length
  | [] => by simp
  | x :: xs => by
    obtain ⟨c, r, e, -⟩ := ho x
    have := flat_ge ho xs
    simp only [List.flatMap_cons, List.length_cons, List.length_append, e]
    omega
def lenOf : Value → Nat
  | .slice _ n _ => n
  | _ => 0
/-- A world that has grown from base on is as before where the reader is. -/
theorem keep_of_below {rb : Option Nat} {base : Nat} {w w1 w2 : World} (h : Keep rb w w1) (hb : base = w.heap.size) (k : Below base w1 w2) : Keep rb w w2 :=
  ⟨k.os.trans h.os, k.tape.trans h.tape, k.output.trans h.output, Nat.le_trans h.size k.size, fun i hi hn => (k.block i (by omega)).trans (h.block i hi hn)⟩
theorem RdP.below {rb : Option Nat} {st : Option Bs} {base : Nat} {w1 w2 : World} (h : RdP rb st w1) (hb : ∀ b, rb = some b → b < base) (k : Below base w1 w2) : RdP rb st w2 := by
  cases rb with
  | none => exact h
  | some b => exact ⟨(k.block b (hb b rfl)).trans h.1, h.2⟩
theorem RdP.rlt {rb : Option Nat} {st : Option Bs} {w : World} (h : RdP rb st w) : ∀ b, rb = some b → b < w.heap.size := by
  rintro b rfl
  exact h.1.lt
/-- How elements' frame stands where it jumps. -/
def ElFrame (rb : Option Nat) (a : Act) : Prop := ∃ u1 u2 u3 u4 u5 u6 u7 u8 u9 u10 u11 u12 u13 u14 u15 u16 u17 u18 u19 u20 u21, a = { tmps := #[ptrV rb, u1, u2, u3, u4, u5, u6, u7, u8, u9, u10, u11, u12, u13, u14, u15, u16, u17, u18, u19, u20, u21], defers := [] }

set_option maxRecDepth 100000 in
set_option maxHeartbeats 4000000 in
theorem elementsInt_calls (rb : Option Nat) (st : Option Bs) (hl : (st.getD []).length ≤ 4294967280) (w : World) (hv : Vars w) (h : RdP rb st w) :
    Calls Tryd.prog 46 #[ptrV rb, .func (.func 22) #[ptrV rb] #[]] w fun e w' => ∃ o : Option (List Int × Bs), Dec (serL serInt) (AllOk I64) (st.getD []) o ∧ (∃ v, e = .returned v ∧ SlOf encI (fun b => w.heap.size ≤ b) w' v ((o.map (·.1)).getD [])) ∧ RdP rb (o.map (·.2)) w' ∧ Keep rb w w' := by
  have hS := skip_calls rb st 91 w h
  obtain ⟨s, hs⟩ : ∃ s, s = st.getD [] := ⟨_, rfl⟩
  rw [← hs] at hS hl ⊢
  obtain ⟨i0, hi, hz0, hz1, hz2⟩ : ∃ i, Tryd.prog.info? 3 = some i ∧ i.zero = some (.int .i64 0) ∧ i.size = 1 ∧ i.bytes = 8 := by
    have h : (Tryd.prog.info? 3).map (fun i => (i.zero, i.size, i.bytes)) = some (some (.int .i64 0), 1, 8) := by kernel_rfl
    obtain ⟨i, hi, e⟩ := Option.map_eq_some_iff.1 h
    simp only [Prod.mk.injEq] at e
    exact ⟨i, hi, e.1, e.2.1, e.2.2⟩
  obtain ⟨B, hB⟩ : ∃ B, B = w.heap.size := ⟨_, rfl⟩
  have hrl := h.rlt
  rw [← hB] at hrl ⊢
  have HRl := Lib.hid hrl
  have HB := Lib.hid hB
  have HS := Lib.hid hS
  have HL := Lib.hid hl
  have H := Lib.hid h
  have Hv := Lib.hid hv
  have Hs := Lib.hid hs
  clear hS hl h hv hs hB hrl
  go_enter Tryd.func46, Tryd.ntmps46
  go_wp2
  refine wp_scope_jumps 0 (fun a w' => ElFrame rb a ∧ (∃ st', RdP rb st' w') ∧ Keep rb w w' ∧ Dec (serL serInt) (AllOk I64) s none) (fun _ _ => 0) rfl ?first ?pass
  case pass =>
    rintro a w2 ⟨⟨u1, u2, u3, u4, u5, u6, u7, u8, u9, u10, u11, u12, u13, u14, u15, u16, u17, u18, u19, u20, u21, rfl⟩, ⟨st', hst⟩, hx2, hd⟩
    have Hst := Lib.hid hst
    have Hx2 := Lib.hid hx2
    have Hd := Lib.hid hd
    clear hx2 hd hst
    go_wp2_with fail
    refine (spoil_calls rb st' w2 Hst.out).mono ?_
    rintro e w4 ⟨⟨v, rfl⟩, hr, hk⟩
    have Hr := Lib.hid hr
    have Hk := Lib.hid hk
    clear hr hk
    go_wp2
    simp only [Exit.jump]
    go_ret
    exact ⟨none, Hd.out, ⟨_, rfl, SlOf.nil⟩, Hr.out, Hx2.out.trans Hk.out⟩
  go_wp2_with fail
  refine HS.out.mono ?_
  rintro e w1 (⟨r0, he0, rfl, hr, hk⟩ | ⟨hno, rfl, rfl⟩)
  case inr =>
    have hd : Dec (serL serInt) (AllOk I64) s none := dec_list_none hno
    have Hd := Lib.hid hd
    clear hd hno
    go_wp2_with fail
    go_step3
    exact ⟨rfl, ⟨_, _, _, _, _, _, _, _, _, _, _, _, _, _, _, _, _, _, _, _, _, rfl⟩, ⟨_, H.out⟩, Keep.refl _ _, Hd.out⟩
  have He0 := Lib.hid he0
  have Hr := Lib.hid hr
  have Hk := Lib.hid hk
  clear he0 hr hk
  go_wp2_with fail
  go_loopw [5] (fun v wr => ∃ acc r, OwnsE encI 3 wr B v acc ∧ AllOk I64 acc ∧ RdP rb (some r) wr ∧ s = 91 :: (acc.flatMap serInt ++ r) ∧ Keep rb w wr) (fun v _ => s.length + 1 - lenOf v)
  case atStart => exact ⟨[], r0, OwnsE.nil, fun _ h => absurd h (by simp), Hr.out, by rw [He0.out]; rfl, Hk.out⟩
  case round =>
    obtain ⟨acc, r, ho, hok, hrd, hsr, hkr⟩ := hrel
    obtain ⟨pv, cv, rfl⟩ := ho.shape
    have Ho := Lib.hid ho
    have Hok := Lib.hid hok
    have Hrd := Lib.hid hrd
    have Hsr := Lib.hid hsr
    have Hkr := Lib.hid hkr
    clear ho hok hrd hsr hkr
    have hn : acc.length + r.length + 1 ≤ s.length := by
      have h1 := flat_ge opens_int acc
      have h2 := congrArg List.length Hsr.out
      rw [List.length_cons, List.length_append] at h2
      omega
    obtain ⟨n, hn2⟩ : ∃ n, n = acc.length := ⟨_, rfl⟩
    rw [← hn2] at hn ⊢
    have Hn2 := Lib.hid hn2
    have hsl := HL.out
    clear hn2
    go_wp2_with fail
    refine (skip_calls rb (some r) 93 wr Hrd.out).mono ?_
    rintro e w2 (⟨r1, he1, rfl, hr1, hk1⟩ | ⟨hno, rfl, rfl⟩)
    · have he1' : r = 93 :: r1 := he1
      have hd := dec_list_done (ser := serInt) (ok := I64) (s := s) (r := r1) Hok.out (by rw [Hsr.out, he1'])
      have Hd := Lib.hid hd
      have Hr1 := Lib.hid hr1
      have Hk1 := Lib.hid hk1
      clear he1 he1' hd hr1 hk1
      go_wp2
      simp only [Exit.jump]
      go_ret
      refine ⟨some (acc, r1), Hd.out, ⟨_, rfl, ?_⟩, Hr1.out, Hkr.out.trans Hk1.out⟩
      rw [Hn2.out]
      exact OwnsE.sl (Ho.out.keep Hk1.out HRl.out) (by show acc.length ≤ maxLen; unfold maxLen; have := Hn2.out; omega)
    · have Hno := Lib.hid hno
      clear hno
      go_wp2_with fail
      refine (rint_calls rb (some r) (by show r.length ≤ _; omega) w2 (Hv.out.keep Hkr.out H.out.low) Hrd.out).mono ?_
      rintro e w3 ⟨o, hd, rfl, hr3, hk3⟩
      have Hd := Lib.hid hd
      have Hr3 := Lib.hid hr3
      have Hk3 := Lib.hid hk3
      have Hk3' : Hid (Keep rb w w3) := Hkr.out.trans hk3
      obtain ⟨x, hx⟩ : ∃ x, x = (o.map (·.1)).getD 0 := ⟨_, rfl⟩
      rw [← hx]
      have Hx := Lib.hid hx
      have hB3 : B ≤ w3.heap.size := by rw [HB.out]; exact Hk3'.out.size
      have ho3 := Ho.out.keep hk3 HRl.out
      have Ho3 := Lib.hid ho3
      have Hown : Hid (∀ o, (w3.alloc o).ownsRow B 3 1 (.slice pv n cv) n (acc.map encI)) := fun o => by
        have h : (w3.alloc o).ownsRow B 3 1 (.slice pv acc.length cv) acc.length (acc.map encI) := World.ownsRow.alloc ho3 o
        rw [← Hn2.out] at h; exact h
      have Hoo : Hid (OwnsE encI 3 w3 B (.slice pv n cv) acc) := by rw [Hn2.out]; exact ho3
      clear hd hr3 hk3 hx ho3
      unfold encI
      go_wp2_with (at_builtin; refine wpList_append_own _ rfl (.tmp 12) (.tmp 15) 22 rfl B 3 i0 (.int .i64 0) 1 8 Tryd.underlying22 hi hz0 hz1 hz2 rfl (by decide) _ _ _ rfl (Hown.out _) ⟨w3.heap.size, 0, none⟩ 1 1 [encI x] rfl rfl (cell_one_own _ _ _) (by intro u hu; simp at hu; subst hu; rfl) (by unfold maxLen; omega) (by omega) (by simp; omega) ?_; intro v' w4 hown' hgrow _; obtain ⟨ho1, hb1⟩ := own_step Hoo.out Hn2.out.symm (by omega) hown' hgrow; have Ho1 := Lib.hid ho1; have Hb1 := Lib.hid hb1; clear hown' hgrow ho1 hb1)
      go_wp2_with fail
      refine (bad_calls rb (o.map (·.2)) w4 (Hr3.out.below HRl.out Hb1.out)).mono ?_
      rintro e w5 ⟨rfl, rfl⟩
      have HK : Hid (Keep rb w w5) := keep_of_below Hk3'.out HB.out Hb1.out
      rcases o with _ | ⟨y, r3⟩
      · have hd : Dec (serL serInt) (AllOk I64) s none := dec_list_fail ud_int opens_int Hok.out Hsr.out Hno.out Hd.out
        have Hd2 := Lib.hid hd
        clear hd
        simp only [Option.map_none, Option.isNone_none]
        go_wp2_with fail
        go_step3
        exact ⟨rfl, ⟨_, _, _, _, _, _, _, _, _, _, _, _, _, _, _, _, _, _, _, _, _, rfl⟩, ⟨_, Hr3.out.below HRl.out Hb1.out⟩, HK.out, Hd2.out⟩
      · have hyx : x = y := Hx.out
        subst hyx
        have hd := Hd.out.some _ _ rfl
        have Hd2 := Lib.hid hd
        clear hd
        simp only [Option.map_some, Option.isNone_some]
        go_wp2
        go_roundw
        case rel => exact ⟨acc ++ [x], r3, Ho1.out, fun a ha => by rcases List.mem_append.1 ha with h | h; exact Hok.out a h; simp at h; rw [h]; exact Hd2.out.1, Hr3.out.below HRl.out Hb1.out, by rw [Hsr.out, show r = _ from Hd2.out.2]; simp, HK.out⟩
        case measure =>
          obtain ⟨p', c', e'⟩ := Ho1.out.shape
          rw [e']
          simp only [lenOf, List.length_append, List.length_cons, List.length_nil]
          have := Hn2.out
          omega

set_option maxRecDepth 100000 in
set_option maxHeartbeats 4000000 in
theorem elementsText_calls (rb : Option Nat) (st : Option Bs) (hl : (st.getD []).length ≤ 4294967280) (w : World) (hv : Vars w) (h : RdP rb st w) :
    Calls Tryd.prog 48 #[ptrV rb, .func (.func 24) #[ptrV rb] #[]] w fun e w' => ∃ o : Option (List Bs × Bs), Dec (serL serText) (AllOk TextOk) (st.getD []) o ∧ (∃ v, e = .returned v ∧ SlOf encT (fun b => w.heap.size ≤ b) w' v ((o.map (·.1)).getD [])) ∧ RdP rb (o.map (·.2)) w' ∧ Keep rb w w' := by
  have hS := skip_calls rb st 91 w h
  obtain ⟨s, hs⟩ : ∃ s, s = st.getD [] := ⟨_, rfl⟩
  rw [← hs] at hS hl ⊢
  obtain ⟨i0, hi, hz0, hz1, hz2⟩ : ∃ i, Tryd.prog.info? 9 = some i ∧ i.zero = some (.string ⟨#[]⟩) ∧ i.size = 1 ∧ i.bytes = 16 := by
    have h : (Tryd.prog.info? 9).map (fun i => (i.zero, i.size, i.bytes)) = some (some (.string ⟨#[]⟩), 1, 16) := by kernel_rfl
    obtain ⟨i, hi, e⟩ := Option.map_eq_some_iff.1 h
    simp only [Prod.mk.injEq] at e
    exact ⟨i, hi, e.1, e.2.1, e.2.2⟩
  obtain ⟨B, hB⟩ : ∃ B, B = w.heap.size := ⟨_, rfl⟩
  have hrl := h.rlt
  rw [← hB] at hrl ⊢
  have HRl := Lib.hid hrl
  have HB := Lib.hid hB
  have HS := Lib.hid hS
  have HL := Lib.hid hl
  have H := Lib.hid h
  have Hv := Lib.hid hv
  have Hs := Lib.hid hs
  clear hS hl h hv hs hB hrl
  go_enter Tryd.func48, Tryd.ntmps48
  go_wp2
  refine wp_scope_jumps 0 (fun a w' => ElFrame rb a ∧ (∃ st', RdP rb st' w') ∧ Keep rb w w' ∧ Dec (serL serText) (AllOk TextOk) s none) (fun _ _ => 0) rfl ?first ?pass
  case pass =>
    rintro a w2 ⟨⟨u1, u2, u3, u4, u5, u6, u7, u8, u9, u10, u11, u12, u13, u14, u15, u16, u17, u18, u19, u20, u21, rfl⟩, ⟨st', hst⟩, hx2, hd⟩
    have Hst := Lib.hid hst
    have Hx2 := Lib.hid hx2
    have Hd := Lib.hid hd
    clear hx2 hd hst
    go_wp2_with fail
    refine (spoil_calls rb st' w2 Hst.out).mono ?_
    rintro e w4 ⟨⟨v, rfl⟩, hr, hk⟩
    have Hr := Lib.hid hr
    have Hk := Lib.hid hk
    clear hr hk
    go_wp2
    simp only [Exit.jump]
    go_ret
    exact ⟨none, Hd.out, ⟨_, rfl, SlOf.nil⟩, Hr.out, Hx2.out.trans Hk.out⟩
  go_wp2_with fail
  refine HS.out.mono ?_
  rintro e w1 (⟨r0, he0, rfl, hr, hk⟩ | ⟨hno, rfl, rfl⟩)
  case inr =>
    have hd : Dec (serL serText) (AllOk TextOk) s none := dec_list_none hno
    have Hd := Lib.hid hd
    clear hd hno
    go_wp2_with fail
    go_step3
    exact ⟨rfl, ⟨_, _, _, _, _, _, _, _, _, _, _, _, _, _, _, _, _, _, _, _, _, rfl⟩, ⟨_, H.out⟩, Keep.refl _ _, Hd.out⟩
  have He0 := Lib.hid he0
  have Hr := Lib.hid hr
  have Hk := Lib.hid hk
  clear he0 hr hk
  go_wp2_with fail
  go_loopw [5] (fun v wr => ∃ acc r, OwnsE encT 9 wr B v acc ∧ AllOk TextOk acc ∧ RdP rb (some r) wr ∧ s = 91 :: (acc.flatMap serText ++ r) ∧ Keep rb w wr) (fun v _ => s.length + 1 - lenOf v)
  case atStart => exact ⟨[], r0, OwnsE.nil, fun _ h => absurd h (by simp), Hr.out, by rw [He0.out]; rfl, Hk.out⟩
  case round =>
    obtain ⟨acc, r, ho, hok, hrd, hsr, hkr⟩ := hrel
    obtain ⟨pv, cv, rfl⟩ := ho.shape
    have Ho := Lib.hid ho
    have Hok := Lib.hid hok
    have Hrd := Lib.hid hrd
    have Hsr := Lib.hid hsr
    have Hkr := Lib.hid hkr
    clear ho hok hrd hsr hkr
    have hn : acc.length + r.length + 1 ≤ s.length := by
      have h1 := flat_ge opens_text acc
      have h2 := congrArg List.length Hsr.out
      rw [List.length_cons, List.length_append] at h2
      omega
    obtain ⟨n, hn2⟩ : ∃ n, n = acc.length := ⟨_, rfl⟩
    rw [← hn2] at hn ⊢
    have Hn2 := Lib.hid hn2
    have hsl := HL.out
    clear hn2
    go_wp2_with fail
    refine (skip_calls rb (some r) 93 wr Hrd.out).mono ?_
    rintro e w2 (⟨r1, he1, rfl, hr1, hk1⟩ | ⟨hno, rfl, rfl⟩)
    · have he1' : r = 93 :: r1 := he1
      have hd := dec_list_done (ser := serText) (ok := TextOk) (s := s) (r := r1) Hok.out (by rw [Hsr.out, he1'])
      have Hd := Lib.hid hd
      have Hr1 := Lib.hid hr1
      have Hk1 := Lib.hid hk1
      clear he1 he1' hd hr1 hk1
      go_wp2
      simp only [Exit.jump]
      go_ret
      refine ⟨some (acc, r1), Hd.out, ⟨_, rfl, ?_⟩, Hr1.out, Hkr.out.trans Hk1.out⟩
      rw [Hn2.out]
      exact OwnsE.sl (Ho.out.keep Hk1.out HRl.out) (by show acc.length ≤ maxLen; unfold maxLen; have := Hn2.out; omega)
    · have Hno := Lib.hid hno
      clear hno
      go_wp2_with fail
      refine (rtext_calls rb (some r) (by show r.length ≤ _; omega) w2 (Hv.out.keep Hkr.out H.out.low) Hrd.out).mono ?_
      rintro e w3 ⟨o, hd, rfl, hr3, hk3⟩
      have Hd := Lib.hid hd
      have Hr3 := Lib.hid hr3
      have Hk3 := Lib.hid hk3
      have Hk3' : Hid (Keep rb w w3) := Hkr.out.trans hk3
      obtain ⟨x, hx⟩ : ∃ x, x = (o.map (·.1)).getD [] := ⟨_, rfl⟩
      rw [← hx]
      have Hx := Lib.hid hx
      have hB3 : B ≤ w3.heap.size := by rw [HB.out]; exact Hk3'.out.size
      have ho3 := Ho.out.keep hk3 HRl.out
      have Ho3 := Lib.hid ho3
      have Hown : Hid (∀ o, (w3.alloc o).ownsRow B 9 1 (.slice pv n cv) n (acc.map encT)) := fun o => by
        have h : (w3.alloc o).ownsRow B 9 1 (.slice pv acc.length cv) acc.length (acc.map encT) := World.ownsRow.alloc ho3 o
        rw [← Hn2.out] at h; exact h
      have Hoo : Hid (OwnsE encT 9 w3 B (.slice pv n cv) acc) := by rw [Hn2.out]; exact ho3
      clear hd hr3 hk3 hx ho3
      unfold encT
      go_wp2_with (at_builtin; refine wpList_append_own _ rfl (.tmp 12) (.tmp 15) 23 rfl B 9 i0 (.string ⟨#[]⟩) 1 16 Tryd.underlying23 hi hz0 hz1 hz2 rfl (by decide) _ _ _ rfl (Hown.out _) ⟨w3.heap.size, 0, none⟩ 1 1 [encT x] rfl rfl (cell_one_own _ _ _) (by intro u hu; simp at hu; subst hu; rfl) (by unfold maxLen; omega) (by omega) (by simp; omega) ?_; intro v' w4 hown' hgrow _; obtain ⟨ho1, hb1⟩ := own_step Hoo.out Hn2.out.symm (by omega) hown' hgrow; have Ho1 := Lib.hid ho1; have Hb1 := Lib.hid hb1; clear hown' hgrow ho1 hb1)
      go_wp2_with fail
      refine (bad_calls rb (o.map (·.2)) w4 (Hr3.out.below HRl.out Hb1.out)).mono ?_
      rintro e w5 ⟨rfl, rfl⟩
      have HK : Hid (Keep rb w w5) := keep_of_below Hk3'.out HB.out Hb1.out
      rcases o with _ | ⟨y, r3⟩
      · have hd : Dec (serL serText) (AllOk TextOk) s none := dec_list_fail ud_text opens_text Hok.out Hsr.out Hno.out Hd.out
        have Hd2 := Lib.hid hd
        clear hd
        simp only [Option.map_none, Option.isNone_none]
        go_wp2_with fail
        go_step3
        exact ⟨rfl, ⟨_, _, _, _, _, _, _, _, _, _, _, _, _, _, _, _, _, _, _, _, _, rfl⟩, ⟨_, Hr3.out.below HRl.out Hb1.out⟩, HK.out, Hd2.out⟩
      · have hyx : x = y := Hx.out
        subst hyx
        have hd := Hd.out.some _ _ rfl
        have Hd2 := Lib.hid hd
        clear hd
        simp only [Option.map_some, Option.isNone_some]
        go_wp2
        go_roundw
        case rel => exact ⟨acc ++ [x], r3, Ho1.out, fun a ha => by rcases List.mem_append.1 ha with h | h; exact Hok.out a h; simp at h; rw [h]; exact Hd2.out.1, Hr3.out.below HRl.out Hb1.out, by rw [Hsr.out, show r = _ from Hd2.out.2]; simp, HK.out⟩
        case measure =>
          obtain ⟨p', c', e'⟩ := Ho1.out.shape
          rw [e']
          simp only [lenOf, List.length_append, List.length_cons, List.length_nil]
          have := Hn2.out
          omega

set_option maxRecDepth 100000 in
set_option maxHeartbeats 1000000 in
theorem rints_calls (rb : Option Nat) (st : Option Bs) (hl : (st.getD []).length ≤ 4294967280) (w : World) (hv : Vars w) (h : RdP rb st w) :
    Calls Tryd.prog 27 #[ptrV rb] w fun e w' => ∃ o : Option (List Int × Bs), Dec (serL serInt) (AllOk I64) (st.getD []) o ∧ (∃ v, e = .returned v ∧ SlOf encI (fun b => w.heap.size ≤ b) w' v ((o.map (·.1)).getD [])) ∧ RdP rb (o.map (·.2)) w' ∧ Keep rb w w' := by
  have hN := elementsInt_calls rb st hl w hv h
  have HN := Lib.hid hN
  clear hN hl hv h
  go_enter Tryd.func27, Tryd.ntmps27
  go_wp2_with fail
  refine HN.out.mono ?_
  rintro e w' ⟨o, hd, ⟨v, rfl, hs⟩, hr, hk⟩
  have Hd := Lib.hid hd
  have Hs := Lib.hid hs
  have Hr := Lib.hid hr
  have Hk := Lib.hid hk
  clear hd hr hk hs
  go_wp2
  go_ret
  exact ⟨o, Hd.out, ⟨_, rfl, Hs.out⟩, Hr.out, Hk.out⟩

set_option maxRecDepth 100000 in
set_option maxHeartbeats 1000000 in
theorem rtexts_calls (rb : Option Nat) (st : Option Bs) (hl : (st.getD []).length ≤ 4294967280) (w : World) (hv : Vars w) (h : RdP rb st w) :
    Calls Tryd.prog 30 #[ptrV rb] w fun e w' => ∃ o : Option (List Bs × Bs), Dec (serL serText) (AllOk TextOk) (st.getD []) o ∧ (∃ v, e = .returned v ∧ SlOf encT (fun b => w.heap.size ≤ b) w' v ((o.map (·.1)).getD [])) ∧ RdP rb (o.map (·.2)) w' ∧ Keep rb w w' := by
  have hN := elementsText_calls rb st hl w hv h
  have HN := Lib.hid hN
  clear hN hl hv h
  go_enter Tryd.func30, Tryd.ntmps30
  go_wp2_with fail
  refine HN.out.mono ?_
  rintro e w' ⟨o, hd, ⟨v, rfl, hs⟩, hr, hk⟩
  have Hd := Lib.hid hd
  have Hs := Lib.hid hs
  have Hr := Lib.hid hr
  have Hk := Lib.hid hk
  clear hd hr hk hs
  go_wp2
  go_ret
  exact ⟨o, Hd.out, ⟨_, rfl, Hs.out⟩, Hr.out, Hk.out⟩

end Go.Proofs.YtckhbejgkgpilaaDoor
