/- Serializing: strconv.Itoa, wire's Int, Text, Ints, Texts. (Written by gen_wr.py.) -/
import Derived.Test.YtckhbejgkgpilaaDoorRd
set_option linter.all false
namespace Go.Proofs.YtckhbejgkgpilaaDoor
open Go Go.RowKit Go.Shelf

theorem bytes_append (l m : Bs) : (⟨l.toArray⟩ : ByteArray) ++ (⟨m.toArray⟩ : ByteArray) = ⟨(l ++ m).toArray⟩ := by
  apply ByteArray.ext
  simp
theorem bytes_size (l : Bs) : (⟨l.toArray⟩ : ByteArray).size = l.length := by simp [ByteArray.size]
theorem below_grow (w : World) (k : Nat) (os : Array Obj) : Ext w (Sort.grow (w.drewN k) os) :=
  ⟨rfl, rfl, rfl, by simp [Sort.grow, World.drewN], fun i hi => by simp [Sort.grow, World.drewN, Array.getElem?_append, hi]⟩
theorem itoa_calls (n : Int) (hn : I64 n) (w : World) (hv : Vars w) :
    Calls Tryd.prog 38 #[.int .i64 n] w fun e w' => e = .returned (.string ⟨(Lib.itoa n).toArray⟩) ∧ Ext w w' := by
  refine (Tryd.strconv_Itoa n hn.1 hn.2 w hv.tab).mono ?_
  rintro e w' ⟨rfl, k, os, rfl⟩
  exact ⟨rfl, below_grow w k os⟩

set_option maxRecDepth 100000 in
set_option maxHeartbeats 1000000 in
theorem int_calls (n : Int) (hn : I64 n) (hl : (serInt n).length ≤ 140737488355328) (w : World) (hv : Vars w) :
    Calls Tryd.prog 12 #[.int .i64 n] w fun e w' => e = .returned (.string ⟨(serInt n).toArray⟩) ∧ Ext w w' := by
  have hI := itoa_calls n hn w hv
  have h1 : ¬ (9223372036854775807 < (Lib.itoa n).length + 1) := by have := itoa_len hn; omega
  go_enter Tryd.func12, Tryd.ntmps12
  go_wp2_with fail
  refine hI.mono ?_
  rintro e w' ⟨rfl, hx⟩
  go_wp2
  go_ret
  exact ⟨by rw [bytes_append]; rfl, hx⟩

set_option maxRecDepth 100000 in
set_option maxHeartbeats 1000000 in
theorem text_calls (s : Bs) (hs : TextOk s) (hl : (serText s).length ≤ 140737488355328) (w : World) (hv : Vars w) :
    Calls Tryd.prog 14 #[.string ⟨s.toArray⟩] w fun e w' => e = .returned (.string ⟨(serText s).toArray⟩) ∧ Ext w w' := by
  unfold TextOk at hs
  have hI := itoa_calls s.length ⟨by omega, by omega⟩ w hv
  have hsz := bytes_size s
  have hl2 : (Lib.itoa s.length).length + 1 + s.length ≤ 140737488355328 := by simp [serText, serNum] at hl; omega
  have h1 : ¬ (9223372036854775807 < (Lib.itoa s.length).length + 1) := by omega
  have h2 : ¬ (9223372036854775807 < (Lib.itoa s.length).length + 1 + s.length) := by omega
  clear hl hl2
  go_enter Tryd.func14, Tryd.ntmps14
  go_wp2_with fail
  refine hI.mono ?_
  rintro e w' ⟨rfl, hx⟩
  go_wp2
  go_ret
  refine ⟨?_, hx⟩
  rw [bytes_append, bytes_append]
  rfl

/-- The slice value v holds xs, in a block of the kind S. -/
def SlOf {α : Type} (enc : α → Value) (S : Nat → Prop) (w : World) (v : Value) (xs : List α) : Prop :=
  ∃ p cap, v = .slice p xs.length cap ∧ xs.length ≤ maxLen ∧ (0 < xs.length → ∃ b off, p = some ⟨b, off, none⟩ ∧ S b ∧ b < w.heap.size ∧ ∀ j x, xs[j]? = some x → w.cell? ⟨b, off + j, none⟩ = some (enc x))
theorem SlOf.keep {α : Type} {enc : α → Value} {S : Nat → Prop} {w w' : World} {v : Value} {xs : List α} {rb : Option Nat} (h : SlOf enc S w v xs) (hk : Keep rb w w') (hb : ∀ b, S b → rb ≠ some b) : SlOf enc S w' v xs := by
  obtain ⟨p, cap, rfl, hl, hc⟩ := h
  refine ⟨p, cap, rfl, hl, fun h0 => ?_⟩
  obtain ⟨b, off, rfl, hS, hlt, hc⟩ := hc h0
  exact ⟨b, off, rfl, hS, Nat.lt_of_lt_of_le hlt hk.size, fun j x hx => (World.cell?_of_block (w := w) (a := ⟨b, off + j, none⟩) (hk.block b hlt (hb b hS))).trans (hc j x hx)⟩
theorem SlOf.ext {α : Type} {enc : α → Value} {S : Nat → Prop} {w w' : World} {v : Value} {xs : List α} (h : SlOf enc S w v xs) (hx : Ext w w') : SlOf enc S w' v xs := h.keep (rb := none) hx.keep (fun b _ e => by cases e)
theorem SlOf.kind {α : Type} {enc : α → Value} {S T : Nat → Prop} {w : World} {v : Value} {xs : List α} (h : SlOf enc S w v xs) (hst : ∀ b, S b → b < w.heap.size → T b) : SlOf enc T w v xs := by
  obtain ⟨p, cap, rfl, hl, hc⟩ := h
  refine ⟨p, cap, rfl, hl, fun h0 => ?_⟩
  obtain ⟨b, off, rfl, hS, hlt, hc⟩ := hc h0
  exact ⟨b, off, rfl, hst b hS hlt, hlt, hc⟩
theorem SlOf.nil {α : Type} {enc : α → Value} {S : Nat → Prop} {w : World} : SlOf enc S w (.slice none 0 0) ([] : List α) := ⟨none, 0, rfl, Nat.zero_le _, fun h => absurd h (by simp)⟩
def encI (n : Int) : Value := .int .i64 n
def encT (s : Bs) : Value := .string ⟨s.toArray⟩

theorem builder_new (w : World) : Lib.IsBuilder TB TU w.heap.size w.heap.size [] (w.alloc (.cells #[.pointer none, .slice none 0 0] TB)) :=
  .inl ⟨Nat.le_refl _, .slice none 0 0, heap_alloc_new w _, ⟨rfl, .inl ⟨rfl, rfl⟩⟩, by simp [Value.ownBlock]⟩
theorem flat_take {α : Type} (ser : α → Bs) (xs : List α) (k : Nat) (x : α) (h : xs[k]? = some x) : (xs.take (k + 1)).flatMap ser = (xs.take k).flatMap ser ++ ser x := by
  rw [List.take_add_one, h]; simp
theorem flat_le {α : Type} (ser : α → Bs) (xs : List α) (k : Nat) : ((xs.take k).flatMap ser).length ≤ (xs.flatMap ser).length := by
  have : xs.flatMap ser = (xs.take k).flatMap ser ++ (xs.drop k).flatMap ser := by rw [← List.flatMap_append, List.take_append_drop]
  rw [this, List.length_append]; omega
theorem serL_len {α : Type} (ser : α → Bs) (xs : List α) : (serL ser xs).length = (xs.flatMap ser).length + 2 := by simp [serL]

theorem builder_ext {B b : Nat} {bs : List Value} {w w' : World} (h : Lib.IsBuilder TB TU B b bs w) (_ : B ≤ w.heap.size) (hx : Ext w w') : Lib.IsBuilder TB TU B b bs w' := by
  have key : ∀ p, Lib.BuilderAt TB TU B b p bs w → Lib.BuilderAt TB TU B b p bs w' := by
    rintro p ⟨hB, v, hb, hown, hne⟩
    have hlt : b < w.heap.size := Lib.BuilderAt.lt ⟨hB, v, hb, hown, hne⟩
    exact ⟨hB, v, (Below.block hx b hlt).trans hb, hown.kept (row := none) ⟨hx.os, hx.tape, hx.output, Below.size hx, fun k hk _ => Below.block hx k hk⟩ (by rcases hv : v.ownBlock with _ | k <;> simp), hne⟩
  rcases h with h | h
  · exact .inl (key _ h)
  · exact .inr (key _ h)
theorem below_from {B : Nat} {w w1 w2 w3 : World} (h : Below B w2 w3) (hB : B = w.heap.size) (_ : Ext w w1) (_ : Ext w1 w2) : Below w.heap.size w2 w3 := by subst hB; exact h
theorem Ext.from {a b c : World} (h : Ext a b) (k : Below a.heap.size b c) : Ext a c := Below.trans h k
theorem Ext.trans2 {B : Nat} {w w1 w2 : World} (h : Ext w w1) (hB : B = w.heap.size) (k : Below B w1 w2) : Ext w w2 := by subst hB; exact Below.trans h k

set_option maxRecDepth 100000 in
set_option maxHeartbeats 4000000 in
theorem joinedInt_calls (v : Value) (xs : List Int) (S : Nat → Prop) (w : World) (hv : Vars w) (hu : SlOf encI S w v xs) (ho : AllOk I64 xs) (hl : (serL serInt xs).length ≤ 140737488355328) :
    Calls Tryd.prog 40 #[v, .func (.func 12) #[] #[]] w fun e w' => e = .returned (.string ⟨(serL serInt xs).toArray⟩) ∧ Ext w w' := by
  obtain ⟨p, cap, rfl, hm, hc⟩ := hu
  unfold maxLen at hm
  rw [serL_len] at hl
  have Hl := Lib.hid hl
  have Hv := Lib.hid hv
  have Ho := Lib.hid ho
  have Hc := Lib.hid hc
  obtain ⟨n, hn⟩ : ∃ n, n = xs.length := ⟨_, rfl⟩
  rw [← hn] at hm ⊢
  have Hn := Lib.hid hn
  clear hl hv ho hc hn
  go_enter Tryd.func40, Tryd.ntmps40
  go_wp2_with fail
  have HB := Lib.hid (builder_new w)
  obtain ⟨W, hW⟩ : ∃ W, W = w.alloc (.cells #[.pointer none, .slice none 0 0] TB) := ⟨_, rfl⟩
  have HX : Hid (Ext w W) := by rw [hW]; exact Ext.alloc _ _
  rw [← hW] at HB
  rw [show (w.alloc (.cells #[.pointer none, .slice none 0 0] 67)) = W from hW.symm]
  obtain ⟨B, hB⟩ : ∃ B, B = w.heap.size := ⟨_, rfl⟩
  have HBs := Lib.hid hB
  rw [← hB] at HB ⊢
  clear hW hB
  refine (write_calls B B [] [91] W HB.out (by simp) (by rw [HBs.out]; exact Below.size HX.out)).mono ?_
  rintro e w1 ⟨⟨v1, rfl⟩, hb1, hx1⟩
  have Hb1 := Lib.hid hb1
  have Hx1 : Hid (Ext w w1) := HX.out.trans2 HBs.out hx1
  clear hb1 hx1
  go_wp2_with fail
  go_loopw [7, 11] (fun x i wr => ∃ k : Nat, k ≤ n ∧ i = .int .i64 (k : Int) ∧ Lib.IsBuilder TB TU B B (Lib.byteCells (91 :: (xs.take k).flatMap serInt)) wr ∧ Ext w wr) (fun _ i _ => (n - (intOf i).toNat))
  case atStart => exact ⟨0, Nat.zero_le _, rfl, Hb1.out, Hx1.out⟩
  case round =>
    obtain ⟨k, hk, rfl, hb, hx⟩ := hrel
    have Hb := Lib.hid hb
    have Hx := Lib.hid hx
    have hBw : B ≤ wr.heap.size := by rw [HBs.out]; exact Below.size hx
    have HBw := Lib.hid hBw
    clear hb hx hBw
    by_cases hlt : k < n
    · obtain ⟨x, hx⟩ : ∃ x, xs[k]? = some x := ⟨_, List.getElem?_eq_getElem (by rw [← Hn.out]; exact hlt)⟩
      obtain ⟨b, off, rfl, -, hbl, hcs⟩ := Hc.out (by rw [← Hn.out]; omega)
      have hcell := (Below.cell Hx.out (p := ⟨b, off + k, none⟩) hbl).trans (hcs k x hx)
      unfold encI at hcell
      have hok := Ho.out x (List.mem_of_getElem? hx)
      have Hok := Lib.hid hok
      have Hxk := Lib.hid hx
      clear hcs hok hx hbl
      go_wp2_with fail
      refine (int_calls x Hok.out (by have h1 := flat_take serInt xs k x Hxk.out; have h2 := flat_le serInt xs (k + 1); rw [h1, List.length_append] at h2; have := Hl.out; omega) wr (Hv.out.ext Hx.out)).mono ?_
      rintro e w2 ⟨rfl, hx2⟩
      have Hx2 := Lib.hid hx2
      clear hx2
      have hf := flat_take serInt xs k x Hxk.out
      have hle := flat_le serInt xs (k + 1)
      have hcat : 91 :: (xs.take (k + 1)).flatMap serInt = (91 :: (xs.take k).flatMap serInt) ++ serInt x := by rw [hf]; rfl
      have Hcat := Lib.hid hcat
      have Hlen : Hid ((91 :: (xs.take k).flatMap serInt).length + (serInt x).length ≤ 140737488355328) := by
        show (91 :: (xs.take k).flatMap serInt).length + (serInt x).length ≤ 140737488355328
        rw [← List.length_append, ← hcat, List.length_cons]
        have := Hl.out
        omega
      clear hf hle hcat
      have hb2 : Lib.IsBuilder TB TU B B (Lib.byteCells (91 :: (xs.take k).flatMap serInt)) w2 := builder_ext Hb.out HBw.out Hx2.out
      have Hb2 := Lib.hid hb2
      clear hb2
      go_wp2_with fail
      refine (write_calls B B _ _ w2 Hb2.out Hlen.out (Nat.le_trans HBw.out (Below.size Hx2.out))).mono ?_
      rintro e w3 ⟨⟨v3, rfl⟩, hb3, hx3⟩
      rw [← Hcat.out] at hb3
      have Hb3 := Lib.hid hb3
      have Hx3 : Hid (Ext w w3) := (Hx.out.trans Hx2.out).trans2 HBs.out hx3
      clear hb3 hx3
      go_wp2
      go_roundw
      case rel => exact ⟨k + 1, by omega, by go_num, Hb3.out, Hx3.out⟩
      case measure => simp [intOf]; omega
    · have hkn : k = n := by omega
      subst hkn
      have ht : xs.take k = xs := List.take_of_length_le (by rw [← Hn.out]; exact Nat.le_refl _)
      rw [ht] at Hb
      have hle : (91 :: xs.flatMap serInt).length + [93].length ≤ 140737488355328 := by simp only [List.length_cons, List.length_nil]; have := Hl.out; omega
      have Hle := Lib.hid hle
      clear ht hle
      go_wp2_with fail
      refine (write_calls B B _ [93] wr Hb.out Hle.out HBw.out).mono ?_
      rintro e w3 ⟨⟨v3, rfl⟩, hb3, hx3⟩
      have Hb3 := Lib.hid hb3
      have Hx3 := Lib.hid hx3
      clear hb3 hx3
      go_wp2_with fail
      refine (Tryd.Builder_String_any B B _ w3 Hb3.out (Nat.le_trans HBw.out (Below.size Hx3.out))).mono ?_
      rintro e w4 ⟨rfl, hx4⟩
      have Hx4 := Lib.hid hx4
      clear hx4
      go_wp2
      go_ret
      exact ⟨rfl, Hx.out.trans2 HBs.out (Hx3.out.trans Hx4.out)⟩

set_option maxRecDepth 100000 in
set_option maxHeartbeats 4000000 in
theorem joinedText_calls (v : Value) (xs : List Bs) (S : Nat → Prop) (w : World) (hv : Vars w) (hu : SlOf encT S w v xs) (ho : AllOk TextOk xs) (hl : (serL serText xs).length ≤ 140737488355328) :
    Calls Tryd.prog 41 #[v, .func (.func 14) #[] #[]] w fun e w' => e = .returned (.string ⟨(serL serText xs).toArray⟩) ∧ Ext w w' := by
  obtain ⟨p, cap, rfl, hm, hc⟩ := hu
  unfold maxLen at hm
  rw [serL_len] at hl
  have Hl := Lib.hid hl
  have Hv := Lib.hid hv
  have Ho := Lib.hid ho
  have Hc := Lib.hid hc
  obtain ⟨n, hn⟩ : ∃ n, n = xs.length := ⟨_, rfl⟩
  rw [← hn] at hm ⊢
  have Hn := Lib.hid hn
  clear hl hv ho hc hn
  go_enter Tryd.func41, Tryd.ntmps41
  go_wp2_with fail
  have HB := Lib.hid (builder_new w)
  obtain ⟨W, hW⟩ : ∃ W, W = w.alloc (.cells #[.pointer none, .slice none 0 0] TB) := ⟨_, rfl⟩
  have HX : Hid (Ext w W) := by rw [hW]; exact Ext.alloc _ _
  rw [← hW] at HB
  rw [show (w.alloc (.cells #[.pointer none, .slice none 0 0] 67)) = W from hW.symm]
  obtain ⟨B, hB⟩ : ∃ B, B = w.heap.size := ⟨_, rfl⟩
  have HBs := Lib.hid hB
  rw [← hB] at HB ⊢
  clear hW hB
  refine (write_calls B B [] [91] W HB.out (by simp) (by rw [HBs.out]; exact Below.size HX.out)).mono ?_
  rintro e w1 ⟨⟨v1, rfl⟩, hb1, hx1⟩
  have Hb1 := Lib.hid hb1
  have Hx1 : Hid (Ext w w1) := HX.out.trans2 HBs.out hx1
  clear hb1 hx1
  go_wp2_with fail
  go_loopw [7, 11] (fun x i wr => ∃ k : Nat, k ≤ n ∧ i = .int .i64 (k : Int) ∧ Lib.IsBuilder TB TU B B (Lib.byteCells (91 :: (xs.take k).flatMap serText)) wr ∧ Ext w wr) (fun _ i _ => (n - (intOf i).toNat))
  case atStart => exact ⟨0, Nat.zero_le _, rfl, Hb1.out, Hx1.out⟩
  case round =>
    obtain ⟨k, hk, rfl, hb, hx⟩ := hrel
    have Hb := Lib.hid hb
    have Hx := Lib.hid hx
    have hBw : B ≤ wr.heap.size := by rw [HBs.out]; exact Below.size hx
    have HBw := Lib.hid hBw
    clear hb hx hBw
    by_cases hlt : k < n
    · obtain ⟨x, hx⟩ : ∃ x, xs[k]? = some x := ⟨_, List.getElem?_eq_getElem (by rw [← Hn.out]; exact hlt)⟩
      obtain ⟨b, off, rfl, -, hbl, hcs⟩ := Hc.out (by rw [← Hn.out]; omega)
      have hcell := (Below.cell Hx.out (p := ⟨b, off + k, none⟩) hbl).trans (hcs k x hx)
      unfold encT at hcell
      have hok := Ho.out x (List.mem_of_getElem? hx)
      have Hok := Lib.hid hok
      have Hxk := Lib.hid hx
      clear hcs hok hx hbl
      go_wp2_with fail
      refine (text_calls x Hok.out (by have h1 := flat_take serText xs k x Hxk.out; have h2 := flat_le serText xs (k + 1); rw [h1, List.length_append] at h2; have := Hl.out; omega) wr (Hv.out.ext Hx.out)).mono ?_
      rintro e w2 ⟨rfl, hx2⟩
      have Hx2 := Lib.hid hx2
      clear hx2
      have hf := flat_take serText xs k x Hxk.out
      have hle := flat_le serText xs (k + 1)
      have hcat : 91 :: (xs.take (k + 1)).flatMap serText = (91 :: (xs.take k).flatMap serText) ++ serText x := by rw [hf]; rfl
      have Hcat := Lib.hid hcat
      have Hlen : Hid ((91 :: (xs.take k).flatMap serText).length + (serText x).length ≤ 140737488355328) := by
        show (91 :: (xs.take k).flatMap serText).length + (serText x).length ≤ 140737488355328
        rw [← List.length_append, ← hcat, List.length_cons]
        have := Hl.out
        omega
      clear hf hle hcat
      have hb2 : Lib.IsBuilder TB TU B B (Lib.byteCells (91 :: (xs.take k).flatMap serText)) w2 := builder_ext Hb.out HBw.out Hx2.out
      have Hb2 := Lib.hid hb2
      clear hb2
      go_wp2_with fail
      refine (write_calls B B _ _ w2 Hb2.out Hlen.out (Nat.le_trans HBw.out (Below.size Hx2.out))).mono ?_
      rintro e w3 ⟨⟨v3, rfl⟩, hb3, hx3⟩
      rw [← Hcat.out] at hb3
      have Hb3 := Lib.hid hb3
      have Hx3 : Hid (Ext w w3) := (Hx.out.trans Hx2.out).trans2 HBs.out hx3
      clear hb3 hx3
      go_wp2
      go_roundw
      case rel => exact ⟨k + 1, by omega, by go_num, Hb3.out, Hx3.out⟩
      case measure => simp [intOf]; omega
    · have hkn : k = n := by omega
      subst hkn
      have ht : xs.take k = xs := List.take_of_length_le (by rw [← Hn.out]; exact Nat.le_refl _)
      rw [ht] at Hb
      have hle : (91 :: xs.flatMap serText).length + [93].length ≤ 140737488355328 := by simp only [List.length_cons, List.length_nil]; have := Hl.out; omega
      have Hle := Lib.hid hle
      clear ht hle
      go_wp2_with fail
      refine (write_calls B B _ [93] wr Hb.out Hle.out HBw.out).mono ?_
      rintro e w3 ⟨⟨v3, rfl⟩, hb3, hx3⟩
      have Hb3 := Lib.hid hb3
      have Hx3 := Lib.hid hx3
      clear hb3 hx3
      go_wp2_with fail
      refine (Tryd.Builder_String_any B B _ w3 Hb3.out (Nat.le_trans HBw.out (Below.size Hx3.out))).mono ?_
      rintro e w4 ⟨rfl, hx4⟩
      have Hx4 := Lib.hid hx4
      clear hx4
      go_wp2
      go_ret
      exact ⟨rfl, Hx.out.trans2 HBs.out (Hx3.out.trans Hx4.out)⟩

set_option maxRecDepth 100000 in
set_option maxHeartbeats 1000000 in
theorem ints_calls (v : Value) (xs : List Int) (S : Nat → Prop) (w : World) (hv : Vars w) (hu : SlOf encI S w v xs) (ho : AllOk I64 xs) (hl : (serL serInt xs).length ≤ 140737488355328) :
    Calls Tryd.prog 16 #[v] w fun e w' => e = .returned (.string ⟨(serL serInt xs).toArray⟩) ∧ Ext w w' := by
  have hJ := joinedInt_calls v xs S w hv hu ho hl
  have HJ := Lib.hid hJ
  clear hJ hv hu ho hl
  go_enter Tryd.func16, Tryd.ntmps16
  go_wp2_with fail
  refine HJ.out.mono ?_
  rintro e w' ⟨rfl, hx⟩
  go_wp2
  go_ret
  exact ⟨rfl, hx⟩

set_option maxRecDepth 100000 in
set_option maxHeartbeats 1000000 in
theorem texts_calls (v : Value) (xs : List Bs) (S : Nat → Prop) (w : World) (hv : Vars w) (hu : SlOf encT S w v xs) (ho : AllOk TextOk xs) (hl : (serL serText xs).length ≤ 140737488355328) :
    Calls Tryd.prog 18 #[v] w fun e w' => e = .returned (.string ⟨(serL serText xs).toArray⟩) ∧ Ext w w' := by
  have hJ := joinedText_calls v xs S w hv hu ho hl
  have HJ := Lib.hid hJ
  clear hJ hv hu ho hl
  go_enter Tryd.func18, Tryd.ntmps18
  go_wp2_with fail
  refine HJ.out.mono ?_
  rintro e w' ⟨rfl, hx⟩
  go_wp2
  go_ret
  exact ⟨rfl, hx⟩

end Go.Proofs.YtckhbejgkgpilaaDoor
