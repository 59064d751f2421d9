/- digest: the functions of the package. -/
import Derived.Test.YtblpalhnjkfjoaaSum
set_option linter.all false
namespace Go.Proofs.Ytblpalhnjkfjoaa
open Go Go.RowKit

theorem dig_eight (s : Bs) : ∃ a0 a1 a2 a3 a4 a5 a6 a7 : UInt8, dig s = [a0, a1, a2, a3, a4, a5, a6, a7] := by
  obtain ⟨a0, a1, a2, a3, ha⟩ := b4_four (hX s)
  obtain ⟨a4, a5, a6, a7, hb⟩ := b4_four (hY s)
  exact ⟨a0, a1, a2, a3, a4, a5, a6, a7, by unfold dig; rw [ha, hb]; rfl⟩

set_option maxRecDepth 100000 in
set_option maxHeartbeats 1000000 in
theorem text_calls (s : Bs) (w : World) :
    Calls Try.prog 20 #[sumV s] w fun e w' => e = .returned (.string ⟨(dig s).toArray⟩) ∧ Ext w w' := by
  unfold sumV
  obtain ⟨a0, a1, a2, a3, a4, a5, a6, a7, h⟩ := dig_eight s
  rw [h]
  simp only [List.map_cons, List.map_nil, u8V]
  clear h
  go_enter Try.func20, Try.ntmps20
  go_wp2_with fail
  have hcv := run_convert_bytes_back (P := Try.prog) (w.alloc (.cells #[.int .u8 (a0.toNat : Int), .int .u8 (a1.toNat : Int), .int .u8 (a2.toNat : Int), .int .u8 (a3.toNat : Int), .int .u8 (a4.toNat : Int), .int .u8 (a5.toNat : Int), .int .u8 (a6.toNat : Int), .int .u8 (a7.toNat : Int)] 36)) 29 9 5 ⟨w.heap.size, 0, none⟩ 8 [a0, a1, a2, a3, a4, a5, a6, a7] Try.underlying29 Try.underlying5 Try.underlying9 (fun j hj => by
    rw [addr0, World.cell?_alloc_mark]
    have hj8 : j < 8 := hj
    match j, hj8 with
    | 0, _ => rfl
    | 1, _ => rfl
    | 2, _ => rfl
    | 3, _ => rfl
    | 4, _ => rfl
    | 5, _ => rfl
    | 6, _ => rfl
    | 7, _ => rfl)
  rw [show [a0, a1, a2, a3, a4, a5, a6, a7].length = 8 from rfl] at hcv
  rw [hcv]
  simp only [Result.andThen]
  rw [Oper.upon_value]
  go_wp2
  go_ret
  exact ⟨rfl, Ext.alloc _ _⟩

set_option maxRecDepth 100000 in
set_option maxHeartbeats 1000000 in
theorem length_calls (s : Bs) (hs : s.length < 4294967296) (w : World) :
    Calls Try.prog 22 #[.string ⟨s.toArray⟩] w fun e w' => e = .returned (.string ⟨(b4 s.length).toArray⟩) ∧ Ext w w' := by
  have hsz := bytes_size s
  have hF := four_calls s.length hs w
  obtain ⟨n, hn⟩ : ∃ n, n = s.length := ⟨_, rfl⟩
  rw [← hn] at hs hsz hF ⊢
  have HF := Lib.hid hF
  have h2 : (n : Int) % 4294967296 = (n : Int) := by omega
  clear hn hF
  go_enter Try.func22, Try.ntmps22
  go_wp2_with fail
  refine HF.out.mono ?_
  rintro e w' ⟨rfl, hx⟩
  go_wp2
  go_ret
  exact ⟨rfl, hx⟩

/-- A slice that is built of strings. -/
theorem sl_built (w : World) (xs : List Bs) (h : xs.length ≤ 9223372036854775807) (cs : Array Value) (hcs : cs = (xs.map encT).toArray) (n : Nat) (hn : n = xs.length) : SlT (w.alloc (.cells cs 9)) (.slice (some ⟨w.heap.size, 0, none⟩) n n) xs := by
  subst hcs hn
  refine ⟨_, _, rfl, h, fun _ => ⟨_, _, rfl, lt_of_heap (heap_alloc_new w _), fun j x hj => ?_⟩⟩
  rw [World.cell?_alloc_mark, Nat.zero_add]
  simp [hj]

set_option maxRecDepth 100000 in
set_option maxHeartbeats 1000000 in
theorem of_calls (s : Bs) (hs : s.length ≤ 9223372036854775807) (w : World) :
    Calls Try.prog 11 #[.string ⟨s.toArray⟩] w fun e w' => e = .returned (.string ⟨(dig s).toArray⟩) ∧ Ext w w' := by
  go_enter Try.func11, Try.ntmps11
  go_wp2_with fail
  refine (sumOf_calls _ [s] _ (sl_built w [s] (by simp) _ rfl 1 rfl) (by simpa using hs)).mono ?_
  rintro e w1 ⟨rfl, hx⟩
  rw [show [s].flatten = s by simp]
  go_wp2_with fail
  refine (text_calls s w1).mono ?_
  rintro e w2 ⟨rfl, hx2⟩
  go_wp2
  go_ret
  exact ⟨rfl, (Ext.alloc _ _).trans (hx.trans hx2)⟩

theorem chain_flat (a b : Bs) : [[1], b4 a.length, a, b].flatten = chainL a b := by simp [chainL]
theorem mark_flat (k m : Bs) : [[2], b4 k.length, k, m, k].flatten = markL k m := by simp [markL]

set_option maxRecDepth 100000 in
set_option maxHeartbeats 1000000 in
theorem chain_calls (a b : Bs) (ha : a.length < 4294967296) (hb : b.length ≤ 9223372036854775807) (w : World) :
    Calls Try.prog 13 #[.string ⟨a.toArray⟩, .string ⟨b.toArray⟩] w fun e w' => e = .returned (.string ⟨(dig (chainL a b)).toArray⟩) ∧ Ext w w' := by
  have Ha := Lib.hid ha
  have Hb := Lib.hid hb
  clear ha hb
  go_enter Try.func13, Try.ntmps13
  go_wp2_with fail
  refine (length_calls a Ha.out w).mono ?_
  rintro e w0 ⟨rfl, hx0⟩
  have Hx0 := Lib.hid hx0
  clear hx0
  go_wp2_with fail
  refine (sumOf_calls _ [[1], b4 a.length, a, b] _ (sl_built w0 [[1], b4 a.length, a, b] (by simp) _ rfl 4 rfl) (by
    have h1 := Ha.out
    have h2 := Hb.out
    intro x hx
    simp only [List.mem_cons, List.not_mem_nil, or_false] at hx
    rcases hx with rfl | rfl | rfl | rfl
    · decide
    · rw [b4_length]; decide
    · omega
    · exact h2)).mono ?_
  rintro e w1 ⟨rfl, hx⟩
  rw [chain_flat]
  have Hx := Lib.hid hx
  clear hx
  go_wp2_with fail
  refine (text_calls _ w1).mono ?_
  rintro e w2 ⟨rfl, hx2⟩
  go_wp2
  go_ret
  exact ⟨rfl, Hx0.out.trans ((Ext.alloc _ _).trans (Hx.out.trans hx2))⟩

set_option maxRecDepth 100000 in
set_option maxHeartbeats 1000000 in
theorem markOf_calls (k m : Bs) (hk : k.length < 4294967296) (hm : m.length ≤ 9223372036854775807) (w : World) :
    Calls Try.prog 23 #[.string ⟨k.toArray⟩, .string ⟨m.toArray⟩] w fun e w' => e = .returned (sumV (markL k m)) ∧ Ext w w' := by
  have Hk := Lib.hid hk
  have Hm := Lib.hid hm
  clear hk hm
  obtain ⟨c0, c1, c2, c3, c4, c5, c6, c7, -, hsum⟩ := rowAll_cells (s := markL k m) rfl rfl
  rw [hsum]
  have Hsum := Lib.hid hsum
  clear hsum
  go_enter Try.func23, Try.ntmps23
  go_wp2_with fail
  obtain ⟨W, hW⟩ : ∃ W, W = w.alloc (.cells zero8 36) := ⟨_, rfl⟩
  have HX : Hid (Ext w W) := by rw [hW]; exact Ext.alloc _ _
  obtain ⟨B, hB⟩ : ∃ B, B = w.heap.size := ⟨_, rfl⟩
  have HO : Hid (W.heap[B]? = some (.cells zero8 36)) := by rw [hW, hB]; exact heap_alloc_new _ _
  have HBw : Hid (w.heap.size ≤ B) := by rw [hB]; exact Nat.le_refl _
  rw [show (w.alloc (.cells #[Value.int .u8 0, Value.int .u8 0, Value.int .u8 0, Value.int .u8 0, Value.int .u8 0, Value.int .u8 0, Value.int .u8 0, Value.int .u8 0] 36)) = W from hW.symm]
  rw [← hB]
  clear hW hB
  refine (length_calls k Hk.out W).mono ?_
  rintro e w0 ⟨rfl, hx0⟩
  have Hx0 := Lib.hid hx0
  clear hx0
  go_wp2_with fail
  refine (sumOf_calls _ [[2], b4 k.length, k, m, k] _ (sl_built w0 [[2], b4 k.length, k, m, k] (by simp) _ rfl 5 rfl) (by
    have h1 := Hk.out
    have h2 := Hm.out
    intro x hx
    simp only [List.mem_cons, List.not_mem_nil, or_false] at hx
    rcases hx with rfl | rfl | rfl | rfl | rfl
    · decide
    · rw [b4_length]; decide
    · omega
    · exact h2
    · omega)).mono ?_
  rintro e w1 ⟨rfl, hx⟩
  rw [mark_flat, Hsum.out]
  have HE : Hid (Ext W w1) := Hx0.out.trans ((Ext.alloc _ _).trans hx)
  have HB2 : w1.heap[B]? = some (.cells zero8 36) := (Below.block HE.out B (lt_of_heap HO.out)).trans HO.out
  have HB3 := Lib.hid HB2
  have b0 := cell8 HB2 0
  have b1 := cell8 HB2 1
  have b2 := cell8 HB2 2
  have b3 := cell8 HB2 3
  have b4 := cell8 HB2 4
  have b5 := cell8 HB2 5
  have b6 := cell8 HB2 6
  have b7 := cell8 HB2 7
  simp [zero8] at b0 b1 b2 b3 b4 b5 b6 b7
  have f0 := Lib.frozen_of_heap HB2 0
  have f1 := Lib.frozen_of_heap HB2 1
  have f2 := Lib.frozen_of_heap HB2 2
  have f3 := Lib.frozen_of_heap HB2 3
  have f4 := Lib.frozen_of_heap HB2 4
  have f5 := Lib.frozen_of_heap HB2 5
  have f6 := Lib.frozen_of_heap HB2 6
  have f7 := Lib.frozen_of_heap HB2 7
  clear HB2 hx
  go_wp2_with fail
  refine ret_sum c0 c1 c2 c3 c4 c5 c6 c7 rfl B rfl (set8 c0 c1 c2 c3 c4 c5 c6 c7 HB3.out) ⟨rfl, ?_⟩
  exact set8_ext c0 c1 c2 c3 c4 c5 c6 c7 HBw.out (HX.out.trans HE.out)

set_option maxRecDepth 100000 in
set_option maxHeartbeats 1000000 in
theorem mark_calls (k m : Bs) (hk : k.length < 4294967296) (hm : m.length ≤ 9223372036854775807) (w : World) :
    Calls Try.prog 18 #[.string ⟨k.toArray⟩, .string ⟨m.toArray⟩] w fun e w' => e = .returned (.string ⟨(dig (markL k m)).toArray⟩) ∧ Ext w w' := by
  have hM := markOf_calls k m hk hm w
  have HM := Lib.hid hM
  clear hM hk hm
  go_enter Try.func18, Try.ntmps18
  go_wp2_with fail
  refine HM.out.mono ?_
  rintro e w1 ⟨rfl, hx⟩
  go_wp2_with fail
  refine (text_calls _ w1).mono ?_
  rintro e w2 ⟨rfl, hx2⟩
  go_wp2
  go_ret
  exact ⟨rfl, hx.trans hx2⟩

end Go.Proofs.Ytblpalhnjkfjoaa
