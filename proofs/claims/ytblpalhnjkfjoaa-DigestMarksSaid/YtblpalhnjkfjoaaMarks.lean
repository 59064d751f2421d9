/- DigestMarks, as a walk. -/
import Derived.Test.YtblpalhnjkfjoaaOne
set_option linter.all false
namespace Go.Proofs.Ytblpalhnjkfjoaa
open Go Go.RowKit Go.Shelf

section
variable {o : Oper} {a : Act} {w : World}
theorem run_ofield2 (x : Operand) (ho : o.op = .fieldAddr 28 x 2) (g : Nat) (hx : a.eval x = .pointer (some ⟨g, 0, none⟩)) : (execOp a.eval o).run Try.prog w = .ok (.value (.pointer (some ⟨g, 2, none⟩))) w := by
  unfold execOp
  simp only [ho, hx]
  simp [go_sem]
theorem run_load_u8 (x : Operand) (ho : o.op = .load 5 x) (ad : Addr) (hx : a.eval x = .pointer (some ad)) (v : Int) (hc : w.cell? ad = some (.int .u8 v)) : (execOp a.eval o).run Try.prog w = .ok (.value (.int .u8 v)) w := by
  unfold execOp
  simp only [ho, hx, Instr.loadAt, Instr.sureAddr, Sem.run_bind, Sem.run_pure, Result.andThen_ok]
  simp [hc, go_sem]
theorem info_str : (Try.prog.info? 9).map (fun i => (i.zero, i.size, i.bytes)) = some (some (.string ⟨#[]⟩), 1, 16) := by kernel_rfl
theorem run_build6 (x1 x2 x3 x4 x5 x6 : Operand) (ho : o.op = .buildSlice 30 6 #[(0, x1), (1, x2), (2, x3), (3, x4), (4, x5), (5, x6)]) (s1 s2 s3 s4 s5 s6 : ByteArray) (h1 : a.eval x1 = .string s1) (h2 : a.eval x2 = .string s2) (h3 : a.eval x3 = .string s3) (h4 : a.eval x4 = .string s4) (h5 : a.eval x5 = .string s5) (h6 : a.eval x6 = .string s6) :
    (execOp a.eval o).run Try.prog w = .ok (.value (.slice (some ⟨w.heap.size, 0, none⟩) 6 6)) (w.alloc (.cells #[.string s1, .string s2, .string s3, .string s4, .string s5, .string s6] 9)) := by
  obtain ⟨i, hi, hz, hs, hb⟩ : ∃ i, Try.prog.info? 9 = some i ∧ i.zero = some (.string ⟨#[]⟩) ∧ i.size = 1 ∧ i.bytes = 16 := by
    obtain ⟨i, hi, e⟩ := Option.map_eq_some_iff.1 info_str
    simp only [Prod.mk.injEq] at e
    exact ⟨i, hi, e.1, e.2.1, e.2.2⟩
  have hr := run_buildSlice (P := Try.prog) w 30 9 6 #[(0, Value.string s1), (1, Value.string s2), (2, Value.string s3), (3, Value.string s4), (4, Value.string s5), (5, Value.string s6)] #[.string s1, .string s2, .string s3, .string s4, .string s5, .string s6] i (.string ⟨#[]⟩) Try.underlying30 hi hz (by rw [hs]; decide) (by rw [hs]; decide) (by rw [hs]; simp [Instr.fill, Value.cells, Array.range_succ, show Array.range 0 = #[] from rfl])
  unfold execOp
  simp only [ho, List.map_toArray, List.map_cons, List.map_nil, h1, h2, h3, h4, h5, h6, Sem.run_bind]
  rw [hr]
  rfl
theorem run_len_sl (x : Operand) (ts : Array TypeId) (ho : o.op = .call { callee := .builtin .len, args := #[x], argTypes := ts }) (hts : ts = #[30]) (p : Option Addr) (n c : Nat) (hx : a.eval x = .slice p n c) : (execOp a.eval o).run Try.prog w = .ok (.value (.int .i64 n)) w := by
  subst hts
  obtain ⟨dst, op, type, pos, after, guard⟩ := o
  obtain rfl : op = _ := ho
  have e : Array.map a.eval #[x] = #[.slice p n c] := by simp only [List.map_toArray, List.map_cons, List.map_nil, hx]
  rw [BigFrame.execOp_builtin, e]
  simp [go_sem]
theorem ent_rmark (args : Array Value) (w : World) : (callFunc 15 args).run Try.prog w = .ok (.enter 15 args) w := enters_of Try.func15 (by kernel_rfl) rfl args w
end

/-- What the drawn operations hold: the mark with a byte that is changed. -/
def mk5F (d : Bs) (p cc g : Nat) : Nat → Value → World → Prop
  | 0, v, _ => v = .string ⟨d.toArray⟩
  | 1, v, _ => v = .int .i64 (p : Int)
  | 2, v, _ => v = .string ⟨(d.take p).toArray⟩
  | 3, v, _ => v = .pointer (some ⟨g, 2, none⟩)
  | 4, v, _ => v = .int .u8 (cc : Int)
  | 5, v, w => ∃ g, v = .slice (some ⟨g, 0, none⟩) 1 1 ∧ w.heap[g]? = some (.cells #[.int .u8 (cc : Int)] 5)
  | 6, v, _ => v = .string ⟨[UInt8.ofNat cc].toArray⟩
  | 7, v, _ => v = .string ⟨(d.take p ++ [UInt8.ofNat cc]).toArray⟩
  | 8, v, _ => v = .string ⟨d.toArray⟩
  | 9, v, _ => v = .int .i64 (p : Int)
  | 10, v, _ => v = .int .i64 ((p + 1 : Nat) : Int)
  | 11, v, _ => v = .string ⟨(d.drop (p + 1)).toArray⟩
  | 12, v, _ => v = .string ⟨(d.take p ++ [UInt8.ofNat cc] ++ d.drop (p + 1)).toArray⟩
  | 13, v, _ => v = .string ⟨(d.take p ++ [UInt8.ofNat cc] ++ d.drop (p + 1)).toArray⟩
  | _, _, _ => True
theorem mk5F_mono {d : Bs} {p cc g : Nat} {w w' : World} (hx : Ext w w') : ∀ (j : Nat) (v : Value), mk5F d p cc g j v w → mk5F d p cc g j v w'
  | 0, _, h | 1, _, h | 2, _, h | 3, _, h | 4, _, h | 6, _, h | 7, _, h | 8, _, h | 9, _, h | 10, _, h | 11, _, h | 12, _, h | 13, _, h => h
  | 5, _, ⟨g, hv, hg⟩ => ⟨g, hv, (Below.block hx g (lt_of_heap hg)).trans hg⟩
  | _ + 14, _, _ => trivial

def six (k m d t r : Bs) (p : Nat) : List Bs := [d, t, r, d.take p, dig (markL m k), dig (markL r m)]
/-- What the drawn operations hold: six strings to be checked. -/
def mk7F (k m d t r : Bs) (p : Nat) : Nat → Value → World → Prop
  | 0, v, _ => v = .string ⟨d.toArray⟩
  | 1, v, _ => v = .string ⟨t.toArray⟩
  | 2, v, _ => v = .string ⟨r.toArray⟩
  | 3, v, _ => v = .string ⟨d.toArray⟩
  | 4, v, _ => v = .int .i64 (p : Int)
  | 5, v, _ => v = .string ⟨(d.take p).toArray⟩
  | 6, v, _ => v = .string ⟨m.toArray⟩
  | 7, v, _ => v = .string ⟨k.toArray⟩
  | 8, v, _ => v = .string ⟨(dig (markL m k)).toArray⟩
  | 9, v, _ => v = .string ⟨r.toArray⟩
  | 10, v, _ => v = .string ⟨m.toArray⟩
  | 11, v, _ => v = .string ⟨(dig (markL r m)).toArray⟩
  | 12, v, w => ∃ g, v = .slice (some ⟨g, 0, none⟩) 6 6 ∧ w.heap[g]? = some (.cells ((six k m d t r p).map encT).toArray 9)
  | 13, v, _ => v = .int .i64 6
  | 14, v, _ => v = .int .i64 0
  | _, _, _ => True
theorem mk7F_mono {k m d t r : Bs} {p : Nat} {w w' : World} (hx : Ext w w') : ∀ (j : Nat) (v : Value), mk7F k m d t r p j v w → mk7F k m d t r p j v w'
  | 0, _, h | 1, _, h | 2, _, h | 3, _, h | 4, _, h | 5, _, h | 6, _, h | 7, _, h | 8, _, h | 9, _, h | 10, _, h | 11, _, h | 13, _, h | 14, _, h => h
  | 12, _, ⟨g, hv, hg⟩ => ⟨g, hv, (Below.block hx g (lt_of_heap hg)).trans hg⟩
  | _ + 15, _, _ => trivial

set_option maxRecDepth 100000 in
set_option maxHeartbeats 2000000 in
theorem digestMarks_walk (s0 u0 q : Bs) (at_ cc : Nat) (hat : at_ < 256) (hcc : cc < 256) (w : World) : Calls Try.prog 5 #[.string ⟨s0.toArray⟩, .string ⟨u0.toArray⟩, .agg #[.string ⟨q.toArray⟩, .int .u8 (at_ : Int), .int .u8 (cc : Int)]] w fun e w' => e = .returned (.bool true) ∧ Ext w w' := by
  go_enter Try.func5, Try.ntmps5
  go_wp2_with fail
  obtain ⟨W0, hW⟩ : ∃ W0, W0 = w.alloc (.cells #[.string ⟨q.toArray⟩, .int .u8 (at_ : Int), .int .u8 (cc : Int)] 28) := ⟨_, rfl⟩
  obtain ⟨g, hg⟩ : ∃ g, g = w.heap.size := ⟨_, rfl⟩
  have X0 : Hid (Ext w W0) := by rw [hW]; exact Ext.alloc _ _
  have HG : Hid (W0.heap[g]? = some (.cells #[.string ⟨q.toArray⟩, .int .u8 (at_ : Int), .int .u8 (cc : Int)] 28)) := by rw [hW, hg]; exact heap_alloc_new _ _
  rw [← hW, ← hg]
  clear hW hg
  refine (sanity_calls _).mono ?_
  rintro e w1 ⟨rfl, hx1⟩
  go_wp2_with fail
  refine (cut_calls s0 _).mono ?_
  rintro e w2 ⟨rfl, hx2⟩
  have ht := take_short s0
  obtain ⟨k, hte⟩ : ∃ t, t = s0.take 300 := ⟨_, rfl⟩
  rw [← hte] at ht ⊢
  have Hk := Lib.hid ht
  clear hte ht
  go_wp2_with fail
  refine (cut_calls u0 _).mono ?_
  rintro e w3 ⟨rfl, hx3⟩
  have ht := take_short u0
  obtain ⟨m, hte⟩ : ∃ t, t = u0.take 300 := ⟨_, rfl⟩
  rw [← hte] at ht ⊢
  have Hm := Lib.hid ht
  clear hte ht
  go_wp2_with fail
  refine (rmark_calls k m (by have := Hk.out; omega) (by have := Hm.out; omega) _).mono ?_
  rintro e w4 ⟨rfl, hx4⟩
  have X04 : Hid (Ext W0 w4) := hx1.trans (hx2.trans (hx3.trans hx4))
  have hg4 := (Below.block X04.out g (lt_of_heap HG.out)).trans HG.out
  have hc0 := cell8 hg4 0
  have hc1 := cell8 hg4 1
  have hc2 := cell8 hg4 2
  simp at hc0 hc1 hc2
  have HC2 := Lib.hid hc2
  have hsq := bytes_size q
  have hm1 : (min (q.length : Int) 20).toNat = min q.length 20 := by omega
  obtain ⟨d, hd⟩ : ∃ d, d = dig (markL k m) := ⟨_, rfl⟩
  have hdl : d.length = 8 := by rw [hd]; rfl
  have hsd := bytes_size d
  rw [hdl] at hsd
  rw [← hd]
  have HD := Lib.hid hd
  have HDL := Lib.hid hdl
  obtain ⟨p, hp⟩ : ∃ p, p = at_ % 8 := ⟨_, rfl⟩
  have hp1 : (at_ : Int) % 8 = (p : Int) := by omega
  have hp2 : (at_ : Int).tmod 8 = (p : Int) := by rw [Int.tmod_eq_emod_of_nonneg (by omega)]; exact hp1
  have hp8 : p < 8 := by rw [hp]; exact Nat.mod_lt _ (by decide)
  have hp3 : IntKind.i64.wrap (p : Int) = (p : Int) := by rw [IntKind.wrap_i64]; omega
  have HP8 := Lib.hid hp8
  clear hx1 hx2 hx3 hx4 hg4 hd hp hdl
  go_wp2_with fail
  have HGL : Hid (g < w4.drew.heap.size) := Nat.lt_of_lt_of_le (lt_of_heap HG.out) (Below.size (X04.out.trans (Ext.drew w4)))
  have HP : Hid (p ≤ d.length) := by show _ ≤ _; rw [HDL.out]; omega
  have HP1 : Hid (p + 1 ≤ d.length) := by show _ ≤ _; rw [HDL.out]; omega
  have HP4 : Hid (p < 4294967296) := by show _ < _; omega
  have HL1 : Hid ((d.take p).length ≤ 8388608) := by show _ ≤ _; rw [List.length_take]; omega
  have HL2 : Hid ([UInt8.ofNat cc].length ≤ 8388608) := by show _ ≤ _; simp
  have HL3 : Hid ((d.take p ++ [UInt8.ofNat cc]).length ≤ 8388608) := by show _ ≤ _; rw [List.length_append, List.length_take]; simp only [List.length_cons, List.length_nil]; omega
  have HL4 : Hid ((d.drop (p + 1)).length ≤ 8388608) := by show _ ≤ _; rw [List.length_drop, HDL.out]; omega
  refine wp_region_inv (fun D ac w' => ∃ vs : Nat → Value, ac = { tmps := #[.string ⟨k.toArray⟩, .string ⟨m.toArray⟩, .agg #[.string ⟨q.toArray⟩, .int .u8 (at_ : Int), .int .u8 (cc : Int)], undef, undef, .pointer (some ⟨g, 0, none⟩), .bool false, .bool true, .string ⟨d.toArray⟩, .int .i64 (p : Int), vs 13, undef, undef, undef, .bool true, .string ⟨s0.toArray⟩, .string ⟨k.toArray⟩, .string ⟨u0.toArray⟩, .string ⟨m.toArray⟩, .string ⟨k.toArray⟩, .string ⟨m.toArray⟩, .string ⟨d.toArray⟩, .pointer (some ⟨g, 1, none⟩), .int .u8 (at_ : Int), .int .i64 (at_ : Int), .string ⟨d.toArray⟩, .int .i64 8, .int .i64 (p : Int), vs 0, vs 1, vs 2, vs 3, vs 4, vs 5, vs 6, vs 7, vs 8, vs 9, vs 10, vs 11, vs 12, undef, undef, undef, undef, undef, undef, undef, undef, undef, undef, undef, undef, undef, undef, undef, undef, undef, undef, undef, undef, undef, undef, undef, undef, undef, undef, undef, undef, undef, undef, undef, undef, undef, undef, undef, undef, undef, undef, undef, undef, undef, undef, undef], defers := [] } ∧ Ext w4.drew w' ∧ ∀ j, D j → mk5F d p cc g j (vs j) w') (by kernel_rfl) (by kernel_rfl) ?start ?step ?fin
  case start => exact ⟨fun _ => undef, rfl, Ext.refl _, fun _ h => h.elim⟩
  case step =>
    rintro i o D ac wz hio hnd he ⟨vs, rfl, k0, hF⟩
    rcases i with _ | _ | _ | _ | _ | _ | _ | _ | _ | _ | _ | _ | _ | _ | i
    rotate_left 14
    · exact absurd hio (by simp)
    all_goals (obtain rfl := Option.some.inj (hio.symm.trans (by rfl)))
    · exact wp_of_run (run_move (.tmp 8) rfl _ rfl) ⟨upd vs 0 _, rfl, k0, inv_same hF rfl⟩
    · exact wp_of_run (run_move (.tmp 9) rfl _ rfl) ⟨upd vs 1 _, rfl, k0, inv_same hF rfl⟩
    · exact wp_of_run (run_slice_to (.tmp 28) (.tmp 29) rfl d p (by exact (hF 0 (he ⟨0, .data⟩ (by simp) rfl))) (by exact (hF 1 (he ⟨1, .data⟩ (by simp) rfl))) HP.out) ⟨upd vs 2 _, rfl, k0, inv_same hF rfl⟩
    · exact wp_of_run (run_ofield2 (.tmp 5) rfl g rfl) ⟨upd vs 3 _, rfl, k0, inv_same hF rfl⟩
    · exact wp_of_run (run_load_u8 (.tmp 31) rfl ⟨g, 2, none⟩ (by exact (hF 3 (he ⟨3, .data⟩ (by simp) rfl))) cc ((Below.cell k0 (p := ⟨g, 2, none⟩) HGL.out).trans HC2.out)) ⟨upd vs 4 _, rfl, k0, inv_same hF rfl⟩
    · exact wp_of_run (run_build1 (.tmp 32) rfl _ (by exact (hF 4 (he ⟨4, .data⟩ (by simp) rfl)))) ⟨upd vs 5 _, rfl, k0.trans (Ext.alloc _ _), inv_step hF (fun j v h => mk5F_mono (Ext.alloc _ _) j v h) ⟨_, rfl, heap_alloc_new _ _⟩⟩
    · obtain ⟨g2, hg1, hg2⟩ := (hF 5 (he ⟨5, .data⟩ (by simp) rfl))
      exact wp_of_run (run_back1 (.tmp 33) rfl g2 _ hcc _ (by exact hg1) hg2) ⟨upd vs 6 _, rfl, k0, inv_same hF rfl⟩
    · exact wp_of_run (run_add_s (.tmp 30) (.tmp 34) rfl rfl _ _ (by exact (hF 2 (he ⟨2, .data⟩ (by simp) rfl))) (by exact (hF 6 (he ⟨6, .data⟩ (by simp) rfl))) HL1.out HL2.out) ⟨upd vs 7 _, rfl, k0, inv_same hF rfl⟩
    · exact wp_of_run (run_move (.tmp 8) rfl _ rfl) ⟨upd vs 8 _, rfl, k0, inv_same hF rfl⟩
    · exact wp_of_run (run_move (.tmp 9) rfl _ rfl) ⟨upd vs 9 _, rfl, k0, inv_same hF rfl⟩
    · exact wp_of_run (run_add1 (.tmp 37) rfl rfl p HP4.out (by exact (hF 9 (he ⟨9, .data⟩ (by simp) rfl)))) ⟨upd vs 10 _, rfl, k0, inv_same hF rfl⟩
    · exact wp_of_run (run_slice_from (.tmp 36) (.tmp 38) rfl d (p + 1) (by exact (hF 8 (he ⟨8, .data⟩ (by simp) rfl))) (by exact (hF 10 (he ⟨10, .data⟩ (by simp) rfl))) HP1.out) ⟨upd vs 11 _, rfl, k0, inv_same hF rfl⟩
    · exact wp_of_run (run_add_s (.tmp 35) (.tmp 39) rfl rfl _ _ (by exact (hF 7 (he ⟨7, .data⟩ (by simp) rfl))) (by exact (hF 11 (he ⟨11, .data⟩ (by simp) rfl))) HL3.out HL4.out) ⟨upd vs 12 _, rfl, k0, inv_same hF rfl⟩
    · exact wp_of_run (run_assign (.tmp 40) rfl _ (by exact (hF 12 (he ⟨12, .data⟩ (by simp) rfl)))) ⟨upd vs 13 _, rfl, k0, inv_same hF rfl⟩
  case fin =>
    rintro D ac wz hD ⟨vs, rfl, k0, hF⟩
    have h13 : vs 13 = .string ⟨(d.take p ++ [UInt8.ofNat cc] ++ d.drop (p + 1)).toArray⟩ := hF 13 (hD 13 (by simp))
    have XZ : Hid (Ext W0 wz) := X04.out.trans ((Ext.drew w4).trans k0)
    rw [h13]
    have hgz := (Below.block XZ.out g (lt_of_heap HG.out)).trans HG.out
    clear hD hF h13 k0 hc0 hc1 hc2
    generalize vs = ws
    have hc0 := cell8 hgz 0
    simp at hc0
    obtain ⟨t, hte⟩ : ∃ t, t = d.take p ++ [UInt8.ofNat cc] ++ d.drop (p + 1) := ⟨_, rfl⟩
    rw [← hte]
    clear hte hgz
    go_wp2_with fail
    rw [extract_take, min_take]
    have hrl : (q.take 20).length ≤ 20 := by rw [List.length_take]; omega
    obtain ⟨r, hre⟩ : ∃ r, r = q.take 20 := ⟨_, rfl⟩
    rw [← hre] at hrl ⊢
    have Hr := Lib.hid hrl
    clear hre hrl
    refine wp_region_inv (fun D ac w' => ∃ vs : Nat → Value, ac = { tmps := #[.string ⟨k.toArray⟩, .string ⟨m.toArray⟩, .agg #[.string ⟨q.toArray⟩, .int .u8 (at_ : Int), .int .u8 (cc : Int)], undef, undef, .pointer (some ⟨g, 0, none⟩), .bool false, .bool true, .string ⟨d.toArray⟩, .int .i64 (p : Int), .string ⟨t.toArray⟩, .string ⟨r.toArray⟩, undef, undef, .bool true, .string ⟨s0.toArray⟩, .string ⟨k.toArray⟩, .string ⟨u0.toArray⟩, .string ⟨m.toArray⟩, .string ⟨k.toArray⟩, .string ⟨m.toArray⟩, .string ⟨d.toArray⟩, .pointer (some ⟨g, 1, none⟩), .int .u8 (at_ : Int), .int .i64 (at_ : Int), .string ⟨d.toArray⟩, .int .i64 8, .int .i64 (p : Int), ws 0, ws 1, ws 2, ws 3, ws 4, ws 5, ws 6, ws 7, ws 8, ws 9, ws 10, ws 11, ws 12, .pointer (some ⟨g, 0, none⟩), .string ⟨q.toArray⟩, .pointer (some ⟨g, 0, none⟩), .string ⟨q.toArray⟩, .int .i64 (q.length : Int), .int .i64 (min (q.length : Int) 20), .string ⟨r.toArray⟩, vs 0, vs 1, vs 2, vs 3, vs 4, vs 5, vs 6, vs 7, vs 8, vs 9, vs 10, vs 11, vs 12, vs 13, vs 14, undef, undef, undef, undef, undef, undef, undef, undef, undef, undef, undef, undef, undef, undef, undef, undef, undef, undef, undef, undef, undef], defers := [] } ∧ Ext wz.drew w' ∧ ∀ j, D j → mk7F k m d t r p j (vs j) w') (by kernel_rfl) (by kernel_rfl) ?start2 ?step2 ?fin2
    case start2 => exact ⟨fun _ => undef, rfl, Ext.refl _, fun _ h => h.elim⟩
    case step2 =>
      rintro i o D ac wy hio hnd he ⟨vs, rfl, k0, hF⟩
      rcases i with _ | _ | _ | _ | _ | _ | _ | _ | _ | _ | _ | _ | _ | _ | _ | i
      rotate_left 15
      · exact absurd hio (by simp)
      all_goals (obtain rfl := Option.some.inj (hio.symm.trans (by rfl)))
      · exact wp_of_run (run_move (.tmp 8) rfl _ rfl) ⟨upd vs 0 _, rfl, k0, inv_same hF rfl⟩
      · exact wp_of_run (run_move (.tmp 10) rfl _ rfl) ⟨upd vs 1 _, rfl, k0, inv_same hF rfl⟩
      · exact wp_of_run (run_move (.tmp 11) rfl _ rfl) ⟨upd vs 2 _, rfl, k0, inv_same hF rfl⟩
      · exact wp_of_run (run_move (.tmp 8) rfl _ rfl) ⟨upd vs 3 _, rfl, k0, inv_same hF rfl⟩
      · exact wp_of_run (run_move (.tmp 9) rfl _ rfl) ⟨upd vs 4 _, rfl, k0, inv_same hF rfl⟩
      · exact wp_of_run (run_slice_to (.tmp 51) (.tmp 52) rfl d p (by exact (hF 3 (he ⟨3, .data⟩ (by simp) rfl))) (by exact (hF 4 (he ⟨4, .data⟩ (by simp) rfl))) HP.out) ⟨upd vs 5 _, rfl, k0, inv_same hF rfl⟩
      · exact wp_of_run (run_move (.tmp 1) rfl _ rfl) ⟨upd vs 6 _, rfl, k0, inv_same hF rfl⟩
      · exact wp_of_run (run_move (.tmp 0) rfl _ rfl) ⟨upd vs 7 _, rfl, k0, inv_same hF rfl⟩
      · refine wp_of_callE (run_enter2 15 (.tmp 54) (.tmp 55) _ rfl _ _ (by exact (hF 6 (he ⟨6, .data⟩ (by simp) rfl))) (by exact (hF 7 (he ⟨7, .data⟩ (by simp) rfl))) ent_rmark) (rmark_calls m k (by have := Hm.out; omega) (by have := Hk.out; omega) wy) ?_
        rintro e w' ⟨rfl, hx⟩
        exact ⟨_, rfl, upd vs 8 _, rfl, k0.trans hx, inv_step hF (fun j v h => mk7F_mono hx j v h) rfl⟩
      · exact wp_of_run (run_move (.tmp 11) rfl _ rfl) ⟨upd vs 9 _, rfl, k0, inv_same hF rfl⟩
      · exact wp_of_run (run_move (.tmp 1) rfl _ rfl) ⟨upd vs 10 _, rfl, k0, inv_same hF rfl⟩
      · refine wp_of_callE (run_enter2 15 (.tmp 57) (.tmp 58) _ rfl _ _ (by exact (hF 9 (he ⟨9, .data⟩ (by simp) rfl))) (by exact (hF 10 (he ⟨10, .data⟩ (by simp) rfl))) ent_rmark) (rmark_calls r m (by have := Hr.out; omega) (by have := Hm.out; omega) wy) ?_
        rintro e w' ⟨rfl, hx⟩
        exact ⟨_, rfl, upd vs 11 _, rfl, k0.trans hx, inv_step hF (fun j v h => mk7F_mono hx j v h) rfl⟩
      · exact wp_of_run (run_build6 (.tmp 48) (.tmp 49) (.tmp 50) (.tmp 53) (.tmp 56) (.tmp 59) rfl _ _ _ _ _ _ (by exact (hF 0 (he ⟨0, .data⟩ (by simp) rfl))) (by exact (hF 1 (he ⟨1, .data⟩ (by simp) rfl))) (by exact (hF 2 (he ⟨2, .data⟩ (by simp) rfl))) (by exact (hF 5 (he ⟨5, .data⟩ (by simp) rfl))) (by exact (hF 8 (he ⟨8, .data⟩ (by simp) rfl))) (by exact (hF 11 (he ⟨11, .data⟩ (by simp) rfl)))) ⟨upd vs 12 _, rfl, k0.trans (Ext.alloc _ _), inv_step hF (fun j v h => mk7F_mono (Ext.alloc _ _) j v h) ⟨_, rfl, heap_alloc_new _ _⟩⟩
      · obtain ⟨g2, hg1, hg2⟩ := (hF 12 (he ⟨12, .data⟩ (by simp) rfl))
        exact wp_of_run (run_len_sl (.tmp 60) _ rfl rfl _ 6 6 (by exact hg1)) ⟨upd vs 13 _, rfl, k0, inv_same hF rfl⟩
      · exact wp_of_run (run_move (.const (.int .i64 0)) rfl _ rfl) ⟨upd vs 14 _, rfl, k0, inv_same hF rfl⟩
    case fin2 =>
      rintro D ac wy hD ⟨vs, rfl, k0, hF⟩
      obtain ⟨G, h12, hrow⟩ := hF 12 (hD 12 (by simp))
      have h13 : vs 13 = .int .i64 6 := hF 13 (hD 13 (by simp))
      have h14 : vs 14 = .int .i64 0 := hF 14 (hD 14 (by simp))
      have XY : Hid (Ext w wy) := X0.out.trans (XZ.out.trans ((Ext.drew wz).trans k0))
      have HRow := Lib.hid hrow
      rw [h12, h13, h14]
      clear hD hF h12 h13 h14 k0 hrow hc0
      generalize vs = us
      go_wp2_with fail
      go_loopw [62] (fun i wr => ∃ z : Nat, z ≤ 6 ∧ i = .int .i64 (z : Int) ∧ Ext wy wr) (fun i _ => 6 - (intOf i).toNat)
      case atStart => exact ⟨0, Nat.zero_le _, rfl, Ext.refl _⟩
      case round =>
        obtain ⟨z, hz, rfl, hx⟩ := hrel
        have Hx := Lib.hid hx
        by_cases hz6 : z < 6
        · obtain ⟨x, hxz⟩ : ∃ x, (six k m d t r p)[z]? = some x := ⟨_, List.getElem?_eq_getElem hz6⟩
          have hcell : wr.cell? ⟨G, z, none⟩ = some (.string ⟨x.toArray⟩) := by
            rw [cell8 ((Below.block hx G (lt_of_heap HRow.out)).trans HRow.out)]
            simp [hxz, encT]
          clear hx hxz
          go_wp2_with fail
          refine (check_calls k m x (by have := Hk.out; omega) (by have := Hm.out; omega) _).mono ?_
          rintro e wa ⟨rfl, hxa⟩
          rw [← HD.out]
          obtain ⟨b, hb⟩ : ∃ b, b = decide (k ≠ [] ∧ x = d) := ⟨_, rfl⟩
          rw [← hb]
          have Hb := Lib.hid hb
          clear hb
          go_wp2_with fail
          refine (rcheck_calls k m x (by have := Hk.out; omega) (by have := Hm.out; omega) _).mono ?_
          rintro e wb ⟨rfl, hxb⟩
          rw [← HD.out, ← Hb.out]
          go_wp2_with fail
          go_roundw
          case rel => exact ⟨z + 1, by omega, by go_num, Hx.out.trans (hxa.trans hxb)⟩
          case measure => simp [intOf]; omega
        · have hz' : z = 6 := by omega
          subst hz'
          clear hx
          go_wp2_with fail
          refine (mark_calls k m (by have := Hk.out; omega) (by have := Hm.out; omega) _).mono ?_
          rintro e wa ⟨rfl, hxa⟩
          rw [← HD.out]
          go_wp2_with fail
          go_ret
          exact ⟨rfl, XY.out.trans (Hx.out.trans hxa)⟩

end Go.Proofs.Ytblpalhnjkfjoaa
