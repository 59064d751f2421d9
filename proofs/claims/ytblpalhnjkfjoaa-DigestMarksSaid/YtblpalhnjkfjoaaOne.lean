/- DigestOne, as a walk. -/
import Derived.Test.YtblpalhnjkfjoaaOps
set_option linter.all false
namespace Go.Proofs.Ytblpalhnjkfjoaa
open Go Go.RowKit Go.Shelf

theorem xor_ne (c : UInt8) (e : Nat) (he : e < 256) (h0 : 0 < e) : c ≠ UInt8.ofNat (c.toNat ^^^ e) := by
  intro h
  have hx : c.toNat ^^^ e < 2 ^ 8 := Nat.xor_lt_two_pow c.toNat_lt (by omega)
  have h1 := congrArg UInt8.toNat h
  rw [u8_toNat, Nat.mod_eq_of_lt (by simpa using hx)] at h1
  have h2 : c.toNat ^^^ (c.toNat ^^^ e) = c.toNat ^^^ c.toNat := congrArg (c.toNat ^^^ ·) h1.symm
  rw [← Nat.xor_assoc, Nat.xor_self, Nat.zero_xor] at h2
  omega
/-- What the drawn operations hold: k a place, c the byte there, e what it is turned by. -/
def oneF (s : Bs) (k cc e : Nat) (c : UInt8) : Nat → Value → World → Prop
  | 0, v, _ => v = .string ⟨s.toArray⟩
  | 1, v, _ => v = .int .i64 (k : Int)
  | 2, v, _ => v = .string ⟨(s.take k).toArray⟩
  | 3, v, _ => v = .string ⟨s.toArray⟩
  | 4, v, _ => v = .int .i64 (k : Int)
  | 5, v, _ => v = .int .u8 (c.toNat : Int)
  | 6, v, _ => v = .int .u8 (cc : Int)
  | 7, v, _ => v = .int .u8 (e : Int)
  | 8, v, _ => v = .int .u8 ((c.toNat ^^^ e : Nat) : Int)
  | 9, v, w => ∃ g, v = .slice (some ⟨g, 0, none⟩) 1 1 ∧ w.heap[g]? = some (.cells #[.int .u8 ((c.toNat ^^^ e : Nat) : Int)] 5)
  | 10, v, _ => v = .string ⟨[UInt8.ofNat (c.toNat ^^^ e)].toArray⟩
  | 11, v, _ => v = .string ⟨(s.take k ++ [UInt8.ofNat (c.toNat ^^^ e)]).toArray⟩
  | 12, v, _ => v = .string ⟨s.toArray⟩
  | 13, v, _ => v = .int .i64 (k : Int)
  | 14, v, _ => v = .int .i64 ((k + 1 : Nat) : Int)
  | 15, v, _ => v = .string ⟨(s.drop (k + 1)).toArray⟩
  | 16, v, _ => v = .string ⟨(s.take k ++ [UInt8.ofNat (c.toNat ^^^ e)] ++ s.drop (k + 1)).toArray⟩
  | 17, v, _ => v = .string ⟨(s.take k ++ [UInt8.ofNat (c.toNat ^^^ e)] ++ s.drop (k + 1)).toArray⟩
  | _, _, _ => True
theorem oneF_mono {s : Bs} {k cc e : Nat} {c : UInt8} {w w' : World} (hx : Ext w w') : ∀ (j : Nat) (v : Value), oneF s k cc e c j v w → oneF s k cc e c j v w'
  | 0, _, h | 1, _, h | 2, _, h | 3, _, h | 4, _, h | 5, _, h | 6, _, h | 7, _, h | 8, _, h | 10, _, h | 11, _, h | 12, _, h | 13, _, h | 14, _, h | 15, _, h | 16, _, h | 17, _, h => h
  | 9, _, ⟨g, hv, hg⟩ => ⟨g, hv, (Below.block hx g (lt_of_heap hg)).trans hg⟩
  | _ + 18, _, _ => trivial

set_option maxRecDepth 100000 in
set_option maxHeartbeats 2000000 in
theorem digestOne_walk (s0 : Bs) (at_ cc : Nat) (hat : at_ < 65536) (hcc : cc < 256) (w : World) : Calls Try.prog 6 #[.string ⟨s0.toArray⟩, .int .u16 (at_ : Int), .int .u8 (cc : Int)] w fun e w' => e = .returned (.bool true) ∧ Ext w w' := by
  go_enter Try.func6, Try.ntmps6
  go_wp2_with fail
  refine (sanity_calls _).mono ?_
  rintro e w1 ⟨rfl, hx1⟩
  go_wp2_with fail
  refine (cut_calls s0 _).mono ?_
  rintro e w2 ⟨rfl, hx2⟩
  have ht := take_short s0
  obtain ⟨s, hse⟩ : ∃ t, t = s0.take 300 := ⟨_, rfl⟩
  rw [← hse] at ht ⊢
  have X2 := Lib.hid (hx1.trans hx2)
  clear hse hx1 hx2
  have hsz := bytes_size s
  obtain ⟨n, hn⟩ : ∃ n, n = s.length := ⟨_, rfl⟩
  rw [← hn] at ht hsz
  by_cases h0 : n = 0
  · have Hn := Lib.hid hn
    clear hn
    subst h0
    go_wp2_with fail
    go_ret
    exact ⟨rfl, X2.out⟩
  · have hn1 : ((n : Int) == 0) = false := by simp; omega
    obtain ⟨k, hk⟩ : ∃ k, k = at_ % n := ⟨_, rfl⟩
    have hkn : k < n := by rw [hk]; exact Nat.mod_lt _ (by omega)
    have hk1 : (at_ : Int) % (n : Int) = (k : Int) := by rw [hk]; omega
    have hk2 : (at_ : Int).tmod (n : Int) = (k : Int) := by rw [Int.tmod_eq_emod_of_nonneg (by omega)]; exact hk1
    have hk3 : IntKind.i64.wrap (k : Int) = (k : Int) := by rw [IntKind.wrap_i64]; omega
    have Hn := Lib.hid hn
    clear hn hk
    go_wp2_with fail
    obtain ⟨c, hc⟩ : ∃ c, s[k]? = some c := ⟨_, List.getElem?_eq_getElem (by rw [← Hn.out]; exact hkn)⟩
    have HC := Lib.hid hc
    obtain ⟨x, hx⟩ : ∃ x, x = max cc 1 := ⟨_, rfl⟩
    have HE : Hid (max (cc : Int) 1 = (x : Int)) := by show _ = _; omega
    have HX : Hid (x < 256) := by show _ < _; omega
    have HX0 : Hid (0 < x) := by show _ < _; omega
    have HZ : Hid (c.toNat ^^^ x < 256) := Nat.xor_lt_two_pow (n := 8) c.toNat_lt HX.out
    have HK : Hid (k ≤ s.length) := by show _ ≤ _; rw [← Hn.out]; omega
    have HK1 : Hid (k + 1 ≤ s.length) := by show _ ≤ _; rw [← Hn.out]; omega
    have HK4 : Hid (k < 4294967296) := by show _ < _; omega
    have HL1 : Hid ((s.take k).length ≤ 8388608) := by show _ ≤ _; rw [List.length_take]; omega
    have HL2 : Hid ([UInt8.ofNat (c.toNat ^^^ x)].length ≤ 8388608) := by show _ ≤ _; simp
    have HL3 : Hid ((s.take k ++ [UInt8.ofNat (c.toNat ^^^ x)]).length ≤ 8388608) := by show _ ≤ _; rw [List.length_append, List.length_take]; simp only [List.length_cons, List.length_nil]; omega
    have HL4 : Hid ((s.drop (k + 1)).length ≤ 8388608) := by show _ ≤ _; rw [List.length_drop, ← Hn.out]; omega
    clear hc hx
    refine wp_region_inv (fun D ac w' => ∃ vs : Nat → Value, ac = { tmps := #[.string ⟨s.toArray⟩, .int .u16 (at_ : Int), .int .u8 (cc : Int), undef, undef, undef, .bool false, .bool true, .int .i64 (k : Int), vs 17, .bool true, .string ⟨s0.toArray⟩, .string ⟨s.toArray⟩, .string ⟨s.toArray⟩, .int .i64 (n : Int), .bool false, undef, .int .u16 (at_ : Int), .int .i64 (at_ : Int), .string ⟨s.toArray⟩, .int .i64 (n : Int), .int .i64 (k : Int), vs 0, vs 1, vs 2, vs 3, vs 4, vs 5, vs 6, vs 7, vs 8, vs 9, vs 10, vs 11, vs 12, vs 13, vs 14, vs 15, vs 16, undef, undef, undef, undef, undef, undef, undef, undef, undef, undef, undef, undef, undef, undef, undef, undef, undef, undef, undef, undef, undef, undef], defers := [] } ∧ Ext w2.drew w' ∧ ∀ j, D j → oneF s k cc x c j (vs j) w') (by kernel_rfl) (by kernel_rfl) ?start ?step ?fin
    case start => exact ⟨fun _ => undef, rfl, Ext.refl _, fun _ h => h.elim⟩
    case step =>
      rintro i o D ac wz hio hnd he ⟨vs, rfl, k0, hF⟩
      rcases i with _ | _ | _ | _ | _ | _ | _ | _ | _ | _ | _ | _ | _ | _ | _ | _ | _ | _ | i
      rotate_left 18
      · exact absurd hio (by simp)
      all_goals (obtain rfl := Option.some.inj (hio.symm.trans (by rfl)))
      · exact wp_of_run (run_move (.tmp 0) rfl _ rfl) ⟨upd vs 0 _, rfl, k0, inv_same hF rfl⟩
      · exact wp_of_run (run_move (.tmp 8) rfl _ rfl) ⟨upd vs 1 _, rfl, k0, inv_same hF rfl⟩
      · exact wp_of_run (run_slice_to (.tmp 22) (.tmp 23) rfl s k (by exact (hF 0 (he ⟨0, .data⟩ (by simp) rfl))) (by exact (hF 1 (he ⟨1, .data⟩ (by simp) rfl))) HK.out) ⟨upd vs 2 _, rfl, k0, inv_same hF rfl⟩
      · exact wp_of_run (run_move (.tmp 0) rfl _ rfl) ⟨upd vs 3 _, rfl, k0, inv_same hF rfl⟩
      · exact wp_of_run (run_move (.tmp 8) rfl _ rfl) ⟨upd vs 4 _, rfl, k0, inv_same hF rfl⟩
      · exact wp_of_run (run_index_s (.tmp 25) (.tmp 26) rfl s k c (by exact (hF 3 (he ⟨3, .data⟩ (by simp) rfl))) (by exact (hF 4 (he ⟨4, .data⟩ (by simp) rfl))) HC.out) ⟨upd vs 5 _, rfl, k0, inv_same hF rfl⟩
      · exact wp_of_run (run_move (.tmp 2) rfl _ rfl) ⟨upd vs 6 _, rfl, k0, inv_same hF rfl⟩
      · exact wp_of_run (run_max_u8 (.tmp 28) 1 _ rfl rfl rfl cc _ (by exact (hF 6 (he ⟨6, .data⟩ (by simp) rfl))) HE.out) ⟨upd vs 7 _, rfl, k0, inv_same hF rfl⟩
      · exact wp_of_run (run_xor_u8 (.tmp 27) (.tmp 29) rfl rfl c.toNat x c.toNat_lt HX.out (by exact (hF 5 (he ⟨5, .data⟩ (by simp) rfl))) (by exact (hF 7 (he ⟨7, .data⟩ (by simp) rfl)))) ⟨upd vs 8 _, rfl, k0, inv_same hF rfl⟩
      · exact wp_of_run (run_build1 (.tmp 30) rfl _ (by exact (hF 8 (he ⟨8, .data⟩ (by simp) rfl)))) ⟨upd vs 9 _, rfl, k0.trans (Ext.alloc _ _), inv_step hF (fun j v h => oneF_mono (Ext.alloc _ _) j v h) ⟨_, rfl, heap_alloc_new _ _⟩⟩
      · obtain ⟨g, hg1, hg2⟩ := (hF 9 (he ⟨9, .data⟩ (by simp) rfl))
        exact wp_of_run (run_back1 (.tmp 31) rfl g _ HZ.out _ (by exact hg1) hg2) ⟨upd vs 10 _, rfl, k0, inv_same hF rfl⟩
      · exact wp_of_run (run_add_s (.tmp 24) (.tmp 32) rfl rfl _ _ (by exact (hF 2 (he ⟨2, .data⟩ (by simp) rfl))) (by exact (hF 10 (he ⟨10, .data⟩ (by simp) rfl))) HL1.out HL2.out) ⟨upd vs 11 _, rfl, k0, inv_same hF rfl⟩
      · exact wp_of_run (run_move (.tmp 0) rfl _ rfl) ⟨upd vs 12 _, rfl, k0, inv_same hF rfl⟩
      · exact wp_of_run (run_move (.tmp 8) rfl _ rfl) ⟨upd vs 13 _, rfl, k0, inv_same hF rfl⟩
      · exact wp_of_run (run_add1 (.tmp 35) rfl rfl k HK4.out (by exact (hF 13 (he ⟨13, .data⟩ (by simp) rfl)))) ⟨upd vs 14 _, rfl, k0, inv_same hF rfl⟩
      · exact wp_of_run (run_slice_from (.tmp 34) (.tmp 36) rfl s (k + 1) (by exact (hF 12 (he ⟨12, .data⟩ (by simp) rfl))) (by exact (hF 14 (he ⟨14, .data⟩ (by simp) rfl))) HK1.out) ⟨upd vs 15 _, rfl, k0, inv_same hF rfl⟩
      · exact wp_of_run (run_add_s (.tmp 33) (.tmp 37) rfl rfl _ _ (by exact (hF 11 (he ⟨11, .data⟩ (by simp) rfl))) (by exact (hF 15 (he ⟨15, .data⟩ (by simp) rfl))) HL3.out HL4.out) ⟨upd vs 16 _, rfl, k0, inv_same hF rfl⟩
      · exact wp_of_run (run_assign (.tmp 38) rfl _ (by exact (hF 16 (he ⟨16, .data⟩ (by simp) rfl)))) ⟨upd vs 17 _, rfl, k0, inv_same hF rfl⟩
    case fin =>
      rintro D ac wz hD ⟨vs, rfl, k0, hF⟩
      have h17 : vs 17 = .string ⟨(s.take k ++ [UInt8.ofNat (c.toNat ^^^ x)] ++ s.drop (k + 1)).toArray⟩ := hF 17 (hD 17 (by simp))
      have XZ := Lib.hid (X2.out.trans ((Ext.drew w2).trans k0))
      rw [h17]
      clear hD hF h17 k0
      generalize vs = ws
      obtain ⟨c2, hc2⟩ : ∃ c2, c2 = UInt8.ofNat (c.toNat ^^^ x) := ⟨_, rfl⟩
      obtain ⟨t, hte⟩ : ∃ t, t = s.take k ++ [UInt8.ofNat (c.toNat ^^^ x)] ++ s.drop (k + 1) := ⟨_, rfl⟩
      rw [← hte]
      have hne : c ≠ c2 := by rw [hc2]; exact xor_ne c x HX.out HX0.out
      have hs : s = s.take k ++ c :: s.drop (k + 1) := by
        have h1 := HC.out
        have h2 : k < s.length := (List.getElem?_eq_some_iff.1 h1).1
        have h3 : s[k] = c := (List.getElem?_eq_some_iff.1 h1).2
        rw [← h3, List.getElem_cons_drop, List.take_append_drop]
      have ht2 : t = s.take k ++ c2 :: s.drop (k + 1) := by rw [hte, ← hc2]; simp
      have htl : t.length = s.length := by rw [ht2]; conv => rhs; rw [hs]
                                           simp
      have N1 : Hid ((dig s == dig t) = false ∧ dig s ≠ dig t) := by
        have : dig s ≠ dig t := by rw [hs, ht2]; exact dig_one _ _ hne
        exact ⟨by simpa using this, this⟩
      have N2 : Hid ((dig (chainL [97] s) == dig (chainL [97] t)) = false ∧ dig (chainL [97] s) ≠ dig (chainL [97] t)) := by
        have : dig (chainL [97] s) ≠ dig (chainL [97] t) := by rw [hs, ht2]; exact chain_one _ _ _ hne
        exact ⟨by simpa using this, this⟩
      have N3 : Hid ((dig (markL [97] s) == dig (markL [97] t)) = false ∧ dig (markL [97] s) ≠ dig (markL [97] t)) := by
        have : dig (markL [97] s) ≠ dig (markL [97] t) := by rw [hs, ht2]; exact mark_one _ _ _ hne
        exact ⟨by simpa using this, this⟩
      have LS : Hid (s.length ≤ 300) := by show _ ≤ _; have := Hn.out; omega
      have LT : Hid (t.length ≤ 300) := by show _ ≤ _; rw [htl]; exact LS.out
      clear hte ht2 htl hs hne hc2
      go_wp2_with fail
      refine (of_calls s (by have := LS.out; omega) _).mono ?_
      rintro e w3 ⟨rfl, hx3⟩
      go_wp2_with fail
      refine (of_calls t (by have := LT.out; omega) _).mono ?_
      rintro e w4 ⟨rfl, hx4⟩
      obtain ⟨n1, n2⟩ := N1.out
      go_wp2_with fail
      clear n1 n2
      refine (chain_calls [97] s (by simp) (by have := LS.out; omega) _).mono ?_
      rintro e w5 ⟨rfl, hx5⟩
      go_wp2_with fail
      refine (chain_calls [97] t (by simp) (by have := LT.out; omega) _).mono ?_
      rintro e w6 ⟨rfl, hx6⟩
      obtain ⟨n1, n2⟩ := N2.out
      go_wp2_with fail
      clear n1 n2
      refine (mark_calls [97] s (by simp) (by have := LS.out; omega) _).mono ?_
      rintro e w7 ⟨rfl, hx7⟩
      go_wp2_with fail
      refine (mark_calls [97] t (by simp) (by have := LT.out; omega) _).mono ?_
      rintro e w8 ⟨rfl, hx8⟩
      obtain ⟨n1, n2⟩ := N3.out
      go_wp2_with fail
      go_ret
      exact ⟨rfl, XZ.out.trans (hx3.trans (hx4.trans (hx5.trans (hx6.trans (hx7.trans hx8)))))⟩

end Go.Proofs.Ytblpalhnjkfjoaa
