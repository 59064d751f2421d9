
/- The reference of layer 1: Text of right numbers. -/
import Derived.Test.YtdaipflgcgefgaaGreatDoorGcdNo
import Derived.Test.YtdaipflgcgefgaaGreatDoorTenMath
import Derived.Laws.IdiomStrings
set_option linter.all false
namespace Go.Proofs.YtdaipflgcgefgaaGreatDoor
open Go Go.RowKit Go.Shelf

theorem owns_shrink {w : World} {base g n cap k : Nat} {ds : List Nat} (h : w.ownsRow base 87 1 (.slice (some ⟨g, 0, none⟩) n cap) n (u32l ds)) (hk : k ≤ n) (hk2 : ds.length = n) : w.ownsRow base 87 1 (.slice (some ⟨g, 0, none⟩) k cap) k (u32l (ds.take k)) := by
  obtain ⟨hl, ⟨e, -⟩ | ⟨g', cap', cur, e, hb, hc, hn, hcm, hcs, hx⟩⟩ := h
  · cases e
  · cases e
    refine ⟨by rw [u32l_length, List.length_take, Nat.mul_one]; omega, .inr ⟨g, cap, cur, rfl, hb, hc, by omega, hcm, hcs, ?_⟩⟩
    rw [Nat.mul_one] at hx ⊢
    have e2 : (cur.toList.take n).take k = (u32l ds).take k := by rw [hx]
    rw [List.take_take, Nat.min_eq_left hk] at e2
    rw [e2]
    simp [u32l, List.map_take]
theorem owns_ext {w w' : World} {base n : Nat} {v : Value} {xs : List Value} (h : w.ownsRow base 87 1 v n xs) (hx : Ext w w') : w'.ownsRow base 87 1 v n xs := by
  obtain ⟨hl, h | ⟨g', cap', cur, e, hb, hc, hr⟩⟩ := h
  · exact ⟨hl, .inl h⟩
  · exact ⟨hl, .inr ⟨g', cap', cur, e, hb, (Below.block hx g' (Array.getElem?_eq_some_iff.1 hc).1).trans hc, hr⟩⟩
theorem lim_ten (k : Nat) : B32 ^ k ≤ 10 ^ (10 * k) := by
  have h1 : B32 ≤ 10 ^ 10 := by decide
  rw [Nat.pow_mul]
  exact Nat.pow_le_pow_left h1 k
theorem dec_lenN {V : Nat} (h : V < B32 ^ 64) : (Lib.decDigits V).length ≤ 640 := by
  rw [Lib.decDigits_length]
  have := (pad_dec (10 * 64) (by decide) (Nat.lt_of_lt_of_le h (lim_ten 64))).2
  omega
/-- The text so far: what is to come ahead of it are the digits of V. -/
def Tail (V0 V : Nat) (L : List UInt8) : Prop := (V = 0 → L = Lib.decDigits V0) ∧ (0 < V → Lib.decDigits V ++ L = Lib.decDigits V0)
theorem Tail.len {V0 V : Nat} {L : List UInt8} (h : Tail V0 V L) (hV : V0 < B32 ^ 64) : L.length ≤ 640 := by
  have h0 := dec_lenN hV
  rcases Nat.eq_zero_or_pos V with e | e
  · rw [h.1 e]; exact h0
  · rw [← h.2 e, List.length_append] at h0; omega
theorem Tail.step {V0 V : Nat} {L : List UInt8} (h : Tail V0 V L) (hV : 0 < V) : Tail V0 (V / 10) ([UInt8.ofNat (48 + V % 10)] ++ L) := by
  have h2 := h.2 hV
  constructor
  · intro e
    rw [← h2, Lib.decDigits_one (by omega : V < 10), show V % 10 = V by omega]
  · intro e
    rw [← List.append_assoc, ← dec_step (by omega : 10 ≤ V)]
    exact h2
theorem text_one_back (w : World) (n : Nat) (h : n < 256) (t : TypeId) : (convert 100 9 (.slice (some ⟨w.heap.size, 0, none⟩) 1 1)).run Tryz.prog (w.alloc (.cells #[.int .u8 (n : Int)] t)) = .ok (.string ⟨[UInt8.ofNat n].toArray⟩) (w.alloc (.cells #[.int .u8 (n : Int)] t)) := by
  have := run_convert_bytes_back (P := Tryz.prog) (w.alloc (.cells #[.int .u8 (n : Int)] t)) 100 9 5 ⟨w.heap.size, 0, none⟩ 1 [UInt8.ofNat n] Tryz.underlying100 Tryz.underlying5 Tryz.underlying9 (fun j hj => by
    have hj8 : j < 1 := hj
    obtain rfl : j = 0 := by omega
    rw [show Addr.add ⟨w.heap.size, 0, none⟩ 0 = ⟨w.heap.size, 0, none⟩ by simp [Addr.add], World.cell?_alloc_mark]
    show some (Value.int .u8 (n : Int)) = some (Value.int .u8 ((UInt8.ofNat n).toNat : Int))
    rw [show (UInt8.ofNat n).toNat = n % 256 by simp, Nat.mod_eq_of_lt h])
  exact this

set_option maxRecDepth 100000 in
set_option maxHeartbeats 8000000 in
theorem rtext_ok (va : Value) (z : Int) (w : World) (ha : ZNum w.heap.size w va z) :
    Calls Tryz.prog 52 #[va] w fun e w' => e = .returned (.string ⟨(decInt z).toArray⟩) ∧ Ext w w' := by
  obtain ⟨p, c, rfl⟩ := ha.parts
  have hua := znum_slice ha
  obtain ⟨na, hna⟩ : ∃ na, na = decide (z < 0) := ⟨_, rfl⟩
  obtain ⟨V0, hV0⟩ : ∃ V0, V0 = z.natAbs := ⟨_, rfl⟩
  have hra : rightB na (digs V0) = true := right_z na (by rw [hV0]; exact ha.2) (fun h0 => by rw [hna]; simp; omega)
  have hlx : V0 < B32 ^ 64 := by rw [hV0]; exact ha.2
  rw [← hna, ← hV0]
  rw [← hV0] at hua
  have Hdec : Hid (decInt z = if na = true then 45 :: Lib.decDigits V0 else Lib.decDigits V0) := by
    show _ = _
    unfold decInt
    rw [hna, hV0]
    by_cases h : z < 0 <;> simp [h]
  have Hz0 : Hid (V0 = 0 → decInt z = [48]) := fun e => by
    obtain rfl : z = 0 := by omega
    unfold decInt
    rw [if_neg (by decide)]
    exact Lib.decDigits_one (by decide : 0 < 10)
  clear hna hV0 ha
  obtain ⟨n, hn⟩ : ∃ n, n = (digs V0).length := ⟨_, rfl⟩
  rw [← hn] at hua ⊢
  obtain ⟨W1, hW1⟩ : ∃ W1, W1 = w.alloc (.cells #[.bool na, .slice p n c] 25) := ⟨_, rfl⟩
  have HB1 : Hid (Ext w W1) := by rw [hW1]; exact Ext.alloc _ _
  have HR1 : Hid (RowAt W1 w.heap.size 25 (numCells na p n c)) := by rw [hW1]; exact RowAt.new _ _ _
  have HA := Lib.hid (HB1.out.u32s hua)
  have HW1 := Lib.hid hW1
  have HR := Lib.hid (rright_calls na _ _ W1 HA.out)
  rw [hra] at HR
  have Hlx := Lib.hid hlx
  have Hn := Lib.hid hn
  clear hW1 hua hra hlx hn
  go_enter Tryz.func52, Tryz.ntmps52
  go_wp2_with fail
  rw [← HW1.out]
  refine HR.out.mono ?_
  rintro e w1 ⟨rfl, hb1⟩
  have Hb1 := Lib.hid hb1
  have HR2 := Lib.hid (hb1.row HR1.out)
  have HA1 := Lib.hid (hb1.u32s HA.out)
  have h0 := HR2.out.num0
  have h1 := HR2.out.num1
  clear hb1
  by_cases hv0 : V0 = 0
  · obtain rfl : n = 0 := by rw [Hn.out, hv0]; exact digs_zero_len
    have Hz1 := Lib.hid (Hz0.out hv0)
    clear hv0
    go_wp2_with fail
    go_ret
    exact ⟨by rw [Hz1.out]; rfl, HB1.out.trans Hb1.out⟩
  · have hn0 : 0 < n := by rw [Hn.out]; exact digs_pos_len (Nat.pos_of_ne_zero hv0)
    have hn0b : ((n : Int) == 0) = false := by simp; omega
    have hn64 : n ≤ 64 := by rw [Hn.out]; exact digs_len64 Hlx.out
    obtain ⟨b, off, rfl, -, hcs⟩ : ∃ b off, p = some ⟨b, off, none⟩ ∧ b < w1.heap.size ∧ ∀ j, j < n → w1.cell? ⟨b, off + j, none⟩ = some (.int .u32 (((digs V0)[j]?.getD 0 : Nat) : Int)) := by
      obtain ⟨p', c', e, -, hc⟩ := HA1.out
      cases e
      obtain ⟨b, off, e, hb, hcs⟩ := hc (by rw [← Hn.out]; exact hn0)
      exact ⟨b, off, e, hb, fun j hj => hcs j (by rw [← Hn.out]; exact hj)⟩
    have hbl : b < w1.heap.size := by
      obtain ⟨p', c', e, -, hc⟩ := HA1.out
      cases e
      obtain ⟨b', off', e, hb, -⟩ := hc (by rw [← Hn.out]; exact hn0)
      cases e
      exact hb
    obtain ⟨i0, hi, hz0, hz1, hz2⟩ := info_parts info_u32
    have hnl : (u32l (digs V0)).length = n := by rw [u32l_length, Hn.out]
    have Hc1 : Hid (∀ o (j : Nat) (u : Value), (u32l (digs V0))[j]? = some u → (w1.alloc o).cell? (Addr.add ⟨b, off, none⟩ j) = some u) := fun o j u hj => by
      have hj' : j < (digs V0).length := by have := (List.getElem?_eq_some_iff.1 hj).1; rw [u32l_length] at this; exact this
      have e1 : (w1.alloc o).cell? ⟨b, off + j, none⟩ = w1.cell? ⟨b, off + j, none⟩ := (Ext.alloc w1 o).cell (p := ⟨b, off + j, none⟩) hbl
      rw [show Addr.add ⟨b, off, none⟩ j = ⟨b, off + j, none⟩ by simp [Addr.add], e1, hcs j (by rw [Hn.out]; exact hj'), ← hj, u32l_get hj']
    have Hown0 : Hid ((w1.alloc (.cells #[] 87)).ownsRow w1.heap.size 87 1 (.slice (some ⟨w1.heap.size, 0, none⟩) 0 0) 0 []) := World.ownsRow_lit w1 #[] 0 (Nat.le_refl _) (by decide) rfl
    have Hv0 := Lib.hid (Nat.pos_of_ne_zero hv0)
    have ha1 : (w1.alloc (.cells #[] 87)).cell? ⟨w.heap.size, 1, none⟩ = some (.slice (some ⟨b, off, none⟩) n c) := ((Ext.alloc w1 _).cell (p := ⟨w.heap.size, 1, none⟩) HR2.out.lt).trans h1
    clear hcs hv0 hbl
    go_wp2_with (at_builtin; refine wpList_append_own _ rfl (.tmp 14) (.tmp 16) 23 rfl w1.heap.size 87 i0 (.int .u32 0) 1 4 Tryz.underlying23 hi hz0 hz1 hz2 rfl (by decide) _ _ _ rfl Hown0.out ⟨b, off, none⟩ n c (u32l (digs V0)) rfl (by rw [hnl, Nat.mul_one]) (Hc1.out _) (u32l_one _) (by unfold maxLen; omega) (by omega) (by simp) ?_; intro v' w2 hown' hgrow _; obtain ⟨g, c2, rfl, hge, hc2, ho2, hx2⟩ := made_own2 hnl hn0 rfl hown' hgrow; have Ho2 := Lib.hid ho2; have Hx2 := Lib.hid hx2; clear hown' hgrow ho2 hx2)
    go_wp2_with fail
    go_loopg [3, 4] V0 (fun V d out wr => ∃ (k : Nat) (L : List UInt8), d = .slice (some ⟨g, 0, none⟩) k c2 ∧ out = .string ⟨L.toArray⟩ ∧ k = (digs V).length ∧ k ≤ n ∧ V < B32 ^ 64 ∧ Tail V0 V L ∧ wr.ownsRow w1.heap.size 87 1 (.slice (some ⟨g, 0, none⟩) k c2) k (u32l (digs V)) ∧ Ext w1 wr)
    case atStart => exact ⟨n, [], rfl, rfl, Hn.out, Nat.le_refl _, Hlx.out, ⟨fun e => by have := Hv0.out; omega, fun _ => by simp⟩, Ho2.out, Hx2.out⟩
    case round =>
      obtain ⟨k, L, rfl, rfl, hk, hkn, hVl, hT, ho, hx⟩ := hrel
      have HT := Lib.hid hT
      have Ho := Lib.hid ho
      have HX := Lib.hid hx
      have HVl := Lib.hid hVl
      have hLl := hT.len Hlx.out
      have HLl := Lib.hid hLl
      have hLs : (⟨L.toArray⟩ : ByteArray).size = L.length := by simp [ByteArray.size]
      by_cases hV0 : gk = 0
      · obtain rfl : k = 0 := by rw [hk, hV0]; exact digs_zero_len
        have HL := Lib.hid (hT.1 hV0)
        have hn1 := (hx.row HR2.out).num0
        clear hV0 hk hT ho hx hVl
        cases na
        · go_wp2_with fail
          go_ret
          exact ⟨by rw [Hdec.out, HL.out]; rfl, (HB1.out.trans Hb1.out).trans HX.out⟩
        · have h45 : (⟨#[45]⟩ : ByteArray).size = 1 := rfl
          go_wp2_with fail
          go_ret
          refine ⟨?_, (HB1.out.trans Hb1.out).trans HX.out⟩
          rw [Hdec.out, HL.out]
          show Ending.returned (Value.string ((⟨#[45]⟩ : ByteArray) ++ ⟨(Lib.decDigits V0).toArray⟩)) = _
          rw [show (⟨#[45]⟩ : ByteArray) = ⟨[(45 : UInt8)].toArray⟩ from rfl, bytes_append]
          rfl
      · have hk0 : 0 < k := by rw [hk]; exact digs_pos_len (Nat.pos_of_ne_zero hV0)
        obtain ⟨V, hVg⟩ : ∃ V, V = gk := ⟨_, rfl⟩
        rw [← hVg] at hk HT Ho HVl hV0
        have HV0 := Lib.hid (Nat.pos_of_ne_zero hV0)
        have hVgk : V ≤ gk := by rw [hVg]; exact Nat.le_refl _
        have HVgk : Hid (V = gk) := hVg
        have Hk := Lib.hid hk
        have hk64 : k ≤ 64 := by omega
        have Hdig := Lib.hid (digs_digits V)
        clear hV0 hVg hk hT ho hx hVl hVgk
        have hLl0 : L.length ≤ 640 := hLl
        go_wp2_with fail
        go_loopg [5, 6] k (fun j r i wq => j ≤ k ∧ i = .int .i64 ((j : Int) - 1) ∧ r = .int .u64 ((tens ((digs V).drop j)).2 : Nat) ∧ wq.ownsRow w1.heap.size 87 1 (.slice (some ⟨g, 0, none⟩) k c2) k (u32l (tenTo (digs V) j)) ∧ Ext w1 wq)
        case atStart =>
          refine ⟨Nat.le_refl _, rfl, ?_, ?_, HX.out⟩
          · rw [List.drop_eq_nil_of_le (by rw [← Hk.out]; exact Nat.le_refl _)]; rfl
          · rw [Hk.out, tenTo_all, ← Hk.out]; exact Ho.out
        case round =>
          obtain ⟨hj, rfl, rfl, hq, hxq⟩ := hrel
          have Hq := Lib.hid hq
          have Hxq := Lib.hid hxq
          clear hxq
          cases gk with
          | zero =>
            have Hdt := Lib.hid (tenTo_digits Hdig.out)
            have hlen : (tenTo (digs V) 0).length = k := by rw [tenTo_length (Nat.zero_le _)]; exact Hk.out.symm
            have hr10 := tens_rest ((digs V).drop 0)
            rw [List.drop_zero] at hr10 ⊢
            have hv := tens_zero (digs V)
            rw [val_digs] at hv
            obtain ⟨rs, hrs⟩ : ∃ rs, rs = (tens (digs V)).2 := ⟨_, rfl⟩
            rw [← hrs] at hr10 hv ⊢
            have Hval : Hid (val (tenTo (digs V) 0) = V / 10) := by show _ = _; rw [tenTo_zero]; exact hv.1
            have Hrs : Hid (rs = V % 10) := hv.2
            have Hlen := Lib.hid hlen
            have HTr := Lib.hid (trim_digs (p := some ⟨g, 0, none⟩) (cap := c2) hlen (Owns.u32s (ds := tenTo (digs V) 0) (by unfold Owns; rw [hlen]; exact hq) (by rw [hlen]; unfold maxLen; omega)) (.inr (Nat.le_trans hkn hc2)) Hdt.out)
            clear hq hlen hv hrs
            go_wp2_with fail
            refine HTr.out.mono ?_
            rintro e wt ⟨k2, rfl, hk2, hkk, hu2, hxt⟩
            rw [Hval.out] at hk2
            have Hk2 := Lib.hid hk2
            have Hkk := Lib.hid hkk
            have Hxt := Lib.hid hxt
            have Ho3 : Hid (wt.ownsRow w1.heap.size 87 1 (.slice (some ⟨g, 0, none⟩) k2 c2) k2 (u32l (digs (V / 10)))) := by
              have h1 := owns_shrink (owns_ext Hq.out hxt) hkk Hlen.out
              have h2 : (tenTo (digs V) 0).take k2 = digs (V / 10) := by
                have e2 : (strip (tenTo (digs V) 0)) = digs (V / 10) := by rw [strip_digs Hdt.out, Hval.out]
                rw [hk2, ← e2]
                exact strip_take _
              rw [h2] at h1
              exact h1
            clear hk2 hu2 hxt
            have hw8 : IntKind.u8.wrap (48 + (rs : Int)) = ((48 + rs : Nat) : Int) := by simp [IntKind.wrap, IntKind.bits, IntKind.signed]; omega
            have hm8 : (48 + (rs : Int)) % 256 = ((48 + rs : Nat) : Int) := by omega
            have E48 : Hid (48 + (rs : Int) = ((48 + rs : Nat) : Int)) := by show _ = _; omega
            have Hrlt : Hid (48 + rs < 256) := by show _ < _; omega
            have HL640 := Lib.hid hLl0
            go_wp2_with fail
            rw [E48.out]
            obtain ⟨cb, hcb⟩ : ∃ cb, cb = UInt8.ofNat (48 + rs) := ⟨_, rfl⟩
            rw [text_one_back wt (48 + rs) Hrlt.out, ← hcb]
            have Hcb := Lib.hid hcb
            clear hcb
            simp only [Result.andThen]
            rw [Oper.upon_value]
            have hcs1 : (⟨[cb].toArray⟩ : ByteArray).size = 1 := rfl
            obtain ⟨wv, hwv⟩ : ∃ wv, wv = wt.alloc (.cells #[.int .u8 ((48 + rs : Nat) : Int)] 5) := ⟨_, rfl⟩
            have Hxv : Hid (Ext wt wv) := by rw [hwv]; exact Ext.alloc _ _
            rw [← hwv]
            clear hwv
            go_wp2_with fail
            go_roundg (V / 10)
            case measure => have h1 := HVgk.out; have h2 := HV0.out; omega
            case rel =>
              refine ⟨k2, [UInt8.ofNat (48 + V % 10)] ++ L, rfl, ?_, Hk2.out, Nat.le_trans Hkk.out hkn, Nat.lt_of_le_of_lt (Nat.div_le_self _ _) HVl.out, HT.out.step HV0.out, owns_ext Ho3.out Hxv.out, (Hxq.out.trans Hxt.out).trans Hxv.out⟩
              rw [← Hrs.out, ← Hcb.out]
              exact congrArg Value.string (bytes_append _ _)
          | succ i =>
            have hi : i < k := by omega
            have hil : i < (digs V).length := by rw [← Hk.out]; exact hi
            have hcell := owns_cell hq hi
            rw [tenTo_get hil] at hcell
            have hfz := World.ownsRow.frozenAt hq i
            have hr10 := tens_rest ((digs V).drop (i + 1))
            have hdB := Hdig.out.getD i
            have Hset := Lib.hid (tenTo_set hil)
            have Hrest := Lib.hid (congrArg Prod.snd (tens_drop hil))
            obtain ⟨rs, hrs⟩ : ∃ rs, rs = (tens ((digs V).drop (i + 1))).2 := ⟨_, rfl⟩
            obtain ⟨d, hd⟩ : ∃ d, d = (digs V)[i]?.getD 0 := ⟨_, rfl⟩
            rw [← hrs] at hr10 Hset Hrest ⊢
            rw [← hd] at hcell hdB Hset Hrest
            unfold B32 at hdB
            have Hhq := Lib.hid hq
            rw [show (((i + 1 : Nat) : Int) - 1) = (i : Int) by omega]
            have hiI : (i : Int) < (k : Int) := by omega
            have hi0 : (0 : Int) ≤ (i : Int) := by omega
            clear hq hil hrs hd
            go_wp2_with fail
            go_roundg i
            case measure => omega
            case rel =>
              refine ⟨by omega, rfl, ?_, ?_, Below.setCell Hxq.out (p := ⟨g, i, none⟩) hge _⟩
              · rw [show (tens ((digs V).drop i)).2 = (rs * B32 + d) % 10 from Hrest.out]
                unfold B32
                congr 1
              · have h1 := owns_stored Hhq.out i ((rs * B32 + d) / 10)
                rw [Hset.out] at h1
                rw [show (((rs * B32 + d) / 10 : Nat) : Int) = ((rs : Int) * 4294967296 + (d : Int)) / 10 by unfold B32; omega] at h1
                exact h1

end Go.Proofs.YtdaipflgcgefgaaGreatDoor
