/- What the laws of wire call: SameInts, SameTexts, cut. (Written by gen_law1.py.) -/
import Derived.Test.YtckhbejgkgpilaaDoorEl
import Derived.BigQuiet
import Derived.Lib.MinMax
import Derived.Deep.RegionLaw
import Derived.Laws.AppendOwn
set_option linter.all false
namespace Go.Proofs.YtckhbejgkgpilaaDoor
open Go Go.RowKit Go.Shelf

theorem take_next {α : Type} {xs ys : List α} {k : Nat} {x : α} (hx : xs[k]? = some x) (hy : ys[k]? = some x) (h : xs.take k = ys.take k) : xs.take (k + 1) = ys.take (k + 1) := by
  rw [List.take_add_one, List.take_add_one, hx, hy, h]

set_option maxRecDepth 100000 in
set_option maxHeartbeats 2000000 in
theorem sameInts_calls (v u : Value) (xs ys : List Int) (S S2 : Nat → Prop) (w : World) (hx : SlOf encI S w v xs) (hy : SlOf encI S2 w u ys) :
    Calls Tryd.prog 26 #[v, u] w fun e w' => e = .returned (.bool (decide (xs = ys))) ∧ Ext w w' := by
  obtain ⟨p, cap, rfl, hl, hc⟩ := hx
  obtain ⟨q, cap2, rfl, hl2, hc2⟩ := hy
  unfold maxLen at hl hl2
  obtain ⟨n, hn⟩ : ∃ n, n = xs.length := ⟨_, rfl⟩
  obtain ⟨m, hm⟩ : ∃ m, m = ys.length := ⟨_, rfl⟩
  rw [← hn] at hl ⊢
  rw [← hm] at hl2 ⊢
  have Hn := Lib.hid hn
  have Hm := Lib.hid hm
  have Hc := Lib.hid hc
  have Hc2 := Lib.hid hc2
  clear hn hm hc hc2
  by_cases hnm : n = m
  case neg =>
    have hne : decide (xs = ys) = false := decide_eq_false (fun e => hnm (by rw [Hn.out, Hm.out, e]))
    rw [hne]
    have h1 : ((n : Int) == (m : Int)) = false := by simp; omega
    have Hnm := Lib.hid hnm
    clear hnm
    go_enter Tryd.func26, Tryd.ntmps26
    go_wp2
    go_ret
    exact ⟨rfl, Ext.refl _⟩
  subst hnm
  go_enter Tryd.func26, Tryd.ntmps26
  go_wp2
  go_loopw [5] (fun i wr => ∃ k : Nat, k ≤ n ∧ i = .int .i64 (k : Int) ∧ xs.take k = ys.take k ∧ Ext w wr) (fun i _ => n - (intOf i).toNat)
  case atStart => exact ⟨0, Nat.zero_le _, rfl, by simp, Ext.refl _⟩
  case round =>
    obtain ⟨k, hk, rfl, he, hB⟩ := hrel
    have He := Lib.hid he
    have HB := Lib.hid hB
    clear he hB
    by_cases hlt : k < n
    · obtain ⟨x, hx⟩ : ∃ x, xs[k]? = some x := ⟨_, List.getElem?_eq_getElem (by rw [← Hn.out]; exact hlt)⟩
      obtain ⟨y, hy⟩ : ∃ y, ys[k]? = some y := ⟨_, List.getElem?_eq_getElem (by rw [← Hm.out]; exact hlt)⟩
      obtain ⟨b, off, rfl, -, hbl, hcs⟩ := Hc.out (by rw [← Hn.out]; omega)
      obtain ⟨b2, off2, rfl, -, hbl2, hcs2⟩ := Hc2.out (by rw [← Hm.out]; omega)
      have hcx := (Below.cell HB.out (p := ⟨b, off + k, none⟩) hbl).trans (hcs k x hx)
      have hcy := (Below.cell HB.out (p := ⟨b2, off2 + k, none⟩) hbl2).trans (hcs2 k y hy)
      unfold encI at hcx hcy
      have Hx := Lib.hid hx
      have Hy := Lib.hid hy
      clear hcs hcs2 hx hy
      by_cases hxy : x = y
      · subst hxy
        have hbb : (x == x) = true := by simp
        go_wp2
        go_quiet (fail)
        go_wp2
        go_roundw
        case rel => exact ⟨k + 1, by omega, by go_num, take_next Hx.out Hy.out He.out, HB.out.trans (Ext.drewN _ _)⟩
        case measure => simp [intOf]; omega
      · have hbb : (x == y) = false := by simp [hxy]
        have hne : decide (xs = ys) = false := decide_eq_false (fun e => hxy (by have h1 := Hx.out; rw [e, Hy.out] at h1; exact (Option.some.inj h1).symm))
        have Hne := Lib.hid hne
        have Hxy := Lib.hid hxy
        clear hxy hne
        go_wp2
        go_quiet (fail)
        go_wp2
        go_ret
        exact ⟨by rw [Hne.out]; rfl, HB.out.trans (Ext.drewN _ _)⟩
    · have hkn : k = n := by omega
      subst hkn
      have hxy : xs = ys := by have h := He.out; rwa [List.take_of_length_le (by rw [← Hn.out]; exact Nat.le_refl _), List.take_of_length_le (by rw [← Hm.out]; exact Nat.le_refl _)] at h
      have hne : decide (xs = ys) = true := decide_eq_true hxy
      have Hne := Lib.hid hne
      clear hxy hne
      go_wp2
      go_ret
      exact ⟨by rw [Hne.out]; rfl, HB.out⟩

set_option maxRecDepth 100000 in
set_option maxHeartbeats 2000000 in
theorem sameTexts_calls (v u : Value) (xs ys : List Bs) (S S2 : Nat → Prop) (w : World) (hx : SlOf encT S w v xs) (hy : SlOf encT S2 w u ys) :
    Calls Tryd.prog 29 #[v, u] w fun e w' => e = .returned (.bool (decide (xs = ys))) ∧ Ext w w' := by
  obtain ⟨p, cap, rfl, hl, hc⟩ := hx
  obtain ⟨q, cap2, rfl, hl2, hc2⟩ := hy
  unfold maxLen at hl hl2
  obtain ⟨n, hn⟩ : ∃ n, n = xs.length := ⟨_, rfl⟩
  obtain ⟨m, hm⟩ : ∃ m, m = ys.length := ⟨_, rfl⟩
  rw [← hn] at hl ⊢
  rw [← hm] at hl2 ⊢
  have Hn := Lib.hid hn
  have Hm := Lib.hid hm
  have Hc := Lib.hid hc
  have Hc2 := Lib.hid hc2
  clear hn hm hc hc2
  by_cases hnm : n = m
  case neg =>
    have hne : decide (xs = ys) = false := decide_eq_false (fun e => hnm (by rw [Hn.out, Hm.out, e]))
    rw [hne]
    have h1 : ((n : Int) == (m : Int)) = false := by simp; omega
    have Hnm := Lib.hid hnm
    clear hnm
    go_enter Tryd.func29, Tryd.ntmps29
    go_wp2
    go_ret
    exact ⟨rfl, Ext.refl _⟩
  subst hnm
  go_enter Tryd.func29, Tryd.ntmps29
  go_wp2
  go_loopw [5] (fun i wr => ∃ k : Nat, k ≤ n ∧ i = .int .i64 (k : Int) ∧ xs.take k = ys.take k ∧ Ext w wr) (fun i _ => n - (intOf i).toNat)
  case atStart => exact ⟨0, Nat.zero_le _, rfl, by simp, Ext.refl _⟩
  case round =>
    obtain ⟨k, hk, rfl, he, hB⟩ := hrel
    have He := Lib.hid he
    have HB := Lib.hid hB
    clear he hB
    by_cases hlt : k < n
    · obtain ⟨x, hx⟩ : ∃ x, xs[k]? = some x := ⟨_, List.getElem?_eq_getElem (by rw [← Hn.out]; exact hlt)⟩
      obtain ⟨y, hy⟩ : ∃ y, ys[k]? = some y := ⟨_, List.getElem?_eq_getElem (by rw [← Hm.out]; exact hlt)⟩
      obtain ⟨b, off, rfl, -, hbl, hcs⟩ := Hc.out (by rw [← Hn.out]; omega)
      obtain ⟨b2, off2, rfl, -, hbl2, hcs2⟩ := Hc2.out (by rw [← Hm.out]; omega)
      have hcx := (Below.cell HB.out (p := ⟨b, off + k, none⟩) hbl).trans (hcs k x hx)
      have hcy := (Below.cell HB.out (p := ⟨b2, off2 + k, none⟩) hbl2).trans (hcs2 k y hy)
      unfold encT at hcx hcy
      have Hx := Lib.hid hx
      have Hy := Lib.hid hy
      clear hcs hcs2 hx hy
      by_cases hxy : x = y
      · subst hxy
        have hbb : (x == x) = true := by simp
        go_wp2
        go_quiet (fail)
        go_wp2
        go_roundw
        case rel => exact ⟨k + 1, by omega, by go_num, take_next Hx.out Hy.out He.out, HB.out.trans (Ext.drewN _ _)⟩
        case measure => simp [intOf]; omega
      · have hbb : (x == y) = false := by simp [hxy]
        have hne : decide (xs = ys) = false := decide_eq_false (fun e => hxy (by have h1 := Hx.out; rw [e, Hy.out] at h1; exact (Option.some.inj h1).symm))
        have Hne := Lib.hid hne
        have Hxy := Lib.hid hxy
        clear hxy hne
        go_wp2
        go_quiet (fail)
        go_wp2
        go_ret
        exact ⟨by rw [Hne.out]; rfl, HB.out.trans (Ext.drewN _ _)⟩
    · have hkn : k = n := by omega
      subst hkn
      have hxy : xs = ys := by have h := He.out; rwa [List.take_of_length_le (by rw [← Hn.out]; exact Nat.le_refl _), List.take_of_length_le (by rw [← Hm.out]; exact Nat.le_refl _)] at h
      have hne : decide (xs = ys) = true := decide_eq_true hxy
      have Hne := Lib.hid hne
      clear hxy hne
      go_wp2
      go_ret
      exact ⟨by rw [Hne.out]; rfl, HB.out⟩

/-- append to a slice of the call's own, as one step of a region that draws its order. -/
theorem step_append_own {P : Program} {ops : Array Oper} {o : Oper} {a : Act} {w : World} {K : Act → World → Prop} {Q : Exit → Act → World → Prop} {E : Prop}
    (hg : o.guard = none) (s x : Operand) (t : TypeId) (hop : o.op = Op.call { callee := Callee.builtin Builtin.append, args := #[s, x], argTypes := #[t, t] })
    (base : Nat) (e : TypeId) (i : TypeInfo) (z : Value) (size bytes : Nat) (ht : P.underlying t = some (.slice e)) (hi : P.info? e = some i) (hz : i.zero = some z)
    (hsize : i.size = size) (hby : i.bytes = bytes) (hzs : z.cells.size = size) (hsz : 0 < size)
    (v : Value) (n : Nat) (xs : List Value) (hs : a.eval s = v) (hown : w.ownsRow base e size v n xs)
    (ad : Addr) (m c : Nat) (news : List Value) (hx : a.eval x = .slice (some ad) m c) (hl : news.length = m * size) (hnews : ∀ j u, news[j]? = some u → w.cell? (ad.add j) = some u) (h1 : ∀ u ∈ news, u.oneCell' = true)
    (h63 : n + m ≤ maxLen) (hbytes : (n + m) * bytes ≤ 140737488355328) (hbase : base ≤ w.heap.size)
    (hK : ∀ v' w', w'.ownsRow base e size v' (n + m) (xs ++ news) → w.grownBy w' v.ownBlock → K (a.put o.dst v') w') :
    if Region.wanted o (yielded ops a.tmps) = true then Oper.wp P o a w K Q else E := by
  have hw : Region.wanted o (yielded ops a.tmps) = true := by simp [Region.wanted, hg]
  rw [if_pos hw]
  obtain ⟨v', w', hrun, r1, r2, -⟩ := run_append_own (P := P) w base t o.type e i z size bytes ht hi hz hsize hby hzs hsz v n xs hown ad m c news hl hnews h1 h63 hbytes hbase
  unfold Oper.wp
  simp [execOp, hop, resolve, invoke, builtin, hs, hx, hrun, Result.andThen]
  exact hK v' w' r1 r2
/-- The strings that cut returns. -/
def cutL (l : List Bs) : List Bs := (l.take 20).map (·.take 100)
theorem cutL_next {l : List Bs} {k : Nat} {x : Bs} (h : l[k]? = some x) : (l.take (k + 1)).map (·.take 100) = (l.take k).map (·.take 100) ++ [x.take 100] := by
  rw [List.take_add_one, h]; simp
set_option maxRecDepth 100000 in
set_option maxHeartbeats 2000000 in
theorem cutl_calls (v : Value) (xs : List Bs) (S : Nat → Prop) (w : World) (hx : SlOf encT S w v xs) (hs : ∀ x ∈ xs, x.length ≤ 9223372036854775807) :
    Calls Tryd.prog 11 #[v] w fun e w' => ∃ v', e = .returned v' ∧ SlOf encT (fun b => w.heap.size ≤ b) w' v' (cutL xs) ∧ Ext w w' := by
  obtain ⟨p, cap, rfl, hl, hc⟩ := hx
  unfold maxLen at hl
  obtain ⟨i0, hi, hz0, hz1, hz2⟩ : ∃ i, Tryd.prog.info? 9 = some i ∧ i.zero = some (.string ⟨#[]⟩) ∧ i.size = 1 ∧ i.bytes = 16 := by
    have h : (Tryd.prog.info? 9).map (fun i => (i.zero, i.size, i.bytes)) = some (some (.string ⟨#[]⟩), 1, 16) := by kernel_rfl
    obtain ⟨i, hi, e⟩ := Option.map_eq_some_iff.1 h
    simp only [Prod.mk.injEq] at e
    exact ⟨i, hi, e.1, e.2.1, e.2.2⟩
  obtain ⟨n, hn⟩ : ∃ n, n = xs.length := ⟨_, rfl⟩
  rw [← hn] at hl ⊢
  have Hn := Lib.hid hn
  have Hc := Lib.hid hc
  have Hs := Lib.hid hs
  clear hn hc hs
  go_enter Tryd.func11, Tryd.ntmps11
  go_wp2
  go_loopw [3, 4] (fun v i wr => ∃ k : Nat, k ≤ n ∧ k ≤ 20 ∧ i = .int .i64 (k : Int) ∧ OwnsE encT 9 wr w.heap.size v ((xs.take k).map (·.take 100)) ∧ Ext w wr) (fun _ i _ => 20 - (intOf i).toNat)
  case atStart => exact ⟨0, Nat.zero_le _, by omega, rfl, OwnsE.nil, Ext.refl _⟩
  case round =>
    obtain ⟨k, hk, hk20, rfl, ho, hB⟩ := hrel
    obtain ⟨pv, cv, rfl⟩ := ho.shape
    have hlen : ((xs.take k).map (·.take 100)).length = k := by rw [List.length_map, List.length_take, ← Hn.out]; omega
    by_cases hlt : k < n ∧ k < 20
    · obtain ⟨x, hx⟩ : ∃ x, xs[k]? = some x := ⟨_, List.getElem?_eq_getElem (by rw [← Hn.out]; exact hlt.1)⟩
      obtain ⟨b, off, rfl, -, hbl, hcs⟩ := Hc.out (by rw [← Hn.out]; omega)
      have hcx := (Below.cell hB (p := ⟨b, off + k, none⟩) hbl).trans (hcs k x hx)
      have hcx' : wr.drew.cell? ⟨b, off + k, none⟩ = some (encT x) := hcx
      unfold encT at hcx hcx'
      have hlt1 := hlt.1
      have hlt2 := hlt.2
      have hsz := bytes_size x
      obtain ⟨y, hy⟩ : ∃ y, y = x.take 100 := ⟨_, rfl⟩
      have htk : (⟨x.toArray⟩ : ByteArray).extract 0 (min x.length 100) = ⟨y.toArray⟩ := by
        rw [bytes_take, hy]
        congr 2
        rcases Nat.le_total x.length 100 with h | h
        · rw [Nat.min_eq_left h, List.take_of_length_le (Nat.le_refl _), List.take_of_length_le h]
        · rw [Nat.min_eq_right h]
      have hm1 : min (x.length : Int) 100 = ((min x.length 100 : Nat) : Int) := by omega
      have hm2 : min x.length 100 ≤ x.length := Nat.min_le_left _ _
      have hxl := Hs.out x (List.mem_of_getElem? hx)
      have hBw : w.heap.size ≤ wr.heap.size := Below.size hB
      have hown : ∀ o, (wr.drew.alloc o).ownsRow w.heap.size 9 1 (.slice pv k cv) k (((xs.take k).map (·.take 100)).map encT) := fun o => by
        have h : (wr.drew.alloc o).ownsRow w.heap.size 9 1 (.slice pv ((xs.take k).map (·.take 100)).length cv) ((xs.take k).map (·.take 100)).length (((xs.take k).map (·.take 100)).map encT) := World.ownsRow.alloc (World.ownsRow.drew ho) o
        rw [hlen] at h; exact h
      have hoo : OwnsE encT 9 wr.drew w.heap.size (.slice pv k cv) ((xs.take k).map (·.take 100)) := by have h := World.ownsRow.drew ho; rw [hlen] at h; unfold OwnsE; rw [hlen]; exact h
      have Hoo := Lib.hid hoo
      have Hown := Lib.hid hown
      have Hlen := Lib.hid hlen
      have HB := Lib.hid hB
      have Hx := Lib.hid hx
      have Hy := Lib.hid hy
      have Hbw := Lib.hid hBw
      rw [hlen]
      clear hoo hown hlen hB hx hy hcs hlt ho hBw hbl
      go_wp2
      go_region_law (refine step_append_own rfl (.tmp 15) (.tmp 27) 23 rfl w.heap.size 9 i0 (.string ⟨#[]⟩) 1 16 Tryd.underlying23 hi hz0 hz1 hz2 rfl (by decide) _ _ _ rfl (Hown.out _) ⟨wr.heap.size, 0, none⟩ 1 1 [encT y] rfl rfl (cell_one_own _ _ _) (by intro u hu; simp at hu; subst hu; rfl) (by unfold maxLen; omega) (by omega) (by have := Hbw.out; simp; omega) ?_; intro v' w4 hown' hgrow; obtain ⟨ho1, hb1⟩ := own_step Hoo.out Hlen.out Hbw.out hown' hgrow; have Ho1 := Lib.hid ho1; have Hb1 := Lib.hid hb1; clear hown' hgrow ho1 hb1)
      all_goals go_wp2
      all_goals exact ⟨⟨k + 1, by omega, by omega, by go_num, by rw [cutL_next Hx.out, ← Hy.out]; exact Ho1.out, Below.trans (HB.out.trans (Ext.drew _)) Hb1.out⟩, by simp [intOf]; omega⟩
    · have hend : (xs.take k).map (·.take 100) = cutL xs := by
        unfold cutL
        congr 1
        rcases (by omega : k = n ∨ k = 20) with rfl | rfl
        · rw [List.take_of_length_le (by rw [← Hn.out]; exact Nat.le_refl _), List.take_of_length_le (by rw [← Hn.out]; omega)]
        · rfl
      rw [hlen]
      have hs := ho.sl (by rw [hlen]; unfold maxLen; omega)
      rw [hlen, hend] at hs
      have Hs2 := Lib.hid hs
      have HB := Lib.hid hB
      clear hs hB ho hlen hend
      by_cases hkn : k < n
      · have hk2 : ¬ (k < 20) := by omega
        go_wp2
        go_ret
        exact ⟨_, rfl, Hs2.out, HB.out⟩
      · go_wp2
        go_ret
        exact ⟨_, rfl, Hs2.out, HB.out⟩

end Go.Proofs.YtckhbejgkgpilaaDoor
