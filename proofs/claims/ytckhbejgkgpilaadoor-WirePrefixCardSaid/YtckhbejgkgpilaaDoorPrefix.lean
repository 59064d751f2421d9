/- The walk of WirePrefix. (Written by gen_pf.py.) -/
import Derived.Test.YtckhbejgkgpilaaDoorValF
import Derived.BigQuiet
set_option linter.all false
namespace Go.Proofs.YtckhbejgkgpilaaDoor
open Go Go.RowKit Go.Shelf

def prefF (ga ca : Nat) (na : Int) (sa : Bs) (pa : Option Addr) (lza capa : Nat) (ua : Value) (ta : Bs) (lwa : Nat) (zta : List Int) (tta : List Bs) (gb cb : Nat) (nb : Int) (sb : Bs) (pb : Option Addr) (lzb capb : Nat) (ub : Value) (tb : Bs) (lwb : Nat) (ztb : List Int) (ttb : List Bs) (j : Nat) : Nat → Value → World → Prop
  | 0, v, _ => v = .pointer (some ⟨ga, 1, none⟩)
  | 1, v, _ => v = .int .i64 na
  | 2, v, _ => v = .string ⟨(serInt na).toArray⟩
  | 3, v, _ => v = .pointer (some ⟨ga, 2, none⟩)
  | 4, v, _ => v = .string ⟨sa.toArray⟩
  | 5, v, _ => v = .pointer (some ⟨ga, 2, none⟩)
  | 6, v, _ => v = .string ⟨sa.toArray⟩
  | 7, v, _ => v = .int .i64 sa.length
  | 8, v, _ => v = .int .i64 ((min sa.length 100 : Nat) : Int)
  | 9, v, _ => v = .string ⟨ta.toArray⟩
  | 10, v, _ => v = .string ⟨(serText ta).toArray⟩
  | 11, v, _ => v = .pointer (some ⟨ga, 3, none⟩)
  | 12, v, _ => v = .slice pa lza capa
  | 13, v, _ => v = .pointer (some ⟨ga, 3, none⟩)
  | 14, v, _ => v = .slice pa lza capa
  | 15, v, _ => v = .int .i64 lza
  | 16, v, _ => v = .int .i64 lwa
  | 17, v, _ => v = .slice pa lwa capa
  | 18, v, _ => v = .string ⟨(serL serInt zta).toArray⟩
  | 19, v, _ => v = .pointer (some ⟨ga, 4, none⟩)
  | 20, v, _ => v = ua
  | 21, v, W => SlOf encT (fun _ => True) W v tta
  | 22, v, _ => v = .string ⟨(serL serText tta).toArray⟩
  | 23, v, W => ∃ G, v = .slice (some ⟨G, 0, none⟩) 4 4 ∧ W.heap[G]? = some (.cells (parts na ta zta tta) 9 (0, 0))
  | 24, v, _ => v = .pointer (some ⟨ga, 0, none⟩)
  | 25, v, _ => v = .int .u8 ca
  | 26, v, _ => v = .int .u8 j
  | 27, v, W => ∃ G, v = .pointer (some ⟨G, j, none⟩) ∧ W.heap[G]? = some (.cells (parts na ta zta tta) 9 (0, 0))
  | 28, v, _ => v = .string ⟨(part j na ta zta tta).toArray⟩
  | 29, v, _ => v = .pointer (some ⟨gb, 1, none⟩)
  | 30, v, _ => v = .int .i64 nb
  | 31, v, _ => v = .string ⟨(serInt nb).toArray⟩
  | 32, v, _ => v = .pointer (some ⟨gb, 2, none⟩)
  | 33, v, _ => v = .string ⟨sb.toArray⟩
  | 34, v, _ => v = .pointer (some ⟨gb, 2, none⟩)
  | 35, v, _ => v = .string ⟨sb.toArray⟩
  | 36, v, _ => v = .int .i64 sb.length
  | 37, v, _ => v = .int .i64 ((min sb.length 100 : Nat) : Int)
  | 38, v, _ => v = .string ⟨tb.toArray⟩
  | 39, v, _ => v = .string ⟨(serText tb).toArray⟩
  | 40, v, _ => v = .pointer (some ⟨gb, 3, none⟩)
  | 41, v, _ => v = .slice pb lzb capb
  | 42, v, _ => v = .pointer (some ⟨gb, 3, none⟩)
  | 43, v, _ => v = .slice pb lzb capb
  | 44, v, _ => v = .int .i64 lzb
  | 45, v, _ => v = .int .i64 lwb
  | 46, v, _ => v = .slice pb lwb capb
  | 47, v, _ => v = .string ⟨(serL serInt ztb).toArray⟩
  | 48, v, _ => v = .pointer (some ⟨gb, 4, none⟩)
  | 49, v, _ => v = ub
  | 50, v, W => SlOf encT (fun _ => True) W v ttb
  | 51, v, _ => v = .string ⟨(serL serText ttb).toArray⟩
  | 52, v, W => ∃ G, v = .slice (some ⟨G, 0, none⟩) 4 4 ∧ W.heap[G]? = some (.cells (parts nb tb ztb ttb) 9 (0, 0))
  | 53, v, _ => v = .pointer (some ⟨ga, 0, none⟩)
  | 54, v, _ => v = .int .u8 ca
  | 55, v, _ => v = .int .u8 j
  | 56, v, W => ∃ G, v = .pointer (some ⟨G, j, none⟩) ∧ W.heap[G]? = some (.cells (parts nb tb ztb ttb) 9 (0, 0))
  | 57, v, _ => v = .string ⟨(part j nb tb ztb ttb).toArray⟩
  | 58, v, _ => v = .string ⟨(part j na ta zta tta).toArray⟩
  | 59, v, _ => v = .string ⟨(part j nb tb ztb ttb).toArray⟩
  | _, _, _ => True
theorem prefF_mono {ga ca : Nat} {na : Int} {sa : Bs} {pa : Option Addr} {lza capa : Nat} {ua : Value} {ta : Bs} {lwa : Nat} {zta : List Int} {tta : List Bs} {gb cb : Nat} {nb : Int} {sb : Bs} {pb : Option Addr} {lzb capb : Nat} {ub : Value} {tb : Bs} {lwb : Nat} {ztb : List Int} {ttb : List Bs} {j : Nat} {W W' : World} (hx : Ext W W') : ∀ {k : Nat} {v : Value}, prefF ga ca na sa pa lza capa ua ta lwa zta tta gb cb nb sb pb lzb capb ub tb lwb ztb ttb j k v W → prefF ga ca na sa pa lza capa ua ta lwa zta tta gb cb nb sb pb lzb capb ub tb lwb ztb ttb j k v W'
  | 0, _, h => h
  | 1, _, h => h
  | 2, _, h => h
  | 3, _, h => h
  | 4, _, h => h
  | 5, _, h => h
  | 6, _, h => h
  | 7, _, h => h
  | 8, _, h => h
  | 9, _, h => h
  | 10, _, h => h
  | 11, _, h => h
  | 12, _, h => h
  | 13, _, h => h
  | 14, _, h => h
  | 15, _, h => h
  | 16, _, h => h
  | 17, _, h => h
  | 18, _, h => h
  | 19, _, h => h
  | 20, _, h => h
  | 21, _, h => SlOf.ext h hx
  | 22, _, h => h
  | 23, _, ⟨G, h1, h2⟩ => ⟨G, h1, (Below.block hx G (Array.getElem?_eq_some_iff.1 h2).1).trans h2⟩
  | 24, _, h => h
  | 25, _, h => h
  | 26, _, h => h
  | 27, _, ⟨G, h1, h2⟩ => ⟨G, h1, (Below.block hx G (Array.getElem?_eq_some_iff.1 h2).1).trans h2⟩
  | 28, _, h => h
  | 29, _, h => h
  | 30, _, h => h
  | 31, _, h => h
  | 32, _, h => h
  | 33, _, h => h
  | 34, _, h => h
  | 35, _, h => h
  | 36, _, h => h
  | 37, _, h => h
  | 38, _, h => h
  | 39, _, h => h
  | 40, _, h => h
  | 41, _, h => h
  | 42, _, h => h
  | 43, _, h => h
  | 44, _, h => h
  | 45, _, h => h
  | 46, _, h => h
  | 47, _, h => h
  | 48, _, h => h
  | 49, _, h => h
  | 50, _, h => SlOf.ext h hx
  | 51, _, h => h
  | 52, _, ⟨G, h1, h2⟩ => ⟨G, h1, (Below.block hx G (Array.getElem?_eq_some_iff.1 h2).1).trans h2⟩
  | 53, _, h => h
  | 54, _, h => h
  | 55, _, h => h
  | 56, _, ⟨G, h1, h2⟩ => ⟨G, h1, (Below.block hx G (Array.getElem?_eq_some_iff.1 h2).1).trans h2⟩
  | 57, _, h => h
  | 58, _, h => h
  | 59, _, h => h
  | _ + 60, _, _ => trivial

def cutsF (ga gb : Nat) (a b : Value) (tta ttb : List Bs) (B : Bool) : Nat → Value → World → Prop
  | 0, v, _ => v = .pointer (some ⟨ga, 4, none⟩)
  | 1, v, _ => v = a
  | 2, v, W => SlOf encT (fun _ => True) W v tta
  | 3, v, _ => v = .pointer (some ⟨gb, 4, none⟩)
  | 4, v, _ => v = b
  | 5, v, W => SlOf encT (fun _ => True) W v ttb
  | 6, v, _ => v = .bool B
  | 7, v, _ => v = .bool B
  | _, _, _ => True
theorem cutsF_mono {ga gb : Nat} {a b : Value} {tta ttb : List Bs} {B : Bool} {W W' : World} (hx : Ext W W') : ∀ {k : Nat} {v : Value}, cutsF ga gb a b tta ttb B k v W → cutsF ga gb a b tta ttb B k v W'
  | 0, _, h => h
  | 1, _, h => h
  | 2, _, h => SlOf.ext h hx
  | 3, _, h => h
  | 4, _, h => h
  | 5, _, h => SlOf.ext h hx
  | 6, _, h => h
  | 7, _, h => h
  | _ + 8, _, _ => trivial
theorem run_enter2 {o : Oper} {a : Act} {w : World} (f : FuncId) (x y : Operand) (ts : Array TypeId) (ho : o.op = .call { callee := .value (.func f), args := #[x, y], argTypes := ts }) (u1 u2 : Value) (h1 : a.eval x = u1) (h2 : a.eval y = u2) (hf : ∀ args w, (callFunc f args).run Tryd.prog w = .ok (.enter f args) w) :
    (execOp a.eval o).run Tryd.prog w = .ok (.enter f #[u1, u2]) w := by
  have ef : a.eval (.func f) = .func (.func f) #[] #[] := rfl
  have hm : Array.map a.eval #[x, y] = #[u1, u2] := by rw [← h1, ← h2]; simp
  unfold execOp
  simp only [ho, resolve, Deferred.ofValue, invoke, ef, hm]
  simp [hf]
theorem ent_same (args : Array Value) (w : World) : (callFunc 29 args).run Tryd.prog w = .ok (.enter 29 args) w := enters_of Tryd.func29 (by kernel_rfl) rfl args w

/-- Serializations by one function are equal, or begin equally, only if the values are equal. -/
theorem ud_eq {α : Type} {ser : α → Bs} {ok : α → Prop} (hu : UD ser ok) {a b : α} (ha : ok a) (hb : ok b) : ser a = ser b ↔ a = b := ⟨fun h => (hu a b [] [] ha hb (by rw [h])).1, fun h => by rw [h]⟩
theorem ud_take {α : Type} {ser : α → Bs} {ok : α → Prop} (hu : UD ser ok) {a b : α} (ha : ok a) (hb : ok b) : (ser a).take (min (ser a).length (ser b).length) = (ser b).take (min (ser a).length (ser b).length) ↔ a = b := by
  refine ⟨fun h => ?_, fun h => by rw [h]⟩
  rcases Nat.le_total (ser a).length (ser b).length with h1 | h1
  · rw [Nat.min_eq_left h1, List.take_of_length_le (Nat.le_refl _)] at h
    obtain ⟨k, hk⟩ : ∃ k, k = (ser a).length := ⟨_, rfl⟩
    rw [← hk] at h
    have e := List.take_append_drop k (ser b)
    rw [← h] at e
    exact (hu a b ((ser b).drop k) [] ha hb (by rw [List.append_nil]; exact e)).1
  · rw [Nat.min_eq_right h1] at h
    obtain ⟨k, hk⟩ : ∃ k, k = (ser b).length := ⟨_, rfl⟩
    rw [← hk, List.take_of_length_le (l := ser b) (Nat.le_of_eq hk.symm)] at h
    have e := List.take_append_drop k (ser a)
    rw [h] at e
    exact (hu a b [] ((ser a).drop k) ha hb (by rw [List.append_nil]; exact e.symm)).1
/-- What WirePrefix holds of two strings and the bool. -/
theorem pref_facts {α : Type} [DecidableEq α] {ser : α → Bs} {ok : α → Prop} (hu : UD ser ok) {a b : α} (ha : ok a) (hb : ok b) : (ser a == ser b) = decide (a = b) ∧ ((ser a).take (min (ser a).length (ser b).length) == (ser b).take (min (ser a).length (ser b).length)) = decide (a = b) := by
  have h1 := ud_eq hu ha hb
  have h2 := ud_take hu ha hb
  by_cases h : a = b
  · subst h; simp
  · have h3 : ¬ ser a = ser b := fun e => h (h1.1 e)
    have h4 := fun e => h (h2.1 e)
    simp only [h, decide_false]
    exact ⟨by simp [h3], by simpa using h4⟩

set_option maxRecDepth 100000 in
set_option maxHeartbeats 32000000 in
theorem wirePrefix_walk (ca : Nat) (na : Int) (sa : Bs) (pa : Option Addr) (lza capa : Nat) (qa : Option Addr) (lta cba : Nat) (zsa : List Int) (tsa : List Bs) (cb : Nat) (nb : Int) (sb : Bs) (pb : Option Addr) (lzb capb : Nat) (qb : Option Addr) (ltb cbb : Nat) (zsb : List Int) (tsb : List Bs) (w0 : World) (hv : Vars w0) (hva : ValIn w0 ca na sa pa lza capa (.slice qa lta cba) zsa tsa) (hvb : ValIn w0 cb nb sb pb lzb capb (.slice qb ltb cbb) zsb tsb) :
    Calls Tryd.prog 8 #[valV ca na sa pa lza capa (.slice qa lta cba), valV cb nb sb pb lzb capb (.slice qb ltb cbb)] w0 fun e w' => e = .returned (.bool true) ∧ Ext w0 w' := by
  unfold valV
  have V0 := Lib.hid hv
  have HVa := Lib.hid hva
  obtain ⟨ta, hta⟩ : ∃ s1, s1 = sa.take 100 := ⟨_, rfl⟩
  obtain ⟨zta, hzta⟩ : ∃ zs1, zs1 = zsa.take 20 := ⟨_, rfl⟩
  obtain ⟨tta, htta⟩ : ∃ ts1, ts1 = cutL tsa := ⟨_, rfl⟩
  obtain ⟨lwa, hlwa⟩ : ∃ lz1, lz1 = min lza 20 := ⟨_, rfl⟩
  have HCUTa : Hid ((⟨sa.toArray⟩ : ByteArray).extract 0 (min sa.length 100) = ⟨ta.toArray⟩) := by show _ = _; rw [hta]; exact cut_bytes sa 100
  have HMAa : Hid (min (sa.length : Int) 100 = ((min sa.length 100 : Nat) : Int)) := by show _ = _; omega
  have HLAa : Hid (min sa.length 100 ≤ sa.length) := Nat.min_le_left _ _
  have HMBa : Hid (min (lza : Int) 20 = (lwa : Int)) := by show _ = _; omega
  have HLBa : Hid (lwa ≤ capa) := by show _ ≤ _; have := hva.hcap; omega
  have HZa : Hid (SlOf encI (fun b => b < w0.heap.size) w0 (.slice pa lwa capa) zta) := by show SlOf _ _ _ _ _; rw [hlwa, hzta]; exact hva.hz.cut 20
  have HOa : Hid (AllOk I64 zta) := by show AllOk _ _; rw [hzta]; exact hva.hzo.take 20
  have HPa : Hid (AllOk (fun x => x.length ≤ 100) tta) := by show AllOk _ _; rw [htta]; exact cutL_ok
  have HLa : Hid (ta.length ≤ 100) := by show _ ≤ _; rw [hta, List.length_take]; omega
  have HBa : Hid ((serL serInt zta).length ≤ 140737488355328) := by show _ ≤ _; have := serInts_le (k := 20) HOa.out (by rw [hzta, List.length_take]; omega); omega
  have HCa : Hid ((serL serText tta).length ≤ 140737488355328) := by show _ ≤ _; have := serTexts_le HPa.out (by rw [htta]; exact cutL_length tsa); omega
  have HTa := Lib.hid htta
  have HSa := Lib.hid hta
  have HLTa : Hid ((part (ca % 4) na ta zta tta).length ≤ 2422) := by show _ ≤ _; rw [hta, hzta, htta, part_serK]; exact (serK_len hva.hn hva.hzo).1
  have HVb := Lib.hid hvb
  obtain ⟨tb, htb⟩ : ∃ s1, s1 = sb.take 100 := ⟨_, rfl⟩
  obtain ⟨ztb, hztb⟩ : ∃ zs1, zs1 = zsb.take 20 := ⟨_, rfl⟩
  obtain ⟨ttb, httb⟩ : ∃ ts1, ts1 = cutL tsb := ⟨_, rfl⟩
  obtain ⟨lwb, hlwb⟩ : ∃ lz1, lz1 = min lzb 20 := ⟨_, rfl⟩
  have HCUTb : Hid ((⟨sb.toArray⟩ : ByteArray).extract 0 (min sb.length 100) = ⟨tb.toArray⟩) := by show _ = _; rw [htb]; exact cut_bytes sb 100
  have HMAb : Hid (min (sb.length : Int) 100 = ((min sb.length 100 : Nat) : Int)) := by show _ = _; omega
  have HLAb : Hid (min sb.length 100 ≤ sb.length) := Nat.min_le_left _ _
  have HMBb : Hid (min (lzb : Int) 20 = (lwb : Int)) := by show _ = _; omega
  have HLBb : Hid (lwb ≤ capb) := by show _ ≤ _; have := hvb.hcap; omega
  have HZb : Hid (SlOf encI (fun b => b < w0.heap.size) w0 (.slice pb lwb capb) ztb) := by show SlOf _ _ _ _ _; rw [hlwb, hztb]; exact hvb.hz.cut 20
  have HOb : Hid (AllOk I64 ztb) := by show AllOk _ _; rw [hztb]; exact hvb.hzo.take 20
  have HPb : Hid (AllOk (fun x => x.length ≤ 100) ttb) := by show AllOk _ _; rw [httb]; exact cutL_ok
  have HLb : Hid (tb.length ≤ 100) := by show _ ≤ _; rw [htb, List.length_take]; omega
  have HBb : Hid ((serL serInt ztb).length ≤ 140737488355328) := by show _ ≤ _; have := serInts_le (k := 20) HOb.out (by rw [hztb, List.length_take]; omega); omega
  have HCb : Hid ((serL serText ttb).length ≤ 140737488355328) := by show _ ≤ _; have := serTexts_le HPb.out (by rw [httb]; exact cutL_length tsb); omega
  have HTb := Lib.hid httb
  have HSb := Lib.hid htb
  have HLTb : Hid ((part (ca % 4) nb tb ztb ttb).length ≤ 2422) := by show _ ≤ _; rw [htb, hztb, httb, part_serK]; exact (serK_len hvb.hn hvb.hzo).1
  have hca := hva.hc
  have HCA := Lib.hid hca
  have HSLA := Lib.hid hva.hs
  have HSLB := Lib.hid hvb.hs
  clear hv hva hvb hta htb hzta hztb htta httb hlwa hlwb hca
  go_enter Tryd.func8, Tryd.ntmps8
  go_wp2_with fail
  have hvca := vcells_new w0 45 ca na sa pa lza capa (.slice qa lta cba)
  obtain ⟨Wa, hWa⟩ : ∃ W, W = w0.alloc (.cells #[.int .u8 ca, .int .i64 na, .string ⟨sa.toArray⟩, .slice pa lza capa, .slice qa lta cba] 45) := ⟨_, rfl⟩
  have hxa : Ext w0 Wa := by rw [hWa]; exact Ext.alloc _ _
  have hgla : w0.heap.size < Wa.heap.size := by rw [hWa]; simp
  rw [← hWa] at hvca ⊢
  obtain ⟨ga, hga⟩ : ∃ g, g = w0.heap.size := ⟨_, rfl⟩
  rw [← hga] at hvca hgla ⊢
  have hsa : w0.heap.size + 1 = Wa.heap.size := by rw [hWa]; simp
  have hvcb := vcells_new Wa 45 cb nb sb pb lzb capb (.slice qb ltb cbb)
  obtain ⟨Wb, hWb⟩ : ∃ W, W = Wa.alloc (.cells #[.int .u8 cb, .int .i64 nb, .string ⟨sb.toArray⟩, .slice pb lzb capb, .slice qb ltb cbb] 45) := ⟨_, rfl⟩
  have hxb : Ext Wa Wb := by rw [hWb]; exact Ext.alloc _ _
  have hglb : Wa.heap.size < Wb.heap.size := by rw [hWb]; simp
  rw [← hWb] at hvcb ⊢
  obtain ⟨gb, hgb⟩ : ∃ g, g = Wa.heap.size := ⟨_, rfl⟩
  rw [← hgb] at hvcb hglb
  have hgb2 : ga + 1 = gb := by rw [hga, hgb]; exact hsa
  first | rw [← hgb] | rw [show ga + 1 = gb from hgb2] | skip
  have X1 : Hid (Ext w0 Wb) := hxa.trans hxb
  have V1 : Hid (Vars Wb) := V0.out.ext X1.out
  have VCA := Lib.hid (hvca.ext hgla hxb)
  have VCB := Lib.hid hvcb
  have GA : Hid (ga < Wb.heap.size) := Nat.lt_of_lt_of_le hgla (Below.size hxb)
  have GB := Lib.hid hglb
  clear hWa hWb hxa hxb hgla hglb hvca hvcb hga hgb hsa
  go_wp2_with fail
  refine (sanity_calls Wb V1.out).mono ?_
  rintro e w2 ⟨rfl, hx2⟩
  have X2 : Hid (Ext Wb w2.drew) := hx2.trans (Ext.drew w2)
  clear hx2
  have VA2 := Lib.hid (VCA.out.ext GA.out X2.out)
  have VB2 := Lib.hid (VCB.out.ext GB.out X2.out)
  have GA2 : Hid (ga < w2.drew.heap.size) := Nat.lt_of_lt_of_le GA.out (Below.size X2.out)
  have GB2 : Hid (gb < w2.drew.heap.size) := Nat.lt_of_lt_of_le GB.out (Below.size X2.out)
  have V2 : Hid (Vars w2.drew) := V1.out.ext X2.out
  have XA : Hid (Ext w0 w2.drew) := X1.out.trans X2.out
  go_wp2
  refine wp_region_inv (fun D ac w' => ∃ vs : Nat → Value, ac = { tmps := #[valV ca na sa pa lza capa (.slice qa lta cba), valV cb nb sb pb lzb capb (.slice qb ltb cbb), .pointer (some ⟨ga, 0, none⟩), .pointer (some ⟨gb, 0, none⟩), .bool false, .bool true, vs 58, vs 59, undef, undef, .bool true, vs 0, vs 1, vs 2, vs 3, vs 4, vs 5, vs 6, vs 7, vs 8, vs 9, vs 10, vs 11, vs 12, vs 13, vs 14, vs 15, vs 16, vs 17, vs 18, vs 19, vs 20, vs 21, vs 22, vs 23, vs 24, vs 25, vs 26, vs 27, vs 28, vs 29, vs 30, vs 31, vs 32, vs 33, vs 34, vs 35, vs 36, vs 37, vs 38, vs 39, vs 40, vs 41, vs 42, vs 43, vs 44, vs 45, vs 46, vs 47, vs 48, vs 49, vs 50, vs 51, vs 52, vs 53, vs 54, vs 55, vs 56, vs 57, undef, undef, undef, undef, undef, undef, undef, undef, undef, undef, undef, undef, undef, undef, undef, undef, undef, undef, undef, undef, undef, undef, undef, undef, undef, undef, undef, undef, undef, undef, undef, undef, undef, undef, undef, undef, undef, undef, undef, undef, undef, undef, undef, undef, undef, undef, undef, undef, undef, undef, undef, undef, undef, undef, undef, undef, undef, undef, undef, undef, undef, undef, undef, undef, undef, undef, undef, undef, undef, undef, undef, undef, undef, undef, undef, undef, undef], defers := [] } ∧ Ext w2.drew w' ∧ ∀ k, D k → (prefF ga ca na sa pa lza capa (.slice qa lta cba) ta lwa zta tta gb cb nb sb pb lzb capb (.slice qb ltb cbb) tb lwb ztb ttb (ca % 4)) k (vs k) w') (by kernel_rfl) (by kernel_rfl) ?start ?step ?fin
  case start => exact ⟨fun _ => undef, rfl, Ext.refl _, fun _ h => h.elim⟩
  case step =>
    rintro i o D ac wz hio hn he ⟨vs, rfl, k0, hF⟩
    rcases i with _ | _ | _ | _ | _ | _ | _ | _ | _ | _ | _ | _ | _ | _ | _ | _ | _ | _ | _ | _ | _ | _ | _ | _ | _ | _ | _ | _ | _ | _ | _ | _ | _ | _ | _ | _ | _ | _ | _ | _ | _ | _ | _ | _ | _ | _ | _ | _ | _ | _ | _ | _ | _ | _ | _ | _ | _ | _ | _ | _ | i
    rotate_left 60
    · exact absurd hio (by simp)
    all_goals (obtain rfl := Option.some.inj (hio.symm.trans (by rfl)))
    · exact wp_of_run (run_field1 (.tmp 2) rfl ga rfl) ⟨upd vs 0 _, rfl, k0, inv_same hF rfl⟩
    · exact wp_of_run (run_load_i (.tmp 11) rfl ⟨ga, 1, none⟩ (by exact (hF 0 (he ⟨0, .data⟩ (by simp) rfl))) na (VA2.out.ext GA2.out k0).2.1) ⟨upd vs 1 _, rfl, k0, inv_same hF rfl⟩
    · refine wp_of_callE (run_enter1 12 (.tmp 12) _ rfl _ (by exact (hF 1 (he ⟨1, .data⟩ (by simp) rfl))) ent_int) (int_calls na HVa.out.hn (by have := serInt_le HVa.out.hn; omega) wz (V2.out.ext k0)) ?_
      rintro e w' ⟨rfl, hx⟩
      exact ⟨_, rfl, upd vs 2 _, rfl, k0.trans hx, inv_step hF (fun k v h => prefF_mono hx h) rfl⟩
    · exact wp_of_run (run_field2 (.tmp 2) rfl ga rfl) ⟨upd vs 3 _, rfl, k0, inv_same hF rfl⟩
    · exact wp_of_run (run_load_s (.tmp 14) rfl ⟨ga, 2, none⟩ (by exact (hF 3 (he ⟨3, .data⟩ (by simp) rfl))) ⟨sa.toArray⟩ (VA2.out.ext GA2.out k0).2.2.1) ⟨upd vs 4 _, rfl, k0, inv_same hF rfl⟩
    · exact wp_of_run (run_field2 (.tmp 2) rfl ga rfl) ⟨upd vs 5 _, rfl, k0, inv_same hF rfl⟩
    · exact wp_of_run (run_load_s (.tmp 16) rfl ⟨ga, 2, none⟩ (by exact (hF 5 (he ⟨5, .data⟩ (by simp) rfl))) ⟨sa.toArray⟩ (VA2.out.ext GA2.out k0).2.2.1) ⟨upd vs 6 _, rfl, k0, inv_same hF rfl⟩
    · exact wp_of_run (run_len_s (.tmp 17) _ rfl rfl sa (by exact (hF 6 (he ⟨6, .data⟩ (by simp) rfl)))) ⟨upd vs 7 _, rfl, k0, inv_same hF rfl⟩
    · exact wp_of_run (run_min (.tmp 18) 100 _ rfl rfl rfl sa.length _ (by exact (hF 7 (he ⟨7, .data⟩ (by simp) rfl))) HMAa.out) ⟨upd vs 8 _, rfl, k0, inv_same hF rfl⟩
    · exact wp_of_run (run_slice_s (.tmp 15) (.tmp 19) rfl sa ta (min sa.length 100) (by exact (hF 4 (he ⟨4, .data⟩ (by simp) rfl))) (by exact (hF 8 (he ⟨8, .data⟩ (by simp) rfl))) HLAa.out HCUTa.out) ⟨upd vs 9 _, rfl, k0, inv_same hF rfl⟩
    · refine wp_of_callE (run_enter1 14 (.tmp 20) _ rfl _ (by exact (hF 9 (he ⟨9, .data⟩ (by simp) rfl))) ent_text) (text_calls ta (by have := HLa.out; unfold TextOk; omega) (by have := serText_le HLa.out; omega) wz (V2.out.ext k0)) ?_
      rintro e w' ⟨rfl, hx⟩
      exact ⟨_, rfl, upd vs 10 _, rfl, k0.trans hx, inv_step hF (fun k v h => prefF_mono hx h) rfl⟩
    · exact wp_of_run (run_field3 (.tmp 2) rfl ga rfl) ⟨upd vs 11 _, rfl, k0, inv_same hF rfl⟩
    · exact wp_of_run (run_load_si (.tmp 22) rfl ⟨ga, 3, none⟩ (by exact (hF 11 (he ⟨11, .data⟩ (by simp) rfl))) pa lza capa (VA2.out.ext GA2.out k0).2.2.2.1) ⟨upd vs 12 _, rfl, k0, inv_same hF rfl⟩
    · exact wp_of_run (run_field3 (.tmp 2) rfl ga rfl) ⟨upd vs 13 _, rfl, k0, inv_same hF rfl⟩
    · exact wp_of_run (run_load_si (.tmp 24) rfl ⟨ga, 3, none⟩ (by exact (hF 13 (he ⟨13, .data⟩ (by simp) rfl))) pa lza capa (VA2.out.ext GA2.out k0).2.2.2.1) ⟨upd vs 14 _, rfl, k0, inv_same hF rfl⟩
    · exact wp_of_run (run_len_si (.tmp 25) _ rfl rfl pa lza capa (by exact (hF 14 (he ⟨14, .data⟩ (by simp) rfl)))) ⟨upd vs 15 _, rfl, k0, inv_same hF rfl⟩
    · exact wp_of_run (run_min (.tmp 26) 20 _ rfl rfl rfl lza _ (by exact (hF 15 (he ⟨15, .data⟩ (by simp) rfl))) HMBa.out) ⟨upd vs 16 _, rfl, k0, inv_same hF rfl⟩
    · exact wp_of_run (run_slice_i (.tmp 23) (.tmp 27) rfl pa lza capa lwa (by exact (hF 12 (he ⟨12, .data⟩ (by simp) rfl))) (by exact (hF 16 (he ⟨16, .data⟩ (by simp) rfl))) HLBa.out) ⟨upd vs 17 _, rfl, k0, inv_same hF rfl⟩
    · refine wp_of_callE (run_enter1 16 (.tmp 28) _ rfl _ (by exact (hF 17 (he ⟨17, .data⟩ (by simp) rfl))) ent_ints) (ints_calls _ zta _ wz (V2.out.ext k0) (HZa.out.ext (XA.out.trans k0)) HOa.out HBa.out) ?_
      rintro e w' ⟨rfl, hx⟩
      exact ⟨_, rfl, upd vs 18 _, rfl, k0.trans hx, inv_step hF (fun k v h => prefF_mono hx h) rfl⟩
    · exact wp_of_run (run_field4 (.tmp 2) rfl ga rfl) ⟨upd vs 19 _, rfl, k0, inv_same hF rfl⟩
    · exact wp_of_run (run_load_ss (.tmp 30) rfl ⟨ga, 4, none⟩ (by exact (hF 19 (he ⟨19, .data⟩ (by simp) rfl))) qa lta cba (VA2.out.ext GA2.out k0).2.2.2.2) ⟨upd vs 20 _, rfl, k0, inv_same hF rfl⟩
    · refine wp_of_callE (run_enter1 11 (.tmp 31) _ rfl _ (by exact (hF 20 (he ⟨20, .data⟩ (by simp) rfl))) ent_cut) (HTa.out ▸ cutl_calls (.slice qa lta cba) tsa _ wz (HVa.out.ht.ext (XA.out.trans k0)) HVa.out.hto) ?_
      rintro e w' ⟨v', rfl, hs, hx⟩
      exact ⟨_, rfl, upd vs 21 _, rfl, k0.trans hx, inv_step hF (fun k v h => prefF_mono hx h) (SlOf.kind hs (fun _ _ _ => trivial))⟩
    · refine wp_of_callE (run_enter1 18 (.tmp 32) _ rfl _ rfl ent_texts) (texts_calls _ tta _ wz (V2.out.ext k0) (hF 21 (he ⟨21, .data⟩ (by simp) rfl)) (ok_of_short HPa.out) HCa.out) ?_
      rintro e w' ⟨rfl, hx⟩
      exact ⟨_, rfl, upd vs 22 _, rfl, k0.trans hx, inv_step hF (fun k v h => prefF_mono hx h) rfl⟩
    · exact wp_of_run (run_build4 (.tmp 13) (.tmp 21) (.tmp 29) (.tmp 33) rfl _ _ _ _ (by exact (hF 2 (he ⟨2, .data⟩ (by simp) rfl))) (by exact (hF 10 (he ⟨10, .data⟩ (by simp) rfl))) (by exact (hF 18 (he ⟨18, .data⟩ (by simp) rfl))) (by exact (hF 22 (he ⟨22, .data⟩ (by simp) rfl)))) ⟨upd vs 23 _, rfl, k0.trans (Ext.alloc _ _), inv_step hF (fun k v h => prefF_mono (Ext.alloc _ _) h) ⟨_, rfl, heap_alloc_new _ _⟩⟩
    · exact wp_of_run (run_field0 (.tmp 2) rfl ga rfl) ⟨upd vs 24 _, rfl, k0, inv_same hF rfl⟩
    · exact wp_of_run (run_load_u8 (.tmp 35) rfl ⟨ga, 0, none⟩ (by exact (hF 24 (he ⟨24, .data⟩ (by simp) rfl))) ca (VA2.out.ext GA2.out k0).1) ⟨upd vs 25 _, rfl, k0, inv_same hF rfl⟩
    · exact wp_of_run (run_rem4 (.tmp 36) rfl rfl ca (ca % 4) HCA.out rfl (by exact (hF 25 (he ⟨25, .data⟩ (by simp) rfl)))) ⟨upd vs 26 _, rfl, k0, inv_same hF rfl⟩
    · obtain ⟨G, hG, hrow⟩ := (hF 23 (he ⟨23, .data⟩ (by simp) rfl))
      exact wp_of_run (run_index4 (.tmp 34) (.tmp 37) rfl G (ca % 4) hG (by exact (hF 26 (he ⟨26, .data⟩ (by simp) rfl))) (Nat.mod_lt _ (by decide))) ⟨upd vs 27 _, rfl, k0, inv_same hF ⟨G, rfl, hrow⟩⟩
    · obtain ⟨G, hG, hrow⟩ := (hF 27 (he ⟨27, .data⟩ (by simp) rfl))
      exact wp_of_run (run_load_s (.tmp 38) rfl ⟨G, ca % 4, none⟩ (by exact hG) _ (by rw [Lib.cell_of_heap hrow]; exact parts_at (Nat.mod_lt _ (by decide)) _ _ _ _)) ⟨upd vs 28 _, rfl, k0, inv_same hF rfl⟩
    · exact wp_of_run (run_field1 (.tmp 3) rfl gb rfl) ⟨upd vs 29 _, rfl, k0, inv_same hF rfl⟩
    · exact wp_of_run (run_load_i (.tmp 40) rfl ⟨gb, 1, none⟩ (by exact (hF 29 (he ⟨29, .data⟩ (by simp) rfl))) nb (VB2.out.ext GB2.out k0).2.1) ⟨upd vs 30 _, rfl, k0, inv_same hF rfl⟩
    · refine wp_of_callE (run_enter1 12 (.tmp 41) _ rfl _ (by exact (hF 30 (he ⟨30, .data⟩ (by simp) rfl))) ent_int) (int_calls nb HVb.out.hn (by have := serInt_le HVb.out.hn; omega) wz (V2.out.ext k0)) ?_
      rintro e w' ⟨rfl, hx⟩
      exact ⟨_, rfl, upd vs 31 _, rfl, k0.trans hx, inv_step hF (fun k v h => prefF_mono hx h) rfl⟩
    · exact wp_of_run (run_field2 (.tmp 3) rfl gb rfl) ⟨upd vs 32 _, rfl, k0, inv_same hF rfl⟩
    · exact wp_of_run (run_load_s (.tmp 43) rfl ⟨gb, 2, none⟩ (by exact (hF 32 (he ⟨32, .data⟩ (by simp) rfl))) ⟨sb.toArray⟩ (VB2.out.ext GB2.out k0).2.2.1) ⟨upd vs 33 _, rfl, k0, inv_same hF rfl⟩
    · exact wp_of_run (run_field2 (.tmp 3) rfl gb rfl) ⟨upd vs 34 _, rfl, k0, inv_same hF rfl⟩
    · exact wp_of_run (run_load_s (.tmp 45) rfl ⟨gb, 2, none⟩ (by exact (hF 34 (he ⟨34, .data⟩ (by simp) rfl))) ⟨sb.toArray⟩ (VB2.out.ext GB2.out k0).2.2.1) ⟨upd vs 35 _, rfl, k0, inv_same hF rfl⟩
    · exact wp_of_run (run_len_s (.tmp 46) _ rfl rfl sb (by exact (hF 35 (he ⟨35, .data⟩ (by simp) rfl)))) ⟨upd vs 36 _, rfl, k0, inv_same hF rfl⟩
    · exact wp_of_run (run_min (.tmp 47) 100 _ rfl rfl rfl sb.length _ (by exact (hF 36 (he ⟨36, .data⟩ (by simp) rfl))) HMAb.out) ⟨upd vs 37 _, rfl, k0, inv_same hF rfl⟩
    · exact wp_of_run (run_slice_s (.tmp 44) (.tmp 48) rfl sb tb (min sb.length 100) (by exact (hF 33 (he ⟨33, .data⟩ (by simp) rfl))) (by exact (hF 37 (he ⟨37, .data⟩ (by simp) rfl))) HLAb.out HCUTb.out) ⟨upd vs 38 _, rfl, k0, inv_same hF rfl⟩
    · refine wp_of_callE (run_enter1 14 (.tmp 49) _ rfl _ (by exact (hF 38 (he ⟨38, .data⟩ (by simp) rfl))) ent_text) (text_calls tb (by have := HLb.out; unfold TextOk; omega) (by have := serText_le HLb.out; omega) wz (V2.out.ext k0)) ?_
      rintro e w' ⟨rfl, hx⟩
      exact ⟨_, rfl, upd vs 39 _, rfl, k0.trans hx, inv_step hF (fun k v h => prefF_mono hx h) rfl⟩
    · exact wp_of_run (run_field3 (.tmp 3) rfl gb rfl) ⟨upd vs 40 _, rfl, k0, inv_same hF rfl⟩
    · exact wp_of_run (run_load_si (.tmp 51) rfl ⟨gb, 3, none⟩ (by exact (hF 40 (he ⟨40, .data⟩ (by simp) rfl))) pb lzb capb (VB2.out.ext GB2.out k0).2.2.2.1) ⟨upd vs 41 _, rfl, k0, inv_same hF rfl⟩
    · exact wp_of_run (run_field3 (.tmp 3) rfl gb rfl) ⟨upd vs 42 _, rfl, k0, inv_same hF rfl⟩
    · exact wp_of_run (run_load_si (.tmp 53) rfl ⟨gb, 3, none⟩ (by exact (hF 42 (he ⟨42, .data⟩ (by simp) rfl))) pb lzb capb (VB2.out.ext GB2.out k0).2.2.2.1) ⟨upd vs 43 _, rfl, k0, inv_same hF rfl⟩
    · exact wp_of_run (run_len_si (.tmp 54) _ rfl rfl pb lzb capb (by exact (hF 43 (he ⟨43, .data⟩ (by simp) rfl)))) ⟨upd vs 44 _, rfl, k0, inv_same hF rfl⟩
    · exact wp_of_run (run_min (.tmp 55) 20 _ rfl rfl rfl lzb _ (by exact (hF 44 (he ⟨44, .data⟩ (by simp) rfl))) HMBb.out) ⟨upd vs 45 _, rfl, k0, inv_same hF rfl⟩
    · exact wp_of_run (run_slice_i (.tmp 52) (.tmp 56) rfl pb lzb capb lwb (by exact (hF 41 (he ⟨41, .data⟩ (by simp) rfl))) (by exact (hF 45 (he ⟨45, .data⟩ (by simp) rfl))) HLBb.out) ⟨upd vs 46 _, rfl, k0, inv_same hF rfl⟩
    · refine wp_of_callE (run_enter1 16 (.tmp 57) _ rfl _ (by exact (hF 46 (he ⟨46, .data⟩ (by simp) rfl))) ent_ints) (ints_calls _ ztb _ wz (V2.out.ext k0) (HZb.out.ext (XA.out.trans k0)) HOb.out HBb.out) ?_
      rintro e w' ⟨rfl, hx⟩
      exact ⟨_, rfl, upd vs 47 _, rfl, k0.trans hx, inv_step hF (fun k v h => prefF_mono hx h) rfl⟩
    · exact wp_of_run (run_field4 (.tmp 3) rfl gb rfl) ⟨upd vs 48 _, rfl, k0, inv_same hF rfl⟩
    · exact wp_of_run (run_load_ss (.tmp 59) rfl ⟨gb, 4, none⟩ (by exact (hF 48 (he ⟨48, .data⟩ (by simp) rfl))) qb ltb cbb (VB2.out.ext GB2.out k0).2.2.2.2) ⟨upd vs 49 _, rfl, k0, inv_same hF rfl⟩
    · refine wp_of_callE (run_enter1 11 (.tmp 60) _ rfl _ (by exact (hF 49 (he ⟨49, .data⟩ (by simp) rfl))) ent_cut) (HTb.out ▸ cutl_calls (.slice qb ltb cbb) tsb _ wz (HVb.out.ht.ext (XA.out.trans k0)) HVb.out.hto) ?_
      rintro e w' ⟨v', rfl, hs, hx⟩
      exact ⟨_, rfl, upd vs 50 _, rfl, k0.trans hx, inv_step hF (fun k v h => prefF_mono hx h) (SlOf.kind hs (fun _ _ _ => trivial))⟩
    · refine wp_of_callE (run_enter1 18 (.tmp 61) _ rfl _ rfl ent_texts) (texts_calls _ ttb _ wz (V2.out.ext k0) (hF 50 (he ⟨50, .data⟩ (by simp) rfl)) (ok_of_short HPb.out) HCb.out) ?_
      rintro e w' ⟨rfl, hx⟩
      exact ⟨_, rfl, upd vs 51 _, rfl, k0.trans hx, inv_step hF (fun k v h => prefF_mono hx h) rfl⟩
    · exact wp_of_run (run_build4 (.tmp 42) (.tmp 50) (.tmp 58) (.tmp 62) rfl _ _ _ _ (by exact (hF 31 (he ⟨31, .data⟩ (by simp) rfl))) (by exact (hF 39 (he ⟨39, .data⟩ (by simp) rfl))) (by exact (hF 47 (he ⟨47, .data⟩ (by simp) rfl))) (by exact (hF 51 (he ⟨51, .data⟩ (by simp) rfl)))) ⟨upd vs 52 _, rfl, k0.trans (Ext.alloc _ _), inv_step hF (fun k v h => prefF_mono (Ext.alloc _ _) h) ⟨_, rfl, heap_alloc_new _ _⟩⟩
    · exact wp_of_run (run_field0 (.tmp 2) rfl ga rfl) ⟨upd vs 53 _, rfl, k0, inv_same hF rfl⟩
    · exact wp_of_run (run_load_u8 (.tmp 64) rfl ⟨ga, 0, none⟩ (by exact (hF 53 (he ⟨53, .data⟩ (by simp) rfl))) ca (VA2.out.ext GA2.out k0).1) ⟨upd vs 54 _, rfl, k0, inv_same hF rfl⟩
    · exact wp_of_run (run_rem4 (.tmp 65) rfl rfl ca (ca % 4) HCA.out rfl (by exact (hF 54 (he ⟨54, .data⟩ (by simp) rfl)))) ⟨upd vs 55 _, rfl, k0, inv_same hF rfl⟩
    · obtain ⟨G, hG, hrow⟩ := (hF 52 (he ⟨52, .data⟩ (by simp) rfl))
      exact wp_of_run (run_index4 (.tmp 63) (.tmp 66) rfl G (ca % 4) hG (by exact (hF 55 (he ⟨55, .data⟩ (by simp) rfl))) (Nat.mod_lt _ (by decide))) ⟨upd vs 56 _, rfl, k0, inv_same hF ⟨G, rfl, hrow⟩⟩
    · obtain ⟨G, hG, hrow⟩ := (hF 56 (he ⟨56, .data⟩ (by simp) rfl))
      exact wp_of_run (run_load_s (.tmp 67) rfl ⟨G, ca % 4, none⟩ (by exact hG) _ (by rw [Lib.cell_of_heap hrow]; exact parts_at (Nat.mod_lt _ (by decide)) _ _ _ _)) ⟨upd vs 57 _, rfl, k0, inv_same hF rfl⟩
    · exact wp_of_run (run_assign (.tmp 39) rfl _ (by exact (hF 28 (he ⟨28, .data⟩ (by simp) rfl)))) ⟨upd vs 58 _, rfl, k0, inv_same hF rfl⟩
    · exact wp_of_run (run_assign (.tmp 68) rfl _ (by exact (hF 57 (he ⟨57, .data⟩ (by simp) rfl)))) ⟨upd vs 59 _, rfl, k0, inv_same hF rfl⟩
  case fin =>
    rintro D ac wz hD ⟨vs, rfl, k0, hF⟩
    have h6 : vs 58 = .string ⟨(part (ca % 4) na ta zta tta).toArray⟩ := hF 58 (hD 58 (by simp))
    have h7 : vs 59 = .string ⟨(part (ca % 4) nb tb ztb ttb).toArray⟩ := hF 59 (hD 59 (by simp))
    have XZ := Lib.hid (XA.out.trans k0)
    have VZ : Hid (Vars wz) := V2.out.ext k0
    have GAZ : Hid (ga < wz.heap.size) := Nat.lt_of_lt_of_le GA2.out (Below.size k0)
    have GBZ : Hid (gb < wz.heap.size) := Nat.lt_of_lt_of_le GB2.out (Below.size k0)
    have VAZ := Lib.hid (VA2.out.ext GA2.out k0)
    have VBZ := Lib.hid (VB2.out.ext GB2.out k0)
    rw [h6, h7]
    clear hD hF h6 h7 k0
    generalize vs = ws
    have hj4 : ca % 4 < 4 := Nat.mod_lt _ (by decide)
    obtain ⟨a0, a1, a2, a3, a4⟩ := VAZ.out
    obtain ⟨b0, b1, b2, b3, b4⟩ := VBZ.out
    have hcan := HCA.out
    rcases (by omega : ca % 4 = 0 ∨ ca % 4 = 1 ∨ ca % 4 = 2 ∨ ca % 4 = 3) with hj | hj | hj | hj
    · have hjI : (ca : Int) % 4 = 0 := by omega
      have hjT : (ca : Int).tmod 4 = 0 := by rw [Int.tmod_eq_emod_of_nonneg (by omega)]; exact hjI
      have hpf := pref_facts ud_int HVa.out.hn HVb.out.hn
      have hla : (serInt na).length ≤ 2422 := by have h := HLTa.out; rw [hj] at h; exact h
      have hlb : (serInt nb).length ≤ 2422 := by have h := HLTb.out; rw [hj] at h; exact h
      rw [hj]
      simp only [part]
      obtain ⟨B, hB⟩ : ∃ B : Bool, B = decide (na = nb) := ⟨_, rfl⟩
      rw [← hB] at hpf
      have HBB := Lib.hid hB
      obtain ⟨X, hX⟩ : ∃ X, X = serInt na := ⟨_, rfl⟩
      obtain ⟨Y, hY⟩ : ∃ Y, Y = serInt nb := ⟨_, rfl⟩
      rw [← hX] at hpf hla ⊢
      rw [← hY] at hpf hlb ⊢
      obtain ⟨m, hm⟩ : ∃ m, m = min X.length Y.length := ⟨_, rfl⟩
      rw [← hm] at hpf
      have hmI : min (X.length : Int) (Y.length : Int) = (m : Int) := by omega
      have hmx : m ≤ X.length := by omega
      have hmy : m ≤ Y.length := by omega
      have ex := bytes_take X m
      have ey := bytes_take Y m
      have sx := bytes_size X
      have sy := bytes_size Y
      obtain ⟨X1, hX1⟩ : ∃ X1, X1 = X.take m := ⟨_, rfl⟩
      obtain ⟨Y1, hY1⟩ : ∃ Y1, Y1 = Y.take m := ⟨_, rfl⟩
      rw [← hX1] at hpf ex
      rw [← hY1] at hpf ey
      obtain ⟨q1, q2⟩ := hpf
      have q3 : (B == B) = true := by simp
      clear hj hB hX hY hm hX1 hY1 hj4
      have qe : (na == nb) = B := by rw [HBB.out]; by_cases h : na = nb <;> simp [h]
      go_wp2
      go_quiet (fail)
      go_wp2
      go_ret
      exact ⟨rfl, (XZ.out).trans (Ext.drewN _ _)⟩
    · have hjI : (ca : Int) % 4 = 1 := by omega
      have hjT : (ca : Int).tmod 4 = 1 := by rw [Int.tmod_eq_emod_of_nonneg (by omega)]; exact hjI
      have hpf := pref_facts ud_text (show TextOk ta by have := HLa.out; unfold TextOk; omega) (show TextOk tb by have := HLb.out; unfold TextOk; omega)
      have hla : (serText ta).length ≤ 2422 := by have h := HLTa.out; rw [hj] at h; exact h
      have hlb : (serText tb).length ≤ 2422 := by have h := HLTb.out; rw [hj] at h; exact h
      rw [hj]
      simp only [part]
      obtain ⟨B, hB⟩ : ∃ B : Bool, B = decide (ta = tb) := ⟨_, rfl⟩
      rw [← hB] at hpf
      have HBB := Lib.hid hB
      obtain ⟨X, hX⟩ : ∃ X, X = serText ta := ⟨_, rfl⟩
      obtain ⟨Y, hY⟩ : ∃ Y, Y = serText tb := ⟨_, rfl⟩
      rw [← hX] at hpf hla ⊢
      rw [← hY] at hpf hlb ⊢
      obtain ⟨m, hm⟩ : ∃ m, m = min X.length Y.length := ⟨_, rfl⟩
      rw [← hm] at hpf
      have hmI : min (X.length : Int) (Y.length : Int) = (m : Int) := by omega
      have hmx : m ≤ X.length := by omega
      have hmy : m ≤ Y.length := by omega
      have ex := bytes_take X m
      have ey := bytes_take Y m
      have sx := bytes_size X
      have sy := bytes_size Y
      obtain ⟨X1, hX1⟩ : ∃ X1, X1 = X.take m := ⟨_, rfl⟩
      obtain ⟨Y1, hY1⟩ : ∃ Y1, Y1 = Y.take m := ⟨_, rfl⟩
      rw [← hX1] at hpf ex
      rw [← hY1] at hpf ey
      obtain ⟨q1, q2⟩ := hpf
      have q3 : (B == B) = true := by simp
      clear hj hB hX hY hm hX1 hY1 hj4
      have qe : (ta == tb) = B := by rw [HBB.out]; by_cases h : ta = tb <;> simp [h]
      have l1 := HMAa.out
      have l2 := HMAb.out
      have l3 := HLAa.out
      have l4 := HLAb.out
      have l5 := HCUTa.out
      have l6 := HCUTb.out
      have l7 := bytes_size sa
      have l8 := bytes_size sb
      have l9 := HSLA.out
      have l10 := HSLB.out
      go_wp2
      go_quiet (fail)
      go_wp2
      go_quiet (fail)
      go_wp2
      go_ret
      exact ⟨rfl, (XZ.out.trans (Ext.drewN _ _)).trans (Ext.drewN _ _)⟩
    · have hjI : (ca : Int) % 4 = 2 := by omega
      have hjT : (ca : Int).tmod 4 = 2 := by rw [Int.tmod_eq_emod_of_nonneg (by omega)]; exact hjI
      have hpf := pref_facts (ud_list ud_int opens_int) HOa.out HOb.out
      have hla : (serL serInt zta).length ≤ 2422 := by have h := HLTa.out; rw [hj] at h; exact h
      have hlb : (serL serInt ztb).length ≤ 2422 := by have h := HLTb.out; rw [hj] at h; exact h
      rw [hj]
      simp only [part]
      obtain ⟨B, hB⟩ : ∃ B : Bool, B = decide (zta = ztb) := ⟨_, rfl⟩
      rw [← hB] at hpf
      have HBB := Lib.hid hB
      obtain ⟨X, hX⟩ : ∃ X, X = serL serInt zta := ⟨_, rfl⟩
      obtain ⟨Y, hY⟩ : ∃ Y, Y = serL serInt ztb := ⟨_, rfl⟩
      rw [← hX] at hpf hla ⊢
      rw [← hY] at hpf hlb ⊢
      obtain ⟨m, hm⟩ : ∃ m, m = min X.length Y.length := ⟨_, rfl⟩
      rw [← hm] at hpf
      have hmI : min (X.length : Int) (Y.length : Int) = (m : Int) := by omega
      have hmx : m ≤ X.length := by omega
      have hmy : m ≤ Y.length := by omega
      have ex := bytes_take X m
      have ey := bytes_take Y m
      have sx := bytes_size X
      have sy := bytes_size Y
      obtain ⟨X1, hX1⟩ : ∃ X1, X1 = X.take m := ⟨_, rfl⟩
      obtain ⟨Y1, hY1⟩ : ∃ Y1, Y1 = Y.take m := ⟨_, rfl⟩
      rw [← hX1] at hpf ex
      rw [← hY1] at hpf ey
      obtain ⟨q1, q2⟩ := hpf
      have q3 : (B == B) = true := by simp
      clear hj hB hX hY hm hX1 hY1 hj4
      have l1 := HMBa.out
      have l2 := HMBb.out
      have l3 := HLBa.out
      have l4 := HLBb.out
      have HSI := Lib.hid (sameInts_calls _ _ zta ztb _ _ wz.drew ((HZa.out.ext XZ.out).ext (Ext.drew wz)) ((HZb.out.ext XZ.out).ext (Ext.drew wz)))
      go_wp2
      go_still_tail 14, (by kernel_rfl)
      change wpList _ _ _ _ _ wz.drew
      go_wp2_with fail
      refine HSI.out.mono ?_
      rintro e w5 ⟨rfl, hx5⟩
      have X5 : Hid (Ext w0 w5) := (XZ.out.trans (Ext.drew wz)).trans hx5
      rw [← HBB.out]
      clear hx5
      go_wp2
      go_quiet (fail)
      go_wp2
      go_ret
      exact ⟨rfl, (X5.out).trans (Ext.drewN _ _)⟩
    · have hjI : (ca : Int) % 4 = 3 := by omega
      have hjT : (ca : Int).tmod 4 = 3 := by rw [Int.tmod_eq_emod_of_nonneg (by omega)]; exact hjI
      have hpf := pref_facts (ud_list ud_text opens_text) (ok_of_short HPa.out) (ok_of_short HPb.out)
      have hla : (serL serText tta).length ≤ 2422 := by have h := HLTa.out; rw [hj] at h; exact h
      have hlb : (serL serText ttb).length ≤ 2422 := by have h := HLTb.out; rw [hj] at h; exact h
      rw [hj]
      simp only [part]
      obtain ⟨B, hB⟩ : ∃ B : Bool, B = decide (tta = ttb) := ⟨_, rfl⟩
      rw [← hB] at hpf
      have HBB := Lib.hid hB
      obtain ⟨X, hX⟩ : ∃ X, X = serL serText tta := ⟨_, rfl⟩
      obtain ⟨Y, hY⟩ : ∃ Y, Y = serL serText ttb := ⟨_, rfl⟩
      rw [← hX] at hpf hla ⊢
      rw [← hY] at hpf hlb ⊢
      obtain ⟨m, hm⟩ : ∃ m, m = min X.length Y.length := ⟨_, rfl⟩
      rw [← hm] at hpf
      have hmI : min (X.length : Int) (Y.length : Int) = (m : Int) := by omega
      have hmx : m ≤ X.length := by omega
      have hmy : m ≤ Y.length := by omega
      have ex := bytes_take X m
      have ey := bytes_take Y m
      have sx := bytes_size X
      have sy := bytes_size Y
      obtain ⟨X1, hX1⟩ : ∃ X1, X1 = X.take m := ⟨_, rfl⟩
      obtain ⟨Y1, hY1⟩ : ∃ Y1, Y1 = Y.take m := ⟨_, rfl⟩
      rw [← hX1] at hpf ex
      rw [← hY1] at hpf ey
      obtain ⟨q1, q2⟩ := hpf
      have q3 : (B == B) = true := by simp
      clear hj hB hX hY hm hX1 hY1 hj4
      go_wp2
      have VAD := Lib.hid (VAZ.out.ext GAZ.out (Ext.drew wz))
      have VBD := Lib.hid (VBZ.out.ext GBZ.out (Ext.drew wz))
      have GAD : Hid (ga < wz.drew.heap.size) := GAZ
      have GBD : Hid (gb < wz.drew.heap.size) := GBZ
      have XD : Hid (Ext w0 wz.drew) := XZ.out.trans (Ext.drew wz)
      refine wp_region_inv (fun D ac w' => ∃ vs : Nat → Value, ac = { tmps := #[valV ca na sa pa lza capa (Value.slice qa lta cba), valV cb nb sb pb lzb capb (Value.slice qb ltb cbb), Value.pointer (some ⟨ga, 0, none⟩), Value.pointer (some ⟨gb, 0, none⟩), Value.bool false, Value.bool true, .string ⟨X.toArray⟩, .string ⟨Y.toArray⟩, vs 7, undef, Value.bool true, ws 0, ws 1, ws 2, ws 3, ws 4, ws 5, ws 6, ws 7, ws 8, ws 9, ws 10, ws 11, ws 12, ws 13, ws 14, ws 15, ws 16, ws 17, ws 18, ws 19, ws 20, ws 21, ws 22, ws 23, ws 24, ws 25, ws 26, ws 27, ws 28, ws 29, ws 30, ws 31, ws 32, ws 33, ws 34, ws 35, ws 36, ws 37, ws 38, ws 39, ws 40, ws 41, ws 42, ws 43, ws 44, ws 45, ws 46, ws 47, ws 48, ws 49, ws 50, ws 51, ws 52, ws 53, ws 54, ws 55, ws 56, ws 57, Value.pointer (some ⟨ga, 0, none⟩), Value.int .u8 (ca : Int), Value.int .u8 3, Value.bool false, Value.bool false, undef, undef, undef, undef, undef, Value.bool false, Value.bool false, undef, undef, undef, undef, undef, undef, undef, undef, undef, undef, undef, undef, undef, undef, undef, Value.bool false, Value.bool false, undef, undef, undef, undef, undef, undef, undef, undef, undef, undef, undef, undef, undef, undef, undef, Value.bool true, Value.bool true, vs 0, vs 1, vs 2, vs 3, vs 4, vs 5, vs 6, undef, undef, undef, undef, undef, undef, undef, undef, undef, undef, undef, undef, undef, undef, undef, undef, undef, undef, undef, undef, undef, undef, undef, undef], defers := [] } ∧ Ext wz.drew w' ∧ ∀ k, D k → (cutsF ga gb (.slice qa lta cba) (.slice qb ltb cbb) tta ttb B) k (vs k) w') (by kernel_rfl) (by kernel_rfl) ?start3 ?step3 ?fin3
      case start3 => exact ⟨fun k => if k = 7 then .bool false else undef, rfl, Ext.refl _, fun _ h => h.elim⟩
      case step3 =>
        rintro i o D ac wy hio hn he ⟨vs, rfl, k0, hF⟩
        rcases i with _ | _ | _ | _ | _ | _ | _ | _ | i
        rotate_left 8
        · exact absurd hio (by simp)
        all_goals (obtain rfl := Option.some.inj (hio.symm.trans (by rfl)))
        · exact wp_of_run (run_field4 (.tmp 2) rfl ga rfl) ⟨upd vs 0 _, rfl, k0, inv_same hF rfl⟩
        · exact wp_of_run (run_load_ss (.tmp 115) rfl ⟨ga, 4, none⟩ (by exact (hF 0 (he ⟨0, .data⟩ (by simp) rfl))) qa lta cba (VAD.out.ext GAD.out k0).2.2.2.2) ⟨upd vs 1 _, rfl, k0, inv_same hF rfl⟩
        · refine wp_of_callE (run_enter1 11 (.tmp 116) _ rfl _ (by exact (hF 1 (he ⟨1, .data⟩ (by simp) rfl))) ent_cut) (HTa.out ▸ cutl_calls (.slice qa lta cba) tsa _ wy (HVa.out.ht.ext (XD.out.trans k0)) HVa.out.hto) ?_
          rintro e w' ⟨v', rfl, hs, hx⟩
          exact ⟨_, rfl, upd vs 2 _, rfl, k0.trans hx, inv_step hF (fun k v h => cutsF_mono hx h) (SlOf.kind hs (fun _ _ _ => trivial))⟩
        · exact wp_of_run (run_field4 (.tmp 3) rfl gb rfl) ⟨upd vs 3 _, rfl, k0, inv_same hF rfl⟩
        · exact wp_of_run (run_load_ss (.tmp 118) rfl ⟨gb, 4, none⟩ (by exact (hF 3 (he ⟨3, .data⟩ (by simp) rfl))) qb ltb cbb (VBD.out.ext GBD.out k0).2.2.2.2) ⟨upd vs 4 _, rfl, k0, inv_same hF rfl⟩
        · refine wp_of_callE (run_enter1 11 (.tmp 119) _ rfl _ (by exact (hF 4 (he ⟨4, .data⟩ (by simp) rfl))) ent_cut) (HTb.out ▸ cutl_calls (.slice qb ltb cbb) tsb _ wy (HVb.out.ht.ext (XD.out.trans k0)) HVb.out.hto) ?_
          rintro e w' ⟨v', rfl, hs, hx⟩
          exact ⟨_, rfl, upd vs 5 _, rfl, k0.trans hx, inv_step hF (fun k v h => cutsF_mono hx h) (SlOf.kind hs (fun _ _ _ => trivial))⟩
        · refine wp_of_callE (run_enter2 29 (.tmp 117) (.tmp 120) _ rfl _ _ rfl rfl ent_same) (sameTexts_calls _ _ tta ttb _ _ wy (hF 2 (he ⟨2, .data⟩ (by simp) rfl)) (hF 5 (he ⟨5, .data⟩ (by simp) rfl))) ?_
          rintro e w' ⟨rfl, hx⟩
          refine ⟨_, rfl, upd vs 6 _, rfl, k0.trans hx, inv_step hF (fun k v h => cutsF_mono hx h) ?_⟩
          show Value.bool (decide (tta = ttb)) = .bool B
          rw [HBB.out]
        · exact wp_of_run (run_assign (.tmp 121) rfl _ (by exact (hF 6 (he ⟨6, .data⟩ (by simp) rfl)))) ⟨upd vs 7 _, rfl, k0, inv_same hF rfl⟩
      case fin3 =>
      rintro D ac w7 hD ⟨vs, rfl, k0, hF⟩
      have h8 : vs 7 = .bool B := hF 7 (hD 7 (by simp))
      rw [h8]
      have X7 : Hid (Ext w0 w7) := XD.out.trans k0
      clear hD hF h8 k0
      generalize vs = us
      go_wp2
      go_quiet (fail)
      go_wp2
      go_ret
      exact ⟨rfl, (X7.out).trans (Ext.drewN _ _)⟩

end Go.Proofs.YtckhbejgkgpilaaDoor
