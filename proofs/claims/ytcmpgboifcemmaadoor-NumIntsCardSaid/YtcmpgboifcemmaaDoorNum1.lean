/- Numbers of many digits: the iterator 'down' and the small functions of layer 1. -/
import Derived.Test.YtcmpgboifcemmaaDoorSeqLaw
import Derived.Test.YtcmpgboifcemmaaDoorNumMath
import Derived.Test.YtcmpgboifcemmaaDoorProg
import Derived.IntWalk
import Derived.Outline
import Derived.Lib.Hide
set_option linter.all false
namespace Go.Proofs.YtcmpgboifcemmaaDoor
open Go Go.RowKit Go.Shelf

attribute [local go_sem] Oper.semAt_some

/-- What 'down' needs, with s digits left: the box holds the slice, and the digits that are left lie there. -/
def DownWk (Bs : Nat) (p : Option Addr) (len cap : Nat) (s : Nat) (W : World) : Prop :=
  s ≤ len ∧ W.cell? ⟨Bs, 0, none⟩ = some (.slice p len cap) ∧ ∀ k, k < s → ∃ (b off d : Nat), p = some ⟨b, off, none⟩ ∧ W.cell? ⟨b, off + k, none⟩ = some (.int .u32 d)
def DownNx (s : Nat) (x : Nat × Nat) (s2 : Nat) : Prop := s = x.1 + 1 ∧ s2 = x.1
def DownGd (p : Option Addr) (_ : Nat) (x : Nat × Nat) (W : World) : Prop := ∃ (b off : Nat), p = some ⟨b, off, none⟩ ∧ W.cell? ⟨b, off + x.1, none⟩ = some (.int .u32 x.2)

set_option maxRecDepth 100000 in
set_option maxHeartbeats 1000000 in
theorem down1_seq (n : Nat) (hn : 1 ≤ n) (Bs : Nat) (p : Option Addr) (len cap : Nat) (hlen : len ≤ maxLen) :
    SeqS Fence.wide n Tryd.prog 65 #[.pointer (some ⟨Bs, 0, none⟩)] (fun x : Nat × Nat => #[Value.int .i64 (x.1 : Int), Value.int .u32 (x.2 : Int)]) (DownWk Bs p len cap) DownNx (DownGd p) len (· = 0) := by
  intro l J Jx W hWk hY h0
  unfold maxLen at hlen
  refine callsIn_of_wp Tryd.func65 rfl trivial ?_ rfl
  simp only [Tryd.ntmps65, List.size_toArray, List.length_cons, List.length_nil, Nat.reduceAdd, Nat.reduceSub, Array.replicate_succ, Array.replicate_zero, List.push_toArray, List.append_toArray, List.nil_append, List.cons_append]
  have hbox := (hWk _ _ h0).2.1
  gi_wp2
  gi_loopw [3] (fun i wr => ∃ s : Nat, i = .int .i64 ((s : Int) - 1) ∧ J s wr) (fun i _ => (intOf i + 1).toNat)
  case atStart => exact ⟨len, rfl, h0⟩
  case round =>
    obtain ⟨s, rfl, hJ⟩ := hrel
    obtain ⟨hs, hb, hc⟩ := hWk _ _ hJ
    cases s with
    | zero =>
      gi_wp2
      go_end0
      exact ⟨⟨_, rfl⟩, .inl ⟨0, rfl, hJ⟩⟩
    | succ k =>
      obtain ⟨b, off, d, rfl, hcell⟩ := hc k (by omega)
      obtain ⟨fn, tmps, assign, body, hy, hR⟩ := hY _ (k, d) k wr hJ ⟨rfl, rfl⟩ ⟨b, off, rfl, hcell⟩
      dsimp only at hy
      clear hc
      rw [show ((k + 1 : Nat) : Int) - 1 = (k : Int) from by omega]
      gi_wp2
      refine hR.mono ?_
      rintro e W3 (⟨rfl, hJ3⟩ | ⟨rfl, hJx3⟩)
      · gi_wp2
        go_roundw
        case rel => exact ⟨k, rfl, hJ3⟩
        case measure => simp [intOf]
      · gi_wp2
        refine bodyPost_ret (results_none rfl _ _ _) rfl ?_
        exact ⟨⟨_, rfl⟩, .inr hJx3⟩

set_option maxHeartbeats 1000000 in
/-- 'down(digits)': the slice is boxed, the function value captures the box. -/
theorem down_calls (p : Option Addr) (len cap : Nat) (w : World) :
    Calls Tryd.prog 50 #[.slice p len cap] w fun e w' => e = .returned (.func (.func 65) #[] #[.pointer (some ⟨w.heap.size, 0, none⟩)]) ∧ w' = w.alloc (.cells #[.slice p len cap] 24) := by
  go_enter Tryd.func50, Tryd.ntmps50
  go_wp2
  go_ret
  exact ⟨rfl, rfl⟩

/-- The slice value v reads as the digits ds, which lie below block B. -/
def U32s (B : Nat) (w : World) (v : Value) (ds : List Nat) : Prop :=
  ∃ (p : Option Addr) (cap : Nat), v = .slice p ds.length cap ∧ ds.length ≤ maxLen ∧ (0 < ds.length → ∃ b off, p = some ⟨b, off, none⟩ ∧ b < B ∧ ∀ j, j < ds.length → w.cell? ⟨b, off + j, none⟩ = some (.int .u32 ((ds[j]?.getD 0 : Nat) : Int)))

theorem U32s.below {B : Nat} {w w' : World} {v : Value} {ds : List Nat} (h : U32s B w v ds) (hb : Below B w w') : U32s B w' v ds := by
  obtain ⟨p, cap, rfl, hl, hc⟩ := h
  refine ⟨p, cap, rfl, hl, fun h0 => ?_⟩
  obtain ⟨b, off, rfl, hB, hc⟩ := hc h0
  exact ⟨b, off, rfl, hB, fun j hj => (hb.cell (p := ⟨b, off + j, none⟩) hB).trans (hc j hj)⟩
theorem U32s.mono {B B' : Nat} {w : World} {v : Value} {ds : List Nat} (h : U32s B w v ds) (hb : B ≤ B') : U32s B' w v ds := by
  obtain ⟨p, cap, rfl, hl, hc⟩ := h
  refine ⟨p, cap, rfl, hl, fun h0 => ?_⟩
  obtain ⟨b, off, rfl, hB, hc⟩ := hc h0
  exact ⟨b, off, rfl, by omega, hc⟩

theorem or_u64 (n d : Nat) (hn : n < B32) (hd : d < B32) : bits .or .u64 (IntKind.u64.wrap ((n : Int) * 4294967296)) (IntKind.u64.wrap (d : Int)) = ((d + B32 * n : Nat) : Int) := by
  unfold B32 at *
  rw [IntKind.wrap_u64, IntKind.wrap_u64]
  rw [show ((n : Int) * 4294967296) % 18446744073709551616 = (n : Int) * 4294967296 by omega, show (d : Int) % 18446744073709551616 = d by omega]
  rw [bits_join .u64 64 (by decide) (fun n h0 h1 => by rw [IntKind.wrap_u64]; omega) 32 _ _ (by omega) (by omega) (by omega) (by omega) (by omega) (by omega)]
  omega
theorem u32_inj {a b : Nat} (h : some (Value.int .u32 (a : Int)) = some (Value.int .u32 (b : Int))) : a = b := by
  simp only [Option.some.injEq, Value.int.injEq, true_and] at h; omega
theorem digs_lt_maxLen {n : Nat} (h : n ≤ maxLen) : n ≤ 9223372036854775807 := by unfold maxLen at h; exact h

set_option maxRecDepth 100000 in
set_option maxHeartbeats 2000000 in
theorem length_calls (v : Value) (ds : List Nat) (w : World) (hu : U32s w.heap.size w v ds) :
    Calls Tryd.prog 28 #[v] w fun e w' => e = .returned (.int .i64 ((strip ds).length : Nat)) ∧ Below w.heap.size w w' := by
  obtain ⟨p, cap, rfl, hl, hc⟩ := hu
  refine (callsIn_wide (n := 5)).1 ?_
  refine callsIn_of_wp_marks Tryd.func28 rfl trivial ?_ rfl
  simp only [Tryd.ntmps28, List.size_toArray, List.length_cons, List.length_nil, Nat.reduceAdd, Nat.reduceSub, Array.replicate_succ, Array.replicate_zero, List.push_toArray, List.append_toArray, List.nil_append, List.cons_append]
  gi_wp2_with (refine ⟨trivial, ?_⟩; gi_at_call 50; refine (callsIn_wide.2 (down_calls _ _ _ _)).mono ?_; rintro e w' ⟨rfl, rfl⟩)
  have bR := Boxed.new w 3 (.int .i64 0)
  have bN := Boxed.new (w.alloc (.cells #[.int .i64 0] 3)) 24 (.slice p ds.length cap)
  rw [World.size_alloc] at bN
  have hB0 : Below w.heap.size w ((w.alloc (.cells #[.int .i64 0] 3)).alloc (.cells #[.slice p ds.length cap] 24)) := ((Below.refl _ w).alloc (Nat.le_refl _) _).alloc (by simp) _
  have h1 : 1 ≤ 5 := by decide
  have hro : Fence.wide.round = none := rfl
  refine wpIn_rangeFunc_S (α := Nat × Nat) hro h1 (gf := 65) (lb := #[.pointer (some ⟨w.heap.size + 1, 0, none⟩)]) rfl trivial (enters_of Tryd.func65 (by kernel_rfl) rfl)
    (down1_seq 4 (by decide) (w.heap.size + 1) p ds.length cap hl) (fun _ => rfl)
    (fun s W => (s ≤ ds.length ∧ (∀ j, s ≤ j → j < ds.length → ds[j]?.getD 0 = 0) ∧ Boxed W w.heap.size 3 (.int .i64 0) ∧ Boxed W (w.heap.size + 1) 24 (.slice p ds.length cap)) ∧ Below w.heap.size w W)
    (fun c W => (c = .ret ∧ Boxed W w.heap.size 3 (.int .i64 ((strip ds).length : Nat))) ∧ Below w.heap.size w W)
    (OwnFrom.and (Own.from (fun s A B row hs hg hr => ⟨hs.1, hs.2.1, boxed_own _ _ (fun _ => _) () _ _ _ hs.2.2.1 hg hr, boxed_own _ _ (fun _ => _) () _ _ _ hs.2.2.2 hg hr⟩) _) (ownFrom_below (Nat.le_refl _) (by simp; omega)))
    (fun c => OwnFrom.and (Own.from (fun s A B row hs hg hr => ⟨hs.1, boxed_own _ _ (fun _ => _) () _ _ _ hs.2 hg hr⟩) _) (ownFrom_below (Nat.le_refl _) (by simp; omega)))
    (fun s x => Own.from (fun _ A B row hs hg hr => by obtain ⟨b, off, e, h⟩ := hs; exact ⟨b, off, e, cell_kept h hg hr⟩) _)
    ?wk ⟨⟨Nat.le_refl _, fun j a b => by omega, bR.alloc _, bN⟩, hB0⟩
    (fun x => { tmps := #[.slice p ds.length cap, undef, .pointer (some ⟨w.heap.size, 0, none⟩), .int .i64 (x.1 : Int), .int .u32 (x.2 : Int), .slice p ds.length cap, .func (.func 65) #[] #[.pointer (some ⟨w.heap.size + 1, 0, none⟩)], .int .i64 (x.1 : Int), .int .u32 (x.2 : Int), undef, undef, undef, undef], defers := [] }) ?assign ?body ?done ?stop
  case wk =>
    rintro s W ⟨⟨hs, _, _, hb⟩, hB⟩
    refine ⟨hs, hb.cell, fun k hk => ?_⟩
    obtain ⟨b, off, rfl, hlt, hcs⟩ := hc (by omega)
    exact ⟨b, off, _, rfl, (hB.cell (p := ⟨b, off + k, none⟩) hlt).trans (hcs k (by omega))⟩
  case assign =>
    intro l x W K hK
    gi_wp2
    exact hK
  case body =>
    rintro l s ⟨k, d⟩ s2 W ⟨⟨hs, hz, hbr, hbn⟩, hB⟩ ⟨h1, h2⟩ ⟨b, off, rfl, hcell⟩
    dsimp only at h1 h2 hcell ⊢
    subst h2; subst h1
    obtain ⟨b', off', e, hlt, hcs⟩ := hc (by omega)
    cases e
    have hd : d = ds[s2]?.getD 0 := by
      have := (hB.cell (p := ⟨b, off + s2, none⟩) hlt).trans (hcs s2 (by omega))
      rw [hcell] at this; exact u32_inj this
    have hlm := digs_lt_maxLen hl
    have hcr := hbr.cell
    have hfr := hbr.frozen
    clear hc hcs
    by_cases h0 : d = 0
    · subst h0
      have hz2 : ∀ j, s2 ≤ j → j < ds.length → ds[j]?.getD 0 = 0 := fun j a b => by
        by_cases e : j = s2
        · subst e; exact hd.symm
        · exact hz j (by omega) b
      have Hz2 := Lib.hid hz2
      clear hd hz hz2
      gi_wp2
      exact ⟨(KeepsOthers.refl _).from _, ⟨by omega, Hz2.out, hbr, hbn⟩, hB⟩
    · have ht : ((d : Int) != 0) = true := by simp [h0]
      have hst := strip_length_of (ds := ds) (k := s2) (by omega) (by omega) (fun j a b => hz j (by omega) b)
      have Hst := Lib.hid hst
      have Hd := Lib.hid hd
      clear hst hd hz
      gi_wp2
      exact ⟨(KeepsOthers.setCell _ _ _).from _, ⟨rfl, by rw [Hst.out]; exact hbr.set _⟩, hB.setCell (p := ⟨w.heap.size, 0, none⟩) (Nat.le_refl _) _⟩
  case done =>
    rintro D s W hD rfl ⟨⟨hs, hz, hbr, hbn⟩, hB⟩ hK
    have hcr := hbr.cell
    have hfr := hbr.frozen
    have hst := strip_length_zero (fun j hj => hz j (Nat.zero_le _) hj)
    have hK2 := (KeepsOthers.setCell W ⟨w.heap.size, 0, none⟩ (.int .i64 0)).same D _ hK rfl
    have hc5 := cell_kept (hbr.set (.int .i64 0)).cell (grownBy_putObj' _ D (.deferred none)) (fun r e => by cases e; exact ⟨_, hK2, rfl⟩)
    have Hst := Lib.hid hst
    clear hz hst
    gi_wp2
    refine endM hK2 (v := .int .i64 0) (by simp [results, Tryd.f28, go_sem, hc5]) ⟨by rw [Hst.out]; rfl, (hB.setCell (p := ⟨w.heap.size, 0, none⟩) (Nat.le_refl _) _).trans (belowK_b (w := w) (Nat.le_refl _) _ D _ _ (by simp at hD; omega) hK2 rfl rfl)⟩
  case stop =>
    rintro D c W hD ⟨⟨rfl, hbr⟩, hB⟩ hK
    have hc5 := cell_kept hbr.cell (grownBy_putObj' _ D (.deferred none)) (fun r e => by cases e; exact ⟨_, hK, rfl⟩)
    gi_wp2
    refine endM hK (v := .int .i64 ((strip ds).length : Nat)) (by simp [results, Tryd.f28, go_sem, hc5]) ⟨rfl, hB.trans (belowK_b (w := w) (Nat.le_refl _) W D _ _ (by simp at hD; omega) hK rfl rfl)⟩

end Go.Proofs.YtcmpgboifcemmaaDoor
