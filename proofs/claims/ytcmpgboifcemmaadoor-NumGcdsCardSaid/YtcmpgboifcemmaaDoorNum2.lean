/- Layer 1: word, order. -/
import Derived.Test.YtcmpgboifcemmaaDoorNum1
set_option linter.all false
namespace Go.Proofs.YtcmpgboifcemmaaDoor
open Go Go.RowKit Go.Shelf

attribute [local go_sem] Oper.semAt_some

set_option maxRecDepth 100000 in
set_option maxHeartbeats 2000000 in
theorem word_calls (v : Value) (ds : List Nat) (w : World) (hu : U32s w.heap.size w v ds) (hd : Digits ds) (h2 : ds.length ≤ 2) :
    Calls Tryd.prog 43 #[v] w fun e w' => e = .returned (.int .u64 (val ds : Nat)) ∧ Below w.heap.size w w' := by
  obtain ⟨p, cap, rfl, hl, hc⟩ := hu
  refine (callsIn_wide (n := 5)).1 ?_
  refine callsIn_of_wp_marks Tryd.func43 rfl trivial ?_ rfl
  simp only [Tryd.ntmps43, List.size_toArray, List.length_cons, List.length_nil, Nat.reduceAdd, Nat.reduceSub, Array.replicate_succ, Array.replicate_zero, List.push_toArray, List.append_toArray, List.nil_append, List.cons_append]
  gi_wp2_with (refine ⟨trivial, ?_⟩; gi_at_call 50; refine (callsIn_wide.2 (down_calls _ _ _ _)).mono ?_; rintro e w' ⟨rfl, rfl⟩)
  have bR := Boxed.new w 65 (.int .u64 0)
  have bN := Boxed.new (w.alloc (.cells #[.int .u64 0] 65)) 24 (.slice p ds.length cap)
  rw [World.size_alloc] at bN
  have hB0 : Below w.heap.size w ((w.alloc (.cells #[.int .u64 0] 65)).alloc (.cells #[.slice p ds.length cap] 24)) := ((Below.refl _ w).alloc (Nat.le_refl _) _).alloc (by simp) _
  have h1 : 1 ≤ 5 := by decide
  have hro : Fence.wide.round = none := rfl
  refine wpIn_rangeFunc_S (α := Nat × Nat) hro h1 (gf := 65) (lb := #[.pointer (some ⟨w.heap.size + 1, 0, none⟩)]) rfl trivial (enters_of Tryd.func65 (by kernel_rfl) rfl)
    (down1_seq 4 (by decide) (w.heap.size + 1) p ds.length cap hl) (fun _ => rfl)
    (fun s W => (s ≤ ds.length ∧ Boxed W w.heap.size 65 (.int .u64 (val (ds.drop s) : Nat)) ∧ Boxed W (w.heap.size + 1) 24 (.slice p ds.length cap)) ∧ Below w.heap.size w W)
    (fun _ _ => False)
    (OwnFrom.and (Own.from (fun s A B row hs hg hr => ⟨hs.1, boxed_own _ _ (fun _ => _) () _ _ _ hs.2.1 hg hr, boxed_own _ _ (fun _ => _) () _ _ _ hs.2.2 hg hr⟩) _) (ownFrom_below (Nat.le_refl _) (by simp; omega)))
    (fun _ _ _ _ _ hs _ _ => hs)
    (fun s x => Own.from (fun _ A B row hs hg hr => by obtain ⟨b, off, e, h⟩ := hs; exact ⟨b, off, e, cell_kept h hg hr⟩) _)
    ?wk ⟨⟨Nat.le_refl _, by simpa [val] using bR.alloc _, bN⟩, hB0⟩
    (fun x => { tmps := #[.slice p ds.length cap, undef, .int .u64 0, .pointer (some ⟨w.heap.size, 0, none⟩), undef, .int .u32 (x.2 : Int), .slice p ds.length cap, .func (.func 65) #[] #[.pointer (some ⟨w.heap.size + 1, 0, none⟩)], .int .i64 (x.1 : Int), .int .u32 (x.2 : Int), undef, undef, undef, undef, undef, undef], defers := [] }) ?assign ?body ?done ?stop
  case wk =>
    rintro s W ⟨⟨hs, _, hb⟩, hB⟩
    refine ⟨hs, hb.cell, fun k hk => ?_⟩
    obtain ⟨b, off, rfl, hlt, hcs⟩ := hc (by omega)
    exact ⟨b, off, _, rfl, (hB.cell (p := ⟨b, off + k, none⟩) hlt).trans (hcs k (by omega))⟩
  case assign =>
    intro l x W K hK
    gi_wp2
    exact hK
  case body =>
    rintro l s ⟨k, d⟩ s2 W ⟨⟨hs, hbr, hbn⟩, hB⟩ ⟨h1, h2⟩ ⟨b, off, rfl, hcell⟩
    dsimp only at h1 h2 hcell ⊢
    subst h2; subst h1
    obtain ⟨b', off', e, hlt, hcs⟩ := hc (by omega)
    cases e
    have hd0 : d = ds[s2]?.getD 0 := by
      have := (hB.cell (p := ⟨b, off + s2, none⟩) hlt).trans (hcs s2 (by omega))
      rw [hcell] at this; exact u32_inj this
    have hlm := digs_lt_maxLen hl
    have hcr := hbr.cell
    have hfr := hbr.frozen
    have hv := val_drop (ds := ds) (s := s2) (by omega)
    rw [← hd0] at hv
    have hv1 : val (ds.drop (s2 + 1)) < B32 := by have := val_drop_lt hd (s := s2 + 1) (k := 1) (by omega); rwa [Nat.pow_one] at this
    have hdl : d < B32 := by rw [hd0]; exact hd.getD _
    have ho := or_u64 _ d hv1 hdl
    rw [← hv] at ho
    have Ho := Lib.hid ho
    clear hc hcs hd0 hv ho hv1 hdl
    gi_wp2
    rw [Ho.out]
    exact ⟨(KeepsOthers.setCell _ _ _).from _, ⟨by omega, hbr.set _, hbn.other (by omega) _⟩, hB.setCell (p := ⟨w.heap.size, 0, none⟩) (Nat.le_refl _) _⟩
  case done =>
    rintro D s W hD rfl ⟨⟨hs, hbr, hbn⟩, hB⟩ hK
    have hcr := hbr.cell
    gi_wp2
    refine endM hK (v := .int .u64 (val ds : Nat)) (by simp [results, Tryd.f43, go_sem]) ⟨rfl, hB.trans (belowK_b (w := w) (Nat.le_refl _) W D _ _ (by simp at hD; omega) hK rfl rfl)⟩
  case stop =>
    rintro D c W hD h hK
    exact h.elim

end Go.Proofs.YtcmpgboifcemmaaDoor
