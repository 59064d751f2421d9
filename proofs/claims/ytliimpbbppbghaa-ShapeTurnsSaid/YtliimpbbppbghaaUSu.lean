import Derived.Test.YtliimpbbppbghaaUSe
import Derived.Test.YtliimpbbppbghaaUSt
import Derived.Test.YtliimpbbppbghaaUSn
import Derived.Shelf.SlicesQ.IndexFunc
set_option linter.all false
namespace Go.Proofs.Ytliimpbbppbghaa
open Go Go.RowKit Go.Shelf Sx
def renCF : Go.Shelf.Ren := ⟨fun | 6 => 59 | 8 => 40 | n => n, fun | 0 => 0 | 3 => 3 | 4 => 4 | 22 => 28 | 23 => 41 | 25 => 81 | n => n, fun | n => n⟩
theorem layCF : Go.Proofs.SlLaysH0.n8 Try.prog renCF := {
  mixed := by kernel_rfl
  f6 := ⟨"slices.IndexFunc[[]etchant/api.Edge,etchant/api.Edge]", by decide, Try.func59.trans (congrArg some (by kernel_rfl))⟩
  f8 := ⟨"slices.ContainsFunc[[]etchant/api.Edge,etchant/api.Edge]", by decide, Try.func40.trans (congrArg some (by kernel_rfl))⟩
  t0 := Try.underlying0
  a0 := Try.isAgg0
  z0 := Try.sizeOf0
  v0 := Try.zeroValue0
  t3 := Try.underlying3
  a3 := Try.isAgg3
  z3 := Try.sizeOf3
  v3 := Try.zeroValue3
  t4 := Try.underlying4
  a4 := Try.isAgg4
  z4 := Try.sizeOf4
  v4 := Try.zeroValue4
  t22 := Try.underlying28
  a22 := Try.isAgg28
  z22 := Try.sizeOf28
  v22 := Try.zeroValue28
  t25 := Try.underlying81
  a25 := Try.isAgg81
  z25 := Try.sizeOf81
  v25 := Try.zeroValue81 }
def E7.okE (e : E7) : Prop := okP e.k e.ax e.ay e.bx e.by' e.cx e.cy
def E7.cov (e : E7) (r px py : Int) : Prop := covP e.k e.ax e.ay e.bx e.by' e.cx e.cy r px py
instance (e : E7) (r px py : Int) : Decidable (e.cov r px py) := by unfold E7.cov; exact inferInstance
theorem covers_e (e : E7) {r px py : Int} (hok : e.okE) (hr : 0 ≤ r ∧ r ≤ 4194304) (hp : -71303168 ≤ px ∧ px ≤ 71303168 ∧ -71303168 ≤ py ∧ py ≤ 71303168) (w : World) : Calls Try.prog 42 #[.agg #[.int .i64 e.k, .int .i64 e.ax, .int .i64 e.ay, .int .i64 e.bx, .int .i64 e.by', .int .i64 e.cx, .int .i64 e.cy], .int .i64 r, .agg #[.int .i64 px, .int .i64 py]] w
    (fun x w' => x = .returned (.bool (decide (e.cov r px py))) ∧ Below w.heap.size w w') := covers_c hok hr hp w
set_option maxRecDepth 100000 in
set_option maxHeartbeats 4000000 in
theorem clo_calls (S B : Nat) (R px py : Int) (x : E7) (hok : x.okE) (hr : 0 ≤ R ∧ R ≤ 4194304) (hp : -71303168 ≤ px ∧ px ≤ 71303168 ∧ -71303168 ≤ py ∧ py ≤ 71303168) (w : World)
    (h2 : w.cell? ⟨S, 2, none⟩ = some (.int .i64 R)) (p0 : w.cell? ⟨B, 0, none⟩ = some (.int .i64 px)) (p1 : w.cell? ⟨B, 1, none⟩ = some (.int .i64 py)) :
    Calls Try.prog 41 #[.agg #[.int .i64 x.k, .int .i64 x.ax, .int .i64 x.ay, .int .i64 x.bx, .int .i64 x.by', .int .i64 x.cx, .int .i64 x.cy], .pointer (some ⟨S, 0, none⟩), .pointer (some ⟨B, 0, none⟩)] w
      (fun e w' => e = .returned (.bool (decide (x.cov R px py))) ∧ Below w.heap.size w w') := by
  have a2 := Lib.cell?_alloc_some (.cells #[.int .i64 x.k, .int .i64 x.ax, .int .i64 x.ay, .int .i64 x.bx, .int .i64 x.by', .int .i64 x.cx, .int .i64 x.cy] 41) h2
  have b0 := Lib.cell?_alloc_some (.cells #[.int .i64 x.k, .int .i64 x.ax, .int .i64 x.ay, .int .i64 x.bx, .int .i64 x.by', .int .i64 x.cx, .int .i64 x.cy] 41) p0
  have b1 := Lib.cell?_alloc_some (.cells #[.int .i64 x.k, .int .i64 x.ax, .int .i64 x.ay, .int .i64 x.bx, .int .i64 x.by', .int .i64 x.cx, .int .i64 x.cy] 41) p1
  have HCall := Lib.hid (covers_e x hok hr hp (w.alloc (.cells #[.int .i64 x.k, .int .i64 x.ax, .int .i64 x.ay, .int .i64 x.bx, .int .i64 x.by', .int .i64 x.cx, .int .i64 x.cy] 41)))
  clear h2 p0 p1 hok hr hp
  go_enter Try.func41, Try.ntmps41
  go_wp2_with fail
  refine HCall.out.mono ?_
  rintro e w2 ⟨rfl, hb2⟩
  have HB := Lib.hid hb2
  clear hb2 HCall a2 b0 b1
  go_wp2
  go_ret
  exact ⟨rfl, ((Below.refl _ w).alloc (Nat.le_refl _) _).trans (HB.out.mono (by simp))⟩
structure OkE where
  e : E7
  ok : e.okE
instance : Inhabited OkE := ⟨⟨⟨1, 0, 0, 0, 0, 0, 0⟩, by unfold E7.okE; decide⟩⟩
theorem list_ok {es : List E7} (h : ∀ e ∈ es, e.okE) : ∃ zs : List OkE, zs.map OkE.e = es := by
  induction es with
  | nil => exact ⟨[], rfl⟩
  | cons e r ih =>
    obtain ⟨zs, hz⟩ := ih (fun x hx => h x (List.mem_cons_of_mem _ hx))
    exact ⟨⟨e, h e (List.mem_cons_self ..)⟩ :: zs, by rw [List.map_cons, hz]⟩
theorem contains_calls (S B b off cap : Nat) (R px py : Int) (es : List E7) (hok : ∀ e ∈ es, e.okE) (hr : 0 ≤ R ∧ R ≤ 4194304) (hp : -71303168 ≤ px ∧ px ≤ 71303168 ∧ -71303168 ≤ py ∧ py ≤ 71303168) (w : World)
    (h2 : w.cell? ⟨S, 2, none⟩ = some (.int .i64 R)) (p0 : w.cell? ⟨B, 0, none⟩ = some (.int .i64 px)) (p1 : w.cell? ⟨B, 1, none⟩ = some (.int .i64 py)) (hS : S < w.heap.size) (hB : B < w.heap.size) (hb : b < w.heap.size) (hl : es.length ≤ 1000000000000) (hed : Edges w b off es) :
    Calls Try.prog 40 #[.slice (some ⟨b, off, none⟩) es.length cap, .func (.func 41) #[] #[.pointer (some ⟨S, 0, none⟩), .pointer (some ⟨B, 0, none⟩)]] w
      (fun e w' => e = .returned (.bool (decide (∃ e ∈ es, e.cov R px py))) ∧ Below w.heap.size w w') := by
  obtain ⟨zs, hz⟩ := list_ok hok
  have hlen : es.length = zs.length := by rw [← hz, List.length_map]
  have h := AnyQ.slices_ContainsFunc (α := OkE) layCF 7 Try.isAgg41 Try.sizeOf41 (fun z => z.e.enc) (fun _ => rfl) (fun z => decide (z.e.cov R px py)) 41 #[.pointer (some ⟨S, 0, none⟩), .pointer (some ⟨B, 0, none⟩)]
    (enters_of Try.func41 (by kernel_rfl) rfl) b off es.length cap zs w (fun W x hW => clo_calls S B R px py x.e x.ok hr hp W ((hW.cell (p := ⟨S, 2, none⟩) hS).trans h2) ((hW.cell (p := ⟨B, 0, none⟩) hB).trans p0) ((hW.cell (p := ⟨B, 1, none⟩) hB).trans p1) |>.mono fun e w' ⟨he, hb⟩ => ⟨he, hW.trans (hb.mono hW.size)⟩)
    (by omega) (by omega) hb (fun j hj i v hv => by
      have hc := hed j (by omega)
      have ej : es[j]! = zs[j]!.e := by rw [getElem!_pos zs j hj, getElem!_pos es j (by omega)]; simp [← hz]
      rw [ej] at hc
      obtain ⟨c0, c1, c2, c3, c4, c5, c6⟩ := hc
      match i, hv with
      | 0, hv => exact c0.trans hv
      | 1, hv => exact c1.trans hv
      | 2, hv => exact c2.trans hv
      | 3, hv => exact c3.trans hv
      | 4, hv => exact c4.trans hv
      | 5, hv => exact c5.trans hv
      | 6, hv => exact c6.trans hv)
  refine h.mono fun e w' ⟨he, hb⟩ => ⟨?_, hb⟩
  rw [he, hlen, List.take_length, ← hz]
  congr 2
  rw [Bool.eq_iff_iff]
  simp only [List.any_eq_true, decide_eq_true_eq, List.mem_map]
  exact ⟨fun ⟨x, h1, h2⟩ => ⟨_, ⟨x, h1, rfl⟩, h2⟩, fun ⟨_, ⟨x, h1, he⟩, h2⟩ => ⟨x, h1, he ▸ h2⟩⟩
end Go.Proofs.Ytliimpbbppbghaa

