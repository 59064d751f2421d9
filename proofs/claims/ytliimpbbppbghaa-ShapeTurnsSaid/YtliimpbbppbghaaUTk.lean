import Derived.Test.YtliimpbbppbghaaUTi
set_option linter.all false
set_option autoImplicit false
namespace Go.Proofs.Ytliimpbbppbghaa
def E7.ints (e : E7) : List Int := [e.k, e.ax, e.ay, e.bx, e.by', e.cx, e.cy]
end Go.Proofs.Ytliimpbbppbghaa
namespace Go.Proofs.Ytliimpbbppbghaa.Sx
open Go Go.RowKit
def edT (j : Nat) : ET := ⟨.var (10 + j * 7), .var (10 + j * 7 + 1), .var (10 + j * 7 + 2), .var (10 + j * 7 + 3), .var (10 + j * 7 + 4), .var (10 + j * 7 + 5), .var (10 + j * 7 + 6)⟩
def esT (n : Nat) : List ET := (List.range n).map edT
def vcells (n : Nat) : List C := ((esT n).flatMap ET.list).map (C.int .i64)
def envE (hd : List Int) (es : List E7) : Env := envOf ((List.range 10).map (fun i => hd.getD i 0) ++ es.flatMap E7.ints) []
theorem ints_get (i : Nat) (hi : i < 7) : ∀ (es : List E7) (j : Nat), (es.flatMap E7.ints)[j * 7 + i]? = (es[j]?).bind fun e => e.ints[i]?
  | [], j => by simp
  | e :: r, 0 => by
    simp only [List.flatMap_cons, Nat.zero_mul, Nat.zero_add]
    rw [List.getElem?_append_left (by simp [E7.ints]; omega)]
    rfl
  | e :: r, j + 1 => by
    simp only [List.flatMap_cons]
    rw [List.getElem?_append_right (by simp [E7.ints]; omega)]
    rw [show (j + 1) * 7 + i - e.ints.length = j * 7 + i by simp [E7.ints]; omega, ints_get i hi r j]
    rfl
theorem envE_hd {hd : List Int} {es : List E7} {i : Nat} (h : i < 10) : (envE hd es).i i = hd.getD i 0 := by
  show ((List.range 10).map (fun i => hd.getD i 0) ++ es.flatMap E7.ints).getD i 0 = _
  rw [List.getD_eq_getElem?_getD, List.getElem?_append_left (by simpa using h)]
  simp [h]
theorem envE_es {hd : List Int} {es : List E7} {j : Nat} (hj : j < es.length) {i : Nat} (hi : i < 7) : (envE hd es).i (10 + j * 7 + i) = (es[j]!.ints).getD i 0 := by
  show ((List.range 10).map (fun i => hd.getD i 0) ++ es.flatMap E7.ints).getD (10 + j * 7 + i) 0 = _
  rw [List.getD_eq_getElem?_getD, List.getElem?_append_right (by simp; omega)]
  rw [show 10 + j * 7 + i - ((List.range 10).map (fun i => hd.getD i 0)).length = j * 7 + i by simp; omega, ints_get i hi, List.getElem?_eq_getElem hj, getElem!_pos es j hj]
  simp
theorem edT_den {I : Interp} {hd : List Int} {es : List E7} {j : Nat} (hj : j < es.length) : (edT j).den I (envE hd es) = es[j]! := by
  have h := fun i (hi : i < 7) => envE_es (hd := hd) hj hi
  unfold edT ET.den
  simp only [T.den_var]
  have h0 := h 0 (by decide)
  rw [Nat.add_zero] at h0
  rw [h0, h 1 (by decide), h 2 (by decide), h 3 (by decide), h 4 (by decide), h 5 (by decide), h 6 (by decide)]
  rfl
theorem esT_den {I : Interp} {hd : List Int} {es : List E7} : (esT es.length).map (ET.den I (envE hd es)) = es := by
  unfold esT
  rw [List.map_map]
  refine List.ext_getElem (by simp) fun j h1 h2 => ?_
  simp only [List.getElem_map, List.getElem_range, Function.comp]
  rw [edT_den h2, getElem!_pos es j h2]
theorem esT_len (n : Nat) : (esT n).length = n := by simp [esT]
theorem vcells_len (n : Nat) : (vcells n).length = n * 7 := by
  unfold vcells
  rw [List.length_map]
  have : ∀ l : List ET, (l.flatMap ET.list).length = l.length * 7 := fun l => by
    induction l with
    | nil => rfl
    | cons e r ih => simp [ET.list] at ih ⊢; omega
  rw [this, esT_len]
theorem vcells_den {I : Interp} {hd : List Int} {es : List E7} {β : Nat → Nat} : (vcells es.length).map (C.den I (envE hd es) β) = es.flatMap E7.enc := by
  unfold vcells
  rw [flat_enc, esT_den]
theorem vcells_wf (n m : Nat) : ∀ c ∈ vcells n, c.wf m = true := by
  intro c hc
  obtain ⟨t, -, rfl⟩ := List.mem_map.1 hc
  rfl
theorem rowP_of {I : Interp} {hd : List Int} {es : List E7} {w : World} {b cap id cid : Nat} {β : Nat → Nat} (h : RowE w b cap es) (h1 : β id = b) (h2 : β cid = cap) : RowP I (envE hd es) β w id ⟨oty 41 7, .yld cid :: vcells es.length⟩ := by
  obtain ⟨o1, o2, o3⟩ := oty_facts (e := 41) (n := 7) (by decide)
  obtain ⟨a, k1, k2, k3, k4, k5⟩ := h
  unfold RowP
  simp only [o1]
  unfold OpenRow
  have hl := vcells_len es.length
  refine ⟨a, ?_, ?_, ?_, ?_, ?_, by rw [o3]; decide⟩
  · rw [h1, o2]; exact k1
  · rw [h2, o3]; exact k2
  · rw [hl, vcells_den]; exact k3
  · rw [hl, k2]; omega
  · rw [hl]; exact k5
def etSame (a b : ET) : Bool := a.k.same b.k && (a.ax.same b.ax && (a.ay.same b.ay && (a.bx.same b.bx && (a.by'.same b.by' && (a.cx.same b.cx && a.cy.same b.cy)))))
theorem etSame_eq {a b : ET} (h : etSame a b = true) : a = b := by
  unfold etSame at h
  simp only [Bool.and_eq_true] at h
  obtain ⟨h1, h2, h3, h4, h5, h6, h7⟩ := h
  cases a; cases b
  simp only at h1 h2 h3 h4 h5 h6 h7
  rw [T.same_eq h1, T.same_eq h2, T.same_eq h3, T.same_eq h4, T.same_eq h5, T.same_eq h6, T.same_eq h7]
def esSame : List ET → List ET → Bool
  | [], [] => true
  | a :: r, b :: q => etSame a b && esSame r q
  | _, _ => false
theorem esSame_eq : ∀ {a b : List ET}, esSame a b = true → a = b
  | [], [], _ => rfl
  | a :: r, b :: q, h => by
    simp only [esSame, Bool.and_eq_true] at h
    rw [etSame_eq h.1, esSame_eq h.2]
  | [], _ :: _, h => by cases h
  | _ :: _, [], h => by cases h
def cutL (l : Ls) (m : Nat) : Ls := ⟨if l.cap = m then l.p else l.p.map (·.add (m * 1)), l.cap - m, if l.cap = m then l.zs.take (l.zs.length - m) else l.zs.drop m⟩
theorem cutL_ok {l : Ls} {W : World} (h : l.Ok W) (m : Nat) (hm : m ≤ l.zs.length) : (cutL l m).Ok W := by
  obtain ⟨h1, h2⟩ := Ls.spec h
  unfold cutL
  by_cases hc : l.cap = m
  · simp only [if_pos hc]
    refine ⟨l.p, _, rfl, by simp; omega, fun hz => ?_⟩
    have hl : 0 < l.zs.length := by simp at hz; omega
    obtain ⟨b, off, e1, e2, e3⟩ := h2 hl
    refine ⟨b, off, e1, e2, fun j hj => ?_⟩
    simp at hj
    rw [e3 j (by omega), List.getElem?_take_of_lt (by omega)]
  · simp only [if_neg hc]
    refine ⟨_, _, rfl, by simp; omega, fun hz => ?_⟩
    have hl : 0 < l.zs.length := by simp at hz; omega
    obtain ⟨b, off, e1, e2, e3⟩ := h2 hl
    refine ⟨b, off + m, by rw [e1]; simp [Addr.add], e2, fun j hj => ?_⟩
    simp at hj
    rw [Nat.add_assoc, e3 (m + j) (by omega), List.getElem?_drop]
theorem cutL_v {l : Ls} (m : Nat) (hm : m ≤ l.zs.length) : (cutL l m).v = cutV l.v (m : Int) := by
  unfold cutL Ls.v cutV
  simp only [Int.toNat_natCast]
  by_cases hc : l.cap = m
  · simp only [if_pos hc, List.length_take]; congr 1; omega
  · simp only [if_neg hc, List.length_drop]
open Classical in
noncomputable def at06P (W : World) (l : Ls) (e : E7) : Int × Int := if h : l.Ok W ∧ e.small then (Classical.choose (at06_ex h.1 h.2), Classical.choose (Classical.choose_spec (at06_ex h.1 h.2))) else (0, 0)
theorem at06P_spec {W : World} {l : Ls} {e : E7} (h0 : l.Ok W) (h1 : e.small) : (-200000 ≤ (at06P W l e).1 ∧ (at06P W l e).1 ≤ 200000 ∧ -200000 ≤ (at06P W l e).2 ∧ (at06P W l e).2 ≤ 200000) ∧ ∀ w, Hyp (IS W l) w (fun _ => False) →
      Calls Try.prog 34 #[e.val, l.v] w (fun x w' => x = .returned (.agg #[.int .i64 (at06P W l e).1, .int .i64 (at06P W l e).2]) ∧ Below w.heap.size w w') := by
  unfold at06P
  rw [dif_pos ⟨h0, h1⟩]
  exact Classical.choose_spec (Classical.choose_spec (at06_ex h0 h1))
noncomputable def fiA (W : World) (l : Ls) (es : List E7) (f : Nat) (a : List Int) : Int := match f, a with
  | 0, [k, n] => drawV l.zs k.toNat n
  | 1, [k] => drawA l.zs k.toNat
  | 30, [j, n] => clampN ((at06P W (cutL l (min l.zs.length 2)) es[j.toNat]!).1 + 200000) n
  | 31, [j, n] => clampN ((at06P W (cutL l (min l.zs.length 2)) es[j.toNat]!).2 + 200000) n
  | 998, [] => l.zs.length
  | _, _ => 0
noncomputable def IA (W : World) (l : Ls) (es : List E7) : Interp := ⟨fiA W l es, fun _ _ => false, fvS l, fixedOf W, noOpq, fun _ => rfl, fun f x => by obtain ⟨p, n, c, e⟩ := fvS_sl l f x; rw [e]; exact ⟨(fun _ h => nomatch h), (fun _ h => nomatch h)⟩, ⟨l.p, l.zs.length, l.cap, rfl, rfl, fun k => rfl⟩⟩
theorem ctNs_gen {I : Interp} {W : World} {l : Ls} (h0 : l.Ok W) (hfi0 : ∀ k n, I.fi 0 [k, n] = drawV l.zs k.toNat n) (hfi1 : ∀ k, I.fi 1 [k] = drawA l.zs k.toNat) (hfv : I.fv 0 [] = l.v) (hfx : I.fixed = fixedOf W) (ρ : Env) : CTOk Try.prog I ρ ctNs := by
  have hpl : ∀ {a : T} {k : Nat}, placeS a = some k → a.den I ρ = drawA l.zs k := fun {a k} h => by
    unfold placeS at h
    split at h
    · injection h with h; subst h; simp [T.den_lit, drawA]
    · rename_i f k'
      cases hb : Nat.beq f 1 with
      | false => rw [hb] at h; cases h
      | true =>
        rw [hb] at h
        injection h with h
        subst h
        have := Nat.eq_of_beq_eq_true hb
        subst this
        rw [T.den_app, T.dens_cons, T.dens_nil, T.den_lit, hfi1]
        rfl
    · cases h
  intro g args s t h w0 X n0 β0 β w R ht hw ha
  unfold ctNs at h
  cases hg : Nat.beq g 26 with
  | false => rw [hg] at h; cases h
  | true =>
    have := Nat.eq_of_beq_eq_true hg
    subst this
    rw [hg] at h
    simp only [cond_true] at h
    split at h
    · rename_i id n
      split at h
      · rename_i ty j a hf
        cases hc : (Nat.beq ty 63 && (Nat.beq j 0 && (intLt 0 n && intLt n 1000000))) with
        | false => rw [hc] at h; cases h
        | true =>
          rw [hc] at h
          simp only [cond_true] at h
          simp only [Bool.and_eq_true, Nat.beq_eq, intLt_eq, decide_eq_true_eq] at hc
          obtain ⟨hty, hj, hn1, hn2⟩ := hc
          subst hty
          subst hj
          split at h
          · rename_i k hk
            simp only [natF_eq, Option.some.injEq] at h
            subst h
            rw [S.putK_eq] at ht
            obtain ⟨hb, hbl⟩ := find_mem hf
            have hcl : opn 63 = false := by decide
            have hrow := (RowP.closed (b := ⟨63, [.abs 0 .nil, .int .i64 a]⟩) hcl).1 (hw.row _ hb hbl)
            obtain ⟨q1, q2⟩ := Ls.spec h0
            have hcell : cellsOf I ρ β [.abs 0 .nil, .int .i64 a] = #[l.v, .int .i64 (drawA l.zs k)] := by
              simp only [cellsOf, List.map_cons, List.map_nil, C.den, hpl hk, T.dens_nil, hfv]
            have hcell2 : cellsOf I ρ β [.abs 0 .nil, .int .i64 (.app 1 (tl [.lit (.ofNat (k + 1))]))] = #[l.v, .int .i64 (drawA l.zs (k + 1))] := by
              simp only [cellsOf, List.map_cons, List.map_nil, C.den, tl, T.den_app, T.dens_cons, T.dens_nil, T.den_lit, hfv, hfi1]
              rfl
            have hval : (T.app 0 (tl [.lit (.ofNat k), .lit n])).den I ρ = drawV l.zs k n := by
              simp only [tl, T.den_app, T.dens_cons, T.dens_nil, T.den_lit, hfi0]
              rfl
            rw [hcell] at hrow
            have hcall := next_c l.p l.zs k l.cap (β id) n w q1 hn1 (by omega) (fun hz => by
              obtain ⟨b, off, e, hb1, hb2⟩ := q2 hz
              obtain ⟨o, ho⟩ : ∃ o, W.heap[b]? = some o := ⟨_, Array.getElem?_eq_getElem hb1⟩
              obtain ⟨e1, e2⟩ := hw.hyp (b, o) (by rw [hfx]; exact mem_fixed.2 ho)
              have hlt := (Array.getElem?_eq_some_iff.1 e1).1
              have e3 : w.heap[b]? = W.heap[b]? := (hw.keeps.block b hlt e2).trans (e1.trans ho.symm)
              refine ⟨b, off, e, fun eb => ?_, fun i hi => (World.cell?_of_block (a := ⟨b, off + i, none⟩) e3).trans (hb2 i hi)⟩
              rcases hw.own _ hb hbl with x | x
              · exact e2 (by rw [eb]; exact x)
              · simp only at x hlt; omega) hrow
            refine hcall.mono fun e w' ⟨he, hu⟩ => ?_
            subst he
            have hu : Upd (β id) (cellsOf I ρ β [.abs 0 .nil, .int .i64 (.app 1 (tl [.lit (.ofNat (k + 1))]))]) TD w w' := by rw [hcell2]; exact hu
            have hwf : ∀ c ∈ [C.abs 0 .nil, .int .i64 (.app 1 (tl [.lit (.ofNat (k + 1))]))], c.wf s.nb = true := by
              intro c hc
              simp only [List.mem_cons, List.not_mem_nil, or_false] at hc
              rcases hc with rfl | rfl <;> rfl
            have := ht β w' (hw.upd hb hbl hcl hwf hu) rfl (Nat.le_refl _) (fun _ _ => rfl)
            simp only [V.den, C.den, hval] at this
            exact this
          · cases h
      · cases h
    · cases h
theorem ctAS_gen {I : Interp} (ρ : Env) : CTOk Try.prog I ρ ctAS := by
  intro g args s t h w0 X n0 β0 β w R ht hw ha
  unfold ctAS at h
  split at h
  · rename_i a b c d
    cases h1 : Nat.beq g 20 with
    | true =>
      rw [h1] at h
      have := Nat.eq_of_beq_eq_true h1
      subst this
      simp only [cond_true] at h
      cases hc : (inB s.known (.bin .add a c) (-1000000) 1000000 && inB s.known (.bin .add b d) (-1000000) 1000000) with
      | false => rw [hc] at h; cases h
      | true =>
        rw [hc] at h
        simp only [Bool.and_eq_true] at hc
        have k1 := inB_ok hw.known hc.1
        have k2 := inB_ok hw.known hc.2
        rw [T.den_bin, ev_add] at k1 k2
        injection h with h
        simp only [T.force_eq] at h
        subst h
        refine ct_leaf1 ((radd_c (a.den I ρ) (b.den I ρ) (c.den I ρ) (d.den I ρ) w).mono fun e w' ⟨he, hb⟩ => ⟨?_, hb⟩) rfl ht hw
        rw [he, w64_in _ (by omega), w64_in _ (by omega)]
        rfl
    | false =>
      rw [h1] at h
      simp only [cond_false] at h
      cases h2 : Nat.beq g 50 with
      | false => rw [h2] at h; cases h
      | true =>
        rw [h2] at h
        have := Nat.eq_of_beq_eq_true h2
        subst this
        simp only [cond_true] at h
        cases hc : (inB s.known (.bin .sub a c) (-1000000) 1000000 && inB s.known (.bin .sub b d) (-1000000) 1000000) with
        | false => rw [hc] at h; cases h
        | true =>
          rw [hc] at h
          simp only [Bool.and_eq_true] at hc
          have k1 := inB_ok hw.known hc.1
          have k2 := inB_ok hw.known hc.2
          rw [T.den_bin, ev_sub] at k1 k2
          injection h with h
          simp only [T.force_eq] at h
          subst h
          refine ct_leaf1 ((rsub_c (a.den I ρ) (b.den I ρ) (c.den I ρ) (d.den I ρ) w).mono fun e w' ⟨he, hb⟩ => ⟨?_, hb⟩) rfl ht hw
          rw [he, w64_in _ (by omega), w64_in _ (by omega)]
          rfl
  · cases h
def pxT (f j : Nat) : T := .bin .sub (.app f (tl [.lit (.ofNat j), .lit 400001])) (.lit 200000)
def ctAt6 (n : Nat) : CT := fun g args s => bif Nat.beq g 34 then match args with
  | [.agg [.int .i64 (.var k), .int .i64 ax, .int .i64 ay, .int .i64 bx, .int .i64 by', .int .i64 cx, .int .i64 cy], .c (.abs 1000 (.cons (.bin .min (.app 998 .nil) (.lit (.ofNat 2))) .nil))] =>
    natF ((k - 10) / 7) fun j => bif Nat.blt j n && etSame ⟨.var k, ax, ay, bx, by', cx, cy⟩ (edT j) then some (.leaf (.agg [.int .i64 (pxT 30 j), .int .i64 (pxT 31 j)], s)) else none
  | _ => none
  else none
theorem ctAt6_ok {W : World} {l : Ls} (h0 : l.Ok W) {hd : List Int} {es : List E7} (hs : ∀ e ∈ es, e.small) : CTOk Try.prog (IA W l es) (envE hd es) (ctAt6 es.length) := by
  intro g args s t h w0 X n0 β0 β w R ht hw ha
  unfold ctAt6 at h
  cases hg : Nat.beq g 34 with
  | false => rw [hg] at h; cases h
  | true =>
    rw [hg] at h
    have := Nat.eq_of_beq_eq_true hg
    subst this
    simp only [cond_true] at h
    split at h
    · rename_i k ax ay bx by' cx cy
      simp only [natF_eq] at h
      cases hc : (Nat.blt ((k - 10) / 7) es.length && etSame ⟨.var k, ax, ay, bx, by', cx, cy⟩ (edT ((k - 10) / 7))) with
      | false => rw [hc] at h; cases h
      | true =>
        rw [hc] at h
        injection h with h
        subst h
        simp only [Bool.and_eq_true, Nat.blt_eq] at hc
        obtain ⟨hj, he⟩ := hc
        obtain ⟨j, hjd⟩ : ∃ j, (k - 10) / 7 = j := ⟨_, rfl⟩
        rw [hjd] at hj he ht
        have he := congrArg (ET.den (IA W l es) (envE hd es)) (etSame_eq he)
        rw [edT_den hj] at he
        have hm : min l.zs.length 2 ≤ l.zs.length := Nat.min_le_left _ _
        have hsm : es[j]!.small := hs _ (by rw [getElem!_pos es j hj]; exact List.getElem_mem _)
        obtain ⟨hb, hcall⟩ := at06P_spec (cutL_ok h0 _ hm) hsm
        have hy : Hyp (IS W (cutL l (min l.zs.length 2))) w (fun _ => False) := fun p hp => by
          obtain ⟨a1, a2⟩ := hw.hyp p hp
          exact ⟨(hw.keeps.block _ (Array.getElem?_eq_some_iff.1 a1).1 a2).trans a1, id⟩
        have e1 : (pxT 30 j).den (IA W l es) (envE hd es) = (at06P W (cutL l (min l.zs.length 2)) es[j]!).1 := by
          show clampN ((at06P W (cutL l (min l.zs.length 2)) es[j]!).1 + 200000) 400001 - 200000 = _
          unfold clampN
          rw [if_neg (by omega), if_neg (by omega)]
          omega
        have e2 : (pxT 31 j).den (IA W l es) (envE hd es) = (at06P W (cutL l (min l.zs.length 2)) es[j]!).2 := by
          show clampN ((at06P W (cutL l (min l.zs.length 2)) es[j]!).2 + 200000) 400001 - 200000 = _
          unfold clampN
          rw [if_neg (by omega), if_neg (by omega)]
          omega
        refine ct_leaf1 ?_ rfl ht hw
        have ea : ([V.agg [.int .i64 (.var k), .int .i64 ax, .int .i64 ay, .int .i64 bx, .int .i64 by', .int .i64 cx, .int .i64 cy], .c (.abs 1000 (.cons (.bin .min (.app 998 .nil) (.lit (.ofNat 2))) .nil))].map (V.den (IA W l es) (envE hd es) β)).toArray = #[es[j]!.val, (cutL l (min l.zs.length 2)).v] := by
          rw [cutL_v _ hm, ← he]
          have ek : (T.bin .min (.app 998 .nil) (.lit (.ofNat 2))).den (IA W l es) (envE hd es) = ((min l.zs.length 2 : Nat) : Int) := by
            show (if (2 : Int) < (l.zs.length : Int) then (2 : Int) else (l.zs.length : Int)) = _
            split <;> omega
          simp only [List.map_cons, List.map_nil, V.den, C.den, T.dens_cons, T.dens_nil, ek]
          rfl
        rw [ea]
        refine (hcall w hy).mono fun x w' ⟨hx, hbl⟩ => ⟨?_, hbl⟩
        rw [hx, ← e1, ← e2]
        rfl
    · cases h
def knA : Known := ⟨[(.lt (.lit (-1)) (.var 0), true), (.lt (.var 0) (.lit 41), true)], [0, 30, 31], 0⟩
def ctA9 (n : Nat) : CT := ctOr (ctAt6 n) (ctOr ctNs ctAS)
def sE (n : Nat) : C := .osl 0 1 0 0 n
def rowSame (n : Nat) (s : S) (x : C) : Bool := match slE s x with
  | some es => capOk s x && esSame es (esT n)
  | none => false
def atOk (n : Nat) (v : V) (s : S) : Bool := ptOk knA (-200100) 200100 v && rowSame n s (sE n)
def knJ (n j : Nat) : Known := ⟨(.eq (.bin .rem (.app 0 (tl [.lit 0, .lit 100])) (.lit (.ofNat n))) (.lit (.ofNat j)), true) :: knA.facts, [0, 30, 31], 0⟩
noncomputable def atRun (n j : Nat) : Bool := csF (.yld 1 :: vcells n) fun cs => leavesS (atOk n) (execF Try.prog (ctA9 n) 20 10 [.agg [.int .i64 (.var 9), .osl 0 1 0 0 n, .int .i64 (.var 0)], .c (.abs 0 .nil)] ⟨[(0, ⟨oty 41 7, cs⟩)], 2, knJ n j⟩)
noncomputable def atRuns (n : Nat) : Nat → Bool
  | 0 => true
  | j + 1 => (natF j fun j => atRun n j) && atRuns n j
theorem atRuns_ok {n : Nat} : ∀ {m : Nat}, atRuns n m = true → ∀ j, j < m → atRun n j = true
  | 0, _, j, h => absurd h (Nat.not_lt_zero _)
  | m + 1, h, j, hj => by
    simp only [atRuns, natF_eq, Bool.and_eq_true] at h
    rcases Nat.lt_succ_iff_lt_or_eq.1 hj with hj | rfl
    · exact atRuns_ok h.2 j hj
    · exact h.1
set_option maxRecDepth 1000000 in
theorem atRun_1 : atRuns 1 1 = true := by kernel_rfl
set_option maxRecDepth 1000000 in
theorem atRun_2 : atRuns 2 2 = true := by kernel_rfl
set_option maxRecDepth 1000000 in
theorem atRun_3 : atRuns 3 3 = true := by kernel_rfl
set_option maxRecDepth 1000000 in
theorem atRun_4 : atRuns 4 4 = true := by kernel_rfl
set_option maxRecDepth 1000000 in
theorem atRun_5 : atRuns 5 5 = true := by kernel_rfl
set_option maxRecDepth 1000000 in
theorem atRun_8 : atRuns 8 8 = true := by kernel_rfl
theorem atRun_ok {K R : Int} {es : List E7} (h : Made K R es) : atRuns es.length es.length = true := by
  have c : es.length = 1 ∨ es.length = 2 ∨ es.length = 3 ∨ es.length = 4 ∨ es.length = 5 ∨ es.length = 8 := by rcases h.many with h | h <;> omega
  rcases c with c | c | c | c | c | c <;> rw [c]
  · exact atRun_1
  · exact atRun_2
  · exact atRun_3
  · exact atRun_4
  · exact atRun_5
  · exact atRun_8
def AtAs (W : World) (l : Ls) (K R : Int) (es : List E7) (px py : Int) : Prop := ∀ w b cap, Hyp (IS W l) w (fun _ => False) → W.heap.size ≤ b → RowE w b cap es →
  Calls Try.prog 10 #[.agg #[.int .i64 K, .slice (some ⟨b, 0, none⟩) es.length cap, .int .i64 R], l.v] w (fun e w' => e = .returned (.agg #[.int .i64 px, .int .i64 py]) ∧ Keeps (fun g => g = b) w w' ∧ RowE w' b cap es)
theorem rowSame_ok {I : Interp} {hd : List Int} {es : List E7} {w0 w : World} {X : Nat → Prop} {n0 : Nat} {β0 β : Nat → Nat} {s : S} (h : WR I (envE hd es) w0 X n0 β0 β s w) {x : C} (hx : rowSame es.length s x = true) :
    ∃ b cap, x.den I (envE hd es) β = .slice (some ⟨b, 0, none⟩) es.length cap ∧ RowE w b cap es ∧ (X b ∨ w0.heap.size ≤ b) := by
  unfold rowSame at hx
  split at hx
  · rename_i fs hfs
    simp only [Bool.and_eq_true] at hx
    have := esSame_eq hx.2
    subst this
    obtain ⟨b, cap, h1, h2, h3⟩ := capOk_ok h hx.1 hfs
    rw [esT_den] at h2
    rw [esT_len] at h1
    exact ⟨b, cap, h1, h2, h3⟩
  · cases hx
theorem at_as {W : World} {l : Ls} (h0 : l.Ok W) {K R : Int} {es : List E7} (hM : Made K R es) : ∃ px py : Int, (-200100 ≤ px ∧ px ≤ 200100 ∧ -200100 ≤ py ∧ py ≤ 200100) ∧ AtAs W l K R es px py := by
  have hpos : (0 : Int) < es.length := by rcases hM.many with h | h <;> omega
  have hdr := drawV_in l.zs 0 (n := 100) (by decide)
  obtain ⟨j, hj⟩ : ∃ j : Nat, (drawV l.zs 0 100).tmod es.length = (j : Int) := ⟨((drawV l.zs 0 100).tmod es.length).toNat, by rw [Int.toNat_of_nonneg (Int.tmod_nonneg _ hdr.1)]⟩
  have hjl : j < es.length := by
    have := Int.tmod_lt_of_pos (drawV l.zs 0 100) hpos
    omega
  have hrun := atRuns_ok (atRun_ok hM) j hjl
  unfold atRun at hrun
  rw [csF_eq] at hrun
  obtain ⟨hd, hhd⟩ : ∃ hd : List Int, hd = [R, 0, 0, 0, 0, 0, 0, 0, 0, K] := ⟨_, rfl⟩
  have e0 : (envE hd es).i 0 = R := by rw [envE_hd (by decide), hhd]; rfl
  have e9 : (envE hd es).i 9 = K := by rw [envE_hd (by decide), hhd]; rfl
  have hk : knA.Ok (IA W l es) (envE hd es) := by
    refine ⟨fun p hp => ?_, fun f hf a n hn => ?_, fun _ h => absurd h (Nat.not_lt_zero _)⟩
    · simp only [knA, List.mem_cons, List.not_mem_nil, or_false] at hp
      have := hM.r
      rcases hp with rfl | rfl
      · refine B.lt_t.2 ?_
        rw [T.den_lit, T.den_var, e0]; omega
      · refine B.lt_t.2 ?_
        rw [T.den_lit, T.den_var, e0]; omega
    · simp only [knA, List.mem_cons, List.not_mem_nil, or_false] at hf
      rcases hf with rfl | rfl | rfl
      · exact drawV_in _ _ hn
      · exact clampN_in _ hn
      · exact clampN_in _ hn
  have hkJ : (knJ es.length j).Ok (IA W l es) (envE hd es) := by
    refine ⟨fun p hp => ?_, hk.draws, hk.n64⟩
    rcases List.mem_cons.1 hp with rfl | hp
    · exact B.eq_t.2 hj
    · exact hk.facts p hp
  have hct : CTOk Try.prog (IA W l es) (envE hd es) (ctA9 es.length) := ctOr_ok (ctAt6_ok h0 hM.small) (ctOr_ok (ctNs_gen h0 (fun _ _ => rfl) (fun _ => rfl) rfl rfl _) (ctAS_gen _))
  obtain ⟨⟨v, s⟩, h1, h2⟩ := Tree.vc_ex (leavesS_vc (I := IA W l es) (ρ := envE hd es) hrun)
  unfold atOk at h2
  simp only [Bool.and_eq_true] at h2
  obtain ⟨h2, h3⟩ := h2
  unfold ptOk at h2
  split at h2
  · rename_i x y
    simp only [Bool.and_eq_true] at h2
    have hx := inB_ok hk h2.1
    have hy := inB_ok hk h2.2
    refine ⟨x.den (IA W l es) (envE hd es), y.den (IA W l es) (envE hd es), ⟨hx.1, hx.2, hy.1, hy.2⟩, ?_⟩
    intro w b cap hh hb hR
    obtain ⟨β, hβ⟩ : ∃ β : Nat → Nat, β = fun i => if i = 0 then b else cap := ⟨_, rfl⟩
    have b0 : β 0 = b := by rw [hβ]; rfl
    have b1 : β 1 = cap := by rw [hβ]; rfl
    obtain ⟨o1, o2, o3⟩ := oty_facts (e := 41) (n := 7) (by decide)
    have one : ∀ p ∈ [(0, (⟨oty 41 7, .yld 1 :: vcells es.length⟩ : Blk))], p = (0, ⟨oty 41 7, .yld 1 :: vcells es.length⟩) := fun p hp => by simpa using hp
    have hW : WR (IA W l es) (envE hd es) w (fun g => g = b) 2 β β ⟨[(0, ⟨oty 41 7, .yld 1 :: vcells es.length⟩)], 2, knJ es.length j⟩ w := by
      refine ⟨fun p hp _ => ?_, fun p hp _ q hq _ _ => ?_, fun p hp => ?_, fun p hp c hc => ?_, fun p hp _ => ?_, fun p hp ho => ?_, fun p hp q hq _ => ?_, hkJ, Nat.le_refl _, fun _ _ => rfl, Keeps.refl _ _, fun p hp => ?_⟩
      · rw [one p hp]; exact rowP_of hR b0 b1
      · rw [one p hp, one q hq]
      · rw [one p hp]; exact Nat.zero_lt_two
      · rw [one p hp] at hc
        rcases List.mem_cons.1 hc with hc | hc
        · subst hc; rfl
        · exact vcells_wf _ _ c hc
      · rw [one p hp]; exact .inl b0
      · rw [one p hp] at ho
        have hno : Blk.isOpq ⟨oty 41 7, .yld 1 :: vcells es.length⟩ = false := opn_opq o1
        have ho' : Blk.isOpq ⟨oty 41 7, .yld 1 :: vcells es.length⟩ = true := ho
        rw [hno] at ho'
        cases ho'
      · rw [one p hp, one q hq]
      · obtain ⟨a1, -⟩ := hh p hp
        refine ⟨a1, fun e => ?_⟩
        have := (Array.getElem?_eq_some_iff.1 (mem_fixed.1 hp)).1
        omega
    have hcall := execF_ok mixed nocount hct 20 10 [.agg [.int .i64 (.var 9), .osl 0 1 0 0 es.length, .int .i64 (.var 0)], .c (.abs 0 .nil)] ⟨[(0, ⟨oty 41 7, .yld 1 :: vcells es.length⟩)], 2, knJ es.length j⟩ w (fun g => g = b) 2 β β w
      (fun e w' => e = .returned (.agg #[.int .i64 (x.den (IA W l es) (envE hd es)), .int .i64 (y.den (IA W l es) (envE hd es))]) ∧ Keeps (fun g => g = b) w w' ∧ RowE w' b cap es)
      (Tree.vc_sel h1 (fun β' w' hw _ hnb hag => ?_)) hW (fun v hv => ?_)
    · have ea : ([V.agg [.int .i64 (.var 9), .osl 0 1 0 0 es.length, .int .i64 (.var 0)], .c (.abs 0 .nil)].map (V.den (IA W l es) (envE hd es) β)).toArray = #[.agg #[.int .i64 K, .slice (some ⟨b, 0, none⟩) es.length cap, .int .i64 R], l.v] := by
        simp only [List.map_cons, List.map_nil, V.den, C.den, cellsOf, T.den_var, e0, e9, b0, b1, Nat.sub_zero, T.dens_nil]
        rfl
      rw [ea] at hcall
      exact hcall
    · obtain ⟨b', cap', k1, k2, -⟩ := rowSame_ok hw h3
      have g0 : β' 0 = b := (hag 0 Nat.zero_lt_two).trans b0
      have g1 : β' 1 = cap := (hag 1 Nat.one_lt_two).trans b1
      have k1' : Value.slice (some ⟨β' 0, 0, none⟩) es.length (β' 1 - 0) = .slice (some ⟨b', 0, none⟩) es.length cap' := k1
      rw [g0, g1, Nat.sub_zero] at k1'
      injection k1' with q1 _ q2
      injection q1 with q1
      injection q1 with q1
      subst q1 q2
      exact ⟨rfl, hw.keeps, k2⟩
    · simp only [List.mem_cons, List.not_mem_nil, or_false] at hv
      rcases hv with rfl | rfl
      · rfl
      · rfl
  · cases h2
end Go.Proofs.Ytliimpbbppbghaa.Sx

