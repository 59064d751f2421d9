import Derived.Test.YtliimpbbppbghaaUTk
import Derived.Test.YtliimpbbppbghaaUSq
set_option linter.all false
set_option autoImplicit false
namespace Go.Proofs.Ytliimpbbppbghaa.Sx
open Go Go.RowKit
def decE : List Int → List E7
  | k :: ax :: ay :: bx :: by' :: cx :: cy :: r => ⟨k, ax, ay, bx, by', cx, cy⟩ :: decE r
  | _ => []
theorem decE_flat : ∀ es : List E7, decE (es.flatMap E7.ints) = es
  | [] => rfl
  | e :: r => by
    simp only [List.flatMap_cons, E7.ints, List.cons_append, List.nil_append, decE]
    exact congrArg _ (decE_flat r)
def fiW (l0 : Ls) (f : Nat) (a : List Int) : Int := match f, a with
  | 20, [c, n] => sX c n
  | 21, [c, n] => sY c n
  | 22, [r, t] => r * 16 + t
  | 40, K :: R :: q => checkS K R (decE q)
  | 41, [k] => opp k
  | 42, R :: q => (boxS (decE q) R).x0
  | 43, R :: q => (boxS (decE q) R).y0
  | 44, R :: q => (boxS (decE q) R).x1
  | 45, R :: q => (boxS (decE q) R).y1
  | 998, [] => l0.zs.length
  | _, _ => 0
def fbW (f : Nat) (a : List Int) : Bool := match f, a with
  | 5, K :: R :: px :: py :: q => insideS K R (decE q) px py
  | _, _ => false
def fvW (l0 l1 : Ls) (f : Nat) (a : List Int) : Value := match f, a with
  | 1000, [k] => cutV l0.v k
  | 1, _ => l1.v
  | _, _ => l0.v
theorem fvW_sl (l0 l1 : Ls) (f : Nat) (a : List Int) : ∃ p n c, fvW l0 l1 f a = .slice p n c := by
  unfold fvW
  split
  · exact ⟨_, _, _, rfl⟩
  · exact ⟨_, _, _, rfl⟩
  · exact ⟨_, _, _, rfl⟩
def IW (W : World) (l0 l1 : Ls) : Interp := ⟨fiW l0, fbW, fvW l0 l1, fixedOf W, noOpq, fun _ => rfl, fun f x => by obtain ⟨p, n, c, e⟩ := fvW_sl l0 l1 f x; rw [e]; exact ⟨(fun _ h => nomatch h), (fun _ h => nomatch h)⟩, ⟨l0.p, l0.zs.length, l0.cap, rfl, rfl, fun k => rfl⟩⟩
theorem tl_dens {I : Interp} {ρ : Env} : ∀ q : List T, (tl q).dens I ρ = q.map (T.den I ρ)
  | [] => rfl
  | a :: r => by
    simp only [tl, T.dens_cons, List.map_cons, tl_dens r]
theorem flat_ints {I : Interp} {ρ : Env} : ∀ es : List ET, (es.flatMap ET.list).map (T.den I ρ) = (es.map (ET.den I ρ)).flatMap E7.ints
  | [] => rfl
  | e :: r => by
    simp only [List.flatMap_cons, List.map_append, List.map_cons, flat_ints r]
    rfl
theorem WR.rerow {I : Interp} {ρ : Env} {w0 w w' : World} {X : Nat → Prop} {n0 : Nat} {β0 β : Nat → Nat} {s : S} (h : WR I ρ w0 X n0 β0 β s w) {id : Nat} {b : Blk} (hb : (id, b) ∈ s.blks) (hl : b.live = true) (hr : RowP I ρ β w' id b) (hk : Keeps (fun g => g = β id) w w') : WR I ρ w0 X n0 β0 β s w' := by
  refine ⟨fun p hp ho => ?_, h.inj, h.idlt, h.cwf, h.own, fun p hp ho => ⟨I.opq.keep w w' _ _ (h.held p hp ho).1 (fun g hg => hk.block g (I.opq.lt _ _ _ (h.held p hp ho).1 g hg) (fun e => (h.held p hp ho).2 _ hb hl (e ▸ hg))), (h.held p hp ho).2⟩, h.uniq, h.known, h.n0le, h.agr, ?_, h.hyp⟩
  · by_cases he : p.1 = id
    · have : p = (id, b) := by
        obtain ⟨i, c⟩ := p
        simp only at he
        subst he
        exact congrArg _ (h.uniq _ hp _ hb rfl)
      rw [this]; exact hr
    · exact (h.row p hp ho).heap (hk.block _ (h.lt hp ho) (fun e => he (h.inj p hp ho _ hb hl e)))
  · refine ⟨hk.os.trans h.keeps.os, hk.tape.trans h.keeps.tape, hk.output.trans h.keeps.output, Nat.le_trans h.keeps.size hk.size, fun g hg hx => ?_⟩
    refine (hk.block g (Nat.lt_of_lt_of_le hg h.keeps.size) (fun e => ?_)).trans (h.keeps.block g hg hx)
    rcases h.own _ hb hl with o | o
    · exact hx (by rw [e]; exact o)
    · simp only at o; omega
section
variable {W : World} {l0 l1 : Ls}
end
def capG (s : S) : C → Bool
  | .slice _ _ len cap => Nat.ble len cap
  | .osl id cid _ skip len => match s.find id with
    | some ⟨ty, .yld cid' :: r⟩ => opn ty && (Nat.beq (szO ty) 7 && (Nat.beq cid cid' && Nat.ble ((skip + len) * 7) r.length))
    | _ => false
  | .nils => true
  | _ => false
theorem capG_ok {I : Interp} {ρ : Env} {w0 w : World} {X : Nat → Prop} {n0 : Nat} {β0 β : Nat → Nat} {s : S} (h : WR I ρ w0 X n0 β0 β s w) {x : C} (hx : capG s x = true) {p : Option Addr} {n c : Nat} (hd : x.den I ρ β = .slice p n c) : n ≤ c := by
  unfold capG at hx
  split at hx
  · rename_i id off len cap
    rw [Nat.ble_eq] at hx
    injection hd with a b c
    omega
  · rename_i id cid off skip len
    split at hx
    · rename_i ty cid' r hf
      simp only [Bool.and_eq_true, Nat.beq_eq, Nat.ble_eq] at hx
      obtain ⟨g1, g2, rfl, g4⟩ := hx
      obtain ⟨hm, hl⟩ := find_mem hf
      have hr0 := h.row _ hm hl
      unfold RowP at hr0
      simp only at hr0
      rw [g1] at hr0
      obtain ⟨cur, k1, k2, k3, k4, k5, k6⟩ := hr0
      rw [g2] at k2
      injection hd with a b c
      omega
    · cases hx
  · injection hd with a b c
    omega
  · cases hx
def tsSame : List T → List T → Bool
  | [], [] => true
  | a :: r, b :: q => a.same b && tsSame r q
  | _, _ => false
theorem tsSame_eq : ∀ {a b : List T}, tsSame a b = true → a = b
  | [], [], _ => rfl
  | a :: r, b :: q, h => by
    simp only [tsSame, Bool.and_eq_true] at h
    rw [T.same_eq h.1, tsSame_eq h.2]
  | [], _ :: _, h => by cases h
  | _ :: _, [], h => by cases h
section
variable {α : Type}
def tsF : List T → (List T → α) → α
  | [], k => k []
  | a :: r, k => a.force fun a => tsF r fun r => k (a :: r)
theorem tsF_eq (l : List T) : ∀ k : List T → α, tsF l k = k l := by
  induction l with
  | nil => intro k; rfl
  | cons e r ih => intro k; simp [tsF, T.force_eq, ih]
def ansF : List (List T × B) → (List (List T × B) → α) → α
  | [], k => k []
  | (q, b) :: r, k => tsF q fun q => b.force fun b => ansF r fun r => k ((q, b) :: r)
theorem ansF_eq (l : List (List T × B)) : ∀ k : List (List T × B) → α, ansF l k = k l := by
  induction l with
  | nil => intro k; rfl
  | cons e r ih => intro k; obtain ⟨q, b⟩ := e; simp [ansF, tsF_eq, B.force_eq, ih]
def oksF : List (List T) → (List (List T) → α) → α
  | [], k => k []
  | q :: r, k => tsF q fun q => oksF r fun r => k (q :: r)
theorem oksF_eq (l : List (List T)) : ∀ k : List (List T) → α, oksF l k = k l := by
  induction l with
  | nil => intro k; rfl
  | cons e r ih => intro k; simp [oksF, tsF_eq, ih]
end
def look (q : List T) : List (List T × B) → Option B
  | [] => none
  | p :: r => bif tsSame q p.1 then some p.2 else look q r
theorem look_mem {q : List T} {b : B} : ∀ {l : List (List T × B)}, look q l = some b → (q, b) ∈ l
  | [], h => by cases h
  | p :: r, h => by
    unfold look at h
    cases hb : tsSame q p.1 with
    | true =>
      rw [hb] at h
      injection h with h
      obtain ⟨q', b'⟩ := p
      simp only at h hb
      rw [tsSame_eq hb, ← h]
      exact .head _
    | false => rw [hb] at h; exact .tail _ (look_mem h)
def qT (K R px py : T) (es : List ET) : List T := K :: R :: px :: py :: es.flatMap ET.list
def kT (K R : T) (es : List ET) : List T := K :: R :: es.flatMap ET.list
def inB5 (q : List T) : B := .app 5 (tl q)
def ctIn (ans : List (List T × B)) : CT := fun g args s => bif Nat.beq g 14 then match args with
  | [.agg [.int .i64 K, x, .int .i64 R], .agg [.int .i64 px, .int .i64 py]] => match slE s x with
    | some es => bif capG s x && Nat.ble es.length 1000 then some (tsF (qT K R px py es) fun q => match look q ans with
        | some b => (b.under s.known).force fun b => .leaf (.c (.bool b), s)
        | none => .leaf (.c (.bool (inB5 q)), s)) else none
    | none => none
  | _ => none
  else none
def inOks (q : List T) : List (List T) → Bool
  | [] => false
  | p :: r => tsSame q p || inOks q r
theorem inOks_mem {q : List T} : ∀ {l : List (List T)}, inOks q l = true → q ∈ l
  | [], h => by cases h
  | p :: r, h => by
    simp only [inOks, Bool.or_eq_true] at h
    rcases h with h | h
    · rw [tsSame_eq h]; exact .head _
    · exact .tail _ (inOks_mem h)
def ctCk (oks : List (List T)) : CT := fun g args s => bif Nat.beq g 13 then match args with
  | [.agg [.int .i64 K, x, .int .i64 R]] => match slE s x with
    | some es => bif Nat.ble es.length 1000 && inOks (kT K R es) oks then some (.leaf (.c (.int .i64 (.lit 0)), s)) else none
    | none => none
  | _ => none
  else none
def ctMd (K : Int) (n : Nat) : CT := fun g args s => bif Nat.beq g 9 then match args with
  | [.c (.abs 0 .nil)] => some (s.alloc2K (oty 41 7) (vcells n) fun s' => .leaf (.agg [.int .i64 (.lit K), .osl s.nb (s.nb + 1) 0 0 n, .int .i64 (.var 0)], s'))
  | _ => none
  else none
def ctAt (K : Int) (n : Nat) : CT := fun g args s => bif Nat.beq g 10 then match args with
  | [.agg [.int .i64 (.lit k), .osl id cid 0 0 m, .int .i64 (.var 0)], .c (.abs 1 .nil)] => bif intSame k K && rowSame n s (.osl id cid 0 0 m) then some (.leaf (.agg [.int .i64 (.var 1), .int .i64 (.var 2)], s)) else none
  | _ => none
  else none
section
variable {W : World} {l0 l1 : Ls} {ρ : Env}
theorem q_den (K R px py : T) (es : List ET) : fbW 5 ((qT K R px py es).map (T.den (IW W l0 l1) ρ)) = insideS (K.den (IW W l0 l1) ρ) (R.den (IW W l0 l1) ρ) (es.map (ET.den (IW W l0 l1) ρ)) (px.den (IW W l0 l1) ρ) (py.den (IW W l0 l1) ρ) := by
  unfold qT
  simp only [List.map_cons, flat_ints]
  show insideS _ _ (decE _) _ _ = _
  rw [decE_flat]
theorem in5_den (q : List T) : (inB5 q).den (IW W l0 l1) ρ = fbW 5 (q.map (T.den (IW W l0 l1) ρ)) := by
  unfold inB5
  show fbW 5 ((tl q).dens (IW W l0 l1) ρ) = _
  rw [tl_dens]
theorem ctIn_ok {ans : List (List T × B)} (hans : ∀ p ∈ ans, fbW 5 (p.1.map (T.den (IW W l0 l1) ρ)) = p.2.den (IW W l0 l1) ρ) : CTOk Try.prog (IW W l0 l1) ρ (ctIn ans) := by
  intro g args s t h w0 X n0 β0 β w R ht hw ha
  unfold ctIn at h
  cases hg : Nat.beq g 14 with
  | false => rw [hg] at h; cases h
  | true =>
    rw [hg] at h
    have := Nat.eq_of_beq_eq_true hg
    subst this
    simp only [cond_true] at h
    split at h
    · rename_i K x Rr px py
      split at h
      · rename_i es hes
        cases hc : (capG s x && Nat.ble es.length 1000) with
        | false => rw [hc] at h; cases h
        | true =>
          rw [hc] at h
          simp only [Bool.and_eq_true, Nat.ble_eq] at hc
          injection h with h
          rw [tsF_eq] at h
          obtain ⟨p, cap, hx, hS⟩ := slE_ok hw hes (by omega)
          have hcap := capG_ok hw hc.1 hx
          have hcall := inside_calls (K.den (IW W l0 l1) ρ) (Rr.den (IW W l0 l1) ρ) (px.den (IW W l0 l1) ρ) (py.den (IW W l0 l1) ρ) p es.length cap _ w hS hcap
          have ea : ([V.agg [.int .i64 K, x, .int .i64 Rr], .agg [.int .i64 px, .int .i64 py]].map (V.den (IW W l0 l1) ρ β)).toArray = #[.agg #[.int .i64 (K.den (IW W l0 l1) ρ), .slice p es.length cap, .int .i64 (Rr.den (IW W l0 l1) ρ)], .agg #[.int .i64 (px.den (IW W l0 l1) ρ), .int .i64 (py.den (IW W l0 l1) ρ)]] := by
            rw [← hx]; rfl
          have key : ∀ b : B, b.den (IW W l0 l1) ρ = fbW 5 ((qT K Rr px py es).map (T.den (IW W l0 l1) ρ)) → t = .leaf (.c (.bool b), s) → Calls Try.prog 14 ([V.agg [.int .i64 K, x, .int .i64 Rr], .agg [.int .i64 px, .int .i64 py]].map (V.den (IW W l0 l1) ρ β)).toArray w R := by
            intro b hb e
            subst e
            rw [ea]
            rw [q_den] at hb
            refine hcall.mono fun e w' ⟨he, hbl⟩ => ?_
            rw [he, ← hb]
            exact ht β w' (hw.below hbl) rfl (Nat.le_refl _) (fun _ _ => rfl)
          split at h
          · rename_i b hb
            rw [B.force_eq] at h
            exact key _ ((B.den_under hw.known b).trans (hans _ (look_mem hb)).symm) h.symm
          · exact key _ (in5_den _) h.symm
      · cases h
    · cases h
theorem ctCk_ok {oks : List (List T)} (hoks : ∀ q ∈ oks, fiW l0 40 (q.map (T.den (IW W l0 l1) ρ)) = 0) : CTOk Try.prog (IW W l0 l1) ρ (ctCk oks) := by
  intro g args s t h w0 X n0 β0 β w R ht hw ha
  unfold ctCk at h
  cases hg : Nat.beq g 13 with
  | false => rw [hg] at h; cases h
  | true =>
    rw [hg] at h
    have := Nat.eq_of_beq_eq_true hg
    subst this
    simp only [cond_true] at h
    split at h
    · rename_i K x Rr
      split at h
      · rename_i es hes
        cases hc : (Nat.ble es.length 1000 && inOks (kT K Rr es) oks) with
        | false => rw [hc] at h; cases h
        | true =>
          rw [hc] at h
          simp only [Bool.and_eq_true, Nat.ble_eq] at hc
          injection h with h
          subst h
          obtain ⟨p, cap, hx, hS⟩ := slE_ok hw hes (by omega)
          have hcall := check_calls (K.den (IW W l0 l1) ρ) (Rr.den (IW W l0 l1) ρ) p es.length cap _ w hS
          have h0 := hoks _ (inOks_mem hc.2)
          unfold kT at h0
          simp only [List.map_cons, flat_ints] at h0
          have h0 : checkS (K.den (IW W l0 l1) ρ) (Rr.den (IW W l0 l1) ρ) (es.map (ET.den (IW W l0 l1) ρ)) = 0 := by
            have : checkS (K.den (IW W l0 l1) ρ) (Rr.den (IW W l0 l1) ρ) (decE ((es.map (ET.den (IW W l0 l1) ρ)).flatMap E7.ints)) = 0 := h0
            rw [decE_flat] at this
            exact this
          refine ct_leaf1 ?_ rfl ht hw
          have ea : ([V.agg [.int .i64 K, x, .int .i64 Rr]].map (V.den (IW W l0 l1) ρ β)).toArray = #[.agg #[.int .i64 (K.den (IW W l0 l1) ρ), .slice p es.length cap, .int .i64 (Rr.den (IW W l0 l1) ρ)]] := by
            rw [← hx]; rfl
          rw [ea]
          refine hcall.mono fun e w' ⟨he, hbl⟩ => ⟨?_, hbl⟩
          rw [he, h0]
          rfl
      · cases h
    · cases h
theorem ctMd_ok {K R : Int} {es : List E7} {hd : List Int} (hR : hd.getD 0 0 = R) (hM : MadeAs W l0 K R es 9 #[l0.v]) : CTOk Try.prog (IW W l0 l1) (envE hd es) (ctMd K es.length) := by
  intro g args s t h w0 X n0 β0 β w Q ht hw ha
  unfold ctMd at h
  cases hg : Nat.beq g 9 with
  | false => rw [hg] at h; cases h
  | true =>
    rw [hg] at h
    have := Nat.eq_of_beq_eq_true hg
    subst this
    simp only [cond_true] at h
    split at h
    · injection h with h
      rw [S.alloc2K_eq] at h
      subst h
      have hy : Hyp (IS W l0) w (fun _ => False) := fun p hp => by
        obtain ⟨a1, a2⟩ := hw.hyp p hp
        exact ⟨(hw.keeps.block _ (Array.getElem?_eq_some_iff.1 a1).1 a2).trans a1, id⟩
      have hcall := hM w hy
      refine hcall.mono ?_
      rintro e w' ⟨b, cap, rfl, hrow, hb, hbl⟩
      obtain ⟨o1, o2, o3⟩ := oty_facts (e := 41) (n := 7) (by decide)
      have hag : ∀ id, id < s.nb → up (up β s.nb b) (s.nb + 1) cap id = β id := fun id hid => (up_lt id (by omega)).trans (up_lt id hid)
      have e0 : up (up β s.nb b) (s.nb + 1) cap s.nb = b := (up_lt _ (by omega)).trans up_self
      have e1 : up (up β s.nb b) (s.nb + 1) cap (s.nb + 1) = cap := up_self
      have hw2 := hw.newR (β' := up (up β s.nb b) (s.nb + 1) cap) (n := s.nb + 2) (ty := oty 41 7) (cs := .yld (s.nb + 1) :: vcells es.length) (by omega) hag (opn_opq o1) (fun c hc => by
          rcases List.mem_cons.1 hc with hc | hc
          · subst hc; simp [C.wf]
          · exact vcells_wf _ _ c hc) (w' := w') (hw.keeps.trans ⟨hbl.os, hbl.tape, hbl.output, hbl.size, fun g hg _ => hbl.block g hg⟩) (rowP_of hrow e0 e1)
        (fun p hp ho => ⟨hbl.block _ (hw.lt hp ho), by have := hw.lt hp ho; rw [e0]; omega⟩) (.inr (by rw [e0]; exact Nat.le_trans hw.keeps.size hb)) (fun p hp ho g hg => ((hw.held p hp ho).1 : False).elim)
      have := ht _ w' hw2 (by simp [V.wf, C.wf, S.alloc2]) (by show s.nb ≤ s.nb + 2; omega) hag
      simp only [V.den, cellsOf, List.map_cons, List.map_nil, C.den, e0, e1, T.den_lit, T.den_var, envE_hd (show 0 < 10 by decide), hR, Nat.sub_zero] at this
      exact this
    · cases h
theorem ctAt_ok {K R px py : Int} {es : List E7} {hd : List Int} (hR : hd.getD 0 0 = R) (hx : hd.getD 1 0 = px) (hy : hd.getD 2 0 = py) (hA : AtAs W l1 K R es px py) : CTOk Try.prog (IW W l0 l1) (envE hd es) (ctAt K es.length) := by
  intro g args s t h w0 X n0 β0 β w Q ht hw ha
  unfold ctAt at h
  cases hg : Nat.beq g 10 with
  | false => rw [hg] at h; cases h
  | true =>
    rw [hg] at h
    have := Nat.eq_of_beq_eq_true hg
    subst this
    simp only [cond_true] at h
    split at h
    · rename_i k id cid m
      cases hc : (intSame k K && rowSame es.length s (.osl id cid 0 0 m)) with
      | false => rw [hc] at h; cases h
      | true =>
        rw [hc] at h
        injection h with h
        subst h
        simp only [Bool.and_eq_true, intSame_eq] at hc
        obtain ⟨rfl, hrs⟩ := hc
        have hrs2 := hrs
        obtain ⟨b, cap, k1, k2, k3⟩ := rowSame_ok hw hrs
        unfold rowSame at hrs2
        split at hrs2
        · rename_i fs hfs
          simp only [Bool.and_eq_true] at hrs2
          have hfe := esSame_eq hrs2.2
          subst hfe
          have hco := hrs2.1
          unfold capOk at hco
          simp only at hco
          split at hco
          · rename_i ty cid' r hf
            simp only [Bool.and_eq_true, Nat.beq_eq] at hco
            obtain ⟨g1, g2, g3, rfl, g4⟩ := hco
            obtain ⟨hm, hl⟩ := find_mem hf
            have hbr : Blk.row ⟨ty, .yld cid :: r⟩ = r := by unfold Blk.row; rw [g1]; rfl
            obtain ⟨q1, q2⟩ := part_all (s := s) (n := m) hf (by rw [hbr]; exact g4) hfs
            rw [hbr] at q2
            rw [esT_len] at q1
            subst q1
            have q2 : r = vcells es.length := q2
            subst q2
            have k1' : Value.slice (some ⟨β id, 0, none⟩) es.length (β cid - 0) = .slice (some ⟨b, 0, none⟩) es.length cap := k1
            rw [Nat.sub_zero] at k1'
            injection k1' with w1 _ w2
            injection w1 with w1
            injection w1 with w1
            have hhy : Hyp (IS W l1) w (fun _ => False) := fun p hp => by
              obtain ⟨a1, a2⟩ := hw.hyp p hp
              exact ⟨(hw.keeps.block _ (Array.getElem?_eq_some_iff.1 a1).1 a2).trans a1, fun h => h⟩
            have hWb : W.heap.size ≤ b := by
              rcases Nat.lt_or_ge b W.heap.size with hlt | hge
              · have hfx : (b, W.heap[b]) ∈ fixedOf W := mem_fixed.2 (Array.getElem?_eq_getElem hlt)
                obtain ⟨a1, a2⟩ := hw.hyp _ hfx
                have a3 := (Array.getElem?_eq_some_iff.1 a1).1
                rcases k3 with k3 | k3
                · exact absurd k3 a2
                · simp only at a3; omega
              · exact hge
            have hcall := hA w b cap hhy hWb k2
            have ea : ([V.agg [.int .i64 (.lit k), .osl id cid 0 0 es.length, .int .i64 (.var 0)], .c (.abs 1 .nil)].map (V.den (IW W l0 l1) (envE hd es) β)).toArray = #[.agg #[.int .i64 k, .slice (some ⟨b, 0, none⟩) es.length cap, .int .i64 R], l1.v] := by
              simp only [List.map_cons, List.map_nil, V.den, C.den, cellsOf, T.den_var, T.den_lit, envE_hd (show 0 < 10 by decide), hR, w1, w2, Nat.sub_zero, T.dens_nil]
              rfl
            rw [ea]
            refine hcall.mono ?_
            rintro e w' ⟨rfl, hk, hrow⟩
            have hrp : RowP (IW W l0 l1) (envE hd es) β w' id ⟨ty, .yld cid :: vcells es.length⟩ := by
              have h0 := rowP_of (I := IW W l0 l1) (hd := hd) (β := β) (id := id) (cid := cid) hrow w1 w2
              obtain ⟨o1, o2, o3⟩ := oty_facts (e := 41) (n := 7) (by decide)
              unfold RowP at h0 ⊢
              simp only [o1] at h0
              simp only [g1]
              unfold OpenRow at h0 ⊢
              rw [o2, o3] at h0
              rw [g2, g3]
              exact h0
            have := ht β w' (hw.rerow hm hl hrp (by rw [w1]; exact hk)) rfl (Nat.le_refl _) (fun _ _ => rfl)
            simp only [V.den, cellsOf, List.map_cons, List.map_nil, C.den, T.den_var, envE_hd (show 1 < 10 by decide), envE_hd (show 2 < 10 by decide), hx, hy] at this
            exact this
          · cases hco
        · cases hrs2
    · cases h
end
def allQ (K : Int) (n : Nat) : List T := qT (.lit K) (.var 0) (.var 1) (.var 2) (esT n)
def stA : List V := [.c (.abs 0 .nil), .c (.abs 1 .nil), .c (.int .u8 (.var 3))]
section
variable {W : World} {l0 l1 : Ls} {hd : List Int} {es : List E7} {R px py s : Int}
structure HdOk (hd : List Int) (R px py s : Int) : Prop where
  r : hd.getD 0 0 = R
  x : hd.getD 1 0 = px
  y : hd.getD 2 0 = py
  s : hd.getD 3 0 = s
theorem v0 (h : HdOk hd R px py s) : (T.var 0).den (IW W l0 l1) (envE hd es) = R := (envE_hd (by decide)).trans h.r
theorem v1 (h : HdOk hd R px py s) : (T.var 1).den (IW W l0 l1) (envE hd es) = px := (envE_hd (by decide)).trans h.x
theorem v2 (h : HdOk hd R px py s) : (T.var 2).den (IW W l0 l1) (envE hd es) = py := (envE_hd (by decide)).trans h.y
theorem v3 (h : HdOk hd R px py s) : (T.var 3).den (IW W l0 l1) (envE hd es) = s := (envE_hd (by decide)).trans h.s
theorem all_den (h : HdOk hd R px py s) (K : Int) : fbW 5 ((allQ K es.length).map (T.den (IW W l0 l1) (envE hd es))) = insideS K R es px py := by
  unfold allQ
  rw [q_den, v0 h, v1 h, v2 h, esT_den, T.den_lit]
end
end Go.Proofs.Ytliimpbbppbghaa.Sx

