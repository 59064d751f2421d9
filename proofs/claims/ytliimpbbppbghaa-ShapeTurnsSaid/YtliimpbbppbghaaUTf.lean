import Derived.Test.YtliimpbbppbghaaUTa
import Derived.Test.YtliimpbbppbghaaUTe
set_option linter.all false
set_option autoImplicit false
namespace Go.Proofs.Ytliimpbbppbghaa
def E7.small (e : E7) : Prop := (-900 ≤ e.ax ∧ e.ax ≤ 900) ∧ (-900 ≤ e.ay ∧ e.ay ≤ 900) ∧ (-900 ≤ e.bx ∧ e.bx ≤ 900) ∧ (-900 ≤ e.by' ∧ e.by' ≤ 900) ∧ (-900 ≤ e.cx ∧ e.cx ≤ 900) ∧ (-900 ≤ e.cy ∧ e.cy ≤ 900)
end Go.Proofs.Ytliimpbbppbghaa
namespace Go.Proofs.Ytliimpbbppbghaa.Sx
open Go Go.RowKit
def isL (n : Int) : T → Bool
  | .lit m => intSame m n
  | _ => false
def rtOf : T → Option (T × T)
  | .bin .add _ (.bin .sub (.app _ (.cons (.app _ (.cons r (.cons t .nil))) _)) _) => some (r, t)
  | _ => none
def nextT (d : Int) (t u : T) : Bool := match t, u with
  | .lit m, .lit n => intSame ((m + d - n) % 4) 0
  | t, .bin .add t' (.lit n) => t.same t' && intSame n d
  | _, _ => false
def symT (k : Known) (kd t u : T) : Bool := match u with
  | .app f (.cons t' (.cons kd' .nil)) => Nat.beq f 23 && (t.same t' && (kd.same kd' && inB k kd 2 3))
  | _ => false
def wayT (k : Known) (kd t u : T) : Bool := inB k u 0 15 && match (B.mkEq kd (.lit 3)).under k with
  | .lit true => nextT 3 t u
  | .lit false => inB k kd 2 3 && nextT 1 t u
  | _ => false
def wayOk (k : Known) (kd t u : T) : Bool := symT k kd t u || wayT k kd t u
def arcOk (k : Known) (e : ET) : Bool := match rtOf e.ax, rtOf e.bx with
  | some (r, t), some (_, u) =>
    e.ax.same (.bin .add e.cx (drT 20 r t)) && (e.ay.same (.bin .add e.cy (drT 21 r t)) && (e.bx.same (.bin .add e.cx (drT 20 r u)) && (e.by'.same (.bin .add e.cy (drT 21 r u)) &&
    (inB k r 1 65 && (inB k t 0 7 && wayOk k e.k t u)))))
  | _, _ => false
def rtOf2 : T → Option (T × T)
  | .bin .sub _ (.bin .sub (.app _ (.cons (.app _ (.cons r (.cons t .nil))) _)) _) => some (r, t)
  | _ => none
def arcOk2 (k : Known) (e : ET) : Bool := match rtOf2 e.cx with
  | some (r, t) => e.cx.same (.bin .sub e.ax (drT 20 r t)) && (e.cy.same (.bin .sub e.ay (drT 21 r t)) && (e.bx.same (.bin .add e.ax (dsT 24 r t e.k)) && (e.by'.same (.bin .add e.ay (dsT 25 r t e.k)) &&
    (inB k r 1 65 && (inB k t 0 7 && inB k e.k 2 3)))))
  | none => false
def lineOk (e : ET) : Bool := isL 1 e.k && (isL 0 e.cx && isL 0 e.cy)
def bndOk (k : Known) (e : ET) : Bool := inB k e.ax (-900) 900 && (inB k e.ay (-900) 900 && (inB k e.bx (-900) 900 && (inB k e.by' (-900) 900 && (inB k e.cx (-900) 900 && inB k e.cy (-900) 900))))
def edgeOk (k : Known) (e : ET) : Bool := bndOk k e && (lineOk e || (arcOk2 k e || arcOk k e))
def allE (k : Known) : List ET → Bool
  | [] => true
  | e :: r => edgeOk k e && allE k r
def backT (x y : T) : Bool := match x with
  | .bin .add (.bin .sub y' d) d' => y'.same y && d.same d'
  | _ => false
def sameT (x y : T) : Bool := x.same y || backT x y
def chT : List (ET × ET) → Bool
  | [] => true
  | p :: r => sameT p.2.ax p.1.bx && (sameT p.2.ay p.1.by' && chT r)
section
variable {α : Type}
def etF (e : ET) (k : ET → α) : α := e.k.force fun a => e.ax.force fun b => e.ay.force fun c => e.bx.force fun d => e.by'.force fun f => e.cx.force fun g => e.cy.force fun h => k ⟨a, b, c, d, f, g, h⟩
theorem etF_eq (e : ET) (k : ET → α) : etF e k = k e := by simp [etF, T.force_eq]
def esF : List ET → (List ET → α) → α
  | [], k => k []
  | e :: r, k => etF e fun e => esF r fun r => k (e :: r)
theorem esF_eq (l : List ET) : ∀ k : List ET → α, esF l k = k l := by
  induction l with
  | nil => intro k; rfl
  | cons e r ih => intro k; simp [esF, etF_eq, ih]
end
def capOk (s : S) : C → Bool
  | .slice id 0 len cap => match s.find id with
    | some ⟨ty, cs⟩ => Nat.beq ty 41 && (Nat.beq len cap && Nat.beq cs.length (len * 7))
    | _ => false
  | .osl id cid 0 0 len => match s.find id with
    | some ⟨ty, .yld cid' :: r⟩ => opn ty && (Nat.beq (szO ty) 7 && (Nat.beq (rty ty) 41 && (Nat.beq cid cid' && Nat.beq r.length (len * 7))))
    | _ => false
  | _ => false
def kindOk (k : Known) (K R : T) (n : Nat) : Bool := (isL 1 K && (inB k R 0 40 && (Nat.ble 1 n && Nat.ble n 3))) || (isL 2 K && (isL 0 R && (Nat.ble 2 n && (Nat.ble n 5 || Nat.beq n 8))))
def shpOk (v : V) (s : S) : Bool := match v with
  | .agg [.int .i64 K, sl, .int .i64 R] => match slE s sl with
    | some es => capOk s sl && esF es fun es => kindOk s.known K R es.length && (Nat.ble es.length 40 && (allE s.known es && chT (prT es (isL 2 K))))
    | none => false
  | _ => false
def leavesS (p : V → S → Bool) : Tree (V × S) → Bool
  | .leaf r => p r.1 r.2
  | .node _ x y => leavesS p x && leavesS p y
  | .bad => false
theorem leavesS_vc {I : Interp} {ρ : Env} {p : V → S → Bool} : ∀ {t : Tree (V × S)}, leavesS p t = true → t.vc I ρ (fun r => p r.1 r.2 = true)
  | .leaf v, h => h
  | .node _ x y, h => by
    simp only [leavesS, Bool.and_eq_true] at h
    exact ⟨fun _ => leavesS_vc h.1, fun _ => leavesS_vc h.2⟩
  | .bad, h => by cases h
section
variable {W : World} {l : Ls} {ρ : Env} {k : Known}
theorem isL_ok {I : Interp} {n : Int} {t : T} (h : isL n t = true) : t.den I ρ = n := by
  unfold isL at h
  split at h
  · rw [intSame_eq] at h; exact h
  · cases h
theorem nextT_ok {I : Interp} {d : Int} {t u : T} (h : nextT d t u = true) : (t.den I ρ + d - u.den I ρ) % 4 = 0 := by
  unfold nextT at h
  split at h
  · rw [intSame_eq] at h; exact h
  · simp only [Bool.and_eq_true, intSame_eq] at h
    rw [T.same_eq h.1, T.den_bin, T.den_lit, h.2, ev_add]
    omega
  · cases h
theorem wayOk_ok (hk : k.Ok (IS W l) ρ) {kd t u : T} (ht : 0 ≤ t.den (IS W l) ρ ∧ t.den (IS W l) ρ ≤ 7) (h : wayOk k kd t u = true) : (0 ≤ u.den (IS W l) ρ ∧ u.den (IS W l) ρ ≤ 15) ∧ ((kd.den (IS W l) ρ = 3 ∧ (t.den (IS W l) ρ + 3 - u.den (IS W l) ρ) % 4 = 0) ∨ (kd.den (IS W l) ρ = 2 ∧ (t.den (IS W l) ρ + 1 - u.den (IS W l) ρ) % 4 = 0)) := by
  unfold wayOk at h
  rw [Bool.or_eq_true] at h
  rcases h with h | h
  · unfold symT at h
    split at h
    · simp only [Bool.and_eq_true, Nat.beq_eq] at h
      obtain ⟨rfl, h1, h2, h3⟩ := h
      rw [← T.same_eq h1, ← T.same_eq h2, T.den_app, T.dens_cons, T.dens_cons, T.dens_nil, is_fi, fs23]
      have := inB_ok hk h3
      by_cases h3 : kd.den (IS W l) ρ = 3
      · rw [if_pos h3]; omega
      · rw [if_neg h3]; omega
    · cases h
  · unfold wayT at h
    rw [Bool.and_eq_true] at h
    refine ⟨inB_ok hk h.1, ?_⟩
    have h := h.2
    have hb := B.den_under hk (B.mkEq kd (.lit 3))
    rw [B.den_mkEq, T.den_lit] at hb
    split at h
    · rename_i e
      rw [e] at hb
      have := of_decide_eq_true hb.symm
      exact .inl ⟨this, nextT_ok h⟩
    · rename_i e
      rw [e] at hb
      have := of_decide_eq_false hb.symm
      simp only [Bool.and_eq_true] at h
      have := inB_ok hk h.1
      exact .inr ⟨by omega, nextT_ok h.2⟩
    · cases h
theorem bndOk_ok (hk : k.Ok (IS W l) ρ) {e : ET} (h : bndOk k e = true) : (e.den (IS W l) ρ).small := by
  unfold bndOk at h
  simp only [Bool.and_eq_true] at h
  exact ⟨inB_ok hk h.1, inB_ok hk h.2.1, inB_ok hk h.2.2.1, inB_ok hk h.2.2.2.1, inB_ok hk h.2.2.2.2.1, inB_ok hk h.2.2.2.2.2⟩
theorem lineOk_ok {e : ET} (hs : (e.den (IS W l) ρ).small) (h : lineOk e = true) : (e.den (IS W l) ρ).okE := by
  unfold lineOk at h
  simp only [Bool.and_eq_true] at h
  have h1 : (e.den (IS W l) ρ).k = 1 := isL_ok h.1
  have h2 : (e.den (IS W l) ρ).cx = 0 := isL_ok h.2.1
  have h3 : (e.den (IS W l) ρ).cy = 0 := isL_ok h.2.2
  obtain ⟨a, b, c, d, f, g⟩ := hs
  exact ⟨by omega, by omega, by unfold rightP; omega, by unfold rightP; omega, by unfold rightP; omega, .inl ⟨h1, h2, h3⟩⟩
theorem arcOk_ok (hk : k.Ok (IS W l) ρ) {e : ET} (hs : (e.den (IS W l) ρ).small) (h : arcOk k e = true) : (e.den (IS W l) ρ).okE := by
  unfold arcOk at h
  split at h
  · rename_i r t _ u _ _
    simp only [Bool.and_eq_true] at h
    obtain ⟨h1, h2, h3, h4, h5, h6, h7⟩ := h
    have hr := inB_ok hk h5
    have ht := inB_ok hk h6
    obtain ⟨hu, h8⟩ := wayOk_ok hk ht h7
    have e1 := congrArg (fun x => T.den (IS W l) ρ x) (T.same_eq h1)
    have e2 := congrArg (fun x => T.den (IS W l) ρ x) (T.same_eq h2)
    have e3 := congrArg (fun x => T.den (IS W l) ρ x) (T.same_eq h3)
    have e4 := congrArg (fun x => T.den (IS W l) ρ x) (T.same_eq h4)
    simp only [T.den_bin, ev_add, drT_x (W := W) (l := l) (ρ := ρ) (r := r) (t := t) (by omega) (by omega), drT_x (W := W) (l := l) (ρ := ρ) (r := r) (t := u) (by omega) (by omega), drT_y (W := W) (l := l) (ρ := ρ) (r := r) (t := t) (by omega) (by omega), drT_y (W := W) (l := l) (ρ := ρ) (r := r) (t := u) (by omega) (by omega)] at e1 e2 e3 e4
    obtain ⟨-, -, -, -, hx, hy⟩ := hs
    have hx' : -2000 ≤ T.den (IS W l) ρ e.cx ∧ T.den (IS W l) ρ e.cx ≤ 2000 := by have : (ET.den (IS W l) ρ e).cx = T.den (IS W l) ρ e.cx := rfl; omega
    have hy' : -2000 ≤ T.den (IS W l) ρ e.cy ∧ T.den (IS W l) ρ e.cy ≤ 2000 := by have : (ET.den (IS W l) ρ e).cy = T.den (IS W l) ρ e.cy := rfl; omega
    rcases h8 with ⟨hk3, hn⟩ | ⟨hk2, hn⟩
    · have hm := dr_mod (r := T.den (IS W l) ρ r) (t := T.den (IS W l) ρ u) (u := T.den (IS W l) ρ t + 3) (by omega)
      have := arc_ok hx' hy' (show 0 ≤ T.den (IS W l) ρ r ∧ T.den (IS W l) ρ r ≤ 1000 by omega) ht (.inr hk3) hr.1
      have ee : e.den (IS W l) ρ = arcE (T.den (IS W l) ρ e.cx) (T.den (IS W l) ρ e.cy) (T.den (IS W l) ρ r) (T.den (IS W l) ρ t) (T.den (IS W l) ρ e.k) := by
        unfold ET.den arcE
        rw [if_pos hk3, e1, e2, e3, e4, hm.1, hm.2]
      rw [ee]
      exact this
    · have hm := dr_mod (r := T.den (IS W l) ρ r) (t := T.den (IS W l) ρ u) (u := T.den (IS W l) ρ t + 1) (by omega)
      have := arc_ok hx' hy' (show 0 ≤ T.den (IS W l) ρ r ∧ T.den (IS W l) ρ r ≤ 1000 by omega) ht (.inl hk2) hr.1
      have ee : e.den (IS W l) ρ = arcE (T.den (IS W l) ρ e.cx) (T.den (IS W l) ρ e.cy) (T.den (IS W l) ρ r) (T.den (IS W l) ρ t) (T.den (IS W l) ρ e.k) := by
        unfold ET.den arcE
        rw [if_neg (by omega), e1, e2, e3, e4, hm.1, hm.2]
      rw [ee]
      exact this
  · cases h
theorem arcOk2_ok (hk : k.Ok (IS W l) ρ) {e : ET} (hs : (e.den (IS W l) ρ).small) (h : arcOk2 k e = true) : (e.den (IS W l) ρ).okE := by
  unfold arcOk2 at h
  split at h
  · rename_i r t _
    simp only [Bool.and_eq_true] at h
    obtain ⟨h1, h2, h3, h4, h5, h6, h7⟩ := h
    have hr := inB_ok hk h5
    have ht := inB_ok hk h6
    have hk2 := inB_ok hk h7
    have e1 := congrArg (fun x => T.den (IS W l) ρ x) (T.same_eq h1)
    have e2 := congrArg (fun x => T.den (IS W l) ρ x) (T.same_eq h2)
    have e3 := congrArg (fun x => T.den (IS W l) ρ x) (T.same_eq h3)
    have e4 := congrArg (fun x => T.den (IS W l) ρ x) (T.same_eq h4)
    have d := dsT_den (W := W) (l := l) (ρ := ρ) (r := r) (t := t) (k := e.k) (by omega) (by omega) hk2
    simp only [T.den_bin, ev_add, ev_sub, drT_x (W := W) (l := l) (ρ := ρ) (r := r) (t := t) (by omega) (by omega), drT_y (W := W) (l := l) (ρ := ρ) (r := r) (t := t) (by omega) (by omega), d.1, d.2] at e1 e2 e3 e4
    obtain ⟨-, -, -, -, hx, hy⟩ := hs
    have hx' : -2000 ≤ T.den (IS W l) ρ e.cx ∧ T.den (IS W l) ρ e.cx ≤ 2000 := by have : (ET.den (IS W l) ρ e).cx = T.den (IS W l) ρ e.cx := rfl; omega
    have hy' : -2000 ≤ T.den (IS W l) ρ e.cy ∧ T.den (IS W l) ρ e.cy ≤ 2000 := by have : (ET.den (IS W l) ρ e).cy = T.den (IS W l) ρ e.cy := rfl; omega
    have := arc_ok hx' hy' (show 0 ≤ T.den (IS W l) ρ r ∧ T.den (IS W l) ρ r ≤ 1000 by omega) ht (show T.den (IS W l) ρ e.k = 2 ∨ T.den (IS W l) ρ e.k = 3 by omega) hr.1
    have ee : e.den (IS W l) ρ = arcE (T.den (IS W l) ρ e.cx) (T.den (IS W l) ρ e.cy) (T.den (IS W l) ρ r) (T.den (IS W l) ρ t) (T.den (IS W l) ρ e.k) := by
      unfold ET.den arcE
      unfold dispX at e3
      unfold dispY at e4
      congr 1 <;> omega
    rw [ee]
    exact this
  · cases h
theorem edgeOk_ok (hk : k.Ok (IS W l) ρ) {e : ET} (h : edgeOk k e = true) : (e.den (IS W l) ρ).okE ∧ (e.den (IS W l) ρ).small := by
  unfold edgeOk at h
  simp only [Bool.and_eq_true, Bool.or_eq_true] at h
  have hs := bndOk_ok hk h.1
  rcases h.2 with h2 | h2 | h2
  · exact ⟨lineOk_ok hs h2, hs⟩
  · exact ⟨arcOk2_ok hk hs h2, hs⟩
  · exact ⟨arcOk_ok hk hs h2, hs⟩
theorem allE_ok (hk : k.Ok (IS W l) ρ) : ∀ {es : List ET}, allE k es = true → ∀ e ∈ es, (e.den (IS W l) ρ).okE ∧ (e.den (IS W l) ρ).small
  | [], _, _, h => nomatch h
  | x :: r, h, e, he => by
    simp only [allE, Bool.and_eq_true] at h
    rcases List.mem_cons.1 he with rfl | he
    · exact edgeOk_ok hk h.1
    · exact allE_ok hk h.2 e he
theorem sameT_ok {I : Interp} {x y : T} (h : sameT x y = true) : x.den I ρ = y.den I ρ := by
  unfold sameT at h
  simp only [Bool.or_eq_true] at h
  rcases h with h | h
  · rw [T.same_eq h]
  · unfold backT at h
    split at h
    · simp only [Bool.and_eq_true] at h
      rw [T.same_eq h.1, T.same_eq h.2, T.den_bin, T.den_bin, ev_add, ev_sub]
      omega
    · cases h
theorem chT_ok {I : Interp} : ∀ {ps : List (ET × ET)}, chT ps = true → ∀ x ∈ ps.map (fun p : ET × ET => (p.1.den I ρ, p.2.den I ρ)), meets x
  | [], _, _, h => nomatch h
  | p :: r, h, x, hx => by
    simp only [chT, Bool.and_eq_true] at h
    rcases List.mem_cons.1 hx with rfl | hx
    · exact ⟨sameT_ok h.1, sameT_ok h.2.1⟩
    · exact chT_ok h.2.2 x hx
variable {w0 w : World} {X : Nat → Prop} {n0 : Nat} {β0 β : Nat → Nat} {s : S}
def RowE (W : World) (b cap : Nat) (es : List E7) : Prop := ∃ a : Array Value, W.heap[b]? = some (.cells a 41 (0, 0)) ∧ a.size = cap * 7 ∧ a.toList.take (es.length * 7) = es.flatMap E7.enc ∧ es.length ≤ cap ∧ NoDig (a.toList.drop (es.length * 7))
theorem flat_enc {I : Interp} (es : List ET) : ((es.flatMap ET.list).map (C.int .i64)).map (C.den I ρ β) = (es.map (ET.den I ρ)).flatMap E7.enc := by
  induction es with
  | nil => rfl
  | cons e r ih => simp only [List.flatMap_cons, List.map_append, List.map_cons, ih]; rfl
theorem e7s_len : ∀ {cs : List C} {es : List ET}, e7s cs = some es → cs.length = es.length * 7 := fun h => by
  rw [e7s_eq h]
  rename_i cs es
  clear h
  induction es with
  | nil => rfl
  | cons e r ih => simp [ET.list] at ih ⊢; omega
theorem part_all {id n : Nat} {b : Blk} (hf : s.find id = some b) (hl : b.row.length = n * 7) {es : List ET} (hr : rowE s id 0 n = some es) : es.length = n ∧ b.row = (es.flatMap ET.list).map (C.int .i64) := by
  unfold rowE partOfRow at hr
  rw [hf] at hr
  simp only [Nat.zero_add] at hr
  have hle : Nat.ble (n * 7) b.row.length = true := by rw [Nat.ble_eq]; omega
  rw [hle] at hr
  simp only [cond_true, Option.bind_some, List.drop_zero] at hr
  rw [List.take_of_length_le (by omega)] at hr
  have := e7s_len hr
  exact ⟨by omega, e7s_eq hr⟩
theorem capOk_ok {I : Interp} (h : WR I ρ w0 X n0 β0 β s w) {x : C} (hx : capOk s x = true) {es : List ET} (hs : slE s x = some es) :
    ∃ b cap, x.den I ρ β = .slice (some ⟨b, 0, none⟩) es.length cap ∧ RowE w b cap (es.map (ET.den I ρ)) ∧ (X b ∨ w0.heap.size ≤ b) := by
  unfold capOk at hx
  split at hx
  · rename_i id len cap
    split at hx
    · rename_i ty cs hf
      simp only [Bool.and_eq_true, Nat.beq_eq] at hx
      obtain ⟨rfl, rfl, g3⟩ := hx
      obtain ⟨hm, hl⟩ := find_mem hf
      have hcl : opn 41 = false := by decide
      have hrow := (RowP.closed (b := ⟨41, cs⟩) hcl).1 (h.row _ hm hl)
      have hbr : Blk.row ⟨41, cs⟩ = cs := by unfold Blk.row; rw [hcl]
      obtain ⟨e1, e2⟩ := part_all (s := s) (n := len) hf (by rw [hbr]; exact g3) hs
      rw [hbr] at e2
      refine ⟨β id, len, by rw [e1]; rfl, ⟨_, hrow, ?_, ?_, ?_, ?_⟩, h.own _ hm hl⟩
      · simp only [cellsOf, List.size_toArray, List.length_map]; exact g3
      · simp only [cellsOf, List.length_map, e1]
        rw [List.take_of_length_le (by simp; omega), e2, flat_enc]
      · simp only [List.length_map]; omega
      · simp only [cellsOf, List.length_map, e1]
        rw [List.drop_of_length_le (by simp; omega)]
        intro v hv; cases hv
    · cases hx
  · rename_i id cid len
    split at hx
    · rename_i ty cid' r hf
      simp only [Bool.and_eq_true, Nat.beq_eq] at hx
      obtain ⟨g1, g2, g3, rfl, g4⟩ := hx
      obtain ⟨hm, hl⟩ := find_mem hf
      have hr0 := h.row _ hm hl
      have hbr : Blk.row ⟨ty, .yld cid :: r⟩ = r := by unfold Blk.row; rw [g1]; rfl
      obtain ⟨e1, e2⟩ := part_all (s := s) (n := len) hf (by rw [hbr]; exact g4) hs
      rw [hbr] at e2
      unfold RowP at hr0
      simp only at hr0
      rw [g1] at hr0
      obtain ⟨cur, k1, k2, k3, k4, k5, k6⟩ := hr0
      rw [g2] at k2
      rw [g3] at k1
      refine ⟨β id, β cid, by rw [e1]; rfl, ⟨cur, k1, k2, ?_, ?_, ?_⟩, h.own _ hm hl⟩
      · rw [List.length_map, e1, ← g4, k3, e2, flat_enc]
      · rw [List.length_map]; omega
      · rw [List.length_map, e1, ← g4]; exact k5
    · cases hx
  · cases hx
structure Made (K R : Int) (es : List E7) : Prop where
  check : checkS K R es = 0
  r : 0 ≤ R ∧ R ≤ 40
  small : ∀ e ∈ es, e.small
  many : (K = 1 ∧ 1 ≤ es.length ∧ es.length ≤ 3) ∨ (K = 2 ∧ R = 0 ∧ 2 ≤ es.length ∧ (es.length ≤ 5 ∨ es.length = 8))
def kOf (I : Interp) (ρ : Env) : V → Int | .agg (.int .i64 K :: _) => K.den I ρ | _ => 0
def rOf (I : Interp) (ρ : Env) : V → Int | .agg [_, _, .int .i64 R] => R.den I ρ | _ => 0
def esOf (I : Interp) (ρ : Env) (s : S) : V → List E7 | .agg (_ :: sl :: _) => ((slE s sl).getD []).map (ET.den I ρ) | _ => []
theorem shpOk_made (hkn : s.known.Ok (IS W l) ρ) {v : V} (hv : shpOk v s = true) : Made (kOf (IS W l) ρ v) (rOf (IS W l) ρ v) (esOf (IS W l) ρ s v) := by
  unfold shpOk at hv
  split at hv
  · rename_i K sl R
    split at hv
    · rename_i es hes
      rw [esF_eq] at hv
      simp only [Bool.and_eq_true, Nat.ble_eq] at hv
      obtain ⟨h1, h2, h3, h4, h5⟩ := hv
      have hall := allE_ok hkn h4
      have hl : (es.map (ET.den (IS W l) ρ)).length = es.length := List.length_map ..
      have hok : ∀ e ∈ es.map (ET.den (IS W l) ρ), e.okE ∧ e.small := by
        intro e he
        obtain ⟨x, hx, rfl⟩ := List.mem_map.1 he
        exact hall x hx
      have hch : ∀ cl, chT (prT es cl) = true → chainP (es.map (ET.den (IS W l) ρ)) cl := by
        intro cl hc x hx
        rw [← prT_den] at hx
        exact chT_ok hc x hx
      show Made (K.den (IS W l) ρ) (R.den (IS W l) ρ) (((slE s sl).getD []).map (ET.den (IS W l) ρ))
      rw [hes]
      show Made (K.den (IS W l) ρ) (R.den (IS W l) ρ) (es.map (ET.den (IS W l) ρ))
      unfold kindOk at h2
      simp only [Bool.or_eq_true, Bool.and_eq_true, Nat.ble_eq, Nat.beq_eq] at h2
      rcases h2 with ⟨a, b, c, d⟩ | ⟨a, b, c, d⟩
      · have eK : K.den (IS W l) ρ = 1 := isL_ok a
        have hR := inB_ok hkn b
        have hcl : isL 2 K = false := by
          cases hz : isL 2 K with
          | false => rfl
          | true => have : K.den (IS W l) ρ = 2 := isL_ok hz; omega
        rw [hcl] at h5
        rw [eK]
        exact ⟨checkS_of (.inl rfl) (by rw [hl]; omega) (by rw [hl]; exact h3) (fun e he => (hok e he).1) (hch _ h5) hR.1 (by rw [if_pos rfl]; omega), hR, fun e he => (hok e he).2, .inl ⟨rfl, by rw [hl]; exact c, by rw [hl]; exact d⟩⟩
      · have eK : K.den (IS W l) ρ = 2 := isL_ok a
        have eR : R.den (IS W l) ρ = 0 := isL_ok b
        rw [a] at h5
        rw [eK, eR]
        exact ⟨checkS_of (.inr rfl) (by rw [hl]; omega) (by rw [hl]; exact h3) (fun e he => (hok e he).1) (hch _ h5) (Int.le_refl _) (by decide), by decide, fun e he => (hok e he).2, .inr ⟨rfl, rfl, by rw [hl]; exact c, by rw [hl]; exact d⟩⟩
    · cases hv
  · cases hv
theorem shpOk_row (h : WR (IS W l) ρ w0 X n0 β0 β s w) {v : V} (hv : shpOk v s = true) :
    ∃ b cap, v.den (IS W l) ρ β = .agg #[.int .i64 (kOf (IS W l) ρ v), .slice (some ⟨b, 0, none⟩) (esOf (IS W l) ρ s v).length cap, .int .i64 (rOf (IS W l) ρ v)] ∧ RowE w b cap (esOf (IS W l) ρ s v) ∧ (X b ∨ w0.heap.size ≤ b) := by
  unfold shpOk at hv
  split at hv
  · rename_i K sl R
    split at hv
    · rename_i es hes
      rw [esF_eq] at hv
      simp only [Bool.and_eq_true, Nat.ble_eq] at hv
      obtain ⟨b, cap, h1, h2, h3⟩ := capOk_ok h hv.1 hes
      have e : esOf (IS W l) ρ s (.agg [.int .i64 K, sl, .int .i64 R]) = es.map (ET.den (IS W l) ρ) := by
        show ((slE s sl).getD []).map (ET.den (IS W l) ρ) = _
        rw [hes]; rfl
      rw [e, List.length_map]
      refine ⟨b, cap, ?_, h2, h3⟩
      rw [← h1]
      rfl
    · cases hv
  · cases hv
def MadeAs (W : World) (l : Ls) (K R : Int) (es : List E7) (g : FuncId) (args : Array Value) : Prop := ∀ w, Hyp (IS W l) w (fun _ => False) → Calls Try.prog g args w (fun e w' => ∃ b cap, e = .returned (.agg #[.int .i64 K, .slice (some ⟨b, 0, none⟩) es.length cap, .int .i64 R]) ∧ RowE w' b cap es ∧ w.heap.size ≤ b ∧ Below w.heap.size w w')
theorem shape_ex (h0 : l.Ok W) (hk : k.Ok (IS W l) ρ) {g : FuncId} {args : List V} (hwf : (args.all (V.wf 0)) = true) (hL : leavesS shpOk (execF Try.prog ctG 20 g args ⟨[], 0, k⟩) = true) :
    ∃ K R es, Made K R es ∧ MadeAs W l K R es g (args.map (V.den (IS W l) ρ id)).toArray := by
  obtain ⟨⟨v, s⟩, h1, h2⟩ := Tree.vc_ex (leavesS_vc (I := IS W l) (ρ := ρ) hL)
  have run : ∀ (w : World) (R : Ending → World → Prop), Hyp (IS W l) w (fun _ => False) → (∀ β' w', WR (IS W l) ρ w (fun _ => False) 0 id β' s w' → R (.returned (v.den (IS W l) ρ β')) w') → Calls Try.prog g (args.map (V.den (IS W l) ρ id)).toArray w R := fun w R hh hR =>
    execF_ok mixed nocount (ctG_ok h0 ρ) 20 g args ⟨[], 0, k⟩ w (fun _ => False) 0 id id w _ (Tree.vc_sel h1 (fun β' w' hw _ _ _ => hR β' w' hw)) ⟨(fun _ h => nomatch h), (fun _ h => nomatch h), (fun _ h => nomatch h), (fun _ h => nomatch h), (fun _ h => nomatch h), (fun _ h => nomatch h), (fun _ h => nomatch h), hk, Nat.le_refl _, fun _ _ => rfl, Keeps.refl _ _, hh⟩ (fun v hv => List.all_eq_true.1 hwf v hv)
  refine ⟨kOf (IS W l) ρ v, rOf (IS W l) ρ v, esOf (IS W l) ρ s v, ?_, fun w hh => run w _ hh fun β' w' hw => ?_⟩
  · obtain ⟨_, _, _, hR, _⟩ := run W (fun _ _ => Made (kOf (IS W l) ρ v) (rOf (IS W l) ρ v) (esOf (IS W l) ρ s v)) (hyp_fixed rfl) (fun β' w' hw => shpOk_made hw.known h2) []
    exact hR
  · obtain ⟨b, cap, e1, e2, e3⟩ := shpOk_row hw h2
    exact ⟨b, cap, by rw [e1], e2, e3.resolve_left id, hw.keeps.below⟩
end
end Go.Proofs.Ytliimpbbppbghaa.Sx

