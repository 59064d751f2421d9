
/- What NumDivs leans on: numbers of any kind, in num and in the reference; a law for regions that knows what has come up before. -/
import Derived.Test.YtdaipflgcgefgaaGreatDoorRText
import Derived.Test.YtdaipflgcgefgaaGreatDoorNum25
import Derived.Test.YtdaipflgcgefgaaGreatDoorRegion2
set_option linter.all false
namespace Go.Proofs.YtdaipflgcgefgaaGreatDoor
open Go Go.RowKit Go.Shelf

theorem right_digs {neg : Bool} {ds : List Nat} (h : rightB neg ds = true) (hd : Digits ds) : ds = digs (val ds) ∧ val ds < B32 ^ 64 ∧ neg = decide (madeZ neg (val ds) < 0) := by
  unfold rightB at h
  by_cases h0 : ds.length = 0
  · rw [if_pos h0] at h
    obtain rfl : ds = [] := List.length_eq_zero_iff.1 h0
    obtain rfl : neg = false := by simpa using h
    exact ⟨(digs_nil_iff.2 rfl).symm, Nat.pow_pos B32_pos, rfl⟩
  · rw [if_neg h0] at h
    simp only [Bool.and_eq_true, decide_eq_true_eq, bne_iff_ne, ne_eq] at h
    obtain ⟨m, hm⟩ : ∃ m, ds.length = m + 1 := ⟨ds.length - 1, by omega⟩
    have hlast := h.2
    rw [hm, Nat.add_sub_cancel] at hlast
    have hs : strip ds = ds := by
      have h1 := strip_length_of (k := m) (by omega) hlast (fun j h1 h2 => by omega)
      have h2 := strip_take ds
      rw [h1, List.take_of_length_le (by omega)] at h2
      exact h2.symm
    have hdd : ds = digs (val ds) := by rw [← strip_digs hd, hs]
    have hlt : val ds < B32 ^ 64 := Nat.lt_of_lt_of_le (val_lt hd) (Nat.pow_le_pow_right B32_pos h.1)
    refine ⟨hdd, hlt, (madeZ_neg ?_).symm⟩
    intro e
    rw [e, digs_nil_iff.2 rfl] at hdd
    rw [hdd] at h0
    exact h0 rfl
/-- A number of any kind, as it lies: digits that are digits. -/
structure ANum (w : World) (v : Value) (neg : Bool) (ds : List Nat) : Prop where
  shape : ∃ p n c, v = .agg #[.bool neg, .slice p n c] ∧ U32s w.heap.size w (.slice p n c) ds
  dig : Digits ds
theorem ANum.ext {w w' : World} {v : Value} {neg : Bool} {ds : List Nat} (h : ANum w v neg ds) (hx : Ext w w') : ANum w' v neg ds := by
  obtain ⟨p, n, c, e, hu⟩ := h.shape
  exact ⟨⟨p, n, c, e, hx.u32s hu⟩, h.dig⟩
theorem ANum.right {w : World} {v : Value} {neg : Bool} {ds : List Nat} (h : ANum w v neg ds) (hr : rightB neg ds = true) : ZNum w.heap.size w v (madeZ neg (val ds)) := by
  obtain ⟨h1, h2, h3⟩ := right_digs hr h.dig
  obtain ⟨p, n, c, rfl, hu⟩ := h.shape
  refine ⟨⟨.slice p n c, by rw [← h3], ?_⟩, by rw [madeZ_abs]; exact h2⟩
  rw [madeZ_abs, ← h1]
  exact hu
theorem ANum.of {w : World} {v : Value} {z : Int} (h : ZNum w.heap.size w v z) : ANum w v (decide (z < 0)) (digs z.natAbs) := by
  obtain ⟨⟨s, rfl, hu⟩, hl⟩ := h
  obtain ⟨p, c, rfl, -, -⟩ := id hu
  exact ⟨⟨p, _, c, rfl, hu⟩, digs_digits _⟩

/-- Both divide, and hand back the same. -/
theorem div_any {w : World} {va vb : Value} {na nb : Bool} {da db : List Nat} (ha : ANum w va na da) (hb : ANum w vb nb db) : ∃ (q r : Int) (nq nr ok : Bool), ∀ W, Ext w W → Calls Tryz.prog 68 #[va, vb] W (Gives2 W q r nq nr ok) ∧ Calls Tryz.prog 44 #[va, vb] W (Gives2 W q r nq nr ok) := by
  by_cases h : rightB na da = true ∧ rightB nb db = true ∧ 0 < madeZ nb (val db)
  · refine ⟨_, _, _, _, true, fun W hx => ⟨div_gives ((ha.ext hx).right h.1) ((hb.ext hx).right h.2.1) h.2.2 rfl rfl rfl rfl, rdiv_ok _ _ _ _ _ _ W ((ha.ext hx).right h.1) ((hb.ext hx).right h.2.1) h.2.2 rfl rfl⟩⟩
  · refine ⟨0, 0, false, false, false, fun W hx => ?_⟩
    obtain ⟨p, n, c, rfl, hu⟩ := (ha.ext hx).shape
    obtain ⟨q, m, c2, rfl, hv⟩ := (hb.ext hx).shape
    have hno : ¬ (rightB na da = true ∧ rightB nb db = true ∧ nb = false ∧ 0 < m) := by
      rintro ⟨h1, h2, h3, h4⟩
      refine h ⟨h1, h2, ?_⟩
      subst h3
      obtain ⟨e1, -, -⟩ := right_digs h2 hb.dig
      have hl : m = db.length := by obtain ⟨p', c', e, -, -⟩ := hv; cases e; rfl
      have h5 : val db ≠ 0 := by
        intro e
        rw [e, digs_nil_iff.2 rfl] at e1
        rw [hl, e1] at h4
        exact absurd h4 (by simp)
      unfold madeZ
      simp
      omega
    exact ⟨div_no na nb p q n c m c2 da db W hu hv hno, rdiv_no na nb p q n c m c2 da db W hu hv hno⟩
/-- A number and a bool are handed back. -/
def GivesB (w : World) (z : Int) (neg ok : Bool) (e : Ending) (w' : World) : Prop :=
  ∃ p n c, e = .returned (.tuple #[.agg #[.bool neg, .slice p n c], .bool ok]) ∧ ZNum w'.heap.size w' (.agg #[.bool neg, .slice p n c]) z ∧ Ext w w'
theorem gcd_any {w : World} {va vb : Value} {na nb : Bool} {da db : List Nat} (ha : ANum w va na da) (hb : ANum w vb nb db) : ∃ (z : Int) (neg ok : Bool), ∀ W, Ext w W → Calls Tryz.prog 48 #[va, vb] W (GivesB W z neg ok) ∧ Calls Tryz.prog 43 #[va, vb] W (GivesB W z neg ok) := by
  by_cases h : rightB na da = true ∧ rightB nb db = true
  · exact ⟨_, false, true, fun W hx => ⟨gcd_gives ((ha.ext hx).right h.1) ((hb.ext hx).right h.2) rfl, rgcd_ok _ _ _ _ W ((ha.ext hx).right h.1) ((hb.ext hx).right h.2)⟩⟩
  · refine ⟨0, false, false, fun W hx => ?_⟩
    obtain ⟨p, n, c, rfl, hu⟩ := (ha.ext hx).shape
    obtain ⟨q, m, c2, rfl, hv⟩ := (hb.ext hx).shape
    have key : ∀ (e : Ending) (w' : World), (e = .returned (.tuple #[.agg #[.bool false, .slice none 0 0], .bool false]) ∧ Ext W w') → GivesB W 0 false false e w' := by
      rintro e w' ⟨rfl, hx⟩
      exact ⟨none, 0, 0, rfl, znum_zero _ _, hx⟩
    exact ⟨(gcd_no na nb p q n c m c2 da db W hu hv h).mono key, (rgcd_no na nb p q n c m c2 da db W hu hv h).mono key⟩
theorem text_any {w : World} {va : Value} {na : Bool} {da : List Nat} (ha : ANum w va na da) (ht : Tab w) : ∃ s : ByteArray, ∀ W, Ext w W → Calls Tryz.prog 51 #[va] W (fun e w' => e = .returned (.string s) ∧ Ext W w') ∧ Calls Tryz.prog 52 #[va] W (fun e w' => e = .returned (.string s) ∧ Ext W w') := by
  by_cases h : rightB na da = true
  · exact ⟨_, fun W hx => ⟨text_calls _ _ W ((ha.ext hx).right h) (hx.tab ht), rtext_ok _ _ W ((ha.ext hx).right h)⟩⟩
  · have h : rightB na da = false := by simpa using h
    refine ⟨⟨#[]⟩, fun W hx => ?_⟩
    obtain ⟨p, n, c, rfl, hu⟩ := (ha.ext hx).shape
    exact ⟨text_no na p n c da W hu h, rtext_no na p n c da W hu h⟩

/-- What has come up had all that it waits for. -/
def Closed (ops : Array Oper) (D : Nat → Prop) : Prop := ∀ (i : Nat) (o : Oper), ops[i]? = some o → D i → ∀ e ∈ o.after, Region.binds .any e = true → D e.on
theorem Closed.step {ops : Array Oper} {D : Nat → Prop} (h : Closed ops D) {i : Nat} {o : Oper} (ho : ops[i]? = some o) (he : ∀ e ∈ o.after, Region.binds .any e = true → D e.on) : Closed ops (fun j => j = i ∨ D j) := by
  intro k o' hk hd e hm hb
  rcases hd with rfl | hd
  · obtain rfl := Option.some.inj (ho.symm.trans hk)
    exact .inr (he e hm hb)
  · exact .inr (h k o' hk hd e hm hb)
theorem wp_region_cl {P : Program} {ops : Array Oper} {Q : Exit → Act → World → Prop} (Inv : (Nat → Prop) → Act → World → Prop) {id : Nat} {a : Act} {w : World} (hm : P.follows .mixedOrders = true) (hok : regionOk ops = true) (h0 : Inv (fun _ => False) a w.drew)
    (hstep : ∀ (i : Nat) (o : Oper) (D : Nat → Prop) (a : Act) (w : World), ops[i]? = some o → ¬ D i → (∀ e ∈ o.after, Region.binds .any e = true → D e.on) → Closed ops D → Inv D a w → o.wp P a w (fun a' w' => Inv (fun j => j = i ∨ D j) a' w') Q)
    (hdone : ∀ (D : Nat → Prop) (a : Act) (w : World), (∀ i, i < ops.size → D i) → Inv D a w → Q .normal a w) : (Code.region id ops true).wp P Q a w := by
  refine wp_region_inv (fun D a w => Closed ops D ∧ Inv D a w) hm hok ⟨fun _ _ _ h => h.elim, h0⟩ ?_ (fun D a w hd h => hdone D a w hd h.2)
  intro i o D a w hio hn he h
  exact Oper.wp_mono (fun a' w' h' => ⟨h.1.step hio he, h'⟩) (hstep i o D a w hio hn he h.1 h.2)

end Go.Proofs.YtdaipflgcgefgaaGreatDoor
