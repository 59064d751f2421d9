/- Texts that belong together. -/
import Derived.Test.YtegjcikofmphjaaGreatDoorQRText
import Derived.Test.YtegjcikofmphjaaGreatDoorQNum25
import Derived.Test.YtegjcikofmphjaaGreatDoorQRegion2
set_option linter.all false
/- What NumDivs leans on: numbers of any kind, in num and in the reference; a law for regions that knows what has come up before. -/
namespace Go.Proofs.YtegjcikofmphjaaGreatDoor
open Go Go.RowKit Go.Shelf
theorem right_digs {neg : Bool} {ds : List Nat} (h : rightB neg ds = true) (hd : Digits ds) : ds = digs (val ds) ∧ val ds < B32 ^ 64 ∧ neg = decide (madeZ neg (val ds) < 0) := by
  unfold rightB at h
  by_cases h0 : ds.length = 0
  · rw [if_pos h0] at h
    obtain rfl : ds = [] := List.length_eq_zero_iff.1 h0
    obtain rfl : neg = false := by simpa using h
    exact ⟨(digs_nil_iff.2 rfl).symm, Nat.pow_pos B32_pos, rfl⟩
  · rw [if_neg h0] at h
    simp only [Bool.and_eq_true, decide_eq_true_eq, bne_iff_ne, ne_eq] at h
    obtain ⟨m, hm⟩ : ∃ m, ds.length = m + 1 := ⟨ds.length - 1, by omega⟩
    have hlast := h.2
    rw [hm, Nat.add_sub_cancel] at hlast
    have hs : strip ds = ds := by
      have h1 := strip_length_of (k := m) (by omega) hlast (fun j h1 h2 => by omega)
      have h2 := strip_take ds
      rw [h1, List.take_of_length_le (by omega)] at h2
      exact h2.symm
    have hdd : ds = digs (val ds) := by rw [← strip_digs hd, hs]
    have hlt : val ds < B32 ^ 64 := Nat.lt_of_lt_of_le (val_lt hd) (Nat.pow_le_pow_right B32_pos h.1)
    refine ⟨hdd, hlt, (madeZ_neg ?_).symm⟩
    intro e
    rw [e, digs_nil_iff.2 rfl] at hdd
    rw [hdd] at h0
    exact h0 rfl
structure ANum (w : World) (v : Value) (neg : Bool) (ds : List Nat) : Prop where
  shape : ∃ p n c, v = .agg #[.bool neg, .slice p n c] ∧ U32s w.heap.size w (.slice p n c) ds
  dig : Digits ds
theorem ANum.ext {w w' : World} {v : Value} {neg : Bool} {ds : List Nat} (h : ANum w v neg ds) (hx : Ext w w') : ANum w' v neg ds := by
  obtain ⟨p, n, c, e, hu⟩ := h.shape
  exact ⟨⟨p, n, c, e, hx.u32s hu⟩, h.dig⟩
theorem ANum.right {w : World} {v : Value} {neg : Bool} {ds : List Nat} (h : ANum w v neg ds) (hr : rightB neg ds = true) : ZNum w.heap.size w v (madeZ neg (val ds)) := by
  obtain ⟨h1, h2, h3⟩ := right_digs hr h.dig
  obtain ⟨p, n, c, rfl, hu⟩ := h.shape
  refine ⟨⟨.slice p n c, by rw [← h3], ?_⟩, by rw [madeZ_abs]; exact h2⟩
  rw [madeZ_abs, ← h1]
  exact hu
def Closed (ops : Array Oper) (D : Nat → Prop) : Prop := ∀ (i : Nat) (o : Oper), ops[i]? = some o → D i → ∀ e ∈ o.after, Region.binds .any e = true → D e.on
theorem Closed.step {ops : Array Oper} {D : Nat → Prop} (h : Closed ops D) {i : Nat} {o : Oper} (ho : ops[i]? = some o) (he : ∀ e ∈ o.after, Region.binds .any e = true → D e.on) : Closed ops (fun j => j = i ∨ D j) := by
  intro k o' hk hd e hm hb
  rcases hd with rfl | hd
  · obtain rfl := Option.some.inj (ho.symm.trans hk)
    exact .inr (he e hm hb)
  · exact .inr (h k o' hk hd e hm hb)
end Go.Proofs.YtegjcikofmphjaaGreatDoor

