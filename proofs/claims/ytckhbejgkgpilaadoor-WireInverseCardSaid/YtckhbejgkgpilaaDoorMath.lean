/- Serializations, as lists of bytes: what is unique, and what a decoder says. No program is named. -/
import Derived.Lib.ItoaNum
import Derived.Lib.AtoiAllCases
import Derived.Lib.Atoi
import Derived.Below
set_option linter.all false
namespace Go.Proofs.YtckhbejgkgpilaaDoor
open Go

abbrev Bs := List UInt8
def I64 (n : Int) : Prop := -9223372036854775808 ≤ n ∧ n ≤ 9223372036854775807

/-! ### Decimal forms -/
theorem digit_ok (d : Nat) (h : d < 10) : (UInt8.ofNat (48 + d)).toNat = 48 + d := by
  simp only [UInt8.toNat_ofNat']; omega

theorem parse_step (l : Bs) : ∀ (acc m : Nat) (d : Nat), d < 10 → Lib.parseUint10 acc l = .ok m → m * 10 + d < 10000000000000000000 → Lib.parseUint10 acc (l ++ [UInt8.ofNat (48 + d)]) = .ok (m * 10 + d) := by
  induction l with
  | nil =>
    intro acc m d hd h hm
    simp only [Lib.parseUint10] at h
    injection h with h
    subst h
    have e := digit_ok d hd
    simp only [List.nil_append, Lib.parseUint10, e]
    rw [if_pos (by omega), if_neg (by omega), if_neg (by omega)]
    rw [show 48 + d - 48 = d by omega]
  | cons c r ih =>
    intro acc m d hd h hm
    simp only [List.cons_append, Lib.parseUint10] at h ⊢
    split at h
    · rename_i h1
      rw [if_pos h1]
      split at h
      · cases h
      · rename_i h2
        rw [if_neg h2]
        split at h
        · cases h
        · rename_i h3
          rw [if_neg h3]
          exact ih _ m d hd h hm
    · rename_i h1
      cases h

theorem parse_dec (u : Nat) : u < 10000000000000000000 → Lib.parseUint10 0 (Lib.decDigits u) = .ok u := by
  induction u using Nat.strongRecOn with
  | _ u ih =>
    intro hu
    by_cases h : u < 10
    · rw [Lib.decDigits, dif_pos h]
      have := parse_step [] 0 0 u h rfl (by omega)
      simpa using this
    · rw [Lib.decDigits, dif_neg h]
      have := parse_step (Lib.decDigits (u / 10)) 0 (u / 10) (u % 10) (by omega) (ih (u / 10) (by omega) (by omega)) (by omega)
      rw [this]
      congr 1
      omega

theorem dec_ne (u : Nat) : Lib.decDigits u ≠ [] := by
  intro h
  have h1 := Lib.decDigits_length u
  have h2 := Lib.nDigits_pos u
  rw [h] at h1
  simp at h1
  omega

theorem dec_digit (u : Nat) : ∀ c ∈ Lib.decDigits u, 48 ≤ c.toNat ∧ c.toNat ≤ 57 := by
  induction u using Nat.strongRecOn with
  | _ u ih =>
    intro c hc
    by_cases h : u < 10
    · rw [Lib.decDigits, dif_pos h] at hc
      simp only [List.mem_singleton] at hc
      subst hc
      rw [digit_ok u h]; omega
    · rw [Lib.decDigits, dif_neg h, List.mem_append] at hc
      rcases hc with hc | hc
      · exact ih (u / 10) (by omega) c hc
      · simp only [List.mem_singleton] at hc
        subst hc
        rw [digit_ok _ (Nat.mod_lt _ (by decide))]; omega

theorem atoi_itoa {n : Int} (h : I64 n) : Lib.atoiAll (Lib.itoa n) = .ok n := by
  obtain ⟨h1, h2⟩ := h
  unfold Lib.itoa
  split
  · rename_i hn
    rw [Lib.atoiAll_minus]
    have := parse_dec n.natAbs (by omega)
    unfold Lib.parseMag
    rw [if_neg (dec_ne _), this]
    simp only [Lib.signed]
    rw [if_neg (by omega)]
    congr 1
    omega
  · rename_i hn
    cases hd : Lib.decDigits n.toNat with
    | nil => exact absurd hd (dec_ne _)
    | cons c r =>
      have hc := dec_digit n.toNat c (by rw [hd]; exact List.mem_cons_self ..)
      rw [Lib.atoiAll_plain c r (by omega) (by omega), ← hd]
      have := parse_dec n.toNat (by omega)
      unfold Lib.parseMag
      rw [if_neg (dec_ne _), this]
      simp only [Lib.signless]
      rw [if_neg (by omega)]
      congr 1
      omega

theorem itoa_inj {a b : Int} (ha : I64 a) (hb : I64 b) (h : Lib.itoa a = Lib.itoa b) : a = b := by
  have h1 := atoi_itoa ha
  rw [h, atoi_itoa hb] at h1
  injection h1 with h1
  exact h1.symm

/-- A byte of a decimal form is a digit or the minus sign. -/
theorem itoa_byte {n : Int} {c : UInt8} (h : c ∈ Lib.itoa n) : (48 ≤ c.toNat ∧ c.toNat ≤ 57) ∨ c.toNat = 45 := by
  unfold Lib.itoa at h
  split at h
  · rcases List.mem_cons.1 h with rfl | h
    · exact .inr rfl
    · exact .inl (dec_digit _ _ h)
  · exact .inl (dec_digit _ _ h)
theorem itoa_ne (n : Int) : Lib.itoa n ≠ [] := by
  unfold Lib.itoa
  split
  · exact List.cons_ne_nil _ _
  · exact dec_ne _
theorem nDigits_le20 {u : Nat} (h : u < 10000000000000000000) : Lib.nDigits u ≤ 19 := by
  rcases Nat.lt_or_ge 19 (Lib.nDigits u) with h1 | h1
  · exfalso
    have key : ∀ u : Nat, 10 ^ (Lib.nDigits u - 1) ≤ u ∨ u = 0 := by
      intro u
      induction u using Nat.strongRecOn with
      | _ u ih =>
        by_cases h : u < 10
        · rw [Lib.nDigits_small h]; simp; omega
        · rw [Lib.nDigits_big h]
          rcases ih (u / 10) (by omega) with h2 | h2
          · left
            have h3 := Lib.nDigits_pos (u / 10)
            rw [show Lib.nDigits (u / 10) + 1 - 1 = (Lib.nDigits (u / 10) - 1) + 1 by omega, Nat.pow_succ]
            omega
          · omega
    rcases key u with h2 | h2
    · have h3 : 10 ^ 19 ≤ 10 ^ (Lib.nDigits u - 1) := Nat.pow_le_pow_right (by decide) (by omega)
      have e : (10 : Nat) ^ 19 = 10000000000000000000 := by decide
      omega
    · subst h2
      rw [Lib.nDigits_small (by decide)] at h1
      omega
  · exact h1
theorem itoa_len {n : Int} (h : I64 n) : (Lib.itoa n).length ≤ 20 := by
  obtain ⟨h1, h2⟩ := h
  unfold Lib.itoa
  split
  · have := nDigits_le20 (u := n.natAbs) (by omega)
    simp only [List.length_cons, Lib.decDigits_length]
    omega
  · have := nDigits_le20 (u := n.toNat) (by omega)
    rw [Lib.decDigits_length]
    omega
theorem itoa_pos (n : Int) : 1 ≤ (Lib.itoa n).length := by
  cases h : Lib.itoa n with
  | nil => exact absurd h (itoa_ne n)
  | cons c r => simp

/-! ### Serializations -/
def serNum (m : UInt8) (n : Int) : Bs := Lib.itoa n ++ [m]
def serInt (n : Int) : Bs := serNum 59 n
def serText (s : Bs) : Bs := serNum 58 s.length ++ s
def serL {α : Type} (ser : α → Bs) (l : List α) : Bs := 91 :: (l.flatMap ser ++ [93])
def TextOk (s : Bs) : Prop := s.length ≤ 9223372036854775807

/-- No serialization is the beginning of another one, and equal ones have equal values. -/
def UD {α : Type} (ser : α → Bs) (ok : α → Prop) : Prop := ∀ a b r r', ok a → ok b → ser a ++ r = ser b ++ r' → a = b ∧ r = r'

theorem split_at_mark {m : UInt8} : ∀ {l l' r r' : Bs}, m ∉ l → m ∉ l' → l ++ m :: r = l' ++ m :: r' → l = l' ∧ r = r'
  | [], [], r, r', _, _, h => by simp at h; exact ⟨rfl, h⟩
  | [], c :: l', r, r', _, h2, h => by
    simp at h
    exact absurd (List.mem_cons.2 (.inl h.1)) h2
  | c :: l, [], r, r', h1, _, h => by
    simp at h
    exact absurd (List.mem_cons.2 (.inl h.1.symm)) h1
  | c :: l, c' :: l', r, r', h1, h2, h => by
    simp at h
    obtain ⟨e, h⟩ := h
    subst e
    have := split_at_mark (fun hm => h1 (List.mem_cons_of_mem _ hm)) (fun hm => h2 (List.mem_cons_of_mem _ hm)) h
    exact ⟨by rw [this.1], this.2⟩

/-- A mark is no byte of a decimal form. -/
def Mark (m : UInt8) : Prop := ¬ ((48 ≤ m.toNat ∧ m.toNat ≤ 57) ∨ m.toNat = 45)
theorem mark59 : Mark 59 := by unfold Mark; decide
theorem mark58 : Mark 58 := by unfold Mark; decide
theorem Mark.not_mem {m : UInt8} (h : Mark m) (n : Int) : m ∉ Lib.itoa n := fun hm => h (itoa_byte hm)

theorem ud_num {m : UInt8} (hm : Mark m) : UD (serNum m) I64 := by
  intro a b r r' ha hb h
  simp only [serNum, List.append_assoc, List.singleton_append] at h
  have := split_at_mark (hm.not_mem a) (hm.not_mem b) h
  exact ⟨itoa_inj ha hb this.1, this.2⟩
theorem ud_int : UD serInt I64 := ud_num mark59
theorem ud_text : UD serText TextOk := by
  intro a b r r' ha hb h
  simp only [serText, List.append_assoc] at h
  unfold TextOk at ha hb
  have := ud_num mark58 _ _ _ _ (show I64 (a.length : Int) from ⟨by omega, by omega⟩) (show I64 (b.length : Int) from ⟨by omega, by omega⟩) h
  have hl : a.length = b.length := by omega
  exact List.append_inj this.2 hl

/-- The first byte of a serialization is not ']'. -/
def Opens {α : Type} (ser : α → Bs) : Prop := ∀ a, ∃ c r, ser a = c :: r ∧ c ≠ 93
theorem opens_num (m : UInt8) : Opens (serNum m) := by
  intro n
  cases h : Lib.itoa n with
  | nil => exact absurd h (itoa_ne n)
  | cons c r =>
    refine ⟨c, r ++ [m], by simp [serNum, h], ?_⟩
    rintro rfl
    have := itoa_byte (n := n) (c := 93) (by rw [h]; exact List.mem_cons_self ..)
    revert this
    decide
theorem opens_int : Opens serInt := opens_num 59
theorem opens_text : Opens serText := by
  intro s
  obtain ⟨c, r, h, hc⟩ := opens_num 58 s.length
  exact ⟨c, r ++ s, by simp [serText, h], hc⟩

/-- What stands behind elements that were read is the rest of the list. -/
theorem tail_of {α : Type} {ser : α → Bs} {ok : α → Prop} (hu : UD ser ok) (ho : Opens ser) : ∀ {acc l : List α} {r r' : Bs}, (∀ a ∈ acc, ok a) → (∀ a ∈ l, ok a) → acc.flatMap ser ++ r = l.flatMap ser ++ 93 :: r' → ∃ l', l = acc ++ l' ∧ r = l'.flatMap ser ++ 93 :: r'
  | [], l, r, r', _, _, h => ⟨l, rfl, by simpa using h⟩
  | a :: acc, [], r, r', _, _, h => by
    obtain ⟨c, t, e, hc⟩ := ho a
    simp [e] at h
    exact absurd h.1 hc
  | a :: acc, b :: l, r, r', h1, h2, h => by
    simp only [List.flatMap_cons, List.append_assoc] at h
    obtain ⟨e, h3⟩ := hu a b _ _ (h1 a (List.mem_cons_self ..)) (h2 b (List.mem_cons_self ..)) h
    subst e
    obtain ⟨l', e, h4⟩ := tail_of hu ho (fun x hx => h1 x (List.mem_cons_of_mem _ hx)) (fun x hx => h2 x (List.mem_cons_of_mem _ hx)) h3
    exact ⟨l', by rw [e]; rfl, h4⟩
def AllOk {α : Type} (ok : α → Prop) (l : List α) : Prop := ∀ a ∈ l, ok a
theorem ud_list {α : Type} {ser : α → Bs} {ok : α → Prop} (hu : UD ser ok) (ho : Opens ser) : UD (serL ser) (AllOk ok) := by
  intro a b r r' ha hb h
  simp only [serL, List.cons_append, List.append_assoc, List.singleton_append, List.cons.injEq, true_and] at h
  obtain ⟨l', e, h2⟩ := tail_of hu ho ha hb h
  cases l' with
  | nil => simp at h2 e; exact ⟨e.symm, h2⟩
  | cons c l' =>
    obtain ⟨x, t, e2, hx⟩ := ho c
    simp [e2] at h2
    exact absurd h2.1.symm hx

/-- What a decoder finds in s: a value with its serialization at the beginning and what follows it, or that there is none. -/
structure Dec {α : Type} (ser : α → Bs) (ok : α → Prop) (s : Bs) (o : Option (α × Bs)) : Prop where
  some : ∀ a r, o = .some (a, r) → ok a ∧ s = ser a ++ r
  none : o = .none → ∀ a r, ok a → s ≠ ser a ++ r
section
variable {α : Type} {ser : α → Bs} {ok : α → Prop} {s r : Bs} {a : α} {o o' : Option (α × Bs)}
theorem Dec.yes (ha : ok a) (h : s = ser a ++ r) : Dec ser ok s (.some (a, r)) := ⟨fun _ _ e => by cases e; exact ⟨ha, h⟩, fun e => by cases e⟩
theorem Dec.no (h : ∀ a r, ok a → s ≠ ser a ++ r) : Dec ser ok s .none := ⟨fun _ _ e => (by cases e), fun _ => h⟩
theorem Dec.eq (hu : UD ser ok) (h : Dec ser ok s o) (h' : Dec ser ok s o') : o = o' := by
  match o, o' with
  | .none, .none => rfl
  | .some (a, r), .none => exact absurd (h.some a r rfl).2 (h'.none rfl a r (h.some a r rfl).1)
  | .none, .some (a, r) => exact absurd (h'.some a r rfl).2 (h.none rfl a r (h'.some a r rfl).1)
  | .some (a, r), .some (b, t) =>
    have h1 := h.some a r rfl
    have h2 := h'.some b t rfl
    have := hu a b r t h1.1 h2.1 (h1.2.symm.trans h2.2)
    rw [this.1, this.2]
/-- A reader of a serialization with something behind it finds it. -/
theorem Dec.whole (hu : UD ser ok) (ha : ok a) (h : Dec ser ok (ser a ++ r) o) : o = .some (a, r) := h.eq hu (Dec.yes ha rfl)
/-- A reader of a beginning of a serialization finds nothing. -/
theorem Dec.short (hu : UD ser ok) (ha : ok a) {p q : Bs} (hp : ser a = p ++ q) (hq : q ≠ []) (h : Dec ser ok p o) : o = .none := by
  match o with
  | .none => rfl
  | .some (b, t) =>
    have h1 := h.some b t rfl
    have h2 : ser a ++ [] = ser b ++ (t ++ q) := by rw [List.append_nil, hp, h1.2, List.append_assoc]
    have := hu a b _ _ ha h1.1 h2
    exact absurd (List.append_eq_nil_iff.1 this.2.symm).2 hq
end

/-- Nothing begins in the empty text. -/
theorem dec_empty {α : Type} {ser : α → Bs} {ok : α → Prop} (h : ∀ a, ser a ≠ []) : Dec ser ok [] .none := Dec.no fun a r _ e => h a (List.append_eq_nil_iff.1 e.symm).1
theorem serNum_ne (m : UInt8) (n : Int) : serNum m n ≠ [] := by simp [serNum]
theorem serText_ne (s : Bs) : serText s ≠ [] := fun h => serNum_ne 58 _ (List.append_eq_nil_iff.1 h).1
theorem serL_ne {α : Type} (ser : α → Bs) (l : List α) : serL ser l ≠ [] := by simp [serL]

/-- Of a number and what follows it, a text. -/
theorem dec_text {s : Bs} {o : Option (Int × Bs)} (h : Dec (serNum 58) I64 s o) : Dec serText TextOk s (match o with | .some (n, r) => if 0 ≤ n ∧ n ≤ r.length then .some (r.take n.toNat, r.drop n.toNat) else .none | .none => .none) := by
  match o with
  | .none =>
    refine Dec.no fun a r ha e => ?_
    unfold TextOk at ha
    exact h.none rfl (a.length : Int) (a ++ r) ⟨by omega, by omega⟩ (by rw [e, serText, List.append_assoc])
  | .some (n, r) =>
    have h1 := h.some n r rfl
    by_cases hn : 0 ≤ n ∧ n ≤ r.length
    · simp only [if_pos hn]
      refine Dec.yes ?_ ?_
      · unfold TextOk; obtain ⟨⟨_, h2⟩, _⟩ := h1; rw [List.length_take]; omega
      · rw [h1.2, serText, List.length_take, List.append_assoc, List.take_append_drop]
        congr 2
        omega
    · simp only [if_neg hn]
      refine Dec.no fun a t ha e => hn ?_
      unfold TextOk at ha
      have e2 : serNum 58 n ++ r = serNum 58 (a.length : Int) ++ (a ++ t) := by rw [← h1.2, e, serText, List.append_assoc]
      have := ud_num mark58 n a.length r (a ++ t) h1.1 ⟨by omega, by omega⟩ e2
      rw [this.1, this.2, List.length_append]
      omega

/-- How a list's reader ends. -/
theorem dec_list_done {α : Type} {ser : α → Bs} {ok : α → Prop} {s r : Bs} {acc : List α} (ha : AllOk ok acc) (h : s = 91 :: (acc.flatMap ser ++ 93 :: r)) : Dec (serL ser) (AllOk ok) s (.some (acc, r)) :=
  Dec.yes ha (by rw [h]; simp [serL])
theorem dec_list_none {α : Type} {ser : α → Bs} {ok : α → Prop} {s : Bs} (h : ∀ r, s ≠ 91 :: r) : Dec (serL ser) (AllOk ok) s .none :=
  Dec.no fun a r _ e => h _ (by rw [e]; rfl)
theorem dec_list_fail {α : Type} {ser : α → Bs} {ok : α → Prop} (hu : UD ser ok) (ho : Opens ser) {s r : Bs} {acc : List α} (ha : AllOk ok acc) (h : s = 91 :: (acc.flatMap ser ++ r)) (hr : ∀ t, r ≠ 93 :: t) (hd : Dec ser ok r .none) : Dec (serL ser) (AllOk ok) s .none := by
  refine Dec.no fun l t hl e => ?_
  rw [h] at e
  simp only [serL, List.cons_append, List.append_assoc, List.singleton_append, List.cons.injEq, true_and] at e
  obtain ⟨l', e1, e2⟩ := tail_of hu ho ha hl e
  cases l' with
  | nil => exact hr t (by simpa using e2)
  | cons c l' =>
    refine hd.none rfl c (l'.flatMap ser ++ 93 :: t) (hl c (by rw [e1]; simp)) ?_
    rw [e2]; simp

end Go.Proofs.YtckhbejgkgpilaaDoor
