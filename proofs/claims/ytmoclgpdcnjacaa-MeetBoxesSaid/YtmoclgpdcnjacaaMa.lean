/- The program's functions of numbers, as tables. -/
import Derived.Test.YtmoclgpdcnjacaaMs
import Derived.Test.YtmoclgpdcnjacaaEd1
import Derived.Test.YtmoclgpdcnjacaaP3
set_option linter.all false
set_option autoImplicit false
namespace Go.Proofs.Ytmoclgpdcnjacaa.Sx
open Go Go.RowKit

/-- Numbers, compared. -/
def ctZCmp (f : FuncId) : CT := fun g args s => bif Nat.beq g f then match argsN s [.num, .num] args with
  | some [a, b] => some (withB (B.mkLt a b) s fun v s => match v with
    | true => .leaf (.c (.int .i64 (.lit (-1))), s)
    | false => withB (B.mkLt b a) s fun v s => match v with
      | true => .leaf (.c (.int .i64 (.lit 1)), s)
      | false => .leaf (.c (.int .i64 (.lit 0)), s))
  | _ => none
  else none
def lim240p : Int := 2 ^ 240 - 1
def lim120p : Int := 2 ^ 120 - 1
/-- The sign of a + b √c, where c is not negative: the symbol 998. -/
def niSignP (g : FuncId) : NI := ⟨g, [.num, .num, .num], fun k ts => match ts with
  | [a, b, c] => bif inR k a (-lim240p) lim240p && (inR k b (-lim120p) lim120p && inR k c 0 lim240p) then some (.int .i64 (.app 998 (.cons a (.cons b (.cons c .nil))))) else none
  | _ => none⟩
section
variable {P : Program} {I : Interp} {ρ : Env}
theorem ctZCmp_ok (hI : I.opq = numOpq) : CTOk Try.prog I ρ (ctZCmp 56) := by
  intro g args s t h w0 X n0 β0 β w R ht hw ha
  unfold ctZCmp at h
  cases hg : Nat.beq g 56 with
  | false => rw [hg] at h; cases h
  | true =>
    have := Nat.eq_of_beq_eq_true hg
    subst this
    rw [hg] at h
    simp only [cond_true] at h
    split at h
    · rename_i a b hab
      injection h with h
      subst h
      have hn := argsN_ok hI hw hab
      match args, hn with
      | [va, vb], ⟨h1, h2, _⟩ =>
        have h1 : ZNum w.heap.size w (va.den I ρ β) (a.den I ρ) := h1
        have h2 : ZNum w.heap.size w (vb.den I ρ β) (b.den I ρ) := h2
        refine (cmp_calls _ _ _ _ w h1 h2).mono fun x w' ⟨hx, hbl⟩ => ?_
        subst hx
        obtain ⟨s1, hw1, hnb, hbk, ht⟩ := withB_ok hw ht
        rw [B.den_mkLt] at ht
        by_cases e1 : a.den I ρ < b.den I ρ
        · rw [decide_eq_true e1] at ht
          have e : zcmp (a.den I ρ) (b.den I ρ) = -1 := by unfold zcmp; rw [if_pos e1]
          rw [e]
          exact ht β w' (hw1.below hbl) rfl (by show s.nb ≤ s1.nb; omega) (fun _ _ => rfl)
        · rw [decide_eq_false e1] at ht
          obtain ⟨s2, hw2, hnb2, hbk2, ht⟩ := withB_ok hw1 ht
          rw [B.den_mkLt] at ht
          by_cases e2 : b.den I ρ < a.den I ρ
          · rw [decide_eq_true e2] at ht
            have e : zcmp (a.den I ρ) (b.den I ρ) = 1 := by unfold zcmp; rw [if_neg e1, if_pos e2]
            rw [e]
            exact ht β w' (hw2.below hbl) rfl (by show s.nb ≤ s2.nb; omega) (fun _ _ => rfl)
          · rw [decide_eq_false e2] at ht
            have e : zcmp (a.den I ρ) (b.den I ρ) = 0 := by unfold zcmp; rw [if_neg e1, if_neg e2]
            rw [e]
            exact ht β w' (hw2.below hbl) rfl (by show s.nb ≤ s2.nb; omega) (fun _ _ => rfl)
    · cases h
theorem ptwo_of {w w' : World} {z : Int} {neg : Bool} {x : Ending} (h : Gives w z neg x w') : GivesR .two z x w' ∧ Below w.heap.size w w' := by
  obtain ⟨p, n, c, hx, hz, hb⟩ := h
  exact ⟨⟨_, hx, hz⟩, hb⟩
theorem pone_of {w w' : World} {z : Int} {neg : Bool} {x : Ending} (h : Gives1 w z neg x w') : GivesR .num z x w' ∧ Below w.heap.size w w' := by
  obtain ⟨p, n, c, hx, hz, hb⟩ := h
  exact ⟨⟨_, hx, hz⟩, hb⟩
theorem pof_c : (nfOf 57).Ok Try.prog I ρ := nfOf_ok fun z w h1 h2 => (of_gives z h1 h2 rfl w).mono fun _ _ h => pone_of h
theorem psub_c : (nf2 54 .sub .two).Ok Try.prog I ρ := nf2_ok fun va vb a b w ha hb hl => (sub_gives ha hb rfl rfl hl).mono fun _ _ h => ptwo_of h
theorem pmul_c : (nf2 71 .mul .two).Ok Try.prog I ρ := nf2_ok fun va vb a b w ha hb hl => (mul_gives ha hb rfl rfl hl).mono fun _ _ h => ptwo_of h
theorem sideZ_sgS (a b c : Int) (h : 0 ≤ c) : RM.sideZ a b c = sgS a b c := by
  have hs : ∀ x : Int, x.sign = sg x := fun x => by
    unfold sg
    split
    · exact Int.sign_eq_neg_one_of_neg (by assumption)
    · split
      · exact Int.sign_eq_one_of_pos (by assumption)
      · rw [show x = 0 by omega]; rfl
  unfold sgS
  rw [if_neg (show ¬ c < 0 by omega)]
  unfold RM.sideZ
  simp only [hs]
theorem fitK_of {z : Int} {n k : Nat} (h1 : z.natAbs < 2 ^ n) (h2 : 2 ^ n ≤ B32 ^ k) : fitK k z = true := by
  unfold fitK
  rw [decide_eq_true_eq]
  exact digs_len.2 (Nat.lt_of_lt_of_le h1 h2)
theorem psign_c (hI : ∀ a b c, I.fi 998 [a, b, c] = sgS a b c) : (niSignP 59).Ok Try.prog I ρ := by
  intro k ts t hk hv w vs ha
  unfold niSignP at hv
  simp only at hv
  split at hv
  · rename_i a b c
    cases hb : (inR k a (-lim240p) lim240p && (inR k b (-lim120p) lim120p && inR k c 0 lim240p)) with
    | false => rw [hb] at hv; cases hv
    | true =>
      rw [hb] at hv
      injection hv with hv
      subst hv
      simp only [Bool.and_eq_true] at hb
      obtain ⟨h1, h2⟩ := inR_ok hk hb.1
      obtain ⟨h3, h4⟩ := inR_ok hk hb.2.1
      obtain ⟨h5, h6⟩ := inR_ok hk hb.2.2
      unfold lim240p at h1 h2 h6
      unfold lim120p at h3 h4
      match vs, ha with
      | [va, vb, vc], ⟨k1, k2, k3, _⟩ =>
        have k1 : ZNum w.heap.size w va (a.den I ρ) := k1
        have k2 : ZNum w.heap.size w vb (b.den I ρ) := k2
        have k3 : ZNum w.heap.size w vc (c.den I ρ) := k3
        have hp : (2 : Nat) ^ 240 ≤ B32 ^ 20 := by decide
        refine (sign_ok va vb vc _ _ _ w k1 k2 k3 h5 (fitK_of (n := 240) (by omega) hp) (fitK_of (n := 240) (by omega) hp) (fitK_of (n := 240) (by omega) hp)).mono fun x w' ⟨hx, hbl⟩ => ⟨?_, hbl⟩
        rw [hx, sideZ_sgS _ _ _ h5, ← hI]
        rfl
  · cases hv
/-- The program's numbers. -/
def ctP : CT := ctOr (ctNum [nfOf 57, nf2 54 .sub .two, nf2 71 .mul .two]) (ctOr (ctZCmp 56) (ctInt [niSignP 59]))
theorem ctP_ok (hI : I.opq = numOpq) (hS : ∀ a b c, I.fi 998 [a, b, c] = sgS a b c) : CTOk Try.prog I ρ ctP := by
  refine ctOr_ok (ctNum_ok hI fun e he => ?_) (ctOr_ok (ctZCmp_ok hI) (ctInt_ok hI fun e he => ?_))
  · simp only [List.mem_cons, List.not_mem_nil, or_false] at he
    rcases he with rfl | rfl | rfl
    · exact pof_c
    · exact psub_c
    · exact pmul_c
  · simp only [List.mem_cons, List.not_mem_nil, or_false] at he
    subst he
    exact psign_c hS
end
end Go.Proofs.Ytmoclgpdcnjacaa.Sx
