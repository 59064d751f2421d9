/- WireInverse: reading one value back. -/
import Derived.Test.YtckhbejgkgpilaaDoorInvA
set_option linter.all false
namespace Go.Proofs.YtckhbejgkgpilaaDoor
open Go Go.RowKit Go.Shelf

section
variable {b : Nat} {R : Bs} {w : World}
theorem rint_whole (z : Int) (hz : I64 z) (hl : (serInt z ++ R).length ≤ 4294967280) (hv : Vars w) (h : RdP (some b) (some (serInt z ++ R)) w) :
    Calls Tryd.prog 22 #[ptrV (some b)] w fun e w' => e = .returned (.int .i64 z) ∧ RdP (some b) (some R) w' ∧ Keep (some b) w w' := by
  refine (rint_calls (some b) (some (serInt z ++ R)) hl w hv h).mono ?_
  rintro e w' ⟨o, hd, rfl, hr, hk⟩
  obtain rfl := Dec.whole ud_int hz hd
  exact ⟨rfl, hr, hk⟩
theorem rtext_whole (s : Bs) (hs : TextOk s) (hl : (serText s ++ R).length ≤ 4294967280) (hv : Vars w) (h : RdP (some b) (some (serText s ++ R)) w) :
    Calls Tryd.prog 24 #[ptrV (some b)] w fun e w' => e = .returned (.string ⟨s.toArray⟩) ∧ RdP (some b) (some R) w' ∧ Keep (some b) w w' := by
  refine (rtext_calls (some b) (some (serText s ++ R)) hl w hv h).mono ?_
  rintro e w' ⟨o, hd, rfl, hr, hk⟩
  obtain rfl := Dec.whole ud_text hs hd
  exact ⟨rfl, hr, hk⟩
theorem rints_whole (zs : List Int) (hz : AllOk I64 zs) (hl : (serL serInt zs ++ R).length ≤ 4294967280) (hv : Vars w) (h : RdP (some b) (some (serL serInt zs ++ R)) w) :
    Calls Tryd.prog 27 #[ptrV (some b)] w fun e w' => (∃ v, e = .returned v ∧ SlOf encI (fun c => c ≠ b) w' v zs) ∧ RdP (some b) (some R) w' ∧ Keep (some b) w w' := by
  refine (rints_calls (some b) (some (serL serInt zs ++ R)) hl w hv h).mono ?_
  rintro e w' ⟨o, hd, ⟨v, rfl, hs⟩, hr, hk⟩
  obtain rfl := Dec.whole (ud_list ud_int opens_int) hz hd
  exact ⟨⟨v, rfl, hs.kind (fun c hc _ e => by have := h.rlt b rfl; omega)⟩, hr, hk⟩
theorem rtexts_whole (ts : List Bs) (hz : AllOk TextOk ts) (hl : (serL serText ts ++ R).length ≤ 4294967280) (hv : Vars w) (h : RdP (some b) (some (serL serText ts ++ R)) w) :
    Calls Tryd.prog 30 #[ptrV (some b)] w fun e w' => (∃ v, e = .returned v ∧ SlOf encT (fun c => c ≠ b) w' v ts) ∧ RdP (some b) (some R) w' ∧ Keep (some b) w w' := by
  refine (rtexts_calls (some b) (some (serL serText ts ++ R)) hl w hv h).mono ?_
  rintro e w' ⟨o, hd, ⟨v, rfl, hs⟩, hr, hk⟩
  obtain rfl := Dec.whole (ud_list ud_text opens_text) hz hd
  exact ⟨⟨v, rfl, hs.kind (fun c hc _ e => by have := h.rlt b rfl; omega)⟩, hr, hk⟩
end
/-- What the drawn operations of a comparison hold. -/
def rdF (g b f : Nat) (F1 : Value → World → Prop) (v3 : Value) : Nat → Value → World → Prop
  | 0, v, _ => v = .pointer (some ⟨b, 0, none⟩)
  | 1, v, W => F1 v W
  | 2, v, _ => v = .pointer (some ⟨g, f, none⟩)
  | 3, v, _ => v = v3
  | 4, v, _ => v = .bool true
  | 5, v, _ => v = .bool true
  | _, _, _ => True
theorem rdF_mono {g b f : Nat} {F1 : Value → World → Prop} {v3 : Value} {W W' : World} (hm : ∀ v, F1 v W → F1 v W') : ∀ {k : Nat} {v : Value}, rdF g b f F1 v3 k v W → rdF g b f F1 v3 k v W'
  | 0, _, h => h
  | 1, _, h => hm _ h
  | 2, _, h => h
  | 3, _, h => h
  | 4, _, h => h
  | 5, _, h => h
  | _ + 6, _, _ => trivial
/-- The reader, before and behind the call. -/
def Rst (b : Nat) (r0 r1 : Bs) (D : Nat → Prop) (w : World) : Prop := (¬ D 1 ∧ RdP (some b) (some r0) w) ∨ (D 1 ∧ RdP (some b) (some r1) w)
theorem Rst.other {b : Nat} {r0 r1 : Bs} {D : Nat → Prop} {w w' : World} (h : Rst b r0 r1 D w) {i : Nat} (hi : i ≠ 1) (hx : Ext w w') : Rst b r0 r1 (fun j => j = i ∨ D j) w' := by
  rcases h with ⟨h1, h2⟩ | ⟨h1, h2⟩
  · exact .inl ⟨fun e => e.elim (fun e => hi e.symm) h1, h2.ext hx⟩
  · exact .inr ⟨.inr h1, h2.ext hx⟩
theorem Rst.same {b : Nat} {r0 r1 : Bs} {D : Nat → Prop} {w : World} (h : Rst b r0 r1 D w) {i : Nat} (hi : i ≠ 1) : Rst b r0 r1 (fun j => j = i ∨ D j) w := h.other hi (Ext.refl w)
section
variable {o : Oper} {a : Act} {w : World}
theorem run_eql_i (x y : Operand) (ho : o.op = .binOp .eql 3 x y 3) (u : Int) (hx : a.eval x = .int .i64 u) (hy : a.eval y = .int .i64 u) : (execOp a.eval o).run Tryd.prog w = .ok (.value (.bool true)) w := by
  unfold execOp
  simp only [ho, hx, hy]
  simp [go_sem]
theorem run_eql_s (x y : Operand) (ho : o.op = .binOp .eql 9 x y 9) (u : ByteArray) (hx : a.eval x = .string u) (hy : a.eval y = .string u) : (execOp a.eval o).run Tryd.prog w = .ok (.value (.bool true)) w := by
  unfold execOp
  simp only [ho, hx, hy]
  simp [go_sem]
theorem run_enter2 (f : FuncId) (x y : Operand) (ts : Array TypeId) (ho : o.op = .call { callee := .value (.func f), args := #[x, y], argTypes := ts }) (u1 u2 : Value) (h1 : a.eval x = u1) (h2 : a.eval y = u2) (hf : ∀ args w, (callFunc f args).run Tryd.prog w = .ok (.enter f args) w) :
    (execOp a.eval o).run Tryd.prog w = .ok (.enter f #[u1, u2]) w := by
  have ef : a.eval (.func f) = .func (.func f) #[] #[] := rfl
  have hm : Array.map a.eval #[x, y] = #[u1, u2] := by rw [← h1, ← h2]; simp
  unfold execOp
  simp only [ho, resolve, Deferred.ofValue, invoke, ef, hm]
  simp [hf]
end
theorem ent_rint (args : Array Value) (w : World) : (callFunc 22 args).run Tryd.prog w = .ok (.enter 22 args) w := enters_of Tryd.func22 (by kernel_rfl) rfl args w
theorem ent_rtext (args : Array Value) (w : World) : (callFunc 24 args).run Tryd.prog w = .ok (.enter 24 args) w := enters_of Tryd.func24 (by kernel_rfl) rfl args w
theorem ent_rints (args : Array Value) (w : World) : (callFunc 27 args).run Tryd.prog w = .ok (.enter 27 args) w := enters_of Tryd.func27 (by kernel_rfl) rfl args w
theorem ent_rtexts (args : Array Value) (w : World) : (callFunc 30 args).run Tryd.prog w = .ok (.enter 30 args) w := enters_of Tryd.func30 (by kernel_rfl) rfl args w
theorem ent_si (args : Array Value) (w : World) : (callFunc 26 args).run Tryd.prog w = .ok (.enter 26 args) w := enters_of Tryd.func26 (by kernel_rfl) rfl args w
theorem ent_st (args : Array Value) (w : World) : (callFunc 29 args).run Tryd.prog w = .ok (.enter 29 args) w := enters_of Tryd.func29 (by kernel_rfl) rfl args w

end Go.Proofs.YtckhbejgkgpilaaDoor
