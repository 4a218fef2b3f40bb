/- A scope with several labels, to which the run jumps forth and back: what holds at each of them, and a measure that every jump lowers. -/
import Derived.Test.YtbjabjkmagekfaaDoorInfo
namespace Go.Proofs.YtbjabjkmagekfaaDoor
open Go Go.RowKit

/-- As Q; by a goto to label l: J l. -/
def Exit.net (J : Nat → Act → World → Prop) (Q : Exit → Act → World → Prop) : Exit → Act → World → Prop
  | .goto l, a, w => J l a w
  | e, a, w => Q e a w
theorem net_ret {J : Nat → Act → World → Prop} {Q : Exit → Act → World → Prop} {a : Act} {w : World} (h : Q .ret a w) : Exit.net J Q .ret a w := h
theorem net_goto {J : Nat → Act → World → Prop} {Q : Exit → Act → World → Prop} {a : Act} {w : World} (l : Nat) (h : J l a w) : Exit.net J Q (.goto l) a w := h

theorem wp_scope_net {P : Program} {a : Act} {w : World} {Q : Exit → Act → World → Prop} {c R : Code} (l0 : Nat) (J : Nat → Act → World → Prop) (μ : Nat → Act → World → Nat) (hf : findLabel c l0 = some (Code.skip.seq R))
    (first : (∀ a w, J l0 a w → R.wp P (Exit.net J Q) a w) → c.wp P (Exit.net J Q) a w)
    (pass : ∀ l a w, J l a w → ∃ R', findLabel c l = some (Code.skip.seq R') ∧ R'.wp P (Exit.net (fun l' a' w' => J l' a' w' ∧ μ l' a' w' < μ l a w) Q) a w) : (Code.scope c).wp P Q a w := by
  intro b k cs
  have key : ∀ n l a w, μ l a w = n → J l a w → ∃ R', findLabel c l = some (Code.skip.seq R') ∧ ∃ e a' w', Q e a' w' ∧ Arrives P (lone (b.at a (.code (Code.skip.seq R') :: .inScope c :: k)) cs w) b k cs e a' w' := by
    intro n
    induction n using Nat.strongRecOn with
    | _ n ih =>
      intro l a w hn hJ
      obtain ⟨R', hl, hw⟩ := pass l a w hJ
      refine ⟨R', hl, ?_⟩
      obtain ⟨e, a₁, w₁, hq, harr⟩ := wp_seq (wp_skip hw) b (.inScope c :: k) cs
      cases e with
      | normal => exact ⟨.normal, a₁, w₁, hq, Steps.trans harr (.one step_inScope)⟩
      | exit id => exact ⟨.exit id, a₁, w₁, hq, fun k' hk => harr k' (by simp [exitTo, hk])⟩
      | goto l' =>
        obtain ⟨hJ', hlt⟩ := hq
        obtain ⟨R₂, hl₂, e₂, a₂, w₂, hq₂, harr₂⟩ := ih _ (by omega) l' a₁ w₁ rfl hJ'
        have hg : gotoIn l' (.inScope c :: k) = some (.code (Code.skip.seq R₂) :: .inScope c :: k) := by simp [gotoIn, hl₂]
        exact ⟨e₂, a₂, w₂, hq₂, .of_steps (harr _ hg) harr₂⟩
      | ret => exact ⟨_, a₁, w₁, hq, harr⟩
      | panic ch => exact ⟨_, a₁, w₁, hq, harr⟩
      | outgrown => exact ⟨_, a₁, w₁, hq, harr⟩
  have hfirst := first fun a w hJ => by
    obtain ⟨R', hl, hw⟩ := pass l0 a w hJ
    rw [hf] at hl
    injection hl with hl
    injection hl with _ hl
    subst hl
    exact Code.wp_mono (fun e a' w' h => by cases e <;> first | exact h.1 | exact h) hw
  obtain ⟨e, a₁, w₁, hq, harr⟩ := hfirst b (.inScope c :: k) cs
  cases e with
  | normal => exact ⟨.normal, a₁, w₁, hq, .head step_scope (Steps.trans harr (.one step_inScope))⟩
  | exit id => exact ⟨.exit id, a₁, w₁, hq, fun k' hk => .head step_scope (harr k' (by simp [exitTo, hk]))⟩
  | goto l' =>
    obtain ⟨R₂, hl₂, e₂, a₂, w₂, hq₂, harr₂⟩ := key _ l' a₁ w₁ rfl hq
    have hg : gotoIn l' (.inScope c :: k) = some (.code (Code.skip.seq R₂) :: .inScope c :: k) := by simp [gotoIn, hl₂]
    exact ⟨e₂, a₂, w₂, hq₂, .of_steps (.head step_scope (harr _ hg)) harr₂⟩
  | ret => exact ⟨_, a₁, w₁, hq, .of_steps (.one step_scope) harr⟩
  | panic ch => exact ⟨_, a₁, w₁, hq, .of_steps (.one step_scope) harr⟩
  | outgrown => exact ⟨_, a₁, w₁, hq, .of_steps (.one step_scope) harr⟩
end Go.Proofs.YtbjabjkmagekfaaDoor
