/-
  A SCOPE OUT OF WHICH THE RUN JUMPS FORWARD, ONCE AT MOST: what stands behind the label is walked as the rest ('refuse:' and its like).
-/
import Derived.Scope
import Derived.WalkMore
import Derived.Lib.Hide
namespace Go.Proofs.YthoeicidilnleaaDoor.Codec

def Exit.fwd (P : Program) (F : Nat → Option Code) (Q : Exit → Act → World → Prop) : Exit → Act → World → Prop
  | .goto l, a, w => ∃ rest, F l = some rest ∧ rest.wp P (Exit.noGoto Q) a w
  | e, a, w => Q e a w

section
variable {P : Program} {a : Act} {w : World} {Q : Exit → Act → World → Prop}
theorem wp_scope_fwd {c : Code} (h : ∀ F, F = findLabel c → c.wp P (Exit.fwd P F Q) a w) : (Code.scope c).wp P Q a w := by
  have h := h _ rfl
  intro b k cs
  obtain ⟨e, a₁, w₁, hq, harr⟩ := h b (.inScope c :: k) cs
  cases e with
  | normal => exact ⟨.normal, a₁, w₁, hq, .head step_scope (Steps.trans harr (.one step_inScope))⟩
  | exit id => exact ⟨.exit id, a₁, w₁, hq, fun k' hk => .head step_scope (harr k' (by simp [exitTo, hk]))⟩
  | goto l =>
    obtain ⟨rest, hf, hr⟩ := hq
    have hg : gotoIn l (.inScope c :: k) = some (.code rest :: .inScope c :: k) := by simp [gotoIn, hf]
    obtain ⟨e₂, a₂, w₂, hq₂, harr₂⟩ := hr b (.inScope c :: k) cs
    have go : Steps P (lone (b.at a (.code (.scope c) :: k)) cs w) (lone (b.at a₁ (.code rest :: .inScope c :: k)) cs w₁) := .head step_scope (harr _ hg)
    cases e₂ with
    | normal => exact ⟨.normal, a₂, w₂, hq₂, Steps.trans go (Steps.trans harr₂ (.one step_inScope))⟩
    | exit id => exact ⟨.exit id, a₂, w₂, hq₂, fun k' hk => Steps.trans go (harr₂ k' (by simp [exitTo, hk]))⟩
    | goto l => exact hq₂.elim
    | ret => exact ⟨_, a₂, w₂, hq₂, .of_steps go harr₂⟩
    | panic ch => exact ⟨_, a₂, w₂, hq₂, .of_steps go harr₂⟩
    | outgrown => exact ⟨_, a₂, w₂, hq₂, .of_steps go harr₂⟩
  | ret => exact ⟨_, a₁, w₁, hq, .of_steps (.one step_scope) harr⟩
  | panic ch => exact ⟨_, a₁, w₁, hq, .of_steps (.one step_scope) harr⟩
  | outgrown => exact ⟨_, a₁, w₁, hq, .of_steps (.one step_scope) harr⟩
theorem Exit.fwd_ret {F : Nat → Option Code} : Exit.fwd P F Q .ret a w = Q .ret a w := rfl
theorem Exit.fwd_normal {F : Nat → Option Code} : Exit.fwd P F Q .normal a w = Q .normal a w := rfl
end
end Go.Proofs.YthoeicidilnleaaDoor.Codec
