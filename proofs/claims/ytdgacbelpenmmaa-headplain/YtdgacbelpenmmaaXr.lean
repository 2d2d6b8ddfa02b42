/- A writer's bytes are right. -/
import Derived.Test.YtdgacbelpenmmaaWm
namespace Go.Proofs.Ytdgacbelpenmmaa
open Go.RowKit
set_option linter.unusedVariables false
set_option linter.unusedSimpArgs false

theorem right_byL (X N : Nat) (hX : X < 2 ^ N) (hN : N ≤ 32000) : rightB (byL X ((N + 7) / 8)) N = true ∧ bv (byL X ((N + 7) / 8)) = X := by
  have h : bv (byL X ((N + 7) / 8)) = X := by
    rw [byL_bv, Nat.mod_eq_of_lt]
    refine Nat.lt_of_lt_of_le hX ?_
    rw [pow256]
    exact Nat.pow_le_pow_right (by decide) (by omega)
  exact ⟨by rw [rightB_nat, decide_eq_true_eq, h, byL_length]; exact ⟨hN, rfl, hX⟩, h⟩
end Go.Proofs.Ytdgacbelpenmmaa
