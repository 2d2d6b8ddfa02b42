/- The contract of the document function Right, at every writer. -/
import Derived.Test.YtdgacbelpenmmaaWb
namespace Go.Proofs.Ytdgacbelpenmmaa
open Go.RowKit
set_option linter.unusedVariables false
set_option linter.unusedSimpArgs false
/-! ### The document's own -/
theorem owns_bits {w : World} {base V n : Nat} {v : Value} (h : w.ownsRow base 3 1 v n ((bl V n).map (Value.int .i64))) :
    ∃ a cap, v = .slice a n cap ∧ (n = 0 ∨ ∃ b off, a = some ⟨b, off, none⟩ ∧ b < w.heap.size ∧ ∀ i, i < n → w.cell? ⟨b, off + i, none⟩ = some (.int .i64 (bitAt V i))) := by
  obtain ⟨a, cap, hv, hr⟩ := Rw.of_owns h
  rw [bl_length] at hv hr
  refine ⟨a, cap, hv, ?_⟩
  rcases hr with hr | ⟨b, off, ha, hb, hc⟩
  · left; have := congrArg List.length hr; rw [bl_length] at this; simpa using this
  · exact .inr ⟨b, off, ha, hb, fun i hi => by rw [hc i hi, bl_getD V n i hi]⟩

theorem bits_zero_from (V N n : Nat) (h : ∀ i, N ≤ i → i < n → bitAt V i = 0) (hV : V < 2 ^ n) (hN : N ≤ n) : V < 2 ^ N := by
  induction n with
  | zero => have : N = 0 := by omega
            subst this; exact hV
  | succ n ih =>
    by_cases hn : N = n + 1
    · subst hn; exact hV
    · refine ih (fun i h1 h2 => h i h1 (by omega)) ?_ (by omega)
      have h0 := h n (by omega) (by omega)
      unfold bitAt at h0
      have h1 : V / 2 ^ n % 2 = 0 := by exact_mod_cast h0
      have h2 : V / 2 ^ n < 2 := by rw [Nat.div_lt_iff_lt_mul (Nat.two_pow_pos n)]; rw [Nat.pow_succ] at hV; omega
      have h3 : V / 2 ^ n = 0 := by
        revert h1 h2; generalize V / 2 ^ n = q; intro h1 h2; omega
      rw [Nat.div_eq_zero_iff] at h3
      rcases h3 with h3 | h3
      · have := Nat.two_pow_pos n; omega
      · exact h3

end Go.Proofs.Ytdgacbelpenmmaa
