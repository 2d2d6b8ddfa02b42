/- Contracts of the small functions of package bits: they return what is said, at every argument within the bounds that are said. -/
import Derived.Test.YtdgacbelpenmmaaRows
import Derived.Test.YtdgacbelpenmmaaGrids
namespace Go.Proofs.Ytdgacbelpenmmaa
open Go.RowKit
set_option linter.unusedVariables false
set_option linter.unusedSimpArgs false

theorem bytesFor_any (n : Int) (w : World) (h0 : 0 ≤ n) (h1 : n ≤ 1000000) :
    Calls Try.prog 44 #[.int .i64 n] w fun e w' => e = .returned (.int .i64 ((n + 7) / 8)) ∧ w' = w := by
  go_enter Try.func44, Try.ntmps44
  go_wp2
  go_ret
  exact ⟨rfl, rfl⟩

theorem widthFits_any (n : Int) (w : World) :
    Calls Try.prog 41 #[.int .i64 n] w fun e w' => e = .returned (.bool (decide (0 ≤ n ∧ n ≤ 32))) ∧ w' = w := by
  by_cases h0 : 0 ≤ n
  · go_enter Try.func41, Try.ntmps41
    go_wp2
    go_ret
    exact ⟨by simp [h0], rfl⟩
  · go_enter Try.func41, Try.ntmps41
    go_wp2
    go_ret
    exact ⟨by simp; omega, rfl⟩

theorem left_any (a : Option Addr) (len cap : Nat) (at_ : Int) (w : World) (hl : len ≤ 100000) :
    Calls Try.prog 38 #[.agg #[.slice a len cap, .int .i64 at_]] w fun e w' => e = .returned (.int .i64 (if 0 ≤ at_ ∧ at_ ≤ 8 * len then 8 * len - at_ else 0)) ∧ Below w.heap.size w w' := by
  by_cases h0 : 0 ≤ at_
  · by_cases h1 : at_ ≤ 8 * len
    · rw [if_pos ⟨h0, h1⟩]
      go_enter Try.func38, Try.ntmps38
      go_wp2
      go_ret
      exact ⟨rfl, (Below.refl _ _).alloc (Nat.le_refl _) _⟩
    · rw [if_neg (by omega)]
      go_enter Try.func38, Try.ntmps38
      go_wp2
      go_ret
      exact ⟨rfl, (Below.refl _ _).alloc (Nat.le_refl _) _⟩
  · rw [if_neg (by omega)]
    go_enter Try.func38, Try.ntmps38
    go_wp2
    go_ret
    exact ⟨rfl, (Below.refl _ _).alloc (Nat.le_refl _) _⟩
end Go.Proofs.Ytdgacbelpenmmaa
