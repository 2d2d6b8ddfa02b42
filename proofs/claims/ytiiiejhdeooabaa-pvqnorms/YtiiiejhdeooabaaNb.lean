/- Contracts of Shift, by the program and by the document. -/
import Derived.Test.YtiiiejhdeooabaaNa
namespace Go.Proofs.Ytiiiejhdeooabaa
open Go.RowKit
set_option linter.unusedVariables false
set_option linter.unusedSimpArgs false

theorem shiftP_not (v n : Int) (h : n < 0 ∨ 62 < n) (w : World) : Calls Try.prog 36 #[.int .i64 v, .int .i64 n] w fun e w' => e = .returned (.tuple #[.int .i64 0, .int .i64 1]) ∧ w' = w := by
  by_cases h0 : n < 0
  · go_enter Try.func36, Try.ntmps36
    go_wp2
    go_ret2
    exact ⟨rfl, rfl⟩
  · have h1 : 62 < n := by omega
    clear h
    go_enter Try.func36, Try.ntmps36
    go_wp2
    go_ret2
    exact ⟨rfl, rfl⟩

theorem half_i64 (v : Int) (h : I64 v) : I64 (v / 2) := by unfold I64 at *; constructor <;> omega
theorem halves_i64 (v : Int) (h : I64 v) (n : Nat) : I64 (v / 2 ^ n) := by
  induction n with
  | zero => simpa using h
  | succ n ih =>
    rw [Int.pow_succ, ← Int.ediv_ediv_of_nonneg (by exact Int.pow_nonneg (by decide))]
    exact half_i64 _ ih
theorem halves_succ (v : Int) (n : Nat) : v / 2 ^ (n + 1) = v / 2 ^ n / 2 := by
  rw [Int.pow_succ, ← Int.ediv_ediv_of_nonneg (by exact Int.pow_nonneg (by decide))]

theorem shiftP_any (v : Int) (n : Nat) (hv : I64 v) (h : n ≤ 62) (w : World) : Calls Try.prog 36 #[.int .i64 v, .int .i64 n] w fun e w' => e = .returned (.tuple #[.int .i64 (v / 2 ^ n), .int .i64 0]) ∧ w' = w := by
  obtain ⟨h0, h1⟩ := halves_i64 v hv n
  go_enter Try.func36, Try.ntmps36
  go_wp2
  go_ret2
  exact ⟨rfl, rfl⟩

end Go.Proofs.Ytiiiejhdeooabaa
