/- The document's examples hold. -/
import Derived.Test.YtpbnigancbpnkaaWb
import Derived.Test.YtpbnigancbpnkaaWc
import Derived.Test.YtpbnigancbpnkaaWd
import Derived.Test.YtpbnigancbpnkaaWe
import Derived.Test.YtpbnigancbpnkaaWf
namespace Go.Proofs.Ytpbnigancbpnkaa
open Go.RowKit
set_option linter.unusedVariables false
set_option linter.unusedSimpArgs false

theorem k_mul (w : World) : Calls Try.prog 14 #[.int .u64 9223372036854775808, .int .u64 6] w fun e w' => e = .returned (.tuple #[.int .u64 3, .int .u64 0]) ∧ Below w.heap.size w w' := mulP_any 9223372036854775808 6 (by decide) (by decide) w
theorem k_div (w : World) : Calls Try.prog 16 #[.int .i64 (-5), .int .i64 2] w fun e w' => e = .returned (.tuple #[.int .i64 (-3), .int .i64 0]) ∧ Below w.heap.size w w' := by
  have h := divP_any (-5) 2 (by unfold I64; omega) (by omega) (by unfold I64; omega) w
  rw [show near (-5) 2 = -3 by decide] at h
  exact h
theorem k_shift (w : World) : Calls Try.prog 20 #[.int .i64 (-5), .int .i64 1] w fun e w' => e = .returned (.tuple #[.int .i64 (-3), .int .i64 0]) ∧ w' = w := shiftP_any (-5) 1 (by unfold I64; omega) (by omega) w
theorem k_root (n r : Nat) (hn : n < 2 ^ 64) (hr : Root n r) (w : World) : Calls Try.prog 9 #[.int .u64 n] w fun e w' => e = .returned (.int .u64 r) ∧ w' = w := by
  refine (sqrtP_any n hn w).mono ?_
  rintro e w' ⟨s, rfl, rfl, hs, _⟩
  exact ⟨ret_int (by rw [hs.one hr]), rfl⟩
theorem k_24 (w : World) : Calls Try.prog 9 #[.int .u64 24] w fun e w' => e = .returned (.int .u64 4) ∧ w' = w := k_root 24 4 (by omega) ⟨by omega, by omega⟩ w
theorem k_25 (w : World) : Calls Try.prog 9 #[.int .u64 25] w fun e w' => e = .returned (.int .u64 5) ∧ w' = w := k_root 25 5 (by omega) ⟨by omega, by omega⟩ w
theorem k_log0 (w : World) : Calls Try.prog 12 #[.int .u64 0] w fun e w' => e = .returned (.int .i64 (-1)) ∧ w' = w := by
  obtain ⟨B, H, hP, _⟩ := logs
  have h := hP 0 w (by omega)
  rw [H.zero] at h
  exact h
theorem k_log (w : World) : Calls Try.prog 12 #[.int .u64 1023] w fun e w' => e = .returned (.int .i64 9) ∧ w' = w := by
  obtain ⟨B, H, hP, _⟩ := logs
  have h := hP 1023 w (by omega)
  rw [H.mem] at h
  exact h
theorem k_clamp (w : World) : Calls Try.prog 18 #[.int .i64 9, .int .i64 1, .int .i64 5] w fun e w' => e = .returned (.int .i64 5) ∧ w' = w := clampP_any 9 1 5 w

set_option maxRecDepth 10000 in
theorem knows_any (w : World) : Calls Try.prog 11 #[] w fun e w' => e = .returned (.bool true) ∧ Below w.heap.size w w' := by
  go_enter Try.func11, Try.ntmps11
  go_wp2_with (first | (go_at_call 14; refine (k_mul _).mono ?_; rintro e w1 ⟨rfl, b1⟩) | (go_at_call 16; refine (k_div _).mono ?_; rintro e w2 ⟨rfl, b2⟩) | (go_at_call 20; refine (k_shift _).mono ?_; rintro e w' ⟨rfl, rfl⟩) | (go_at_call_of 9 (Value.int .u64 24); refine (k_24 _).mono ?_; rintro e w' ⟨rfl, rfl⟩) | (go_at_call_of 9 (Value.int .u64 25); refine (k_25 _).mono ?_; rintro e w' ⟨rfl, rfl⟩) | (go_at_call_of 12 (Value.int .u64 0); refine (k_log0 _).mono ?_; rintro e w' ⟨rfl, rfl⟩) | (go_at_call_of 12 (Value.int .u64 1023); refine (k_log _).mono ?_; rintro e w' ⟨rfl, rfl⟩) | (go_at_call 18; refine (k_clamp _).mono ?_; rintro e w' ⟨rfl, rfl⟩))
  go_ret
  exact ⟨rfl, bthen b1 b2 b1.size⟩
end Go.Proofs.Ytpbnigancbpnkaa
