/- Contracts of the small functions: the next integer, sizes, which numbers are fair. -/
import Derived.Test.YtiiiejhdeooabaaRows
import Derived.Test.YtiiiejhdeooabaaEb
namespace Go.Proofs.Ytiiiejhdeooabaa
open Go.RowKit
set_option linter.unusedVariables false
set_option linter.unusedSimpArgs false

theorem next_any (p : Nat) (w : World) (hp : p ≤ 100) : Calls Try.prog 39 #[.int .i64 (pl p)] w fun e w' => e = .returned (.int .i64 (pl (p + 1))) ∧ w' = w := by
  have hb := pl_small p 50 (by omega)
  by_cases h : 0 < pl p
  · rw [← pl_pos p h]
    generalize pl p = x at *
    go_enter Try.func39, Try.ntmps39
    go_wp2
    go_ret
    exact ⟨rfl, rfl⟩
  · rw [← pl_neg p h]
    generalize pl p = x at *
    go_enter Try.func39, Try.ntmps39
    go_wp2
    go_ret
    exact ⟨rfl, rfl⟩
theorem size_any (v : Int) (w : World) (h1 : -1000 ≤ v) (h2 : v ≤ 1000) : Calls Try.prog 40 #[.int .i64 v] w fun e w' => e = .returned (.int .i64 (v.natAbs : Nat)) ∧ w' = w := by
  by_cases h : v < 0
  · rw [show ((v.natAbs : Nat) : Int) = -v by omega]
    go_enter Try.func40, Try.ntmps40
    go_wp2
    go_ret
    exact ⟨rfl, rfl⟩
  · rw [show ((v.natAbs : Nat) : Int) = v by omega]
    go_enter Try.func40, Try.ntmps40
    go_wp2
    go_ret
    exact ⟨rfl, rfl⟩
/-- The document's size: 13, if there are more pulses than may be. -/
def rsz (v : Int) : Nat := if v.natAbs ≤ 12 then v.natAbs else 13
theorem rsz_ok (v : Int) (h : v.natAbs ≤ 12) : rsz v = v.natAbs := if_pos h
theorem rsz_le (v : Int) : rsz v ≤ 13 := by unfold rsz; split <;> omega
set_option maxHeartbeats 400000 in
theorem rsize_any (v : Int) (w : World) (h1 : -9223372036854775808 ≤ v) (h2 : v ≤ 9223372036854775807) : Calls Try.prog 33 #[.int .i64 v] w fun e w' => e = .returned (.int .i64 (rsz v : Nat)) ∧ w' = w := by
  go_enter Try.func33, Try.ntmps33
  go_wp2
  go_loop [3] (fun i => ∃ k : Nat, k ≤ 13 ∧ k ≤ v.natAbs ∧ i = .int .i64 k) (fun i => 13 - (intOf i).toNat)
  case atStart => exact ⟨0, by omega, by omega, rfl⟩
  case round =>
    obtain ⟨k, hk, hkv, rfl⟩ := hrel
    by_cases h13 : k ≤ 12
    · by_cases he : v.natAbs = k
      · have HR : Hid ((rsz v : Int) = k) := by unfold Hid rsz; rw [if_pos (by omega)]; omega
        by_cases hk0 : v = (k : Int)
        · have hd : ((v : Int) == (k : Int)) = true := by simp; omega
          clear hk0 he hkv
          go_wp2
          go_ret
          exact ⟨ret_int HR.out.symm, rfl⟩
        · have hc : ((v : Int) == -(k : Int)) = true := by simp; omega
          have hd : ((v : Int) == (k : Int)) = false := by simp; omega
          clear hk0 he hkv
          go_wp2
          go_ret
          exact ⟨ret_int HR.out.symm, rfl⟩
      · have hc : ((v : Int) == -(k : Int)) = false := by simp; omega
        have hd : ((v : Int) == (k : Int)) = false := by simp; omega
        go_wp2
        exact ⟨⟨k + 1, by omega, by omega, by go_num⟩, by simp [intOf]; omega⟩
    · have HR : Hid ((rsz v : Int) = 13) := by unfold Hid rsz; rw [if_neg (by omega)]; rfl
      go_wp2
      go_ret
      exact ⟨ret_int HR.out.symm, rfl⟩
end Go.Proofs.Ytiiiejhdeooabaa
