/- Contracts of Shift, by the program and by the document. -/
import Derived.Test.YtdfihdkkidekjaaDoorNa
namespace Go.Proofs.YtdfihdkkidekjaaDoor
open Go.RowKit
set_option linter.unusedVariables false
set_option linter.unusedSimpArgs false

theorem shiftP_not (v n : Int) (h : n < 0 ∨ 62 < n) (w : World) : Calls Tryd.prog 48 #[.int .i64 v, .int .i64 n] w fun e w' => e = .returned (.tuple #[.int .i64 0, .int .i64 1]) ∧ w' = w := by
  by_cases h0 : n < 0
  · go_enter Tryd.func48, Tryd.ntmps48
    go_wp2
    go_ret2
    exact ⟨rfl, rfl⟩
  · have h1 : 62 < n := by omega
    clear h
    go_enter Tryd.func48, Tryd.ntmps48
    go_wp2
    go_ret2
    exact ⟨rfl, rfl⟩

theorem half_i64 (v : Int) (h : I64 v) : I64 (v / 2) := by unfold I64 at *; constructor <;> omega
theorem halves_i64 (v : Int) (h : I64 v) (n : Nat) : I64 (v / 2 ^ n) := by
  induction n with
  | zero => simpa using h
  | succ n ih =>
    rw [Int.pow_succ, ← Int.ediv_ediv_of_nonneg (by exact Int.pow_nonneg (by decide))]
    exact half_i64 _ ih
theorem halves_succ (v : Int) (n : Nat) : v / 2 ^ (n + 1) = v / 2 ^ n / 2 := by
  rw [Int.pow_succ, ← Int.ediv_ediv_of_nonneg (by exact Int.pow_nonneg (by decide))]

theorem shiftP_any (v : Int) (n : Nat) (hv : I64 v) (h : n ≤ 62) (w : World) : Calls Tryd.prog 48 #[.int .i64 v, .int .i64 n] w fun e w' => e = .returned (.tuple #[.int .i64 (v / 2 ^ n), .int .i64 0]) ∧ w' = w := by
  obtain ⟨h0, h1⟩ := halves_i64 v hv n
  go_enter Tryd.func48, Tryd.ntmps48
  go_wp2
  go_ret2
  exact ⟨rfl, rfl⟩

set_option maxRecDepth 10000 in
theorem shiftR_any (v : Int) (n : Nat) (hv : I64 v) (h : n ≤ 62) (w : World) : Calls Tryd.prog 41 #[.int .i64 v, .int .i64 n] w fun e w' => e = .returned (.int .i64 (v / 2 ^ n)) ∧ w' = w := by
  go_enter Tryd.func41, Tryd.ntmps41
  go_wp2
  go_loop [0, 5] (fun x i => ∃ k : Nat, k ≤ n ∧ i = .int .i64 k ∧ x = .int .i64 (v / 2 ^ k)) (fun _ i => n - (intOf i).toNat)
  case atStart => exact ⟨0, by omega, rfl, by simp⟩
  case round =>
    obtain ⟨k, hk, rfl, rfl⟩ := hrel
    obtain ⟨h0, h1⟩ := halves_i64 v hv k
    have hs : Hid _ := halves_succ v k
    by_cases h8 : k < n
    · generalize v / 2 ^ k = y at hs h0 h1
      obtain ⟨t, ht⟩ : ∃ t, t = y.tdiv 2 := ⟨_, rfl⟩
      have hd : y.tdiv 2 = t := ht.symm
      have ht1 : Hid (t = y / 2 ∨ (t = y / 2 + 1 ∧ y < 0)) := by
        rw [ht, Int.tdiv_eq_ediv]
        show _ ∨ _
        split <;> rename_i hc <;> simp at hc ⊢ <;> omega
      clear ht
      rcases ht1.out with rfl | ⟨rfl, hn⟩ <;> clear ht1
      · go_wp2
        refine ⟨⟨k + 1, by omega, by go_num, ?_⟩, by simp [intOf]; omega⟩
        rw [hs.out]
      · go_wp2
        refine ⟨⟨k + 1, by omega, by go_num, ?_⟩, by simp [intOf]; omega⟩
        rw [hs.out]
    · have hge : n ≤ k := by omega
      clear h8
      go_wp2
      have : k = n := by omega
      subst this
      go_ret
      exact ⟨rfl, rfl⟩
end Go.Proofs.YtdfihdkkidekjaaDoor
