/- The contract of bits.Right: it returns whether the writer is right, at every writer. -/
import Derived.Test.YtdgacbelpenmmaaWf
namespace Go.Proofs.Ytdgacbelpenmmaa
open Go.RowKit
set_option linter.unusedVariables false
set_option linter.unusedSimpArgs false

/-- Which writers are right. -/
def rightB (xs : List Int) (n : Int) : Bool := decide (0 ≤ n ∧ n ≤ 32000 ∧ xs.length = (n.toNat + 7) / 8 ∧ bv xs < 2 ^ n.toNat)

theorem rightB_nat (xs : List Int) (n : Nat) : rightB xs n = decide (n ≤ 32000 ∧ xs.length = (n + 7) / 8 ∧ bv xs < 2 ^ n) := by
  unfold rightB
  rw [Int.toNat_natCast]
  congr 1
  apply propext
  constructor
  · rintro ⟨_, h2, h3⟩; exact ⟨by omega, h3⟩
  · rintro ⟨h2, h3⟩; exact ⟨by omega, by omega, h3⟩

theorem drewN_belowb {w : World} (W : World) (h : Below w.heap.size w W) (n : Nat) : Below w.heap.size w (W.drewN n) :=
  ⟨h.os, h.tape, h.output, h.size, h.block⟩

set_option maxHeartbeats 400000 in
theorem right_out (a : Option Addr) (len cap : Nat) (n : Int) (w : World) (h : n < 0 ∨ 32000 < n) :
    Calls Try.prog 40 #[.agg #[.slice a len cap, .int .i64 n]] w fun e w' => e = .returned (.bool false) ∧ Below w.heap.size w w' := by
  rcases h with h | h
  · go_enter Try.func40, Try.ntmps40
    go_wp2
    go_quiet ((fail))
    go_wp2
    go_ret
    exact ⟨rfl, drewN_belowb _ ((Below.refl _ _).alloc (Nat.le_refl _) _) _⟩
  · have h0 : 0 ≤ n := by omega
    go_enter Try.func40, Try.ntmps40
    go_wp2
    go_quiet ((fail))
    go_wp2
    go_ret
    exact ⟨rfl, drewN_belowb _ ((Below.refl _ _).alloc (Nat.le_refl _) _) _⟩
set_option maxHeartbeats 400000 in
theorem right_len (a : Option Addr) (len cap : Nat) (n : Int) (w : World) (h0 : 0 ≤ n) (h1 : n ≤ 32000) (h : ((len : Int) != (n + 7) / 8) = true) :
    Calls Try.prog 40 #[.agg #[.slice a len cap, .int .i64 n]] w fun e w' => e = .returned (.bool false) ∧ Below w.heap.size w w' := by
  go_enter Try.func40, Try.ntmps40
  go_wp2
  go_quiet ((go_at_call 44; exact Calls.quiet_of_same (bytesFor_any _ _ (by omega) (by omega))))
  go_wp2
  go_ret
  exact ⟨rfl, drewN_belowb _ ((Below.refl _ _).alloc (Nat.le_refl _) _) _⟩
set_option maxHeartbeats 400000 in
theorem right_even (a : Option Addr) (len cap : Nat) (n : Int) (w : World) (h0 : 0 ≤ n) (h1 : n ≤ 32000) (h : ((len : Int) != (n + 7) / 8) = false) (h8 : (n % 8 == 0) = true) :
    Calls Try.prog 40 #[.agg #[.slice a len cap, .int .i64 n]] w fun e w' => e = .returned (.bool true) ∧ Below w.heap.size w w' := by
  go_enter Try.func40, Try.ntmps40
  go_wp2
  go_quiet ((go_at_call 44; exact Calls.quiet_of_same (bytesFor_any _ _ (by omega) (by omega))))
  go_wp2
  go_ret
  exact ⟨rfl, drewN_belowb _ ((Below.refl _ _).alloc (Nat.le_refl _) _) _⟩
set_option maxHeartbeats 400000 in
theorem right_odd (b : Nat) (off len cap : Nat) (n x : Int) (w : World) (h0 : 0 ≤ n) (h1 : n ≤ 32000) (h : ((len : Int) != (n + 7) / 8) = false) (h8 : (n % 8 == 0) = false) (hl0 : 1 ≤ len) (hl1 : len ≤ 4000) (hb : b < w.heap.size) (hc : w.cell? ⟨b, off + (len - 1), none⟩ = some (.int .u8 x)) (hx0 : 0 ≤ x) (hx1 : x < 256) :
    Calls Try.prog 40 #[.agg #[.slice (some ⟨b, off, none⟩) len cap, .int .i64 n]] w fun e w' => e = .returned (.bool (x / 2 ^ (n % 8).toNat == 0)) ∧ Below w.heap.size w w' := by
  go_enter Try.func40, Try.ntmps40
  go_wp2
  go_quiet ((go_at_call 44; exact Calls.quiet_of_same (bytesFor_any _ _ (by omega) (by omega))))
  go_wp2
  go_ret
  exact ⟨rfl, drewN_belowb _ ((Below.refl _ _).alloc (Nat.le_refl _) _) _⟩

theorem right_any (v : Value) (xs : List Int) (n : Int) (w : World) (hv : Rw .u8 w v xs) (hx : Byts xs) :
    Calls Try.prog 40 #[.agg #[v, .int .i64 n]] w fun e w' => e = .returned (.bool (rightB xs n)) ∧ Below w.heap.size w w' := by
  obtain ⟨a, cap, rfl, ha⟩ := hv
  by_cases hn : 0 ≤ n ∧ n ≤ 32000
  · obtain ⟨N, rfl⟩ := Int.eq_ofNat_of_zero_le hn.1
    rw [rightB_nat]
    by_cases hl : xs.length = (N + 7) / 8
    · have e : (((xs.length : Nat) : Int) != ((N : Int) + 7) / 8) = false := by simp; omega
      have hbl := bv_last hx N hl
      by_cases h8 : N % 8 = 0
      · refine (right_even a xs.length cap N w (by omega) (by omega) e (by simp; omega)).mono ?_
        rintro e w' ⟨rfl, hb⟩
        exact ⟨ret_bool (by have := hbl.2 (.inl h8); simp [hl, this]; omega), hb⟩
      · have hne : xs ≠ [] := by intro h; subst h; simp at hl; omega
        obtain ⟨b, off, rfl, hb, hc⟩ := ha.resolve_left hne
        have hx1 := hx.getD (xs.length - 1)
        refine (right_odd b off xs.length cap N _ w (by omega) (by omega) e (by simp; omega) (by omega) (by omega) hb (hc _ (by omega)) hx1.1 hx1.2).mono ?_
        rintro e w' ⟨rfl, hb⟩
        refine ⟨ret_bool ?_, hb⟩
        obtain ⟨X, hX⟩ := Int.eq_ofNat_of_zero_le hx1.1
        rw [hX] at hbl ⊢
        rw [show ((N : Int) % 8).toNat = N % 8 by omega, nat_shr, Int.toNat_natCast] at *
        have : ((X / 2 ^ (N % 8) : Nat) : Int) = 0 ↔ X / 2 ^ (N % 8) = 0 := by omega
        rw [Bool.eq_iff_iff]
        simp only [beq_iff_eq, decide_eq_true_eq, this]
        constructor
        · intro h; exact ⟨by omega, hl, hbl.2 (.inr h)⟩
        · rintro ⟨_, _, h⟩; exact (hbl.1 h).resolve_left h8
    · refine (right_len a xs.length cap N w (by omega) (by omega) (by simp; omega)).mono ?_
      rintro e w' ⟨rfl, hb⟩
      exact ⟨ret_bool (by simp [hl]), hb⟩
  · refine (right_out a xs.length cap n w (by omega)).mono ?_
    rintro e w' ⟨rfl, hb⟩
    refine ⟨ret_bool ?_, hb⟩
    unfold rightB
    rw [eq_comm, decide_eq_false_iff_not]
    omega

end Go.Proofs.Ytdgacbelpenmmaa
