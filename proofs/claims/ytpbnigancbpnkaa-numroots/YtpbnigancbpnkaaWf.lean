/- The long product by the document: bit by bit. -/
import Derived.Test.YtpbnigancbpnkaaWa
namespace Go.Proofs.Ytpbnigancbpnkaa
open Go.RowKit
set_option linter.unusedVariables false
set_option linter.unusedSimpArgs false

/-- Behind k rounds: c is what has gone out of b, d what is left of it, and the product of a and c has the halves H and L. -/
def Mul1 (a b k c d H L : Nat) : Prop := b * 2 ^ k = c * 18446744073709551616 + d ∧ d < 18446744073709551616 ∧ H * 18446744073709551616 + L = a * c ∧ L < 18446744073709551616 ∧ c ≤ b

theorem mul1_zero (a b : Nat) (hb : b < 18446744073709551616) : Mul1 a b 0 0 b 0 0 := ⟨by omega, hb, by omega, by omega, by omega⟩

theorem mul1_end (a b c d H L : Nat) (h : Mul1 a b 64 c d H L) : c = b := by
  obtain ⟨h1, h2, _, _, h5⟩ := h
  rw [show (2 : Nat) ^ 64 = 18446744073709551616 from rfl] at h1
  omega

theorem st (M H L : Nat) : (2 * H + L / M) * (2 * M) + 2 * L % (2 * M) = 2 * (H * (2 * M) + L) := by
  rw [Nat.mul_mod_mul_left]
  have e := Nat.div_add_mod L M
  generalize L / M = t at *
  generalize L % M = r at *
  subst e
  rw [Nat.add_mul, Nat.mul_assoc 2 H, Nat.mul_left_comm t 2 M, Nat.mul_comm t M]
  omega
theorem st2 (N U X a : Nat) : (U + (X + a) / N) * N + (X + a) % N = U * N + X + a := by
  have e := Nat.div_add_mod (X + a) N
  generalize (X + a) / N = t at *
  generalize (X + a) % N = r at *
  rw [Nat.add_mul, Nat.mul_comm t N]
  omega
theorem st64 (H L : Nat) : (2 * H + L / 9223372036854775808) * 18446744073709551616 + 2 * L % 18446744073709551616 = 2 * (H * 18446744073709551616 + L) := st 9223372036854775808 H L
theorem st264 (U X a : Nat) : (U + (X + a) / 18446744073709551616) * 18446744073709551616 + (X + a) % 18446744073709551616 = U * 18446744073709551616 + X + a := st2 _ _ _ _
set_option maxRecDepth 10000 in
/-- One round. -/
theorem mul1_step (a b k c d H L : Nat) (ha : a < 18446744073709551616) (hb : b < 18446744073709551616) (hk : k < 64) (h : Mul1 a b k c d H L) :
    (d < 9223372036854775808 → Mul1 a b (k + 1) (2 * c) (2 * d) (2 * H + L / 9223372036854775808) (2 * L % 18446744073709551616) ∧ 2 * H + L / 9223372036854775808 < 18446744073709551616) ∧
    (9223372036854775808 ≤ d → Mul1 a b (k + 1) (2 * c + 1) (2 * d - 18446744073709551616) (2 * H + L / 9223372036854775808 + (2 * L % 18446744073709551616 + a) / 18446744073709551616) ((2 * L % 18446744073709551616 + a) % 18446744073709551616) ∧ 2 * H + L / 9223372036854775808 + (2 * L % 18446744073709551616 + a) / 18446744073709551616 < 18446744073709551616) := by
  obtain ⟨h1, h2, h3, h4, h5⟩ := h
  have e : b * 2 ^ (k + 1) = 2 * (b * 2 ^ k) := by rw [Nat.pow_succ, ← Nat.mul_assoc, Nat.mul_comm]
  have hp : 2 ^ (k + 1) ≤ 2 ^ 64 := Nat.pow_le_pow_right (by decide) (by omega)
  have hle : b * 2 ^ (k + 1) ≤ b * 18446744073709551616 := Nat.mul_le_mul_left b hp
  have top : a * b ≤ 18446744073709551615 * 18446744073709551615 := Nat.mul_le_mul (by omega) (by omega)
  have f1 := st64 H L
  rw [h3] at f1
  have f2 := st264 (2 * H + L / 9223372036854775808) (2 * L % 18446744073709551616) a
  rw [f1] at f2
  constructor
  · intro hd
    have hc : 2 * c ≤ b := by omega
    have hm : a * (2 * c) = 2 * (a * c) := by rw [← Nat.mul_assoc, Nat.mul_comm a 2, Nat.mul_assoc]
    have hm2 : a * (2 * c) ≤ a * b := Nat.mul_le_mul_left a hc
    unfold Mul1
    refine And.intro (And.intro ?_ (And.intro ?_ (And.intro ?_ (And.intro ?_ hc)))) ?_
    · omega
    · omega
    · rw [f1, hm]
    · omega
    · clear f2 hle e h1 hp
      omega
  · intro hd
    have hc : 2 * c + 1 ≤ b := by omega
    have hm : a * (2 * c + 1) = 2 * (a * c) + a := by rw [Nat.mul_add, ← Nat.mul_assoc, Nat.mul_comm a 2, Nat.mul_assoc]; omega
    have hm2 : a * (2 * c + 1) ≤ a * b := Nat.mul_le_mul_left a hc
    unfold Mul1
    refine And.intro (And.intro ?_ (And.intro ?_ (And.intro ?_ (And.intro ?_ hc)))) ?_
    · omega
    · omega
    · rw [f2, hm]
    · omega
    · rw [hm] at hm2
      generalize 2 * H + L / 9223372036854775808 + (2 * L % 18446744073709551616 + a) / 18446744073709551616 = X at *
      clear f1 hle e h1 hp
      omega

set_option maxRecDepth 10000 in
theorem mulR_any (a b : Nat) (ha : a < 18446744073709551616) (hb : b < 18446744073709551616) (w : World) :
    Calls Try.prog 15 #[.int .u64 a, .int .u64 b] w fun e w' => e = .returned (.tuple #[.int .u64 ((a : Int) * b / 18446744073709551616), .int .u64 ((a : Int) * b % 18446744073709551616)]) ∧ w' = w := by
  go_enter Try.func15, Try.ntmps15
  go_wp2
  go_loop [1, 6, 7, 8] (fun x h l i => ∃ k c d H L : Nat, k ≤ 64 ∧ i = .int .i64 k ∧ x = .int .u64 d ∧ h = .int .u64 H ∧ l = .int .u64 L ∧ H < 18446744073709551616 ∧ Mul1 a b k c d H L) (fun _ _ _ i => 64 - (intOf i).toNat)
  case atStart => exact ⟨0, 0, b, 0, 0, by omega, rfl, rfl, rfl, rfl, by omega, mul1_zero a b hb⟩
  case round =>
    obtain ⟨k, c, d, H, L, hk, rfl, rfl, rfl, rfl, hH, hM⟩ := hrel
    have hd := hM.2.1
    have hL := hM.2.2.2.1
    by_cases h8 : k < 64
    · obtain ⟨s1, s2⟩ := mul1_step a b k c d H L ha hb h8 hM
      by_cases hc : d < 9223372036854775808
      · obtain ⟨m1, m2⟩ := s1 hc
        have m1 : Hid _ := m1
        clear s1 s2 hM
        have e1 : (d : Int) / 9223372036854775808 = 0 := by omega
        have hw : IntKind.u64.wrap ((L : Int) * 2) = ((2 * L % 18446744073709551616 : Nat) : Int) := by rw [IntKind.wrap_u64]; omega
        go_wp2
        refine ⟨⟨k + 1, 2 * c, 2 * d, _, _, by omega, by go_num, by rw [Int.natCast_mul, Int.mul_comm]; rfl, ?_, ?_, m2, m1.out⟩, by simp [intOf]; omega⟩
        · congr 1; omega
        · congr 1
      · obtain ⟨m1, m2⟩ := s2 (by omega)
        have m1 : Hid _ := m1
        clear s1 s2 hM
        obtain ⟨L2, hL2⟩ : ∃ L2, L2 = 2 * L % 18446744073709551616 := ⟨_, rfl⟩
        rw [← hL2] at m1 m2
        have hw : IntKind.u64.wrap ((L : Int) * 2) = (L2 : Int) := by rw [IntKind.wrap_u64]; omega
        have hwd : IntKind.u64.wrap ((d : Int) * 2) = ((2 * d - 18446744073709551616 : Nat) : Int) := by rw [IntKind.wrap_u64]; omega
        have hl2 : L2 < 18446744073709551616 := by omega
        clear hL2
        obtain ⟨D, hD⟩ : ∃ D, D = 2 * d - 18446744073709551616 := ⟨_, rfl⟩
        rw [← hD] at m1 hwd
        clear hD
        have e1 : (d : Int) / 9223372036854775808 = 1 := by omega
        by_cases hs : L2 + a < 18446744073709551616
        · have e2 : (L2 + a) / 18446744073709551616 = 0 := by omega
          have e3 : (L2 + a) % 18446744073709551616 = L2 + a := by omega
          rw [e2] at m1 m2
          rw [e3] at m1
          clear e2 e3
          go_wp2
          refine ⟨⟨k + 1, 2 * c + 1, D, _, _, by omega, by go_num, rfl, ?_, ?_, m2, m1.out⟩, by simp [intOf]; omega⟩
          · congr 1; omega
          · congr 1
        · have e2 : (L2 + a) / 18446744073709551616 = 1 := by omega
          rw [e2] at m1 m2
          obtain ⟨S, hS⟩ : ∃ S, S = (L2 + a) % 18446744073709551616 := ⟨_, rfl⟩
          rw [← hS] at m1
          have hws : IntKind.u64.wrap ((L2 : Int) + a) = (S : Int) := by rw [IntKind.wrap_u64]; omega
          have hsl : S < L2 := by omega
          clear e2 hS
          go_wp2
          refine ⟨⟨k + 1, 2 * c + 1, D, _, _, by omega, by go_num, rfl, ?_, ?_, m2, m1.out⟩, by simp [intOf]; omega⟩
          · congr 1; omega
          · congr 1
    · obtain rfl : k = 64 := by omega
      obtain rfl := mul1_end a b c d H L hM
      have h3 := hM.2.2.1
      have h3' : Hid ((H : Int) * 18446744073709551616 + L = (a : Int) * c) := by
        show _ = _
        rw [← Int.natCast_mul, ← h3]; omega
      clear h8 h3 hM
      go_wp2
      go_ret2
      have e1 : (a : Int) * c / 18446744073709551616 = H := by rw [← h3'.out]; omega
      have e2 : (a : Int) * c % 18446744073709551616 = L := by rw [← h3'.out]; omega
      exact ⟨by rw [e1, e2]; rfl, rfl⟩
end Go.Proofs.Ytpbnigancbpnkaa
