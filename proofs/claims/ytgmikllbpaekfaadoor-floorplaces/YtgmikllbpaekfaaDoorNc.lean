/- Contracts of the roots, by the program and by the document. -/
import Derived.Test.YtgmikllbpaekfaaDoorNa
namespace Go.Proofs.YtgmikllbpaekfaaDoor
open Go.RowKit
set_option linter.unusedVariables false
set_option linter.unusedSimpArgs false

/-- r is the root of n. -/
def Root (n r : Nat) : Prop := r * r ≤ n ∧ n < (r + 1) * (r + 1)
theorem Root.mono {n m r s : Nat} (h : Root n r) (k : Root m s) (hnm : n ≤ m) : r ≤ s := by
  by_cases hc : r ≤ s
  · exact hc
  · have : (s + 1) * (s + 1) ≤ r * r := Nat.mul_le_mul (by omega) (by omega)
    have := h.1; have := k.2
    omega
theorem Root.one {n r s : Nat} (h : Root n r) (k : Root n s) : r = s := Nat.le_antisymm (h.mono k (Nat.le_refl _)) (k.mono h (Nat.le_refl _))

theorem sq_lt {m : Nat} (h : m < 2 ^ 32) : m * m < 18446744073709551616 := by
  have : m * m ≤ 4294967295 * 4294967295 := Nat.mul_le_mul (by omega) (by omega)
  omega

set_option maxRecDepth 10000 in
theorem sqrtR_any (n : Nat) (hn : n < 2 ^ 64) (w : World) : Calls Tryd.prog 28 #[.int .u64 n] w fun e w' => ∃ r, e = .returned (.int .u64 (r : Nat)) ∧ w' = w ∧ Root n r ∧ r < 2 ^ 32 := by
  go_enter Tryd.func28, Tryd.ntmps28
  go_wp2
  go_loop [3, 4] (fun x y => ∃ lo hi : Nat, x = .int .u64 lo ∧ y = .int .u64 hi ∧ lo < hi ∧ hi ≤ 4294967296 ∧ lo * lo ≤ n ∧ n < hi * hi) (fun x y => ((intOf y) - (intOf x)).toNat)
  case atStart => exact ⟨0, 4294967296, rfl, rfl, by omega, by omega, by omega, by omega⟩
  case round =>
    obtain ⟨lo, hi, rfl, rfl, hlt, hle, h1, h2⟩ := hrel
    by_cases h8 : lo + 1 < hi
    · obtain ⟨m, hm⟩ : ∃ m, m = (lo + hi) / 2 := ⟨_, rfl⟩
      have hm1 : lo < m := by omega
      have hm2 : m < hi := by omega
      have e : ((lo : Int) + hi) / 2 = m := by omega
      have hs := sq_lt (m := m) (by omega)
      obtain ⟨S, hS⟩ : ∃ S, S = m * m := ⟨_, rfl⟩
      have hmm : ((m : Int) * m) = (S : Int) := by rw [hS]; simp
      rw [← hS] at hs
      have h1' : Hid _ := h1
      have h2' : Hid _ := h2
      have hS' : Hid _ := hS
      clear hm h1 h2 hS
      by_cases hc : S ≤ n
      · go_wp2
        exact ⟨⟨m, hi, by rw [e], rfl, hm2, hle, by rw [← hS'.out]; exact hc, h2'.out⟩, by simp [intOf]; omega⟩
      · go_wp2
        exact ⟨⟨lo, m, rfl, by rw [e], hm1, by omega, h1'.out, by rw [← hS'.out]; omega⟩, by simp [intOf]; omega⟩
    · have hge : hi = lo + 1 := by omega
      subst hge
      clear h8
      have h1' : Hid _ := h1
      have h2' : Hid _ := h2
      clear h1 h2
      go_wp2
      go_ret
      exact ⟨lo, rfl, rfl, ⟨h1'.out, h2'.out⟩, by omega⟩

/-- A number whose lower bits are 0, joined with lower bits. -/
theorem or_high (b y k : Nat) (hy : y < 2 ^ k) (hy1 : y < 18446744073709551616) (hb : b * 2 ^ k < 18446744073709551616) : bits .or .u64 ((b * 2 ^ k : Nat) : Int) (y : Int) = ((b * 2 ^ k + y : Nat) : Int) := by
  rw [u64_or_nat _ _ hb hy1, Nat.mul_comm b, Nat.two_pow_add_eq_or_of_lt hy]

set_option maxRecDepth 10000 in
theorem sqrtP_any (n : Nat) (hn : n < 2 ^ 64) (w : World) : Calls Tryd.prog 29 #[.int .u64 n] w fun e w' => ∃ r, e = .returned (.int .u64 (r : Nat)) ∧ w' = w ∧ Root n r ∧ r < 2 ^ 32 := by
  go_enter Tryd.func29, Tryd.ntmps29
  go_wp2
  go_loop [3, 4] (fun x y => ∃ j r : Nat, j ≤ 32 ∧ x = .int .u64 ((r * 2 ^ j : Nat) : Int) ∧ y = .int .u64 ((2 ^ j / 2 : Nat) : Int) ∧ (r + 1) * 2 ^ j ≤ 2 ^ 32 ∧ (r * 2 ^ j) * (r * 2 ^ j) ≤ n ∧ n < ((r + 1) * 2 ^ j) * ((r + 1) * 2 ^ j)) (fun _ y => (intOf y).toNat)
  case atStart => exact ⟨32, 0, by omega, rfl, rfl, by omega, by omega, by omega⟩
  case round =>
    obtain ⟨j, r, hj, rfl, rfl, hle, h1, h2⟩ := hrel
    by_cases h8 : 0 < j
    · obtain ⟨k, rfl⟩ : ∃ k, j = k + 1 := ⟨j - 1, by omega⟩
      have hb : 2 ^ (k + 1) / 2 = 2 ^ k := by rw [Nat.pow_succ]; simp
      have hk : 0 < 2 ^ k := Nat.pow_pos (by decide)
      have hk2 : 2 ^ (k + 1) = 2 * 2 ^ k := by rw [Nat.pow_succ]; omega
      have g1 : (2 * r + 1) * 2 ^ k = r * 2 ^ (k + 1) + 2 ^ k := by rw [hk2, Nat.add_mul, Nat.mul_comm 2 r, Nat.mul_assoc]; omega
      have g2 : (2 * r) * 2 ^ k = r * 2 ^ (k + 1) := by rw [hk2, Nat.mul_comm 2 r, Nat.mul_assoc]
      have g3 : (2 * r + 1 + 1) * 2 ^ k = (r + 1) * 2 ^ (k + 1) := by rw [hk2, ← Nat.mul_assoc, Nat.add_mul r, Nat.mul_comm r 2]
      have g4 : (r + 1) * 2 ^ (k + 1) = r * 2 ^ (k + 1) + 2 * 2 ^ k := by rw [Nat.add_mul, hk2]; omega
      have hor := or_high r (2 ^ k) (k + 1) (by omega) (by omega) (by omega)
      have fin1 : Hid (∀ S, S = (r * 2 ^ (k + 1) + 2 ^ k) * (r * 2 ^ (k + 1) + 2 ^ k) → S ≤ n → ∃ j r' : Nat, j ≤ 32 ∧ r' * 2 ^ j = r * 2 ^ (k + 1) + 2 ^ k ∧ 2 ^ j / 2 = 2 ^ k / 2 ∧ (r' + 1) * 2 ^ j ≤ 2 ^ 32 ∧ (r' * 2 ^ j) * (r' * 2 ^ j) ≤ n ∧ n < ((r' + 1) * 2 ^ j) * ((r' + 1) * 2 ^ j)) :=
        fun S hS hc => ⟨k, 2 * r + 1, by omega, g1, rfl, by rw [g3]; exact hle, by rw [g1, ← hS]; exact hc, by rw [g3]; exact h2⟩
      have fin2 : Hid (∀ S, S = (r * 2 ^ (k + 1) + 2 ^ k) * (r * 2 ^ (k + 1) + 2 ^ k) → ¬ S ≤ n → ∃ j r' : Nat, j ≤ 32 ∧ r' * 2 ^ j = r * 2 ^ (k + 1) ∧ 2 ^ j / 2 = 2 ^ k / 2 ∧ (r' + 1) * 2 ^ j ≤ 2 ^ 32 ∧ (r' * 2 ^ j) * (r' * 2 ^ j) ≤ n ∧ n < ((r' + 1) * 2 ^ j) * ((r' + 1) * 2 ^ j)) :=
        fun S hS hc => ⟨k, 2 * r, by omega, g2, rfl, by rw [g1]; omega, by rw [g2]; exact h1, by rw [g1, ← hS]; omega⟩
      have hM : r * 2 ^ (k + 1) + 2 ^ k < 2 ^ 32 := by omega
      rw [hb]
      clear g1 g2 g3 g4 hk2 hb h1 h2 hle hj h8
      generalize r * 2 ^ (k + 1) = R at *
      generalize 2 ^ k = P at *
      have hs := sq_lt hM
      obtain ⟨M, hMe⟩ : ∃ M, M = R + P := ⟨_, rfl⟩
      rw [← hMe] at hor hM hs fin1 fin2
      obtain ⟨S, hS⟩ : ∃ S, S = M * M := ⟨_, rfl⟩
      have hmm : ((M : Int) * M) = (S : Int) := by rw [hS]; simp
      rw [← hS] at hs
      have f1 : Hid _ := fin1.out S hS
      have f2 : Hid _ := fin2.out S hS
      clear fin1 fin2 hMe hS
      by_cases hc : S ≤ n
      · obtain ⟨j, r', x1, x2, x3, x4⟩ := f1.out hc
        have x4 : Hid _ := x4
        have x2 : Hid _ := x2
        have x3 : Hid _ := x3
        clear f1 f2
        go_wp2
        exact ⟨⟨j, r', x1, by rw [x2.out], by rw [x3.out]; simp, x4.out⟩, by simp [intOf]; omega⟩
      · obtain ⟨j, r', x1, x2, x3, x4⟩ := f2.out hc
        have x4 : Hid _ := x4
        have x2 : Hid _ := x2
        have x3 : Hid _ := x3
        clear f1 f2
        go_wp2
        exact ⟨⟨j, r', x1, by rw [x2.out], by rw [x3.out]; simp, x4.out⟩, by simp [intOf]; omega⟩
    · have hge : j = 0 := by omega
      subst hge
      clear h8
      have h1' : Hid _ := h1
      have h2' : Hid _ := h2
      have hle' : Hid _ := hle
      clear h1 h2 hle
      go_wp2
      go_ret
      exact ⟨r, by simp, rfl, ⟨by simpa using h1'.out, by simpa using h2'.out⟩, by have := hle'.out; omega⟩
end Go.Proofs.YtgmikllbpaekfaaDoor
