/- The contract of the document function Bytes: the bytes of the bits, in new memory. -/
import Derived.Test.YtamalcajdhmncaaWe
namespace Go.Proofs.Ytamalcajdhmncaa
open Go.RowKit
set_option linter.unusedVariables false
set_option linter.unusedSimpArgs false

theorem up_bit (V i k m : Nat) (n x : Int) (hk : k < 8) (hn : n = ((V / 2 ^ (i + (k + 1)) % 2 ^ (8 - (k + 1)) : Nat) : Int)) (hx : bitAt V (i + k) = x) : Hid (n * 2 + x = ((V / 2 ^ (i + k) % 2 ^ (8 - k) : Nat) : Int)) := by
  unfold Hid
  rw [bits_up V i k hk, hn, ← hx]; unfold bitAt; omega
theorem up_none (V i k m : Nat) (n : Int) (hk : k < 8) (hn : n = ((V / 2 ^ (i + (k + 1)) % 2 ^ (8 - (k + 1)) : Nat) : Int)) (h : V < 2 ^ m) (hm : m ≤ i + k) : Hid (n * 2 = ((V / 2 ^ (i + k) % 2 ^ (8 - k) : Nat) : Int)) := by
  unfold Hid
  rw [bits_up V i k hk, hn, bits_above V m (i + k) h hm]; omega
theorem up_lt (V p k : Nat) (hk : k ≤ 8) (n : Int) (hn : n = ((V / 2 ^ p % 2 ^ (8 - k) : Nat) : Int)) : 0 ≤ n ∧ n < 256 := by
  have h1 : V / 2 ^ p % 2 ^ (8 - k) < 2 ^ (8 - k) := Nat.mod_lt _ (Nat.two_pow_pos _)
  have h2 : 2 ^ (8 - k) ≤ 2 ^ 8 := Nat.pow_le_pow_right (by decide) (by omega)
  omega

end Go.Proofs.Ytamalcajdhmncaa
