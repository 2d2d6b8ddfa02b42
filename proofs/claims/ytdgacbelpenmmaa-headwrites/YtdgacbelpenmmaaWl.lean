/- The contract of the document function Put where it tells an error. -/
import Derived.Test.YtdgacbelpenmmaaWk
import Derived.Deep.RegionHeld3
namespace Go.Proofs.Ytdgacbelpenmmaa
open Go.RowKit
set_option linter.unusedVariables false
set_option linter.unusedSimpArgs false

theorem goodN_nat (xs : List Int) (M : Int) : ∃ N : Nat, goodN xs M = N ∧ N ≤ 32000 ∧ (goodX xs M).length = (N + 7) / 8 ∧ bv (goodX xs M) < 2 ^ N := by
  unfold goodN goodX
  by_cases h : rightB xs M = true
  · rw [if_pos h, if_pos h]
    unfold rightB at h
    rw [decide_eq_true_eq] at h
    exact ⟨M.toNat, by omega, by omega, h.2.2.1, h.2.2.2⟩
  · rw [if_neg h, if_neg h]
    exact ⟨0, rfl, by omega, rfl, by simp [bv]⟩
theorem good_byts {xs : List Int} (h : Byts xs) (M : Int) : Byts (goodX xs M) := by
  unfold goodX; split
  · exact h
  · exact Byts.nil
theorem good_le (xs : List Int) (M : Int) : (goodX xs M).length ≤ xs.length := by
  unfold goodX; split <;> simp

theorem bl_put_old (X V N i : Nat) (hi : i < N) : bitAt (X + V * 2 ^ N) i = bitAt X i := by
  unfold bitAt
  have : (X + V * 2 ^ N) / 2 ^ i % 2 = X / 2 ^ i % 2 := by
    obtain ⟨d, rfl⟩ := Nat.exists_eq_add_of_lt hi
    rw [show i + d + 1 = (d + 1) + i by omega, Nat.pow_add, ← Nat.mul_assoc, Nat.add_mul_div_right _ _ (Nat.two_pow_pos i), Nat.pow_succ, ← Nat.mul_assoc]
    omega
  rw [this]
theorem bl_put_new (X V N k : Nat) (hX : X < 2 ^ N) : bitAt (X + V * 2 ^ N) (N + k) = ((V / 2 ^ k % 2 : Nat) : Int) := by
  unfold bitAt
  rw [Nat.pow_add, ← Nat.div_div_eq_div_mul, Nat.add_mul_div_right _ _ (Nat.two_pow_pos N), Nat.div_eq_of_lt hX, Nat.zero_add]
theorem bl_put (X V N : Nat) : bl (X + V * 2 ^ N) N = bl X N := by
  unfold bl
  apply List.map_congr_left
  intro i hi
  exact bl_put_old X V N i (by simpa using hi)
theorem bl_take (X m n : Nat) (h : n ≤ m) : (bl X m).take n = bl X n := by
  unfold bl
  rw [← List.map_take, List.take_range, Nat.min_eq_left h]
theorem put_lt (X V N n : Nat) (hX : X < 2 ^ N) (hV : V < 2 ^ n) : X + V * 2 ^ N < 2 ^ (N + n) := by
  have h2 : (V + 1) * 2 ^ N ≤ 2 ^ n * 2 ^ N := Nat.mul_le_mul_right _ (by omega)
  rw [Nat.add_mul, Nat.one_mul] at h2
  rw [Nat.pow_add, Nat.mul_comm (2 ^ N)]
  omega

/-- What is owned, cut to its first n elements. -/
theorem owns_cut {w : World} {base : Nat} {e : TypeId} {m n : Nat} {xs : List Value} {a : Option Addr} {len cap : Nat} (h : w.ownsRow base e 1 (.slice a len cap) m xs) (hn : n ≤ m) (h0 : n = 0 → a = none → cap = 0) : w.ownsRow base e 1 (.slice a n cap) n (xs.take n) := by
  obtain ⟨h1, h2⟩ := h
  refine ⟨by simp; omega, ?_⟩
  rcases h2 with ⟨hv, h0'⟩ | ⟨g, cap', cur, hv, hg, hh, hcap, hm, hs, ht⟩
  · simp only [Value.slice.injEq] at hv
    obtain ⟨rfl, rfl, rfl⟩ := hv
    left; exact ⟨by rw [show n = 0 by omega], by omega⟩
  · simp only [Value.slice.injEq] at hv
    obtain ⟨rfl, rfl, rfl⟩ := hv
    right
    refine ⟨g, cap, cur, rfl, hg, hh, by omega, hm, hs, ?_⟩
    rw [← ht, List.take_take]; congr 1; omega

theorem bset4b {B : Nat} {a w : World} (h : Below B a w) (p q : Nat) (i j k l : Nat) (x y z u : Value) (hp : B ≤ p) (hq : B ≤ q) : Below B a ((((w.setCell ⟨p, i, none⟩ x).setCell ⟨p, j, none⟩ y).setCell ⟨q, k, none⟩ z).setCell ⟨q, l, none⟩ u) :=
  bset2 (bset2 h p p i j x y hp hp) q q k l z u hq hq

end Go.Proofs.Ytdgacbelpenmmaa
