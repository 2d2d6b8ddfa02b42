/- A number that is put in two parts is put as at once: the plain facts. -/
import Derived.Test.YtjlfnihogfgjnaaWn
namespace Go.Proofs.Ytjlfnihogfgjnaa
open Go.RowKit
set_option linter.unusedVariables false
set_option linter.unusedSimpArgs false

/-- What is put is right. -/
theorem put_is_right (xs : List Int) (M : Int) (V : Nat) (n : Int) : rightB (putX xs M V n) (putN xs M V n) = true := by
  obtain ⟨N, hN, hN1, hlen, hX⟩ := goodN_nat xs M
  unfold putX putN
  by_cases h : putE xs M V n = 0
  · rw [if_pos h, if_pos h, hN]
    have h' : 0 ≤ n ∧ n ≤ 32 ∧ V < 2 ^ n.toNat ∧ goodN xs M + n ≤ 32000 := by
      unfold putE at h
      split at h
      · split at h
        · omega
        · cases h
      · cases h
    obtain ⟨m, rfl⟩ := Int.eq_ofNat_of_zero_le h'.1
    rw [Int.toNat_natCast] at h'
    rw [show (N : Int) + m = ((N + m : Nat) : Int) by omega, rightB_nat, decide_eq_true_eq, byL_length, byL_bv, Int.toNat_natCast, Int.toNat_natCast]
    refine ⟨by omega, rfl, Nat.lt_of_le_of_lt (Nat.mod_le _ _) (put_lt _ _ _ _ hX h'.2.2.1)⟩
  · rw [if_neg h, if_neg h, hN, rightB_nat, decide_eq_true_eq]
    exact ⟨by omega, hlen, hX⟩
theorem good_put (xs : List Int) (M : Int) (V : Nat) (n : Int) : goodX (putX xs M V n) (putN xs M V n) = putX xs M V n ∧ goodN (putX xs M V n) (putN xs M V n) = putN xs M V n := by
  unfold goodX goodN
  rw [put_is_right]
  exact ⟨rfl, rfl⟩
theorem putE_ok {xs : List Int} {M : Int} {V : Nat} {n : Int} (h : putE xs M V n = 0) : ∃ m : Nat, n = m ∧ m ≤ 32 ∧ V < 2 ^ m ∧ goodN xs M + n ≤ 32000 := by
  unfold putE at h
  split at h
  · rename_i h'
    split at h
    · exact ⟨n.toNat, by omega, by omega, h'.2.2, by omega⟩
    · cases h
  · cases h
theorem putE_mk {xs : List Int} {M : Int} {V m : Nat} (h1 : m ≤ 32) (h2 : V < 2 ^ m) (h3 : goodN xs M + m ≤ 32000) : putE xs M V m = 0 := by
  unfold putE
  rw [if_pos ⟨by omega, by omega, by simpa using h2⟩, if_pos h3]
theorem putN_ok {xs : List Int} {M : Int} {V : Nat} {n : Int} (h : putE xs M V n = 0) : putN xs M V n = goodN xs M + n := by unfold putN; rw [if_pos h]
theorem putX_ok {xs : List Int} {M : Int} {V : Nat} {n : Int} (h : putE xs M V n = 0) : putX xs M V n = byL (bv (goodX xs M) + V * 2 ^ (goodN xs M).toNat) (((goodN xs M).toNat + n.toNat + 7) / 8) := by unfold putX; rw [if_pos h]
/-- In two parts, as at once. -/
theorem put_parts {xs : List Int} (hx : Byts xs) {M : Int} {V n m : Nat} (hm : m ≤ n) (h : putE xs M V n = 0) :
    putE xs M (V % 2 ^ m) m = 0 ∧ putE (putX xs M (V % 2 ^ m) m) (putN xs M (V % 2 ^ m) m) (V / 2 ^ m) ((n : Int) - m) = 0 ∧
    putN (putX xs M (V % 2 ^ m) m) (putN xs M (V % 2 ^ m) m) (V / 2 ^ m) ((n : Int) - m) = putN xs M V n ∧
    putX (putX xs M (V % 2 ^ m) m) (putN xs M (V % 2 ^ m) m) (V / 2 ^ m) ((n : Int) - m) = putX xs M V n := by
  obtain ⟨N, hN, hN1, hlen, hX⟩ := goodN_nat xs M
  obtain ⟨n', hn', h1, h2, h3⟩ := putE_ok h
  have : n' = n := by omega
  subst this
  have hlow : V % 2 ^ m < 2 ^ m := Nat.mod_lt _ (Nat.two_pow_pos m)
  have hhigh : V / 2 ^ m < 2 ^ (n' - m) := by
    rw [Nat.div_lt_iff_lt_mul (Nat.two_pow_pos m), ← Nat.pow_add]
    rwa [show n' - m + m = n' by omega]
  have e1 : putE xs M (V % 2 ^ m) m = 0 := putE_mk (by omega) hlow (by omega)
  obtain ⟨g1, g2⟩ := good_put xs M (V % 2 ^ m) m
  have eN : putN xs M (V % 2 ^ m) m = ((N + m : Nat) : Int) := by unfold putN; rw [if_pos e1, hN]; omega
  have eX : putX xs M (V % 2 ^ m) m = byL (bv (goodX xs M) + V % 2 ^ m * 2 ^ N) ((N + m + 7) / 8) := by unfold putX; rw [if_pos e1, hN]; rfl
  rw [show ((n' : Int) - m) = ((n' - m : Nat) : Int) by omega]
  have hb : bv (putX xs M (V % 2 ^ m) m) = bv (goodX xs M) + V % 2 ^ m * 2 ^ N := by
    rw [eX, byL_bv, Nat.mod_eq_of_lt]
    refine Nat.lt_of_lt_of_le (put_lt _ _ _ _ hX hlow) ?_
    rw [pow256]
    exact Nat.pow_le_pow_right (by decide) (by omega)
  have l2 : putX xs M V n' = byL (bv (goodX xs M) + V * 2 ^ N) ((N + n' + 7) / 8) := by
    rw [putX_ok h, hN]; rfl
  have l3 : putN xs M V n' = N + n' := by rw [putN_ok h, hN]
  rw [l2, l3]
  refine ⟨e1, ?_⟩
  generalize putX xs M (V % 2 ^ m) m = Y at *
  generalize putN xs M (V % 2 ^ m) m = K at *
  subst eN
  have e2 : putE Y ((N + m : Nat) : Int) (V / 2 ^ m) ((n' - m : Nat) : Int) = 0 := putE_mk (by omega) hhigh (by rw [g2]; omega)
  refine ⟨e2, ?_, ?_⟩
  · rw [putN_ok e2, g2]; omega
  · rw [putX_ok e2, g1, g2, hb, Int.toNat_natCast, Int.toNat_natCast, show N + m + (n' - m) = N + n' by omega]
    congr 1
    rw [Nat.pow_add, Nat.mul_comm (2 ^ N) (2 ^ m), ← Nat.mul_assoc, Nat.add_assoc, ← Nat.add_mul]
    congr 2
    rw [Nat.mul_comm]
    exact Nat.mod_add_div V (2 ^ m)
theorem bthen' {a b c : World} (h : Below a.heap.size a b) (k : Below b.heap.size b c) : Below a.heap.size a c := bthen h k h.size

theorem relA {y Wy : World} {base : Nat} {X : List Int} {M : Int} {x : Option Addr} {c : Nat} (r : RwF base .u8 y (.slice x X.length c) X) (h : Below Wy.heap.size Wy y) :
    ∃ bz x9 c9, Value.pointer (some ⟨y.heap.size, 0, none⟩) = .pointer (some ⟨bz, 0, none⟩) ∧ Value.int .i64 0 = .int .i64 0 ∧ Rw .u8 (y.alloc (.cells #[.slice x X.length c, .int .i64 M] 27)) (.slice x9 X.length c9) X ∧ (y.alloc (.cells #[.slice x X.length c, .int .i64 M] 27)).cell? ⟨bz, 0, none⟩ = some (.slice x9 X.length c9) ∧ (y.alloc (.cells #[.slice x X.length c, .int .i64 M] 27)).cell? ⟨bz, 1, none⟩ = some (.int .i64 M) ∧ bz < (y.alloc (.cells #[.slice x X.length c, .int .i64 M] 27)).heap.size ∧ Below Wy.heap.size Wy (y.alloc (.cells #[.slice x X.length c, .int .i64 M] 27)) :=
  ⟨y.heap.size, x, c, rfl, rfl, r.rw.below (below1 _ _), by simp [go_sem], by simp [go_sem], by simp, h.alloc h.size _⟩
theorem relB {y Wy : World} {X : List Int} {M : Int} {x : Option Addr} {c : Nat} {z0 z1 : Value} {t : TypeId} (r : RwF (Wy.alloc (.cells #[z0, z1] t)).drew.heap.size .u8 y (.slice x X.length c) X) (e : Below (Wy.alloc (.cells #[z0, z1] t)).drew.heap.size (Wy.alloc (.cells #[z0, z1] t)).drew y) :
    ∃ bz x9 c9, Value.pointer (some ⟨Wy.heap.size, 0, none⟩) = .pointer (some ⟨bz, 0, none⟩) ∧ Value.int .i64 0 = .int .i64 0 ∧ Rw .u8 ((y.setCell ⟨Wy.heap.size, 0, none⟩ (.slice x X.length c)).setCell ⟨Wy.heap.size, 1, none⟩ (.int .i64 M)) (.slice x9 X.length c9) X ∧ ((y.setCell ⟨Wy.heap.size, 0, none⟩ (.slice x X.length c)).setCell ⟨Wy.heap.size, 1, none⟩ (.int .i64 M)).cell? ⟨bz, 0, none⟩ = some (.slice x9 X.length c9) ∧ ((y.setCell ⟨Wy.heap.size, 0, none⟩ (.slice x X.length c)).setCell ⟨Wy.heap.size, 1, none⟩ (.int .i64 M)).cell? ⟨bz, 1, none⟩ = some (.int .i64 M) ∧ bz < ((y.setCell ⟨Wy.heap.size, 0, none⟩ (.slice x X.length c)).setCell ⟨Wy.heap.size, 1, none⟩ (.int .i64 M)).heap.size ∧ Below Wy.heap.size Wy ((y.setCell ⟨Wy.heap.size, 0, none⟩ (.slice x X.length c)).setCell ⟨Wy.heap.size, 1, none⟩ (.int .i64 M)) := by
  obtain ⟨q0, q1, f0, f1, hz⟩ := one_box (drew_below e)
  obtain ⟨k0, k1, _, _, kz⟩ := box_set (.slice x X.length c) (.int .i64 M) q0 q1 f0 f1 hz
  have hlt : Wy.heap.size < (Wy.alloc (.cells #[z0, z1] t)).drew.heap.size := by show Wy.heap.size < (Wy.alloc (.cells #[z0, z1] t)).heap.size; simp
  exact ⟨Wy.heap.size, x, c, rfl, rfl, ((r.set Wy.heap.size 0 (.slice x X.length c) hlt).set Wy.heap.size 1 (.int .i64 M) hlt).rw, k0, k1, kz, bset2 (bthen' (below1 _ _) (drew_below e)) _ _ _ _ _ _ (Nat.le_refl _) (Nat.le_refl _)⟩

end Go.Proofs.Ytjlfnihogfgjnaa
