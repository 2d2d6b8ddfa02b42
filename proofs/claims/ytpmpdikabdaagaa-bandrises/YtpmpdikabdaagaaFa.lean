/- Which numbers are coefficients, the norm's square, on plain numbers. -/
import Derived.Test.YtpmpdikabdaagaaNa
import Derived.Test.YtpmpdikabdaagaaNc
import Derived.Test.YtpmpdikabdaagaaGrids
namespace Go.Proofs.Ytpmpdikabdaagaa
open Go.RowKit
set_option linter.unusedVariables false
set_option linter.unusedSimpArgs false

/-- The first j of these numbers are coefficients, and there are as many as may be. -/
def fairN (x : List Int) (j : Nat) : Bool := decide (1 ≤ x.length ∧ x.length ≤ 16 ∧ ∀ i, i < j → -1048576 ≤ x.getD i 0 ∧ x.getD i 0 ≤ 1048576)
def fairX (x : List Int) : Bool := fairN x x.length
theorem fairX_parts {x : List Int} (h : fairX x = true) : 1 ≤ x.length ∧ x.length ≤ 16 ∧ ∀ i, -1048576 ≤ x.getD i 0 ∧ x.getD i 0 ≤ 1048576 := by
  obtain ⟨h1, h2, h3⟩ := of_decide_eq_true h
  refine ⟨h1, h2, fun i => ?_⟩
  by_cases hi : i < x.length
  · exact h3 i hi
  · rw [List.getD_eq_getElem?_getD, List.getElem?_eq_none (by omega)]; simp
theorem fairN_zero (x : List Int) : fairN x 0 = decide (1 ≤ x.length ∧ x.length ≤ 16) := by
  unfold fairN; congr 1; simp
theorem fairN_next (x : List Int) (j : Nat) : fairN x (j + 1) = (fairN x j && decide (-1048576 ≤ x.getD j 0) && decide (x.getD j 0 ≤ 1048576)) := by
  unfold fairN
  rw [Bool.eq_iff_iff]
  simp only [Bool.and_eq_true, decide_eq_true_eq]
  constructor
  · rintro ⟨h1, h2, h3⟩
    exact ⟨⟨⟨h1, h2, fun i hi => h3 i (by omega)⟩, (h3 j (by omega)).1⟩, (h3 j (by omega)).2⟩
  · rintro ⟨⟨⟨h1, h2, h3⟩, h4⟩, h5⟩
    refine ⟨h1, h2, fun i hi => ?_⟩
    by_cases e : i = j
    · subst e; exact ⟨h4, h5⟩
    · exact h3 i (by omega)
theorem fairX_false_len {x : List Int} (h : x.length < 1 ∨ 16 < x.length) : fairX x = false := by
  unfold fairX fairN; rw [decide_eq_false_iff_not]; omega
theorem fairX_false_at {x : List Int} {j : Nat} (hj : j < x.length) (h : x.getD j 0 < -1048576 ∨ 1048576 < x.getD j 0) : fairX x = false := by
  unfold fairX fairN; rw [decide_eq_false_iff_not]; rintro ⟨_, _, h3⟩; have := h3 j hj; omega
theorem fairX_true {x : List Int} (h1 : 1 ≤ x.length) (h2 : x.length ≤ 16) (h3 : ∀ i, i < x.length → -1048576 ≤ x.getD i 0 ∧ x.getD i 0 ≤ 1048576) : fairX x = true := decide_eq_true ⟨h1, h2, h3⟩
/-- The sum of the squares. -/
def sq (x : List Int) : Nat → Nat
  | 0 => 0
  | j + 1 => sq x j + (x.getD j 0).natAbs * (x.getD j 0).natAbs
theorem natAbs_sq (v : Int) : ((v.natAbs * v.natAbs : Nat) : Int) = v * v := by
  rw [Int.natCast_mul, ← Int.natAbs_mul_self' v]
theorem sq_le (x : List Int) (b : Nat) (h : ∀ j, (x.getD j 0).natAbs ≤ b) (j : Nat) : sq x j ≤ j * (b * b) := by
  induction j with
  | zero => simp [sq]
  | succ j ih =>
    have := Nat.mul_le_mul (h j) (h j)
    simp only [sq, Nat.add_mul]
    omega
theorem sq_mono (x : List Int) {i j : Nat} (h : i ≤ j) : sq x i ≤ sq x j := by
  induction j with
  | zero => have : i = 0 := by omega
            subst this; exact Nat.le_refl _
  | succ j ih =>
    by_cases e : i = j + 1
    · subst e; exact Nat.le_refl _
    · have := ih (by omega); simp only [sq]; omega
theorem sq_at (x : List Int) (i n : Nat) (h : i < n) : (x.getD i 0).natAbs * (x.getD i 0).natAbs ≤ sq x n := by
  have h1 := sq_mono x (show i + 1 ≤ n by omega)
  simp only [sq] at h1
  omega
end Go.Proofs.Ytpmpdikabdaagaa
