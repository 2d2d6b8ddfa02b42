/- Contracts of Clamp and of the division to the nearest, by the program and by the document. -/
import Derived.Test.YtgmikllbpaekfaaDoorGrids
import Derived.Test.YtgmikllbpaekfaaDoorRows
import Derived.Laws.BitsAllLaws
namespace Go.Proofs.YtgmikllbpaekfaaDoor
open Go.RowKit
set_option linter.unusedVariables false
set_option linter.unusedSimpArgs false

def I64 (a : Int) : Prop := -9223372036854775808 ≤ a ∧ a ≤ 9223372036854775807
theorem i64_of {a : Int} (h : (Lit.int .i64 a).wf = true) : I64 a := by
  simp [Lit.wf, IntKind.min, IntKind.max, IntKind.bits, IntKind.signed] at h
  exact ⟨by omega, by omega⟩

def clampI (v lo hi : Int) : Int := if v < lo then lo else if hi < v then hi else v

/-- A quotient to the nearest. -/
def near (a b : Int) : Int :=
  if 0 < a.tmod b ∧ b - a.tmod b ≤ a.tmod b then a.tdiv b + 1
  else if a.tmod b < 0 ∧ b + a.tmod b ≤ -a.tmod b then a.tdiv b - 1 else a.tdiv b

/-- What is known of a quotient and its rest. -/
theorem parts (a b : Int) (ha : I64 a) (hb : 1 ≤ b) (hb1 : I64 b) : a = b * a.tdiv b + a.tmod b ∧ I64 (a.tdiv b) ∧ a.tmod b < b ∧ -b < a.tmod b ∧ (a.tmod b ≠ 0 → 2 ≤ b ∧ -4611686018427387904 ≤ a.tdiv b ∧ a.tdiv b ≤ 4611686018427387904) := by
  have e := Int.mul_tdiv_add_tmod a b
  have h1 : a.tmod b < b := Int.tmod_lt_of_pos a (by omega)
  have h2 : -b < a.tmod b := by
    have := Int.lt_tmod_of_pos a (show 0 < b by omega)
    omega
  generalize a.tdiv b = q at *
  generalize a.tmod b = r at *
  unfold I64 at *
  have hlo : b * (q - 1) < 9223372036854775807 := by rw [Int.mul_sub]; omega
  have hhi : -9223372036854775808 < b * (q + 1) := by rw [Int.mul_add]; omega
  have m1 : ∀ c : Int, 1 ≤ c → c ≤ b → q - 1 < 0 ∨ c * (q - 1) ≤ b * (q - 1) := fun c hc hcb => by
    by_cases h : q - 1 < 0
    · exact .inl h
    · exact .inr (Int.mul_le_mul_of_nonneg_right hcb (by omega))
  have m2 : ∀ c : Int, 1 ≤ c → c ≤ b → 0 < q + 1 ∨ b * (q + 1) ≤ c * (q + 1) := fun c hc hcb => by
    by_cases h : 0 < q + 1
    · exact .inl h
    · exact .inr (Int.mul_le_mul_of_nonpos_right hcb (by omega))
  have a1 := m1 1 (by omega) (by omega)
  have a2 := m2 1 (by omega) (by omega)
  refine ⟨e.symm, ⟨by omega, by omega⟩, h1, h2, fun hr => ?_⟩
  have hb2 : 2 ≤ b := by omega
  have a3 := m1 2 (by omega) hb2
  have a4 := m2 2 (by omega) hb2
  exact ⟨hb2, by omega, by omega⟩

/-- A rest has the number's sign, and is not greater. -/
theorem rest_sign (a b : Int) (hb : 1 ≤ b) : (0 ≤ a → 0 ≤ a.tmod b ∧ 0 ≤ a.tdiv b * b) ∧ (a < 0 → a.tmod b ≤ 0 ∧ a.tdiv b * b ≤ 0) := by
  have key : ∀ c : Int, 0 ≤ c → 0 ≤ c.tmod b ∧ 0 ≤ c.tdiv b * b := fun c hc =>
    ⟨Int.tmod_nonneg b hc, Int.mul_nonneg (Int.tdiv_nonneg hc (by omega)) (by omega)⟩
  refine ⟨key a, fun hn => ?_⟩
  obtain ⟨k1, k2⟩ := key (-a) (by omega)
  rw [Int.neg_tmod] at k1
  rw [Int.neg_tdiv, Int.neg_mul] at k2
  exact ⟨by omega, by omega⟩

/-- A quotient to the nearest is as near as is promised. -/
theorem near_near (a b : Int) (hb : 1 ≤ b) : 2 * (a - near a b * b) ≤ b ∧ -b ≤ 2 * (a - near a b * b) := by
  have e := Int.mul_tdiv_add_tmod a b
  have h1 : a.tmod b < b := Int.tmod_lt_of_pos a (by omega)
  have h2 : -b < a.tmod b := by
    have := Int.lt_tmod_of_pos a (show 0 < b by omega)
    omega
  unfold near
  generalize a.tdiv b = q at *
  generalize a.tmod b = r at *
  rw [Int.mul_comm] at e
  split
  · rw [Int.add_mul]; omega
  · split
    · rw [Int.sub_mul]; omega
    · omega

/-- Of two numbers the greater one has no less quotient. -/
theorem near_mono (a c b : Int) (hb : 1 ≤ b) (h : a ≤ c) : near a b ≤ near c b := by
  obtain ⟨a1, a2⟩ := near_near a b hb
  obtain ⟨c1, c2⟩ := near_near c b hb
  by_cases hac : a = c
  · rw [hac]; exact Int.le_refl _
  by_cases hn : near a b ≤ near c b
  · exact hn
  · exfalso
    have hm : (near c b + 1) * b ≤ near a b * b := Int.mul_le_mul_of_nonneg_right (by omega) (by omega)
    rw [Int.add_mul] at hm
    omega
end Go.Proofs.YtgmikllbpaekfaaDoor
