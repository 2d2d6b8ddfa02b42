/- Contracts of Width, by the program and by the document. -/
import Derived.Test.YtlpjkahppogkiaaEj
import Derived.Laws.BitsAllLaws
namespace Go.Proofs.Ytlpjkahppogkiaa
open Go.RowKit
set_option linter.unusedVariables false
set_option linter.unusedSimpArgs false

/-- Where a band begins; how many coefficients it has. -/
def fr (b : Nat) : Nat := if b = 0 then 0 else if b = 1 then 1 else if b = 2 then 2 else if b = 3 then 4 else if b = 4 then 8 else 0
def wd (b : Nat) : Nat := if b = 0 then 1 else if b = 1 then 1 else if b = 2 then 2 else if b = 3 then 4 else if b = 4 then 8 else 0
def frI (b : Int) : Int := if 0 ≤ b ∧ b < 5 then (fr b.toNat : Nat) else 0
def wdI (b : Int) : Int := if 0 ≤ b ∧ b < 5 then (wd b.toNat : Nat) else 0
theorem frI_nat {b : Nat} (h : b < 5) : frI (b : Int) = (fr b : Nat) := by unfold frI; rw [if_pos ⟨by omega, by omega⟩]; simp
theorem wdI_nat {b : Nat} (h : b < 5) : wdI (b : Int) = (wd b : Nat) := by unfold wdI; rw [if_pos ⟨by omega, by omega⟩]; simp
theorem frI_no {b : Int} (h : ¬ (0 ≤ b ∧ b < 5)) : frI b = 0 := by unfold frI; rw [if_neg h]
theorem wdI_no {b : Int} (h : ¬ (0 ≤ b ∧ b < 5)) : wdI b = 0 := by unfold wdI; rw [if_neg h]
theorem isb_any (b : Int) (w : World) : Calls Try.prog 47 #[.int .i64 b] w fun e w' => e = .returned (.bool (decide (0 ≤ b ∧ b < 5))) ∧ w' = w := by
  by_cases h0 : 0 ≤ b
  · by_cases h1 : b < 5
    · rw [decide_eq_true ⟨h0, h1⟩]
      go_enter Try.func47, Try.ntmps47
      go_wp2
      go_ret
      exact ⟨rfl, rfl⟩
    · rw [decide_eq_false (fun h => h1 h.2)]
      go_enter Try.func47, Try.ntmps47
      go_wp2
      go_ret
      exact ⟨rfl, rfl⟩
  · rw [decide_eq_false (fun h => h0 h.1)]
    go_enter Try.func47, Try.ntmps47
    go_wp2
    go_ret
    exact ⟨rfl, rfl⟩
theorem from_any (b : Int) (w : World) : Calls Try.prog 48 #[.int .i64 b] w fun e w' => e = .returned (.int .i64 (frI b)) ∧ w' = w := by
  have hb := fun w => isb_any b w
  by_cases h : 0 ≤ b ∧ b < 5
  · have : b = 0 ∨ b = 1 ∨ b = 2 ∨ b = 3 ∨ b = 4 := by omega
    rw [decide_eq_true h] at hb
    rcases this with rfl | rfl | rfl | rfl | rfl
    all_goals
      go_enter Try.func48, Try.ntmps48
      go_wp2_with (go_at_call 47; refine (hb _).mono ?_; rintro e w9 ⟨rfl, h9⟩; have h9 := h9.symm; subst h9)
      go_ret
      exact ⟨rfl, rfl⟩
  · rw [decide_eq_false h] at hb
    rw [frI_no h]
    go_enter Try.func48, Try.ntmps48
    go_wp2_with (go_at_call 47; refine (hb _).mono ?_; rintro e w9 ⟨rfl, h9⟩; have h9 := h9.symm; subst h9)
    go_ret
    exact ⟨rfl, rfl⟩
theorem width_any (b : Int) (w : World) : Calls Try.prog 44 #[.int .i64 b] w fun e w' => e = .returned (.int .i64 (wdI b)) ∧ w' = w := by
  have hb := fun w => isb_any b w
  have hf := fun w => from_any b w
  by_cases h : 0 ≤ b ∧ b < 5
  · have : b = 0 ∨ b = 1 ∨ b = 2 ∨ b = 3 ∨ b = 4 := by omega
    rw [decide_eq_true h] at hb
    rcases this with rfl | rfl | rfl | rfl | rfl
    · rw [show frI 0 = 0 by rfl] at hf
      go_enter Try.func44, Try.ntmps44
      go_wp2_with (first | (go_at_call 47; refine (hb _).mono ?_; rintro e w9 ⟨rfl, h9⟩; have h9 := h9.symm; subst h9) | (go_at_call 48; refine (hf _).mono ?_; rintro e w9 ⟨rfl, h9⟩; have h9 := h9.symm; subst h9))
      go_ret
      exact ⟨rfl, rfl⟩
    · rw [show frI 1 = 1 by rfl] at hf
      go_enter Try.func44, Try.ntmps44
      go_wp2_with (first | (go_at_call 47; refine (hb _).mono ?_; rintro e w9 ⟨rfl, h9⟩; have h9 := h9.symm; subst h9) | (go_at_call 48; refine (hf _).mono ?_; rintro e w9 ⟨rfl, h9⟩; have h9 := h9.symm; subst h9))
      go_ret
      exact ⟨rfl, rfl⟩
    · rw [show frI 2 = 2 by rfl] at hf
      go_enter Try.func44, Try.ntmps44
      go_wp2_with (first | (go_at_call 47; refine (hb _).mono ?_; rintro e w9 ⟨rfl, h9⟩; have h9 := h9.symm; subst h9) | (go_at_call 48; refine (hf _).mono ?_; rintro e w9 ⟨rfl, h9⟩; have h9 := h9.symm; subst h9))
      go_ret
      exact ⟨rfl, rfl⟩
    · rw [show frI 3 = 4 by rfl] at hf
      go_enter Try.func44, Try.ntmps44
      go_wp2_with (first | (go_at_call 47; refine (hb _).mono ?_; rintro e w9 ⟨rfl, h9⟩; have h9 := h9.symm; subst h9) | (go_at_call 48; refine (hf _).mono ?_; rintro e w9 ⟨rfl, h9⟩; have h9 := h9.symm; subst h9))
      go_ret
      exact ⟨rfl, rfl⟩
    · rw [show frI 4 = 8 by rfl] at hf
      go_enter Try.func44, Try.ntmps44
      go_wp2_with (first | (go_at_call 47; refine (hb _).mono ?_; rintro e w9 ⟨rfl, h9⟩; have h9 := h9.symm; subst h9) | (go_at_call 48; refine (hf _).mono ?_; rintro e w9 ⟨rfl, h9⟩; have h9 := h9.symm; subst h9))
      go_ret
      exact ⟨rfl, rfl⟩
  · rw [decide_eq_false h] at hb
    rw [wdI_no h]
    go_enter Try.func44, Try.ntmps44
    go_wp2_with (go_at_call 47; refine (hb _).mono ?_; rintro e w9 ⟨rfl, h9⟩; have h9 := h9.symm; subst h9)
    go_ret
    exact ⟨rfl, rfl⟩
theorem neq_of {a b : Int} (h : a ≠ b) : (a == b) = false := by simpa using h
theorem rwidth_any (b : Int) (w : World) : Calls Try.prog 20 #[.int .i64 b] w fun e w' => e = .returned (.int .i64 (wdI b)) ∧ w' = w := by
  by_cases h : 0 ≤ b ∧ b < 5
  · have : b = 0 ∨ b = 1 ∨ b = 2 ∨ b = 3 ∨ b = 4 := by omega
    rcases this with rfl | rfl | rfl | rfl | rfl
    all_goals
      go_enter Try.func20, Try.ntmps20
      go_wp2
      go_ret
      exact ⟨rfl, rfl⟩
  · rw [wdI_no h]
    have e0 : (b == 0) = false := neq_of (by omega)
    have e1 : (b == 1) = false := neq_of (by omega)
    have e2 : (b == 2) = false := neq_of (by omega)
    have e3 : (b == 3) = false := neq_of (by omega)
    have e4 : (b == 4) = false := neq_of (by omega)
    go_enter Try.func20, Try.ntmps20
    go_wp2
    go_ret
    exact ⟨rfl, rfl⟩
end Go.Proofs.Ytlpjkahppogkiaa
