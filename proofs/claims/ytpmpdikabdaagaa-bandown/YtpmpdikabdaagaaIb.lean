/- Contracts of From, Width, Value, by the program and by the document. -/
import Derived.Test.YtpmpdikabdaagaaRows
import Derived.Test.YtpmpdikabdaagaaIa
import Derived.Laws.BitsAllLaws
namespace Go.Proofs.Ytpmpdikabdaagaa
open Go.RowKit
set_option linter.unusedVariables false
set_option linter.unusedSimpArgs false

def frI (b : Int) : Int := if 0 ≤ b ∧ b < 5 then (fr b.toNat : Nat) else 0
def wdI (b : Int) : Int := if 0 ≤ b ∧ b < 5 then (wd b.toNat : Nat) else 0
def vlI (g : Int) : Int := (vl g.toNat : Nat)
theorem frI_nat {b : Nat} (h : b < 5) : frI (b : Int) = (fr b : Nat) := by unfold frI; rw [if_pos ⟨by omega, by omega⟩]; simp
theorem wdI_nat {b : Nat} (h : b < 5) : wdI (b : Int) = (wd b : Nat) := by unfold wdI; rw [if_pos ⟨by omega, by omega⟩]; simp
theorem frI_no {b : Int} (h : ¬ (0 ≤ b ∧ b < 5)) : frI b = 0 := by unfold frI; rw [if_neg h]
theorem wdI_no {b : Int} (h : ¬ (0 ≤ b ∧ b < 5)) : wdI b = 0 := by unfold wdI; rw [if_neg h]

theorem isb_any (b : Int) (w : World) : Calls Try.prog 28 #[.int .i64 b] w fun e w' => e = .returned (.bool (decide (0 ≤ b ∧ b < 5))) ∧ w' = w := by
  by_cases h0 : 0 ≤ b
  · by_cases h1 : b < 5
    · rw [decide_eq_true ⟨h0, h1⟩]
      go_enter Try.func28, Try.ntmps28
      go_wp2
      go_ret
      exact ⟨rfl, rfl⟩
    · rw [decide_eq_false (fun h => h1 h.2)]
      go_enter Try.func28, Try.ntmps28
      go_wp2
      go_ret
      exact ⟨rfl, rfl⟩
  · rw [decide_eq_false (fun h => h0 h.1)]
    go_enter Try.func28, Try.ntmps28
    go_wp2
    go_ret
    exact ⟨rfl, rfl⟩

theorem from_any (b : Int) (w : World) : Calls Try.prog 9 #[.int .i64 b] w fun e w' => e = .returned (.int .i64 (frI b)) ∧ w' = w := by
  have hb := fun w => isb_any b w
  by_cases h : 0 ≤ b ∧ b < 5
  · have : b = 0 ∨ b = 1 ∨ b = 2 ∨ b = 3 ∨ b = 4 := by omega
    rw [decide_eq_true h] at hb
    rcases this with rfl | rfl | rfl | rfl | rfl
    all_goals
      go_enter Try.func9, Try.ntmps9
      go_wp2_with (go_at_call 28; refine (hb _).mono ?_; rintro e w9 ⟨rfl, h9⟩; have h9 := h9.symm; subst h9)
      go_ret
      exact ⟨rfl, rfl⟩
  · rw [decide_eq_false h] at hb
    rw [frI_no h]
    go_enter Try.func9, Try.ntmps9
    go_wp2_with (go_at_call 28; refine (hb _).mono ?_; rintro e w9 ⟨rfl, h9⟩; have h9 := h9.symm; subst h9)
    go_ret
    exact ⟨rfl, rfl⟩

theorem width_any (b : Int) (w : World) : Calls Try.prog 11 #[.int .i64 b] w fun e w' => e = .returned (.int .i64 (wdI b)) ∧ w' = w := by
  have hb := fun w => isb_any b w
  have hf := fun w => from_any b w
  by_cases h : 0 ≤ b ∧ b < 5
  · have : b = 0 ∨ b = 1 ∨ b = 2 ∨ b = 3 ∨ b = 4 := by omega
    rw [decide_eq_true h] at hb
    rcases this with rfl | rfl | rfl | rfl | rfl
    · rw [show frI 0 = 0 by rfl] at hf
      go_enter Try.func11, Try.ntmps11
      go_wp2_with (first | (go_at_call 28; refine (hb _).mono ?_; rintro e w9 ⟨rfl, h9⟩; have h9 := h9.symm; subst h9) | (go_at_call 9; refine (hf _).mono ?_; rintro e w9 ⟨rfl, h9⟩; have h9 := h9.symm; subst h9))
      go_ret
      exact ⟨rfl, rfl⟩
    · rw [show frI 1 = 1 by rfl] at hf
      go_enter Try.func11, Try.ntmps11
      go_wp2_with (first | (go_at_call 28; refine (hb _).mono ?_; rintro e w9 ⟨rfl, h9⟩; have h9 := h9.symm; subst h9) | (go_at_call 9; refine (hf _).mono ?_; rintro e w9 ⟨rfl, h9⟩; have h9 := h9.symm; subst h9))
      go_ret
      exact ⟨rfl, rfl⟩
    · rw [show frI 2 = 2 by rfl] at hf
      go_enter Try.func11, Try.ntmps11
      go_wp2_with (first | (go_at_call 28; refine (hb _).mono ?_; rintro e w9 ⟨rfl, h9⟩; have h9 := h9.symm; subst h9) | (go_at_call 9; refine (hf _).mono ?_; rintro e w9 ⟨rfl, h9⟩; have h9 := h9.symm; subst h9))
      go_ret
      exact ⟨rfl, rfl⟩
    · rw [show frI 3 = 4 by rfl] at hf
      go_enter Try.func11, Try.ntmps11
      go_wp2_with (first | (go_at_call 28; refine (hb _).mono ?_; rintro e w9 ⟨rfl, h9⟩; have h9 := h9.symm; subst h9) | (go_at_call 9; refine (hf _).mono ?_; rintro e w9 ⟨rfl, h9⟩; have h9 := h9.symm; subst h9))
      go_ret
      exact ⟨rfl, rfl⟩
    · rw [show frI 4 = 8 by rfl] at hf
      go_enter Try.func11, Try.ntmps11
      go_wp2_with (first | (go_at_call 28; refine (hb _).mono ?_; rintro e w9 ⟨rfl, h9⟩; have h9 := h9.symm; subst h9) | (go_at_call 9; refine (hf _).mono ?_; rintro e w9 ⟨rfl, h9⟩; have h9 := h9.symm; subst h9))
      go_ret
      exact ⟨rfl, rfl⟩
  · rw [decide_eq_false h] at hb
    rw [wdI_no h]
    go_enter Try.func11, Try.ntmps11
    go_wp2_with (go_at_call 28; refine (hb _).mono ?_; rintro e w9 ⟨rfl, h9⟩; have h9 := h9.symm; subst h9)
    go_ret
    exact ⟨rfl, rfl⟩

theorem neq_of {a b : Int} (h : a ≠ b) : (a == b) = false := by simpa using h
theorem rfrom_any (b : Int) (w : World) : Calls Try.prog 10 #[.int .i64 b] w fun e w' => e = .returned (.int .i64 (frI b)) ∧ w' = w := by
  by_cases h : 0 ≤ b ∧ b < 5
  · have : b = 0 ∨ b = 1 ∨ b = 2 ∨ b = 3 ∨ b = 4 := by omega
    rcases this with rfl | rfl | rfl | rfl | rfl
    all_goals
      go_enter Try.func10, Try.ntmps10
      go_wp2
      go_ret
      exact ⟨rfl, rfl⟩
  · rw [frI_no h]
    have e1 : (b == 1) = false := neq_of (by omega)
    have e2 : (b == 2) = false := neq_of (by omega)
    have e3 : (b == 3) = false := neq_of (by omega)
    have e4 : (b == 4) = false := neq_of (by omega)
    go_enter Try.func10, Try.ntmps10
    go_wp2
    go_ret
    exact ⟨rfl, rfl⟩
theorem rwidth_any (b : Int) (w : World) : Calls Try.prog 12 #[.int .i64 b] w fun e w' => e = .returned (.int .i64 (wdI b)) ∧ w' = w := by
  by_cases h : 0 ≤ b ∧ b < 5
  · have : b = 0 ∨ b = 1 ∨ b = 2 ∨ b = 3 ∨ b = 4 := by omega
    rcases this with rfl | rfl | rfl | rfl | rfl
    all_goals
      go_enter Try.func12, Try.ntmps12
      go_wp2
      go_ret
      exact ⟨rfl, rfl⟩
  · rw [wdI_no h]
    have e0 : (b == 0) = false := neq_of (by omega)
    have e1 : (b == 1) = false := neq_of (by omega)
    have e2 : (b == 2) = false := neq_of (by omega)
    have e3 : (b == 3) = false := neq_of (by omega)
    have e4 : (b == 4) = false := neq_of (by omega)
    go_enter Try.func12, Try.ntmps12
    go_wp2
    go_ret
    exact ⟨rfl, rfl⟩

theorem vlI_no {g : Int} (h : ¬ (1 ≤ g ∧ g ≤ 44)) : vlI g = 0 := by
  unfold vlI vl
  rw [if_neg (by omega)]; rfl
theorem pow_gain {g : Nat} (h : g ≤ 44) : 2 ^ (g - 1) ≤ 8796093022208 := by
  have : 2 ^ (g - 1) ≤ 2 ^ 43 := Nat.pow_le_pow_right (by decide) (by omega)
  omega
/-- Both Values, by a power that they have made. -/
theorem value_any (g : Int) (w : World) : Calls Try.prog 13 #[.int .i64 g] w fun e w' => e = .returned (.int .i64 (vlI g)) ∧ w' = w := by
  by_cases h : 1 ≤ g ∧ g ≤ 44
  · obtain ⟨G, rfl⟩ : ∃ G : Nat, g = G := ⟨g.toNat, by omega⟩
    obtain ⟨D, rfl⟩ : ∃ D : Nat, G = D + 1 := ⟨G - 1, by omega⟩
    have hD : D ≤ 43 := by omega
    have hp := pow_gain (g := D + 1) (by omega)
    have hs := fun w => sqrtP_any (2 ^ D) (by simp at hp; omega) w
    have HV : Hid (∀ r, Root (2 ^ D) r → (r : Int) = vlI ((D + 1 : Nat) : Int)) := fun r hr => by
      unfold vlI
      rw [Int.toNat_natCast]
      exact congrArg Int.ofNat (vl_of (g := D + 1) (by omega) (by omega) (by simpa using hr))
    generalize vlI ((D + 1 : Nat) : Int) = V at *
    have hp2 : ((2 ^ D : Nat) : Int) ≤ 8796093022208 := by simp at hp; omega
    have hp3 : (0 : Int) < ((2 ^ D : Nat) : Int) := by have : 0 < 2 ^ D := Nat.pow_pos (by decide)
                                                       omega
    have e1 : ((D + 1 : Nat) : Int) = (D : Int) + 1 := by omega
    rw [e1]
    have hpe : (2 : Int) ^ D = ((2 ^ D : Nat) : Int) := by simp
    generalize 2 ^ D = P at *
    clear hp h e1
    go_enter Try.func13, Try.ntmps13
    go_wp2_with (go_at_call 29; refine (hs _).mono ?_; rintro e w9 ⟨r, rfl, h9, hr, hr2⟩; have h9 := h9.symm; subst h9)
    go_ret
    exact ⟨ret_int (HV.out r hr), rfl⟩
  · rw [vlI_no h]
    by_cases h1 : g < 1
    · go_enter Try.func13, Try.ntmps13
      go_wp2
      go_ret
      exact ⟨rfl, rfl⟩
    · have h2 : 44 < g := by omega
      go_enter Try.func13, Try.ntmps13
      go_wp2
      go_ret
      exact ⟨rfl, rfl⟩
theorem rvalue_any (g : Int) (w : World) : Calls Try.prog 14 #[.int .i64 g] w fun e w' => e = .returned (.int .i64 (vlI g)) ∧ w' = w := by
  by_cases h : 1 ≤ g ∧ g ≤ 44
  · obtain ⟨G, rfl⟩ : ∃ G : Nat, g = G := ⟨g.toNat, by omega⟩
    obtain ⟨D, rfl⟩ : ∃ D : Nat, G = D + 1 := ⟨G - 1, by omega⟩
    have hD : D ≤ 43 := by omega
    have hp := pow_gain (g := D + 1) (by omega)
    have hs := fun w => sqrtR_any (2 ^ D) (by simp at hp; omega) w
    have HV : Hid (∀ r, Root (2 ^ D) r → (r : Int) = vlI ((D + 1 : Nat) : Int)) := fun r hr => by
      unfold vlI
      rw [Int.toNat_natCast]
      exact congrArg Int.ofNat (vl_of (g := D + 1) (by omega) (by omega) (by simpa using hr))
    generalize vlI ((D + 1 : Nat) : Int) = V at *
    have HPM : Hid (∀ k, k ≤ D → 2 ^ k ≤ 8796093022208) := fun k hk => by
      have : 2 ^ k ≤ 2 ^ 43 := Nat.pow_le_pow_right (by decide) (by omega)
      omega
    have HS := hid hs
    have e1 : ((D + 1 : Nat) : Int) = (D : Int) + 1 := by omega
    rw [e1]
    obtain ⟨E, hE⟩ : ∃ E : Int, (D : Int) = E := ⟨_, rfl⟩
    have hE0 : 0 ≤ E := by omega
    have hE1 : E ≤ 43 := by omega
    have HE := hid hE
    rw [hE]
    clear hp h e1 hs hE
    go_enter Try.func14, Try.ntmps14
    go_wp2
    go_loop [3, 4] (fun p i => ∃ k : Nat, k ≤ D ∧ i = .int .i64 ((k : Int) + 1) ∧ p = .int .u64 ((2 ^ k : Nat) : Int)) (fun _ i => D + 2 - (intOf i).toNat)
    case atStart => exact ⟨0, by omega, rfl, rfl⟩
    case round =>
      obtain ⟨k, hk, rfl, rfl⟩ := hrel
      by_cases hl : k < D
      · have h2 : Hid (2 ^ (k + 1) = 2 * 2 ^ k) := by unfold Hid; rw [Nat.pow_succ]; omega
        have h3 := HPM.out k hk
        generalize 2 ^ k = P at *
        have c1 : (k : Int) < E := by have := HE.out; omega
        go_wp2
        exact ⟨⟨k + 1, by omega, by go_num, by rw [h2.out]; go_num⟩, by simp [intOf]; omega⟩
      · have hke : k = D := by omega
        subst hke
        have hs := HS.out
        have h3 := HPM.out k hk
        generalize 2 ^ k = P at *
        have c1 : (k : Int) = E := HE.out
        go_wp2_with (go_at_call 30; refine (hs _).mono ?_; rintro e w9 ⟨r, rfl, h9, hr, hr2⟩; have h9 := h9.symm; subst h9)
        go_ret
        exact ⟨ret_int (HV.out r hr), rfl⟩
  · rw [vlI_no h]
    by_cases h1 : g < 1
    · go_enter Try.func14, Try.ntmps14
      go_wp2
      go_ret
      exact ⟨rfl, rfl⟩
    · have h2 : 44 < g := by omega
      go_enter Try.func14, Try.ntmps14
      go_wp2
      go_ret
      exact ⟨rfl, rfl⟩
end Go.Proofs.Ytpmpdikabdaagaa
