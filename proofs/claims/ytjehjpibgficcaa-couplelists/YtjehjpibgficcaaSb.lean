/- Contracts: the sizes, the bounds, one pair coupled and parted, by the program and by the document. -/
import Derived.Test.YtjehjpibgficcaaSa
namespace Go.Proofs.Ytjehjpibgficcaa
open Go.RowKit
set_option linter.unusedVariables false
set_option linter.unusedSimpArgs false

theorem size_any (n : Int) (h0 : -4398046511104 ≤ n) (h1 : n ≤ 4398046511104) (w : World) : Calls Try.prog 26 #[.int .i64 n] w fun e w' => e = .returned (.int .i64 (sz n)) ∧ w' = w := by
  unfold sz
  by_cases h : n < 0
  · rw [if_pos h]
    have c1 : n < -n := by omega
    go_enter Try.func26, Try.ntmps26
    go_wp2
    go_ret
    exact ⟨rfl, rfl⟩
  · rw [if_neg h]
    have c1 : ¬ n < -n := by omega
    go_enter Try.func26, Try.ntmps26
    go_wp2
    go_ret
    exact ⟨rfl, rfl⟩
theorem rsize_any (n : Int) (h0 : -4398046511104 ≤ n) (h1 : n ≤ 4398046511104) (w : World) : Calls Try.prog 21 #[.int .i64 n] w fun e w' => e = .returned (.int .i64 (sz n)) ∧ w' = w := by
  unfold sz
  by_cases h : n < 0
  · rw [if_pos h]
    go_enter Try.func21, Try.ntmps21
    go_wp2
    go_ret
    exact ⟨rfl, rfl⟩
  · rw [if_neg h]
    go_enter Try.func21, Try.ntmps21
    go_wp2
    go_ret
    exact ⟨rfl, rfl⟩
theorem fair_any (x y M : Int) (m0 : 0 ≤ M) (m1 : M ≤ 4398046511104) (w : World) : Calls Try.prog 11 #[.int .i64 x, .int .i64 y, .int .i64 M] w fun e w' => e = .returned (.bool (frB x y M)) ∧ w' = w := by
  obtain ⟨K, hK⟩ : ∃ K, -M = K := ⟨_, rfl⟩
  have e : frB x y M = decide ((K ≤ x ∧ x ≤ M) ∧ K ≤ y ∧ y ≤ M) := by unfold frB; rw [hK]
  rw [e]
  clear e
  by_cases c1 : K ≤ x
  · by_cases c2 : x ≤ M
    · by_cases c3 : K ≤ y
      · by_cases c4 : y ≤ M
        · rw [decide_eq_true ⟨⟨c1, c2⟩, c3, c4⟩]
          go_enter Try.func11, Try.ntmps11
          go_wp2
          go_ret
          exact ⟨rfl, rfl⟩
        · rw [decide_eq_false (by omega)]
          have c4' : decide (y ≤ M) = false := decide_eq_false c4
          go_enter Try.func11, Try.ntmps11
          go_wp2
          go_ret
          exact ⟨rfl, rfl⟩
      · rw [decide_eq_false (by omega)]
        have c3' : decide (K ≤ y) = false := decide_eq_false c3
        go_enter Try.func11, Try.ntmps11
        go_wp2
        go_ret
        exact ⟨rfl, rfl⟩
    · rw [decide_eq_false (by omega)]
      have c2' : decide (x ≤ M) = false := decide_eq_false c2
      go_enter Try.func11, Try.ntmps11
      go_wp2
      go_ret
      exact ⟨rfl, rfl⟩
  · rw [decide_eq_false (by omega)]
    have c1' : decide (K ≤ x) = false := decide_eq_false c1
    go_enter Try.func11, Try.ntmps11
    go_wp2
    go_ret
    exact ⟨rfl, rfl⟩
theorem couple_any (l r : Int) (l0 : -1099511627776 ≤ l) (l1 : l ≤ 1099511627776) (r0 : -1099511627776 ≤ r) (r1 : r ≤ 1099511627776) (w : World) : Calls Try.prog 23 #[.int .i64 l, .int .i64 r] w fun e w' => e = .returned (.tuple #[.int .i64 (cM l r), .int .i64 (cA l r)]) ∧ w' = w := by
  have s1 := fun w => size_any l (by omega) (by omega) w
  have s2 := fun w => size_any r (by omega) (by omega) w
  unfold cM cA
  generalize sz l = sl at *
  generalize sz r = sr at *
  by_cases c : sr < sl
  · rw [if_pos c, if_pos c]
    by_cases c2 : 0 < l
    · rw [if_pos c2]
      go_enter Try.func23, Try.ntmps23
      go_wp2_with (first | (go_at_call_of 26 (Value.int .i64 l); refine (s1 _).mono ?_; rintro e w8 ⟨rfl, h8⟩; have h8 := h8.symm; subst h8) | (go_at_call_of 26 (Value.int .i64 r); refine (s2 _).mono ?_; rintro e w9 ⟨rfl, h9⟩; have h9 := h9.symm; subst h9))
      go_ret2
      exact ⟨rfl, rfl⟩
    · rw [if_neg c2]
      go_enter Try.func23, Try.ntmps23
      go_wp2_with (first | (go_at_call_of 26 (Value.int .i64 l); refine (s1 _).mono ?_; rintro e w8 ⟨rfl, h8⟩; have h8 := h8.symm; subst h8) | (go_at_call_of 26 (Value.int .i64 r); refine (s2 _).mono ?_; rintro e w9 ⟨rfl, h9⟩; have h9 := h9.symm; subst h9))
      go_ret2
      exact ⟨rfl, rfl⟩
  · rw [if_neg c, if_neg c]
    by_cases c2 : 0 < r
    · rw [if_pos c2]
      go_enter Try.func23, Try.ntmps23
      go_wp2_with (first | (go_at_call_of 26 (Value.int .i64 l); refine (s1 _).mono ?_; rintro e w8 ⟨rfl, h8⟩; have h8 := h8.symm; subst h8) | (go_at_call_of 26 (Value.int .i64 r); refine (s2 _).mono ?_; rintro e w9 ⟨rfl, h9⟩; have h9 := h9.symm; subst h9))
      go_ret2
      exact ⟨rfl, rfl⟩
    · rw [if_neg c2]
      go_enter Try.func23, Try.ntmps23
      go_wp2_with (first | (go_at_call_of 26 (Value.int .i64 l); refine (s1 _).mono ?_; rintro e w8 ⟨rfl, h8⟩; have h8 := h8.symm; subst h8) | (go_at_call_of 26 (Value.int .i64 r); refine (s2 _).mono ?_; rintro e w9 ⟨rfl, h9⟩; have h9 := h9.symm; subst h9))
      go_ret2
      exact ⟨rfl, rfl⟩
theorem rcouple_any (l r : Int) (l0 : -1099511627776 ≤ l) (l1 : l ≤ 1099511627776) (r0 : -1099511627776 ≤ r) (r1 : r ≤ 1099511627776) (w : World) : Calls Try.prog 12 #[.int .i64 l, .int .i64 r] w fun e w' => e = .returned (.tuple #[.int .i64 (cM l r), .int .i64 (cA l r)]) ∧ w' = w := by
  have s1 := fun w => rsize_any l (by omega) (by omega) w
  have s2 := fun w => rsize_any r (by omega) (by omega) w
  unfold cM cA
  generalize sz l = sl at *
  generalize sz r = sr at *
  by_cases c : sr < sl
  · rw [if_pos c, if_pos c]
    by_cases c2 : 0 < l
    · rw [if_pos c2]
      go_enter Try.func12, Try.ntmps12
      go_wp2_with (first | (go_at_call_of 21 (Value.int .i64 l); refine (s1 _).mono ?_; rintro e w8 ⟨rfl, h8⟩; have h8 := h8.symm; subst h8) | (go_at_call_of 21 (Value.int .i64 r); refine (s2 _).mono ?_; rintro e w9 ⟨rfl, h9⟩; have h9 := h9.symm; subst h9))
      go_ret2
      exact ⟨rfl, rfl⟩
    · rw [if_neg c2]
      go_enter Try.func12, Try.ntmps12
      go_wp2_with (first | (go_at_call_of 21 (Value.int .i64 l); refine (s1 _).mono ?_; rintro e w8 ⟨rfl, h8⟩; have h8 := h8.symm; subst h8) | (go_at_call_of 21 (Value.int .i64 r); refine (s2 _).mono ?_; rintro e w9 ⟨rfl, h9⟩; have h9 := h9.symm; subst h9))
      go_ret2
      exact ⟨rfl, rfl⟩
  · rw [if_neg c, if_neg c]
    by_cases c2 : 0 < r
    · rw [if_pos c2]
      go_enter Try.func12, Try.ntmps12
      go_wp2_with (first | (go_at_call_of 21 (Value.int .i64 l); refine (s1 _).mono ?_; rintro e w8 ⟨rfl, h8⟩; have h8 := h8.symm; subst h8) | (go_at_call_of 21 (Value.int .i64 r); refine (s2 _).mono ?_; rintro e w9 ⟨rfl, h9⟩; have h9 := h9.symm; subst h9))
      go_ret2
      exact ⟨rfl, rfl⟩
    · rw [if_neg c2]
      go_enter Try.func12, Try.ntmps12
      go_wp2_with (first | (go_at_call_of 21 (Value.int .i64 l); refine (s1 _).mono ?_; rintro e w8 ⟨rfl, h8⟩; have h8 := h8.symm; subst h8) | (go_at_call_of 21 (Value.int .i64 r); refine (s2 _).mono ?_; rintro e w9 ⟨rfl, h9⟩; have h9 := h9.symm; subst h9))
      go_ret2
      exact ⟨rfl, rfl⟩
theorem part_any (m a : Int) (l0 : -4398046511104 ≤ m) (l1 : m ≤ 4398046511104) (r0 : -4398046511104 ≤ a) (r1 : a ≤ 4398046511104) (w : World) : Calls Try.prog 25 #[.int .i64 m, .int .i64 a] w fun e w' => e = .returned (.tuple #[.int .i64 (pL m a), .int .i64 (pR m a)]) ∧ w' = w := by
  unfold pL pR
  by_cases c1 : 0 < m <;> by_cases c2 : 0 < a
  all_goals
    first | rw [if_pos c1, if_pos c1] | rw [if_neg c1, if_neg c1]
    first | rw [if_pos c2, if_pos c2] | rw [if_neg c2, if_neg c2]
    go_enter Try.func25, Try.ntmps25
    go_wp2
    go_ret2
    exact ⟨rfl, rfl⟩
theorem rpart_any (m a : Int) (l0 : -4398046511104 ≤ m) (l1 : m ≤ 4398046511104) (r0 : -4398046511104 ≤ a) (r1 : a ≤ 4398046511104) (w : World) : Calls Try.prog 14 #[.int .i64 m, .int .i64 a] w fun e w' => e = .returned (.tuple #[.int .i64 (pL m a), .int .i64 (pR m a)]) ∧ w' = w := by
  unfold pL pR
  by_cases c1 : 0 < m <;> by_cases c2 : 0 < a
  all_goals
    first | rw [if_pos c1, if_pos c1] | rw [if_neg c1, if_neg c1]
    first | rw [if_pos c2, if_pos c2] | rw [if_neg c2, if_neg c2]
    go_enter Try.func14, Try.ntmps14
    go_wp2
    go_ret2
    exact ⟨rfl, rfl⟩
end Go.Proofs.Ytjehjpibgficcaa
