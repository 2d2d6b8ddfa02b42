/- Contracts of the small functions: which of two is greater, how many pulses a band may have, what they cost, shapes and rooms, by the program and by the document. -/
import Derived.Test.YtlpjkahppogkiaaKa
import Derived.Deep.RegionHeld3
namespace Go.Proofs.Ytlpjkahppogkiaa
open Go.RowKit
set_option linter.unusedVariables false
set_option linter.unusedSimpArgs false

theorem nan_any (x : Int) (w : World) : Calls Try.prog 46 #[.int .i64 x] w fun e w' => e = .returned (.bool false) ∧ w' = w := by
  go_enter Try.func46, Try.ntmps46
  go_wp2
  go_ret
  exact ⟨rfl, rfl⟩
/-- Which of two is greater. -/
def cmpI (x y : Int) : Int := if x < y then -1 else if y < x then 1 else 0
theorem compare_any (x y : Int) (w : World) : Calls Try.prog 41 #[.int .i64 x, .int .i64 y] w fun e w' => e = .returned (.int .i64 (cmpI x y)) ∧ w' = w := by
  have hn := fun x w => nan_any x w
  by_cases h1 : x < y
  · have hc : cmpI x y = -1 := by unfold cmpI; rw [if_pos h1]
    rw [hc]
    go_enter Try.func41, Try.ntmps41
    go_wp2_with (go_at_call 46; refine (hn _ _).mono ?_; rintro e w9 ⟨rfl, h9⟩; have h9 := h9.symm; subst h9)
    go_ret
    exact ⟨rfl, rfl⟩
  · by_cases h2 : y < x
    · have hc : cmpI x y = 1 := by unfold cmpI; rw [if_neg h1, if_pos h2]
      rw [hc]
      go_enter Try.func41, Try.ntmps41
      go_wp2_with (go_at_call 46; refine (hn _ _).mono ?_; rintro e w9 ⟨rfl, h9⟩; have h9 := h9.symm; subst h9)
      go_ret
      exact ⟨rfl, rfl⟩
    · have hc : cmpI x y = 0 := by unfold cmpI; rw [if_neg h1, if_neg h2]
      rw [hc]
      go_enter Try.func41, Try.ntmps41
      go_wp2_with (go_at_call 46; refine (hn _ _).mono ?_; rintro e w9 ⟨rfl, h9⟩; have h9 := h9.symm; subst h9)
      go_ret
      exact ⟨rfl, rfl⟩
theorem cmp_pos (x y : Int) : decide (0 < cmpI x y) = decide (y < x) := by
  unfold cmpI
  by_cases h1 : x < y
  · rw [if_pos h1, decide_eq_false (by omega), decide_eq_false (by omega)]
  · rw [if_neg h1]
    by_cases h2 : y < x
    · rw [if_pos h2, decide_eq_true (by omega), decide_eq_true h2]
    · rw [if_neg h2, decide_eq_false (by omega), decide_eq_false h2]

theorem width_b (b : Nat) (hb : b < 5) (w : World) : Calls Try.prog 44 #[.int .i64 (b : Nat)] w fun e w' => e = .returned (.int .i64 (wd b : Nat)) ∧ w' = w := by
  have := width_any (b : Int) w
  rw [wdI_nat hb] at this
  exact this
theorem rwidth_b (b : Nat) (hb : b < 5) (w : World) : Calls Try.prog 20 #[.int .i64 (b : Nat)] w fun e w' => e = .returned (.int .i64 (wd b : Nat)) ∧ w' = w := by
  have := rwidth_any (b : Int) w
  rw [wdI_nat hb] at this
  exact this
theorem cost_b (b k : Nat) (hb : b < 5) (hk : k ≤ 12) (w : World) : Calls Try.prog 45 #[.int .i64 (wd b : Nat), .int .i64 (k : Nat)] w fun e w' => e = .returned (.tuple #[.int .i64 (co b k : Nat), .int .i64 0]) ∧ Below w.heap.size w w' :=
  cost_of bits_counts (fun x w h => len_any (x : Int) (by omega) (by omega) w) (wd b) k w (wd_pos hb).1 (wd_pos hb).2 hk
theorem rcost_b (b k : Nat) (hb : b < 5) (hk : k ≤ 12) (w : World) : Calls Try.prog 28 #[.int .i64 (wd b : Nat), .int .i64 (k : Nat)] w fun e w' => e = .returned (.int .i64 (co b k : Nat)) ∧ Below w.heap.size w w' :=
  rcost_of bits_counts (wd b) k w (wd_pos hb).1 (wd_pos hb).2 hk
theorem most_b (b : Nat) (hb : b < 5) (w : World) : Calls Try.prog 37 #[.int .i64 (b : Nat)] w fun e w' => e = .returned (.int .i64 (mx b : Nat)) ∧ w' = w := by
  have hw := fun w => width_b b hb w
  by_cases h : wd b = 1
  · have hm : mx b = 1 := by unfold mx; rw [if_pos h]
    rw [h] at hw
    rw [hm]
    clear hb h hm
    generalize (b : Int) = B at *
    go_enter Try.func37, Try.ntmps37
    go_wp2_with (go_at_call 44; refine (hw _).mono ?_; rintro e w9 ⟨rfl, h9⟩; have h9 := h9.symm; subst h9)
    go_ret
    exact ⟨rfl, rfl⟩
  · have hm : mx b = 12 := by unfold mx; rw [if_neg h]
    have hn : (((wd b : Nat) : Int) == 1) = false := by simp; omega
    rw [hm]
    clear hb h hm
    generalize ((wd b : Nat) : Int) = D at *
    generalize (b : Int) = B at *
    go_enter Try.func37, Try.ntmps37
    go_wp2_with (go_at_call 44; refine (hw _).mono ?_; rintro e w9 ⟨rfl, h9⟩; have h9 := h9.symm; subst h9)
    go_ret
    exact ⟨rfl, rfl⟩

/-! ### Shapes and rooms -/
theorem aright_any (n c : Int) (w : World) : Calls Try.prog 9 #[.int .i64 n, .int .i64 c] w fun e w' => e = .returned (.bool (rtB n c)) ∧ w' = w := by
  by_cases h1 : c = 1
  · subst h1
    by_cases h2 : 11 ≤ n
    · by_cases h3 : n ≤ 60
      · rw [rt_of (.inl ⟨rfl, h2, h3⟩)]
        go_enter Try.func9, Try.ntmps9
        go_wp2
        go_ret
        exact ⟨rfl, rfl⟩
      · rw [rt_no (by omega)]
        go_enter Try.func9, Try.ntmps9
        go_wp2
        go_ret
        exact ⟨rfl, rfl⟩
    · rw [rt_no (by omega)]
      go_enter Try.func9, Try.ntmps9
      go_wp2
      go_ret
      exact ⟨rfl, rfl⟩
  · by_cases h4 : c = 2
    · subst h4
      clear h1
      by_cases h2 : 17 ≤ n
      · by_cases h3 : n ≤ 60
        · rw [rt_of (.inr ⟨rfl, h2, h3⟩)]
          go_enter Try.func9, Try.ntmps9
          go_wp2
          go_ret
          exact ⟨rfl, rfl⟩
        · rw [rt_no (by omega)]
          go_enter Try.func9, Try.ntmps9
          go_wp2
          go_ret
          exact ⟨rfl, rfl⟩
      · rw [rt_no (by omega)]
        go_enter Try.func9, Try.ntmps9
        go_wp2
        go_ret
        exact ⟨rfl, rfl⟩
    · rw [rt_no (by omega)]
      have e1 : (c == 1) = false := neq_of h1
      have e2 : (c == 2) = false := neq_of h4
      clear h1 h4
      go_enter Try.func9, Try.ntmps9
      go_wp2
      go_ret
      exact ⟨rfl, rfl⟩
theorem rsright_any (n c : Int) (w : World) : Calls Try.prog 10 #[.int .i64 n, .int .i64 c] w fun e w' => e = .returned (.bool (rtB n c)) ∧ w' = w := by
  by_cases h3 : n ≤ 60
  · by_cases h1 : c = 1
    · subst h1
      by_cases h2 : 11 ≤ n
      · rw [rt_of (.inl ⟨rfl, h2, h3⟩)]
        go_enter Try.func10, Try.ntmps10
        go_wp2
        go_ret
        exact ⟨rfl, rfl⟩
      · rw [rt_no (by omega)]
        have h2' : decide (11 ≤ n) = false := decide_eq_false h2
        go_enter Try.func10, Try.ntmps10
        go_wp2
        go_ret
        exact ⟨rfl, rfl⟩
    · by_cases h4 : c = 2
      · subst h4
        clear h1
        by_cases h2 : 17 ≤ n
        · rw [rt_of (.inr ⟨rfl, h2, h3⟩)]
          go_enter Try.func10, Try.ntmps10
          go_wp2
          go_ret
          exact ⟨rfl, rfl⟩
        · rw [rt_no (by omega)]
          go_enter Try.func10, Try.ntmps10
          go_wp2
          go_ret
          exact ⟨by first | rfl | (apply ret_bool; simp; omega), rfl⟩
      · rw [rt_no (by omega)]
        have e1 : (c == 1) = false := neq_of h1
        have e2 : (c == 2) = false := neq_of h4
        clear h1 h4
        go_enter Try.func10, Try.ntmps10
        go_wp2
        go_ret
        exact ⟨rfl, rfl⟩
  · rw [rt_no (by omega)]
    go_enter Try.func10, Try.ntmps10
    go_wp2
    go_ret
    exact ⟨rfl, rfl⟩
theorem room_any (n c : Int) (w : World) : Calls Try.prog 11 #[.int .i64 n, .int .i64 c] w fun e w' => e = .returned (.int .i64 (rmI n c)) ∧ w' = w := by
  have hr := fun w => aright_any n c w
  have hm := fun w => most_any false w
  rw [show ((mostB false : Nat) : Int) = 45 from rfl] at hm
  by_cases h : rtB n c = true
  · rcases rt_parts h with ⟨rfl, h1, h2⟩ | ⟨rfl, h1, h2⟩
    · rw [h] at hr
      rw [rm_one h]
      clear h
      go_enter Try.func11, Try.ntmps11
      go_wp2_with (first | (go_at_call 9; refine (hr _).mono ?_; rintro e w9 ⟨rfl, h9⟩; have h9 := h9.symm; subst h9) | (go_at_call 23; refine (hm _).mono ?_; rintro e w8 ⟨rfl, h8⟩; have h8 := h8.symm; subst h8))
      go_ret
      exact ⟨ret_int (by omega), rfl⟩
    · rw [h] at hr
      rw [rm_two h]
      clear h
      have e1 : (8 * n - 131).tdiv 2 = (8 * n - 131) / 2 := by rw [Int.tdiv_eq_ediv_of_nonneg (by omega)]
      go_enter Try.func11, Try.ntmps11
      go_wp2_with (first | (go_at_call 9; refine (hr _).mono ?_; rintro e w9 ⟨rfl, h9⟩; have h9 := h9.symm; subst h9) | (go_at_call 23; refine (hm _).mono ?_; rintro e w8 ⟨rfl, h8⟩; have h8 := h8.symm; subst h8))
      go_ret
      exact ⟨ret_int (by omega), rfl⟩
  · have h : rtB n c = false := by simpa using h
    rw [h] at hr
    rw [rm_no h]
    clear h
    go_enter Try.func11, Try.ntmps11
    go_wp2_with (go_at_call 9; refine (hr _).mono ?_; rintro e w9 ⟨rfl, h9⟩; have h9 := h9.symm; subst h9)
    go_ret
    exact ⟨rfl, rfl⟩
theorem rroom_any (n c : Int) (w : World) : Calls Try.prog 12 #[.int .i64 n, .int .i64 c] w fun e w' => e = .returned (.int .i64 (rmI n c)) ∧ w' = w := by
  have hr := fun w => rsright_any n c w
  by_cases h : rtB n c = true
  · rcases rt_parts h with ⟨rfl, h1, h2⟩ | ⟨rfl, h1, h2⟩
    · rw [h] at hr
      rw [rm_one h]
      clear h
      go_enter Try.func12, Try.ntmps12
      go_wp2_with (go_at_call 10; refine (hr _).mono ?_; rintro e w9 ⟨rfl, h9⟩; have h9 := h9.symm; subst h9)
      go_ret
      exact ⟨ret_int (by omega), rfl⟩
    · rw [h] at hr
      rw [rm_two h]
      clear h
      have e1 : (8 * n - 131).tdiv 2 = (8 * n - 131) / 2 := by rw [Int.tdiv_eq_ediv_of_nonneg (by omega)]
      go_enter Try.func12, Try.ntmps12
      go_wp2_with (go_at_call 10; refine (hr _).mono ?_; rintro e w9 ⟨rfl, h9⟩; have h9 := h9.symm; subst h9)
      go_ret
      exact ⟨ret_int (by omega), rfl⟩
  · have h : rtB n c = false := by simpa using h
    rw [h] at hr
    rw [rm_no h]
    clear h
    go_enter Try.func12, Try.ntmps12
    go_wp2_with (go_at_call 10; refine (hr _).mono ?_; rintro e w9 ⟨rfl, h9⟩; have h9 := h9.symm; subst h9)
    go_ret
    exact ⟨rfl, rfl⟩
end Go.Proofs.Ytlpjkahppogkiaa
