/- Contracts: a pair turned, if it is within the bounds, by the program. -/
import Derived.Test.YtjehjpibgficcaaSb
import Derived.Laws.EntriesVeiled
namespace Go.Proofs.Ytjehjpibgficcaa
open Go.RowKit
set_option linter.unusedVariables false
set_option linter.unusedSimpArgs false

theorem clamp_yes {v M : Int} (h : -M ≤ v ∧ v ≤ M) : clampI v (-M) M = v := by unfold clampI; (repeat' split) <;> omega
theorem clamp_no {v M : Int} (hM : 0 ≤ M) (h : ¬ (-M ≤ v ∧ v ≤ M)) : clampI v (-M) M ≠ v := by unfold clampI; (repeat' split) <;> omega
theorem within_any (M x y : Int) (m0 : 0 ≤ M) (m1 : M ≤ 4398046511104) (b : Nat) (w : World) (h0 : w.cell? ⟨b, 0, none⟩ = some (.int .i64 x)) (h1 : w.cell? ⟨b, 1, none⟩ = some (.int .i64 y)) : Calls Try.prog 24 #[.int .i64 M, .slice (some ⟨b, 0, none⟩) 2 2] w fun e w' => e = .returned (.bool (frB x y M)) ∧ w' = w := by
  have k1 := fun w => clampP_any x (-M) M w
  have k2 := fun w => clampP_any y (-M) M w
  by_cases c1 : -M ≤ x ∧ x ≤ M
  · rw [clamp_yes c1] at k1
    by_cases c2 : -M ≤ y ∧ y ≤ M
    · rw [clamp_yes c2] at k2
      have HR : Hid (frB x y M = true) := frB_iff.2 ⟨c1, c2⟩
      clear c1 c2
      go_enter Try.func24, Try.ntmps24
      go_wp2
      go_loop [9] (fun i => ∃ j : Nat, j ≤ 2 ∧ i = .int .i64 j) (fun i => 2 - (intOf i).toNat)
      case atStart => exact ⟨0, by omega, rfl⟩
      case round =>
        obtain ⟨j, hj, rfl⟩ := hrel
        have hj3 : j = 0 ∨ j = 1 ∨ j = 2 := by omega
        rcases hj3 with rfl | rfl | rfl
        · simp only [show ((0 : Nat) : Int) = 0 from rfl]
          go_wp2_with (go_at_call 27; refine (k1 _).mono ?_; rintro e w9 ⟨rfl, h9⟩; have h9 := h9.symm; subst h9)
          exact ⟨⟨1, by omega, rfl⟩, by simp [intOf]⟩
        · simp only [show ((1 : Nat) : Int) = 1 from rfl]
          go_wp2_with (go_at_call 27; refine (k2 _).mono ?_; rintro e w9 ⟨rfl, h9⟩; have h9 := h9.symm; subst h9)
          exact ⟨⟨2, by omega, rfl⟩, by simp [intOf]⟩
        · simp only [show ((2 : Nat) : Int) = 2 from rfl]
          go_wp2
          go_ret
          exact ⟨ret_bool HR.out.symm, rfl⟩
    · have k2n := clamp_no m0 c2
      have HR : Hid (frB x y M = false) := by
        unfold Hid frB
        exact decide_eq_false fun h => c2 h.2
      generalize clampI y (-M) M = Y at *
      have k3 : (Y != y) = true := by simpa using k2n
      clear c1 c2 k2n
      go_enter Try.func24, Try.ntmps24
      go_wp2
      go_loop [9] (fun i => ∃ j : Nat, j ≤ 1 ∧ i = .int .i64 j) (fun i => 2 - (intOf i).toNat)
      case atStart => exact ⟨0, by omega, rfl⟩
      case round =>
        obtain ⟨j, hj, rfl⟩ := hrel
        have hj3 : j = 0 ∨ j = 1 := by omega
        rcases hj3 with rfl | rfl
        · simp only [show ((0 : Nat) : Int) = 0 from rfl]
          go_wp2_with (go_at_call 27; refine (k1 _).mono ?_; rintro e w9 ⟨rfl, h9⟩; have h9 := h9.symm; subst h9)
          exact ⟨⟨1, by omega, rfl⟩, by simp [intOf]⟩
        · simp only [show ((1 : Nat) : Int) = 1 from rfl]
          go_wp2_with (go_at_call 27; refine (k2 _).mono ?_; rintro e w9 ⟨rfl, h9⟩; have h9 := h9.symm; subst h9)
          go_ret
          exact ⟨ret_bool HR.out.symm, rfl⟩
  · have k1n := clamp_no m0 c1
    have HR : Hid (frB x y M = false) := by
      unfold Hid frB
      exact decide_eq_false fun h => c1 h.1
    generalize clampI x (-M) M = X at *
    have k3 : (X != x) = true := by simpa using k1n
    clear c1 k1n k2
    go_enter Try.func24, Try.ntmps24
    go_wp2
    go_loop [9] (fun i => i = .int .i64 0) (fun i => 2 - (intOf i).toNat)
    case atStart => rfl
    case round =>
      subst hrel
      go_wp2_with (go_at_call 27; refine (k1 _).mono ?_; rintro e w9 ⟨rfl, h9⟩; have h9 := h9.symm; subst h9)
      go_ret
      exact ⟨ret_bool HR.out.symm, rfl⟩
theorem coupling_any (w : World) : Calls Try.prog 18 #[] w fun e w' => e = .returned (.agg #[.int .i64 1099511627776, .func (.func 23) #[] #[]]) ∧ Below w.heap.size w w' := by
  go_enter Try.func18, Try.ntmps18
  go_wp2
  exact bodyPost_ret (v := .agg #[.int .i64 1099511627776, .func (.func 23) #[] #[]]) (by simp [results, Try.results18, go_sem]) rfl ⟨rfl, below1 _ _⟩
theorem parting_any (w : World) : Calls Try.prog 20 #[] w fun e w' => e = .returned (.agg #[.int .i64 4398046511104, .func (.func 25) #[] #[]]) ∧ Below w.heap.size w w' := by
  go_enter Try.func20, Try.ntmps20
  go_wp2
  exact bodyPost_ret (v := .agg #[.int .i64 4398046511104, .func (.func 25) #[] #[]]) (by simp [results, Try.results20, go_sem]) rfl ⟨rfl, below1 _ _⟩
theorem two_new (w : World) (o : Obj) (x y : Value) (t : TypeId) : ((w.alloc o).alloc (.cells #[x, y] t)).cell? ⟨w.heap.size + 1, 0, none⟩ = some x ∧ ((w.alloc o).alloc (.cells #[x, y] t)).cell? ⟨w.heap.size + 1, 1, none⟩ = some y := by
  constructor <;> simp [go_sem]
theorem pairC_any (x y : Int) (w : World) : Calls Try.prog 19 #[.agg #[.int .i64 1099511627776, .func (.func 23) #[] #[]], .int .i64 x, .int .i64 y] w fun e w' => e = .returned (.tuple #[.int .i64 (cWay.x x y), .int .i64 (cWay.y x y), .int .i64 (cWay.e x y)]) ∧ Below w.heap.size w w' := by
  have hwi := fun b w h0 h1 => within_any 1099511627776 x y (by omega) (by omega) b w h0 h1
  obtain ⟨q0, q1⟩ := two_new w (.cells #[.int .i64 1099511627776, .func (.func 23) #[] #[]] 35) (.int .i64 x) (.int .i64 y) 2
  unfold Way.x Way.y Way.e
  cases h : cWay.ok x y
  · have h' : frB x y 1099511627776 = false := h
    rw [h'] at hwi
    simp only [Bool.false_eq_true, if_false]
    go_enter Try.func19, Try.ntmps19
    go_wp2_with (go_at_call 24; refine (hwi _ _ q0 q1).mono ?_; rintro e w9 ⟨rfl, h9⟩; have h9 := h9.symm; subst h9)
    go_ret3
    exact ⟨rfl, below2 _ _ _⟩
  · have h' : frB x y 1099511627776 = true := h
    rw [h'] at hwi
    obtain ⟨⟨x0, x1⟩, y0, y1⟩ := frB_iff.1 h'
    have hc := fun w => couple_any x y x0 x1 y0 y1 w
    simp only [if_true]
    show Calls Try.prog _ _ w fun e w' => e = .returned (.tuple #[.int .i64 (cM x y), .int .i64 (cA x y), .int .i64 0]) ∧ Below w.heap.size w w'
    generalize cM x y = u at *
    generalize cA x y = v at *
    clear x0 x1 y0 y1
    go_enter Try.func19, Try.ntmps19
    go_wp2_with (first | (go_at_call 24; refine (hwi _ _ q0 q1).mono ?_; rintro e w9 ⟨rfl, h9⟩; have h9 := h9.symm; subst h9) | (go_at_call 23; refine (hc _).mono ?_; rintro e w8 ⟨rfl, h8⟩; have h8 := h8.symm; subst h8))
    go_ret3
    exact ⟨rfl, below2 _ _ _⟩
theorem pairP_any (x y : Int) (w : World) : Calls Try.prog 19 #[.agg #[.int .i64 4398046511104, .func (.func 25) #[] #[]], .int .i64 x, .int .i64 y] w fun e w' => e = .returned (.tuple #[.int .i64 (pWay.x x y), .int .i64 (pWay.y x y), .int .i64 (pWay.e x y)]) ∧ Below w.heap.size w w' := by
  have hwi := fun b w h0 h1 => within_any 4398046511104 x y (by omega) (by omega) b w h0 h1
  obtain ⟨q0, q1⟩ := two_new w (.cells #[.int .i64 4398046511104, .func (.func 25) #[] #[]] 35) (.int .i64 x) (.int .i64 y) 2
  unfold Way.x Way.y Way.e
  cases h : pWay.ok x y
  · have h' : frB x y 4398046511104 = false := h
    rw [h'] at hwi
    simp only [Bool.false_eq_true, if_false]
    go_enter Try.func19, Try.ntmps19
    go_wp2_with (go_at_call 24; refine (hwi _ _ q0 q1).mono ?_; rintro e w9 ⟨rfl, h9⟩; have h9 := h9.symm; subst h9)
    go_ret3
    exact ⟨rfl, below2 _ _ _⟩
  · have h' : frB x y 4398046511104 = true := h
    rw [h'] at hwi
    obtain ⟨⟨x0, x1⟩, y0, y1⟩ := frB_iff.1 h'
    have hc := fun w => part_any x y x0 x1 y0 y1 w
    simp only [if_true]
    show Calls Try.prog _ _ w fun e w' => e = .returned (.tuple #[.int .i64 (pL x y), .int .i64 (pR x y), .int .i64 0]) ∧ Below w.heap.size w w'
    generalize pL x y = u at *
    generalize pR x y = v at *
    clear x0 x1 y0 y1
    go_enter Try.func19, Try.ntmps19
    go_wp2_with (first | (go_at_call 24; refine (hwi _ _ q0 q1).mono ?_; rintro e w9 ⟨rfl, h9⟩; have h9 := h9.symm; subst h9) | (go_at_call 25; refine (hc _).mono ?_; rintro e w8 ⟨rfl, h8⟩; have h8 := h8.symm; subst h8))
    go_ret3
    exact ⟨rfl, below2 _ _ _⟩
end Go.Proofs.Ytjehjpibgficcaa
