/- Contracts: which numbers are coefficients, sizes, the norm's square; by the program and by the document. -/
import Derived.Test.YtpmpdikabdaagaaRows
import Derived.Test.YtpmpdikabdaagaaFa
namespace Go.Proofs.Ytpmpdikabdaagaa
open Go.RowKit
set_option linter.unusedVariables false
set_option linter.unusedSimpArgs false

set_option maxHeartbeats 1000000 in
theorem right_any (v : Value) (x : List Int) (w : World) (hv : Rw .i64 w v x) (hf : Fits x) : Calls Try.prog 36 #[v] w fun e w' => e = .returned (.bool (fairX x)) ∧ w' = w := by
  obtain ⟨a, cap, rfl, ha⟩ := hv
  by_cases h1 : x.length < 1
  · have HO : Hid (fairX x = false) := fairX_false_len (.inl h1)
    have i1 : (x.length : Int) < 1 := by omega
    go_enter Try.func36, Try.ntmps36
    go_wp2
    go_ret
    exact ⟨ret_bool HO.out.symm, rfl⟩
  by_cases h2 : 16 < x.length
  · have HO : Hid (fairX x = false) := fairX_false_len (.inr h2)
    have i1 : (16 : Int) < (x.length : Int) := by omega
    go_enter Try.func36, Try.ntmps36
    go_wp2
    go_ret
    exact ⟨ret_bool HO.out.symm, rfl⟩
  have i0 : (1 : Int) ≤ (x.length : Int) := by omega
  have i1 : (x.length : Int) ≤ 16 := by omega
  obtain ⟨b, off, rfl, hlt, hc⟩ := ha.resolve_left (by intro h; subst h; simp at h1)
  clear ha
  have HC : Hid (∀ i, i < x.length → w.cell? ⟨b, off + i, none⟩ = some (.int .i64 (x.getD i 0))) := hc
  clear hc
  go_enter Try.func36, Try.ntmps36
  go_wp2
  go_loop [15] (fun i => ∃ j : Nat, j ≤ x.length ∧ i = .int .i64 j ∧ ∀ i, i < j → -1048576 ≤ x.getD i 0 ∧ x.getD i 0 ≤ 1048576) (fun i => x.length - (intOf i).toNat)
  case atStart => exact ⟨0, by omega, rfl, fun i hi => by omega⟩
  case round =>
    obtain ⟨j, hj, rfl, hall⟩ := hrel
    have HA : Hid (∀ i, i < j → -1048576 ≤ x.getD i 0 ∧ x.getD i 0 ≤ 1048576) := hall
    clear hall
    by_cases hl : j < x.length
    · have g := HC.out j hl
      by_cases c1 : x.getD j 0 < -1048576
      · have HO : Hid (fairX x = false) := fairX_false_at hl (.inl c1)
        generalize x.getD j 0 = u at *
        go_wp2
        go_ret
        exact ⟨ret_bool HO.out.symm, rfl⟩
      · by_cases c2 : 1048576 < x.getD j 0
        · have HO : Hid (fairX x = false) := fairX_false_at hl (.inr c2)
          generalize x.getD j 0 = u at *
          go_wp2
          go_ret
          exact ⟨ret_bool HO.out.symm, rfl⟩
        · have HB : Hid (-1048576 ≤ x.getD j 0 ∧ x.getD j 0 ≤ 1048576) := ⟨by omega, by omega⟩
          generalize hu : x.getD j 0 = u at g c1 c2
          have HU : Hid _ := hu
          clear hu
          go_wp2
          refine ⟨⟨j + 1, by omega, by go_num, fun i hi => ?_⟩, by simp [intOf]; omega⟩
          by_cases e : i = j
          · subst e; exact HB.out
          · exact HA.out i (by omega)
    · have hje : j = x.length := by omega
      have HO : Hid (fairX x = true) := fairX_true (by omega) (by omega) (fun i hi => HA.out i (by omega))
      clear hje
      go_wp2
      go_ret
      exact ⟨ret_bool HO.out.symm, rfl⟩

set_option maxHeartbeats 1000000 in
theorem fair_any (v : Value) (x : List Int) (w : World) (hv : Rw .i64 w v x) (hf : Fits x) (hn : x.length ≤ 100) : Calls Try.prog 18 #[v] w fun e w' => e = .returned (.bool (fairX x)) ∧ w' = w := by
  obtain ⟨a, cap, rfl, ha⟩ := hv
  have i1 : (x.length : Int) ≤ 100 := by omega
  obtain ⟨B, hB⟩ : ∃ B, fairN x 0 = B := ⟨_, rfl⟩
  have HB : Hid _ := hB
  rw [fairN_zero] at hB
  go_enter Try.func18, Try.ntmps18
  by_cases c0 : 1 ≤ x.length ∧ x.length ≤ 16
  · have c1 : (0 : Int) < x.length := by omega
    have c2 : (x.length : Int) ≤ 16 := by omega
    rw [decide_eq_true c0] at hB
    subst hB
    clear c0
    go_wp2
    go_loop [3, 4] (fun ok i => ∃ j : Nat, j ≤ x.length ∧ i = .int .i64 j ∧ ok = .bool (fairN x j)) (fun _ i => x.length - (intOf i).toNat)
    case atStart => exact ⟨0, by omega, rfl, by rw [HB.out]⟩
    case round =>
      obtain ⟨j, hj, rfl, rfl⟩ := hrel
      by_cases hl : j < x.length
      · obtain ⟨b, off, rfl, hlt, hc⟩ := ha.resolve_left (by intro h; subst h; simp at hl)
        have g := hc j hl
        clear hc ha
        have HN : Hid _ := fairN_next x j
        cases hF : fairN x j
        · rw [hF] at HN
          generalize x.getD j 0 = u at *
          go_wp2
          exact ⟨⟨j + 1, by omega, by go_num, by rw [HN.out]; rfl⟩, by simp [intOf]; omega⟩
        · rw [hF] at HN
          generalize x.getD j 0 = u at *
          by_cases d1 : -1048576 ≤ u
          · by_cases d2 : u ≤ 1048576
            · go_wp2
              exact ⟨⟨j + 1, by omega, by go_num, by rw [HN.out]; simp [d1, d2]⟩, by simp [intOf]; omega⟩
            · go_wp2
              exact ⟨⟨j + 1, by omega, by go_num, by rw [HN.out]; simp [d1, d2]⟩, by simp [intOf]; omega⟩
          · go_wp2
            exact ⟨⟨j + 1, by omega, by go_num, by rw [HN.out]; simp [d1]⟩, by simp [intOf]; omega⟩
      · have hje : j = x.length := by omega
        have HP : Hid (fairX x = fairN x j) := by unfold Hid fairX; rw [hje]
        generalize fairN x j = F at *
        clear hje ha
        go_wp2
        go_ret
        exact ⟨ret_bool HP.out.symm, rfl⟩
  · rw [decide_eq_false c0] at hB
    subst hB
    have HF : Hid (∀ j, fairN x j = false) := fun j => by
      unfold fairN; rw [decide_eq_false_iff_not]; rintro ⟨h1, h2, _⟩; exact c0 ⟨h1, h2⟩
    by_cases c1 : (0 : Int) < x.length
    · have c2 : (16 : Int) < x.length := by omega
      clear c0
      go_wp2
      go_loop [3, 4] (fun ok i => ∃ j : Nat, j ≤ x.length ∧ i = .int .i64 j ∧ ok = .bool false) (fun _ i => x.length - (intOf i).toNat)
      case atStart => exact ⟨0, by omega, rfl, by simp; omega⟩
      case round =>
        obtain ⟨j, hj, rfl, rfl⟩ := hrel
        by_cases hl : j < x.length
        · clear ha
          go_wp2
          exact ⟨⟨j + 1, by omega, by go_num, rfl⟩, by simp [intOf]; omega⟩
        · clear ha
          go_wp2
          go_ret
          exact ⟨ret_bool (HF.out _).symm, rfl⟩
    · have c2 : x = [] := List.eq_nil_of_length_eq_zero (by omega)
      subst c2
      clear c0 c1 ha i1 hn
      go_wp2
      go_loop [3, 4] (fun ok i => i = .int .i64 0 ∧ ok = .bool false) (fun _ i => 0)
      case atStart => exact ⟨rfl, rfl⟩
      case round =>
        obtain ⟨rfl, rfl⟩ := hrel
        go_wp2
        go_ret
        exact ⟨ret_bool (HF.out _).symm, rfl⟩

theorem sz_any (v : Int) (w : World) (h1 : -9223372036854775807 ≤ v) (h2 : v ≤ 9223372036854775807) : Calls Try.prog 35 #[.int .i64 v] w fun e w' => e = .returned (.int .i64 (v.natAbs : Nat)) ∧ w' = w := by
  by_cases h : v < 0
  · have e : ((v.natAbs : Nat) : Int) = -v := by omega
    rw [e]
    go_enter Try.func35, Try.ntmps35
    go_wp2
    go_ret
    exact ⟨rfl, rfl⟩
  · have e : ((v.natAbs : Nat) : Int) = v := by omega
    rw [e]
    go_enter Try.func35, Try.ntmps35
    go_wp2
    go_ret
    exact ⟨rfl, rfl⟩

theorem square_no (v : Value) (x : List Int) (w : World) (hv : Rw .i64 w v x) (hf : Fits x) (h : fairX x = false) : Calls Try.prog 31 #[v] w fun e w' => e = .returned (.tuple #[.int .u64 0, .int .i64 1]) ∧ w' = w := by
  have hr := fun w hv => right_any v x w hv hf
  rw [h] at hr
  go_enter Try.func31, Try.ntmps31
  go_wp2_with (go_at_call 36; refine (hr _ hv).mono ?_; rintro e w1 ⟨rfl, rfl⟩)
  go_ret2
  exact ⟨rfl, rfl⟩

theorem coef_sq (u : Int) (h : -1048576 ≤ u ∧ u ≤ 1048576) : u.natAbs * u.natAbs ≤ 1099511627776 := Nat.mul_le_mul (show u.natAbs ≤ 1048576 by omega) (show u.natAbs ≤ 1048576 by omega)


set_option maxHeartbeats 1000000 in
theorem square_ok (v : Value) (x : List Int) (w : World) (hv : Rw .i64 w v x) (hf : Fits x) (h : fairX x = true) : Calls Try.prog 31 #[v] w fun e w' => e = .returned (.tuple #[.int .u64 (sq x x.length : Nat), .int .i64 0]) ∧ w' = w := by
  obtain ⟨h1, h2, h3⟩ := fairX_parts h
  have hr := fun w hv => right_any v x w hv hf
  rw [h] at hr
  have hv0 := hv
  obtain ⟨a, cap, rfl, ha⟩ := hv
  obtain ⟨b, off, rfl, hlt, hc⟩ := ha.resolve_left (by intro h; subst h; simp at h1)
  clear ha
  have HC : Hid (∀ i, i < x.length → w.cell? ⟨b, off + i, none⟩ = some (.int .i64 (x.getD i 0))) := hc
  clear hc
  have i1 : (x.length : Int) ≤ 16 := by omega
  have H3 : Hid (∀ i, -1048576 ≤ x.getD i 0 ∧ x.getD i 0 ≤ 1048576) := h3
  clear h3
  go_enter Try.func31, Try.ntmps31
  go_wp2_with (go_at_call 36; refine (hr _ hv0).mono ?_; rintro e w9 ⟨rfl, h9⟩; have h9 := h9.symm; subst h9)
  clear hr hv0
  go_loop [4, 12] (fun s i => ∃ j : Nat, j ≤ x.length ∧ i = .int .i64 j ∧ s = .int .u64 (sq x j : Nat)) (fun _ i => x.length - (intOf i).toNat)
  case atStart => exact ⟨0, by omega, rfl, rfl⟩
  case round =>
    obtain ⟨j, hj, rfl, rfl⟩ := hrel
    have hs := sq_le x 1048576 (fun j => by have := H3.out j; omega) j
    have hs2 : sq x j ≤ 17592186044416 := by omega
    clear hs
    by_cases hl : j < x.length
    · have g := HC.out j hl
      have hb := H3.out j
      have hc := coef_sq _ hb
      have HN : Hid (sq x (j + 1) = sq x j + (x.getD j 0).natAbs * (x.getD j 0).natAbs) := rfl
      have hm := natAbs_sq (x.getD j 0)
      generalize x.getD j 0 = u at *
      generalize u.natAbs * u.natAbs = A at *
      generalize sq x j = s at *
      replace hm := hm.symm
      obtain ⟨b1, b2⟩ := hb
      go_wp2
      exact ⟨⟨j + 1, by omega, by go_num, by rw [HN.out]; go_num⟩, by simp [intOf]; omega⟩
    · have hje : j = x.length := by omega
      have HP : Hid (sq x x.length = sq x j) := by unfold Hid; rw [hje]
      generalize sq x j = s at *
      clear hje
      go_wp2
      go_ret2
      exact ⟨by rw [HP.out]; rfl, rfl⟩

set_option maxHeartbeats 1000000 in
theorem rsquare_any (v : Value) (x : List Int) (w : World) (hv : Rw .i64 w v x) (h : fairX x = true) : Calls Try.prog 27 #[v] w fun e w' => e = .returned (.int .u64 (sq x x.length : Nat)) ∧ w' = w := by
  obtain ⟨h1, h2, h3⟩ := fairX_parts h
  obtain ⟨a, cap, rfl, ha⟩ := hv
  obtain ⟨b, off, rfl, hlt, hc⟩ := ha.resolve_left (by intro h; subst h; simp at h1)
  clear ha
  have HC : Hid (∀ i, i < x.length → w.cell? ⟨b, off + i, none⟩ = some (.int .i64 (x.getD i 0))) := hc
  clear hc
  have i1 : (x.length : Int) ≤ 16 := by omega
  have H3 : Hid (∀ i, -1048576 ≤ x.getD i 0 ∧ x.getD i 0 ≤ 1048576) := h3
  clear h3
  go_enter Try.func27, Try.ntmps27
  go_wp2
  go_loop [3, 4] (fun s i => ∃ j : Nat, j ≤ x.length ∧ i = .int .i64 j ∧ s = .int .u64 (sq x j : Nat)) (fun _ i => x.length - (intOf i).toNat)
  case atStart => exact ⟨0, by omega, rfl, rfl⟩
  case round =>
    obtain ⟨j, hj, rfl, rfl⟩ := hrel
    have hs := sq_le x 1048576 (fun j => by have := H3.out j; omega) j
    have hs2 : sq x j ≤ 17592186044416 := by omega
    clear hs
    by_cases hl : j < x.length
    · have g := HC.out j hl
      have hb := H3.out j
      have hc := coef_sq _ hb
      have hsz := fun w => sz_any (x.getD j 0) w (by omega) (by omega)
      have HN : Hid (sq x (j + 1) = sq x j + (x.getD j 0).natAbs * (x.getD j 0).natAbs) := rfl
      have hu : (x.getD j 0).natAbs ≤ 1048576 := by omega
      generalize (x.getD j 0).natAbs = u at *
      obtain ⟨A, hA⟩ : ∃ A, u * u = A := ⟨_, rfl⟩
      have hm : (u : Int) * (u : Int) = (A : Int) := by rw [← hA]; simp
      rw [hA] at hc HN
      clear hA
      generalize x.getD j 0 = z at *
      generalize sq x j = s at *
      clear hb
      go_wp2_with (go_at_call 35; refine (hsz _).mono ?_; rintro e w9 ⟨rfl, h9⟩; have h9 := h9.symm; subst h9)
      exact ⟨⟨j + 1, by omega, by go_num, by rw [HN.out]; go_num⟩, by simp [intOf]; omega⟩
    · have hje : j = x.length := by omega
      have HP : Hid (sq x x.length = sq x j) := by unfold Hid; rw [hje]
      generalize sq x j = s at *
      clear hje
      go_wp2
      go_ret
      exact ⟨ret_int (by rw [HP.out]), rfl⟩
end Go.Proofs.Ytpmpdikabdaagaa
