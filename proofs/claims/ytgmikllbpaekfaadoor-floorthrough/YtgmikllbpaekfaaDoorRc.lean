/- Contracts: the document's line, floor and posts for gains. -/
import Derived.Test.YtgmikllbpaekfaaDoorRb
import Derived.BigQuiet
namespace Go.Proofs.YtgmikllbpaekfaaDoor
open Go.RowKit
set_option linter.unusedVariables false
set_option linter.unusedSimpArgs false

theorem rfpost_any (i : Nat) (hi : i < 16) (w : World) : Calls Tryd.prog 27 #[.int .i64 i] w fun e w' => e = .returned (.int .i64 (flPost i : Nat)) ∧ w' = w := by
  have ha : ∀ (q : Nat) (hq : q < 6) (w : World), Calls Tryd.prog 11 #[.int .i64 q] w fun e w' => e = .returned (.int .i64 (flAt q : Nat)) ∧ w' = w := fun q hq w => by
    rw [← flAtI_nat hq]; exact rfat_any _ w
  have hp : ∀ q, q < 6 → (flAt q ≤ i ↔ q ≤ flPost i) := fun q hq => by
    have hb : i = 0 ∨ i = 1 ∨ i = 2 ∨ i = 3 ∨ i = 4 ∨ i = 5 ∨ i = 6 ∨ i = 7 ∨ i = 8 ∨ i = 9 ∨ i = 10 ∨ i = 11 ∨ i = 12 ∨ i = 13 ∨ i = 14 ∨ i = 15 := by omega
    rcases six hq with rfl | rfl | rfl | rfl | rfl | rfl <;> rcases hb with rfl | rfl | rfl | rfl | rfl | rfl | rfl | rfl | rfl | rfl | rfl | rfl | rfl | rfl | rfl | rfl <;> decide
  have hF : flPost i < 6 := by unfold flPost; repeat' split
                               all_goals omega
  generalize flPost i = F at *
  have HP := hid hp
  have HA := hid ha
  have hin : ∀ q, q < 6 → flAt q ≤ 15 := fun q hq => at_in hq
  have HI := hid hin
  clear hp ha hin
  go_enter Tryd.func27, Tryd.ntmps27
  go_wp2
  go_loop [3, 4] (fun p q => ∃ k : Nat, k ≤ 6 ∧ q = .int .i64 k ∧ p = .int .i64 ((min (k - 1) F : Nat) : Int)) (fun _ q => 6 - (intOf q).toNat)
  case atStart => exact ⟨0, by omega, rfl, by simp⟩
  case round =>
    obtain ⟨k, hk, rfl, rfl⟩ := hrel
    by_cases hl : k < 6
    · have h1 := HP.out k hl
      have h2 := HA.out k hl
      have h3 := HI.out k hl
      have l1 : (k : Int) < 6 := by omega
      generalize flAt k = A at *
      by_cases c : k ≤ F
      · have c1 : (A : Int) ≤ (i : Int) := by omega
        have HM : Hid (((min (k + 1 - 1) F : Nat) : Int) = (k : Int)) := by unfold Hid; omega
        obtain ⟨M, hM⟩ : ∃ M : Int, ((min (k - 1) F : Nat) : Int) = M := ⟨_, rfl⟩
        rw [hM]
        clear h1 c hM
        go_wp2_with (go_at_call 11; refine (h2 _).mono ?_; rintro e w9 ⟨rfl, h9⟩; have h9 := h9.symm; subst h9)
        exact ⟨⟨k + 1, by omega, by go_num, by rw [HM.out]⟩, by simp [intOf]; omega⟩
      · have c1 : ¬ (A : Int) ≤ (i : Int) := by omega
        have HM : Hid (((min (k + 1 - 1) F : Nat) : Int) = ((min (k - 1) F : Nat) : Int)) := by unfold Hid; omega
        generalize ((min (k - 1) F : Nat) : Int) = M at *
        clear h1 c
        go_wp2_with (go_at_call 11; refine (h2 _).mono ?_; rintro e w9 ⟨rfl, h9⟩; have h9 := h9.symm; subst h9)
        exact ⟨⟨k + 1, by omega, by go_num, by rw [HM.out]⟩, by simp [intOf]; omega⟩
    · obtain rfl : k = 6 := by omega
      have HM : Hid (((min (6 - 1) F : Nat) : Int) = (F : Int)) := by unfold Hid; omega
      clear hl
      generalize ((min (6 - 1) F : Nat) : Int) = M at *
      go_wp2
      go_ret
      exact ⟨ret_int HM.out, rfl⟩

set_option maxHeartbeats 2000000 in
theorem rfline_any (v : Value) (x : List Int) (i : Nat) (hi : i < 16) (w : World) (hv : Rw .i64 w v x) (h : flOk x = true) : Calls Tryd.prog 16 #[v, .int .i64 i] w fun e w' => e = .returned (.int .i64 (flLn x i)) ∧ ∃ m, w' = w.drewN m := by
  obtain ⟨a, cap, rfl, ha⟩ := hv
  have hb := fun j => flOk_at h j
  obtain ⟨hl6, _⟩ := flOk_parts h
  rw [hl6] at ha ⊢
  obtain ⟨g, off, rfl, hlt, hc⟩ := ha.resolve_left (fun e => by rw [e] at hl6; simp at hl6)
  have hp := fun w => rfpost_any i hi w
  by_cases h15 : i < 15
  · obtain ⟨q1, q2, q3⟩ := post_of h15
    have HO : Hid (flLn x i = stp (x.getD (flPost i) 0) (x.getD (flPost i + 1) 0) (i - flAt (flPost i)) (flAt (flPost i + 1) - flAt (flPost i))) := by unfold Hid flLn; rw [if_neg (by omega)]
    generalize flPost i = p at *
    obtain ⟨P, hP⟩ : ∃ P : Nat, p + 1 = P := ⟨_, rfl⟩
    rw [hP] at HO q3
    have hu := at_up q1
    rw [hP] at hu
    have c0 := hc p (by omega)
    have c1 := hc P (by omega)
    have b0 := hb p
    have b1 := hb P
    have a0 : ∀ w, Calls Tryd.prog 11 #[.int .i64 (p : Nat)] w fun e w' => e = .returned (.int .i64 (flAt p : Nat)) ∧ w' = w := fun w => by
      rw [← flAtI_nat (p := p) (by omega)]; exact rfat_any _ w
    have a1 : ∀ w, Calls Tryd.prog 11 #[.int .i64 (P : Nat)] w fun e w' => e = .returned (.int .i64 (flAt P : Nat)) ∧ w' = w := fun w => by
      rw [← flAtI_nat (p := P) (by omega)]; exact rfat_any _ w
    unfold stp at HO
    generalize x.getD p 0 = Y at *
    generalize x.getD P 0 = Z at *
    generalize flAt p = A at *
    generalize flAt P = B at *
    have e1 : (p : Int) + 1 = (P : Int) := by omega
    have p5 : ((p : Int) == 5) = false := neq_of (by omega)
    have P6 : (P : Int) < 6 := by omega
    have p6 : (p : Int) < 6 := by omega
    obtain ⟨D, hD⟩ : ∃ D, Z - Y = D := ⟨_, rfl⟩
    have d1 : -44 ≤ D := by omega
    have d2 : D ≤ 44 := by omega
    obtain ⟨K, hK⟩ : ∃ K : Nat, i - A = K := ⟨_, rfl⟩
    obtain ⟨d, hd⟩ : ∃ d : Nat, B - A = d := ⟨_, rfl⟩
    have e2 : (i : Int) - (A : Int) = (K : Int) := by omega
    have e3 : (B : Int) - (A : Int) = (d : Int) := by omega
    have k1 : (K : Int) ≤ 15 := by omega
    have k2 : (d : Int) ≤ 15 := by omega
    have k3 : (1 : Int) ≤ (d : Int) := by omega
    rw [hD, hK, hd] at HO
    have hs := share_bd D K d (by omega) (by omega)
    obtain ⟨M, hM⟩ : ∃ M : Int, D * (K : Int) = M := ⟨_, rfl⟩
    have m1 : -660 ≤ M := by
      have : (-44) * (K : Int) ≤ D * (K : Int) := Int.mul_le_mul_of_nonneg_right d1 (by omega)
      omega
    have m2 : M ≤ 660 := by
      have : D * (K : Int) ≤ 44 * (K : Int) := Int.mul_le_mul_of_nonneg_right d2 (by omega)
      omega
    rw [hM] at HO hs
    have hs2 : -44 ≤ M.tdiv (d : Int) ∧ M.tdiv (d : Int) ≤ 44 := by
      by_cases hD0 : 0 ≤ D
      · have := hs.1 hD0; omega
      · have := hs.2 (by omega); omega
    have Ap : (A : Int) ≤ 15 := by omega
    have Bp : (B : Int) ≤ 15 := by omega
    have Ip : (i : Int) < 15 := by omega
    have yb := b0.1
    have yb2 := b0.2
    have zb := b1.1
    have zb2 := b1.2
    clear hs hb hc ha b0 b1 hi h15 q1 q2 q3 hu hP hK hd
    by_cases hn : M < 0
    · obtain ⟨N, hN⟩ : ∃ N : Int, -M = N := ⟨_, rfl⟩
      have e4 : N.tdiv (d : Int) = -(M.tdiv (d : Int)) := by rw [← hN, Int.neg_tdiv]
      obtain ⟨Q, hQ⟩ : ∃ Q : Int, N.tdiv (d : Int) = Q := ⟨_, rfl⟩
      have HR : Hid (flLn x i = Y - Q) := by unfold Hid; rw [HO.out]; omega
      have Q1 : -44 ≤ Q := by omega
      have Q2 : Q ≤ 44 := by omega
      have n1 : 0 < N := by omega
      have n2 : N ≤ 660 := by omega
      clear HO hs2 e4
      go_enter Tryd.func16, Tryd.ntmps16
      go_wp2_with (go_at_call 27; refine (hp _).mono ?_; rintro e w9 ⟨rfl, h9⟩; have h9 := h9.symm; subst h9)
      go_quiet ((go_at_call 11; exact Calls.quiet_of_same (a0 _)))
      go_wp2_with (first | (go_at_call_of 11 ((p : Nat) : Int); refine (a0 _).mono ?_; rintro e w9 ⟨rfl, h9⟩; have h9 := h9.symm; subst h9) | (go_at_call_of 11 ((P : Nat) : Int); refine (a1 _).mono ?_; rintro e w9 ⟨rfl, h9⟩; have h9 := h9.symm; subst h9))
      go_quiet (fail)
      go_wp2
      go_ret
      exact ⟨ret_int HR.out.symm, _, World.drewN_drewN _ _ _⟩
    · obtain ⟨Q, hQ⟩ : ∃ Q : Int, M.tdiv (d : Int) = Q := ⟨_, rfl⟩
      have HR : Hid (flLn x i = Y + Q) := by unfold Hid; rw [HO.out]; omega
      have Q1 : -44 ≤ Q := by omega
      have Q2 : Q ≤ 44 := by omega
      clear HO hs2
      go_enter Tryd.func16, Tryd.ntmps16
      go_wp2_with (go_at_call 27; refine (hp _).mono ?_; rintro e w9 ⟨rfl, h9⟩; have h9 := h9.symm; subst h9)
      go_quiet ((go_at_call 11; exact Calls.quiet_of_same (a0 _)))
      go_wp2_with (first | (go_at_call_of 11 ((p : Nat) : Int); refine (a0 _).mono ?_; rintro e w9 ⟨rfl, h9⟩; have h9 := h9.symm; subst h9) | (go_at_call_of 11 ((P : Nat) : Int); refine (a1 _).mono ?_; rintro e w9 ⟨rfl, h9⟩; have h9 := h9.symm; subst h9))
      go_quiet (fail)
      go_wp2
      go_ret
      exact ⟨ret_int HR.out.symm, _, World.drewN_drewN _ _ _⟩
  · obtain rfl : i = 15 := by omega
    have c5 := hc 5 (by omega)
    have HO : Hid (flLn x 15 = x.getD 5 0) := rfl
    have hp2 : ∀ w, Calls Tryd.prog 27 #[.int .i64 15] w fun e w' => e = .returned (.int .i64 5) ∧ w' = w := hp
    clear hp hc hb ha
    generalize x.getD 5 0 = Y at *
    go_enter Tryd.func16, Tryd.ntmps16
    go_wp2_with (go_at_call 27; refine (hp2 _).mono ?_; rintro e w9 ⟨rfl, h9⟩; have h9 := h9.symm; subst h9)
    go_ret
    exact ⟨ret_int HO.out.symm, 0, rfl⟩

theorem rffloor_any (v : Value) (x : List Int) (i : Nat) (hi : i < 16) (w : World) (hv : Rw .i64 w v x) (h : flOk x = true) : Calls Tryd.prog 17 #[v, .int .i64 i] w fun e w' => e = .returned (.int .i64 (flFl x i)) ∧ ∃ m, w' = w.drewN m := by
  have hl := rfline_any v x i hi w hv h
  have hval := fun w => rvalue_any (flLn x i) w
  have HO : Hid (∀ V, vlI (flLn x i) = V → flFl x i = if V < 1 then 1 else V) := fun V hV => by unfold flFl; rw [hV]
  have hb := vlI_bd (flLn x i)
  obtain ⟨V, hV⟩ : ∃ V, vlI (flLn x i) = V := ⟨_, rfl⟩
  have HR := hid (HO.out V hV)
  rw [hV] at hval hb
  have b1 := hb.1
  have b2 := hb.2
  obtain ⟨a, cap, rfl, _⟩ := hv
  generalize flLn x i = L at *
  have I1 : (i : Int) < 16 := by omega
  clear HO hV hb h hi
  by_cases c : V < 1
  · have HR2 : Hid (flFl x i = 1) := by unfold Hid; rw [HR.out, if_pos c]
    go_enter Tryd.func17, Tryd.ntmps17
    go_wp2_with (first | (go_at_call 16; refine hl.mono ?_; rintro e w9 ⟨rfl, m, hm⟩) | (go_at_call 21; refine (hval _).mono ?_; rintro e w8 ⟨rfl, h8⟩; have h8 := h8.symm; subst h8))
    go_ret
    exact ⟨ret_int HR2.out.symm, m, rfl⟩
  · have HR2 : Hid (flFl x i = V) := by unfold Hid; rw [HR.out, if_neg c]
    go_enter Tryd.func17, Tryd.ntmps17
    go_wp2_with (first | (go_at_call 16; refine hl.mono ?_; rintro e w9 ⟨rfl, m, hm⟩) | (go_at_call 21; refine (hval _).mono ?_; rintro e w8 ⟨rfl, h8⟩; have h8 := h8.symm; subst h8))
    go_ret
    exact ⟨ret_int HR2.out.symm, m, rfl⟩

theorem rffit_any (v : Value) (x : List Int) (q : Int) (p : Nat) (hp : p < 6) (h0 : 0 ≤ q) (h1 : q ≤ 12) (w : World) (hv : Rw .i64 w v x) (h : gokB x = true) : Calls Tryd.prog 20 #[v, .int .i64 q, .int .i64 p] w fun e w' => e = .returned (.int .i64 (flFit x q p)) ∧ w' = w := by
  obtain ⟨a, cap, rfl, ha⟩ := hv
  have hl := gok_len h
  rw [hl] at ha ⊢
  by_cases hq : q = 0
  · subst hq
    rw [fit_zero]
    clear ha
    go_enter Tryd.func20, Tryd.ntmps20
    go_wp2
    go_ret
    exact ⟨rfl, rfl⟩
  obtain ⟨g, off, rfl, hlt, hc⟩ := ha.resolve_left (fun e => by rw [e] at hl; simp at hl)
  have e0 : (q == 0) = false := neq_of hq
  have c4 := hc 4 (by omega)
  have HO : Hid (flFit x q p = if x.getD (min p 4) 0 - 13 + q < 0 then 0 else if 44 < x.getD (min p 4) 0 - 13 + q then 44 else x.getD (min p 4) 0 - 13 + q) := by unfold Hid flFit; rw [if_neg hq]
  have hb := gok_bd h (min p 4) (by omega)
  have hb4 := gok_bd h 4 (by omega)
  by_cases hp4 : p < 4
  · have cp := hc p (by omega)
    rw [show min p 4 = p by omega] at HO hb
    have P4 : (p : Int) < 4 := by omega
    have P0 : (0 : Int) ≤ (p : Int) := by omega
    generalize x.getD p 0 = X at *
    generalize x.getD 4 0 = X4 at *
    have b1 := hb.1
    have b2 := hb.2
    obtain ⟨S, hS⟩ : ∃ S, X - 13 + q = S := ⟨_, rfl⟩
    rw [hS] at HO
    have s1 : -13 ≤ S := by omega
    have s2 : S ≤ 43 := by omega
    clear hc hb ha hp hq hb4
    by_cases n0 : S < 0
    · have HR : Hid (flFit x q p = 0) := by unfold Hid; rw [HO.out, if_pos n0]
      clear HO
      go_enter Tryd.func20, Tryd.ntmps20
      go_wp2
      go_ret
      exact ⟨ret_int HR.out.symm, rfl⟩
    · have HR : Hid (flFit x q p = S) := by unfold Hid; rw [HO.out, if_neg n0, if_neg (by omega)]
      have n1 : S ≤ 44 := by omega
      clear HO
      go_enter Tryd.func20, Tryd.ntmps20
      go_wp2
      go_ret
      exact ⟨ret_int HR.out.symm, rfl⟩
  · rw [show min p 4 = 4 by omega] at HO
    have P4 : ¬ (p : Int) < 4 := by omega
    generalize x.getD 4 0 = X at *
    have b1 := hb4.1
    have b2 := hb4.2
    obtain ⟨S, hS⟩ : ∃ S, X - 13 + q = S := ⟨_, rfl⟩
    rw [hS] at HO
    have s1 : -13 ≤ S := by omega
    have s2 : S ≤ 43 := by omega
    clear hc hb ha hp hq hb4
    by_cases n0 : S < 0
    · have HR : Hid (flFit x q p = 0) := by unfold Hid; rw [HO.out, if_pos n0]
      clear HO
      go_enter Tryd.func20, Tryd.ntmps20
      go_wp2
      go_ret
      exact ⟨ret_int HR.out.symm, rfl⟩
    · have HR : Hid (flFit x q p = S) := by unfold Hid; rw [HO.out, if_neg n0, if_neg (by omega)]
      have n1 : S ≤ 44 := by omega
      clear HO
      go_enter Tryd.func20, Tryd.ntmps20
      go_wp2
      go_ret
      exact ⟨ret_int HR.out.symm, rfl⟩
end Go.Proofs.YtgmikllbpaekfaaDoor
