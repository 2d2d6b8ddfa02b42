/- Contracts of the document's search. -/
import Derived.Test.YtiiiejhdeooabaaFd
namespace Go.Proofs.Ytiiiejhdeooabaa
open Go.RowKit
set_option linter.unusedVariables false
set_option linter.unusedSimpArgs false

theorem sms_mono {y : List Int} (hy : ∀ j, 0 ≤ y.getD j 0) {i n : Nat} (h : i ≤ n) : sms y i ≤ sms y n := by
  induction n with
  | zero => have : i = 0 := by omega
            subst this; exact Int.le_refl _
  | succ n ih =>
    by_cases e : i = n + 1
    · subst e; exact Int.le_refl _
    · have := ih (by omega); have := hy n; simp only [sms]; omega
theorem St.part {a y : List Int} {n m : Nat} (h : St a y n m) (hm : m ≤ 12) (j : Nat) (hj : j ≤ n) : 0 ≤ dts a y j ∧ dts a y j ≤ 3145716 ∧ 0 ≤ nrs y j ∧ nrs y j ≤ 144 := by
  obtain ⟨h1, h2, h3, h4, h5⟩ := sums h.ha h.hy j
  have h6 := sms_mono h.hy hj
  rw [h.hs] at h6
  have : sms y j * sms y j ≤ 12 * 12 := Int.mul_le_mul (by omega) (by omega) (by omega) (by omega)
  exact ⟨h4, by omega, h2, by omega⟩
theorem ret_two {a b c d : Int} (h : a = b) (h' : c = d) : Ending.returned (.tuple #[.int .i64 a, .int .i64 c]) = .returned (.tuple #[.int .i64 b, .int .i64 d]) := by rw [h, h']

set_option maxHeartbeats 2000000 in
theorem tried_any (va vy : Value) (a y : List Int) (n m i : Nat) (w : World) (ha : Rw .i64 w va a) (hy : Rw .i64 w vy y) (hS : St a y n m) (hm : m ≤ 11) (hi : i < n) (hn : n ≤ 16) : Calls Try.prog 29 #[va, vy, .int .i64 i] w fun e w' => e = .returned (.tuple #[.int .i64 (dI a y n i), .int .i64 (nI y n i)]) ∧ w' = w := by
  have hla := hS.la
  have hly := hS.ly
  obtain ⟨aa, ca, rfl, ha⟩ := ha
  obtain ⟨ay, cy, rfl, hy⟩ := hy
  rw [hla] at ha ⊢
  rw [hly] at hy ⊢
  obtain ⟨b1, o1, rfl, _, hc1⟩ := ha.resolve_left (by intro h; subst h; simp at hla; omega)
  obtain ⟨b2, o2, rfl, _, hc2⟩ := hy.resolve_left (by intro h; subst h; simp at hly; omega)
  clear ha hy
  have HD : Hid (dts a (inc y i) n = dI a y n i) := by unfold Hid dI; rw [dts_inc a y i (by omega), if_pos hi]
  have HQ : Hid (nrs (inc y i) n = nI y n i) := by unfold Hid nI; rw [nrs_inc y i (by omega), if_pos hi]; omega
  have HS : Hid (St a (inc y i) n (m + 1)) := hS.step i hi
  have HI : Hid (∀ j, (inc y i).getD j 0 = if j = i then y.getD j 0 + 1 else y.getD j 0) := fun j => inc_at y i j (by omega)
  have HY : Hid (∀ j, j < n → 0 ≤ y.getD j 0 ∧ y.getD j 0 ≤ 11 ∧ 0 ≤ a.getD j 0 ∧ a.getD j 0 ≤ 262143) := fun j hj => by
    have := hS.small hm j hj; omega
  have H1 : Hid _ := hc1
  have H2 : Hid _ := hc2
  have i1 : (n : Int) ≤ 16 := by omega
  clear hc1 hc2 hS hla hly
  go_enter Try.func29, Try.ntmps29
  go_wp2
  go_loop [8, 9, 10] (fun s q c => ∃ j : Nat, j ≤ n ∧ c = .int .i64 j ∧ s = .int .i64 (dts a (inc y i) j) ∧ q = .int .i64 (nrs (inc y i) j)) (fun _ _ c => n - (intOf c).toNat)
  case atStart => exact ⟨0, by omega, rfl, rfl, rfl⟩
  case round =>
    obtain ⟨j, hj, rfl, rfl, rfl⟩ := hrel
    obtain ⟨s1, s2, s3, s4⟩ := HS.out.part (by omega) j hj
    by_cases hl : j < n
    · have g1 := H1.out j hl
      have g2 := H2.out j hl
      obtain ⟨y1, y2, y3, y4⟩ := HY.out j hl
      have HN : Hid (dts a (inc y i) (j + 1) = dts a (inc y i) j + a.getD j 0 * (inc y i).getD j 0 ∧ nrs (inc y i) (j + 1) = nrs (inc y i) j + (inc y i).getD j 0 * (inc y i).getD j 0) := ⟨rfl, rfl⟩
      rw [HI.out j] at HN
      by_cases e : j = i
      · rw [if_pos e] at HN
        have e' : ((j : Int) == (i : Int)) = true := by simp [e]
        have p1 : 0 ≤ a.getD j 0 * (y.getD j 0 + 1) := Int.mul_nonneg (by omega) (by omega)
        have p2 : a.getD j 0 * (y.getD j 0 + 1) ≤ 262143 * 12 := Int.mul_le_mul (by omega) (by omega) (by omega) (by omega)
        have p3 : 0 ≤ (y.getD j 0 + 1) * (y.getD j 0 + 1) := Int.mul_nonneg (by omega) (by omega)
        have p4 : (y.getD j 0 + 1) * (y.getD j 0 + 1) ≤ 12 * 12 := Int.mul_le_mul (by omega) (by omega) (by omega) (by omega)
        generalize dts a (inc y i) j = s at *
        generalize nrs (inc y i) j = q at *
        generalize y.getD j 0 = u at *
        generalize a.getD j 0 = z at *
        obtain ⟨A, hA⟩ : ∃ A, z * (u + 1) = A := ⟨_, rfl⟩
        obtain ⟨B, hB⟩ : ∃ B, (u + 1) * (u + 1) = B := ⟨_, rfl⟩
        rw [hA] at p1 p2 HN
        rw [hB] at p3 p4 HN
        clear e H1 H2 HY HS HI
        go_wp2
        exact ⟨⟨j + 1, by omega, by go_num, by rw [HN.out.1], by rw [HN.out.2]⟩, by simp [intOf]; omega⟩
      · rw [if_neg e] at HN
        have e' : ((j : Int) == (i : Int)) = false := by simp; omega
        have p1 : 0 ≤ a.getD j 0 * y.getD j 0 := Int.mul_nonneg (by omega) (by omega)
        have p2 : a.getD j 0 * y.getD j 0 ≤ 262143 * 12 := Int.mul_le_mul (by omega) (by omega) (by omega) (by omega)
        have p3 : 0 ≤ y.getD j 0 * y.getD j 0 := Int.mul_nonneg (by omega) (by omega)
        have p4 : y.getD j 0 * y.getD j 0 ≤ 12 * 12 := Int.mul_le_mul (by omega) (by omega) (by omega) (by omega)
        generalize dts a (inc y i) j = s at *
        generalize nrs (inc y i) j = q at *
        generalize y.getD j 0 = u at *
        generalize a.getD j 0 = z at *
        obtain ⟨A, hA⟩ : ∃ A, z * u = A := ⟨_, rfl⟩
        obtain ⟨B, hB⟩ : ∃ B, u * u = B := ⟨_, rfl⟩
        rw [hA] at p1 p2 HN
        rw [hB] at p3 p4 HN
        clear e H1 H2 HY HS HI
        go_wp2
        exact ⟨⟨j + 1, by omega, by go_num, by rw [HN.out.1], by rw [HN.out.2]⟩, by simp [intOf]; omega⟩
    · have hje : j = n := by omega
      have HE : Hid (dts a (inc y i) j = dI a y n i ∧ nrs (inc y i) j = nI y n i) := by rw [hje]; exact ⟨HD.out, HQ.out⟩
      generalize dts a (inc y i) j = s at *
      generalize nrs (inc y i) j = q at *
      clear hje HD HQ
      go_wp2
      go_ret2
      exact ⟨ret_two HE.out.1 HE.out.2, rfl⟩

/-- What a comparison of two scores wants. -/
theorem St.scores {a y : List Int} {n m : Nat} (h : St a y n m) (hm : m ≤ 11) (i j : Nat) (hi : i < n) (hj : j < n) :
    0 ≤ dI a y n i * dI a y n i ∧ dI a y n i * dI a y n i ≤ 9895529152656 ∧ 0 ≤ dI a y n i * dI a y n i * nI y n j ∧ dI a y n i * dI a y n i * nI y n j ≤ 1424956197982464 := by
  obtain ⟨h1, h2, h3, h4, _⟩ := h.small hm i hi
  obtain ⟨_, _, k3, k4, _⟩ := h.small hm j hj
  have p1 : 0 ≤ dI a y n i * dI a y n i := Int.mul_nonneg h1 h1
  have p2 : dI a y n i * dI a y n i ≤ 3145716 * 3145716 := Int.mul_le_mul h2 h2 h1 (by omega)
  have p3 : 0 ≤ dI a y n i * dI a y n i * nI y n j := Int.mul_nonneg p1 (by omega)
  have p4 : dI a y n i * dI a y n i * nI y n j ≤ (3145716 * 3145716) * 144 := Int.mul_le_mul p2 k4 (by omega) (by omega)
  exact ⟨p1, by omega, p3, by omega⟩
end Go.Proofs.Ytiiiejhdeooabaa
