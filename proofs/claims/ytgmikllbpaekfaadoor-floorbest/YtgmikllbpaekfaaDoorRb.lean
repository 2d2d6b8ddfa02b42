/- Contracts: places of posts, and which posts are right, by the program and by the document. -/
import Derived.Test.YtgmikllbpaekfaaDoorRa
namespace Go.Proofs.YtgmikllbpaekfaaDoor
open Go.RowKit
set_option linter.unusedVariables false
set_option linter.unusedSimpArgs false

/-- The places, as the program's text lays them. -/
def Wp (w : World) : Prop := ∀ k : Nat, k < 6 → w.cell? ⟨0, k, none⟩ = some (.int .i64 (flAt k : Nat))
theorem Wp.lt {w : World} (h : Wp w) : 0 < w.heap.size := block_of_cell (h 0 (by omega))
theorem Wp.below {w w' : World} (h : Wp w) (hb : Below w.heap.size w w') : Wp w' := fun k hk => ((bcell hb).1 _ _ h.lt).trans (h k hk)
theorem Wp.grown {w w' : World} {g : Nat} (h : Wp w) (hg : w.grownBy w' (some g)) (h0 : g ≠ 0) : Wp w' := fun k hk => hg.cell (h k hk) (by simpa using fun e => h0 e.symm)

theorem row_max {k : IntKind} {w : World} {a : Option Addr} {len cap : Nat} {zs : List Int} (h : IsRow k w a len cap zs) : len ≤ 9223372036854775807 := by
  rcases h with ⟨_, rfl, rfl, _⟩ | ⟨x, _, hl, hm, _⟩
  · omega
  · unfold maxLen at hm; omega

theorem fat_any (p : Int) (w : World) (hw : Wp w) : Calls Tryd.prog 10 #[.int .i64 p] w fun e w' => e = .returned (.int .i64 (flAtI p)) ∧ w' = w := by
  by_cases h : 0 ≤ p ∧ p < 6
  · obtain ⟨k, rfl⟩ : ∃ k : Nat, p = k := ⟨p.toNat, by omega⟩
    have hk : k < 6 := by omega
    have q := hw k hk
    rw [flAtI_nat hk]
    clear hw
    generalize (flAt k : Nat) = A at *
    have h1 : (0 : Int) ≤ (k : Int) := by omega
    have h2 : (k : Int) < 6 := by omega
    clear h
    go_enter Tryd.func10, Tryd.ntmps10
    go_wp2
    go_ret
    exact ⟨rfl, rfl⟩
  · rw [flAtI_no h]
    clear hw
    by_cases h0 : p < 0
    · go_enter Tryd.func10, Tryd.ntmps10
      go_wp2
      go_ret
      exact ⟨rfl, rfl⟩
    · have h1 : 6 ≤ p := by omega
      clear h
      go_enter Tryd.func10, Tryd.ntmps10
      go_wp2
      go_ret
      exact ⟨rfl, rfl⟩
theorem rfat_any (p : Int) (w : World) : Calls Tryd.prog 11 #[.int .i64 p] w fun e w' => e = .returned (.int .i64 (flAtI p)) ∧ w' = w := by
  by_cases h : 0 ≤ p ∧ p < 6
  · have : p = 0 ∨ p = 1 ∨ p = 2 ∨ p = 3 ∨ p = 4 ∨ p = 5 := by omega
    rcases this with rfl | rfl | rfl | rfl | rfl | rfl
    all_goals
      go_enter Tryd.func11, Tryd.ntmps11
      go_wp2
      go_ret
      exact ⟨rfl, rfl⟩
  · rw [flAtI_no h]
    have e0 : (p == 0) = false := neq_of (by omega)
    have e1 : (p == 1) = false := neq_of (by omega)
    have e2 : (p == 2) = false := neq_of (by omega)
    have e3 : (p == 3) = false := neq_of (by omega)
    have e4 : (p == 4) = false := neq_of (by omega)
    have e5 : (p == 5) = false := neq_of (by omega)
    go_enter Tryd.func11, Tryd.ntmps11
    go_wp2
    go_ret
    exact ⟨rfl, rfl⟩

set_option maxHeartbeats 1000000 in
theorem far_any (v : Value) (x : List Int) (w : World) (hv : Rw .i64 w v x) (hn : x.length ≤ 100) : Calls Tryd.prog 24 #[v] w fun e w' => e = .returned (.bool (arB x)) ∧ w' = w := by
  obtain ⟨a, cap, rfl, ha⟩ := hv
  obtain ⟨n, hxn⟩ : ∃ n, x.length = n := ⟨_, rfl⟩
  have HN : Hid (0 < n → x ≠ []) := fun h e => by rw [e] at hxn; simp at hxn; omega
  have HT : Hid (∀ h : (∀ i, i < n → 0 ≤ x.getD i 0 ∧ x.getD i 0 ≤ 44), arB x = true) := fun h => arB_of (by rw [← hxn] at h; exact h)
  have HF : Hid (∀ i, i < n → (x.getD i 0 < 0 ∨ 44 < x.getD i 0) → arB x = false) := fun i hi h => arB_at (by rw [hxn]; exact hi) h
  rw [hxn] at ha hn ⊢
  have HA := hid ha
  clear hxn ha
  have hn2 : (n : Int) ≤ 100 := by omega
  go_enter Tryd.func24, Tryd.ntmps24
  go_wp2
  go_loop [7] (fun i => ∃ j : Nat, j ≤ n ∧ i = .int .i64 j ∧ ∀ i, i < j → 0 ≤ x.getD i 0 ∧ x.getD i 0 ≤ 44) (fun i => n - (intOf i).toNat)
  case atStart => exact ⟨0, by omega, rfl, fun i hi => by omega⟩
  case round =>
    obtain ⟨j, hj, rfl, hall⟩ := hrel
    have HB := hid hall
    clear hall
    by_cases hl : j < n
    · obtain ⟨b, off, ea, hlt, hc⟩ := HA.out.resolve_left (HN.out (by omega))
      subst ea
      have g := hc j hl
      clear hc
      by_cases c1 : x.getD j 0 < 0
      · have HO := hid (HF.out j hl (.inl c1))
        generalize x.getD j 0 = u at *
        go_wp2
        go_ret
        exact ⟨ret_bool HO.out.symm, rfl⟩
      · by_cases c2 : 44 < x.getD j 0
        · have HO := hid (HF.out j hl (.inr c2))
          generalize x.getD j 0 = u at *
          go_wp2
          go_ret
          exact ⟨ret_bool HO.out.symm, rfl⟩
        · have HO : Hid (∀ i, i < j + 1 → 0 ≤ x.getD i 0 ∧ x.getD i 0 ≤ 44) := fun i hi => by
            by_cases e : i = j
            · subst e; omega
            · exact HB.out i (by omega)
          have c3 : 0 ≤ x.getD j 0 := by omega
          have c4 : x.getD j 0 ≤ 44 := by omega
          clear c1 c2
          generalize x.getD j 0 = u at g c3 c4
          go_wp2
          exact ⟨⟨j + 1, by omega, by go_num, HO.out⟩, by simp [intOf]; omega⟩
    · obtain rfl : j = n := by omega
      have HO := hid (HT.out HB.out)
      go_wp2
      go_ret
      exact ⟨ret_bool HO.out.symm, rfl⟩
theorem fright_any (a : Option Addr) (cap : Nat) (x : List Int) (w : World) (hv : Rw .i64 w (.slice a x.length cap) x) (hn : x.length ≤ 100) : Calls Tryd.prog 12 #[.slice a x.length cap] w fun e w' => e = .returned (.bool (flOk x)) ∧ w' = w := by
  have ha := fun w hv => far_any (.slice a x.length cap) x w hv hn
  by_cases h : x.length = 6
  · have HO : Hid (flOk x = arB x) := by unfold Hid flOk; rw [decide_eq_true h]; rfl
    rw [h] at hv ha ⊢
    generalize arB x = r at *
    cases r
    all_goals
      go_enter Tryd.func12, Tryd.ntmps12
      go_wp2_with (go_at_call 24; refine (ha _ hv).mono ?_; rintro e w9 ⟨rfl, h9⟩; have h9 := h9.symm; subst h9)
      go_ret
      exact ⟨ret_bool HO.out.symm, rfl⟩
  · have HO : Hid (flOk x = false) := by unfold Hid flOk; rw [decide_eq_false h]; rfl
    have e : ((x.length : Int) == 6) = false := by simpa using fun e => h (by omega)
    clear ha h hn hv
    generalize x.length = n at *
    go_enter Tryd.func12, Tryd.ntmps12
    go_wp2
    go_ret
    exact ⟨ret_bool HO.out.symm, rfl⟩

def preF (x : List Int) (k : Nat) : Bool := decide (x.length = 6) && (List.range k).all fun j => decide (0 ≤ x.getD j 0 ∧ x.getD j 0 ≤ 44)
theorem preF_succ (x : List Int) (k : Nat) : preF x (k + 1) = (preF x k && decide (0 ≤ x.getD k 0 ∧ x.getD k 0 ≤ 44)) := by
  unfold preF; rw [List.range_succ, List.all_append]; simp [Bool.and_assoc]
theorem preF_all (x : List Int) : preF x x.length = flOk x := by
  unfold preF flOk
  congr 1
  unfold arB
  rw [Bool.eq_iff_iff]
  simp
theorem rfright_any (a : Option Addr) (n cap : Nat) (x : List Int) (hn : n = x.length) (hl : x.length ≤ 9223372036854775807) (w : World) (hv : Rw .i64 w (.slice a n cap) x) : Calls Tryd.prog 13 #[.slice a n cap] w fun e w' => e = .returned (.bool (flOk x)) ∧ w' = w := by
  subst hn
  have he : ((x.length : Int) == 6) = preF x 0 := by
    unfold preF
    by_cases h : x.length = 6
    · rw [h]; rfl
    · rw [decide_eq_false h]; simp; omega
  have Hall : Hid (preF x x.length = flOk x) := preF_all x
  have hcell := fun i hi => hv.at i hi
  obtain ⟨n, hn⟩ : ∃ n, x.length = n := ⟨_, rfl⟩
  have hs := preF_succ x
  rw [hn] at he hl hcell Hall ⊢
  clear hv
  generalize preF x = pre at *
  generalize hP0 : pre 0 = p0 at he
  have HP0 := hid hP0
  clear hP0
  go_enter Tryd.func13, Tryd.ntmps13
  go_wp2
  go_loop [3, 4] (fun p i => ∃ k : Nat, k ≤ n ∧ i = .int .i64 (k : Nat) ∧ p = .bool (pre k)) (fun _ i => n - (intOf i).toNat)
  case atStart => exact ⟨0, by omega, rfl, by rw [HP0.out]⟩
  case round =>
    obtain ⟨k, hk, rfl, rfl⟩ := hrel
    by_cases hlt : k < n
    · obtain ⟨b, off, rfl, hb, hck⟩ := hcell k hlt
      have hsk := hs k
      clear hs hcell
      generalize x.getD k 0 = X at *
      have HQ : Hid (pre (k + 1) = (pre k && decide (0 ≤ X ∧ X ≤ 44))) := hsk
      clear hsk
      generalize pre k = r at *
      have i1 : (0 : Int) ≤ (k : Int) := by omega
      have i2 : (k : Int) < (n : Int) := by omega
      cases r
      · have HQ2 : Hid (pre (k + 1) = false) := HQ.out
        clear HQ
        go_wp2
        exact ⟨⟨k + 1, by omega, by go_num, by rw [HQ2.out]⟩, by simp [intOf]; omega⟩
      · by_cases h0 : X < 0
        · have HQ2 : Hid (pre (k + 1) = false) := by unfold Hid; rw [HQ.out, decide_eq_false (by omega)]; rfl
          clear HQ
          have h0' : decide (0 ≤ X) = false := decide_eq_false (by omega)
          go_wp2
          exact ⟨⟨k + 1, by omega, by go_num, by rw [HQ2.out]⟩, by simp [intOf]; omega⟩
        · have h0' : 0 ≤ X := by omega
          by_cases h1 : 44 < X
          · have HQ2 : Hid (pre (k + 1) = false) := by unfold Hid; rw [HQ.out, decide_eq_false (by omega)]; rfl
            clear HQ h0
            go_wp2
            exact ⟨⟨k + 1, by omega, by go_num, by rw [HQ2.out]; simp; omega⟩, by simp [intOf]; omega⟩
          · have h1' : X ≤ 44 := by omega
            have HQ2 : Hid (pre (k + 1) = true) := by unfold Hid; rw [HQ.out, decide_eq_true (by omega)]; rfl
            clear HQ h0 h1
            go_wp2
            exact ⟨⟨k + 1, by omega, by go_num, by rw [HQ2.out]⟩, by simp [intOf]; omega⟩
    · obtain rfl : k = n := by omega
      clear hs hcell hlt
      go_wp2
      go_ret
      exact ⟨ret_bool Hall.out, rfl⟩
end Go.Proofs.YtgmikllbpaekfaaDoor
