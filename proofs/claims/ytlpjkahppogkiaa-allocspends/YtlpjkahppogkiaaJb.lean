/- Contracts of both Rights of gains, of Most. -/
import Derived.Test.YtlpjkahppogkiaaIb
import Derived.Deep.QuietTactic
namespace Go.Proofs.Ytlpjkahppogkiaa
open Go.RowKit
set_option linter.unusedVariables false
set_option linter.unusedSimpArgs false

/-- Is the list one of gains? -/
def gokB (x : List Int) : Bool := decide (x.length = 5) && (List.range 5).all fun j => decide (0 ≤ x.getD j 0 ∧ x.getD j 0 ≤ 44)
theorem gok_iff (x : List Int) : gokB x = true ↔ x.length = 5 ∧ ∀ j, j < 5 → 0 ≤ x.getD j 0 ∧ x.getD j 0 ≤ 44 := by
  unfold gokB
  rw [Bool.and_eq_true, decide_eq_true_eq, List.all_eq_true]
  constructor
  · exact fun h => ⟨h.1, fun j hj => of_decide_eq_true (h.2 j (List.mem_range.2 hj))⟩
  · exact fun h => ⟨h.1, fun j hj => decide_eq_true (h.2 j (List.mem_range.1 hj))⟩
theorem gok_len {x : List Int} (h : gokB x = true) : x.length = 5 := ((gok_iff x).1 h).1
theorem gok_bd {x : List Int} (h : gokB x = true) (j : Nat) (hj : j < 5) : 0 ≤ x.getD j 0 ∧ x.getD j 0 ≤ 44 := ((gok_iff x).1 h).2 j hj
theorem gok_at {x : List Int} (h : gokB x = true) (j : Nat) (hj : j < 5) : ∃ G : Nat, x.getD j 0 = (G : Int) ∧ G ≤ 44 := by
  have := gok_bd h j hj
  exact ⟨(x.getD j 0).toNat, by omega, by omega⟩
theorem gok_of {x : List Int} (hl : x.length = 5) (h : ∀ j, j < 5 → 0 ≤ x.getD j 0 ∧ x.getD j 0 ≤ 44) : gokB x = true := (gok_iff x).2 ⟨hl, h⟩
def mostB (intra : Bool) : Nat := if intra = true then 30 else 45
theorem gok_no_len {x : List Int} (h : x.length ≠ 5) : gokB x = false := by
  cases hb : gokB x
  · rfl
  · exact absurd (gok_len hb) h
theorem gok_no_at {x : List Int} {k : Nat} (hk : k < 5) (h : x.getD k 0 < 0 ∨ 44 < x.getD k 0) : gokB x = false := by
  cases hb : gokB x
  · rfl
  · have := gok_bd hb k hk; omega
theorem right_any (a : Option Addr) (n cap : Nat) (x : List Int) (hn : n = x.length) (w : World) (hv : Rw .i64 w (.slice a n cap) x) : Calls Try.prog 30 #[.slice a n cap] w fun e w' => e = .returned (.bool (gokB x)) ∧ w' = w := by
  subst hn
  by_cases h : x.length = 5
  · have hbd : gokB x = true ∨ ∃ k, k < 5 ∧ (x.getD k 0 < 0 ∨ 44 < x.getD k 0) ∧ gokB x = false := by
      cases hb : gokB x
      · refine .inr ?_
        apply Classical.byContradiction
        intro hno
        have : gokB x = true := gok_of h fun j hj => by
          apply Classical.byContradiction
          intro hc
          exact hno ⟨j, hj, by omega, rfl⟩
        rw [this] at hb; cases hb
      · exact .inl rfl
    obtain ⟨b, off, rfl, hb, -⟩ := hv.at 0 (by omega)
    have hc : ∀ k, k < 5 → w.cell? ⟨b, off + k, none⟩ = some (.int .i64 (x.getD k 0)) := fun k hk => by
      obtain ⟨b', off', he, _, hc⟩ := hv.at k (by omega)
      simp at he
      obtain ⟨rfl, rfl⟩ := he
      exact hc
    have H5 : Hid (x.length = 5) := h
    have Hno := fun k hk h => @gok_no_at x k hk h
    have Hyes : (∀ j, j < 5 → 0 ≤ x.getD j 0 ∧ x.getD j 0 ≤ 44) → gokB x = true := fun h => gok_of H5.out h
    rw [h]
    clear hbd hv h
    go_enter Try.func30, Try.ntmps30
    go_wp2
    go_loop [7] (fun i => ∃ k : Nat, k ≤ 5 ∧ i = .int .i64 (k : Nat) ∧ (∀ j, j < k → 0 ≤ x.getD j 0 ∧ x.getD j 0 ≤ 44)) (fun i => 5 - (intOf i).toNat)
    case atStart => exact ⟨0, by omega, rfl, fun j hj => by omega⟩
    case round =>
      obtain ⟨k, hk, rfl, hall⟩ := hrel
      by_cases hlt : k < 5
      · have hck := hc k hlt
        have Hnk := Hno k hlt
        have Hall : (0 ≤ x.getD k 0 ∧ x.getD k 0 ≤ 44) → ∀ j, j < k + 1 → 0 ≤ x.getD j 0 ∧ x.getD j 0 ≤ 44 := fun h j hj => by
          by_cases e : j < k
          · exact hall j e
          · obtain rfl : j = k := by omega
            exact h
        clear hc Hno Hyes hall
        generalize x.getD k 0 = X at *
        have i1 : (0 : Int) ≤ (k : Int) := by omega
        have i2 : (k : Int) < 5 := by omega
        by_cases h0 : X < 0
        · have hg := Hnk (.inl h0)
          go_wp2
          go_ret
          exact ⟨rfl, rfl⟩
        · by_cases h1 : 44 < X
          · have hg := Hnk (.inr h1)
            go_wp2
            go_ret
            exact ⟨rfl, rfl⟩
          · have hA := Hall ⟨by omega, by omega⟩
            have h1' : X ≤ 44 := by omega
            have h0' : 0 ≤ X := by omega
            clear Hall Hnk h0 h1
            go_wp2
            exact ⟨⟨k + 1, by omega, by go_num, hA⟩, by simp [intOf]; omega⟩
      · obtain rfl : k = 5 := by omega
        have hg := Hyes hall
        clear hc Hno Hyes hall hlt
        go_wp2
        go_ret
        exact ⟨rfl, rfl⟩
  · have hg := gok_no_len h
    have h1 : ((x.length : Int) != 5) = true := by simp; omega
    generalize x.length = n at *
    rw [hg]
    clear h hv hg
    go_enter Try.func30, Try.ntmps30
    go_wp2
    go_ret
    exact ⟨rfl, rfl⟩
/-- Are the first k numbers those of gains, and the list as long? -/
def preB (x : List Int) (k : Nat) : Bool := decide (x.length = 5) && (List.range k).all fun j => decide (0 ≤ x.getD j 0 ∧ x.getD j 0 ≤ 44)
theorem preB_succ (x : List Int) (k : Nat) : preB x (k + 1) = (preB x k && decide (0 ≤ x.getD k 0 ∧ x.getD k 0 ≤ 44)) := by
  unfold preB; rw [List.range_succ, List.all_append]; simp [Bool.and_assoc]
theorem preB_all (x : List Int) : preB x x.length = gokB x := by
  unfold preB gokB
  by_cases h : x.length = 5
  · rw [h]
  · rw [decide_eq_false h]; rfl
theorem rright_any (a : Option Addr) (n cap : Nat) (x : List Int) (hn : n = x.length) (hl : x.length ≤ 100) (w : World) (hv : Rw .i64 w (.slice a n cap) x) : Calls Try.prog 26 #[.slice a n cap] w fun e w' => e = .returned (.bool (gokB x)) ∧ w' = w := by
  subst hn
  have he : ((x.length : Int) == 5) = preB x 0 := by
    unfold preB
    by_cases h : x.length = 5
    · rw [h]; rfl
    · rw [decide_eq_false h]; simp; omega
  have Hall : Hid (preB x x.length = gokB x) := preB_all x
  have hcell := fun i hi => hv.at i hi
  obtain ⟨n, hn⟩ : ∃ n, x.length = n := ⟨_, rfl⟩
  have hs := preB_succ x
  rw [hn] at he hl hcell Hall ⊢
  clear hv
  generalize preB x = pre at *
  generalize hP0 : pre 0 = p0 at he
  have HP0 := hid hP0
  clear hP0
  go_enter Try.func26, Try.ntmps26
  go_wp2
  go_loop [3, 4] (fun p i => ∃ k : Nat, k ≤ n ∧ i = .int .i64 (k : Nat) ∧ p = .bool (pre k)) (fun _ i => n - (intOf i).toNat)
  case atStart => exact ⟨0, by omega, rfl, by rw [HP0.out]⟩
  case round =>
    obtain ⟨k, hk, rfl, rfl⟩ := hrel
    by_cases hlt : k < n
    · obtain ⟨b, off, rfl, hb, hck⟩ := hcell k hlt
      have hsk := hs k
      clear hs hcell
      generalize x.getD k 0 = X at *
      have HQ : Hid (pre (k + 1) = (pre k && decide (0 ≤ X ∧ X ≤ 44))) := hsk
      clear hsk
      generalize pre k = r at *
      have i1 : (0 : Int) ≤ (k : Int) := by omega
      have i2 : (k : Int) < (n : Int) := by omega
      cases r
      · have HQ2 : Hid (pre (k + 1) = false) := HQ.out
        clear HQ
        go_wp2
        exact ⟨⟨k + 1, by omega, by go_num, by rw [HQ2.out]⟩, by simp [intOf]; omega⟩
      · by_cases h0 : X < 0
        · have HQ2 : Hid (pre (k + 1) = false) := by unfold Hid; rw [HQ.out, decide_eq_false (by omega)]; rfl
          clear HQ
          have h0' : decide (0 ≤ X) = false := decide_eq_false (by omega)
          go_wp2
          exact ⟨⟨k + 1, by omega, by go_num, by rw [HQ2.out]⟩, by simp [intOf]; omega⟩
        · have h0' : 0 ≤ X := by omega
          by_cases h1 : 44 < X
          · have HQ2 : Hid (pre (k + 1) = false) := by unfold Hid; rw [HQ.out, decide_eq_false (by omega)]; rfl
            clear HQ h0
            go_wp2
            exact ⟨⟨k + 1, by omega, by go_num, by rw [HQ2.out]; simp; omega⟩, by simp [intOf]; omega⟩
          · have h1' : X ≤ 44 := by omega
            have HQ2 : Hid (pre (k + 1) = true) := by unfold Hid; rw [HQ.out, decide_eq_true (by omega)]; rfl
            clear HQ h0 h1
            go_wp2
            exact ⟨⟨k + 1, by omega, by go_num, by rw [HQ2.out]⟩, by simp [intOf]; omega⟩
    · obtain rfl : k = n := by omega
      clear hs hcell hlt
      go_wp2
      go_ret
      exact ⟨ret_bool Hall.out, rfl⟩
theorem most_any (intra : Bool) (w : World) : Calls Try.prog 23 #[.bool intra] w fun e w' => e = .returned (.int .i64 (mostB intra : Nat)) ∧ w' = w := by
  cases intra
  · go_enter Try.func23, Try.ntmps23
    go_wp2
    go_ret
    exact ⟨rfl, rfl⟩
  · go_enter Try.func23, Try.ntmps23
    go_wp2
    go_ret
    exact ⟨rfl, rfl⟩
end Go.Proofs.Ytlpjkahppogkiaa
