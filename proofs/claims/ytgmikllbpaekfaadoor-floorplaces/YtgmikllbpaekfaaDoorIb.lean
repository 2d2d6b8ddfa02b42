/- Contracts of Value, by the program and by the document; gains that are right, by the document. -/
import Derived.Test.YtgmikllbpaekfaaDoorNc
import Derived.Laws.BitsAllLaws
namespace Go.Proofs.YtgmikllbpaekfaaDoor
open Go.RowKit
set_option linter.unusedVariables false
set_option linter.unusedSimpArgs false

/-- The root. -/
def rootN : Nat → Nat
  | 0 => 0
  | n + 1 => if (rootN n + 1) * (rootN n + 1) ≤ n + 1 then rootN n + 1 else rootN n
theorem root_is (n : Nat) : Root n (rootN n) := by
  induction n with
  | zero => exact ⟨by decide, by decide⟩
  | succ n ih =>
    obtain ⟨h1, h2⟩ := ih
    rw [rootN]
    generalize rootN n = r at *
    have e : (r + 1 + 1) * (r + 1 + 1) = (r + 1) * (r + 1) + (r + 1) + (r + 1) + 1 := by
      rw [Nat.add_mul (r + 1) 1, Nat.mul_add (r + 1)]; omega
    split
    · exact ⟨by assumption, by omega⟩
    · exact ⟨by omega, by omega⟩
/-- A gain's value. -/
def vl (g : Nat) : Nat := if 1 ≤ g ∧ g ≤ 44 then rootN (2 ^ (g - 1)) else 0
theorem vl_root {g : Nat} (h1 : 1 ≤ g) (h2 : g ≤ 44) : Root (2 ^ (g - 1)) (vl g) := by
  unfold vl; rw [if_pos ⟨h1, h2⟩]; exact root_is _
theorem vl_of {g r : Nat} (h1 : 1 ≤ g) (h2 : g ≤ 44) (h : Root (2 ^ (g - 1)) r) : r = vl g := h.one (vl_root h1 h2)
theorem root_lt {n r k : Nat} (h : Root n r) (hn : n < k * k) : r < k := by
  rcases Nat.lt_or_ge r k with q | q
  · exact q
  · have := Nat.mul_le_mul q q
    have := h.1
    omega
theorem root_ge {n r k : Nat} (h : Root n r) (hn : k * k ≤ n) : k ≤ r := by
  rcases Nat.lt_or_ge r k with q | q
  · have := Nat.mul_le_mul (show r + 1 ≤ k by omega) (show r + 1 ≤ k by omega)
    have := h.2
    omega
  · exact q
def vlI (g : Int) : Int := (vl g.toNat : Nat)
theorem neq_of {a b : Int} (h : a ≠ b) : (a == b) = false := by simpa using h
theorem vlI_no {g : Int} (h : ¬ (1 ≤ g ∧ g ≤ 44)) : vlI g = 0 := by
  unfold vlI vl
  rw [if_neg (by omega)]; rfl
theorem pow_gain {g : Nat} (h : g ≤ 44) : 2 ^ (g - 1) ≤ 8796093022208 := by
  have : 2 ^ (g - 1) ≤ 2 ^ 43 := Nat.pow_le_pow_right (by decide) (by omega)
  omega
/-- Both Values, by a power that they have made. -/
theorem value_any (g : Int) (w : World) : Calls Tryd.prog 26 #[.int .i64 g] w fun e w' => e = .returned (.int .i64 (vlI g)) ∧ w' = w := by
  by_cases h : 1 ≤ g ∧ g ≤ 44
  · obtain ⟨G, rfl⟩ : ∃ G : Nat, g = G := ⟨g.toNat, by omega⟩
    obtain ⟨D, rfl⟩ : ∃ D : Nat, G = D + 1 := ⟨G - 1, by omega⟩
    have hD : D ≤ 43 := by omega
    have hp := pow_gain (g := D + 1) (by omega)
    have hs := fun w => sqrtP_any (2 ^ D) (by simp at hp; omega) w
    have HV : Hid (∀ r, Root (2 ^ D) r → (r : Int) = vlI ((D + 1 : Nat) : Int)) := fun r hr => by
      unfold vlI
      rw [Int.toNat_natCast]
      exact congrArg Int.ofNat (vl_of (g := D + 1) (by omega) (by omega) (by simpa using hr))
    generalize vlI ((D + 1 : Nat) : Int) = V at *
    have hp2 : ((2 ^ D : Nat) : Int) ≤ 8796093022208 := by simp at hp; omega
    have hp3 : (0 : Int) < ((2 ^ D : Nat) : Int) := by have : 0 < 2 ^ D := Nat.pow_pos (by decide)
                                                       omega
    have e1 : ((D + 1 : Nat) : Int) = (D : Int) + 1 := by omega
    rw [e1]
    have hpe : (2 : Int) ^ D = ((2 ^ D : Nat) : Int) := by simp
    generalize 2 ^ D = P at *
    clear hp h e1
    go_enter Tryd.func26, Tryd.ntmps26
    go_wp2_with (go_at_call 29; refine (hs _).mono ?_; rintro e w9 ⟨r, rfl, h9, hr, hr2⟩; have h9 := h9.symm; subst h9)
    go_ret
    exact ⟨ret_int (HV.out r hr), rfl⟩
  · rw [vlI_no h]
    by_cases h1 : g < 1
    · go_enter Tryd.func26, Tryd.ntmps26
      go_wp2
      go_ret
      exact ⟨rfl, rfl⟩
    · have h2 : 44 < g := by omega
      go_enter Tryd.func26, Tryd.ntmps26
      go_wp2
      go_ret
      exact ⟨rfl, rfl⟩
theorem rvalue_any (g : Int) (w : World) : Calls Tryd.prog 21 #[.int .i64 g] w fun e w' => e = .returned (.int .i64 (vlI g)) ∧ w' = w := by
  by_cases h : 1 ≤ g ∧ g ≤ 44
  · obtain ⟨G, rfl⟩ : ∃ G : Nat, g = G := ⟨g.toNat, by omega⟩
    obtain ⟨D, rfl⟩ : ∃ D : Nat, G = D + 1 := ⟨G - 1, by omega⟩
    have hD : D ≤ 43 := by omega
    have hp := pow_gain (g := D + 1) (by omega)
    have hs := fun w => sqrtR_any (2 ^ D) (by simp at hp; omega) w
    have HV : Hid (∀ r, Root (2 ^ D) r → (r : Int) = vlI ((D + 1 : Nat) : Int)) := fun r hr => by
      unfold vlI
      rw [Int.toNat_natCast]
      exact congrArg Int.ofNat (vl_of (g := D + 1) (by omega) (by omega) (by simpa using hr))
    generalize vlI ((D + 1 : Nat) : Int) = V at *
    have HPM : Hid (∀ k, k ≤ D → 2 ^ k ≤ 8796093022208) := fun k hk => by
      have : 2 ^ k ≤ 2 ^ 43 := Nat.pow_le_pow_right (by decide) (by omega)
      omega
    have HS := hid hs
    have e1 : ((D + 1 : Nat) : Int) = (D : Int) + 1 := by omega
    rw [e1]
    obtain ⟨E, hE⟩ : ∃ E : Int, (D : Int) = E := ⟨_, rfl⟩
    have hE0 : 0 ≤ E := by omega
    have hE1 : E ≤ 43 := by omega
    have HE := hid hE
    rw [hE]
    clear hp h e1 hs hE
    go_enter Tryd.func21, Tryd.ntmps21
    go_wp2
    go_loop [3, 4] (fun p i => ∃ k : Nat, k ≤ D ∧ i = .int .i64 ((k : Int) + 1) ∧ p = .int .u64 ((2 ^ k : Nat) : Int)) (fun _ i => D + 2 - (intOf i).toNat)
    case atStart => exact ⟨0, by omega, rfl, rfl⟩
    case round =>
      obtain ⟨k, hk, rfl, rfl⟩ := hrel
      by_cases hl : k < D
      · have h2 : Hid (2 ^ (k + 1) = 2 * 2 ^ k) := by unfold Hid; rw [Nat.pow_succ]; omega
        have h3 := HPM.out k hk
        generalize 2 ^ k = P at *
        have c1 : (k : Int) < E := by have := HE.out; omega
        go_wp2
        exact ⟨⟨k + 1, by omega, by go_num, by rw [h2.out]; go_num⟩, by simp [intOf]; omega⟩
      · have hke : k = D := by omega
        subst hke
        have hs := HS.out
        have h3 := HPM.out k hk
        generalize 2 ^ k = P at *
        have c1 : (k : Int) = E := HE.out
        go_wp2_with (go_at_call 28; refine (hs _).mono ?_; rintro e w9 ⟨r, rfl, h9, hr, hr2⟩; have h9 := h9.symm; subst h9)
        go_ret
        exact ⟨ret_int (HV.out r hr), rfl⟩
  · rw [vlI_no h]
    by_cases h1 : g < 1
    · go_enter Tryd.func21, Tryd.ntmps21
      go_wp2
      go_ret
      exact ⟨rfl, rfl⟩
    · have h2 : 44 < g := by omega
      go_enter Tryd.func21, Tryd.ntmps21
      go_wp2
      go_ret
      exact ⟨rfl, rfl⟩
/-- Is the list one of gains? -/
def gokB (x : List Int) : Bool := decide (x.length = 5) && (List.range 5).all fun j => decide (0 ≤ x.getD j 0 ∧ x.getD j 0 ≤ 44)
theorem gok_iff (x : List Int) : gokB x = true ↔ x.length = 5 ∧ ∀ j, j < 5 → 0 ≤ x.getD j 0 ∧ x.getD j 0 ≤ 44 := by
  unfold gokB
  rw [Bool.and_eq_true, decide_eq_true_eq, List.all_eq_true]
  constructor
  · exact fun h => ⟨h.1, fun j hj => of_decide_eq_true (h.2 j (List.mem_range.2 hj))⟩
  · exact fun h => ⟨h.1, fun j hj => decide_eq_true (h.2 j (List.mem_range.1 hj))⟩
theorem gok_len {x : List Int} (h : gokB x = true) : x.length = 5 := ((gok_iff x).1 h).1
theorem gok_bd {x : List Int} (h : gokB x = true) (j : Nat) (hj : j < 5) : 0 ≤ x.getD j 0 ∧ x.getD j 0 ≤ 44 := ((gok_iff x).1 h).2 j hj
theorem gok_at {x : List Int} (h : gokB x = true) (j : Nat) (hj : j < 5) : ∃ G : Nat, x.getD j 0 = (G : Int) ∧ G ≤ 44 := by
  have := gok_bd h j hj
  exact ⟨(x.getD j 0).toNat, by omega, by omega⟩
theorem gok_of {x : List Int} (hl : x.length = 5) (h : ∀ j, j < 5 → 0 ≤ x.getD j 0 ∧ x.getD j 0 ≤ 44) : gokB x = true := (gok_iff x).2 ⟨hl, h⟩
theorem gok_no_len {x : List Int} (h : x.length ≠ 5) : gokB x = false := by
  cases hb : gokB x
  · rfl
  · exact absurd (gok_len hb) h
theorem gok_no_at {x : List Int} {k : Nat} (hk : k < 5) (h : x.getD k 0 < 0 ∨ 44 < x.getD k 0) : gokB x = false := by
  cases hb : gokB x
  · rfl
  · have := gok_bd hb k hk; omega
/-- Are the first k numbers those of gains, and the list as long? -/
def preB (x : List Int) (k : Nat) : Bool := decide (x.length = 5) && (List.range k).all fun j => decide (0 ≤ x.getD j 0 ∧ x.getD j 0 ≤ 44)
theorem preB_succ (x : List Int) (k : Nat) : preB x (k + 1) = (preB x k && decide (0 ≤ x.getD k 0 ∧ x.getD k 0 ≤ 44)) := by
  unfold preB; rw [List.range_succ, List.all_append]; simp [Bool.and_assoc]
theorem preB_all (x : List Int) : preB x x.length = gokB x := by
  unfold preB gokB
  by_cases h : x.length = 5
  · rw [h]
  · rw [decide_eq_false h]; rfl
theorem rright_any (a : Option Addr) (n cap : Nat) (x : List Int) (hn : n = x.length) (hl : x.length ≤ 9223372036854775807) (w : World) (hv : Rw .i64 w (.slice a n cap) x) : Calls Tryd.prog 19 #[.slice a n cap] w fun e w' => e = .returned (.bool (gokB x)) ∧ w' = w := by
  subst hn
  have he : ((x.length : Int) == 5) = preB x 0 := by
    unfold preB
    by_cases h : x.length = 5
    · rw [h]; rfl
    · rw [decide_eq_false h]; simp; omega
  have Hall : Hid (preB x x.length = gokB x) := preB_all x
  have hcell := fun i hi => hv.at i hi
  obtain ⟨n, hn⟩ : ∃ n, x.length = n := ⟨_, rfl⟩
  have hs := preB_succ x
  rw [hn] at he hl hcell Hall ⊢
  clear hv
  generalize preB x = pre at *
  generalize hP0 : pre 0 = p0 at he
  have HP0 := hid hP0
  clear hP0
  go_enter Tryd.func19, Tryd.ntmps19
  go_wp2
  go_loop [3, 4] (fun p i => ∃ k : Nat, k ≤ n ∧ i = .int .i64 (k : Nat) ∧ p = .bool (pre k)) (fun _ i => n - (intOf i).toNat)
  case atStart => exact ⟨0, by omega, rfl, by rw [HP0.out]⟩
  case round =>
    obtain ⟨k, hk, rfl, rfl⟩ := hrel
    by_cases hlt : k < n
    · obtain ⟨b, off, rfl, hb, hck⟩ := hcell k hlt
      have hsk := hs k
      clear hs hcell
      generalize x.getD k 0 = X at *
      have HQ : Hid (pre (k + 1) = (pre k && decide (0 ≤ X ∧ X ≤ 44))) := hsk
      clear hsk
      generalize pre k = r at *
      have i1 : (0 : Int) ≤ (k : Int) := by omega
      have i2 : (k : Int) < (n : Int) := by omega
      cases r
      · have HQ2 : Hid (pre (k + 1) = false) := HQ.out
        clear HQ
        go_wp2
        exact ⟨⟨k + 1, by omega, by go_num, by rw [HQ2.out]⟩, by simp [intOf]; omega⟩
      · by_cases h0 : X < 0
        · have HQ2 : Hid (pre (k + 1) = false) := by unfold Hid; rw [HQ.out, decide_eq_false (by omega)]; rfl
          clear HQ
          have h0' : decide (0 ≤ X) = false := decide_eq_false (by omega)
          go_wp2
          exact ⟨⟨k + 1, by omega, by go_num, by rw [HQ2.out]⟩, by simp [intOf]; omega⟩
        · have h0' : 0 ≤ X := by omega
          by_cases h1 : 44 < X
          · have HQ2 : Hid (pre (k + 1) = false) := by unfold Hid; rw [HQ.out, decide_eq_false (by omega)]; rfl
            clear HQ h0
            go_wp2
            exact ⟨⟨k + 1, by omega, by go_num, by rw [HQ2.out]; simp; omega⟩, by simp [intOf]; omega⟩
          · have h1' : X ≤ 44 := by omega
            have HQ2 : Hid (pre (k + 1) = true) := by unfold Hid; rw [HQ.out, decide_eq_true (by omega)]; rfl
            clear HQ h0 h1
            go_wp2
            exact ⟨⟨k + 1, by omega, by go_num, by rw [HQ2.out]⟩, by simp [intOf]; omega⟩
    · obtain rfl : k = n := by omega
      clear hs hcell hlt
      go_wp2
      go_ret
      exact ⟨ret_bool Hall.out, rfl⟩
end Go.Proofs.YtgmikllbpaekfaaDoor
