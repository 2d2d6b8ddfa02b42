/- Places of posts, lines, floors, posts for gains: on plain numbers. Nothing of the program is used. -/
import Derived.Test.YtgmikllbpaekfaaDoorFs
namespace Go.Proofs.YtgmikllbpaekfaaDoor
open Go.RowKit
set_option linter.unusedVariables false
set_option linter.unusedSimpArgs false

/-- Where a post stands. -/
def flAt (p : Nat) : Nat := if p = 0 then 0 else if p = 1 then 1 else if p = 2 then 2 else if p = 3 then 4 else if p = 4 then 8 else 15
def flAtI (p : Int) : Int := if 0 ≤ p ∧ p < 6 then (flAt p.toNat : Nat) else -1
theorem flAtI_no {p : Int} (h : ¬ (0 ≤ p ∧ p < 6)) : flAtI p = -1 := by unfold flAtI; rw [if_neg h]
theorem flAtI_nat {p : Nat} (h : p < 6) : flAtI (p : Int) = (flAt p : Nat) := by unfold flAtI; rw [if_pos ⟨by omega, by omega⟩]; simp
theorem six {p : Nat} (h : p < 6) : p = 0 ∨ p = 1 ∨ p = 2 ∨ p = 3 ∨ p = 4 ∨ p = 5 := by omega
/-- All are gains. -/
def arB (x : List Int) : Bool := decide (∀ i, i < x.length → 0 ≤ x.getD i 0 ∧ x.getD i 0 ≤ 44)
theorem arB_bd {x : List Int} (h : arB x = true) : Bd 0 44 x := by unfold arB at h; rw [decide_eq_true_eq] at h; exact h
theorem arB_of {x : List Int} (h : Bd 0 44 x) : arB x = true := by unfold arB; rw [decide_eq_true_eq]; exact h
theorem arB_at {x : List Int} {i : Nat} (hi : i < x.length) (h : x.getD i 0 < 0 ∨ 44 < x.getD i 0) : arB x = false :=
  decide_eq_false fun hh => by have := hh i hi; omega
/-- These are posts. -/
def flOk (x : List Int) : Bool := decide (x.length = 6) && arB x
theorem flOk_parts {x : List Int} (h : flOk x = true) : x.length = 6 ∧ Bd 0 44 x := by
  unfold flOk at h
  rw [Bool.and_eq_true, decide_eq_true_eq] at h
  exact ⟨h.1, arB_bd h.2⟩
theorem flOk_of {x : List Int} (h : x.length = 6) (hb : Bd 0 44 x) : flOk x = true := by
  unfold flOk; rw [decide_eq_true h, arB_of hb]; rfl
theorem flOk_at {x : List Int} (h : flOk x = true) (j : Nat) : 0 ≤ x.getD j 0 ∧ x.getD j 0 ≤ 44 := by
  obtain ⟨hl, hb⟩ := flOk_parts h
  by_cases hj : j < x.length
  · exact hb j hj
  · rw [List.getD_eq_getElem?_getD, List.getElem?_eq_none (by omega)]; simp
theorem gok_ar (x : List Int) : gokB x = (decide (x.length = 5) && arB x) := by
  by_cases h : x.length = 5
  · cases ha : arB x
    · rw [Bool.and_false]
      cases hg : gokB x
      · rfl
      · rw [arB_of (fun j hj => gok_bd hg j (by omega))] at ha; cases ha
    · rw [decide_eq_true h]
      exact gok_of h fun j hj => arB_bd ha j (by omega)
  · rw [decide_eq_false h, gok_no_len h]; rfl

/-- The line's share of a step: towards 0. -/
theorem share_bd (D : Int) (k d : Nat) (hk : k ≤ d) (hd : 0 < d) : (0 ≤ D → 0 ≤ (D * k).tdiv d ∧ (D * k).tdiv d ≤ D) ∧ (D ≤ 0 → D ≤ (D * k).tdiv d ∧ (D * k).tdiv d ≤ 0) := by
  have key : ∀ A : Nat, 0 ≤ ((A : Int) * k).tdiv d ∧ ((A : Int) * k).tdiv d ≤ A := fun A => by
    have e : ((A : Int) * k).tdiv d = ((A * k / d : Nat) : Int) := by
      rw [show (A : Int) * k = ((A * k : Nat) : Int) by push_cast; rfl, ← Int.ofNat_tdiv]
    rw [e]
    have : A * k / d ≤ A := by
      have h1 : A * k ≤ A * d := Nat.mul_le_mul_left _ hk
      calc A * k / d ≤ A * d / d := Nat.div_le_div_right h1
        _ = A := Nat.mul_div_cancel _ hd
    generalize A * k / d = R at *
    omega
  constructor
  · intro h
    obtain ⟨A, rfl⟩ : ∃ A : Nat, D = A := ⟨D.toNat, by omega⟩
    exact key A
  · intro h
    obtain ⟨A, rfl⟩ : ∃ A : Nat, D = -(A : Int) := ⟨D.natAbs, by omega⟩
    have := key A
    rw [Int.neg_mul, Int.neg_tdiv]
    omega
theorem share_full (D : Int) (d : Nat) (hd : 0 < d) : (D * d).tdiv d = D := Int.mul_tdiv_cancel _ (by omega)
theorem share_zero (D : Int) (d : Nat) : (D * (0 : Nat)).tdiv d = 0 := by simp
/-- One step from y to z. -/
def stp (y z : Int) (k d : Nat) : Int := y + ((z - y) * k).tdiv d
theorem stp_bd (y z : Int) {k d : Nat} (hk : k ≤ d) (hd : 0 < d) : (y ≤ z → y ≤ stp y z k d ∧ stp y z k d ≤ z) ∧ (z ≤ y → z ≤ stp y z k d ∧ stp y z k d ≤ y) := by
  have := share_bd (z - y) k d hk hd
  unfold stp
  constructor
  · intro h
    have := this.1 (by omega)
    omega
  · intro h
    have := this.2 (by omega)
    omega
theorem stp_zero (y z : Int) (d : Nat) : stp y z 0 d = y := by unfold stp; rw [share_zero]; omega
theorem stp_full (y z : Int) (d : Nat) (hd : 0 < d) : stp y z d d = z := by unfold stp; rw [share_full _ _ hd]; omega

/-- The last post at a place, or ahead of it. -/
def flPost (i : Nat) : Nat := if i < 1 then 0 else if i < 2 then 1 else if i < 4 then 2 else if i < 8 then 3 else if i < 15 then 4 else 5
/-- The line at a place. -/
def flLn (x : List Int) (i : Nat) : Int := if 15 ≤ i then x.getD 5 0 else stp (x.getD (flPost i) 0) (x.getD (flPost i + 1) 0) (i - flAt (flPost i)) (flAt (flPost i + 1) - flAt (flPost i))
/-- The floor at a place. -/
def flFl (x : List Int) (i : Nat) : Int := if vlI (flLn x i) < 1 then 1 else vlI (flLn x i)
/-- A post for gains. -/
def flFit (g : List Int) (q : Int) (p : Nat) : Int := if q = 0 then 0 else if g.getD (min p 4) 0 - 13 + q < 0 then 0 else if 44 < g.getD (min p 4) 0 - 13 + q then 44 else g.getD (min p 4) 0 - 13 + q

theorem at_up {p : Nat} (h : p < 5) : flAt p < flAt (p + 1) ∧ flAt (p + 1) ≤ 15 := by
  have : p = 0 ∨ p = 1 ∨ p = 2 ∨ p = 3 ∨ p = 4 := by omega
  rcases this with rfl | rfl | rfl | rfl | rfl <;> decide
theorem at_in {p : Nat} (h : p < 6) : flAt p ≤ 15 := by
  rcases six h with rfl | rfl | rfl | rfl | rfl | rfl <;> decide
/-- In a piece of the line. -/
theorem post_in {p i : Nat} (h : p < 5) (h1 : flAt p ≤ i) (h2 : i < flAt (p + 1)) : flPost i = p ∧ i < 15 := by
  have : p = 0 ∨ p = 1 ∨ p = 2 ∨ p = 3 ∨ p = 4 := by omega
  rcases this with rfl | rfl | rfl | rfl | rfl
  all_goals
    simp [flAt] at h1 h2
    unfold flPost
    refine ⟨?_, by omega⟩
    repeat' split
    all_goals omega
theorem post_of {i : Nat} (h : i < 15) : flPost i < 5 ∧ flAt (flPost i) ≤ i ∧ i < flAt (flPost i + 1) := by
  have : i = 0 ∨ i = 1 ∨ i = 2 ∨ i = 3 ∨ i = 4 ∨ i = 5 ∨ i = 6 ∨ i = 7 ∨ i = 8 ∨ i = 9 ∨ i = 10 ∨ i = 11 ∨ i = 12 ∨ i = 13 ∨ i = 14 := by omega
  rcases this with rfl | rfl | rfl | rfl | rfl | rfl | rfl | rfl | rfl | rfl | rfl | rfl | rfl | rfl | rfl <;> decide
theorem ln_piece (x : List Int) {p i : Nat} (h : p < 5) (h1 : flAt p ≤ i) (h2 : i < flAt (p + 1)) : flLn x i = stp (x.getD p 0) (x.getD (p + 1) 0) (i - flAt p) (flAt (p + 1) - flAt p) := by
  obtain ⟨e, h15⟩ := post_in h h1 h2
  unfold flLn
  rw [if_neg (by omega), e]
theorem ln_last (x : List Int) : flLn x 15 = x.getD 5 0 := rfl
/-- The line goes through the posts. -/
theorem ln_through (x : List Int) {p : Nat} (h : p < 6) : flLn x (flAt p) = x.getD p 0 := by
  by_cases h5 : p < 5
  · rw [ln_piece x h5 (by omega) (at_up h5).1, Nat.sub_self, stp_zero]
  · obtain rfl : p = 5 := by omega
    exact ln_last x
/-- Between two posts it is not beyond them. -/
theorem ln_between (x : List Int) {p i : Nat} (h : p < 5) (h1 : flAt p ≤ i) (h2 : i ≤ flAt (p + 1)) :
    (x.getD p 0 ≤ x.getD (p + 1) 0 → x.getD p 0 ≤ flLn x i ∧ flLn x i ≤ x.getD (p + 1) 0) ∧ (x.getD (p + 1) 0 ≤ x.getD p 0 → x.getD (p + 1) 0 ≤ flLn x i ∧ flLn x i ≤ x.getD p 0) := by
  by_cases hl : i < flAt (p + 1)
  · rw [ln_piece x h h1 hl]
    exact stp_bd _ _ (by omega) (by omega)
  · obtain rfl : i = flAt (p + 1) := by omega
    rw [ln_through x (by omega)]
    omega
theorem ln_bd {x : List Int} {T : Int} (h : ∀ j, j < 6 → 0 ≤ x.getD j 0 ∧ x.getD j 0 ≤ T) (i : Nat) (hi : i < 16) : 0 ≤ flLn x i ∧ flLn x i ≤ T := by
  by_cases h15 : i < 15
  · obtain ⟨h1, h2, h3⟩ := post_of h15
    have hb := ln_between x h1 h2 (by omega)
    have a := h (flPost i) (by omega)
    have b := h (flPost i + 1) (by omega)
    omega
  · obtain rfl : i = 15 := by omega
    exact h 5 (by omega)
/-- Values rise. -/
theorem vl_mono {a b : Nat} (h : a ≤ b) (hb : b ≤ 44) : vl a ≤ vl b := by
  by_cases h1 : 1 ≤ a
  · exact (vl_root h1 (by omega)).mono (vl_root (by omega) hb) (Nat.pow_le_pow_right (by decide) (by omega))
  · have : a = 0 := by omega
    subst this
    simp [vl]
theorem vl_lt (g : Nat) : vl g < 4294967296 := by
  by_cases h : 1 ≤ g ∧ g ≤ 44
  · refine root_lt (vl_root h.1 h.2) ?_
    have : 2 ^ (g - 1) ≤ 2 ^ 43 := Nat.pow_le_pow_right (by decide) (by omega)
    omega
  · unfold vl; rw [if_neg h]; omega
theorem vlI_mono {a b : Int} (h : a ≤ b) (hb : b ≤ 44) : vlI a ≤ vlI b := by
  unfold vlI
  have := vl_mono (a := a.toNat) (b := b.toNat) (by omega) (by omega)
  omega
theorem vlI_bd (a : Int) : 0 ≤ vlI a ∧ vlI a < 4294967296 := by
  unfold vlI
  have := vl_lt a.toNat
  omega
theorem fl_bd (x : List Int) (i : Nat) : 1 ≤ flFl x i ∧ flFl x i < 4294967296 := by
  have := vlI_bd (flLn x i)
  unfold flFl
  split <;> omega
/-- A floor is not above the value of the greatest post, or 1. -/
theorem fl_top {x : List Int} {T : Int} (h : ∀ j, j < 6 → 0 ≤ x.getD j 0 ∧ x.getD j 0 ≤ T) (hT : T ≤ 44) (i : Nat) (hi : i < 16) : flFl x i ≤ (if vlI T < 1 then 1 else vlI T) := by
  have h1 := ln_bd h i hi
  have h2 := vlI_mono h1.2 hT
  unfold flFl
  split <;> split <;> omega
/-- Posts of no quality: the floor is 1. -/
theorem fl_one {x : List Int} (h : ∀ j, j < 6 → x.getD j 0 = 0) (i : Nat) (hi : i < 16) : flFl x i = 1 := by
  have h1 := fl_top (x := x) (T := 0) (fun j hj => by rw [h j hj]; omega) (by omega) i hi
  have h2 := fl_bd x i
  have h3 : vlI 0 = 0 := by decide
  rw [h3] at h1
  simp at h1
  omega
theorem fit_bd (g : List Int) (q : Int) (p : Nat) : 0 ≤ flFit g q p ∧ flFit g q p ≤ 44 := by
  unfold flFit
  repeat' split
  all_goals omega
theorem fit_zero (g : List Int) (p : Nat) : flFit g 0 p = 0 := rfl
theorem fit_mono (g : List Int) {a b : Int} (h : a ≤ b) (ha : 0 ≤ a) (p : Nat) : flFit g a p ≤ flFit g b p := by
  unfold flFit
  repeat' split
  all_goals omega
def fitL (g : List Int) (q : Int) : List Int := tab 6 (flFit g q)
theorem fitL_ok (g : List Int) (q : Int) : flOk (fitL g q) = true := by
  refine flOk_of (tab_len _ _) fun j hj => ?_
  rw [fitL, tab_len] at hj
  rw [fitL, tab_at _ _ _ hj]
  exact fit_bd g q j
def lnL (x : List Int) : List Int := tab 16 (flLn x)
def flL (x : List Int) : List Int := tab 16 (flFl x)
/-- The line on the way: k posts are done. -/
def lnK (x : List Int) (k : Nat) : List Int := tab 16 fun i => if i < flAt k then flLn x i else 0
theorem lnK_zero (x : List Int) : lnK x 0 = tab 16 fun _ => 0 := tab_congr fun i hi => by simp [flAt]
/-- A piece on the way. -/
def drK (x : List Int) (o n : Nat) (y z : Int) (k : Nat) : List Int := tab x.length fun i => if o ≤ i ∧ i < o + k then stp y z (i - o) n else x.getD i 0
theorem drK_len (x : List Int) (o n : Nat) (y z : Int) (k : Nat) : (drK x o n y z k).length = x.length := tab_len _ _
theorem drK_zero (x : List Int) (o n : Nat) (y z : Int) : drK x o n y z 0 = x := (tab_eq rfl fun i hi => by rw [if_neg (by omega)]).symm
theorem drK_next (x : List Int) (o n : Nat) (y z : Int) (k : Nat) (h : o + k < x.length) : (drK x o n y z k).set (o + k) (stp y z k n) = drK x o n y z (k + 1) := by
  unfold drK
  rw [tab_set _ _ _ _ h]
  refine tab_congr fun i hi => ?_
  by_cases e : i = o + k
  · subst e
    rw [if_pos rfl, if_pos ⟨by omega, by omega⟩, show o + k - o = k by omega]
  · rw [if_neg e]
    by_cases c : o ≤ i ∧ i < o + k
    · rw [if_pos c, if_pos ⟨c.1, by omega⟩]
    · rw [if_neg c, if_neg (by omega)]
theorem lnK_next (x : List Int) {k : Nat} (h : k < 5) : drK (lnK x k) (flAt k) (flAt (k + 1) - flAt k) (x.getD k 0) (x.getD (k + 1) 0) (flAt (k + 1) - flAt k) = lnK x (k + 1) := by
  have hu := at_up h
  unfold drK
  rw [show (lnK x k).length = 16 from tab_len _ _]
  refine tab_congr fun i hi => ?_
  by_cases c : flAt k ≤ i ∧ i < flAt k + (flAt (k + 1) - flAt k)
  · rw [if_pos c, if_pos (by omega), ln_piece x h c.1 (by omega)]
  · rw [if_neg c, lnK, tab_at _ _ _ hi]
    by_cases d : i < flAt k
    · rw [if_pos d, if_pos (by omega)]
    · rw [if_neg d, if_neg (by omega)]
theorem lnK_all (x : List Int) : (lnK x 5).set 15 (x.getD 5 0) = lnL x := by
  unfold lnK lnL
  rw [tab_set _ _ _ _ (by omega)]
  refine tab_congr fun i hi => ?_
  by_cases e : i = 15
  · subst e; rw [if_pos rfl]; rfl
  · rw [if_neg e, if_pos (show i < flAt 5 by simp [flAt]; omega)]
theorem ln_at (x : List Int) (i : Nat) (hi : i < 16) : (lnL x).getD i 0 = flLn x i := tab_at _ _ _ hi
theorem fl_at (x : List Int) (i : Nat) (hi : i < 16) : (flL x).getD i 0 = flFl x i := tab_at _ _ _ hi
theorem fitL_at (g : List Int) (q : Int) (i : Nat) (hi : i < 6) : (fitL g q).getD i 0 = flFit g q i := tab_at _ _ _ hi
end Go.Proofs.YtgmikllbpaekfaaDoor
