/- Blocks parted into a mean and differences, and joined again: plain. Nothing of the program is imported. -/
import Derived.Test.YtdfihdkkidekjaaDoorNb
import Derived.Test.YtdfihdkkidekjaaDoorTabs
namespace Go.Proofs.YtdfihdkkidekjaaDoor
open Go.RowKit
set_option linter.unusedVariables false
set_option linter.unusedSimpArgs false

/-- The means, the differences of the pairs. -/
def mns (h : Nat) (x : List Int) : List Int := tab h fun i => x.getD (2 * i) 0 + (x.getD (2 * i + 1) 0 - x.getD (2 * i) 0) / 2
def dfs (h : Nat) (x : List Int) : List Int := tab h fun i => x.getD (2 * i + 1) 0 - x.getD (2 * i) 0
/-- What a parted block is. -/
def fw : Nat → List Int → List Int
  | 0, x => x
  | k + 1, x => fw k (mns (2 ^ k) x) ++ dfs (2 ^ k) x
theorem mns_len (h : Nat) (x : List Int) : (mns h x).length = h := tab_len _ _
theorem dfs_len (h : Nat) (x : List Int) : (dfs h x).length = h := tab_len _ _
theorem mns_at (h : Nat) (x : List Int) (i : Nat) (hi : i < h) : (mns h x).getD i 0 = x.getD (2 * i) 0 + (x.getD (2 * i + 1) 0 - x.getD (2 * i) 0) / 2 := tab_at _ _ _ hi
theorem dfs_at (h : Nat) (x : List Int) (i : Nat) (hi : i < h) : (dfs h x).getD i 0 = x.getD (2 * i + 1) 0 - x.getD (2 * i) 0 := tab_at _ _ _ hi
theorem fw_len (k : Nat) : ∀ x : List Int, x.length = 2 ^ k → (fw k x).length = 2 ^ k := by
  induction k with
  | zero => exact fun x h => h
  | succ k ih =>
    intro x h
    simp only [fw, List.length_append, dfs_len, ih _ (mns_len _ x)]
    omega
/-- A number of a block that is joined, at a place, out of the means and the coefficients. -/
def jn (h : Nat) (m c : List Int) (i : Nat) : Int :=
  if i % 2 = 0 then m.getD (i / 2) 0 - c.getD (h + i / 2) 0 / 2 else m.getD (i / 2) 0 - c.getD (h + i / 2) 0 / 2 + c.getD (h + i / 2) 0
def iv : Nat → List Int → List Int
  | 0, c => c
  | k + 1, c => tab (2 ^ (k + 1)) (jn (2 ^ k) (iv k (c.take (2 ^ k))) c)
theorem iv_len (k : Nat) (c : List Int) (h : c.length = 2 ^ k) : (iv k c).length = 2 ^ k := by
  cases k with
  | zero => exact h
  | succ k => exact tab_len _ _
theorem take_len (k : Nat) (c : List Int) (h : c.length = 2 ^ (k + 1)) : (c.take (2 ^ k)).length = 2 ^ k := by
  rw [List.length_take]; omega

theorem Bd.means {lo hi : Int} {x : List Int} {h : Nat} (hx : Bd lo hi x) (hl : x.length = 2 * h) : Bd lo hi (mns h x) := fun j hj => by
  rw [mns_len] at hj
  rw [mns_at h x j hj]
  have h1 := hx (2 * j) (by omega)
  have h2 := hx (2 * j + 1) (by omega)
  omega
theorem Bd.diffs {lo hi : Int} {x : List Int} {h : Nat} (hx : Bd lo hi x) (hl : x.length = 2 * h) : Bd (lo - hi) (hi - lo) (dfs h x) := fun j hj => by
  rw [dfs_len] at hj
  rw [dfs_at h x j hj]
  have h1 := hx (2 * j) (by omega)
  have h2 := hx (2 * j + 1) (by omega)
  omega
/-- P8.5, plain: the mean lies within the block's bounds, the differences within how far these are apart. -/
theorem fw_bounds (k : Nat) (lo hi : Int) : ∀ x : List Int, x.length = 2 ^ k → Bd lo hi x → (lo ≤ (fw k x).getD 0 0 ∧ (fw k x).getD 0 0 ≤ hi) ∧ ∀ j, 1 ≤ j → j < 2 ^ k → lo - hi ≤ (fw k x).getD j 0 ∧ (fw k x).getD j 0 ≤ hi - lo := by
  induction k with
  | zero => exact fun x h hb => ⟨hb 0 (by omega), fun j h1 h2 => by simp at h2; omega⟩
  | succ k ih =>
    intro x h hb
    have hp : 0 < 2 ^ k := Nat.pow_pos (by decide)
    have hl : x.length = 2 * 2 ^ k := by omega
    obtain ⟨a1, a2⟩ := ih (mns (2 ^ k) x) (mns_len _ _) (hb.means hl)
    have hw := fw_len k (mns (2 ^ k) x) (mns_len _ _)
    refine ⟨?_, fun j h1 h2 => ?_⟩
    · simp only [fw]
      rw [getD_app_l _ _ _ (by omega)]
      exact a1
    · simp only [fw]
      by_cases hj : j < 2 ^ k
      · rw [getD_app_l _ _ _ (by omega)]
        exact a2 j h1 hj
      · rw [getD_app_r _ _ _ (by omega), hw]
        exact hb.diffs hl (j - 2 ^ k) (by rw [dfs_len]; omega)
theorem fw_bd (k : Nat) (x : List Int) (h : x.length = 2 ^ k) (hb : Bd (-16777216) 16777216 x) : Bd (-67108864) 67108864 (fw k x) := fun j hj => by
  obtain ⟨a1, a2⟩ := fw_bounds k _ _ x h hb
  rw [fw_len k x h] at hj
  by_cases e : j = 0
  · subst e; omega
  · have := a2 j (by omega) hj
    omega
/-- How great what is joined can be. -/
theorem iv_bd (k : Nat) (B : Int) : ∀ c : List Int, c.length = 2 ^ k → Bd (-2 * B) (2 * B) c → Bd (-2 * B - k * B) (2 * B + k * B) (iv k c) := by
  induction k with
  | zero => exact fun c h hb => hb.mono (by simp) (by simp)
  | succ k ih =>
    intro c h hb j hj
    have ht := take_len k c h
    have hm := ih _ ht (hb.take _)
    have hml := iv_len k _ ht
    rw [iv_len (k + 1) c h] at hj
    have h1 := hm (j / 2) (by omega)
    have h2 := hb (2 ^ k + j / 2) (by omega)
    have hk : ((k + 1 : Nat) : Int) * B = k * B + B := by rw [show ((k + 1 : Nat) : Int) = (k : Int) + 1 by omega]; grind
    simp only [iv]
    rw [tab_at _ _ _ hj]
    unfold jn
    generalize (iv k (c.take (2 ^ k))).getD (j / 2) 0 = m at *
    generalize c.getD (2 ^ k + j / 2) 0 = d at *
    rw [hk]
    generalize (k : Int) * B = K at *
    split <;> omega
/-- P8.3, plain. -/
theorem iv_fw (k : Nat) : ∀ x : List Int, x.length = 2 ^ k → iv k (fw k x) = x := by
  induction k with
  | zero => exact fun x h => rfl
  | succ k ih =>
    intro x h
    have hw := fw_len k (mns (2 ^ k) x) (mns_len _ _)
    have ht : (fw (k + 1) x).take (2 ^ k) = fw k (mns (2 ^ k) x) := by
      simp only [fw]
      rw [List.take_append_of_le_length (by omega), List.take_of_length_le (by omega)]
    simp only [iv]
    rw [ht, ih _ (mns_len _ _)]
    refine (tab_eq h fun i hi => ?_).symm
    have hi2 : i / 2 < 2 ^ k := by omega
    have hd : (fw (k + 1) x).getD (2 ^ k + i / 2) 0 = x.getD (2 * (i / 2) + 1) 0 - x.getD (2 * (i / 2)) 0 := by
      simp only [fw]
      rw [getD_app_r _ _ _ (by omega), hw, show 2 ^ k + i / 2 - 2 ^ k = i / 2 by omega, dfs_at _ _ _ hi2]
    unfold jn
    rw [hd, mns_at _ _ _ hi2]
    by_cases e : i % 2 = 0
    · rw [if_pos e, show 2 * (i / 2) = i by omega]; omega
    · rw [if_neg e, show 2 * (i / 2) + 1 = i by omega]; omega
theorem fw_iv (k : Nat) : ∀ c : List Int, c.length = 2 ^ k → fw k (iv k c) = c := by
  induction k with
  | zero => exact fun c h => rfl
  | succ k ih =>
    intro c h
    have ht := take_len k c h
    have h1 : mns (2 ^ k) (iv (k + 1) c) = iv k (c.take (2 ^ k)) := by
      refine (tab_eq (iv_len k _ ht) fun i hi => ?_).symm
      simp only [iv]
      rw [tab_at _ _ _ (by omega), tab_at _ _ _ (by omega)]
      unfold jn
      rw [if_pos (by omega), if_neg (by omega), show 2 * i / 2 = i by omega, show (2 * i + 1) / 2 = i by omega]
      omega
    have h2 : dfs (2 ^ k) (iv (k + 1) c) = c.drop (2 ^ k) := by
      refine (tab_eq (by rw [List.length_drop]; omega) fun i hi => ?_).symm
      simp only [iv]
      rw [tab_at _ _ _ (by omega), tab_at _ _ _ (by omega), getD_drop]
      unfold jn
      rw [if_neg (by omega), if_pos (by omega), show 2 * i / 2 = i by omega, show (2 * i + 1) / 2 = i by omega]
      omega
    simp only [fw]
    rw [h1, h2, ih _ ht, List.take_append_drop]
/-- P8.4, plain. -/
theorem fw_level (k : Nat) (v : Int) : fw k (tab (2 ^ k) fun _ => v) = tab (2 ^ k) fun i => if i = 0 then v else 0 := by
  induction k with
  | zero => exact tab_congr fun i hi => by rw [if_pos (by simp at hi; omega)]
  | succ k ih =>
    have hp : 0 < 2 ^ k := Nat.pow_pos (by decide)
    have h1 : mns (2 ^ k) (tab (2 ^ (k + 1)) fun _ => v) = tab (2 ^ k) fun _ => v := tab_congr fun i hi => by
      rw [tab_at _ _ _ (by omega), tab_at _ _ _ (by omega)]; omega
    have h2 : dfs (2 ^ k) (tab (2 ^ (k + 1)) fun _ => v) = tab (2 ^ k) fun _ => 0 := tab_congr fun i hi => by
      rw [tab_at _ _ _ (by omega), tab_at _ _ _ (by omega)]; omega
    simp only [fw]
    rw [h1, h2, ih]
    refine tab_eq (by simp [tab_len]; omega) fun i hi => ?_
    by_cases hj : i < 2 ^ k
    · rw [getD_app_l _ _ _ (by rw [tab_len]; exact hj), tab_at _ _ _ hj]
    · rw [getD_app_r _ _ _ (by rw [tab_len]; omega), tab_len, tab_at _ _ _ (by omega), if_neg (by omega)]

/-- Which lists are taken: 2, 4, 8, 16 or 32 numbers, none beyond the bound. -/
def okS (B : Int) (x : List Int) : Bool := (x.length == 2 || x.length == 4 || x.length == 8 || x.length == 16 || x.length == 32) && decide (∀ i, i < x.length → -B ≤ x.getD i 0 ∧ x.getD i 0 ≤ B)
theorem okS_parts {B : Int} {x : List Int} (h : okS B x = true) : ∃ k, k + 1 ≤ 5 ∧ x.length = 2 ^ (k + 1) ∧ Bd (-B) B x := by
  simp only [okS, Bool.and_eq_true, Bool.or_eq_true, beq_iff_eq, decide_eq_true_eq] at h
  obtain ⟨h1, h2⟩ := h
  rcases h1 with (((h1 | h1) | h1) | h1) | h1
  · exact ⟨0, by omega, by omega, h2⟩
  · exact ⟨1, by omega, by omega, h2⟩
  · exact ⟨2, by omega, by omega, h2⟩
  · exact ⟨3, by omega, by omega, h2⟩
  · exact ⟨4, by omega, by omega, h2⟩
theorem okS_of {B : Int} {x : List Int} (k : Nat) (hk : k + 1 ≤ 5) (hl : x.length = 2 ^ (k + 1)) (h : Bd (-B) B x) : okS B x = true := by
  simp only [okS, Bool.and_eq_true, Bool.or_eq_true, beq_iff_eq, decide_eq_true_eq]
  refine ⟨?_, h⟩
  match k, hk with
  | 0, _ => simp at hl; omega
  | 1, _ => simp at hl; omega
  | 2, _ => simp at hl; omega
  | 3, _ => simp at hl; omega
  | 4, _ => simp at hl; omega
theorem okS_size {B : Int} {x : List Int} (h : x.length ≠ 2 ∧ x.length ≠ 4 ∧ x.length ≠ 8 ∧ x.length ≠ 16 ∧ x.length ≠ 32) : okS B x = false := by
  unfold okS
  obtain ⟨h1, h2, h3, h4, h5⟩ := h
  simp [h1, h2, h3, h4, h5]
theorem okS_at {B : Int} {x : List Int} {i : Nat} (hi : i < x.length) (h : x.getD i 0 < -B ∨ B < x.getD i 0) : okS B x = false := by
  cases hc : okS B x
  · rfl
  · exfalso
    obtain ⟨k, _, _, hb⟩ := okS_parts hc
    have := hb i hi
    omega
end Go.Proofs.YtdfihdkkidekjaaDoor
