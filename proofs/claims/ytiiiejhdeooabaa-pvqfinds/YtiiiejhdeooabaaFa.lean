/- Pulse vectors for coefficients, on plain numbers: tables, sizes, scores, the search. Nothing of the program is used. -/
import Derived.Test.YtiiiejhdeooabaaNa
import Derived.Test.YtiiiejhdeooabaaNc
import Derived.Test.YtiiiejhdeooabaaEa
import Derived.Test.YtiiiejhdeooabaaArrays
namespace Go.Proofs.Ytiiiejhdeooabaa
open Go.RowKit
set_option linter.unusedVariables false
set_option linter.unusedSimpArgs false

/-- The numbers f 0 .. f (n - 1). -/
def tab (n : Nat) (f : Nat → Int) : List Int := (List.range n).map f
theorem tab_len (n : Nat) (f : Nat → Int) : (tab n f).length = n := by simp [tab]
theorem tab_at (n : Nat) (f : Nat → Int) (i : Nat) (h : i < n) : (tab n f).getD i 0 = f i := by simp [tab, h]
theorem tab_out (n : Nat) (f : Nat → Int) (i : Nat) (h : ¬ i < n) : (tab n f).getD i 0 = 0 := by simp [tab, h]
theorem tab_eq {l : List Int} {n : Nat} {f : Nat → Int} (hl : l.length = n) (h : ∀ i, i < n → l.getD i 0 = f i) : l = tab n f :=
  list_ext_getD (by rw [tab_len, hl]) fun j hj => by rw [h j (by omega), tab_at n f j (by omega)]
theorem tab_congr {n : Nat} {f g : Nat → Int} (h : ∀ i, i < n → f i = g i) : tab n f = tab n g :=
  tab_eq (tab_len n f) fun i hi => by rw [tab_at n f i hi, h i hi]
theorem tab_self (l : List Int) : l = tab l.length fun i => l.getD i 0 := tab_eq rfl fun i _ => rfl
theorem getD_set (l : List Int) (i j : Nat) (v : Int) (h : i < l.length) : (l.set i v).getD j 0 = if j = i then v else l.getD j 0 := by
  rw [List.getD_eq_getElem?_getD, List.getD_eq_getElem?_getD, List.getElem?_set]
  by_cases e : i = j
  · subst e; simp [h]
  · simp [e, Ne.symm e]
theorem tab_set (n : Nat) (f : Nat → Int) (j : Nat) (v : Int) (h : j < n) : (tab n f).set j v = tab n fun i => if i = j then v else f i :=
  tab_eq (by rw [List.length_set, tab_len]) fun i hi => by
    rw [getD_set _ _ _ _ (by rw [tab_len]; exact h), tab_at n f i hi]
theorem tab_push (n : Nat) (f : Nat → Int) : tab (n + 1) f = tab n f ++ [f n] := by simp [tab, List.range_succ]
theorem tab_zero (n : Nat) : List.replicate n (0 : Int) = tab n fun _ => 0 :=
  tab_eq (by simp) fun i hi => by simp [hi]
theorem tab_map (n : Nat) (f : Nat → Int) (k : IntKind) : (tab n f).map (Value.int k) = (List.range n).map fun i => Value.int k (f i) := by simp [tab]

/-- The first j of these numbers are coefficients, and there are as many as may be. -/
def fairN (x : List Int) (j : Nat) : Bool := decide (1 ≤ x.length ∧ x.length ≤ 16 ∧ ∀ i, i < j → -1048576 ≤ x.getD i 0 ∧ x.getD i 0 ≤ 1048576)
def fairX (x : List Int) : Bool := fairN x x.length
theorem fairX_parts {x : List Int} (h : fairX x = true) : 1 ≤ x.length ∧ x.length ≤ 16 ∧ ∀ i, -1048576 ≤ x.getD i 0 ∧ x.getD i 0 ≤ 1048576 := by
  obtain ⟨h1, h2, h3⟩ := of_decide_eq_true h
  refine ⟨h1, h2, fun i => ?_⟩
  by_cases hi : i < x.length
  · exact h3 i hi
  · rw [List.getD_eq_getElem?_getD, List.getElem?_eq_none (by omega)]; simp
theorem fairN_zero (x : List Int) : fairN x 0 = decide (1 ≤ x.length ∧ x.length ≤ 16) := by
  unfold fairN; congr 1; simp
theorem fairN_next (x : List Int) (j : Nat) : fairN x (j + 1) = (fairN x j && decide (-1048576 ≤ x.getD j 0) && decide (x.getD j 0 ≤ 1048576)) := by
  unfold fairN
  rw [Bool.eq_iff_iff]
  simp only [Bool.and_eq_true, decide_eq_true_eq]
  constructor
  · rintro ⟨h1, h2, h3⟩
    exact ⟨⟨⟨h1, h2, fun i hi => h3 i (by omega)⟩, (h3 j (by omega)).1⟩, (h3 j (by omega)).2⟩
  · rintro ⟨⟨⟨h1, h2, h3⟩, h4⟩, h5⟩
    refine ⟨h1, h2, fun i hi => ?_⟩
    by_cases e : i = j
    · subst e; exact ⟨h4, h5⟩
    · exact h3 i (by omega)
theorem fairX_false_len {x : List Int} (h : x.length < 1 ∨ 16 < x.length) : fairX x = false := by
  unfold fairX fairN; rw [decide_eq_false_iff_not]; omega
theorem fairX_false_at {x : List Int} {j : Nat} (hj : j < x.length) (h : x.getD j 0 < -1048576 ∨ 1048576 < x.getD j 0) : fairX x = false := by
  unfold fairX fairN; rw [decide_eq_false_iff_not]; rintro ⟨_, _, h3⟩; have := h3 j hj; omega
theorem fairX_true {x : List Int} (h1 : 1 ≤ x.length) (h2 : x.length ≤ 16) (h3 : ∀ i, i < x.length → -1048576 ≤ x.getD i 0 ∧ x.getD i 0 ≤ 1048576) : fairX x = true := decide_eq_true ⟨h1, h2, h3⟩

/-- The sum of the squares. -/
def sq (x : List Int) : Nat → Nat
  | 0 => 0
  | j + 1 => sq x j + (x.getD j 0).natAbs * (x.getD j 0).natAbs
theorem natAbs_sq (v : Int) : ((v.natAbs * v.natAbs : Nat) : Int) = v * v := by
  rw [Int.natCast_mul, ← Int.natAbs_mul_self' v]
theorem sq_le (x : List Int) (b : Nat) (h : ∀ j, (x.getD j 0).natAbs ≤ b) (j : Nat) : sq x j ≤ j * (b * b) := by
  induction j with
  | zero => simp [sq]
  | succ j ih =>
    have := Nat.mul_le_mul (h j) (h j)
    simp only [sq, Nat.add_mul]
    omega
theorem sq_mono (x : List Int) {i j : Nat} (h : i ≤ j) : sq x i ≤ sq x j := by
  induction j with
  | zero => have : i = 0 := by omega
            subst this; exact Nat.le_refl _
  | succ j ih =>
    by_cases e : i = j + 1
    · subst e; exact Nat.le_refl _
    · have := ih (by omega); simp only [sq]; omega
theorem sq_at (x : List Int) (i n : Nat) (h : i < n) : (x.getD i 0).natAbs * (x.getD i 0).natAbs ≤ sq x n := by
  have h1 := sq_mono x (show i + 1 ≤ n by omega)
  simp only [sq] at h1
  omega

/-- The greatest size of the first j. -/
def mx (x : List Int) : Nat → Nat
  | 0 => 0
  | j + 1 => max (mx x j) (x.getD j 0).natAbs
theorem mx_le (x : List Int) (b : Nat) (h : ∀ j, (x.getD j 0).natAbs ≤ b) (j : Nat) : mx x j ≤ b := by
  induction j with
  | zero => simp [mx]
  | succ j ih => have := h j; simp only [mx]; omega
theorem mx_at (x : List Int) (i n : Nat) (h : i < n) : (x.getD i 0).natAbs ≤ mx x n := by
  induction n with
  | zero => omega
  | succ n ih =>
    simp only [mx]
    by_cases e : i = n
    · subst e; omega
    · have := ih (by omega); omega
/-- By how many bits sizes are shifted. -/
def dn (g : Nat) : Nat := if g < 262144 then 0 else if g < 524288 then 1 else if g < 1048576 then 2 else 3
theorem dn_le (g : Nat) : dn g ≤ 3 := by unfold dn; split <;> (try split) <;> (try split) <;> omega
theorem dn_bits (g d : Nat) (hg : g ≤ 1048576) (hd : d ≤ 3) : 262144 ≤ g / 2 ^ d ↔ d < dn g := by
  have : d = 0 ∨ d = 1 ∨ d = 2 ∨ d = 3 := by omega
  unfold dn
  rcases this with rfl | rfl | rfl | rfl <;> simp <;> split <;> (try split) <;> (try split) <;> omega
def szf (x : List Int) (d i : Nat) : Int := (((x.getD i 0).natAbs / 2 ^ d : Nat) : Int)
def szs (x : List Int) : List Int := tab x.length (szf x (dn (mx x x.length)))
theorem szf_next (x : List Int) (d i : Nat) : szf x (d + 1) i = szf x d i / 2 := by
  unfold szf
  rw [Nat.pow_succ, ← Nat.div_div_eq_div_mul]
  omega
theorem szf_pos (x : List Int) (d i : Nat) : 0 ≤ szf x d i := Int.natCast_nonneg _
theorem szf_zero (x : List Int) (i : Nat) : szf x 0 i = ((x.getD i 0).natAbs : Nat) := by simp [szf]
theorem szf_le (x : List Int) (d i : Nat) : szf x d i ≤ ((x.getD i 0).natAbs : Nat) := by
  unfold szf
  have := Nat.div_le_self (x.getD i 0).natAbs (2 ^ d)
  omega
theorem szs_small {x : List Int} (h : ∀ i, -1048576 ≤ x.getD i 0 ∧ x.getD i 0 ≤ 1048576) (i : Nat) (hi : i < x.length) : szf x (dn (mx x x.length)) i ≤ 262143 := by
  have h1 := mx_le x 1048576 (fun j => by have := h j; omega) x.length
  have h2 := mx_at x i x.length hi
  have h3 := dn_bits (mx x x.length) (dn (mx x x.length)) h1 (dn_le _)
  have h4 := Nat.div_le_div_right (c := 2 ^ dn (mx x x.length)) h2
  unfold szf
  generalize (x.getD i 0).natAbs / 2 ^ dn (mx x x.length) = A at *
  generalize mx x x.length / 2 ^ dn (mx x x.length) = B at *
  omega

/-- Sums over the first j places: dots, squares, sums. -/
def dts (a y : List Int) : Nat → Int
  | 0 => 0
  | j + 1 => dts a y j + a.getD j 0 * y.getD j 0
def nrs (y : List Int) : Nat → Int
  | 0 => 0
  | j + 1 => nrs y j + y.getD j 0 * y.getD j 0
def sms (y : List Int) : Nat → Int
  | 0 => 0
  | j + 1 => sms y j + y.getD j 0
/-- One pulse more. -/
def inc (y : List Int) (i : Nat) : List Int := y.set i (y.getD i 0 + 1)
theorem inc_len (y : List Int) (i : Nat) : (inc y i).length = y.length := by simp [inc]
theorem inc_at (y : List Int) (i j : Nat) (h : i < y.length) : (inc y i).getD j 0 = if j = i then y.getD j 0 + 1 else y.getD j 0 := by
  unfold inc
  rw [getD_set _ _ _ _ h]
  by_cases e : j = i
  · subst e; simp
  · simp [e]
theorem dts_inc (a y : List Int) (i : Nat) (h : i < y.length) (n : Nat) : dts a (inc y i) n = dts a y n + if i < n then a.getD i 0 else 0 := by
  induction n with
  | zero => simp [dts]
  | succ n ih =>
    simp only [dts, ih, inc_at y i n h]
    by_cases e : n = i
    · subst e; simp; grind
    · rw [if_neg e]
      by_cases hn : i < n
      · rw [if_pos hn, if_pos (by omega)]; omega
      · rw [if_neg hn, if_neg (by omega)]; omega
theorem nrs_inc (y : List Int) (i : Nat) (h : i < y.length) (n : Nat) : nrs (inc y i) n = nrs y n + if i < n then 2 * y.getD i 0 + 1 else 0 := by
  induction n with
  | zero => simp [nrs]
  | succ n ih =>
    simp only [nrs, ih, inc_at y i n h]
    by_cases e : n = i
    · subst e; simp; grind
    · rw [if_neg e]
      by_cases hn : i < n
      · rw [if_pos hn, if_pos (by omega)]; omega
      · rw [if_neg hn, if_neg (by omega)]; omega
theorem sms_inc (y : List Int) (i : Nat) (h : i < y.length) (n : Nat) : sms (inc y i) n = sms y n + if i < n then 1 else 0 := by
  induction n with
  | zero => simp [sms]
  | succ n ih =>
    simp only [sms, ih, inc_at y i n h]
    by_cases e : n = i
    · subst e; simp; omega
    · rw [if_neg e]
      by_cases hn : i < n
      · rw [if_pos hn, if_pos (by omega)]; omega
      · rw [if_neg hn, if_neg (by omega)]; omega

/-- How far a search has come: m pulses are set. -/
structure St (a y : List Int) (n m : Nat) : Prop where
  la : a.length = n
  ly : y.length = n
  ha : ∀ j, 0 ≤ a.getD j 0 ∧ a.getD j 0 ≤ 262143
  hy : ∀ j, 0 ≤ y.getD j 0
  hs : sms y n = m
theorem St.start {a : List Int} {n : Nat} (la : a.length = n) (ha : ∀ j, 0 ≤ a.getD j 0 ∧ a.getD j 0 ≤ 262143) : St a (tab n fun _ => 0) n 0 := by
  refine ⟨la, tab_len _ _, ha, fun j => ?_, ?_⟩
  · by_cases h : j < n
    · rw [tab_at n _ j h]; omega
    · rw [tab_out n _ j h]; omega
  · have : ∀ k, sms (tab n fun _ => 0) k = 0 := fun k => by
      induction k with
      | zero => rfl
      | succ k ih =>
        simp only [sms, ih]
        by_cases h : k < n
        · rw [tab_at n _ k h]; rfl
        · rw [tab_out n _ k h]; rfl
    rw [this]; rfl
theorem St.step {a y : List Int} {n m : Nat} (h : St a y n m) (i : Nat) (hi : i < n) : St a (inc y i) n (m + 1) := by
  have hl := h.ly
  refine ⟨h.la, by rw [inc_len, hl], h.ha, fun j => ?_, ?_⟩
  · rw [inc_at y i j (by omega)]
    have := h.hy j
    split <;> omega
  · rw [sms_inc y i (by omega), if_pos hi, h.hs]; omega
theorem sums {a y : List Int} (ha : ∀ j, 0 ≤ a.getD j 0 ∧ a.getD j 0 ≤ 262143) (hy : ∀ j, 0 ≤ y.getD j 0) (j : Nat) :
    0 ≤ sms y j ∧ 0 ≤ nrs y j ∧ nrs y j ≤ sms y j * sms y j ∧ 0 ≤ dts a y j ∧ dts a y j ≤ 262143 * sms y j := by
  induction j with
  | zero => simp [sms, nrs, dts]
  | succ j ih =>
    obtain ⟨h1, h2, h3, h4, h5⟩ := ih
    simp only [sms, nrs, dts]
    have e1 := hy j
    obtain ⟨e2, e3⟩ := ha j
    generalize y.getD j 0 = v at *
    generalize a.getD j 0 = b at *
    have p1 : 0 ≤ v * v := Int.mul_nonneg e1 e1
    have p2 : 0 ≤ sms y j * v := Int.mul_nonneg h1 e1
    have p3 : 0 ≤ b * v := Int.mul_nonneg e2 e1
    have p4 : b * v ≤ 262143 * v := Int.mul_le_mul_of_nonneg_right e3 e1
    have p5 : (sms y j + v) * (sms y j + v) = sms y j * sms y j + 2 * (sms y j * v) + v * v := by grind
    refine ⟨by omega, by omega, by omega, by omega, by omega⟩
theorem sms_at {y : List Int} (hy : ∀ j, 0 ≤ y.getD j 0) (i n : Nat) (h : i < n) : y.getD i 0 ≤ sms y n := by
  have hp : ∀ j, 0 ≤ sms y j := fun j => by
    induction j with
    | zero => simp [sms]
    | succ j ih => have := hy j; simp only [sms]; omega
  induction n with
  | zero => omega
  | succ n ih =>
    simp only [sms]
    have h1 := hy n
    have h2 := hp n
    by_cases e : i = n
    · subst e; omega
    · have := ih (by omega); omega

/-- The dot and the norm with one pulse more at place i. -/
def dI (a y : List Int) (n i : Nat) : Int := dts a y n + a.getD i 0
def nI (y : List Int) (n i : Nat) : Int := nrs y n + 2 * y.getD i 0 + 1
theorem St.bounds {a y : List Int} {n m : Nat} (h : St a y n m) (hm : m ≤ 12) : 0 ≤ dts a y n ∧ dts a y n ≤ 3145716 ∧ 0 ≤ nrs y n ∧ nrs y n ≤ 144 := by
  obtain ⟨h1, h2, h3, h4, h5⟩ := sums h.ha h.hy n
  rw [h.hs] at h3 h5
  have : ((m : Int) * m) ≤ 12 * 12 := Int.mul_le_mul (by omega) (by omega) (by omega) (by omega)
  exact ⟨h4, by omega, h2, by omega⟩
theorem St.small {a y : List Int} {n m : Nat} (h : St a y n m) (hm : m ≤ 11) (i : Nat) (hi : i < n) :
    0 ≤ dI a y n i ∧ dI a y n i ≤ 3145716 ∧ 1 ≤ nI y n i ∧ nI y n i ≤ 144 ∧ 0 ≤ y.getD i 0 ∧ y.getD i 0 ≤ 11 ∧ 0 ≤ a.getD i 0 ∧ a.getD i 0 ≤ 262143 := by
  have hl := h.ly
  have k := (h.step i hi).bounds (by omega)
  rw [dts_inc a y i (by omega), nrs_inc y i (by omega), if_pos hi, if_pos hi] at k
  have k2 := h.bounds (by omega)
  have k3 := h.hy i
  have k4 := sms_at h.hy i n hi
  rw [h.hs] at k4
  have k5 := h.ha i
  unfold dI nI
  exact ⟨by omega, by omega, by omega, by omega, by omega, by omega, by omega, by omega⟩

/-- Is place i better than place j? -/
def bt (a y : List Int) (n i j : Nat) : Prop := dI a y n j * dI a y n j * nI y n i < dI a y n i * dI a y n i * nI y n j
instance (a y : List Int) (n i j : Nat) : Decidable (bt a y n i j) := inferInstanceAs (Decidable (_ < _))
/-- The first best one of the places 0 .. i. -/
def bs (a y : List Int) (n : Nat) : Nat → Nat
  | 0 => 0
  | i + 1 => if bt a y n (i + 1) (bs a y n i) then i + 1 else bs a y n i
theorem bs_le (a y : List Int) (n i : Nat) : bs a y n i ≤ i := by
  induction i with
  | zero => simp [bs]
  | succ i ih => unfold bs; split <;> omega
theorem frac (s1 n1 s2 n2 s3 n3 : Int) (h1 : 1 ≤ n1) (h2 : 1 ≤ n2) (h3 : 1 ≤ n3) (hs : 0 ≤ s2) (k1 : s2 * n1 < s1 * n2) (k2 : s3 * n2 ≤ s2 * n3) : s3 * n1 < s1 * n3 := by
  have a1 : s2 * n1 * n3 < s1 * n2 * n3 := Int.mul_lt_mul_of_pos_right k1 (by omega)
  have a2 : s3 * n2 * n1 ≤ s2 * n3 * n1 := Int.mul_le_mul_of_nonneg_right k2 (by omega)
  have a3 : s2 * n1 * n3 = s2 * n3 * n1 := by grind
  have a4 : n2 * (s3 * n1) < n2 * (s1 * n3) := by
    have e1 : n2 * (s3 * n1) = s3 * n2 * n1 := by grind
    have e2 : n2 * (s1 * n3) = s1 * n2 * n3 := by grind
    omega
  exact Int.lt_of_mul_lt_mul_left a4 (by omega)
theorem frac' (s1 n1 s2 n2 s3 n3 : Int) (h1 : 1 ≤ n1) (h2 : 1 ≤ n2) (h3 : 1 ≤ n3) (hs : 0 ≤ s2) (k1 : s2 * n1 ≤ s1 * n2) (k2 : s3 * n2 ≤ s2 * n3) : s3 * n1 ≤ s1 * n3 := by
  have a1 : s2 * n1 * n3 ≤ s1 * n2 * n3 := Int.mul_le_mul_of_nonneg_right k1 (by omega)
  have a2 : s3 * n2 * n1 ≤ s2 * n3 * n1 := Int.mul_le_mul_of_nonneg_right k2 (by omega)
  have a3 : s2 * n1 * n3 = s2 * n3 * n1 := by grind
  have a4 : n2 * (s3 * n1) ≤ n2 * (s1 * n3) := by
    have e1 : n2 * (s3 * n1) = s3 * n2 * n1 := by grind
    have e2 : n2 * (s1 * n3) = s1 * n2 * n3 := by grind
    omega
  exact Int.le_of_mul_le_mul_left a4 (by omega)
theorem sq_nonneg (v : Int) : 0 ≤ v * v := by rw [← natAbs_sq]; omega
/-- The best one: none is better, and each ahead of it is worse. -/
theorem bs_best {a y : List Int} {n : Nat} (hq : ∀ i, i < n → 1 ≤ nI y n i) (i : Nat) (hi : i < n) : (∀ p, p ≤ i → ¬ bt a y n p (bs a y n i)) ∧ (∀ p, p < bs a y n i → bt a y n (bs a y n i) p) := by
  induction i with
  | zero =>
    refine ⟨fun p hp => ?_, fun p hp => by simp [bs] at hp⟩
    have : p = 0 := by omega
    subst this
    simp [bs, bt]
  | succ i ih =>
    obtain ⟨h1, h2⟩ := ih (by omega)
    have hb := bs_le a y n i
    unfold bs
    by_cases hc : bt a y n (i + 1) (bs a y n i)
    · rw [if_pos hc]
      have key : ∀ p, p ≤ i → bt a y n (i + 1) p := fun p hp => by
        have := h1 p hp
        unfold bt at this hc ⊢
        exact frac _ _ _ _ _ _ (hq _ hi) (hq _ (by omega)) (hq _ (by omega)) (sq_nonneg _) hc (by omega)
      refine ⟨fun p hp => ?_, fun p hp => key p (by omega)⟩
      by_cases e : p = i + 1
      · subst e; unfold bt; omega
      · have := key p (by omega)
        unfold bt at this ⊢
        omega
    · rw [if_neg hc]
      refine ⟨fun p hp => ?_, h2⟩
      by_cases e : p = i + 1
      · subst e; exact hc
      · exact h1 p (by omega)
/-- Unlike the best one's, in parts, are all scores ahead of it. -/
theorem bs_first {a y : List Int} {n : Nat} (hq : ∀ i, i < n → 1 ≤ nI y n i) (hn : 1 ≤ n) (p : Nat) (hp : p < bs a y n (n - 1)) : ¬ (dI a y n p * dI a y n p = dI a y n (bs a y n (n - 1)) * dI a y n (bs a y n (n - 1)) ∧ nI y n p = nI y n (bs a y n (n - 1))) := by
  rintro ⟨e1, e2⟩
  have := (bs_best (a := a) hq (n - 1) (by omega)).2 p hp
  unfold bt at this
  rw [e1, e2] at this
  omega
/-- A place that is better than all others is the best one. -/
theorem bs_only {a y : List Int} {n : Nat} (hq : ∀ i, i < n → 1 ≤ nI y n i) (hn : 1 ≤ n) (p : Nat) (hp : p < n) (h : ∀ j, j < n → j ≠ p → bt a y n p j) : bs a y n (n - 1) = p := by
  have h1 := (bs_best (a := a) hq (n - 1) (by omega)).1 p (by omega)
  have h2 := bs_le a y n (n - 1)
  by_cases e : bs a y n (n - 1) = p
  · exact e
  · exact absurd (h _ (by omega) e) h1

/-- The pulses that are found, without signs; and with them. -/
def itr (a : List Int) (n : Nat) : Nat → List Int
  | 0 => tab n fun _ => 0
  | m + 1 => inc (itr a n m) (bs a (itr a n m) n (n - 1))
theorem St.itr {a : List Int} {n : Nat} (hn : 1 ≤ n) (la : a.length = n) (ha : ∀ j, 0 ≤ a.getD j 0 ∧ a.getD j 0 ≤ 262143) (m : Nat) : St a (itr a n m) n m := by
  induction m with
  | zero => exact St.start la ha
  | succ m ih => exact ih.step _ (by have := bs_le a (Proofs.Ytiiiejhdeooabaa.itr a n m) n (n - 1); omega)
def sgn (x y : List Int) (i : Nat) : Int := if x.getD i 0 < 0 then -(y.getD i 0) else y.getD i 0
def fnd (x : List Int) (k : Nat) : List Int := tab x.length (sgn x (itr (szs x) x.length k))
theorem szs_len (x : List Int) : (szs x).length = x.length := tab_len _ _
theorem szs_ok {x : List Int} (h : ∀ i, -1048576 ≤ x.getD i 0 ∧ x.getD i 0 ≤ 1048576) (j : Nat) : 0 ≤ (szs x).getD j 0 ∧ (szs x).getD j 0 ≤ 262143 := by
  by_cases hj : j < x.length
  · unfold szs
    rw [tab_at _ _ j hj]
    exact ⟨szf_pos _ _ _, szs_small h j hj⟩
  · unfold szs
    rw [tab_out _ _ j hj]
    omega
theorem St.of {x : List Int} (h : fairX x = true) (m : Nat) : St (szs x) (Proofs.Ytiiiejhdeooabaa.itr (szs x) x.length m) x.length m := by
  obtain ⟨h1, h2, h3⟩ := fairX_parts h
  exact St.itr h1 (szs_len x) (szs_ok h3) m
end Go.Proofs.Ytiiiejhdeooabaa
