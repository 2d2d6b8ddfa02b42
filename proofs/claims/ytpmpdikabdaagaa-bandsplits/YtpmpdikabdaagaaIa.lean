/- Bits of a number, roots, bands, gains: on plain numbers. Nothing of the program is used. -/
import Derived.Test.YtpmpdikabdaagaaFa
import Derived.Test.YtpmpdikabdaagaaNd
namespace Go.Proofs.Ytpmpdikabdaagaa
open Go.RowKit
set_option linter.unusedVariables false
set_option linter.unusedSimpArgs false

/-- How many bits a number has, looked for at most f times. -/
def bitF : Nat → Nat → Nat
  | 0, _ => 0
  | f + 1, x => if x = 0 then 0 else 1 + bitF f (x / 2)
def bitN (x : Nat) : Nat := bitF 64 x
theorem bitF_zero (f : Nat) : bitF f 0 = 0 := by cases f <;> simp [bitF]
theorem bitF_more (f : Nat) : ∀ x : Nat, x < 2 ^ f → bitF (f + 1) x = bitF f x := by
  induction f with
  | zero => intro x h; have : x = 0 := by simpa using h
            subst this; simp [bitF]
  | succ f ih =>
    intro x h
    by_cases h0 : x = 0
    · subst h0; simp [bitF]
    · rw [Nat.pow_succ] at h
      have := ih (x / 2) (by omega)
      rw [bitF, if_neg h0, this]
      conv => rhs; rw [bitF, if_neg h0]
theorem bitF_lt (f : Nat) : ∀ x : Nat, x < 2 ^ f → x < 2 ^ bitF f x ∧ bitF f x ≤ f := by
  induction f with
  | zero => intro x h; exact ⟨by simpa [bitF] using h, by simp [bitF]⟩
  | succ f ih =>
    intro x h
    by_cases h0 : x = 0
    · subst h0; simp [bitF]
    · rw [Nat.pow_succ] at h
      obtain ⟨h1, h2⟩ := ih (x / 2) (by omega)
      rw [bitF, if_neg h0, Nat.add_comm 1, Nat.pow_succ]
      omega
theorem bitF_ge (f : Nat) : ∀ x : Nat, x < 2 ^ f → x ≠ 0 → 2 ^ bitF f x ≤ 2 * x := by
  induction f with
  | zero => intro x h h0; have : x = 0 := by simpa using h
            exact absurd this h0
  | succ f ih =>
    intro x h h0
    rw [bitF, if_neg h0, Nat.add_comm 1, Nat.pow_succ]
    rw [Nat.pow_succ] at h
    by_cases h1 : x / 2 = 0
    · rw [h1, bitF_zero]; omega
    · have := ih (x / 2) (by omega) h1
      omega
theorem bit_lt {x : Nat} (h : x < 2 ^ 64) : x < 2 ^ bitN x := (bitF_lt 64 x h).1
theorem bit_ge {x : Nat} (h : x < 2 ^ 64) (h0 : x ≠ 0) : 2 ^ bitN x ≤ 2 * x := bitF_ge 64 x h h0
theorem bit_zero : bitN 0 = 0 := bitF_zero 64
theorem bit_half {x : Nat} (h : x < 2 ^ 64) (h0 : x ≠ 0) : bitN x = 1 + bitN (x / 2) := by
  unfold bitN
  rw [← bitF_more 64 x h, bitF, if_neg h0]
theorem bit_le64 {x : Nat} (h : x < 2 ^ 64) : bitN x ≤ 64 := (bitF_lt 64 x h).2
theorem bit_pos {x : Nat} (h : x < 2 ^ 64) (h0 : x ≠ 0) : 1 ≤ bitN x := by
  rw [bit_half h h0]; omega
theorem pow_lt_of {a b : Nat} (h : 2 ^ a < 2 ^ b) : a < b := (Nat.pow_lt_pow_iff_right (by decide)).1 h
theorem bit_le {x k : Nat} (h : x < 2 ^ 64) (hk : x < 2 ^ k) : bitN x ≤ k := by
  by_cases h0 : x = 0
  · subst h0; rw [bit_zero]; omega
  · have h1 := bit_ge h h0
    have : 2 ^ bitN x < 2 ^ (k + 1) := by rw [Nat.pow_succ]; omega
    have := pow_lt_of this
    omega
theorem bit_gt {x k : Nat} (h : x < 2 ^ 64) (hk : 2 ^ k ≤ x) : k < bitN x := pow_lt_of (Nat.lt_of_le_of_lt hk (bit_lt h))
theorem bit_mono {x y : Nat} (h : x ≤ y) (hy : y < 2 ^ 64) : bitN x ≤ bitN y := bit_le (by omega) (Nat.lt_of_le_of_lt h (bit_lt hy))
theorem Counts.bits {B : Nat → Nat} (H : Counts B) (k : Nat) : ∀ x : Nat, x ≤ k → x < 2 ^ 64 → B x = bitN x := by
  induction k with
  | zero =>
    intro x h _
    have : x = 0 := by omega
    subst this
    rw [H.zero, bit_zero]
  | succ k ih =>
    intro x h hx
    by_cases h0 : x = 0
    · subst h0; rw [H.zero, bit_zero]
    · rw [H.half x h0 hx, bit_half hx h0, ih (x / 2) (by omega) (by omega)]

/-- The root. -/
def rootN : Nat → Nat
  | 0 => 0
  | n + 1 => if (rootN n + 1) * (rootN n + 1) ≤ n + 1 then rootN n + 1 else rootN n
theorem root_is (n : Nat) : Root n (rootN n) := by
  induction n with
  | zero => exact ⟨by decide, by decide⟩
  | succ n ih =>
    obtain ⟨h1, h2⟩ := ih
    rw [rootN]
    generalize rootN n = r at *
    have e : (r + 1 + 1) * (r + 1 + 1) = (r + 1) * (r + 1) + (r + 1) + (r + 1) + 1 := by
      rw [Nat.add_mul (r + 1) 1, Nat.mul_add (r + 1)]; omega
    split
    · exact ⟨by assumption, by omega⟩
    · exact ⟨by omega, by omega⟩
/-- A gain's value. -/
def vl (g : Nat) : Nat := if 1 ≤ g ∧ g ≤ 44 then rootN (2 ^ (g - 1)) else 0
theorem vl_root {g : Nat} (h1 : 1 ≤ g) (h2 : g ≤ 44) : Root (2 ^ (g - 1)) (vl g) := by
  unfold vl; rw [if_pos ⟨h1, h2⟩]; exact root_is _
theorem vl_of {g r : Nat} (h1 : 1 ≤ g) (h2 : g ≤ 44) (h : Root (2 ^ (g - 1)) r) : r = vl g := h.one (vl_root h1 h2)
theorem root_lt {n r k : Nat} (h : Root n r) (hn : n < k * k) : r < k := by
  rcases Nat.lt_or_ge r k with q | q
  · exact q
  · have := Nat.mul_le_mul q q
    have := h.1
    omega
theorem root_ge {n r k : Nat} (h : Root n r) (hn : k * k ≤ n) : k ≤ r := by
  rcases Nat.lt_or_ge r k with q | q
  · have := Nat.mul_le_mul (show r + 1 ≤ k by omega) (show r + 1 ≤ k by omega)
    have := h.2
    omega
  · exact q

/-- Where a band begins; how many coefficients it has. -/
def fr (b : Nat) : Nat := if b = 0 then 0 else if b = 1 then 1 else if b = 2 then 2 else if b = 3 then 4 else if b = 4 then 8 else 0
def wd (b : Nat) : Nat := if b = 0 then 1 else if b = 1 then 1 else if b = 2 then 2 else if b = 3 then 4 else if b = 4 then 8 else 0
theorem five {b : Nat} (h : b < 5) : b = 0 ∨ b = 1 ∨ b = 2 ∨ b = 3 ∨ b = 4 := by omega
theorem band_in {b : Nat} (h : b < 5) : fr b + wd b ≤ 16 ∧ 1 ≤ wd b ∧ wd b ≤ 8 ∧ fr b ≤ 8 ∧ fr b + wd b = (if b = 4 then 16 else fr (b + 1)) := by
  rcases five h with rfl | rfl | rfl | rfl | rfl <;> decide
def bnd (c : List Int) (b : Nat) : List Int := (c.drop (fr b)).take (wd b)
theorem bnd_len {c : List Int} (hc : c.length = 16) {b : Nat} (h : b < 5) : (bnd c b).length = wd b := by
  have := band_in h
  unfold bnd
  rw [List.length_take, List.length_drop]
  omega
theorem bnd_at (c : List Int) (b i : Nat) (hi : i < wd b) : (bnd c b).getD i 0 = c.getD (fr b + i) 0 := by
  unfold bnd
  rw [getD_take _ _ _ hi, getD_drop]
theorem bnd_fair {c : List Int} (hf : fairX c = true) (hc : c.length = 16) {b : Nat} (h : b < 5) : fairX (bnd c b) = true := by
  obtain ⟨_, _, h3⟩ := fairX_parts hf
  have hl := bnd_len hc h
  have := band_in h
  exact fairX_true (by omega) (by omega) fun i hi => by rw [bnd_at c b i (by omega)]; exact h3 _
theorem bnd_join (c : List Int) (b : Nat) : c.take (fr b) ++ bnd c b = c.take (fr b + wd b) := by
  unfold bnd
  rw [List.take_add]
/-- The gain of coefficients. -/
def gn (x : List Int) : Nat := bitN (sq x x.length)
theorem sq_lt43 {x : List Int} (hf : fairX x = true) (hl : x.length ≤ 8) : sq x x.length < 2 ^ 44 := by
  obtain ⟨_, _, h3⟩ := fairX_parts hf
  have := sq_le x 1048576 (fun j => by have := h3 j; omega) x.length
  have e : x.length * (1048576 * 1048576) ≤ 8 * (1048576 * 1048576) := Nat.mul_le_mul_right _ hl
  omega
theorem sq_lt64 {x : List Int} (hf : fairX x = true) : sq x x.length < 2 ^ 64 := by
  obtain ⟨_, h2, h3⟩ := fairX_parts hf
  have := sq_le x 1048576 (fun j => by have := h3 j; omega) x.length
  have e : x.length * (1048576 * 1048576) ≤ 16 * (1048576 * 1048576) := Nat.mul_le_mul_right _ h2
  omega
theorem gn_le {x : List Int} (hf : fairX x = true) (hl : x.length ≤ 8) : gn x ≤ 44 := bit_le (sq_lt64 hf) (sq_lt43 hf hl)
theorem gn_le64 {x : List Int} (hf : fairX x = true) : gn x ≤ 64 := bit_le64 (sq_lt64 hf)
def gns (c : List Int) : List Int := tab 5 fun b => (gn (bnd c b) : Int)
theorem sq_ext {x y : List Int} (n : Nat) (h : ∀ i, i < n → (x.getD i 0).natAbs ≤ (y.getD i 0).natAbs) : sq x n ≤ sq y n := by
  induction n with
  | zero => exact Nat.le_refl _
  | succ n ih =>
    have h1 := ih fun i hi => h i (by omega)
    have h2 := h n (by omega)
    have := Nat.mul_le_mul h2 h2
    simp only [sq]
    omega
/-- A gain's value is not above the norm (BandNear). -/
theorem near_gain {s : Nat} (h : s < 2 ^ 44) (h0 : s ≠ 0) : 1 ≤ bitN s ∧ bitN s ≤ 44 ∧ vl (bitN s) * vl (bitN s) ≤ s ∧ s < 2 * (vl (bitN s) + 1) * (vl (bitN s) + 1) := by
  have h64 : s < 2 ^ 64 := by omega
  have g1 := bit_pos h64 h0
  have g2 := bit_le h64 h
  obtain ⟨r1, r2⟩ := vl_root g1 g2
  have b1 := bit_lt h64
  have b2 := bit_ge h64 h0
  have e : 2 ^ bitN s = 2 * 2 ^ (bitN s - 1) := by
    conv => lhs; rw [show bitN s = (bitN s - 1) + 1 by omega, Nat.pow_succ]
    omega
  have e2 : 2 * (vl (bitN s) + 1) * (vl (bitN s) + 1) = 2 * ((vl (bitN s) + 1) * (vl (bitN s) + 1)) := Nat.mul_assoc _ _ _
  refine ⟨g1, g2, ?_, ?_⟩
  · omega
  · rw [e2]; omega
/-- The value of a gain, alone (BandOwn). -/
theorem own_gain {g : Nat} (h1 : 1 ≤ g) (h2 : g ≤ 41) : vl g ≤ 1048576 ∧ (bitN (vl g * vl g) = g ∨ g % 2 = 0 ∧ bitN (vl g * vl g) + 1 = g) := by
  obtain ⟨r1, r2⟩ := vl_root h1 (by omega)
  have hp : 2 ^ (g - 1) ≤ 2 ^ 40 := Nat.pow_le_pow_right (by decide) (by omega)
  have hv : vl g < 1048577 := root_lt ⟨r1, r2⟩ (by omega)
  refine ⟨by omega, ?_⟩
  have h64 : vl g * vl g < 2 ^ 64 := by omega
  have eg : 2 ^ g = 2 * 2 ^ (g - 1) := by
    conv => lhs; rw [show g = (g - 1) + 1 by omega, Nat.pow_succ]
    omega
  have hle : bitN (vl g * vl g) ≤ g := bit_le h64 (by have : 0 < 2 ^ (g - 1) := Nat.pow_pos (by decide)
                                                      omega)
  have hsq : ∀ k, 2 ^ k * 2 ^ k = 2 ^ (2 * k) := fun k => by rw [← Nat.pow_add]; congr 1; omega
  by_cases ho : g % 2 = 1
  · left
    have hk := root_ge (k := 2 ^ ((g - 1) / 2)) ⟨r1, r2⟩ (by rw [hsq]; exact Nat.pow_le_pow_right (by decide) (by omega))
    have := Nat.mul_le_mul hk hk
    rw [hsq, show 2 * ((g - 1) / 2) = g - 1 by omega] at this
    have := bit_gt h64 this
    omega
  · have hk := root_ge (k := 2 ^ ((g - 2) / 2)) ⟨r1, r2⟩ (by rw [hsq]; exact Nat.pow_le_pow_right (by decide) (by omega))
    have := Nat.mul_le_mul hk hk
    rw [hsq, show 2 * ((g - 2) / 2) = g - 2 by omega] at this
    have := bit_gt h64 this
    omega
end Go.Proofs.Ytpmpdikabdaagaa
