/- A shape's norm, on plain numbers. -/
import Derived.Test.YtiiiejhdeooabaaFj
namespace Go.Proofs.Ytiiiejhdeooabaa
open Go.RowKit
set_option linter.unusedVariables false
set_option linter.unusedSimpArgs false

def sumI (f : Nat → Int) : Nat → Int
  | 0 => 0
  | j + 1 => sumI f j + f j
theorem sumI_le (f g : Nat → Int) (c d e : Int) (n : Nat) (h : ∀ i, i < n → c * f i ≤ d * g i + e) : c * sumI f n ≤ d * sumI g n + n * e := by
  induction n with
  | zero => simp [sumI]
  | succ n ih =>
    have h1 := ih (fun i hi => h i (by omega))
    have h2 := h n (by omega)
    have e1 : c * sumI f (n + 1) = c * sumI f n + c * f n := by simp only [sumI]; grind
    have e2 : d * sumI g (n + 1) = d * sumI g n + d * g n := by simp only [sumI]; grind
    have e3 : ((n + 1 : Nat) : Int) * e = n * e + e := by grind
    rw [e1, e2, e3]
    omega
theorem sumI_mul (f : Nat → Int) (c : Int) (n : Nat) : sumI (fun i => c * f i) n = c * sumI f n := by
  induction n with
  | zero => simp [sumI]
  | succ n ih => simp only [sumI, ih]; grind
theorem sumI_congr {f g : Nat → Int} {n : Nat} (h : ∀ i, i < n → f i = g i) : sumI f n = sumI g n := by
  induction n with
  | zero => rfl
  | succ n ih => simp only [sumI]; rw [ih (fun i hi => h i (by omega)), h n (by omega)]
theorem sumI_zero (n : Nat) : sumI (fun _ => 0) n = 0 := by
  induction n with
  | zero => rfl
  | succ n ih => simp only [sumI, ih]; rfl
theorem cast_sq (s : Nat) : (((s + 1) * (s + 1) : Nat) : Int) = ((s : Int) + 1) * ((s : Int) + 1) := by
  rw [Int.natCast_mul, Int.natCast_add]; rfl
theorem sq_sumI (y : List Int) (n : Nat) : (sq y n : Int) = sumI (fun i => y.getD i 0 * y.getD i 0) n := by
  induction n with
  | zero => rfl
  | succ n ih =>
    simp only [sq, sumI]
    rw [Int.natCast_add, ih, natAbs_sq]
theorem pt_up (s Q U E : Int) (hs : 0 ≤ s) (hQ : 0 ≤ Q) (h1 : -s ≤ E) (h2 : E ≤ s) : 4 * s * Q * ((U + E) * (U + E)) ≤ (4 * s * Q + 16 * s * s) * (U * U) + (4 * s * Q + Q * Q) * (s * s) := by
  have e0 : 0 ≤ (s - E) * (s + E) := Int.mul_nonneg (by omega) (by omega)
  have e1 : (s - E) * (s + E) = s * s - E * E := by grind
  have c0 : 0 ≤ 4 * s * Q + Q * Q := by
    have := Int.mul_nonneg hs hQ
    have := Int.mul_nonneg hQ hQ
    have : 4 * s * Q = 4 * (s * Q) := by grind
    omega
  have c1 : (4 * s * Q + Q * Q) * (E * E) ≤ (4 * s * Q + Q * Q) * (s * s) := Int.mul_le_mul_of_nonneg_left (by omega) c0
  have k := sq_nonneg (4 * s * U - Q * E)
  have id : (4 * s * Q + 16 * s * s) * (U * U) + (4 * s * Q + Q * Q) * (E * E) = 4 * s * Q * ((U + E) * (U + E)) + (4 * s * U - Q * E) * (4 * s * U - Q * E) := by grind
  generalize (4 * s * Q + Q * Q) * (E * E) = C at *
  generalize (4 * s * Q + Q * Q) * (s * s) = D at *
  generalize (4 * s * Q + 16 * s * s) * (U * U) = B at *
  generalize 4 * s * Q * ((U + E) * (U + E)) = A at *
  generalize (4 * s * U - Q * E) * (4 * s * U - Q * E) = K at *
  omega
theorem pt_down (s Q U E : Int) (hs : 0 ≤ s) (hQ : 4 * s ≤ Q) (h1 : -s ≤ E) (h2 : E ≤ s) : (4 * s * Q - 16 * s * s) * (U * U) ≤ 4 * s * Q * ((U + E) * (U + E)) + (Q * Q - 4 * s * Q) * (s * s) := by
  have e0 : 0 ≤ (s - E) * (s + E) := Int.mul_nonneg (by omega) (by omega)
  have e1 : (s - E) * (s + E) = s * s - E * E := by grind
  have c0 : 0 ≤ Q * Q - 4 * s * Q := by
    have := Int.mul_nonneg (show 0 ≤ Q - 4 * s by omega) (show 0 ≤ Q by omega)
    have : (Q - 4 * s) * Q = Q * Q - 4 * s * Q := by grind
    omega
  have c1 : (Q * Q - 4 * s * Q) * (E * E) ≤ (Q * Q - 4 * s * Q) * (s * s) := Int.mul_le_mul_of_nonneg_left (by omega) c0
  have k := sq_nonneg (4 * s * U + Q * E)
  have id : (4 * s * Q - 16 * s * s) * (U * U) + (4 * s * U + Q * E) * (4 * s * U + Q * E) = 4 * s * Q * ((U + E) * (U + E)) + (Q * Q - 4 * s * Q) * (E * E) := by grind
  generalize (Q * Q - 4 * s * Q) * (E * E) = C at *
  generalize (Q * Q - 4 * s * Q) * (s * s) = D at *
  generalize (4 * s * Q - 16 * s * s) * (U * U) = B at *
  generalize 4 * s * Q * ((U + E) * (U + E)) = A at *
  generalize (4 * s * U + Q * E) * (4 * s * U + Q * E) = K at *
  omega
theorem sq_le_sq {a b : Int} (ha : 0 ≤ a) (hb : 0 ≤ b) (h : a * a ≤ b * b) : a ≤ b := by
  by_cases c : a ≤ b
  · exact c
  · exfalso
    have h1 : b * b ≤ b * a := Int.mul_le_mul_of_nonneg_left (by omega) hb
    have h2 : b * a < a * a := Int.mul_lt_mul_of_pos_right (by omega) (by omega)
    omega
/-- The sum of the squares of a shape, from above. -/
theorem norm_up (U Z : Nat → Int) (n : Nat) (hn : n ≤ 16) (s Q : Int) (hs : 1 ≤ s) (hQ : 1 ≤ Q) (hE : ∀ i, i < n → -s ≤ Z i - U i ∧ Z i - U i ≤ s) (hU : sumI (fun i => U i * U i) n ≤ Q * Q) : sumI (fun i => Z i * Z i) n ≤ (Q + 4 * s) * (Q + 4 * s) := by
  have h := sumI_le (fun i => Z i * Z i) (fun i => U i * U i) (4 * s * Q) (4 * s * Q + 16 * s * s) ((4 * s * Q + Q * Q) * (s * s)) n fun i hi => by
    have := pt_up s Q (U i) (Z i - U i) (by omega) (by omega) (hE i hi).1 (hE i hi).2
    rw [show U i + (Z i - U i) = Z i by omega] at this
    exact this
  have p0 : 0 ≤ s * Q := Int.mul_nonneg (by omega) (by omega)
  have p1 : 0 ≤ s * s := Int.mul_nonneg (by omega) (by omega)
  have p2 : 0 ≤ Q * Q := Int.mul_nonneg (by omega) (by omega)
  have q0 : 0 ≤ 4 * s * Q + 16 * s * s := by
    have : 4 * s * Q + 16 * s * s = 4 * (s * Q) + 16 * (s * s) := by grind
    omega
  have q1 : 0 ≤ (4 * s * Q + Q * Q) * (s * s) := Int.mul_nonneg (by have : 4 * s * Q = 4 * (s * Q) := by grind
                                                                    omega) p1
  have h2 := Int.mul_le_mul_of_nonneg_left hU q0
  have h3 : (n : Int) * ((4 * s * Q + Q * Q) * (s * s)) ≤ 16 * ((4 * s * Q + Q * Q) * (s * s)) := Int.mul_le_mul_of_nonneg_right (by omega) q1
  have id : (4 * s * Q + 16 * s * s) * (Q * Q) + 16 * ((4 * s * Q + Q * Q) * (s * s)) = 4 * s * Q * ((Q + 4 * s) * (Q + 4 * s)) := by grind
  have h4 : 4 * s * Q * sumI (fun i => Z i * Z i) n ≤ 4 * s * Q * ((Q + 4 * s) * (Q + 4 * s)) := by omega
  refine Int.le_of_mul_le_mul_left h4 ?_
  have : 0 < s * Q := Int.mul_pos (by omega) (by omega)
  have : 4 * s * Q = 4 * (s * Q) := by grind
  omega
theorem norm_down (U Z : Nat → Int) (n : Nat) (hn : n ≤ 16) (s Q : Int) (hs : 1 ≤ s) (hQ : 4 * s ≤ Q) (hE : ∀ i, i < n → -s ≤ Z i - U i ∧ Z i - U i ≤ s) (hU : Q * Q ≤ sumI (fun i => U i * U i) n) : (Q - 4 * s) * (Q - 4 * s) ≤ sumI (fun i => Z i * Z i) n := by
  have h := sumI_le (fun i => U i * U i) (fun i => Z i * Z i) (4 * s * Q - 16 * s * s) (4 * s * Q) ((Q * Q - 4 * s * Q) * (s * s)) n fun i hi => by
    have := pt_down s Q (U i) (Z i - U i) (by omega) hQ (hE i hi).1 (hE i hi).2
    rw [show U i + (Z i - U i) = Z i by omega] at this
    exact this
  have p0 : 0 ≤ (Q - 4 * s) * s := Int.mul_nonneg (by omega) (by omega)
  have p1 : 0 ≤ s * s := Int.mul_nonneg (by omega) (by omega)
  have p2 : 0 ≤ (Q - 4 * s) * Q := Int.mul_nonneg (by omega) (by omega)
  have q0 : 0 ≤ 4 * s * Q - 16 * s * s := by
    have : 4 * s * Q - 16 * s * s = 4 * ((Q - 4 * s) * s) := by grind
    omega
  have q1 : 0 ≤ (Q * Q - 4 * s * Q) * (s * s) := Int.mul_nonneg (by have : Q * Q - 4 * s * Q = (Q - 4 * s) * Q := by grind
                                                                    omega) p1
  have h2 := Int.mul_le_mul_of_nonneg_left hU q0
  have h3 : (n : Int) * ((Q * Q - 4 * s * Q) * (s * s)) ≤ 16 * ((Q * Q - 4 * s * Q) * (s * s)) := Int.mul_le_mul_of_nonneg_right (by omega) q1
  have id : (4 * s * Q - 16 * s * s) * (Q * Q) - 16 * ((Q * Q - 4 * s * Q) * (s * s)) = 4 * s * Q * ((Q - 4 * s) * (Q - 4 * s)) := by grind
  have h4 : 4 * s * Q * ((Q - 4 * s) * (Q - 4 * s)) ≤ 4 * s * Q * sumI (fun i => Z i * Z i) n := by omega
  refine Int.le_of_mul_le_mul_left h4 ?_
  have : 0 < s * Q := Int.mul_pos (by omega) (by omega)
  have : 4 * s * Q = 4 * (s * Q) := by grind
  omega

/-- Each number of a shape is not beyond the radius. -/
theorem shf_le (y : List Int) (r : Int) (s n i : Nat) (hr : 0 ≤ r) (hN : 1 ≤ sq y n) (hs : Root (65536 * sq y n) s) (hi : i < n) : -r ≤ shf y r s i ∧ shf y r s i ≤ r := by
  have h1 := root_pos hs hN
  have h2 := root_each hs _ (sq_at y i n hi)
  obtain ⟨z1, z2⟩ := near_le ((y.getD i 0).natAbs : Nat) r s (by omega) hr (by omega) (by omega)
  unfold shf
  by_cases hneg : y.getD i 0 < 0
  · have e : y.getD i 0 * r * 256 = -(((y.getD i 0).natAbs : Nat) * r * 256) := by
      rw [show (((y.getD i 0).natAbs : Nat) : Int) = -(y.getD i 0) by omega]; grind
    rw [e, near_neg]
    omega
  · have e : y.getD i 0 * r * 256 = ((y.getD i 0).natAbs : Nat) * r * 256 := by
      rw [show (((y.getD i 0).natAbs : Nat) : Int) = y.getD i 0 by omega]
    rw [e]
    omega
/-- P7.4: the root of a shape's square is near the radius. -/
theorem shape_norm (y : List Int) (r : Int) (s n t : Nat) (hn : n ≤ 16) (hr : 0 ≤ r) (hN : 1 ≤ sq y n) (hs : Root (65536 * sq y n) s) (ht : Root (sq (tab n (shf y r s)) n) t) : (t : Int) - r ≤ r / 255 + 3 ∧ r - (t : Int) ≤ r / 255 + 3 := by
  have h256 := root_pos hs hN
  have hz : ∀ i, i < n → (tab n (shf y r s)).getD i 0 = shf y r s i := fun i hi => tab_at _ _ i hi
  have hM : (sq (tab n (shf y r s)) n : Int) = sumI (fun i => shf y r s i * shf y r s i) n := by
    rw [sq_sumI]; exact sumI_congr fun i hi => by rw [hz i hi]
  have hYN : (sq y n : Int) = sumI (fun i => y.getD i 0 * y.getD i 0) n := sq_sumI y n
  obtain ⟨t1, t2⟩ := ht
  obtain ⟨s1, s2⟩ := hs
  generalize hS : sq (tab n (shf y r s)) n = M at *
  generalize hS2 : sq y n = N at *
  clear hS hS2 hz
  have sI : (1 : Int) ≤ s := by omega
  have e1 : sumI (fun i => (512 * r * y.getD i 0) * (512 * r * y.getD i 0)) n = 262144 * (r * r) * N := by
    rw [hYN, ← sumI_mul]
    exact sumI_congr fun i hi => by grind
  have e2 : sumI (fun i => (2 * s * shf y r s i) * (2 * s * shf y r s i)) n = 4 * ((s : Int) * s) * M := by
    rw [hM, ← sumI_mul]
    exact sumI_congr fun i hi => by grind
  have hE : ∀ i, i < n → -(s : Int) ≤ 2 * s * shf y r s i - 512 * r * y.getD i 0 ∧ 2 * s * shf y r s i - 512 * r * y.getD i 0 ≤ s := fun i hi => by
    have := near_near (y.getD i 0 * r * 256) s sI
    have f1 : 2 * (y.getD i 0 * r * 256 - near (y.getD i 0 * r * 256) s * s) = 512 * r * y.getD i 0 - 2 * s * shf y r s i := by unfold shf; grind
    rw [f1] at this
    omega
  have rr := sq_nonneg r
  have s1' : (s : Int) * s ≤ 65536 * N := by
    have : ((s * s : Nat) : Int) ≤ ((65536 * N : Nat) : Int) := by omega
    rw [Int.natCast_mul] at this
    omega
  have s2' : 65536 * (N : Int) ≤ (s + 1) * (s + 1) := by
    have h := Int.ofNat_lt.2 s2
    have e1 : ((65536 * N : Nat) : Int) = 65536 * (N : Int) := by omega
    have e2 := cast_sq s
    omega
  have t1' : (t : Int) * t ≤ M := by
    have : ((t * t : Nat) : Int) ≤ ((M : Nat) : Int) := by omega
    rw [Int.natCast_mul] at this
    exact this
  constructor
  · by_cases r0 : r = 0
    · subst r0
      -- all numbers are 0
      have hz : ∀ i, i < n → shf y 0 s i = 0 := fun i hi => by unfold shf; simp [near_zero]
      have hM0 : (M : Int) = 0 := by
        rw [hM, sumI_congr (g := fun _ => 0) (fun i hi => by rw [hz i hi]; simp), sumI_zero]
      have : t = 0 := by
        rcases Nat.eq_zero_or_pos t with h | h
        · exact h
        · have : 1 * 1 ≤ t * t := Nat.mul_le_mul h h
          omega
      subst this
      simp
    · have hQ : (1 : Int) ≤ 2 * r * (s + 1) := by
        have : 1 * 1 ≤ r * (s + 1) := Int.mul_le_mul (by omega) (by omega) (by omega) (by omega)
        have : 2 * r * ((s : Int) + 1) = 2 * (r * (s + 1)) := by grind
        omega
      have hU : sumI (fun i => (512 * r * y.getD i 0) * (512 * r * y.getD i 0)) n ≤ (2 * r * (s + 1)) * (2 * r * (s + 1)) := by
        rw [e1]
        have a := Int.mul_le_mul_of_nonneg_left s2' (show 0 ≤ 4 * (r * r) by omega)
        have b : 4 * (r * r) * (65536 * (N : Int)) = 262144 * (r * r) * N := by grind
        have c : 4 * (r * r) * (((s : Int) + 1) * (s + 1)) = (2 * r * (s + 1)) * (2 * r * (s + 1)) := by grind
        omega
      have up := norm_up (fun i => 512 * r * y.getD i 0) (fun i => 2 * s * shf y r s i) n hn s (2 * r * (s + 1)) sI hQ hE hU
      rw [e2] at up
      have a1 : (2 * (s : Int) * t) * (2 * s * t) ≤ (2 * r * (s + 1) + 4 * s) * (2 * r * (s + 1) + 4 * s) := by
        have a := Int.mul_le_mul_of_nonneg_left t1' (show 0 ≤ 4 * ((s : Int) * s) by have := sq_nonneg (s : Int); omega)
        have b : 4 * ((s : Int) * s) * ((t : Int) * t) = (2 * (s : Int) * t) * (2 * s * t) := by grind
        omega
      have a2 := sq_le_sq (by have := Int.mul_nonneg (show 0 ≤ (s : Int) by omega) (show 0 ≤ (t : Int) by omega)
                              have : 2 * (s : Int) * t = 2 * (s * t) := by grind
                              omega) (by omega) a1
      have a3 : (s : Int) * (t - r - 2) ≤ r := by
        have : 2 * ((s : Int) * (t - r - 2)) = 2 * s * t - 2 * r * (s + 1) - 4 * s + 2 * r := by grind
        omega
      by_cases c : (t : Int) - r - 2 ≤ 0
      · omega
      · have a4 : 256 * ((t : Int) - r - 2) ≤ s * (t - r - 2) := Int.mul_le_mul_of_nonneg_right (by omega) (by omega)
        omega
  · by_cases r3 : r ≤ 3
    · omega
    · have hQ : 4 * (s : Int) ≤ 2 * r * s := by
        have : 2 * (s : Int) ≤ r * s := Int.mul_le_mul_of_nonneg_right (by omega) (by omega)
        have : 2 * r * (s : Int) = 2 * (r * s) := by grind
        omega
      have hU : (2 * r * (s : Int)) * (2 * r * s) ≤ sumI (fun i => (512 * r * y.getD i 0) * (512 * r * y.getD i 0)) n := by
        rw [e1]
        have a := Int.mul_le_mul_of_nonneg_left s1' (show 0 ≤ 4 * (r * r) by omega)
        have b : 4 * (r * r) * (65536 * (N : Int)) = 262144 * (r * r) * N := by grind
        have c : 4 * (r * r) * ((s : Int) * s) = (2 * r * s) * (2 * r * s) := by grind
        omega
      have dn := norm_down (fun i => 512 * r * y.getD i 0) (fun i => 2 * s * shf y r s i) n hn s (2 * r * s) sI hQ hE hU
      rw [e2] at dn
      have a1 : 4 * ((s : Int) * s) * ((r - 2) * (r - 2)) ≤ 4 * ((s : Int) * s) * M := by
        have : (2 * r * (s : Int) - 4 * s) * (2 * r * s - 4 * s) = 4 * ((s : Int) * s) * ((r - 2) * (r - 2)) := by grind
        omega
      have a2 : (r - 2) * (r - 2) ≤ (M : Int) := Int.le_of_mul_le_mul_left a1 (by have := Int.mul_pos (show 0 < (s : Int) by omega) (show 0 < (s : Int) by omega); omega)
      have a3 : (M : Int) < (t + 1) * (t + 1) := by
        have h := Int.ofNat_lt.2 t2
        have e2 := cast_sq t
        omega
      by_cases c : r - 2 ≤ (t : Int)
      · omega
      · exfalso
        have : ((t : Int) + 1) * (t + 1) ≤ (r - 2) * (r - 2) := Int.mul_le_mul (by omega) (by omega) (by omega) (by omega)
        omega
end Go.Proofs.Ytiiiejhdeooabaa
