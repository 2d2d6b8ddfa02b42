/- The published CRC-32, bit by bit and by its table: plain facts on natural numbers. Nothing of the program is imported. -/
import Derived.WalkKit
namespace Go.Proofs.Ytdadkmklfphleaa

/-- One bit's step. -/
def stp (x : Nat) : Nat := if x % 2 = 1 then x / 2 ^^^ 3988292384 else x / 2
def stps : Nat → Nat → Nat
  | 0, x => x
  | n + 1, x => stps n (stp x)
/-- The table's number at a place. -/
def entry (i : Nat) : Nat := stps 8 i
/-- What a byte makes of a number, by a table that is a function. -/
def addB (t : Nat → Nat) (c b : Nat) : Nat := c / 256 ^^^ t (c % 256 ^^^ b)
def addL (t : Nat → Nat) : Nat → List Nat → Nat
  | c, [] => c
  | c, b :: l => addL t (addB t c b) l
/-- The published sum. -/
def crc (l : List Nat) : Nat := addL entry 4294967295 l ^^^ 4294967295

theorem addL_append (t : Nat → Nat) (c : Nat) (l m : List Nat) : addL t c (l ++ m) = addL t (addL t c l) m := by
  induction l generalizing c with
  | nil => rfl
  | cons b l ih => exact ih _

theorem xor_half (x y : Nat) : (x ^^^ y) / 2 = x / 2 ^^^ y / 2 := by
  apply Nat.eq_of_testBit_eq
  intro i
  simp [Nat.testBit_div_two, Nat.testBit_xor]
theorem xor_odd (x y : Nat) : (x ^^^ y) % 2 = (x % 2 + y % 2) % 2 := by
  have h := Nat.xor_mod_two_pow (a := x) (b := y) (n := 1)
  simp only [Nat.pow_one] at h
  rw [h]
  rcases Nat.mod_two_eq_zero_or_one x with hx | hx <;> rcases Nat.mod_two_eq_zero_or_one y with hy | hy <;> rw [hx, hy] <;> rfl

theorem stp_xor (x y : Nat) : stp (x ^^^ y) = stp x ^^^ stp y := by
  unfold stp
  rw [xor_odd, xor_half]
  rcases Nat.mod_two_eq_zero_or_one x with hx | hx <;> rcases Nat.mod_two_eq_zero_or_one y with hy | hy <;> rw [hx, hy] <;> simp
  · rw [Nat.xor_assoc]
  · rw [Nat.xor_assoc, Nat.xor_assoc, Nat.xor_comm 3988292384]
  · rw [Nat.xor_assoc, ← Nat.xor_assoc 3988292384, Nat.xor_comm 3988292384 (y / 2), Nat.xor_assoc, Nat.xor_self, Nat.xor_zero]
theorem stps_xor (n x y : Nat) : stps n (x ^^^ y) = stps n x ^^^ stps n y := by
  induction n generalizing x y with
  | zero => rfl
  | succ n ih => simp only [stps]; rw [stp_xor, ih]
theorem stps_add (m n x : Nat) : stps (m + n) x = stps n (stps m x) := by
  induction m generalizing x with
  | zero => rw [Nat.zero_add]; rfl
  | succ m ih => rw [show m + 1 + n = (m + n) + 1 by omega]; simp only [stps]; exact ih _
theorem stp_lt (x : Nat) (h : x < 2 ^ 32) : stp x < 2 ^ 32 := by
  unfold stp
  split
  · exact Nat.xor_lt_two_pow (by omega) (by decide)
  · omega
theorem stps_lt (n x : Nat) (h : x < 2 ^ 32) : stps n x < 2 ^ 32 := by
  induction n generalizing x with
  | zero => exact h
  | succ n ih => exact ih _ (stp_lt x h)
theorem stp_zero : stp 0 = 0 := rfl
theorem stps_zero (n : Nat) : stps n 0 = 0 := by
  induction n with
  | zero => rfl
  | succ n ih => exact ih
theorem stp_even (x : Nat) : stp (2 * x) = x := by
  unfold stp; rw [if_neg (by omega)]; omega
theorem stps_shift (n x : Nat) : stps n (2 ^ n * x) = x := by
  induction n generalizing x with
  | zero => simp [stps]
  | succ n ih =>
    simp only [stps]
    rw [Nat.pow_succ, Nat.mul_comm (2 ^ n) 2, Nat.mul_assoc, stp_even, ih]
/-- No two numbers of 32 bits have one step. -/
theorem stp_inj0 (x : Nat) (h : x < 2 ^ 32) (h0 : stp x = 0) : x = 0 := by
  unfold stp at h0
  split at h0
  · have h1 : x / 2 = 3988292384 := by
      have := congrArg (· ^^^ 3988292384) h0
      simp only [Nat.xor_assoc, Nat.xor_self, Nat.xor_zero, Nat.zero_xor] at this
      exact this
    omega
  · omega
theorem stps_inj0 (n x : Nat) (h : x < 2 ^ 32) (h0 : stps n x = 0) : x = 0 := by
  induction n generalizing x with
  | zero => exact h0
  | succ n ih => exact stp_inj0 x h (ih _ (stp_lt x h) h0)

theorem add_xor (n a b : Nat) (h : b < 2 ^ n) : 2 ^ n * a + b = 2 ^ n * a ^^^ b := by
  apply Nat.eq_of_testBit_eq
  intro j
  rw [Nat.testBit_two_pow_mul_add _ h, Nat.testBit_xor, Nat.testBit_two_pow_mul]
  by_cases hj : j < n
  · rw [if_pos hj, decide_eq_false (by omega)]; simp
  · rw [if_neg hj, decide_eq_true (by omega), Nat.testBit_lt_two_pow (Nat.lt_of_lt_of_le h (Nat.pow_le_pow_right (by decide) (by omega)))]; simp
theorem xor_eq {a b : Nat} (h : a ^^^ b = 0) : a = b := by
  have := congrArg (· ^^^ b) h
  simp only [Nat.xor_assoc, Nat.xor_self, Nat.xor_zero, Nat.zero_xor] at this
  exact this
/-- By its table: a byte is eight steps. -/
theorem addB_entry (c b : Nat) : addB entry c b = stps 8 (c ^^^ b) := by
  unfold addB entry
  have hc : c = 256 * (c / 256) ^^^ c % 256 := by
    have h := add_xor 8 (c / 256) (c % 256) (by omega)
    have h2 : 256 * (c / 256) + c % 256 = c := Nat.div_add_mod c 256
    exact h2.symm.trans h
  conv => rhs; rw [hc]
  rw [Nat.xor_assoc, stps_xor 8 (256 * (c / 256)), show (256 : Nat) = 2 ^ 8 from rfl, stps_shift]

/-- How two sums differ: by what the bytes differ. -/
theorem addL_xor (l m : List Nat) (hl : l.length = m.length) (c d : Nat) :
    addL entry c l ^^^ addL entry d m = addL entry (c ^^^ d) (List.zipWith (· ^^^ ·) l m) := by
  induction l generalizing m c d with
  | nil => cases m with
    | nil => rfl
    | cons y m => simp at hl
  | cons x l ih => cases m with
    | nil => simp at hl
    | cons y m =>
      simp only [addL, List.zipWith_cons_cons]
      rw [ih m (by simpa using hl)]
      congr 1
      rw [addB_entry, addB_entry, addB_entry, ← stps_xor]
      congr 1
      rw [Nat.xor_assoc, ← Nat.xor_assoc x, Nat.xor_comm x d, Nat.xor_assoc d, ← Nat.xor_assoc c]

/-- The number of a list of bytes, the lowest one first: as the bits stand. -/
def bvN : List Nat → Nat
  | [] => 0
  | x :: l => x + 256 * bvN l
/-- From nought on, the bytes' own number goes through all steps. -/
theorem addL_steps (l : List Nat) (hl : ∀ x ∈ l, x < 256) (c : Nat) : addL entry c l = stps (8 * l.length) (c ^^^ bvN l) := by
  induction l generalizing c with
  | nil => simp [addL, bvN, stps]
  | cons x l ih =>
    simp only [addL, List.length_cons]
    rw [ih (fun y hy => hl y (by simp [hy])), addB_entry, show 8 * (l.length + 1) = 8 + 8 * l.length by omega, stps_add]
    congr 1
    have hx : bvN (x :: l) = 256 * bvN l ^^^ x := by
      have h := add_xor 8 (bvN l) x (hl x (by simp))
      simp only [bvN]
      rw [Nat.add_comm]; exact h
    have e : c ^^^ (256 * bvN l ^^^ x) = (c ^^^ x) ^^^ 2 ^ 8 * bvN l := by
      rw [Nat.xor_comm (256 * bvN l), ← Nat.xor_assoc]
    rw [hx, e, stps_xor 8 (c ^^^ x), stps_shift]
/-- Two texts of one length whose bytes differ by a number within 32 bits somewhere: unlike sums, but for nought. -/
theorem burst (l m : List Nat) (hl : l.length = m.length) (hd : ∀ x ∈ List.zipWith (· ^^^ ·) l m, x < 256) (p D : Nat) (hD : D < 2 ^ 32) (hb : bvN (List.zipWith (· ^^^ ·) l m) = 2 ^ p * D) (hp : p ≤ 8 * l.length) (c : Nat) :
    (addL entry c l = addL entry c m) ↔ D = 0 := by
  have h := addL_xor l m hl c c
  rw [Nat.xor_self, addL_steps _ hd, Nat.zero_xor, hb, List.length_zipWith, ← hl, Nat.min_self, show 8 * l.length = p + (8 * l.length - p) by omega, stps_add, stps_shift] at h
  constructor
  · intro he
    rw [he, Nat.xor_self] at h
    exact stps_inj0 _ D hD h.symm
  · intro he
    subst he
    rw [stps_zero] at h
    exact xor_eq h
end Go.Proofs.Ytdadkmklfphleaa
