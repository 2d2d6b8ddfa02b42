/- The document's logarithm; how many bytes choices take. -/
import Derived.Test.YtkfpphccpkfenaaCw
namespace Go.Proofs.Ytkfpphccpkfenaa
open Go.RowKit
set_option linter.unusedVariables false
set_option linter.unusedSimpArgs false

/-- How many bits a number has. -/
def nb : Nat → Nat → Nat
  | 0, _ => 0
  | f + 1, x => if x = 0 then 0 else 1 + nb f (x / 2)
theorem nb_le (f x : Nat) : nb f x ≤ f := by
  induction f generalizing x with
  | zero => simp [nb]
  | succ f ih => unfold nb; split
                 · omega
                 · have := ih (x / 2); omega
theorem nb_lt (f x : Nat) (h : x < 2 ^ f) : x < 2 ^ nb f x := by
  induction f generalizing x with
  | zero => simpa [nb] using h
  | succ f ih =>
    unfold nb
    split
    · rename_i h0; subst h0; simp
    · have := ih (x / 2) (by rw [Nat.pow_succ] at h; omega)
      rw [Nat.add_comm, Nat.pow_succ]; omega
/-! ### How many bytes choices take -/
/-- The bits of a whole. -/
def wb (tot : Nat) : Nat := nb 16 (tot - 1)
theorem wb_le (tot : Nat) : wb tot ≤ 16 := nb_le _ _
theorem wb_ge {tot : Nat} (h1 : 1 ≤ tot) (h : tot ≤ 65536) : tot ≤ 2 ^ wb tot := by
  have := nb_lt 16 (tot - 1) (by show tot - 1 < 65536; omega)
  unfold wb; omega
def sumB : List (Nat × Nat × Nat) → Nat
  | [] => 0
  | c :: l => wb c.2.2 + sumB l
theorem sumB_append (l m : List (Nat × Nat × Nat)) : sumB (l ++ m) = sumB l + sumB m := by
  induction l with
  | nil => simp [sumB]
  | cons c l ih => simp only [List.cons_append, sumB, ih]; omega
theorem sumB_snoc (l : List (Nat × Nat × Nat)) (lo hi tot : Nat) : sumB (l ++ [(lo, hi, tot)]) = sumB l + wb tot := by rw [sumB_append]; rfl
theorem sumB_le (l : List (Nat × Nat × Nat)) : sumB l ≤ 16 * l.length := by
  induction l with
  | nil => simp [sumB]
  | cons c l ih => have := wb_le c.2.2; simp only [sumB, List.length_cons]; omega
theorem width_wide {R lo hi tot : Nat} (hR : Rok R) (hf : Fair lo hi tot) : 256 * R ≤ 257 * (width R lo hi tot * 2 ^ wb tot) := by
  have h1 := hf.lt
  have h2 := hf.le
  have hq := unit_ge hR (show 0 < tot by omega) hf.top
  have hw := width_unit (R := R) hf
  have hb := wb_ge (show 1 ≤ tot by omega) hf.top
  have hlt : R < tot * (R / tot + 1) := Nat.lt_mul_div_succ R (by omega)
  generalize R / tot = q at *
  generalize width R lo hi tot = W at *
  have e1 : q * tot ≤ W * 2 ^ wb tot := Nat.mul_le_mul hw hb
  have e2 : tot * (q + 1) = q * tot + tot := by rw [Nat.mul_add, Nat.mul_comm tot q]; omega
  have e3 : 256 * tot ≤ q * tot := Nat.mul_le_mul_right _ hq
  omega
/-- What holds of an encoder's bytes: none is more than the choices' bits say, and a 257th part. -/
def Spare (E : En) (S n : Nat) : Prop := 4294967295 * 256 ^ E.m * 256 ^ n ≤ E.R * 2 ^ S * 257 ^ n
theorem Spare.put {E : En} (hg : E.Good) {S n : Nat} (h : Spare E S n) {lo hi tot : Nat} (hf : Fair lo hi tot) : Spare (E.put lo hi tot) (S + wb tot) (n + 1) := by
  have hw := width_wide hg.r hf
  rw [En.put_plain hg hf]
  unfold Spare at *
  simp only
  generalize width E.R lo hi tot = W at *
  generalize sh W = s
  generalize E.R = R at *
  rw [Nat.pow_add 256 E.m s, Nat.pow_add 2 S, Nat.pow_succ, Nat.pow_succ]
  generalize 256 ^ E.m = P at *
  generalize 256 ^ s = Q
  generalize 256 ^ n = A at *
  generalize 257 ^ n = B at *
  generalize 2 ^ S = C at *
  generalize 2 ^ wb tot = D at *
  have e1 : 4294967295 * (P * Q) * (A * 256) = (4294967295 * P * A) * (256 * Q) := by simp only [Nat.mul_assoc, Nat.mul_comm, Nat.mul_left_comm]
  have e2 : W * Q * (C * D) * (B * 257) = (257 * (W * D)) * (C * B * Q) := by simp only [Nat.mul_assoc, Nat.mul_comm, Nat.mul_left_comm]
  rw [e1, e2]
  refine Nat.le_trans (Nat.mul_le_mul_right _ h) ?_
  have e3 : R * C * B * (256 * Q) = (256 * R) * (C * B * Q) := by simp only [Nat.mul_assoc, Nat.mul_comm, Nat.mul_left_comm]
  rw [e3]
  exact Nat.mul_le_mul_right _ hw
theorem Spare.all {K : List (Nat × Nat × Nat)} (hK : Fairs K) : Spare (puts En.new K) (sumB K) K.length := by
  suffices h : ∀ (l : List (Nat × Nat × Nat)) (E : En) (S n : Nat), E.Good → Spare E S n → Fairs l → Spare (puts E l) (S + sumB l) (n + l.length) by
    have := h K En.new 0 0 En.new_good (by unfold Spare; show 4294967295 * 256 ^ 0 * 256 ^ 0 ≤ 4294967295 * 2 ^ 0 * 257 ^ 0; decide) hK
    simpa using this
  intro l
  induction l with
  | nil => intro E S n _ h _; simpa [puts, sumB] using h
  | cons c l ih =>
    intro E S n hg h hl
    obtain ⟨hc, hl⟩ := hl.cons
    have := ih (E.put c.1 c.2.1 c.2.2) (S + wb c.2.2) (n + 1) (hg.put hc) (h.put hg hc) hl
    simp only [puts, sumB, List.length_cons]
    rw [← Nat.add_assoc, show n + (l.length + 1) = n + 1 + l.length by omega]
    exact this
theorem pow_hundred : 257 ^ 100 ≤ 2 * 256 ^ 100 := by decide
theorem pow_more (n : Nat) : 257 ^ n ≤ 2 ^ (n / 100 + 1) * 256 ^ n := by
  have hb : ∀ b, b ≤ 100 → 257 ^ b ≤ 2 * 256 ^ b := fun b hb => by
    have h1 : 257 ^ b * 256 ^ (100 - b) ≤ 257 ^ 100 := by
      have : 257 ^ b * 257 ^ (100 - b) = 257 ^ 100 := by rw [← Nat.pow_add]; congr 1; omega
      rw [← this]
      exact Nat.mul_le_mul_left _ (Nat.pow_le_pow_left (by decide) _)
    have h2 : 256 ^ b * 256 ^ (100 - b) = 256 ^ 100 := by rw [← Nat.pow_add]; congr 1; omega
    have h3 := Nat.le_trans h1 pow_hundred
    rw [← h2, ← Nat.mul_assoc] at h3
    exact Nat.le_of_mul_le_mul_right h3 (Nat.pow_pos (by decide))
  have ha : ∀ a, 257 ^ (100 * a) ≤ 2 ^ a * 256 ^ (100 * a) := fun a => by
    rw [Nat.pow_mul, Nat.pow_mul, ← Nat.mul_pow]
    exact Nat.pow_le_pow_left pow_hundred _
  have e : n = 100 * (n / 100) + n % 100 := by omega
  have h1 := ha (n / 100)
  have h2 := hb (n % 100) (by omega)
  generalize n / 100 = a at *
  generalize n % 100 = b at *
  subst e
  rw [Nat.pow_add 257, Nat.pow_add 256, Nat.pow_succ]
  have := Nat.mul_le_mul h1 h2
  refine Nat.le_trans this (Nat.le_of_eq ?_)
  simp only [Nat.mul_assoc, Nat.mul_comm, Nat.mul_left_comm]
theorem short_enough {K : List (Nat × Nat × Nat)} (hK : Fairs K) : 8 * (puts En.new K).m ≤ 1 + sumB K + K.length / 100 := by
  have h := Spare.all hK
  have hr := (En.new_good.puts hK).r.2
  unfold Spare at h
  generalize (puts En.new K).m = m at *
  generalize (puts En.new K).R = R at *
  have h2 := pow_more K.length
  generalize K.length = n at *
  generalize sumB K = S at *
  have h3 : 4294967295 * 256 ^ m * 256 ^ n ≤ 4294967295 * (2 ^ S * (2 ^ (n / 100 + 1) * 256 ^ n)) := by
    refine Nat.le_trans h ?_
    rw [Nat.mul_assoc]
    exact Nat.mul_le_mul hr (Nat.mul_le_mul_left _ h2)
  rw [Nat.mul_assoc] at h3
  have h4 := Nat.le_of_mul_le_mul_left h3 (by decide)
  rw [← Nat.mul_assoc] at h4
  have h5 := Nat.le_of_mul_le_mul_right h4 (Nat.pow_pos (by decide))
  rw [← Nat.pow_add, pow256] at h5
  have h6 := (Nat.pow_le_pow_iff_right (show 1 < 2 by decide)).1 h5
  omega
end Go.Proofs.Ytkfpphccpkfenaa
