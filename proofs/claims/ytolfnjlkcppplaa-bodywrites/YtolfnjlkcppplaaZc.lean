/- Books of symbols: how many are used, what they take, their codes; that no code begins another one, and that the codes of a right book fill all there is. Nothing of the program is imported. -/
import Derived.Test.YtolfnjlkcppplaaZb
import Derived.Test.YtolfnjlkcppplaaRows
import Derived.Maps.OwnSet
import Derived.Maps.OwnOps
import Derived.DeepKeys4
import Derived.BigQuiet
import Derived.Deep.RegionHeld3
import Derived.Deep.RegionWith
import Derived.Deep.CutRange
import Derived.Deep.DeepCutAuto
import Derived.Laws.BitsAllLaws
import Derived.Deep.QuietTactic
import Derived.Maps.AppendAt
namespace Go.Proofs.Ytolfnjlkcppplaa
open Go.RowKit
set_option linter.unusedVariables false
set_option linter.unusedSimpArgs false
set_option maxRecDepth 10000

def wt (x : Int) : Nat := if 0 < x then 2 ^ (16 - x.toNat) else 0
def usedN : List Int → Nat
  | [] => 0
  | x :: l => (if 0 < x then 1 else 0) + usedN l
def takenN : List Int → Nat
  | [] => 0
  | x :: l => wt x + takenN l
def inB (l : List Int) : Bool := l.all fun x => decide (0 ≤ x ∧ x ≤ 16)
def rightL (l : List Int) : Bool := decide (2 ≤ l.length ∧ l.length ≤ 64 ∧ inB l = true ∧ (if usedN l = 1 then takenN l = 32768 else takenN l = 65536))

theorem take_snoc (l : List Int) (k : Nat) (h : k < l.length) : l.take (k + 1) = l.take k ++ [l.getD k 0] := by
  rw [List.take_add_one]; simp [h]
theorem used_snoc (l : List Int) (x : Int) : usedN (l ++ [x]) = usedN l + (if 0 < x then 1 else 0) := by
  induction l with
  | nil => simp [usedN]
  | cons y l ih => simp only [List.cons_append, usedN, ih]; omega
theorem taken_snoc (l : List Int) (x : Int) : takenN (l ++ [x]) = takenN l + wt x := by
  induction l with
  | nil => simp [takenN]
  | cons y l ih => simp only [List.cons_append, takenN, ih]; omega
theorem used_take (l : List Int) (k : Nat) (h : k < l.length) : usedN (l.take (k + 1)) = usedN (l.take k) + (if 0 < l.getD k 0 then 1 else 0) := by
  rw [take_snoc l k h, used_snoc]
theorem taken_take (l : List Int) (k : Nat) (h : k < l.length) : takenN (l.take (k + 1)) = takenN (l.take k) + wt (l.getD k 0) := by
  rw [take_snoc l k h, taken_snoc]
theorem used_le (l : List Int) : usedN l ≤ l.length := by
  induction l with
  | nil => simp [usedN]
  | cons y l ih => simp only [usedN, List.length_cons]; split <;> omega
theorem wt_le (x : Int) : wt x ≤ 65536 := by
  unfold wt; split
  · have : (2 : Nat) ^ (16 - x.toNat) ≤ 2 ^ 16 := Nat.pow_le_pow_right (by decide) (by omega)
    omega
  · omega
theorem taken_le (l : List Int) : takenN l ≤ 65536 * l.length := by
  induction l with
  | nil => simp [takenN]
  | cons y l ih => simp only [takenN, List.length_cons]; have := wt_le y; omega
theorem taken_none (l : List Int) (h : usedN l = 0) : takenN l = 0 := by
  induction l with
  | nil => rfl
  | cons y l ih =>
    simp only [usedN] at h
    simp only [takenN]
    have h1 : ¬ 0 < y := by intro hy; rw [if_pos hy] at h; omega
    rw [ih (by omega)]
    unfold wt; rw [if_neg h1]
theorem inB_at {l : List Int} (h : inB l = true) (k : Nat) : 0 ≤ l.getD k 0 ∧ l.getD k 0 ≤ 16 := by
  unfold inB at h
  rw [List.all_eq_true] at h
  rw [List.getD_eq_getElem?_getD]
  by_cases hk : k < l.length
  · rw [List.getElem?_eq_getElem hk]
    simpa using h _ (List.getElem_mem hk)
  · rw [List.getElem?_eq_none (by omega)]; simp
theorem inB_mk {l : List Int} (h : ∀ k, k < l.length → 0 ≤ l.getD k 0 ∧ l.getD k 0 ≤ 16) : inB l = true := by
  unfold inB
  rw [List.all_eq_true]
  intro x hx
  obtain ⟨k, hk, rfl⟩ := List.mem_iff_getElem.1 hx
  have := h k hk
  rw [List.getD_eq_getElem?_getD, List.getElem?_eq_getElem hk] at this
  simpa using this
theorem inB_not {l : List Int} (k : Nat) (hk : k < l.length) (h : ¬ (0 ≤ l.getD k 0 ∧ l.getD k 0 ≤ 16)) : inB l = false := by
  cases hh : inB l
  · rfl
  · exact absurd (inB_at hh k) h
theorem right_not_len {l : List Int} (h : l.length < 2 ∨ 64 < l.length) : rightL l = false := by
  unfold rightL; rw [decide_eq_false_iff_not]; omega
theorem right_not_in {l : List Int} (h : inB l = false) : rightL l = false := by
  unfold rightL; rw [decide_eq_false_iff_not, h]; simp
theorem right_parts {l : List Int} (h : rightL l = true) : 2 ≤ l.length ∧ l.length ≤ 64 ∧ inB l = true ∧ (usedN l = 1 → takenN l = 32768) ∧ (usedN l ≠ 1 → takenN l = 65536 ∧ 2 ≤ usedN l) := by
  unfold rightL at h
  rw [decide_eq_true_eq] at h
  refine ⟨h.1, h.2.1, h.2.2.1, fun h1 => ?_, fun h1 => ?_⟩
  · have := h.2.2.2; rwa [if_pos h1] at this
  · have := h.2.2.2; rw [if_neg h1] at this
    refine ⟨this, ?_⟩
    rcases Nat.lt_or_ge (usedN l) 2 with h2 | h2
    · have := taken_none l (by omega); omega
    · exact h2
theorem right_end {l : List Int} (h1 : 2 ≤ l.length) (h2 : l.length ≤ 64) (h3 : inB l = true) : rightL l = if usedN l = 1 then decide (takenN l = 32768) else decide (takenN l = 65536) := by
  unfold rightL
  by_cases h : usedN l = 1
  · simp [h1, h2, h3, h]
  · simp [h1, h2, h3, h]

/-! ### the codes -/
def F (l : List Int) : Nat → Nat
  | 0 => 0
  | n + 1 => 2 * (F l n + if n = 0 then 0 else l.count (n : Int))
def cd (l : List Int) (s : Nat) : Nat := F l (l.getD s 0).toNat + (l.take s).count (l.getD s 0)
def codeAt (l : List Int) (s : Nat) : Int := if 0 < l.getD s 0 then (cd l s : Int) else 0
def codesL (l : List Int) : List Int := (List.range l.length).map (codeAt l)

theorem F_le (l : List Int) (h : l.length ≤ 64) (n : Nat) : F l n + 128 ≤ 128 * 2 ^ n := by
  induction n with
  | zero => simp [F]
  | succ n ih =>
    simp only [F, Nat.pow_succ]
    have : (if n = 0 then 0 else l.count (n : Int)) ≤ 64 := by
      split
      · omega
      · exact Nat.le_trans List.count_le_length h
    omega
theorem F_small (l : List Int) (h : l.length ≤ 64) (n : Nat) (hn : n ≤ 16) : F l n ≤ 8388480 := by
  have h1 := F_le l h n
  have h2 : (2 : Nat) ^ n ≤ 2 ^ 16 := Nat.pow_le_pow_right (by decide) hn
  omega
theorem count_take_le (l : List Int) (k : Nat) (x : Int) : (l.take k).count x ≤ l.count x := (List.take_sublist k l).count_le x
theorem count_take (l : List Int) (k : Nat) (h : k < l.length) (x : Int) : (l.take (k + 1)).count x = (l.take k).count x + (if l.getD k 0 = x then 1 else 0) := by
  rw [take_snoc l k h, List.count_append]
  congr 1
  rw [List.count_singleton]
  by_cases hx : l.getD k 0 = x
  · simp [hx]
  · rw [if_neg hx, if_neg (by simpa using hx)]
theorem count_take_mono (l : List Int) (i j : Nat) (h : i ≤ j) (x : Int) : (l.take i).count x ≤ (l.take j).count x := by
  have : l.take i = (l.take j).take i := by rw [List.take_take, Nat.min_eq_left h]
  rw [this]
  exact count_take_le _ _ _
theorem F_grow (l : List Int) (n d : Nat) (h : 1 ≤ n) : (F l n + l.count (n : Int)) * 2 ^ (d + 1) ≤ F l (n + 1 + d) := by
  induction d with
  | zero =>
    simp only [F, Nat.add_zero]
    rw [if_neg (by omega)]
    simp; omega
  | succ d ih =>
    have e : F l (n + 1 + (d + 1)) = 2 * (F l (n + 1 + d) + l.count ((n + 1 + d : Nat) : Int)) := by
      show 2 * (F l (n + 1 + d) + if n + 1 + d = 0 then 0 else l.count ((n + 1 + d : Nat) : Int)) = _
      rw [if_neg (by omega)]
    rw [e, Nat.pow_succ 2 (d + 1), ← Nat.mul_assoc]
    omega
theorem cd_lt (l : List Int) (s : Nat) (hs : s < l.length) (h : 0 < l.getD s 0) : cd l s + 1 ≤ F l (l.getD s 0).toNat + l.count (l.getD s 0) := by
  unfold cd
  have h1 := count_take l s hs (l.getD s 0)
  rw [if_pos rfl] at h1
  have h2 := count_take_le l (s + 1) (l.getD s 0)
  omega
theorem cd_small (l : List Int) (h : l.length ≤ 64) (hb : inB l = true) (s : Nat) : cd l s ≤ 8388544 := by
  unfold cd
  have h1 := F_small l h (l.getD s 0).toNat (by have := inB_at hb s; omega)
  have h2 : (l.take s).count (l.getD s 0) ≤ 64 := Nat.le_trans (count_take_le _ _ _) (Nat.le_trans List.count_le_length h)
  omega
theorem cd_apart (l : List Int) (a b : Nat) (ha : a < l.length) (hb : b < l.length) (hne : a ≠ b) (h0 : 0 < l.getD a 0) (hle : l.getD a 0 ≤ l.getD b 0) : cd l b / 2 ^ ((l.getD b 0).toNat - (l.getD a 0).toNat) ≠ cd l a := by
  by_cases he : l.getD a 0 = l.getD b 0
  · rw [← he, Nat.sub_self, Nat.pow_zero, Nat.div_one]
    unfold cd
    rw [← he]
    rcases Nat.lt_or_ge a b with h | h
    · have h1 := count_take l a ha (l.getD a 0)
      rw [if_pos rfl] at h1
      have h2 := count_take_mono l (a + 1) b (by omega) (l.getD a 0)
      omega
    · have h1 := count_take l b hb (l.getD a 0)
      rw [if_pos he.symm] at h1
      have h2 := count_take_mono l (b + 1) a (by omega) (l.getD a 0)
      omega
  · have h1 := cd_lt l a ha h0
    obtain ⟨n, hn⟩ : ∃ n : Nat, l.getD a 0 = n := ⟨_, (Int.toNat_of_nonneg (by omega)).symm⟩
    obtain ⟨m, hm⟩ : ∃ m : Nat, l.getD b 0 = m := ⟨_, (Int.toNat_of_nonneg (by omega)).symm⟩
    rw [hn] at h1 h0 hle he
    rw [hm] at hle he
    rw [hn, hm]
    simp only [Int.toNat_natCast] at h1 ⊢
    obtain ⟨d, rfl⟩ : ∃ d, m = n + 1 + d := ⟨m - n - 1, by omega⟩
    have h2 := F_grow l n d (by omega)
    have h3 : F l (n + 1 + d) ≤ cd l b := by unfold cd; rw [hm, Int.toNat_natCast]; omega
    rw [show n + 1 + d - n = d + 1 by omega]
    have h4 : (cd l a + 1) * 2 ^ (d + 1) ≤ cd l b := Nat.le_trans (Nat.mul_le_mul_right _ h1) (Nat.le_trans h2 h3)
    have h5 : cd l a + 1 ≤ cd l b / 2 ^ (d + 1) := (Nat.le_div_iff_mul_le (Nat.two_pow_pos _)).2 h4
    omega

/-! ### all there is -/
def S (l : List Int) : Nat → Nat
  | 0 => 0
  | n + 1 => S l n + if n = 0 then 0 else l.count (n : Int) * 2 ^ (16 - n)
theorem F_S (l : List Int) (n : Nat) (h : n ≤ 16) : F l n * 2 ^ (16 - n) = S l n := by
  induction n with
  | zero => simp [F, S]
  | succ n ih =>
    have ih := ih (by omega)
    simp only [F, S]
    have e : 16 - n = (16 - (n + 1)) + 1 := by omega
    rw [← ih, e, Nat.pow_succ]
    generalize 2 ^ (16 - (n + 1)) = P
    split
    · simp; rw [Nat.mul_comm P 2, ← Nat.mul_assoc, Nat.mul_comm 2]
    · generalize l.count (n : Int) = c
      generalize F l n = f
      rw [Nat.mul_comm P 2, ← Nat.mul_assoc, ← Nat.mul_assoc, ← Nat.add_mul, Nat.mul_comm 2, ← Nat.add_mul]
theorem S_cons (x : Int) (l : List Int) (n : Nat) : S (x :: l) n = S l n + (if 0 < x ∧ x < n then wt x else 0) := by
  induction n with
  | zero =>
    simp only [S]
    rw [if_neg (by omega)]
  | succ n ih =>
    simp only [S, ih]
    by_cases hn : n = 0
    · subst hn
      simp only [if_true, Nat.add_zero, Nat.zero_add]
      rw [if_neg (by omega), if_neg (by omega)]
    · rw [if_neg hn, if_neg hn, List.count_cons]
      have e1 : (if 0 < x ∧ x < ((n + 1 : Nat) : Int) then wt x else 0) = (if 0 < x ∧ x < (n : Int) then wt x else 0) + (if x = n then 2 ^ (16 - n) else 0) := by
        by_cases hx : x = n
        · have hw : wt x = 2 ^ (16 - n) := by unfold wt; rw [if_pos (by omega), hx]; simp
          rw [if_pos (by omega), if_neg (by omega), if_pos hx, hw]; omega
        · rw [if_neg hx]
          by_cases hc : 0 < x ∧ x < n
          · rw [if_pos (by omega), if_pos hc]; rfl
          · rw [if_neg (by omega), if_neg hc]
      have e2 : (l.count (n : Int) + if (x == (n : Int)) = true then 1 else 0) * 2 ^ (16 - n) = l.count (n : Int) * 2 ^ (16 - n) + (if x = n then 2 ^ (16 - n) else 0) := by
        by_cases hx : x = n
        · rw [if_pos hx, if_pos (by simpa using hx), Nat.add_mul, Nat.one_mul]
        · rw [if_neg hx, if_neg (by simpa using hx), Nat.add_zero, Nat.add_zero]
      rw [e1, e2]
      omega
theorem S_taken (l : List Int) (h : inB l = true) : S l 17 = takenN l := by
  induction l with
  | nil => simp [S, takenN]
  | cons x l ih =>
    unfold inB at h
    simp only [List.all_cons, Bool.and_eq_true, decide_eq_true_eq] at h
    rw [S_cons, ih (by unfold inB; exact h.2), takenN]
    by_cases hx : 0 < x
    · rw [if_pos (by omega)]; omega
    · rw [if_neg (by omega)]; unfold wt; rw [if_neg hx]; omega
theorem S_from (l : List Int) (m d : Nat) (h : ∀ x ∈ l, x ≤ m) : S l (m + 1 + d) = S l (m + 1) := by
  induction d with
  | zero => rfl
  | succ d ih =>
    show S l (m + 1 + d) + (if m + 1 + d = 0 then 0 else l.count ((m + 1 + d : Nat) : Int) * 2 ^ (16 - (m + 1 + d))) = _
    have : l.count ((m + 1 + d : Nat) : Int) = 0 := by
      rw [List.count_eq_zero]
      intro hm
      have := h _ hm
      omega
    rw [ih, this]; simp
/-- The codes of so many bits as the longest one fill all. -/
theorem full (l : List Int) (h : inB l = true) (ht : takenN l = 65536) (m : Nat) (h0 : 1 ≤ m) (h1 : m ≤ 16) (hm : ∀ x ∈ l, x ≤ m) : F l m + l.count (m : Int) = 2 ^ m := by
  have e1 := S_taken l h
  have e2 := S_from l m (16 - m) hm
  rw [show m + 1 + (16 - m) = 17 by omega, e1, ht] at e2
  have e3 : S l (m + 1) = (F l m + l.count (m : Int)) * 2 ^ (16 - m) := by
    simp only [S]
    rw [if_neg (by omega), ← F_S l m h1, Nat.add_mul]
  rw [e3] at e2
  have e4 : (2 : Nat) ^ m * 2 ^ (16 - m) = 65536 := by rw [← Nat.pow_add, show m + (16 - m) = 16 by omega]
  rw [← e4] at e2
  exact (Nat.eq_of_mul_eq_mul_right (Nat.two_pow_pos _) e2).symm
theorem count_nth (l : List Int) (x : Int) (j : Nat) (h : j < l.count x) : ∃ s, s < l.length ∧ l.getD s 0 = x ∧ (l.take s).count x = j := by
  induction l generalizing j with
  | nil => simp at h
  | cons y l ih =>
    rw [List.count_cons] at h
    by_cases hy : y = x
    · subst hy
      simp only [beq_self_eq_true, if_true] at h
      cases j with
      | zero => exact ⟨0, by simp, by simp, by simp⟩
      | succ j =>
        obtain ⟨s, h1, h2, h3⟩ := ih j (by omega)
        exact ⟨s + 1, by simp; omega, by simpa using h2, by rw [List.take_succ_cons, List.count_cons, h3]; simp⟩
    · have e : (y == x) = false := by simpa using hy
      rw [e] at h
      obtain ⟨s, h1, h2, h3⟩ := ih j (by simpa using h)
      exact ⟨s + 1, by simp; omega, by simpa using h2, by rw [List.take_succ_cons, List.count_cons, h3, e]; simp⟩
theorem some_code (l : List Int) (m v : Nat) (hf : F l m + l.count (m : Int) = 2 ^ m) (h0 : 1 ≤ m) (hv : v < 2 ^ m) : ∃ s, s < l.length ∧ 0 < l.getD s 0 ∧ l.getD s 0 ≤ m ∧ cd l s = v / 2 ^ (m - (l.getD s 0).toNat) := by
  have key : ∀ n, n ≤ m → (∃ s, s < l.length ∧ 0 < l.getD s 0 ∧ l.getD s 0 ≤ m ∧ cd l s = v / 2 ^ (m - (l.getD s 0).toNat)) ∨ F l n + (if n = 0 then 0 else l.count (n : Int)) ≤ v / 2 ^ (m - n) := by
    intro n
    induction n with
    | zero => intro _; right; simp [F]
    | succ n ih =>
      intro hn
      rcases ih (by omega) with h | h
      · exact .inl h
      · have e1 : v / 2 ^ (m - n) * 2 ≤ v / 2 ^ (m - (n + 1)) := by
          have : 2 ^ (m - n) = 2 ^ (m - (n + 1)) * 2 := by rw [← Nat.pow_succ]; congr 1; omega
          rw [this, ← Nat.div_div_eq_div_mul]
          omega
        have e2 : F l (n + 1) ≤ v / 2 ^ (m - (n + 1)) := by
          simp only [F]; omega
        by_cases hc : F l (n + 1) + l.count ((n + 1 : Nat) : Int) ≤ v / 2 ^ (m - (n + 1))
        · right; rw [if_neg (by omega)]; exact hc
        · left
          obtain ⟨s, h1, h2, h3⟩ := count_nth l ((n + 1 : Nat) : Int) (v / 2 ^ (m - (n + 1)) - F l (n + 1)) (by omega)
          refine ⟨s, h1, by rw [h2]; omega, by rw [h2]; omega, ?_⟩
          unfold cd
          rw [h2, h3, Int.toNat_natCast]
          omega
  rcases key m (Nat.le_refl _) with h | h
  · exact h
  · rw [if_neg (by omega), hf, Nat.sub_self, Nat.pow_zero, Nat.div_one] at h
    omega

/-! ### bits, the highest one first -/
def hv (V p : Nat) : Nat → Nat
  | 0 => 0
  | k + 1 => 2 * hv V p k + V / 2 ^ (p + k) % 2
theorem hv_lt (V p k : Nat) : hv V p k < 2 ^ k := by
  induction k with
  | zero => simp [hv]
  | succ k ih => simp only [hv, Nat.pow_succ]; omega
theorem hv_up (V p n d : Nat) : hv V p (n + d) / 2 ^ d = hv V p n := by
  induction d with
  | zero => simp
  | succ d ih =>
    show (2 * hv V p (n + d) + V / 2 ^ (p + (n + d)) % 2) / 2 ^ (d + 1) = _
    rw [Nat.pow_succ, Nat.mul_comm (2 ^ d) 2, ← Nat.div_div_eq_div_mul]
    rw [show (2 * hv V p (n + d) + V / 2 ^ (p + (n + d)) % 2) / 2 = hv V p (n + d) by omega, ih]
/-- The code of the symbol s lies at the place p. -/
def Mt (l : List Int) (V T p s : Nat) : Prop := s < l.length ∧ 0 < l.getD s 0 ∧ p + (l.getD s 0).toNat ≤ T ∧ hv V p (l.getD s 0).toNat = cd l s
instance (l : List Int) (V T p s : Nat) : Decidable (Mt l V T p s) := by unfold Mt; exact inferInstance
theorem Mt.one {l : List Int} {V T p a b : Nat} (ha : Mt l V T p a) (hb : Mt l V T p b) : a = b := by
  rcases Decidable.em (a = b) with h | hne
  · exact h
  · exfalso
    obtain ⟨a1, a2, a3, a4⟩ := ha
    obtain ⟨b1, b2, b3, b4⟩ := hb
    have key : ∀ x y, x < l.length → y < l.length → x ≠ y → 0 < l.getD x 0 → l.getD x 0 ≤ l.getD y 0 → hv V p (l.getD x 0).toNat = cd l x → hv V p (l.getD y 0).toNat = cd l y → False := by
      intro x y hx hy hxy h0 hle ex ey
      refine cd_apart l x y hx hy hxy h0 hle ?_
      rw [← ex, ← ey]
      have := hv_up V p (l.getD x 0).toNat ((l.getD y 0).toNat - (l.getD x 0).toNat)
      rw [show (l.getD x 0).toNat + ((l.getD y 0).toNat - (l.getD x 0).toNat) = (l.getD y 0).toNat by omega] at this
      exact this
    rcases Int.le_total (l.getD a 0) (l.getD b 0) with h | h
    · exact key a b a1 b1 hne a2 h a4 b4
    · exact key b a b1 a1 (Ne.symm hne) b2 h b4 a4
theorem Mt.some {l : List Int} (h : inB l = true) (ht : takenN l = 65536) {m : Nat} (h0 : 1 ≤ m) (h1 : m ≤ 16) (hm : ∀ x ∈ l, x ≤ m) {V T p : Nat} (hp : p + m ≤ T) : ∃ s, Mt l V T p s ∧ l.getD s 0 ≤ m := by
  obtain ⟨s, s1, s2, s3, s4⟩ := some_code l m (hv V p m) (full l h ht m h0 h1 hm) h0 (hv_lt _ _ _)
  refine ⟨s, ⟨s1, s2, by omega, ?_⟩, s3⟩
  rw [s4]
  have := hv_up V p (l.getD s 0).toNat (m - (l.getD s 0).toNat)
  rw [show (l.getD s 0).toNat + (m - (l.getD s 0).toNat) = m by omega] at this
  exact this.symm
/-- What is read at the place p: the symbol, if one is there. -/
def findS (l : List Int) (V T p : Nat) : Option Nat := (List.range l.length).find? fun s => decide (Mt l V T p s)
theorem find_some {l : List Int} {V T p s : Nat} (h : Mt l V T p s) : findS l V T p = some s := by
  cases hf : findS l V T p with
  | none =>
    unfold findS at hf
    rw [List.find?_eq_none] at hf
    have := hf s (by simpa using h.1)
    simp [h] at this
  | some t =>
    have : Mt l V T p t := by
      unfold findS at hf
      simpa using List.find?_some hf
    rw [this.one h]
theorem find_none {l : List Int} {V T p : Nat} (h : ∀ s, ¬ Mt l V T p s) : findS l V T p = none := by
  unfold findS
  rw [List.find?_eq_none]
  intro s _
  simpa using h s
theorem of_find {l : List Int} {V T p s : Nat} (h : findS l V T p = some s) : Mt l V T p s := by
  unfold findS at h
  simpa using List.find?_some h
theorem of_find_none {l : List Int} {V T p : Nat} (h : findS l V T p = none) (s : Nat) : ¬ Mt l V T p s := by
  intro hm; rw [find_some hm] at h; cases h
theorem used_one_lt {l : List Int} (a b : Nat) (ha : a < l.length) (hb : b < l.length) (hne : a ≠ b) (h1 : 0 < l.getD a 0) (h2 : 0 < l.getD b 0) : 2 ≤ usedN l := by
  have key : ∀ a b, a < b → b < l.length → 0 < l.getD a 0 → 0 < l.getD b 0 → 2 ≤ usedN l := by
    intro a b hab hb h1 h2
    have mono : ∀ i d, i + d ≤ l.length → usedN (l.take i) ≤ usedN (l.take (i + d)) := by
      intro i d
      induction d with
      | zero => intro _; exact Nat.le_refl _
      | succ d ih =>
        intro hd
        have := used_take l (i + d) (by omega)
        have := ih (by omega)
        rw [show i + (d + 1) = i + d + 1 by omega]
        omega
    have e1 := used_take l a (by omega)
    have e2 := used_take l b hb
    rw [if_pos h1] at e1
    rw [if_pos h2] at e2
    have m1 := mono (a + 1) (b - (a + 1)) (by omega)
    rw [show a + 1 + (b - (a + 1)) = b by omega] at m1
    have m2 := mono (b + 1) (l.length - (b + 1)) (by omega)
    rw [show b + 1 + (l.length - (b + 1)) = l.length by omega, List.take_length] at m2
    omega
  rcases Nat.lt_or_ge a b with h | h
  · exact key a b h hb h1 h2
  · exact key b a (by omega) ha h2 h1
theorem used_pos {l : List Int} (h : 1 ≤ usedN l) : ∃ s, s < l.length ∧ 0 < l.getD s 0 := by
  induction l with
  | nil => simp [usedN] at h
  | cons x l ih =>
    by_cases hx : 0 < x
    · exact ⟨0, by simp, by simpa using hx⟩
    · simp only [usedN] at h
      rw [if_neg hx] at h
      obtain ⟨s, h1, h2⟩ := ih (by omega)
      exact ⟨s + 1, by simp; omega, by simpa using h2⟩
theorem taken_two {l : List Int} (s : Nat) (hs : s < l.length) : wt (l.getD s 0) ≤ takenN l := by
  induction l generalizing s with
  | nil => simp at hs
  | cons x l ih =>
    cases s with
    | zero => simp [takenN]
    | succ s => simp only [takenN, List.getD_cons_succ]; have := ih s (by simpa using hs); omega
theorem taken_one {l : List Int} (h : usedN l = 1) (s : Nat) (hs : s < l.length) (h0 : 0 < l.getD s 0) : takenN l = wt (l.getD s 0) := by
  induction l generalizing s with
  | nil => simp at hs
  | cons x l ih =>
    simp only [usedN] at h
    cases s with
    | zero =>
      simp only [List.getD_cons_zero] at h0 ⊢
      rw [if_pos h0] at h
      simp only [takenN]; rw [taken_none l (by omega)]; omega
    | succ s =>
      simp only [List.getD_cons_succ] at h0 ⊢
      have hx : ¬ 0 < x := by
        intro hx
        rw [if_pos hx] at h
        have := taken_none l (by omega)
        have h2 := taken_two (l := l) s (by simpa using hs)
        unfold wt at h2; rw [if_pos h0] at h2
        have := Nat.two_pow_pos (16 - (l.getD s 0).toNat)
        omega
      rw [if_neg hx] at h
      simp only [takenN]
      rw [ih (by omega) s (by simpa using hs) h0]
      have : wt x = 0 := by unfold wt; rw [if_neg hx]
      omega
/-- The one symbol that is used has one bit. -/
theorem one_bit {l : List Int} (hr : rightL l = true) (h : usedN l = 1) (s : Nat) (hs : s < l.length) (h0 : 0 < l.getD s 0) : l.getD s 0 = 1 := by
  obtain ⟨_, _, hb, ht, _⟩ := right_parts hr
  have h1 := taken_one h s hs h0
  rw [ht h] at h1
  have h2 := inB_at hb s
  obtain ⟨n, hn⟩ : ∃ n : Nat, l.getD s 0 = n := ⟨_, (Int.toNat_of_nonneg (by omega)).symm⟩
  rw [hn] at h1 h2 h0 ⊢
  unfold wt at h1
  rw [if_pos (by omega), Int.toNat_natCast] at h1
  rcases Nat.lt_or_ge 1 n with h3 | h3
  · have : (2 : Nat) ^ (16 - n) ≤ 2 ^ 14 := Nat.pow_le_pow_right (by decide) (by omega)
    omega
  · omega
end Go.Proofs.Ytolfnjlkcppplaa
/- Contracts of Right, the program's and the document's: whether the book is. -/
namespace Go.Proofs.Ytolfnjlkcppplaa
open Go.RowKit
set_option linter.unusedVariables false
set_option linter.unusedSimpArgs false
set_option maxRecDepth 10000

/-- What the loop over a book has seen. -/
structure Seen (l : List Int) (k u t : Nat) : Prop where
  hu : u = usedN (l.take k)
  ht : t = takenN (l.take k)
  hin : ∀ j, j < k → 0 ≤ l.getD j 0 ∧ l.getD j 0 ≤ 16
theorem Seen.start (l : List Int) : Seen l 0 0 0 := ⟨rfl, rfl, fun j h => by omega⟩
theorem Seen.none {l : List Int} {k u t : Nat} (h : Seen l k u t) (hk : k < l.length) (h0 : l.getD k 0 = 0) : Seen l (k + 1) u t :=
  ⟨by rw [used_take l k hk, h0, h.hu]; simp, by rw [taken_take l k hk, h0, h.ht]; simp [wt], fun j hj => by
    rcases Nat.lt_or_ge j k with h1 | h1
    · exact h.hin j h1
    · have : j = k := by omega
      subst this; omega⟩
theorem Seen.some {l : List Int} {k u t n : Nat} (h : Seen l k u t) (hk : k < l.length) (h0 : l.getD k 0 = n) (h1 : 1 ≤ n) (h2 : n ≤ 16) : Seen l (k + 1) (u + 1) (t + 2 ^ (16 - n)) :=
  ⟨by rw [used_take l k hk, h0, h.hu, if_pos (by omega)], by rw [taken_take l k hk, h0, h.ht]; unfold wt; rw [if_pos (by omega), Int.toNat_natCast], fun j hj => by
    rcases Nat.lt_or_ge j k with h1 | h1
    · exact h.hin j h1
    · have : j = k := by omega
      subst this; omega⟩
theorem Seen.small {l : List Int} {k u t : Nat} (h : Seen l k u t) (hl : l.length ≤ 64) : u ≤ 64 ∧ t ≤ 4194304 := by
  have h1 := used_le (l.take k)
  have h2 := taken_le (l.take k)
  have h3 : (l.take k).length ≤ 64 := by rw [List.length_take]; omega
  rw [← h.hu] at h1
  rw [← h.ht] at h2
  omega
theorem Seen.end_ {l : List Int} {u t : Nat} (h : Seen l l.length u t) (h1 : 2 ≤ l.length) (h2 : l.length ≤ 64) : rightL l = if u = 1 then decide (t = 32768) else decide (t = 65536) := by
  rw [right_end h1 h2 (inB_mk h.hin), h.hu, h.ht, List.take_length]
theorem pow_some (n : Nat) (h : n ≤ 16) : (2 : Nat) ^ (16 - n) ≤ 65536 := Nat.pow_le_pow_right (n := 2) (by decide) (show 16 - n ≤ 16 by omega)
theorem shl_some (n : Nat) (h : n ≤ 16) : wrap64 ((2 : Int) ^ (16 - n)) = ((2 ^ (16 - n) : Nat) : Int) := by
  have hp := pow_some n h
  have e2 : ((2 : Int) ^ (16 - n)) = ((2 ^ (16 - n) : Nat) : Int) := by simp
  rw [e2]
  generalize (2 : Nat) ^ (16 - n) = P at hp
  unfold wrap64; omega
theorem beq_a (t : Nat) : (((t : Int) == 32768) = decide (t = 32768)) := by
  rw [Bool.eq_iff_iff]; simp; omega
theorem beq_b (t : Nat) : (((t : Int) == 65536) = decide (t = 65536)) := by
  rw [Bool.eq_iff_iff]; simp; omega

set_option maxHeartbeats 1000000 in
theorem right_len_h (a : Option Addr) (len cap : Nat) (w : World) (h : len < 2 ∨ 64 < len) :
    Calls Try.prog 57 #[.slice a len cap] w fun e w' => e = .returned (.bool false) ∧ w' = w := by
  rcases h with h | h
  · go_enter Try.func57, Try.ntmps57
    go_wp2
    go_ret
    exact ⟨rfl, rfl⟩
  · go_enter Try.func57, Try.ntmps57
    go_wp2
    go_ret
    exact ⟨rfl, rfl⟩
set_option maxHeartbeats 1000000 in
theorem right_in_h (b off cap : Nat) (l : List Int) (w : World) (h1 : 2 ≤ l.length) (h2 : l.length ≤ 64) (hc : ∀ i, i < l.length → w.cell? ⟨b, off + i, none⟩ = some (.int .i64 (l.getD i 0))) :
    Calls Try.prog 57 #[.slice (some ⟨b, off, none⟩) l.length cap] w fun e w' => e = .returned (.bool (rightL l)) ∧ w' = w := by
  go_enter Try.func57, Try.ntmps57
  go_wp2
  go_loop [3, 4, 17] (fun us ta i => ∃ k u t : Nat, k ≤ l.length ∧ i = .int .i64 k ∧ us = .int .i64 u ∧ ta = .int .i64 t ∧ Seen l k u t ∧ u ≤ 64 ∧ t ≤ 4194304) (fun _ _ i => l.length - (intOf i).toNat)
  case atStart => exact ⟨0, 0, 0, by omega, rfl, rfl, rfl, Seen.start l, by omega, by omega⟩
  case round =>
    obtain ⟨k, u, t, hk, rfl, rfl, rfl, hs, hu, ht⟩ := hrel
    by_cases hlt : k < l.length
    · have g := hc k hlt
      have hn := fun h0 => hs.none hlt h0
      have hm := fun n h0 => hs.some (n := n) hlt h0
      have hno := fun h => right_not_in (inB_not (l := l) k hlt h)
      generalize l.getD k 0 = x at g hn hm hno
      clear hc hs
      by_cases c1 : x < 0
      · have hno2 : Hid _ := hno (by omega)
        clear hn hm hno
        go_wp2
        go_ret
        exact ⟨ret_bool hno2.out.symm, rfl⟩
      · by_cases c2 : 16 < x
        · have hno2 : Hid _ := hno (by omega)
          clear hn hm hno
          go_wp2
          go_ret
          exact ⟨ret_bool hno2.out.symm, rfl⟩
        · obtain ⟨n, rfl⟩ := Int.eq_ofNat_of_zero_le (show 0 ≤ x by omega)
          clear hno
          by_cases c3 : n = 0
          · have hs := hn (by omega)
            clear hn hm
            subst c3
            have hsm := hs.small h2
            go_wp2
            exact ⟨⟨k + 1, u, t, by omega, by go_num, rfl, rfl, hs, hsm.1, hsm.2⟩, by simp [intOf]; omega⟩
          · have hs := hm n rfl (by omega) (by omega)
            have hsm := hs.small h2
            have hsh := shl_some n (by omega)
            clear hn hm
            have hp := pow_some n (by omega)
            generalize (2 : Nat) ^ (16 - n) = P at hs hsm hsh hp
            have H1 : Hid _ := hs
            have H2 : Hid _ := hsm
            clear hs hsm
            go_wp2
            exact ⟨⟨k + 1, u + 1, t + P, by omega, by go_num, by go_num, by go_num, H1.out, H2.out.1, H2.out.2⟩, by simp [intOf]; omega⟩
    · have hge : l.length ≤ k := by omega
      clear hlt hc
      have : k = l.length := by omega
      subst this
      have hr : Hid _ := hs.end_ h1 h2
      clear hs hk hge
      by_cases c : u = 1
      · subst c
        go_wp2
        go_ret
        refine ⟨ret_bool ?_, rfl⟩
        rw [hr.out, if_pos True.intro]
        exact beq_a t
      · go_wp2
        go_ret
        refine ⟨ret_bool ?_, rfl⟩
        rw [hr.out, if_neg c]
        exact beq_b t
theorem hright_any (v : Value) (l : List Int) (w : World) (hv : Rw .i64 w v l) :
    Calls Try.prog 57 #[v] w fun e w' => e = .returned (.bool (rightL l)) ∧ w' = w := by
  obtain ⟨a, cap, rfl, ha⟩ := hv
  by_cases h : l.length < 2 ∨ 64 < l.length
  · rw [right_not_len h]
    exact right_len_h a _ cap w h
  · obtain ⟨b, off, rfl, hb, hc⟩ := ha.resolve_left (by intro h0; subst h0; simp at h)
    exact right_in_h b off cap l w (by omega) (by omega) hc

set_option maxHeartbeats 1000000 in
theorem rright_len_h (a : Option Addr) (len cap : Nat) (w : World) (h : len < 2 ∨ 64 < len) :
    Calls Try.prog 45 #[.slice a len cap] w fun e w' => e = .returned (.bool false) ∧ w' = w := by
  rcases h with h | h
  · go_enter Try.func45, Try.ntmps45
    go_wp2
    go_ret
    exact ⟨rfl, rfl⟩
  · go_enter Try.func45, Try.ntmps45
    go_wp2
    go_ret
    exact ⟨rfl, rfl⟩
theorem half_pow (q : Nat) (hq : q < 16) (P : Nat) (hP : P = 2 ^ (16 - q)) : Hid ((((P : Int) / 2)) = ((2 ^ (16 - (q + 1)) : Nat) : Int)) := by
  have : (2 : Nat) ^ (16 - q) = 2 ^ (16 - (q + 1)) * 2 := by rw [← Nat.pow_succ]; congr 1; omega
  unfold Hid
  generalize (2 : Nat) ^ (16 - (q + 1)) = R at this
  omega
set_option maxHeartbeats 2000000 in
theorem rright_in_h (b off cap : Nat) (l : List Int) (w : World) (h1 : 2 ≤ l.length) (h2 : l.length ≤ 64) (hc : ∀ i, i < l.length → w.cell? ⟨b, off + i, none⟩ = some (.int .i64 (l.getD i 0))) :
    Calls Try.prog 45 #[.slice (some ⟨b, off, none⟩) l.length cap] w fun e w' => e = .returned (.bool (rightL l)) ∧ w' = w := by
  go_enter Try.func45, Try.ntmps45
  go_wp2
  go_loop [3, 4, 5] (fun ta us i => ∃ k u t : Nat, k ≤ l.length ∧ i = .int .i64 k ∧ us = .int .i64 u ∧ ta = .int .i64 t ∧ Seen l k u t ∧ u ≤ 64 ∧ t ≤ 4194304) (fun _ _ i => l.length - (intOf i).toNat)
  case atStart => exact ⟨0, 0, 0, by omega, rfl, rfl, rfl, Seen.start l, by omega, by omega⟩
  case round =>
    obtain ⟨k, u, t, hk, rfl, rfl, rfl, hs, hu, ht⟩ := hrel
    by_cases hlt : k < l.length
    · have g := hc k hlt
      have hn := fun h0 => hs.none hlt h0
      have hm := fun n h0 => hs.some (n := n) hlt h0
      have hno := fun h => right_not_in (inB_not (l := l) k hlt h)
      generalize l.getD k 0 = x at g hn hm hno
      clear hc hs
      by_cases c1 : x < 0
      · have hno2 : Hid _ := hno (by omega)
        clear hn hm hno
        go_wp2
        go_ret
        exact ⟨ret_bool hno2.out.symm, rfl⟩
      · by_cases c2 : 16 < x
        · have hno2 : Hid _ := hno (by omega)
          clear hn hm hno
          go_wp2
          go_ret
          exact ⟨ret_bool hno2.out.symm, rfl⟩
        · obtain ⟨n, rfl⟩ := Int.eq_ofNat_of_zero_le (show 0 ≤ x by omega)
          clear hno
          by_cases c3 : n = 0
          · have hs := hn (by omega)
            clear hn hm
            subst c3
            have hsm := hs.small h2
            go_wp2
            exact ⟨⟨k + 1, u, t, by omega, by go_num, rfl, rfl, hs, hsm.1, hsm.2⟩, by simp [intOf]; omega⟩
          · have H1 : Hid _ := hm n rfl (by omega) (by omega)
            clear hn hm
            go_wp2
            go_loop [6, 7] (fun pa q => ∃ i P : Nat, i ≤ n ∧ q = .int .i64 i ∧ pa = .int .i64 P ∧ P ≤ 65536 ∧ Hid (P = 2 ^ (16 - i))) (fun _ q => n - (intOf q).toNat)
            case atStart => exact ⟨0, 65536, by omega, rfl, rfl, by omega, by unfold Hid; rfl⟩
            case round =>
              obtain ⟨i, P, hi, rfl, rfl, hP, HP⟩ := hrel
              by_cases hin : i < n
              · have hh := half_pow i (by omega) P HP.out
                go_wp2
                refine ⟨⟨i + 1, P / 2, by omega, by go_num, by simp, by omega, ?_⟩, by simp [intOf]; omega⟩
                have := hh.out
                unfold Hid
                omega
              · have : i = n := by omega
                subst this
                have hs := H1.out
                rw [← HP.out] at hs
                have hsm := hs.small h2
                have H2 : Hid _ := hs
                have H3 : Hid _ := hsm
                clear hs hsm hin
                go_wp2
                exact ⟨⟨k + 1, u + 1, t + P, by omega, by go_num, by go_num, by go_num, H2.out, H3.out.1, H3.out.2⟩, by simp [intOf]; omega⟩
    · have hge : l.length ≤ k := by omega
      clear hlt hc
      have : k = l.length := by omega
      subst this
      have hr : Hid _ := hs.end_ h1 h2
      have hz : Hid (u = 0 → t = 0) := fun h => by rw [hs.ht]; exact taken_none _ (by rw [← hs.hu]; exact h)
      clear hs hk hge
      by_cases c : u = 1
      · subst c
        go_wp2
        go_ret
        refine ⟨ret_bool ?_, rfl⟩
        rw [hr.out, if_pos True.intro]
        exact beq_a t
      · by_cases c0 : u = 0
        · have := hz.out c0
          subst c0 this
          go_wp2
          go_ret
          refine ⟨ret_bool ?_, rfl⟩
          rw [hr.out, if_neg c]
          rfl
        · go_wp2
          go_ret
          refine ⟨ret_bool ?_, rfl⟩
          rw [hr.out, if_neg c]
          exact beq_b t
theorem rright4_any (v : Value) (l : List Int) (w : World) (hv : Rw .i64 w v l) :
    Calls Try.prog 45 #[v] w fun e w' => e = .returned (.bool (rightL l)) ∧ w' = w := by
  obtain ⟨a, cap, rfl, ha⟩ := hv
  by_cases h : l.length < 2 ∨ 64 < l.length
  · rw [right_not_len h]
    exact rright_len_h a _ cap w h
  · obtain ⟨b, off, rfl, hb, hc⟩ := ha.resolve_left (by intro h0; subst h0; simp at h)
    exact rright_in_h b off cap l w (by omega) (by omega) hc
end Go.Proofs.Ytolfnjlkcppplaa
/- Contracts of Codes, and of the document's Code, spread and Number. -/
namespace Go.Proofs.Ytolfnjlkcppplaa
open Go.RowKit
set_option linter.unusedVariables false
set_option linter.unusedSimpArgs false
set_option maxRecDepth 10000

theorem info_u32 : (Try.prog.info? 108).map (fun i => (i.zero, i.size, i.bytes)) = some (some (.int .u32 0), 1, 4) := by kernel_rfl

theorem codes_len (l : List Int) : (codesL l).length = l.length := by simp [codesL]
theorem codes_at (l : List Int) (s : Nat) (h : s < l.length) : (codesL l).getD s 0 = codeAt l s := by
  unfold codesL; simp [h]

/-- What the codes are, behind the lengths below n, and the first k symbols of n bits. -/
structure Out (l : List Int) (n k : Nat) (cur : List Int) : Prop where
  len : cur.length = l.length
  at_ : ∀ s, s < l.length → cur.getD s 0 = if 0 < l.getD s 0 ∧ (l.getD s 0 < n ∨ l.getD s 0 = n ∧ s < k) then (cd l s : Int) else 0
theorem Out.start (l : List Int) : Out l 1 0 (List.replicate l.length 0) :=
  ⟨by simp, fun s hs => by rw [if_neg (by omega)]; simp [hs]⟩
theorem getD_set (l : List Int) (i j : Nat) (y : Int) (hi : i < l.length) : (l.set i y).getD j 0 = if j = i then y else l.getD j 0 := by
  rw [List.getD_eq_getElem?_getD, List.getD_eq_getElem?_getD, List.getElem?_set]
  by_cases h : i = j
  · subst h; simp [hi]
  · rw [if_neg h, if_neg (Ne.symm h)]
theorem Out.hit {l : List Int} {n k y : Nat} {cur : List Int} (h : Out l n k cur) (hn : 1 ≤ n) (hk : k < l.length) (e : l.getD k 0 = n) (hy : y = F l n + (l.take k).count (n : Int)) : Out l n (k + 1) (cur.set k (y : Int)) :=
  ⟨by rw [List.length_set]; exact h.len, fun s hs => by
    rw [getD_set _ _ _ _ (by rw [h.len]; exact hk)]
    by_cases hsk : s = k
    · subst hsk
      rw [if_pos rfl, if_pos (by omega), hy]
      unfold cd
      rw [e, Int.toNat_natCast]
    · rw [if_neg hsk, h.at_ s hs]
      have : (0 < l.getD s 0 ∧ (l.getD s 0 < n ∨ l.getD s 0 = n ∧ s < k)) ↔ (0 < l.getD s 0 ∧ (l.getD s 0 < n ∨ l.getD s 0 = n ∧ s < k + 1)) := by omega
      simp only [this]⟩
theorem Out.miss {l : List Int} {n k : Nat} {cur : List Int} (h : Out l n k cur) (e : l.getD k 0 ≠ n) : Out l n (k + 1) cur :=
  ⟨h.len, fun s hs => by
    rw [h.at_ s hs]
    have : (0 < l.getD s 0 ∧ (l.getD s 0 < n ∨ l.getD s 0 = n ∧ s < k)) ↔ (0 < l.getD s 0 ∧ (l.getD s 0 < n ∨ l.getD s 0 = n ∧ s < k + 1)) := by
      by_cases hsk : s = k
      · subst hsk; omega
      · omega
    simp only [this]⟩
theorem Out.next {l : List Int} {n : Nat} {cur : List Int} (h : Out l n l.length cur) : Out l (n + 1) 0 cur :=
  ⟨h.len, fun s hs => by
    rw [h.at_ s hs]
    have : (0 < l.getD s 0 ∧ (l.getD s 0 < n ∨ l.getD s 0 = n ∧ s < l.length)) ↔ (0 < l.getD s 0 ∧ (l.getD s 0 < ((n + 1 : Nat) : Int) ∨ l.getD s 0 = ((n + 1 : Nat) : Int) ∧ s < 0)) := by omega
    simp only [this]⟩
theorem Out.end_ {l : List Int} {cur : List Int} (h : Out l 17 0 cur) (hb : inB l = true) : cur = codesL l := by
  refine List.ext_getElem (by rw [h.len]; simp [codesL]) fun s h1 h2 => ?_
  have hs : s < l.length := by rw [← h.len]; exact h1
  have e := h.at_ s hs
  have hbs := inB_at hb s
  rw [List.getD_eq_getElem?_getD, List.getElem?_eq_getElem h1] at e
  simp only [Option.getD_some] at e
  rw [e]
  have e2 := codes_at l s hs
  rw [List.getD_eq_getElem?_getD, List.getElem?_eq_getElem h2] at e2
  simp only [Option.getD_some] at e2
  rw [e2]
  unfold codeAt
  have : (0 < l.getD s 0 ∧ (l.getD s 0 < ((17 : Nat) : Int) ∨ l.getD s 0 = ((17 : Nat) : Int) ∧ s < 0)) ↔ 0 < l.getD s 0 := by omega
  simp only [this]
/-- The next code, as far as the loops are. -/
def Nx (l : List Int) (n k y : Nat) : Prop := y = F l n + (l.take k).count (n : Int)
theorem Nx.small {l : List Int} {n k y : Nat} (h : Nx l n k y) (hl : l.length ≤ 64) (hn : n ≤ 16) : y ≤ 8388544 := by
  have h1 := F_small l hl n hn
  have h2 := count_take_le l k (n : Int)
  have h3 : l.count (n : Int) ≤ l.length := List.count_le_length
  unfold Nx at h
  omega
theorem Nx.hit {l : List Int} {n k y : Nat} (h : Nx l n k y) (hk : k < l.length) (e : l.getD k 0 = n) : Nx l n (k + 1) (y + 1) := by
  unfold Nx at *
  rw [count_take l k hk, if_pos e, h]; omega
theorem Nx.miss {l : List Int} {n k y : Nat} (h : Nx l n k y) (hk : k < l.length) (e : l.getD k 0 ≠ n) : Nx l n (k + 1) y := by
  unfold Nx at *
  rw [count_take l k hk, if_neg e, h]; omega
theorem Nx.next {l : List Int} {n y : Nat} (hn : 1 ≤ n) (h : Nx l n l.length y) : Nx l (n + 1) 0 (2 * y) := by
  unfold Nx at *
  rw [List.take_length] at h
  simp only [F, List.take_zero, List.count_nil]
  rw [if_neg (by omega), h]
  omega
theorem Nx.start (l : List Int) : Nx l 1 0 0 := by unfold Nx; simp [F]

set_option maxHeartbeats 1000000 in
theorem codes_no (v : Value) (l : List Int) (w : World) (hv : Rw .i64 w v l) (hr : rightL l = false) :
    Calls Try.prog 62 #[v] w fun e w' => e = .returned (.tuple #[.slice none 0 0, .int .i64 1]) ∧ w' = w := by
  go_enter Try.func62, Try.ntmps62
  go_wp2_with (go_at_call 57; refine (hright_any v l _ hv).mono ?_; rintro e w' ⟨rfl, rfl⟩; rw [hr])
  go_ret2
  exact ⟨rfl, rfl⟩

set_option maxHeartbeats 2000000 in
theorem codes_ok (v : Value) (l : List Int) (w : World) (hv : Rw .i64 w v l) (hr : rightL l = true) :
    Calls Try.prog 62 #[v] w fun e w' => ∃ g, e = .returned (.tuple #[.slice (some ⟨g, 0, none⟩) l.length l.length, .int .i64 0]) ∧ RwF w.heap.size .u32 w' (.slice (some ⟨g, 0, none⟩) l.length l.length) (codesL l) ∧ Below w.heap.size w w' := by
  obtain ⟨i0, hi, hz0, hz1, hz2⟩ := info_parts info_u32
  obtain ⟨hl1, hl2, hb, _⟩ := right_parts hr
  have hv0 := hv
  obtain ⟨a, cap, rfl, ha⟩ := hv
  obtain ⟨b, off, rfl, hbs, hc⟩ := ha.resolve_left (by intro h0; subst h0; simp at hl1)
  have HB : Hid _ := hb
  clear ha hb
  go_enter Try.func62, Try.ntmps62
  go_wp2_with (first | (go_at_call 57; refine (hright_any _ l _ hv0).mono ?_; rintro e w' ⟨rfl, rfl⟩; rw [hr]) | (at_make; refine wpList_make_full _ rfl _ _ 103 rfl w'.heap.size 108 i0 (.int .u32 0) 1 Try.underlying103 hi hz0 hz1 .i64 .i64 _ _ l.length rfl rfl (by omega) (by omega) (by rw [hz2]; omega) (by unfold maxLen; omega) (by simp) ?_))
  intro w1 hown1 hgrow1
  have hb1 := grown_of_none hgrow1
  have hfull := owns_full hown1
  rw [made_one] at hfull
  have hc1 : ∀ i, i < l.length → w1.cell? ⟨b, off + i, none⟩ = some (.int .i64 (l.getD i 0)) := fun i hi => (hb1.cell (p := ⟨b, off + i, none⟩) hbs).trans (hc i hi)
  have hw1 := hb1.size
  have hw2 : w'.heap.size < w1.heap.size := by
    rcases Nat.lt_or_ge w'.heap.size w1.heap.size with h' | h'
    · exact h'
    · rw [Array.getElem?_eq_none h'] at hfull; cases hfull.1
  have HF : Hid (w1.heap[w'.heap.size]? = some (.cells ((List.replicate l.length (0 : Int)).map (Value.int .u32)).toArray 108 (0, 0))) := by
    unfold Hid; rw [List.map_replicate]; exact hfull.1
  clear hown1 hgrow1 hfull hv0
  go_wp2
  go_loopw [5, 6] (fun y i wr => ∃ n p : Nat, ∃ cur : List Int, 1 ≤ n ∧ n ≤ 17 ∧ i = .int .i64 n ∧ y = .int .u32 p ∧ p ≤ 8388544 ∧ Hid (Nx l n 0 (2 * p)) ∧ Hid (Out l n 0 cur) ∧ Hid (wr.heap[w'.heap.size]? = some (.cells (cur.map (Value.int .u32)).toArray 108 (0, 0))) ∧ Below w'.heap.size w' wr ∧ w'.heap.size < wr.heap.size) (fun _ i _ => 17 - (intOf i).toNat)
  case atStart => exact ⟨1, 0, _, by omega, by omega, rfl, rfl, by omega, Nx.start l, Out.start l, HF, hb1, hw2⟩
  case round =>
    obtain ⟨n, p, cur, hn1, hn2, rfl, rfl, hp, HN, HO, HW, hnx, hsz⟩ := hrel
    clear HF
    by_cases h17 : n ≤ 16
    · have hp2 := HN.out.small hl2 h17
      go_wp2
      obtain ⟨W1, rfl⟩ : ∃ x, x = wr := ⟨wr, rfl⟩
      go_loopw [5, 23] (fun y i wr => ∃ k q : Nat, ∃ cur : List Int, k ≤ l.length ∧ i = .int .i64 k ∧ y = .int .u32 q ∧ q ≤ 8388544 ∧ Hid (Nx l n k q) ∧ Hid (Out l n k cur) ∧ Hid (wr.heap[w'.heap.size]? = some (.cells (cur.map (Value.int .u32)).toArray 108 (0, 0))) ∧ Below w'.heap.size w' wr ∧ w'.heap.size < wr.heap.size) (fun _ i _ => l.length - (intOf i).toNat)
      case atStart => exact ⟨0, 2 * p, cur, by omega, rfl, by go_num, hp2, HN, HO, HW, hnx, hsz⟩
      case round =>
        obtain ⟨k, q, cur2, hk, rfl, rfl, hq, HN2, HO2, HW2, hnx2, hsz2⟩ := hrel
        by_cases hlt : k < l.length
        · have g := (hnx2.cell (p := ⟨b, off + k, none⟩) hbs).trans (hc k hlt)
          obtain ⟨c1, c2⟩ := cell_of_row HW2.out k (by rw [HO2.out.len]; exact hlt)
          have hhit : Hid (∀ e : l.getD k 0 = n, _ ∧ _) := fun e => And.intro (HO2.out.hit hn1 hlt e HN2.out) (HN2.out.hit hlt e)
          have hmiss : Hid (∀ e : l.getD k 0 ≠ n, _ ∧ _) := fun e => And.intro (HO2.out.miss e) (HN2.out.miss hlt e)
          generalize l.getD k 0 = x at g hhit hmiss
          generalize cur2.getD k 0 = z at c1
          clear hc hc1 hnx hsz HW HO HN hp hp2
          by_cases hx : x = n
          · subst hx
            obtain ⟨r1, r2⟩ := hhit.out rfl
            have R1 : Hid _ := r1
            have R2 : Hid _ := r2
            have hq2 : q + 1 ≤ 8388544 := r2.small hl2 h17
            clear r1 r2 hhit hmiss
            go_wp2
            refine ⟨⟨k + 1, q + 1, cur2.set k (q : Int), by omega, by go_num, by go_num, hq2, R2, R1, row_set HW2.out _ _, hnx2.setCell (p := ⟨w'.heap.size, k, none⟩) (Nat.le_refl _) _, by simpa [World.setCell] using hsz2⟩, by simp [intOf]; omega⟩
          · obtain ⟨r1, r2⟩ := hmiss.out hx
            have R1 : Hid _ := r1
            have R2 : Hid _ := r2
            clear r1 r2 hhit hmiss
            go_wp2
            refine ⟨⟨k + 1, q, cur2, by omega, by go_num, rfl, hq, R2, R1, HW2, hnx2, hsz2⟩, by simp [intOf]; omega⟩
        · have : k = l.length := by omega
          subst this
          have R1 : Hid _ := HO2.out.next
          have R2 : Hid _ := HN2.out.next hn1
          clear hlt HO2 HN2 HO HN HW hnx hsz hc hc1
          go_wp2
          refine ⟨⟨n + 1, q, cur2, by omega, by omega, by go_num, rfl, hq, R2, R1, HW2, hnx2, hsz2⟩, by simp [intOf]; omega⟩
    · have : n = 17 := by omega
      subst this
      have hcur := HO.out.end_ HB.out
      have hlen := HO.out.len
      subst hcur
      clear h17 hc hc1 HN HO
      go_wp2
      go_ret2
      refine ⟨_, rfl, ?_, hnx⟩
      have := RwF.of_row (base := w'.heap.size) (c := l.length) HW.out hlen (Nat.le_refl _)
      exact this
end Go.Proofs.Ytolfnjlkcppplaa
/- Contracts of the document's spread, Number and Code: a code's bits, from the highest one on. -/
namespace Go.Proofs.Ytolfnjlkcppplaa
open Go.RowKit
set_option linter.unusedVariables false
set_option linter.unusedSimpArgs false
set_option maxRecDepth 10000

/-- So many bits of a number, from the highest one on. -/
def sp (c : Nat) : Nat → List Int
  | 0 => []
  | m + 1 => sp (c / 2) m ++ [((c % 2 : Nat) : Int)]
theorem sp_len (c m : Nat) : (sp c m).length = m := by
  induction m generalizing c with
  | zero => rfl
  | succ m ih => simp [sp, ih]
theorem sp_at (c m i : Nat) (h : i < m) : (sp c m).getD i 0 = ((c / 2 ^ (m - 1 - i) % 2 : Nat) : Int) := by
  induction m generalizing c with
  | zero => omega
  | succ m ih =>
    simp only [sp]
    by_cases hi : i < m
    · rw [List.getD_eq_getElem?_getD, List.getElem?_append_left (by rw [sp_len]; exact hi), ← List.getD_eq_getElem?_getD, ih (c / 2) hi]
      rw [Nat.div_div_eq_div_mul, ← Nat.pow_add_one']
      congr 4
      omega
    · have : i = m := by omega
      subst this
      rw [List.getD_eq_getElem?_getD, List.getElem?_append_right (by rw [sp_len]; omega), sp_len]
      simp
theorem tdiv2 (n : Nat) : (n : Int).tdiv 2 = ((n / 2 : Nat) : Int) := by
  rw [Int.tdiv_eq_ediv_of_nonneg (by omega)]; simp
theorem tmod2 (n : Nat) : (n : Int).tmod 2 = ((n % 2 : Nat) : Int) := by
  rw [Int.tmod_eq_emod_of_nonneg (by omega)]; simp

set_option maxHeartbeats 1000000 in
theorem spread_any (m : Nat) (hm : m ≤ 1000) : ∀ (c : Nat) (w : World), c < 2 ^ 62 →
    Calls Try.prog 50 #[.int .i64 c, .int .i64 m] w fun e w' => ∃ v, e = .returned v ∧ w'.ownsRow w.heap.size 3 1 v m ((sp c m).map (Value.int .i64)) ∧ Below w.heap.size w w' := by
  obtain ⟨i0, hi, hz0, hz1, hz2⟩ := info_parts info3
  induction m with
  | zero =>
    intro c w hc
    go_enter Try.func50, Try.ntmps50
    go_wp2
    go_ret
    exact ⟨_, rfl, World.ownsRow_nil _ _ _ _, Below.refl _ _⟩
  | succ m ih =>
    intro c w hc
    have ih := ih (by omega)
    have hne : ((((m + 1 : Nat) : Int)) == 0) = false := by simp; omega
    have e0 : (((m + 1 : Nat) : Int)) - 1 = (m : Int) := by omega
    go_enter Try.func50, Try.ntmps50
    go_wp2_with (first | (go_at_call 50; refine (ih (c / 2) _ (by omega)).mono ?_; rintro e w1 ⟨v1, rfl, hown1, hb1⟩) | (at_builtin; refine wpList_append_own _ rfl _ _ 22 rfl w.heap.size 3 i0 (.int .i64 0) 1 8 Try.underlying22 hi hz0 hz1 hz2 rfl (by decide) _ _ _ rfl (hown1.alloc _) ⟨_, 0, none⟩ 1 1 [_] rfl rfl (cell_one_new _ _ _) ?c2 ?c3 ?c4 ?c5 ?_))
    case c2 => intro u hu; simp at hu; subst hu; rfl
    case c3 => unfold maxLen; omega
    case c4 => omega
    case c5 => have := hb1.size; simp; omega
    intro v' w2 hown' hgrow _
    have hb2 := (hb1.alloc hb1.size (Obj.cells #[Value.int IntKind.i64 ((c : Int) % 2)] 3)).grown hgrow (by have := hb1.size; simp; omega) (fun k hk => (hown1.lt k hk).1)
    go_wp2
    go_ret
    refine ⟨_, rfl, ?_, hb2⟩
    simp only [sp, List.map_append, List.map_cons, List.map_nil]
    exact hown'

/-! ### Number -/
theorem num_step (c m k : Nat) (hk : k < m) : c / 2 ^ (m - (k + 1)) = c / 2 ^ (m - k) * 2 + c / 2 ^ (m - 1 - k) % 2 := by
  have e : m - k = (m - (k + 1)) + 1 := by omega
  rw [e, Nat.pow_succ, ← Nat.div_div_eq_div_mul, show m - 1 - k = m - (k + 1) by omega]
  omega
/-! ### Code -/
set_option maxHeartbeats 2000000 in
theorem code_any (v : Value) (l : List Int) (s : Nat) (w : World) (hv : Rw .i64 w v l) (hr : rightL l = true) (hs : s < l.length) (h0 : 0 < l.getD s 0) :
    Calls Try.prog 29 #[v, .int .i64 s] w fun e w' => ∃ v', e = .returned v' ∧ w'.ownsRow w.heap.size 3 1 v' (l.getD s 0).toNat ((sp (cd l s) (l.getD s 0).toNat).map (Value.int .i64)) ∧ Below w.heap.size w w' := by
  obtain ⟨hl1, hl2, hb, _⟩ := right_parts hr
  obtain ⟨a, cap, rfl, ha⟩ := hv
  obtain ⟨b, off, rfl, hbs, hc⟩ := ha.resolve_left (by intro h0; subst h0; simp at hl1)
  have hb16 := inB_at hb s
  obtain ⟨N, hN⟩ : ∃ N : Nat, l.getD s 0 = N := ⟨_, (Int.toNat_of_nonneg (by omega)).symm⟩
  have hcd : cd l s = F l N + (l.take s).count (N : Int) := by unfold cd; rw [hN, Int.toNat_natCast]
  rw [hN] at h0 hb16 ⊢
  rw [Int.toNat_natCast]
  have HS : Hid _ := hN
  have HD : Hid _ := hcd
  clear ha hb hN hcd hr
  go_enter Try.func29, Try.ntmps29
  go_wp2
  go_loop [5, 6] (fun y i => ∃ n p : Nat, 1 ≤ n ∧ n ≤ N ∧ i = .int .i64 n ∧ y = .int .i64 p ∧ p ≤ 8388544 ∧ Hid (Nx l n 0 p)) (fun _ i => 17 - (intOf i).toNat)
  case atStart => exact ⟨1, 0, by omega, by omega, rfl, rfl, by omega, Nx.start l⟩
  case round =>
    obtain ⟨n, p, hn1, hn2, rfl, rfl, hp, HN⟩ := hrel
    go_wp2
    go_loop [5, 7] (fun y i => ∃ k q : Nat, k ≤ l.length ∧ (n = N → k ≤ s) ∧ i = .int .i64 k ∧ y = .int .i64 q ∧ q ≤ 8388544 ∧ Hid (Nx l n k q)) (fun _ i => l.length - (intOf i).toNat)
    case atStart => exact ⟨0, p, by omega, by omega, rfl, rfl, hp, HN⟩
    case round =>
      obtain ⟨k, q, hk, hks, rfl, rfl, hq, HQ⟩ := hrel
      by_cases hlt : k < l.length
      · have g := hc k hlt
        have hhit : Hid (∀ e : l.getD k 0 = n, _) := fun e => HQ.out.hit hlt e
        have hmiss : Hid (∀ e : l.getD k 0 ≠ n, _) := fun e => HQ.out.miss hlt e
        have hsk : Hid (k = s → l.getD k 0 = N) := fun e => by subst e; exact HS.out
        generalize l.getD k 0 = x at g hhit hmiss hsk
        by_cases hx : x = n
        · subst hx
          by_cases hks2 : k = s
          · subst hks2
            have hnN : n = N := by have := hsk.out rfl; omega
            subst hnN
            have hqc : Hid (q = cd l k) := by unfold Hid; rw [HD.out]; exact HQ.out
            have hsp := spread_any n (by omega) q w (by omega)
            clear hhit hmiss hsk HD HS hc hks
            go_wp2_with (go_at_call 50; refine hsp.mono ?_; rintro e w1 ⟨v1, rfl, hown1, hb1⟩)
            go_ret
            rw [hqc.out] at hown1
            exact ⟨_, rfl, hown1, hb1⟩
          · have r2 : Hid _ := hhit.out rfl
            have hq2 : q + 1 ≤ 8388544 := Nx.small r2.out hl2 (by omega)
            have hks3 : Hid (n = N → k + 1 ≤ s) := fun e => by have := hks e; omega
            clear hhit hmiss hsk HD HS hc hks
            go_wp2
            refine ⟨⟨k + 1, q + 1, by omega, hks3.out, by go_num, by go_num, hq2, r2⟩, by simp [intOf]; omega⟩
        · have r2 : Hid _ := hmiss.out hx
          have hks3 : Hid (n = N → k + 1 ≤ s) := fun e => by
            have h1 := hks e
            have : k ≠ s := fun e2 => hx (by rw [hsk.out e2, e])
            omega
          clear hhit hmiss hsk HD HS hc hks
          go_wp2
          refine ⟨⟨k + 1, q, by omega, hks3.out, by go_num, rfl, hq, r2⟩, by simp [intOf]; omega⟩
      · have : k = l.length := by omega
        subst this
        have hnN : n < N := by
          rcases Nat.lt_or_ge n N with h | h
          · exact h
          · have := hks (by omega); omega
        have R2 : Hid _ := HQ.out.next hn1
        have hq2 : 2 * q ≤ 8388544 := Nx.small R2.out hl2 (by omega)
        clear hlt HQ HD HS hc hks
        go_wp2
        refine ⟨⟨n + 1, 2 * q, by omega, by omega, by go_num, by go_num, hq2, R2⟩, by simp [intOf]; omega⟩
end Go.Proofs.Ytolfnjlkcppplaa
/- The map of codes: its keys, what it tells; the contracts of slices.Max and symbolsByCode. -/
namespace Go.Proofs.Ytolfnjlkcppplaa
open Go.RowKit Go.Maps
set_option linter.unusedVariables false
set_option linter.unusedSimpArgs false
set_option maxRecDepth 10000

theorem try_laid : laidOutB Try.prog = true := by kernel_rfl
theorem rowC : (110 : TypeId) < Try.prog.types.size := of_decide_eq_true (by kernel_rfl)
theorem cellsC : Try.prog.cellsOf 110 = 2 := by kernel_rfl
theorem cellsU : Try.prog.cellsOf 108 = 1 := by kernel_rfl
theorem cellsI : Try.prog.cellsOf 3 = 1 := by kernel_rfl
theorem deepC : Try.prog.keyType 110 = true := by kernel_rfl
theorem wideC : (match Try.prog.underlying 110 with | some (.array _ _) | some (.struct _) => true | _ => false) = true := by kernel_rfl
theorem lawC : Keyed Try.prog 110 := Keyed.of_law (deep_law_laid try_laid (m := 2) (by omega) rowC (by kernel_rfl) wideC)
/-- What a code reads as, as a key. -/
def kk (v n : Int) : Lit := .string (keyBytes [.int .u32 v, .int .i64 n])
theorem key_mk (v n : Int) (hv : (Lit.int .u32 v).wf = true) (hn : (Lit.int .i64 n).wf = true) : keyOf Try.prog 110 (.agg #[.int .u32 v, .int .i64 n]) = some (kk v n) := by
  obtain ⟨m, hm⟩ : ∃ m, Try.prog.types.size = m + 1 := ⟨Try.prog.types.size - 1, by have h : (110 : Nat) < Try.prog.types.size := rowC; omega⟩
  unfold keyOf
  simp only [Try.underlying110]
  rw [if_pos (by simp [deepC, Value.formed, Try.underlying110, cellsC]), hm]
  unfold Program.keyLits
  simp only [Try.underlying110, Value.cells]
  rw [if_pos (by rw [cellsC]; exact ⟨rfl, by simp⟩)]
  simp [cellsU, cellsI, Program.keyLits, Try.underlying108, Try.underlying3, hv, hn, kk]
theorem key_inj {v n v' n' : Int} (hv : (Lit.int .u32 v).wf = true) (hn : (Lit.int .i64 n).wf = true) (hv' : (Lit.int .u32 v').wf = true) (hn' : (Lit.int .i64 n').wf = true) (h : kk v n = kk v' n') : v = v' ∧ n = n' := by
  have h1 := key_mk v n hv hn
  have h2 := key_mk v' n' hv' hn'
  rw [h] at h1
  have := lawC.inj h1 h2
  simpa using this
theorem key_lit {v n : Int} (hv : (Lit.int .u32 v).wf = true) (hn : (Lit.int .i64 n).wf = true) : WideAt.IsKeyLit (kk v n) := lawC.key (key_mk v n hv hn)
theorem wf_u32 (n : Nat) (h : n < 4294967296) : (Lit.int .u32 (n : Int)).wf = true := by
  simp [Lit.wf, IntKind.min, IntKind.max, IntKind.bits, IntKind.signed]; omega
theorem wf_i64 (n : Nat) (h : n < 9223372036854775808) : (Lit.int .i64 (n : Int)).wf = true := by
  simp [Lit.wf, IntKind.min, IntKind.max, IntKind.bits, IntKind.signed]; omega

/-- The map tells the symbols below k by their codes. -/
structure Tells (l : List Int) (k : Nat) (D : DataW Unit) : Prop where
  isMap : IsMap D
  has_ : ∀ v n : Nat, v < 4294967296 → n ≤ 64 → (Maps.has D (kk v n) = true ↔ ∃ s, s < k ∧ 0 < l.getD s 0 ∧ l.getD s 0 = n ∧ cd l s = v)
  at_ : ∀ s, s < k → 0 < l.getD s 0 → D.atKey (kk (cd l s : Int) (l.getD s 0)) (.lit (.int .i64 0)) = .lit (.int .i64 (s : Int))
theorem Tells.start (l : List Int) : Tells l 0 (.map []) :=
  ⟨isMap_empty, fun v n _ _ => by simp [Maps.has], fun s h => by omega⟩
theorem Tells.none {l : List Int} {k : Nat} {D : DataW Unit} (h : Tells l k D) (h0 : ¬ 0 < l.getD k 0) : Tells l (k + 1) D :=
  ⟨h.isMap, fun v n hv hn => by
    rw [h.has_ v n hv hn]
    constructor
    · rintro ⟨s, h1, h2⟩; exact ⟨s, by omega, h2⟩
    · rintro ⟨s, h1, h2⟩
      refine ⟨s, ?_, h2⟩
      rcases Nat.lt_or_ge s k with h3 | h3
      · exact h3
      · have : s = k := by omega
        subst this; exact absurd h2.1 h0, fun s hs hp => by
    rcases Nat.lt_or_ge s k with h3 | h3
    · exact h.at_ s h3 hp
    · have : s = k := by omega
      subst this; exact absurd hp h0⟩
theorem Tells.some {l : List Int} {k : Nat} {D : DataW Unit} (h : Tells l k D) (hl : l.length ≤ 64) (hb : inB l = true) (hk : k < l.length) (h0 : 0 < l.getD k 0) : Tells l (k + 1) (D.put (kk (cd l k : Int) (l.getD k 0)) (.lit (.int .i64 (k : Int)))) := by
  have hbk := inB_at hb k
  have hck := cd_small l hl hb k
  obtain ⟨N, hN⟩ : ∃ N : Nat, l.getD k 0 = N := ⟨_, (Int.toNat_of_nonneg (by omega)).symm⟩
  have wk1 := wf_u32 (cd l k) (by omega)
  have wk2 := wf_i64 N (by omega)
  have hlit : WideAt.IsKeyLit (kk (cd l k : Int) (l.getD k 0)) := by rw [hN]; exact key_lit wk1 wk2
  refine ⟨h.isMap.put _ _, fun v n hv hn => ?_, fun s hs hp => ?_⟩
  · by_cases he : v = cd l k ∧ n = N
    · obtain ⟨rfl, rfl⟩ := he
      rw [← hN, has_put_same h.isMap hlit]
      exact ⟨fun _ => ⟨k, by omega, h0, rfl, rfl⟩, fun _ => rfl⟩
    · rw [has_put_other (k := kk (cd l k : Int) (l.getD k 0)) (by
        intro e
        rw [hN] at e
        have := key_inj (wf_u32 v hv) (wf_i64 n (by omega)) wk1 wk2 e
        exact he ⟨by omega, by omega⟩), h.has_ v n hv hn]
      constructor
      · rintro ⟨s, h1, h2⟩; exact ⟨s, by omega, h2⟩
      · rintro ⟨s, h1, h2⟩
        refine ⟨s, ?_, h2⟩
        rcases Nat.lt_or_ge s k with h3 | h3
        · exact h3
        · have : s = k := by omega
          subst this
          exact absurd ⟨h2.2.2.symm, by omega⟩ he
  · rcases Nat.lt_or_ge s k with h3 | h3
    · have hbs := inB_at hb s
      have hcs := cd_small l hl hb s
      obtain ⟨M, hM⟩ : ∃ M : Nat, l.getD s 0 = M := ⟨_, (Int.toNat_of_nonneg (by omega)).symm⟩
      rw [atKey_put_other (by
        intro e
        rw [hN, hM] at e
        have := key_inj (wf_u32 (cd l s) (by omega)) (wf_i64 M (by omega)) wk1 wk2 e
        refine cd_apart l s k (by omega) hk (by omega) hp (by omega) ?_
        rw [hN, hM, show N = M by omega, Nat.sub_self, Nat.pow_zero, Nat.div_one]
        omega)]
      exact h.at_ s h3 hp
    · have : s = k := by omega
      subst this
      exact atKey_put_same h.isMap hlit _ _

theorem make_map {n : Int} {w : World} : (Instr.makeMap 106 (some (.int .i64 n))).run Try.prog w = .ok (.map (some w.heap.size)) (w.alloc (.map #[] 0)) := by
  simp [Instr.makeMap, run_underlying Try.underlying106, asInt, asIntOf, Result.andThen]
theorem zeroI (w : World) : (zeroValue 3).run Try.prog w = .ok (.int .i64 0) w := by kernel_rfl

/-- The greatest of a list. -/
def IsMax (l : List Int) (m : Int) : Prop := (∃ j, j < l.length ∧ l.getD j 0 = m) ∧ ∀ j, j < l.length → l.getD j 0 ≤ m
set_option maxHeartbeats 1000000 in
theorem max_any (v : Value) (l : List Int) (w : World) (hv : Rw .i64 w v l) (h1 : 1 ≤ l.length) (hl : l.length ≤ 100000) :
    Calls Try.prog 64 #[v] w fun e w' => ∃ m, e = .returned (.int .i64 m) ∧ IsMax l m ∧ w' = w := by
  obtain ⟨a, cap, rfl, ha⟩ := hv
  obtain ⟨b, off, rfl, hbs, hc⟩ := ha.resolve_left (by intro h0; subst h0; simp at h1)
  have g0 := hc 0 (by omega)
  rw [Nat.add_zero] at g0
  generalize hz : l.getD 0 0 = z at g0
  have HZ : Hid _ := hz
  clear ha hz
  go_enter Try.func64, Try.ntmps64
  go_wp2
  go_loop [3, 4] (fun y i => ∃ k : Nat, ∃ m : Int, 1 ≤ k ∧ k ≤ l.length ∧ i = .int .i64 k ∧ y = .int .i64 m ∧ Hid ((∃ j, j < k ∧ l.getD j 0 = m) ∧ ∀ j, j < k → l.getD j 0 ≤ m)) (fun _ i => l.length - (intOf i).toNat)
  case atStart =>
    refine ⟨1, z, by omega, by omega, rfl, rfl, ⟨⟨0, by omega, HZ.out⟩, fun j hj => ?_⟩⟩
    have h : j = 0 := by omega
    rw [h, HZ.out]
    exact Int.le_refl _
  case round =>
    obtain ⟨k, m, hk1, hk, rfl, rfl, HM⟩ := hrel
    by_cases hlt : k < l.length
    · have g := hc k hlt
      have hs : Hid _ := Eq.refl (l.getD k 0)
      generalize hxe : l.getD k 0 = x at g
      have HX : Hid _ := hxe
      clear hc hxe hs g0
      go_wp2
      have hx := HX.out
      obtain ⟨⟨j, hj1, hj2⟩, hm⟩ := HM.out
      refine ⟨⟨k + 1, max m x, by omega, by omega, by go_num, ?_, ?_⟩, by simp [intOf]; omega⟩
      · first | rfl | (congr 1; omega)
      · by_cases hmx : x ≤ m
        · refine ⟨⟨j, by omega, by omega⟩, fun i hi => ?_⟩
          rcases Nat.lt_or_ge i k with h | h
          · have := hm i h; omega
          · have : i = k := by omega
            subst this; omega
        · refine ⟨⟨k, by omega, by omega⟩, fun i hi => ?_⟩
          rcases Nat.lt_or_ge i k with h | h
          · have := hm i h; omega
          · have : i = k := by omega
            subst this; omega
    · have : k = l.length := by omega
      subst this
      clear hlt hc g0
      go_wp2
      go_ret
      exact ⟨m, rfl, HM.out, rfl⟩

theorem Below.mapped {w wr w1 : World} {k : Nat} (h : Below w.heap.size w wr) (hg : wr.grownBy w1 (some w.heap.size)) : Below w.heap.size w w1 :=
  h.grown hg h.size (fun j hj => by cases hj; exact Nat.le_refl _)

set_option maxHeartbeats 2000000 in
set_option maxRecDepth 10000 in
theorem symbols_any (v vc : Value) (l : List Int) (w : World) (hv : Rw .i64 w v l) (hvc : Rw .u32 w vc (codesL l)) (hr : rightL l = true) :
    Calls Try.prog 63 #[v, vc] w fun e w' => ∃ D : DataW Unit, e = .returned (.map (some w.heap.size)) ∧ w'.ownsMap Try.prog 110 (plainElem Try.prog 3) w.heap.size l.length D ∧ Tells l l.length D ∧ Below w.heap.size w w' := by
  have hmm := @make_map
  obtain ⟨hl1, hl2, hb, _⟩ := right_parts hr
  obtain ⟨a, cap, rfl, ha⟩ := hv
  obtain ⟨b, off, rfl, hbs, hc⟩ := ha.resolve_left (by intro h0; subst h0; simp at hl1)
  obtain ⟨a', cap', rfl, ha'⟩ := hvc
  obtain ⟨b', off', rfl, hbs', hc'⟩ := ha'.resolve_left (by intro h0; have := codes_len l; rw [h0] at this; simp at this; omega)
  rw [codes_len] at hc' ⊢
  have HB : Hid _ := hb
  clear ha ha' hb hr
  go_enter Try.func63, Try.ntmps63
  go_wp2
  go_loopw [13] (fun i wr => ∃ k : Nat, ∃ D : DataW Unit, k ≤ l.length ∧ i = .int .i64 k ∧ Hid (wr.ownsMap Try.prog 110 (plainElem Try.prog 3) w.heap.size k D) ∧ Hid (Tells l k D) ∧ Below w.heap.size w wr) (fun i _ => l.length - (intOf i).toNat)
  case atStart => exact ⟨0, .map [], by omega, rfl, World.ownsMap_made _ _ _ _, Tells.start l, (Below.refl _ _).alloc (Nat.le_refl _) _⟩
  case round =>
    obtain ⟨k, D, hk, rfl, HO, HT, hnx⟩ := hrel
    by_cases hlt : k < l.length
    · have g := (hnx.cell (p := ⟨b, off + k, none⟩) hbs).trans (hc k hlt)
      have g' := (hnx.cell (p := ⟨b', off' + k, none⟩) hbs').trans (hc' k hlt)
      rw [codes_at l k hlt] at g'
      unfold codeAt at g'
      have hbk := inB_at HB.out k
      have hck := cd_small l hl2 HB.out k
      by_cases h0 : 0 < l.getD k 0
      · rw [if_pos h0] at g'
        have T1 : Hid _ := HT.out.some hl2 HB.out hlt h0
        generalize l.getD k 0 = x at g h0 hbk T1
        obtain ⟨N, rfl⟩ := Int.eq_ofNat_of_zero_le hbk.1
        generalize cd l k = C at g' hck T1
        have hkey := key_mk C N (wf_u32 C (by omega)) (wf_i64 N (by omega))
        clear hc hc'
        go_wp2_with (first | (at_mapUpdate; refine wpList_mapUpdate_own _ rfl _ _ _ 106 rfl 110 3 lawC Try.underlying106 _ w.heap.size k _ rfl HO.out (by unfold maxLen; omega) _ _ _ rfl rfl hkey _ [] (plainElem_int Try.underlying3 (wf_i64 k (by omega))) ?_; intro w1 hown1 hgrow1) | go_in)
        have hb1 := hnx.grown hgrow1 hnx.size (fun j hj => by cases hj; exact Nat.le_refl _)
        have H1 : Hid _ := hown1
        clear hown1 hgrow1 hkey
        first | (refine ⟨⟨k + 1, _, by omega, by go_num, H1, T1, hb1⟩, by simp [intOf]; omega⟩) | skip
      · have T1 : Hid _ := HT.out.none h0
        generalize l.getD k 0 = x at g h0 hbk T1
        clear hc hc' g'
        go_wp2
        refine ⟨⟨k + 1, _, by omega, by go_num, HO.out.mono (by omega), T1, hnx⟩, by simp [intOf]; omega⟩
    · have : k = l.length := by omega
      subst this
      clear hlt hc hc'
      go_wp2
      go_ret
      exact ⟨D, rfl, HO.out, HT.out, hnx⟩
end Go.Proofs.Ytolfnjlkcppplaa
/- The contract of Read: the symbol whose code lies at the reader's place, and the reader behind it; or the error. -/
namespace Go.Proofs.Ytolfnjlkcppplaa
open Go.RowKit Go.Maps
set_option linter.unusedVariables false
set_option linter.unusedSimpArgs false
set_option maxRecDepth 10000

/-- What Read answers of a right book, at a place that is not below 0. -/
def rdS (l : List Int) (V T p : Nat) : Int := match findS l V T p with | some s => (s : Int) | none => 0
def rdP (l : List Int) (V T p : Nat) : Int := match findS l V T p with | some s => (p : Int) + l.getD s 0 | none => (p : Int)
def rdE (l : List Int) (V T p : Nat) : Int := match findS l V T p with | some _ => 0 | none => if usedN l = 1 ∧ p < T then 2 else 4

theorem rd_some {l : List Int} {V T p s : Nat} (h : Mt l V T p s) : rdS l V T p = s ∧ rdP l V T p = (p : Int) + l.getD s 0 ∧ rdE l V T p = 0 := by
  unfold rdS rdP rdE; rw [find_some h]; exact ⟨rfl, rfl, rfl⟩
theorem rd_none {l : List Int} {V T p : Nat} (h : ∀ s, ¬ Mt l V T p s) : rdS l V T p = 0 ∧ rdP l V T p = p ∧ rdE l V T p = if usedN l = 1 ∧ p < T then 2 else 4 := by
  unfold rdS rdP rdE; rw [find_none h]; exact ⟨rfl, rfl, rfl⟩
/-- No code of at most k bits lies at the place. -/
def NoMt (l : List Int) (V p k : Nat) : Prop := ∀ s, s < l.length → 0 < l.getD s 0 → l.getD s 0 ≤ k → hv V p (l.getD s 0).toNat ≠ cd l s
theorem NoMt.start (l : List Int) (V p : Nat) : NoMt l V p 0 := fun s _ h1 h2 => by omega
theorem NoMt.next {l : List Int} {V p k : Nat} (h : NoMt l V p k) (hn : ¬ ∃ s, s < l.length ∧ 0 < l.getD s 0 ∧ l.getD s 0 = ((k + 1 : Nat) : Int) ∧ cd l s = hv V p (k + 1)) : NoMt l V p (k + 1) := fun s h1 h2 h3 he => by
  by_cases hk : l.getD s 0 ≤ k
  · exact h s h1 h2 hk he
  · have e : l.getD s 0 = ((k + 1 : Nat) : Int) := by omega
    refine hn ⟨s, h1, h2, e, ?_⟩
    rw [e, Int.toNat_natCast] at he
    exact he.symm
theorem max_pos {l : List Int} {m : Int} (h : IsMax l m) (hr : rightL l = true) : 1 ≤ m ∧ m ≤ 16 := by
  obtain ⟨h1, h2, hb, ht1, ht2⟩ := right_parts hr
  have hu : 1 ≤ usedN l := by
    rcases Nat.lt_or_ge (usedN l) 1 with h | h
    · have := (ht2 (by omega)).2; omega
    · exact h
  obtain ⟨s, hs, hp⟩ := used_pos hu
  obtain ⟨⟨j, hj, rfl⟩, hm⟩ := h
  have := hm s hs
  have := inB_at hb j
  omega
theorem rd_more {l : List Int} {V T p k : Nat} {m : Int} (hm : IsMax l m) (hr : rightL l = true) (hk : k < m) (hn : NoMt l V p k) (hT : T < p + k + 1) : rdS l V T p = 0 ∧ rdP l V T p = p ∧ rdE l V T p = 4 := by
  obtain ⟨h1, h2, h3⟩ := rd_none (l := l) (V := V) (T := T) (p := p) (by
    rintro s ⟨s1, s2, s3, s4⟩
    exact hn s s1 s2 (by omega) s4)
  refine ⟨h1, h2, ?_⟩
  rw [h3, if_neg]
  rintro ⟨u1, u2⟩
  obtain ⟨⟨j, hj, rfl⟩, hmm⟩ := hm
  have := one_bit hr u1 j hj (by omega)
  omega
theorem rd_form {l : List Int} {V T p k : Nat} {m : Int} (hm : IsMax l m) (hr : rightL l = true) (hk : (k : Int) = m) (hn : NoMt l V p k) (hT : p + k ≤ T) : rdS l V T p = 0 ∧ rdP l V T p = p ∧ rdE l V T p = 2 := by
  have hmp := max_pos hm hr
  have hno : ∀ s, ¬ Mt l V T p s := by
    rintro s ⟨s1, s2, s3, s4⟩
    have := hm.2 s s1
    exact hn s s1 s2 (by omega) s4
  obtain ⟨h1, h2, h3⟩ := rd_none hno
  refine ⟨h1, h2, ?_⟩
  obtain ⟨r1, r2, hb, ht1, ht2⟩ := right_parts hr
  have hu : usedN l = 1 := by
    rcases Decidable.em (usedN l = 1) with h | h
    · exact h
    · exfalso
      have hle : ∀ x ∈ l, x ≤ (k : Int) := by
        intro x hx
        obtain ⟨i, hi, rfl⟩ := List.mem_iff_getElem.1 hx
        have := hm.2 i hi
        rw [List.getD_eq_getElem?_getD, List.getElem?_eq_getElem hi] at this
        simp at this; omega
      obtain ⟨s, hs, _⟩ := Mt.some (V := V) (T := T) (p := p) hb (ht2 h).1 (m := k) (by omega) (by omega) hle hT
      exact hno s hs
  rw [h3, if_pos ⟨hu, by omega⟩]
theorem rd_found {l : List Int} {V T p k s : Nat} (hs : s < l.length) (h0 : 0 < l.getD s 0) (hk : l.getD s 0 = ((k + 1 : Nat) : Int)) (hc : cd l s = hv V p (k + 1)) (hT : p + k + 1 ≤ T) : rdS l V T p = s ∧ rdP l V T p = (p : Int) + k + 1 ∧ rdE l V T p = 0 := by
  obtain ⟨h1, h2, h3⟩ := rd_some (l := l) (V := V) (T := T) (p := p) (s := s) ⟨hs, h0, by omega, by rw [hk, Int.toNat_natCast]; exact hc.symm⟩
  exact ⟨h1, by rw [h2, hk]; omega, h3⟩
theorem or_bit (h b : Nat) (hb : b < 2) (hh : h < 65536) : bits .or .u32 (((2 * h : Nat) : Int)) ((b : Nat) : Int) = ((2 * h + b : Nat) : Int) := by
  rw [bits_join .u32 32 (by decide) wraps_u32 1 ((2 * h : Nat) : Int) (b : Int) (by omega) (by omega) (by omega) (by omega) (by omega) (by omega)]
  omega

set_option maxHeartbeats 1000000 in
theorem read_arg (a : Option Addr) (len cap : Nat) (vl : Value) (l : List Int) (p : Int) (w : World) (hv : Rw .i64 w vl l) (h : rightL l = false ∨ p < 0) :
    Calls Try.prog 52 #[.agg #[.slice a len cap, .int .i64 p], vl] w fun e w' => e = .returned (.tuple #[.agg #[.slice a len cap, .int .i64 p], .int .i64 0, .int .i64 1]) ∧ Below w.heap.size w w' := by
  have hW := below2 w (.cells #[.slice a len cap, .int .i64 p] 64) (.cells #[.slice none 0 0, .int .i64 0] 64)
  have hv1 := hv.below hW
  cases hr : rightL l with
  | false =>
    clear h
    go_enter Try.func52, Try.ntmps52
    go_wp2_with (go_at_call 62; refine (codes_no vl l _ hv1 hr).mono ?_; rintro e w' ⟨rfl, rfl⟩)
    refine bodyPost_ret (v := .tuple #[.agg #[.slice a len cap, .int .i64 p], .int .i64 0, .int .i64 1]) (by simp [results, Try.results52, go_sem]) rfl ⟨rfl, ?_⟩
    first | exact below2 _ _ _ | exact bset2 hW _ _ _ _ _ _ (by omega) (by omega)
  | true =>
    have hp : p < 0 := by
      rcases h with h | h
      · rw [hr] at h; cases h
      · exact h
    clear h
    go_enter Try.func52, Try.ntmps52
    go_wp2_with (go_at_call 62; refine (codes_ok vl l _ hv1 hr).mono ?_; rintro e w' ⟨g, rfl, hrow, hb1⟩; obtain ⟨k0, k1, k2, k3, f0, f1, f2, f3, hz⟩ := two_boxes hb1)
    refine bodyPost_ret (v := .tuple #[.agg #[.slice a len cap, .int .i64 p], .int .i64 0, .int .i64 1]) (by simp [results, Try.results52, go_sem, k0, k1, k2, k3, f0, f1, f2, f3]) rfl ⟨rfl, ?_⟩
    exact bset2 (bthen hW hb1 hW.size) _ _ _ _ _ _ (by omega) (by omega)

theorem get1_ok (a : Option Addr) (cap : Nat) (xs : List Int) (q : Nat) (w : World) (hx : Byts xs) (hlx : xs.length ≤ 100000) (hvx : Rw .u8 w (.slice a xs.length cap) xs) (h : q + 1 ≤ 8 * xs.length) :
    Calls Try.prog 51 #[.agg #[.slice a xs.length cap, .int .i64 q], .int .i64 1] w fun e w' => e = .returned (.tuple #[.agg #[.slice a xs.length cap, .int .i64 ((q + 1 : Nat) : Int)], .int .u64 ((bv xs / 2 ^ q % 2 : Nat) : Int), .int .i64 0]) ∧ Below w.heap.size w w' := by
  have eV : getV xs (q : Int) 1 = ((bv xs / 2 ^ q % 2 : Nat) : Int) := by
    unfold getV; rw [if_pos (by omega)]; simp
  have eE : getE xs (q : Int) 1 = 0 := by unfold getE; rw [if_pos (by omega), if_pos (by omega)]
  refine (get_any _ xs (q : Int) 1 w hvx hx hlx).mono ?_
  rintro e w' ⟨rfl, hb⟩
  rw [eV, eE, if_pos rfl]
  exact ⟨by simp, hb⟩
theorem get1_more (a : Option Addr) (cap : Nat) (xs : List Int) (q : Nat) (w : World) (hx : Byts xs) (hlx : xs.length ≤ 100000) (hvx : Rw .u8 w (.slice a xs.length cap) xs) (h : 8 * xs.length < q + 1) :
    Calls Try.prog 51 #[.agg #[.slice a xs.length cap, .int .i64 q], .int .i64 1] w fun e w' => e = .returned (.tuple #[.agg #[.slice a xs.length cap, .int .i64 (q : Int)], .int .u64 0, .int .i64 4]) ∧ Below w.heap.size w w' := by
  have eV : getV xs (q : Int) 1 = 0 := by
    unfold getV; rw [if_neg (by omega)]
  have eE : getE xs (q : Int) 1 = 4 := by unfold getE; rw [if_pos (by omega), if_neg (by omega)]
  refine (get_any _ xs (q : Int) 1 w hvx hx hlx).mono ?_
  rintro e w' ⟨rfl, hb⟩
  rw [eV, eE, if_neg (by decide)]
  exact ⟨rfl, hb⟩
/-- What Read's loop has: its reader, its answer's cells, the reader behind the bits that are read, the code that is met. -/
structure RdSt (B A : Nat) (sv : Value) (p q h k : Nat) (wr : World) : Prop where
  r0 : wr.cell? ⟨B, 0, none⟩ = some sv
  r1 : wr.cell? ⟨B, 1, none⟩ = some (.int .i64 (p : Int))
  s0 : wr.cell? ⟨B + 1, 0, none⟩ = some (.slice none 0 0)
  s1 : wr.cell? ⟨B + 1, 1, none⟩ = some (.int .i64 0)
  t0 : wr.frozen? ⟨B + 1, 0, none⟩ = false
  t1 : wr.frozen? ⟨B + 1, 1, none⟩ = false
  a0 : wr.cell? ⟨A, 0, none⟩ = some sv
  a1 : wr.cell? ⟨A, 1, none⟩ = some (.int .i64 (q : Int))
  b0 : wr.frozen? ⟨A, 0, none⟩ = false
  b1 : wr.frozen? ⟨A, 1, none⟩ = false
  c0 : wr.cell? ⟨A + 1, 0, none⟩ = some (.int .u32 (h : Int))
  c1 : wr.cell? ⟨A + 1, 1, none⟩ = some (.int .i64 (k : Int))
  d0 : wr.frozen? ⟨A + 1, 0, none⟩ = false
  d1 : wr.frozen? ⟨A + 1, 1, none⟩ = false
  hB : B + 1 < A
  hA : A + 1 < wr.heap.size
theorem RdSt.below {B A : Nat} {sv : Value} {p q h k : Nat} {wr w1 : World} (H : RdSt B A sv p q h k wr) (hb : Below wr.heap.size wr w1) : RdSt B A sv p q h k w1 := by
  obtain ⟨hc, hf⟩ := bcell hb
  have h1 := H.hB
  have h2 := H.hA
  have h3 := hb.size
  refine ⟨(hc _ _ (by omega)).trans H.r0, (hc _ _ (by omega)).trans H.r1, (hc _ _ (by omega)).trans H.s0, (hc _ _ (by omega)).trans H.s1, (hf _ _ (by omega)).trans H.t0, (hf _ _ (by omega)).trans H.t1, (hc _ _ (by omega)).trans H.a0, (hc _ _ (by omega)).trans H.a1, (hf _ _ (by omega)).trans H.b0, (hf _ _ (by omega)).trans H.b1, (hc _ _ (by omega)).trans H.c0, (hc _ _ (by omega)).trans H.c1, (hf _ _ (by omega)).trans H.d0, (hf _ _ (by omega)).trans H.d1, h1, by omega⟩

theorem RdSt.step {B A : Nat} {sv : Value} {p q h k : Nat} {wr : World} (H : RdSt B A sv p q h k wr) (q' h' k' : Nat) :
    RdSt B A sv p q' h' k' ((((wr.setCell ⟨A, 0, none⟩ sv).setCell ⟨A, 1, none⟩ (.int .i64 (q' : Int))).setCell ⟨A + 1, 0, none⟩ (.int .u32 (h' : Int))).setCell ⟨A + 1, 1, none⟩ (.int .i64 (k' : Int))).drew := by
  obtain ⟨r0, r1, s0, s1, t0, t1, a0, a1, b0, b1, c0, c1, d0, d1, hB, hA⟩ := H
  have n1 : B ≠ A := by omega
  have n2 : B ≠ A + 1 := by omega
  have n3 : B + 1 ≠ A := by omega
  have n4 : B ≠ A := by omega
  have n5 : A ≠ A + 1 := by omega
  have n6 : A + 1 ≠ A := by omega
  refine ⟨?_, ?_, ?_, ?_, ?_, ?_, ?_, ?_, ?_, ?_, ?_, ?_, ?_, ?_, hB, ?_⟩
  all_goals simp [go_sem, r0, r1, s0, s1, t0, t1, a0, a1, b0, b1, c0, c1, d0, d1, n1, n2, n3, n4, n5, n6, frozen_set]
  omega

theorem own4 {P : Program} {k : TypeId} {R : Value → Option (DataW Unit × List MemPlace)} {w : World} {b n A : Nat} {D : DataW Unit} (h : w.ownsMap P k R b n D) (hb : b < A) (x y z u : Value) :
    ((((w.setCell ⟨A, 0, none⟩ x).setCell ⟨A, 1, none⟩ y).setCell ⟨A + 1, 0, none⟩ z).setCell ⟨A + 1, 1, none⟩ u).drew.ownsMap P k R b n D :=
  World.ownsMap.drew (World.ownsMap.setCell (World.ownsMap.setCell (World.ownsMap.setCell (World.ownsMap.setCell h (a := ⟨A, 0, none⟩) (by show b ≠ A; omega) x) (a := ⟨A, 1, none⟩) (by show b ≠ A; omega) y) (a := ⟨A + 1, 0, none⟩) (by show b ≠ A + 1; omega) z) (a := ⟨A + 1, 1, none⟩) (by show b ≠ A + 1; omega) u)
theorem bel4 {B A : Nat} {a w : World} (h : Below B a w) (hb : B ≤ A) (x y z u : Value) :
    Below B a ((((w.setCell ⟨A, 0, none⟩ x).setCell ⟨A, 1, none⟩ y).setCell ⟨A + 1, 0, none⟩ z).setCell ⟨A + 1, 1, none⟩ u).drew :=
  ((((h.setCell (p := ⟨A, 0, none⟩) hb x).setCell (p := ⟨A, 1, none⟩) hb y).setCell (p := ⟨A + 1, 0, none⟩) (by show B ≤ A + 1; omega) z).setCell (p := ⟨A + 1, 1, none⟩) (by show B ≤ A + 1; omega) u).trans ⟨rfl, rfl, rfl, Nat.le_refl _, fun _ _ => rfl⟩

set_option maxHeartbeats 4000000 in
set_option maxRecDepth 10000 in
theorem read_ok (a : Option Addr) (cap : Nat) (vl : Value) (xs l : List Int) (p : Nat) (w : World) (hx : Byts xs) (hlx : xs.length ≤ 100000) (hvx : Rw .u8 w (.slice a xs.length cap) xs) (hvl : Rw .i64 w vl l) (hr : rightL l = true) :
    Calls Try.prog 52 #[.agg #[.slice a xs.length cap, .int .i64 p], vl] w fun e w' => e = .returned (.tuple #[.agg #[.slice a xs.length cap, .int .i64 (rdP l (bv xs) (8 * xs.length) p)], .int .i64 (rdS l (bv xs) (8 * xs.length) p), .int .i64 (rdE l (bv xs) (8 * xs.length) p)]) ∧ Below w.heap.size w w' := by
  have hW := below2 w (.cells #[.slice a xs.length cap, .int .i64 (p : Int)] 64) (.cells #[.slice none 0 0, .int .i64 0] 64)
  have hv1 := hvl.below hW
  have hl1 := (right_parts hr).1
  have hl2 := (right_parts hr).2.1
  go_enter Try.func52, Try.ntmps52
  go_wp2_with (go_at_call 62; refine (codes_ok vl l _ hv1 hr).mono ?_; rintro e w1 ⟨g, rfl, hrow, hb1⟩; obtain ⟨k0, k1, k2, k3, f0, f1, f2, f3, hz⟩ := two_boxes hb1)
  have hBw1 := bthen hW hb1 hW.size
  have hv2 := hvl.below hBw1
  have hsy := symbols_any _ _ l w1 hv2 hrow.rw hr
  have hk0 : (0 : Int) ≤ (p : Int) := by omega
  go_wp2_with (go_at_call 63; refine hsy.mono ?_; rintro e w2 ⟨D, rfl, hown, htell, hb2⟩; obtain ⟨hc2, hf2⟩ := bcell hb2; have m0 := (hc2 _ _ (by omega)).trans k0; have m1 := (hc2 _ _ (by omega)).trans k1; have m2 := (hc2 _ _ (by omega)).trans k2; have m3 := (hc2 _ _ (by omega)).trans k3; have n2 := (hf2 _ _ (by omega)).trans f2; have n3 := (hf2 _ _ (by omega)).trans f3)
  have hBw2 := bthen hBw1 hb2 (by omega)
  have hv3 := (hvl.below hBw2).below (below2 w2 (.cells #[.slice a xs.length cap, .int .i64 (p : Int)] 64) (.cells #[.int .u32 0, .int .i64 0] 110))
  have hz2 := hb2.size
  refine (max_any _ l _ hv3 (by omega) (by omega)).mono ?_
  rintro e w3 ⟨m, rfl, hmax, rfl⟩
  obtain ⟨hm1, hm2⟩ := max_pos hmax hr
  obtain ⟨M, rfl⟩ := Int.eq_ofNat_of_zero_le (show 0 ≤ m by omega)
  have HM : Hid _ := hmax
  have HR : Hid _ := hr
  have hW3 := hBw2.alloc hBw2.size (.cells #[.slice a xs.length cap, .int .i64 (p : Int)] 64)
  have hW4 := hW3.alloc hW3.size (.cells #[.int .u32 0, .int .i64 0] 110)
  have hSt : RdSt w.heap.size w2.heap.size (.slice a xs.length cap) p p 0 0 ((w2.alloc (.cells #[.slice a xs.length cap, .int .i64 (p : Int)] 64)).alloc (.cells #[.int .u32 0, .int .i64 0] 110)) := by
    have q : ∀ b o, b < w2.heap.size → ((w2.alloc (.cells #[.slice a xs.length cap, .int .i64 (p : Int)] 64)).alloc (.cells #[.int .u32 0, .int .i64 0] 110)).cell? ⟨b, o, none⟩ = w2.cell? ⟨b, o, none⟩ := (bcell (below2 w2 _ _)).1
    have q' : ∀ b o, b < w2.heap.size → ((w2.alloc (.cells #[.slice a xs.length cap, .int .i64 (p : Int)] 64)).alloc (.cells #[.int .u32 0, .int .i64 0] 110)).frozen? ⟨b, o, none⟩ = w2.frozen? ⟨b, o, none⟩ := (bcell (below2 w2 _ _)).2
    refine ⟨(q _ _ (by omega)).trans m0, (q _ _ (by omega)).trans m1, (q _ _ (by omega)).trans m2, (q _ _ (by omega)).trans m3, (q' _ _ (by omega)).trans n2, (q' _ _ (by omega)).trans n3, ?_, ?_, ?_, ?_, ?_, ?_, ?_, ?_, by omega, by simp⟩ <;> simp [go_sem]
  have hOwn : Hid _ := (hown.alloc (.cells #[.slice a xs.length cap, .int .i64 (p : Int)] 64)).alloc (.cells #[.int .u32 0, .int .i64 0] 110)
  have HT : Hid _ := htell
  have hMb : w1.heap.size < w2.heap.size := hown.lt
  have hMb2 : w.heap.size + 1 < w1.heap.size := by omega
  clear hown htell hc2 hf2 m0 m1 m2 m3 n2 n3 k0 k1 k2 k3 f0 f1 f2 f3 hsy hrow hb1 hb2 hv1 hv2 hv3 hW hW3 hBw1 hmax hr
  generalize ((w2.alloc (.cells #[.slice a xs.length cap, .int .i64 (p : Int)] 64)).alloc (.cells #[.int .u32 0, .int .i64 0] 110)) = W4 at *
  go_wp2
  go_loopw [37] (fun i wr => ∃ k h q : Nat, k ≤ M ∧ i = .int .i64 k ∧ h < 65536 ∧ Hid (h = hv (bv xs) p k) ∧ Hid (q = p + k) ∧ Hid (NoMt l (bv xs) p k) ∧ Hid (k = 0 ∨ p + k ≤ 8 * xs.length) ∧ Hid (RdSt w.heap.size w2.heap.size (.slice a xs.length cap) p q h k wr) ∧ Hid (wr.ownsMap Try.prog 110 (plainElem Try.prog 3) w1.heap.size l.length D) ∧ Below w.heap.size w wr) (fun i _ => M - (intOf i).toNat)
  case atStart => exact ⟨0, 0, p, by omega, rfl, by omega, by unfold Hid; rfl, by unfold Hid; rfl, NoMt.start _ _ _, .inl rfl, hSt, hOwn, hW4⟩
  case round =>
    obtain ⟨k, h, q, hk, rfl, hh, HH, HQ, HN, HE, HS, HO, hnx⟩ := hrel
    by_cases hlt : k < M
    · by_cases hfit : q + 1 ≤ 8 * xs.length
      · -- one bit more
        have hg := get1_ok a cap xs q wr hx hlx (hvx.below hnx) hfit
        have hbit : bv xs / 2 ^ q % 2 < 2 := Nat.mod_lt _ (by decide)
        have HH2 : Hid (2 * h + bv xs / 2 ^ q % 2 = hv (bv xs) p (k + 1)) := by unfold Hid; rw [HQ.out, HH.out]; rfl
        have hh2 : 2 * h + bv xs / 2 ^ q % 2 < 65536 := by
          rw [HH2.out]
          exact Nat.lt_of_lt_of_le (hv_lt _ _ _) (Nat.pow_le_pow_right (n := 2) (by decide) (show k + 1 ≤ 16 by omega))
        generalize bv xs / 2 ^ q % 2 = bt at hg hbit HH2 hh2
        have hor : bits .or .u32 ((h : Int) * 2) (bt : Int) = ((2 * h + bt : Nat) : Int) := by
          have := or_bit h bt hbit hh
          rwa [show ((2 * h : Nat) : Int) = (h : Int) * 2 by omega] at this
        have HOr : Hid _ := hor
        clear hor
        obtain ⟨a0, a1⟩ := And.intro HS.out.a0 HS.out.a1
        clear hSt hOwn hW4
        go_wp2_with (go_at_call 51; refine hg.mono ?_; rintro e w5 ⟨rfl, hb5⟩; clear a0 a1)
        have HS5 := (HS.out.below hb5).below (below1 w5 (.cells #[.slice a xs.length cap, .int .i64 ((q : Int) + 1)] 64))
        have x0 : (w5.alloc (.cells #[.slice a xs.length cap, .int .i64 ((q : Int) + 1)] 64)).cell? ⟨w5.heap.size, 0, none⟩ = some (.slice a xs.length cap) := by simp [go_sem]
        have x1 : (w5.alloc (.cells #[.slice a xs.length cap, .int .i64 ((q : Int) + 1)] 64)).cell? ⟨w5.heap.size, 1, none⟩ = some (.int .i64 ((q : Int) + 1)) := by simp [go_sem]
        have hW5 : Below w.heap.size w (w5.alloc (.cells #[.slice a xs.length cap, .int .i64 ((q : Int) + 1)] 64)) := (bthen hnx hb5 hnx.size).alloc (by have := hb5.size; have := hnx.size; omega) _
        have HO5 : Hid _ := (HO.out.kept (w' := w5) (row := none) ⟨hb5.os, hb5.tape, hb5.output, hb5.size, fun i hi _ => hb5.block i hi⟩ (by simp)).alloc (.cells #[.slice a xs.length cap, .int .i64 ((q : Int) + 1)] 64)
        have hX : w2.heap.size + 1 < w5.heap.size := by have := HS.out.hA; have := hb5.size; omega
        generalize (w5.alloc (.cells #[.slice a xs.length cap, .int .i64 ((q : Int) + 1)] 64)) = W5 at *
        generalize w5.heap.size = X at *
        have HS6 : Hid _ := HS5
        obtain ⟨r0, r1, s0, s1, t0, t1, a0, a1, b0, b1, c0, c1, d0, d1, hB, hA⟩ := HS5
        clear hg HS HO hb5
        go_region
        rw [HOr.out, show (q : Int) + 1 = ((q + 1 : Nat) : Int) by omega, show (k : Int) + 1 = ((k + 1 : Nat) : Int) by omega]
        have HS7 := HS6.out.step (q + 1) (2 * h + bt) (k + 1)
        have HO7 : Hid _ := own4 HO5.out hMb (.slice a xs.length cap) (.int .i64 ((q + 1 : Nat) : Int)) (.int .u32 ((2 * h + bt : Nat) : Int)) (.int .i64 ((k + 1 : Nat) : Int))
        have hW7 := bel4 hW5 (show w.heap.size ≤ w2.heap.size by omega) (.slice a xs.length cap) (.int .i64 ((q + 1 : Nat) : Int)) (.int .u32 ((2 * h + bt : Nat) : Int)) (.int .i64 ((k + 1 : Nat) : Int))
        clear r0 r1 s0 s1 t0 t1 a0 a1 b0 b1 c0 c1 d0 d1 x0 x1 HS6 HO5 hW5
        generalize ((((W5.setCell ⟨w2.heap.size, 0, none⟩ (.slice a xs.length cap)).setCell ⟨w2.heap.size, 1, none⟩ (.int .i64 ((q + 1 : Nat) : Int))).setCell ⟨w2.heap.size + 1, 0, none⟩ (.int .u32 ((2 * h + bt : Nat) : Int))).setCell ⟨w2.heap.size + 1, 1, none⟩ (.int .i64 ((k + 1 : Nat) : Int))).drew = W7 at *
        have HS8 : Hid _ := HS7
        obtain ⟨r0, r1, s0, s1, t0, t1, a0, a1, b0, b1, c0, c1, d0, d1, hB, hA7⟩ := HS7
        have hkey := key_mk ((2 * h + bt : Nat) : Int) ((k + 1 : Nat) : Int) (wf_u32 _ (by omega)) (wf_i64 _ (by omega))
        have hiff : Hid _ := HT.out.has_ (2 * h + bt) (k + 1) (by omega) (by omega)
        have hatk : Hid (∀ s, s < l.length → 0 < l.getD s 0 → l.getD s 0 = ((k + 1 : Nat) : Int) → cd l s = 2 * h + bt → D.atKey (kk ((2 * h + bt : Nat) : Int) ((k + 1 : Nat) : Int)) (.lit (.int .i64 0)) = .lit (.int .i64 (s : Int))) := fun s s1 s2 s3 s4 => by
          have := HT.out.at_ s s1 s2
          rwa [s3, s4] at this
        cases hhas : Maps.has D (kk ((2 * h + bt : Nat) : Int) ((k + 1 : Nat) : Int)) with
        | true =>
          go_wp2_with (first | (at_lookup; refine wpList_lookup_own_ok_int _ rfl _ _ 106 rfl 110 3 .i64 lawC Try.underlying106 Try.underlying3 (zeroI _) w1.heap.size l.length D rfl HO7.out _ _ rfl hkey ?_; intro c hat hwc; rw [hhas]) | go_in)
          obtain ⟨s, s1', s2', s3', s4'⟩ := hiff.out.1 hhas
          have hc : c = s := by
            have e := hatk.out s s1' s2' s3' s4'
            rw [e] at hat
            simpa using hat.symm
          have hq := HQ.out
          obtain ⟨e1, e2, e3⟩ := rd_found (T := 8 * xs.length) s1' s2' s3' (by rw [s4']; exact HH2.out) (by omega)
          refine bodyPost_ret (v := .tuple #[.agg #[.slice a xs.length cap, .int .i64 ((q : Int) + 1)], .int .i64 c, .int .i64 0]) (by simp [results, Try.results52, go_sem, s0, s1, t0, t1]) rfl ⟨?_, bset2 hW7 _ _ _ _ _ _ (by omega) (by omega)⟩
          rw [e1, e2, e3, hc, show (q : Int) + 1 = (p : Int) + k + 1 by omega]
        | false =>
          go_wp2_with (first | (at_lookup; refine wpList_lookup_own_ok_int _ rfl _ _ 106 rfl 110 3 .i64 lawC Try.underlying106 Try.underlying3 (zeroI _) w1.heap.size l.length D rfl HO7.out _ _ rfl hkey ?_; intro c hat hwc; rw [hhas]) | go_in)
          have hq := HQ.out
          refine ⟨⟨k + 1, 2 * h + bt, q + 1, by omega, by go_num, by omega, HH2, by unfold Hid; omega, ?_, .inr (by omega), HS8, HO7, hW7⟩, by simp [intOf]; omega⟩
          refine NoMt.next HN.out ?_
          intro hex
          rw [← HH2.out] at hex
          have := hiff.out.2 hex
          rw [hhas] at this
          cases this
      · -- the bits end
        have hg := get1_more a cap xs q wr hx hlx (hvx.below hnx) (by omega)
        obtain ⟨a0, a1⟩ := And.intro HS.out.a0 HS.out.a1
        clear hSt hOwn hW4
        go_wp2_with (go_at_call 51; refine hg.mono ?_; rintro e w5 ⟨rfl, hb5⟩; clear a0 a1; obtain ⟨r0, r1, s0, s1, t0, t1, a0, a1, b0, b1, c0, c1, d0, d1, hB, hA⟩ := (HS.out.below hb5).below (below1 w5 (.cells #[.slice a xs.length cap, .int .i64 (q : Int)] 64)))
        have hq := HQ.out
        obtain ⟨e1, e2, e3⟩ := rd_more (V := bv xs) (T := 8 * xs.length) HM.out HR.out (show ((k : Nat) : Int) < M by omega) HN.out (by omega)
        have hsz := hb5.size
        have hne : w.heap.size + 1 ≠ w5.heap.size := by have := HS.out.hA; omega
        have hne2 : w.heap.size ≠ w5.heap.size := by have := HS.out.hA; omega
        refine bodyPost_ret (v := .tuple #[.agg #[.slice a xs.length cap, .int .i64 (p : Int)], .int .i64 0, .int .i64 4]) (by simp [results, Try.results52, go_sem, s0, s1, t0, t1, r0, r1, hne, hne2]) rfl ⟨by rw [e1, e2, e3], ?_⟩
        exact bset2 ((bthen hnx hb5 hnx.size).alloc (by have := hb5.size; have := hnx.size; omega) _) _ _ _ _ _ _ (by omega) (by omega)
    · -- no code was met
      have hkM : k = M := by omega
      subst hkM
      have hfit : p + k ≤ 8 * xs.length := by
        rcases HE.out with h0 | h0
        · omega
        · exact h0
      obtain ⟨e1, e2, e3⟩ := rd_form (V := bv xs) (T := 8 * xs.length) HM.out HR.out rfl HN.out hfit
      have E1 : Hid _ := e1
      have E2 : Hid _ := e2
      have E3 : Hid _ := e3
      obtain ⟨r0, r1, s0, s1, t0, t1, a0, a1, b0, b1, c0, c1, d0, d1, hB, hA⟩ := HS.out
      clear hSt hOwn hW4 e1 e2 e3 hfit
      go_wp2
      refine bodyPost_ret (v := .tuple #[.agg #[.slice a xs.length cap, .int .i64 (p : Int)], .int .i64 0, .int .i64 2]) (by simp [results, Try.results52, go_sem, s0, s1, t0, t1, r0, r1]) rfl ⟨by rw [E1.out, E2.out, E3.out], ?_⟩
      exact bset2 hnx _ _ _ _ _ _ (by omega) (by omega)
end Go.Proofs.Ytolfnjlkcppplaa
/- Contracts of the document's same and Read. -/
namespace Go.Proofs.Ytolfnjlkcppplaa
open Go.RowKit Go.Maps
set_option linter.unusedVariables false
set_option linter.unusedSimpArgs false
set_option maxRecDepth 10000

theorem cd_pow {l : List Int} (hb : inB l = true) (ht : takenN l ≤ 65536) (s : Nat) (hs : s < l.length) (h0 : 0 < l.getD s 0) : cd l s < 2 ^ (l.getD s 0).toNat := by
  have h1 := cd_lt l s hs h0
  have hbs := inB_at hb s
  obtain ⟨n, hn⟩ : ∃ n : Nat, l.getD s 0 = n := ⟨_, (Int.toNat_of_nonneg (by omega)).symm⟩
  rw [hn] at h1 hbs h0 ⊢
  rw [Int.toNat_natCast] at h1 ⊢
  have mono : ∀ d, S l (n + 1) ≤ S l (n + 1 + d) := by
    intro d
    induction d with
    | zero => exact Nat.le_refl _
    | succ d ih => exact Nat.le_trans ih (Nat.le_add_right _ _)
  have h2 := mono (16 - n)
  rw [show n + 1 + (16 - n) = 17 by omega, S_taken l hb] at h2
  have e3 : S l (n + 1) = (F l n + l.count (n : Int)) * 2 ^ (16 - n) := by
    simp only [S]
    rw [if_neg (by omega), ← F_S l n (by omega), Nat.add_mul]
  have e4 : (2 : Nat) ^ n * 2 ^ (16 - n) = 65536 := by rw [← Nat.pow_add, show n + (16 - n) = 16 by omega]
  have h5 : (cd l s + 1) * 2 ^ (16 - n) ≤ 2 ^ n * 2 ^ (16 - n) := by
    refine Nat.le_trans (Nat.mul_le_mul_right _ h1) ?_
    omega
  have := Nat.le_of_mul_le_mul_right h5 (Nat.two_pow_pos _)
  omega
theorem cd_pow_right {l : List Int} (hr : rightL l = true) (s : Nat) (hs : s < l.length) (h0 : 0 < l.getD s 0) : cd l s < 2 ^ (l.getD s 0).toNat := by
  obtain ⟨_, _, hb, h1, h2⟩ := right_parts hr
  refine cd_pow hb ?_ s hs h0
  rcases Decidable.em (usedN l = 1) with h | h
  · rw [h1 h]; decide
  · rw [(h2 h).1]; exact Nat.le_refl _

theorem hv_step (V p C n k : Nat) (hk : k < n) (h : hv V p k = C / 2 ^ (n - k)) : (hv V p (k + 1) = C / 2 ^ (n - (k + 1))) ↔ V / 2 ^ (p + k) % 2 = C / 2 ^ (n - 1 - k) % 2 := by
  rw [num_step C n k hk, ← h]
  show 2 * hv V p k + V / 2 ^ (p + k) % 2 = _ ↔ _
  omega
theorem hv_not (V p C n k : Nat) (hk : k ≤ n) (h : hv V p k ≠ C / 2 ^ (n - k)) : hv V p n ≠ C := by
  intro e
  refine h ?_
  rw [← e]
  have := hv_up V p k (n - k)
  rw [show k + (n - k) = n by omega] at this
  exact this.symm

set_option maxHeartbeats 2000000 in
theorem same_far (v1 v2 : Option Addr) (T n c1 c2 p : Nat) (w : World) (hT : T ≤ 1000000) (hn : n ≤ 64) (hp : p ≤ 1000000) (h : T < p + n) :
    Calls Try.prog 66 #[.slice v1 T c1, .int .i64 p, .slice v2 n c2] w fun e w' => e = .returned (.bool false) ∧ w' = w := by
  go_enter Try.func66, Try.ntmps66
  go_wp2
  go_ret
  exact ⟨rfl, rfl⟩
set_option maxHeartbeats 2000000 in
theorem same_near (b1 o1 b2 o2 T n c1 c2 p V C : Nat) (w : World) (hT : T ≤ 1000000) (hn : n ≤ 64) (hp : p + n ≤ T) (hb1 : b1 < w.heap.size) (hb2 : b2 < w.heap.size)
    (hc1 : ∀ i, i < T → w.cell? ⟨b1, o1 + i, none⟩ = some (.int .i64 (bitAt V i))) (hc2 : ∀ i, i < n → w.cell? ⟨b2, o2 + i, none⟩ = some (.int .i64 ((C / 2 ^ (n - 1 - i) % 2 : Nat) : Int))) (hC : C < 2 ^ n) :
    Calls Try.prog 66 #[.slice (some ⟨b1, o1, none⟩) T c1, .int .i64 p, .slice (some ⟨b2, o2, none⟩) n c2] w fun e w' => e = .returned (.bool (decide (hv V p n = C))) ∧ Below w.heap.size w w' := by
  have HC : Hid _ := hC
  clear hC
  go_enter Try.func66, Try.ntmps66
  go_wp2
  go_loopw [7] (fun i wr => ∃ k : Nat, k ≤ n ∧ i = .int .i64 k ∧ Hid (hv V p k = C / 2 ^ (n - k)) ∧ Below w.heap.size w wr) (fun i _ => n - (intOf i).toNat)
  case atStart => exact ⟨0, by omega, rfl, by unfold Hid; rw [Nat.sub_zero, Nat.div_eq_of_lt HC.out]; rfl, Below.refl _ _⟩
  case round =>
    obtain ⟨k, hk, rfl, HV, hnx⟩ := hrel
    by_cases hlt : k < n
    · have g1 := (hnx.cell (p := ⟨b1, o1 + (p + k), none⟩) hb1).trans (hc1 (p + k) (by omega))
      have g2 := (hnx.cell (p := ⟨b2, o2 + k, none⟩) hb2).trans (hc2 k hlt)
      have hst : Hid _ := hv_step V p C n k hlt HV.out
      unfold bitAt at g1
      have i1 : (0 : Int) ≤ (p : Int) + k := by omega
      have i2 : (p : Int) + k < T := by omega
      have i3 : IntKind.i64.wrap ((p : Int) + k) = (p : Int) + k := wraps_i64 _ (by omega) (by omega)
      have i4 : ((p : Int) + k).toNat = p + k := by omega
      by_cases he : V / 2 ^ (p + k) % 2 = C / 2 ^ (n - 1 - k) % 2
      · have hnew : Hid _ := hst.out.2 he
        rw [he] at g1
        generalize C / 2 ^ (n - 1 - k) % 2 = z at g1 g2
        clear hc1 hc2 hst HC he
        go_wp2
        go_quiet (fail)
        go_wp2
        exact ⟨⟨k + 1, by omega, by go_num, hnew, drewN_belowb _ hnx _⟩, by simp [intOf]; omega⟩
      · have hno : Hid (hv V p n ≠ C) := hv_not V p C n (k + 1) (by omega) (fun e => he (hst.out.1 e))
        generalize V / 2 ^ (p + k) % 2 = y at g1 he
        generalize C / 2 ^ (n - 1 - k) % 2 = z at g2 he
        have hne : (((y : Int)) == ((z : Int))) = false := by simp; omega
        clear hc1 hc2 hst HC
        go_wp2
        go_quiet (fail)
        go_wp2
        go_ret
        exact ⟨ret_bool (decide_eq_false hno.out).symm, drewN_belowb _ hnx _⟩
    · have : k = n := by omega
      subst this
      have hyes : Hid (hv V p k = C) := by unfold Hid; rw [HV.out, Nat.sub_self, Nat.pow_zero, Nat.div_one]
      clear hlt hc1 hc2 HC HV
      go_wp2
      go_ret
      exact ⟨ret_bool (decide_eq_true hyes.out).symm, hnx⟩
theorem same4_any (v1 v2 : Value) (T n p V C : Nat) (w : World) (h1 : Rw .i64 w v1 (bl V T)) (h2 : Rw .i64 w v2 (sp C n)) (hT : T ≤ 1000000) (hn : n ≤ 64) (hp : p < T) (hC : C < 2 ^ n) (hn0 : 1 ≤ n) :
    Calls Try.prog 66 #[v1, .int .i64 p, v2] w fun e w' => e = .returned (.bool (decide (p + n ≤ T ∧ hv V p n = C))) ∧ Below w.heap.size w w' := by
  obtain ⟨a1, c1, rfl, ha1⟩ := h1
  obtain ⟨a2, c2, rfl, ha2⟩ := h2
  rw [bl_length, sp_len]
  by_cases hfit : p + n ≤ T
  · obtain ⟨b1, o1, rfl, hb1, hc1⟩ := ha1.resolve_left (by intro h; have := bl_length V T; rw [h] at this; simp at this; omega)
    obtain ⟨b2, o2, rfl, hb2, hc2⟩ := ha2.resolve_left (by intro h; have := sp_len C n; rw [h] at this; simp at this; omega)
    refine (same_near b1 o1 b2 o2 T n c1 c2 p V C w hT hn hfit hb1 hb2 (fun i hi => ?_) (fun i hi => ?_) hC).mono ?_
    · rw [hc1 i (by rw [bl_length]; exact hi), bl_getD V T i hi]
    · rw [hc2 i (by rw [sp_len]; exact hi), sp_at C n i hi]
    · rintro e w' ⟨rfl, hb⟩
      exact ⟨by simp [hfit], hb⟩
  · refine (same_far a1 a2 T n c1 c2 p w hT hn (by omega) (by omega)).mono ?_
    rintro e w' ⟨rfl, rfl⟩
    exact ⟨by simp [hfit], Below.refl _ _⟩

/-- How many bits were read. -/
def rdK (l : List Int) (V T p : Nat) : Int := match findS l V T p with | some s => l.getD s 0 | none => 0

set_option maxHeartbeats 1000000 in
theorem rread_arg (v vl : Value) (l : List Int) (p : Int) (w : World) (hvl : Rw .i64 w vl l) (h : rightL l = false ∨ p < 0) :
    Calls Try.prog 56 #[v, .int .i64 p, vl] w fun e w' => e = .returned (.tuple #[.int .i64 0, .int .i64 0, .int .i64 1]) ∧ w' = w := by
  cases hr : rightL l with
  | false =>
    clear h
    go_enter Try.func56, Try.ntmps56
    go_wp2_with (go_at_call 45; refine (rright4_any vl l _ hvl).mono ?_; rintro e w' ⟨rfl, rfl⟩; rw [hr])
    refine bodyPost_ret (v := .tuple #[.int .i64 0, .int .i64 0, .int .i64 1]) (by simp [results, Try.results56, go_sem]) rfl ⟨rfl, rfl⟩
  | true =>
    have hp : p < 0 := by
      rcases h with h | h
      · rw [hr] at h; cases h
      · exact h
    clear h
    go_enter Try.func56, Try.ntmps56
    go_wp2_with (go_at_call 45; refine (rright4_any vl l _ hvl).mono ?_; rintro e w' ⟨rfl, rfl⟩; rw [hr])
    refine bodyPost_ret (v := .tuple #[.int .i64 0, .int .i64 0, .int .i64 1]) (by simp [results, Try.results56, go_sem]) rfl ⟨rfl, rfl⟩

/-- None of the first k symbols lies at the place. -/
def NoneTo (l : List Int) (V T p k : Nat) : Prop := ∀ s, s < k → ¬ Mt l V T p s
theorem NoneTo.next {l : List Int} {V T p k : Nat} (h : NoneTo l V T p k) (hn : ¬ Mt l V T p k) : NoneTo l V T p (k + 1) := fun s hs hm => by
  rcases Nat.lt_or_ge s k with h1 | h1
  · exact h s h1 hm
  · have : s = k := by omega
    subst this; exact hn hm

set_option maxHeartbeats 4000000 in
set_option maxRecDepth 10000 in
theorem rread_ok (v vl : Value) (xs l : List Int) (p : Nat) (w : World) (hx : Byts xs) (hlx : xs.length ≤ 100000) (hvx : Rw .u8 w v xs) (hvl : Rw .i64 w vl l) (hr : rightL l = true) :
    Calls Try.prog 56 #[v, .int .i64 p, vl] w fun e w' => e = .returned (.tuple #[.int .i64 (rdS l (bv xs) (8 * xs.length) p), .int .i64 (rdK l (bv xs) (8 * xs.length) p), .int .i64 (rdE l (bv xs) (8 * xs.length) p)]) ∧ Below w.heap.size w w' := by
  have hl1 := (right_parts hr).1
  have hl2 := (right_parts hr).2.1
  have hvl0 := hvl
  obtain ⟨al, cl, rfl, hal⟩ := hvl
  obtain ⟨bl_, ol, rfl, hbl, hcl⟩ := hal.resolve_left (by intro h0; subst h0; simp at hl1)
  clear hal
  by_cases hpT : 8 * xs.length ≤ p
  · obtain ⟨e1, e2, e3⟩ := rd_none (l := l) (V := bv xs) (T := 8 * xs.length) (p := p) (by rintro s ⟨s1, s2, s3, s4⟩; omega)
    have e4 : rdK l (bv xs) (8 * xs.length) p = 0 := by
      unfold rdK; rw [find_none (by rintro s ⟨s1, s2, s3, s4⟩; omega)]
    rw [if_neg (by omega)] at e3
    have E1 : Hid _ := e1
    have E3 : Hid _ := e3
    have E4 : Hid _ := e4
    clear e1 e2 e3 e4
    go_enter Try.func56, Try.ntmps56
    go_wp2_with (first | (go_at_call 45; refine (rright4_any _ l _ hvl0).mono ?_; rintro e w' ⟨rfl, rfl⟩; rw [hr]) | (go_at_call 38; refine (bits_any _ xs _ hvx hx hlx).mono ?_; rintro e w1 ⟨v1, rfl, hown, hb1⟩; obtain ⟨a1, c1, rfl, _⟩ := owns_open hown))
    refine bodyPost_ret (v := .tuple #[.int .i64 0, .int .i64 0, .int .i64 4]) (by simp [results, Try.results56, go_sem]) rfl ⟨by rw [E1.out, E3.out, E4.out], hb1⟩
  · have HR : Hid _ := hr
    go_enter Try.func56, Try.ntmps56
    go_wp2_with (first | (go_at_call 45; refine (rright4_any _ l _ hvl0).mono ?_; rintro e w' ⟨rfl, rfl⟩; rw [hr]) | (go_at_call 38; refine (bits_any _ xs _ hvx hx hlx).mono ?_; rintro e w1 ⟨v1, rfl, hown, hb1⟩; obtain ⟨a1, c1, rfl, _⟩ := owns_open hown))
    have hrow := Rw.of_owns hown
    clear hown
    go_loopw [10, 11] (fun o i wr => ∃ k u : Nat, k ≤ l.length ∧ i = .int .i64 k ∧ o = .int .i64 u ∧ u ≤ 64 ∧ Hid (u = usedN (l.take k)) ∧ Hid (NoneTo l (bv xs) (8 * xs.length) p k) ∧ Below w1.heap.size w1 wr) (fun _ i _ => l.length - (intOf i).toNat)
    case atStart => exact ⟨0, 0, by omega, rfl, rfl, by omega, by unfold Hid; rfl, fun s hs => by omega, Below.refl _ _⟩
    case round =>
      obtain ⟨k, u, hk, rfl, rfl, hu, HU, HN, hnx⟩ := hrel
      have hBw := bthen hb1 hnx hb1.size
      by_cases hlt : k < l.length
      · have g := (hBw.cell (p := ⟨bl_, ol + k, none⟩) hbl).trans (hcl k hlt)
        have hut := used_take l k hlt
        rw [← HU.out] at hut
        by_cases h0 : 0 < l.getD k 0
        · rw [if_pos h0] at hut
          have HU2 : Hid _ := hut.symm
          have hu2 : u + 1 ≤ 64 := by
            rw [HU2.out]
            exact Nat.le_trans (used_le _) (by rw [List.length_take]; omega)
          have hcd := code_any _ l k wr (hvl0.below hBw) HR.out hlt h0
          have hpw := cd_pow_right HR.out k hlt h0
          have hb16 := inB_at (right_parts HR.out).2.2.1 k
          have hMt : Hid (Mt l (bv xs) (8 * xs.length) p k ↔ (p + (l.getD k 0).toNat ≤ 8 * xs.length ∧ hv (bv xs) p (l.getD k 0).toNat = cd l k)) := ⟨fun h => ⟨h.2.2.1, h.2.2.2⟩, fun h => ⟨hlt, h0, h.1, h.2⟩⟩
          have hrdk : Hid (Mt l (bv xs) (8 * xs.length) p k → rdK l (bv xs) (8 * xs.length) p = l.getD k 0 ∧ rdS l (bv xs) (8 * xs.length) p = k ∧ rdE l (bv xs) (8 * xs.length) p = 0) := fun h => by
            obtain ⟨e1, e2, e3⟩ := rd_some h
            refine ⟨?_, e1, e3⟩
            unfold rdK; rw [find_some h]
          generalize l.getD k 0 = x at g h0 hcd hpw hb16 hMt hrdk
          obtain ⟨n, rfl⟩ := Int.eq_ofNat_of_zero_le hb16.1
          rw [Int.toNat_natCast] at hcd hpw hMt
          generalize cd l k = C at hcd hpw hMt
          clear hut HU
          have hpw2 : Hid _ := hpw
          clear hpw
          by_cases hm : p + n ≤ 8 * xs.length ∧ hv (bv xs) p n = C
          · have hd : decide (p + n ≤ 8 * xs.length ∧ hv (bv xs) p n = C) = true := decide_eq_true hm
            obtain ⟨e1, e2, e3⟩ := hrdk.out (hMt.out.2 hm)
            have E1 : Hid _ := e1
            have E2 : Hid _ := e2
            have E3 : Hid _ := e3
            clear e1 e2 e3 hrdk hMt hm
            go_wp2_with (first | (go_at_call 29; refine hcd.mono ?_; rintro e w2 ⟨v2, rfl, hown2, hb2⟩; obtain ⟨a2, c2, rfl, _⟩ := owns_open hown2) | (go_at_call 66; refine (same4_any _ _ (8 * xs.length) n p (bv xs) C w2 ((hrow.below hnx).below hb2) (Rw.of_owns hown2) (by omega) (by omega) (by omega) hpw2.out (by omega)).mono ?_; rintro e w3 ⟨rfl, hb3⟩; rw [hd]))
            refine bodyPost_ret (v := .tuple #[.int .i64 k, .int .i64 n, .int .i64 0]) (by simp [results, Try.results56, go_sem]) rfl ⟨by rw [E1.out, E2.out, E3.out], ?_⟩
            exact bthen (bthen hBw hb2 hBw.size) hb3 (Nat.le_trans hBw.size hb2.size)
          · have hd : decide (p + n ≤ 8 * xs.length ∧ hv (bv xs) p n = C) = false := decide_eq_false hm
            have HN2 : Hid _ := HN.out.next (fun h => hm (hMt.out.1 h))
            clear hrdk hMt hm
            go_wp2_with (first | (go_at_call 29; refine hcd.mono ?_; rintro e w2 ⟨v2, rfl, hown2, hb2⟩; obtain ⟨a2, c2, rfl, _⟩ := owns_open hown2) | (go_at_call 66; refine (same4_any _ _ (8 * xs.length) n p (bv xs) C w2 ((hrow.below hnx).below hb2) (Rw.of_owns hown2) (by omega) (by omega) (by omega) hpw2.out (by omega)).mono ?_; rintro e w3 ⟨rfl, hb3⟩; rw [hd]))
            exact ⟨⟨k + 1, u + 1, by omega, by go_num, by go_num, hu2, HU2, HN2, bthen (bthen hnx hb2 hnx.size) hb3 (Nat.le_trans hnx.size hb2.size)⟩, by simp [intOf]; omega⟩
        · rw [if_neg h0] at hut
          have HU2 : Hid _ := hut.symm
          have HN2 : Hid _ := HN.out.next (fun h => h0 h.2.1)
          generalize l.getD k 0 = x at g h0
          clear hut HU
          go_wp2
          exact ⟨⟨k + 1, u, by omega, by go_num, rfl, hu, HU2, HN2, hnx⟩, by simp [intOf]; omega⟩
      · have : k = l.length := by omega
        subst this
        have hnone : ∀ s, ¬ Mt l (bv xs) (8 * xs.length) p s := fun s h => HN.out s h.1 h
        obtain ⟨e1, e2, e3⟩ := rd_none hnone
        have e4 : rdK l (bv xs) (8 * xs.length) p = 0 := by unfold rdK; rw [find_none hnone]
        have hul : u = usedN l := by rw [HU.out, List.take_length]
        rw [← hul] at e3
        have E1 : Hid _ := e1
        have E4 : Hid _ := e4
        by_cases h1 : u = 1
        · rw [if_pos ⟨h1, by omega⟩] at e3
          have E3 : Hid _ := e3
          subst h1
          clear e1 e2 e3 e4 hlt HN HU hul
          go_wp2
          refine bodyPost_ret (v := .tuple #[.int .i64 0, .int .i64 0, .int .i64 2]) (by simp [results, Try.results56, go_sem]) rfl ⟨by rw [E1.out, E4.out, E3.out], hBw⟩
        · rw [if_neg (by omega)] at e3
          have E3 : Hid _ := e3
          clear e1 e2 e3 e4 hlt HN HU hul
          go_wp2
          refine bodyPost_ret (v := .tuple #[.int .i64 0, .int .i64 0, .int .i64 4]) (by simp [results, Try.results56, go_sem]) rfl ⟨by rw [E1.out, E4.out, E3.out], hBw⟩
end Go.Proofs.Ytolfnjlkcppplaa
/- Contracts of asItWas and Write: a code's bits behind a writer's, from the highest one on. -/
namespace Go.Proofs.Ytolfnjlkcppplaa
open Go.RowKit Go.Maps
set_option linter.unusedVariables false
set_option linter.unusedSimpArgs false
set_option maxRecDepth 10000

theorem right_byL (X N : Nat) (hX : X < 2 ^ N) (hN : N ≤ 32000) : rightB (byL X ((N + 7) / 8)) N = true ∧ bv (byL X ((N + 7) / 8)) = X := by
  have h : bv (byL X ((N + 7) / 8)) = X := by
    rw [byL_bv, Nat.mod_eq_of_lt]
    refine Nat.lt_of_lt_of_le hX ?_
    rw [pow256]
    exact Nat.pow_le_pow_right (by decide) (by omega)
  exact ⟨by rw [rightB_nat, decide_eq_true_eq, h, byL_length]; exact ⟨hN, rfl, hX⟩, h⟩
theorem good_byL (X N : Nat) (hX : X < 2 ^ N) (hN : N ≤ 32000) : goodX (byL X ((N + 7) / 8)) N = byL X ((N + 7) / 8) ∧ goodN (byL X ((N + 7) / 8)) N = N := by
  unfold goodX goodN
  rw [if_pos (right_byL X N hX hN).1, if_pos (right_byL X N hX hN).1]
  exact ⟨rfl, rfl⟩
/-- A writer that stands for the number X of N bits. -/
def Stands (xs : List Int) (M : Int) (X N : Nat) : Prop := goodX xs M = byL X ((N + 7) / 8) ∧ goodN xs M = N ∧ X < 2 ^ N ∧ N ≤ 32000
theorem Stands.mk {xs : List Int} (hx : Byts xs) (M : Int) : ∃ X N : Nat, Stands xs M X N := by
  obtain ⟨N, h1, h2, h3, h4⟩ := goodN_nat xs M
  refine ⟨bv (goodX xs M), N, ?_, h1, h4, h2⟩
  have := byL_eq (good_byts hx M) rfl
  rw [h3] at this
  exact this
theorem Stands.put_ok {xs : List Int} {M : Int} {X N V : Nat} (h : Stands xs M X N) (hV : V < 2) (hN : N + 1 ≤ 32000) :
    putE xs M V 1 = 0 ∧ putN xs M V 1 = ((N + 1 : Nat) : Int) ∧ putX xs M V 1 = byL (X + V * 2 ^ N) ((N + 1 + 7) / 8) ∧ Stands (byL (X + V * 2 ^ N) ((N + 1 + 7) / 8)) ((N + 1 : Nat) : Int) (X + V * 2 ^ N) (N + 1) := by
  obtain ⟨h1, h2, h3, h4⟩ := h
  have hX : X + V * 2 ^ N < 2 ^ (N + 1) := by
    rw [Nat.pow_succ]
    have : V = 0 ∨ V = 1 := by omega
    rcases this with rfl | rfl <;> omega
  have e : putE xs M V 1 = 0 := by
    unfold putE
    rw [if_pos ⟨by decide, by decide, by simpa using hV⟩, h2, if_pos (by omega)]
  refine ⟨e, ?_, ?_, ?_⟩
  · unfold putN; rw [if_pos e, h2]; omega
  · unfold putX; rw [if_pos e, h1, h2, (right_byL X N h3 h4).2]; rfl
  · obtain ⟨g1, g2⟩ := good_byL (X + V * 2 ^ N) (N + 1) hX hN
    exact ⟨g1, g2, hX, hN⟩
theorem Stands.put_full {xs : List Int} {M : Int} {X N V : Nat} (h : Stands xs M X N) (hV : V < 2) (hN : 32000 < N + 1) : putE xs M V 1 = 3 := by
  obtain ⟨h1, h2, h3, h4⟩ := h
  unfold putE
  rw [if_pos ⟨by decide, by decide, by simpa using hV⟩, h2, if_neg (by omega)]

/-- The first j bits of a code of n bits, from the highest one on, as a number whose lowest bit is the first. -/
def rvb (C n : Nat) : Nat → Nat
  | 0 => 0
  | j + 1 => rvb C n j + C / 2 ^ (n - 1 - j) % 2 * 2 ^ j
theorem rvb_lt (C n j : Nat) : rvb C n j < 2 ^ j := by
  induction j with
  | zero => simp [rvb]
  | succ j ih =>
    simp only [rvb, Nat.pow_succ]
    have : C / 2 ^ (n - 1 - j) % 2 = 0 ∨ C / 2 ^ (n - 1 - j) % 2 = 1 := by omega
    rcases this with h | h <;> rw [h] <;> omega
theorem bit_low (X R N i : Nat) (h : i < N) : (X + R * 2 ^ N) / 2 ^ i % 2 = X / 2 ^ i % 2 := by
  obtain ⟨d, rfl⟩ : ∃ d, N = i + 1 + d := ⟨N - i - 1, by omega⟩
  rw [Nat.add_assoc, Nat.pow_add, ← Nat.mul_assoc, Nat.mul_comm R, Nat.mul_assoc, Nat.add_mul_div_left _ _ (Nat.two_pow_pos _), Nat.add_comm 1 d, Nat.pow_succ, ← Nat.mul_assoc]
  omega
theorem bit_high (X R N i : Nat) (hX : X < 2 ^ N) : (X + R * 2 ^ N) / 2 ^ (N + i) % 2 = R / 2 ^ i % 2 := by
  rw [Nat.pow_add, ← Nat.div_div_eq_div_mul, Nat.add_mul_div_right _ _ (Nat.two_pow_pos _), Nat.div_eq_of_lt hX, Nat.zero_add]
theorem rvb_bit (C n j i : Nat) (hi : i < j) : rvb C n j / 2 ^ i % 2 = C / 2 ^ (n - 1 - i) % 2 := by
  induction j with
  | zero => omega
  | succ j ih =>
    simp only [rvb]
    rcases Nat.lt_or_ge i j with h | h
    · rw [bit_low _ _ _ _ h, ih h]
    · have : i = j := by omega
      subst this
      have := bit_high (rvb C n i) (C / 2 ^ (n - 1 - i) % 2) i 0 (rvb_lt C n i)
      rw [Nat.add_zero] at this
      rw [this]; simp
theorem hv_same (V V' p n : Nat) (h : ∀ i, i < n → V / 2 ^ (p + i) % 2 = V' / 2 ^ (p + i) % 2) : hv V p n = hv V' p n := by
  induction n with
  | zero => rfl
  | succ n ih =>
    simp only [hv]
    rw [ih (fun i hi => h i (by omega)), h n (by omega)]
/-- The bits that were written are the code's. -/
theorem hv_written (X C n N : Nat) (hX : X < 2 ^ N) (hC : C < 2 ^ n) : hv (X + rvb C n n * 2 ^ N) N n = C := by
  have key : ∀ k, k ≤ n → hv (X + rvb C n n * 2 ^ N) N k = C / 2 ^ (n - k) := by
    intro k
    induction k with
    | zero => intro _; rw [Nat.sub_zero, Nat.div_eq_of_lt hC]; rfl
    | succ k ih =>
      intro hk
      rw [hv_step _ _ C n k (by omega) (ih (by omega)), bit_high _ _ _ _ hX, rvb_bit C n n k (by omega)]
  have := key n (Nat.le_refl _)
  rwa [Nat.sub_self, Nat.pow_zero, Nat.div_one] at this
theorem and1_u32 (x : Int) (h0 : 0 ≤ x) (h1 : x < 2 ^ 32) : bits .and .u32 x 1 = x % 2 := by
  have := bits_mask .u32 32 (by decide) wraps_u32 1 (by decide) x h0 h1
  simpa using this

theorem put0 {xs : List Int} (hx : Byts xs) (M : Int) : putE xs M 0 0 = 0 ∧ putN xs M 0 0 = goodN xs M ∧ putX xs M 0 0 = goodX xs M := by
  obtain ⟨N, h1, h2, h3, h4⟩ := goodN_nat xs M
  have e : putE xs M 0 0 = 0 := by
    unfold putE
    rw [if_pos ⟨by decide, by decide, by decide⟩, h1, if_pos (by omega)]
  refine ⟨e, ?_, ?_⟩
  · unfold putN; rw [if_pos e]; omega
  · unfold putX
    rw [if_pos e, h1]
    have := byL_eq (good_byts hx M) rfl
    rw [h3] at this
    simpa using this.symm
/-- No bits are put: the writer that stands there. -/
theorem put0_any (a : Option Addr) (cap : Nat) (xs : List Int) (M : Int) (w : World) (hv : Rw .u8 w (.slice a xs.length cap) xs) (hx : Byts xs) :
    Calls Try.prog 59 #[.agg #[.slice a xs.length cap, .int .i64 M], .int .u64 0, .int .i64 0] w fun e w' => ∃ x c ys G, Hid (ys = goodX xs M) ∧ Hid (G = goodN xs M) ∧ e = .returned (.tuple #[.agg #[.slice x ys.length c, .int .i64 G], .int .i64 0]) ∧ RwF w.heap.size .u8 w' (.slice x ys.length c) ys ∧ Below w.heap.size w w' := by
  obtain ⟨e1, e2, e3⟩ := put0 hx M
  refine (put_any _ xs M 0 0 w hv hx (by decide)).mono ?_
  rintro e w' ⟨v', rfl, hr, hb⟩
  rw [e3] at hr
  obtain ⟨x, c, rfl, h⟩ := hr
  exact ⟨x, c, _, _, rfl, rfl, by rw [e1, e2], ⟨x, c, rfl, h⟩, hb⟩

set_option maxHeartbeats 1000000 in
theorem asitwas_any (a : Option Addr) (cap : Nat) (xs : List Int) (M : Int) (w : World) (hv : Rw .u8 w (.slice a xs.length cap) xs) (hx : Byts xs) :
    Calls Try.prog 69 #[.agg #[.slice a xs.length cap, .int .i64 M]] w fun e w' => ∃ x c ys G, Hid (ys = goodX xs M) ∧ Hid (G = goodN xs M) ∧ e = .returned (.agg #[.slice x ys.length c, .int .i64 G]) ∧ RwF w.heap.size .u8 w' (.slice x ys.length c) ys ∧ Below w.heap.size w w' := by
  have hW := below2 w (.cells #[.slice a xs.length cap, .int .i64 M] 55) (.cells #[.slice none 0 0, .int .i64 0] 55)
  have hv1 := hv.below hW
  go_enter Try.func69, Try.ntmps69
  go_wp2_with (go_at_call 59; refine (put0_any _ _ xs M _ hv1 hx).mono ?_; rintro e w1 ⟨x, c, ys, G, HY, HG, rfl, hrow, hb1⟩; obtain ⟨k0, k1, k2, k3, f0, f1, f2, f3, hz⟩ := two_boxes hb1)
  have hz1 := hb1.size
  simp at hz1
  have hBw := bthen hW hb1 hW.size
  have hB5 := bset2 hBw (w.heap.size + 1) (w.heap.size + 1) 0 1 (.slice x ys.length c) (.int .i64 G) (by omega) (by omega)
  have m2 : ((w1.setCell ⟨w.heap.size + 1, 0, none⟩ (.slice x ys.length c)).setCell ⟨w.heap.size + 1, 1, none⟩ (.int .i64 G)).cell? ⟨w.heap.size + 1, 0, none⟩ = some (.slice x ys.length c) := by simp [go_sem, k2, k3]
  have m3 : ((w1.setCell ⟨w.heap.size + 1, 0, none⟩ (.slice x ys.length c)).setCell ⟨w.heap.size + 1, 1, none⟩ (.int .i64 G)).cell? ⟨w.heap.size + 1, 1, none⟩ = some (.int .i64 G) := by simp [go_sem, k2, k3]
  have hr5 := (hrow.set (w.heap.size + 1) 0 (.slice x ys.length c) (by simp)).set (w.heap.size + 1) 1 (.int .i64 G) (by simp)
  have hz5 : w.heap.size + 1 < ((w1.setCell ⟨w.heap.size + 1, 0, none⟩ (.slice x ys.length c)).setCell ⟨w.heap.size + 1, 1, none⟩ (.int .i64 G)).heap.size := by simp [World.setCell]; omega
  generalize ((w1.setCell ⟨w.heap.size + 1, 0, none⟩ (.slice x ys.length c)).setCell ⟨w.heap.size + 1, 1, none⟩ (.int .i64 G)) = W5 at *
  have q := (bcell (below1 W5 (.cells #[.slice x ys.length c, .int .i64 G] 55))).1
  have n2 := (q _ _ hz5).trans m2
  have n3 := (q _ _ hz5).trans m3
  refine bodyPost_ret (v := .agg #[.slice x ys.length c, .int .i64 G]) (by simp [results, Try.results69, go_sem, n2, n3]) rfl ⟨x, c, ys, G, HY, HG, rfl, ?_, ?_⟩
  · exact (hr5.below (below1 W5 _)).mono (by simp; omega)
  · exact hB5.alloc hB5.size _
end Go.Proofs.Ytolfnjlkcppplaa
/- The contract of Write. -/
namespace Go.Proofs.Ytolfnjlkcppplaa
open Go.RowKit Go.Maps
set_option linter.unusedVariables false
set_option linter.unusedSimpArgs false
set_option maxRecDepth 10000

/-- The symbol is one that is used. -/
def usedS (l : List Int) (s : Int) : Bool := decide (0 ≤ s ∧ s < l.length ∧ 0 < l.getD s.toNat 0)

set_option maxHeartbeats 2000000 in
theorem write_no (a : Option Addr) (cap : Nat) (vl : Value) (xs l : List Int) (M s : Int) (w : World) (hv : Rw .u8 w (.slice a xs.length cap) xs) (hx : Byts xs) (hvl : Rw .i64 w vl l) (hr : rightL l = false) :
    Calls Try.prog 60 #[.agg #[.slice a xs.length cap, .int .i64 M], vl, .int .i64 s] w fun e w' => ∃ x c ys G, Hid (ys = goodX xs M) ∧ Hid (G = goodN xs M) ∧ e = .returned (.tuple #[.agg #[.slice x ys.length c, .int .i64 G], .int .i64 1]) ∧ RwF w.heap.size .u8 w' (.slice x ys.length c) ys ∧ Below w.heap.size w w' := by
  have hW := below2 w (.cells #[.slice a xs.length cap, .int .i64 M] 55) (.cells #[.slice none 0 0, .int .i64 0] 55)
  have hv1 := hv.below hW
  have hvl1 := hvl.below hW
  go_enter Try.func60, Try.ntmps60
  go_wp2_with (first | (go_at_call 62; refine (codes_no _ l _ hvl1 hr).mono ?_; rintro e w' ⟨rfl, rfl⟩) | (go_at_call 69; refine (asitwas_any _ _ xs M _ hv1 hx).mono ?_; rintro e w2 ⟨x, c, ys, G, HY, HG, rfl, hrow, hb2⟩; obtain ⟨k0, k1, k2, k3, f0, f1, f2, f3, hz⟩ := two_boxes hb2))
  have hz2 := hb2.size
  simp at hz2
  refine bodyPost_ret (v := .tuple #[.agg #[.slice x ys.length c, .int .i64 G], .int .i64 1]) (by simp [results, Try.results60, go_sem, k2, k3, f2, f3]) rfl ⟨x, c, ys, G, HY, HG, rfl, ?_, ?_⟩
  · exact ((hrow.set _ _ _ (by simp)).set _ _ _ (by simp)).mono (by simp; omega)
  · exact bset2 (bthen hW hb2 hW.size) _ _ _ _ _ _ (by omega) (by omega)

set_option maxHeartbeats 4000000 in
theorem write_unused (a : Option Addr) (cap : Nat) (vl : Value) (xs l : List Int) (M s : Int) (w : World) (hv : Rw .u8 w (.slice a xs.length cap) xs) (hx : Byts xs) (hvl : Rw .i64 w vl l) (hr : rightL l = true) (hs : usedS l s = false) :
    Calls Try.prog 60 #[.agg #[.slice a xs.length cap, .int .i64 M], vl, .int .i64 s] w fun e w' => ∃ x c ys G, Hid (ys = goodX xs M) ∧ Hid (G = goodN xs M) ∧ e = .returned (.tuple #[.agg #[.slice x ys.length c, .int .i64 G], .int .i64 1]) ∧ RwF w.heap.size .u8 w' (.slice x ys.length c) ys ∧ Below w.heap.size w w' := by
  have hl1 := (right_parts hr).1
  have hW := below2 w (.cells #[.slice a xs.length cap, .int .i64 M] 55) (.cells #[.slice none 0 0, .int .i64 0] 55)
  have hvl1 := hvl.below hW
  obtain ⟨al, cl, rfl, hal⟩ := hvl
  obtain ⟨bl_, ol, rfl, hbl, hcl⟩ := hal.resolve_left (by intro h0; subst h0; simp at hl1)
  clear hal
  unfold usedS at hs
  rw [decide_eq_false_iff_not] at hs
  have ways : s < 0 ∨ (0 ≤ s ∧ l.length ≤ s) ∨ (∃ n : Nat, s = n ∧ n < l.length ∧ l.getD n 0 = 0) := by
    by_cases h1 : s < 0
    · exact .inl h1
    · by_cases h2 : (l.length : Int) ≤ s
      · exact .inr (.inl ⟨by omega, h2⟩)
      · refine .inr (.inr ⟨s.toNat, by omega, by omega, ?_⟩)
        have := inB_at (right_parts hr).2.2.1 s.toNat
        omega
  clear hs
  rcases ways with h1 | ⟨h1, h2⟩ | ⟨n, rfl, hn, h0⟩
  · go_enter Try.func60, Try.ntmps60
    go_wp2_with (first | (go_at_call 62; refine (codes_ok _ l _ hvl1 hr).mono ?_; rintro e w1 ⟨gc, rfl, hrow1, hb1⟩; obtain ⟨k0, k1, k2, k3, f0, f1, f2, f3, hz⟩ := two_boxes hb1; have hBw := bthen hW hb1 hW.size) | (go_at_call 69; refine (asitwas_any _ _ xs M _ (hv.below hBw) hx).mono ?_; rintro e w2 ⟨x, c, ys, G, HY, HG, rfl, hrow, hb2⟩; obtain ⟨hc2, hf2⟩ := bcell hb2; have m2 := (hc2 _ _ (by omega)).trans k2; have m3 := (hc2 _ _ (by omega)).trans k3; have n2 := (hf2 _ _ (by omega)).trans f2; have n3 := (hf2 _ _ (by omega)).trans f3))
    have hz2 := hb2.size
    refine bodyPost_ret (v := .tuple #[.agg #[.slice x ys.length c, .int .i64 G], .int .i64 1]) (by simp [results, Try.results60, go_sem, m2, m3, n2, n3]) rfl ⟨x, c, ys, G, HY, HG, rfl, ?_, ?_⟩
    · exact ((hrow.set _ _ _ (by omega)).set _ _ _ (by omega)).mono (by omega)
    · exact bset2 (bthen hBw hb2 hBw.size) _ _ _ _ _ _ (by omega) (by omega)
  · go_enter Try.func60, Try.ntmps60
    go_wp2_with (first | (go_at_call 62; refine (codes_ok _ l _ hvl1 hr).mono ?_; rintro e w1 ⟨gc, rfl, hrow1, hb1⟩; obtain ⟨k0, k1, k2, k3, f0, f1, f2, f3, hz⟩ := two_boxes hb1; have hBw := bthen hW hb1 hW.size) | (go_at_call 69; refine (asitwas_any _ _ xs M _ (hv.below hBw) hx).mono ?_; rintro e w2 ⟨x, c, ys, G, HY, HG, rfl, hrow, hb2⟩; obtain ⟨hc2, hf2⟩ := bcell hb2; have m2 := (hc2 _ _ (by omega)).trans k2; have m3 := (hc2 _ _ (by omega)).trans k3; have n2 := (hf2 _ _ (by omega)).trans f2; have n3 := (hf2 _ _ (by omega)).trans f3))
    have hz2 := hb2.size
    refine bodyPost_ret (v := .tuple #[.agg #[.slice x ys.length c, .int .i64 G], .int .i64 1]) (by simp [results, Try.results60, go_sem, m2, m3, n2, n3]) rfl ⟨x, c, ys, G, HY, HG, rfl, ?_, ?_⟩
    · exact ((hrow.set _ _ _ (by omega)).set _ _ _ (by omega)).mono (by omega)
    · exact bset2 (bthen hBw hb2 hBw.size) _ _ _ _ _ _ (by omega) (by omega)
  · have g0 := hcl n hn
    rw [h0] at g0
    clear h0 hcl
    go_enter Try.func60, Try.ntmps60
    go_wp2_with (first | (go_at_call 62; refine (codes_ok _ l _ hvl1 hr).mono ?_; rintro e w1 ⟨gc, rfl, hrow1, hb1⟩; obtain ⟨k0, k1, k2, k3, f0, f1, f2, f3, hz⟩ := two_boxes hb1; have hBw := bthen hW hb1 hW.size; have g1 := (hBw.cell (p := ⟨bl_, ol + n, none⟩) hbl).trans g0) | (go_at_call 69; refine (asitwas_any _ _ xs M _ (hv.below hBw) hx).mono ?_; rintro e w2 ⟨x, c, ys, G, HY, HG, rfl, hrow, hb2⟩; obtain ⟨hc2, hf2⟩ := bcell hb2; have m2 := (hc2 _ _ (by omega)).trans k2; have m3 := (hc2 _ _ (by omega)).trans k3; have n2 := (hf2 _ _ (by omega)).trans f2; have n3 := (hf2 _ _ (by omega)).trans f3))
    have hz2 := hb2.size
    refine bodyPost_ret (v := .tuple #[.agg #[.slice x ys.length c, .int .i64 G], .int .i64 1]) (by simp [results, Try.results60, go_sem, m2, m3, n2, n3]) rfl ⟨x, c, ys, G, HY, HG, rfl, ?_, ?_⟩
    · exact ((hrow.set _ _ _ (by omega)).set _ _ _ (by omega)).mono (by omega)
    · exact bset2 (bthen hBw hb2 hBw.size) _ _ _ _ _ _ (by omega) (by omega)
end Go.Proofs.Ytolfnjlkcppplaa
/- The contract of Write, at a symbol that is used. -/
namespace Go.Proofs.Ytolfnjlkcppplaa
open Go.RowKit Go.Maps
set_option linter.unusedVariables false
set_option linter.unusedSimpArgs false
set_option maxRecDepth 10000

/-- What Write's loop has: the writer that was handed in, its answer's cells, the writer that it makes, the symbol's code. -/
structure WrSt (B A gc s : Nat) (sv : Value) (M : Int) (ov : Value) (M' : Int) (C : Nat) (wr : World) : Prop where
  r0 : wr.cell? ⟨B, 0, none⟩ = some sv
  r1 : wr.cell? ⟨B, 1, none⟩ = some (.int .i64 M)
  s0 : wr.cell? ⟨B + 1, 0, none⟩ = some (.slice none 0 0)
  s1 : wr.cell? ⟨B + 1, 1, none⟩ = some (.int .i64 0)
  t0 : wr.frozen? ⟨B + 1, 0, none⟩ = false
  t1 : wr.frozen? ⟨B + 1, 1, none⟩ = false
  a0 : wr.cell? ⟨A, 0, none⟩ = some ov
  a1 : wr.cell? ⟨A, 1, none⟩ = some (.int .i64 M')
  b0 : wr.frozen? ⟨A, 0, none⟩ = false
  b1 : wr.frozen? ⟨A, 1, none⟩ = false
  c0 : wr.cell? ⟨gc, s, none⟩ = some (.int .u32 (C : Int))
  hg : gc < A
  hB : B + 1 < A
  hA : A < wr.heap.size
theorem WrSt.below {B A gc s : Nat} {sv : Value} {M : Int} {ov : Value} {M' : Int} {C : Nat} {wr w1 : World} (H : WrSt B A gc s sv M ov M' C wr) (hb : Below wr.heap.size wr w1) : WrSt B A gc s sv M ov M' C w1 := by
  obtain ⟨hc, hf⟩ := bcell hb
  have h0 := H.hg
  have h1 := H.hB
  have h2 := H.hA
  have h3 := hb.size
  exact ⟨(hc _ _ (by omega)).trans H.r0, (hc _ _ (by omega)).trans H.r1, (hc _ _ (by omega)).trans H.s0, (hc _ _ (by omega)).trans H.s1, (hf _ _ (by omega)).trans H.t0, (hf _ _ (by omega)).trans H.t1, (hc _ _ (by omega)).trans H.a0, (hc _ _ (by omega)).trans H.a1, (hf _ _ (by omega)).trans H.b0, (hf _ _ (by omega)).trans H.b1, (hc _ _ (by omega)).trans H.c0, h0, h1, by omega⟩
theorem WrSt.step {B A gc s : Nat} {sv : Value} {M : Int} {ov : Value} {M' : Int} {C : Nat} {wr : World} (H : WrSt B A gc s sv M ov M' C wr) (hne : gc ≠ B) (hne1 : gc ≠ B + 1) (ov' : Value) (M2 : Int) :
    WrSt B A gc s sv M ov' M2 C ((wr.setCell ⟨A, 0, none⟩ ov').setCell ⟨A, 1, none⟩ (.int .i64 M2)) := by
  obtain ⟨r0, r1, s0, s1, t0, t1, a0, a1, b0, b1, c0, hg, hB, hA⟩ := H
  have n1 : B ≠ A := by omega
  have n3 : B + 1 ≠ A := by omega
  have n5 : gc ≠ A := by omega
  refine ⟨?_, ?_, ?_, ?_, ?_, ?_, ?_, ?_, ?_, ?_, ?_, hg, hB, ?_⟩
  all_goals simp [go_sem, r0, r1, s0, s1, t0, t1, a0, a1, b0, b1, c0, n1, n3, n5, frozen_set, hA]
theorem Rw.set2 {k : IntKind} {w0 w : World} {x : Option Addr} {cap : Nat} {xs : List Int} {A : Nat} (h : RwF w0.heap.size k w (.slice x xs.length cap) xs) (hA : A < w0.heap.size) (u v : Value) : Rw k ((w.setCell ⟨A, 0, none⟩ u).setCell ⟨A, 1, none⟩ v) (.slice x xs.length cap) xs :=
  ((h.set A 0 u hA).set A 1 v hA).rw
theorem RwF.set2 {k : IntKind} {B : Nat} {w0 w : World} {x : Option Addr} {cap : Nat} {xs : List Int} {A : Nat} (h : RwF w0.heap.size k w (.slice x xs.length cap) xs) (hA : A < w0.heap.size) (hB : B ≤ w0.heap.size) (u v : Value) : RwF B k ((w.setCell ⟨A, 0, none⟩ u).setCell ⟨A, 1, none⟩ v) (.slice x xs.length cap) xs :=
  ((h.set A 0 u hA).set A 1 v hA).mono hB
theorem put1_ok (x : Option Addr) (c : Nat) (cur : List Int) (M' : Int) (V X N : Nat) (w : World) (hv : Rw .u8 w (.slice x cur.length c) cur) (hx : Byts cur) (hS : Stands cur M' X N) (hV : V < 2) (hN : N + 1 ≤ 32000) :
    Calls Try.prog 59 #[.agg #[.slice x cur.length c, .int .i64 M'], .int .u64 V, .int .i64 1] w fun e w' => ∃ x' c' ys, Hid (ys = byL (X + V * 2 ^ N) ((N + 1 + 7) / 8)) ∧ e = .returned (.tuple #[.agg #[.slice x' ys.length c', .int .i64 ((N + 1 : Nat) : Int)], .int .i64 0]) ∧ RwF w.heap.size .u8 w' (.slice x' ys.length c') ys ∧ Below w.heap.size w w' := by
  obtain ⟨e1, e2, e3, e4⟩ := hS.put_ok hV hN
  refine (put_any _ cur M' V 1 w hv hx (by omega)).mono ?_
  rintro e w' ⟨v', rfl, hr, hb⟩
  rw [e3] at hr
  obtain ⟨x', c', rfl, h⟩ := hr
  exact ⟨x', c', _, rfl, by rw [e1, e2], ⟨x', c', rfl, h⟩, hb⟩
theorem put1_full (x : Option Addr) (c : Nat) (cur : List Int) (M' : Int) (V X N : Nat) (w : World) (hv : Rw .u8 w (.slice x cur.length c) cur) (hx : Byts cur) (hS : Stands cur M' X N) (hV : V < 2) (hN : 32000 < N + 1) :
    Calls Try.prog 59 #[.agg #[.slice x cur.length c, .int .i64 M'], .int .u64 V, .int .i64 1] w fun e w' => ∃ x' n' c' M2, e = .returned (.tuple #[.agg #[.slice x' n' c', .int .i64 M2], .int .i64 3]) ∧ Below w.heap.size w w' := by
  have e1 := hS.put_full hV hN
  refine (put_any _ cur M' V 1 w hv hx (by omega)).mono ?_
  rintro e w' ⟨v', rfl, hr, hb⟩
  obtain ⟨x', c', rfl, h⟩ := hr
  exact ⟨x', _, c', _, by rw [e1], hb⟩
theorem held3h {W y : World} {A gc s : Nat} {ov cv : Value} {M' : Int} (hb : Below W.heap.size W y) (hA : A < W.heap.size) (hg : gc < W.heap.size) (a0 : W.cell? ⟨A, 0, none⟩ = some ov) (a1 : W.cell? ⟨A, 1, none⟩ = some (.int .i64 M')) (c0 : W.cell? ⟨gc, s, none⟩ = some cv) :
    y.cell? ⟨A, 0, none⟩ = some ov ∧ y.cell? ⟨A, 1, none⟩ = some (.int .i64 M') ∧ y.cell? ⟨gc, s, none⟩ = some cv :=
  ⟨((bcell hb).1 _ _ hA).trans a0, ((bcell hb).1 _ _ hA).trans a1, ((bcell hb).1 _ _ hg).trans c0⟩
/-- What has been written. -/
structure Wrote (X N C n j : Nat) (cur : List Int) (M' : Int) : Prop where
  st : Stands cur M' (X + rvb C n j * 2 ^ N) (N + j)
  by_ : Byts cur
  is : 1 ≤ j → cur = byL (X + rvb C n j * 2 ^ N) ((N + j + 7) / 8) ∧ M' = ((N + j : Nat) : Int)
theorem Wrote.next {X N C n j V : Nat} {cur : List Int} {M' : Int} (h : Wrote X N C n j cur M') (hV : V = C / 2 ^ (n - 1 - j) % 2) (hN : N + j + 1 ≤ 32000) : Wrote X N C n (j + 1) (byL (X + rvb C n j * 2 ^ N + V * 2 ^ (N + j)) ((N + j + 1 + 7) / 8)) ((N + j + 1 : Nat) : Int) := by
  have e : X + rvb C n (j + 1) * 2 ^ N = X + rvb C n j * 2 ^ N + V * 2 ^ (N + j) := by
    rw [hV]
    simp only [rvb]
    rw [Nat.add_mul, Nat.pow_add, Nat.mul_assoc (C / 2 ^ (n - 1 - j) % 2), Nat.mul_comm (2 ^ j), Nat.add_assoc]
  obtain ⟨_, _, _, e4⟩ := h.st.put_ok (V := V) (by omega) hN
  refine ⟨by rw [e]; exact e4, byL_byts _ _, fun _ => ⟨by rw [e]; rfl, rfl⟩⟩

set_option maxHeartbeats 4000000 in
set_option maxRecDepth 10000 in
theorem write_used (a : Option Addr) (cap : Nat) (vl : Value) (xs l : List Int) (M : Int) (s X N : Nat) (w : World) (hv : Rw .u8 w (.slice a xs.length cap) xs) (hx : Byts xs) (hl : xs.length ≤ 100000) (hvl : Rw .i64 w vl l) (hr : rightL l = true) (hs : s < l.length) (h0 : 0 < l.getD s 0) (hst : Stands xs M X N) :
    Calls Try.prog 60 #[.agg #[.slice a xs.length cap, .int .i64 M], vl, .int .i64 s] w fun e w' =>
      (N + (l.getD s 0).toNat ≤ 32000 ∧ ∃ x c ys, ys = byL (X + rvb (cd l s) (l.getD s 0).toNat (l.getD s 0).toNat * 2 ^ N) ((N + (l.getD s 0).toNat + 7) / 8) ∧ e = .returned (.tuple #[.agg #[.slice x ys.length c, .int .i64 ((N + (l.getD s 0).toNat : Nat) : Int)], .int .i64 0]) ∧ RwF w.heap.size .u8 w' (.slice x ys.length c) ys ∧ Below w.heap.size w w') ∨
      (32000 < N + (l.getD s 0).toNat ∧ ∃ x c ys G, Hid (ys = goodX xs M) ∧ Hid (G = goodN xs M) ∧ e = .returned (.tuple #[.agg #[.slice x ys.length c, .int .i64 G], .int .i64 3]) ∧ RwF w.heap.size .u8 w' (.slice x ys.length c) ys ∧ Below w.heap.size w w') := by
  have hl1 := (right_parts hr).1
  have hb16 := inB_at (right_parts hr).2.2.1 s
  have hW := below2 w (.cells #[.slice a xs.length cap, .int .i64 M] 55) (.cells #[.slice none 0 0, .int .i64 0] 55)
  have hvl1 := hvl.below hW
  have hsmall := cd_small l (right_parts hr).2.1 (right_parts hr).2.2.1 s
  obtain ⟨al, cl, rfl, hal⟩ := hvl
  obtain ⟨bl_, ol, rfl, hbl, hcl⟩ := hal.resolve_left (by intro h0; subst h0; simp at hl1)
  have g0 := hcl s hs
  have hcod : (codesL l).getD s 0 = (cd l s : Int) := by rw [codes_at l s hs]; unfold codeAt; rw [if_pos h0]
  have HST : Hid (Stands xs M X N) := hst
  clear hal hcl hst
  generalize l.getD s 0 = z at h0 hb16 g0 ⊢
  obtain ⟨n, rfl⟩ := Int.eq_ofNat_of_zero_le hb16.1
  rw [Int.toNat_natCast]
  generalize cd l s = C at hcod hsmall ⊢
  have HC : Hid _ := hcod
  clear hcod
  have hn0 : (((n : Int)) == 0) = false := by simp; omega
  have i1 : (0 : Int) ≤ (s : Int) := by omega
  have i2 : (s : Int) < (l.length : Int) := by omega
  have i3 : IntKind.i64.wrap (s : Int) = s := wraps_i64 _ (by omega) (by have := (right_parts hr).2.1; omega)
  go_enter Try.func60, Try.ntmps60
  go_wp2_with (first | (go_at_call 62; refine (codes_ok _ l _ hvl1 hr).mono ?_; rintro e w1 ⟨gc, rfl, hrow1, hb1⟩; obtain ⟨k0, k1, k2, k3, f0, f1, f2, f3, hz⟩ := two_boxes hb1; have hBw := bthen hW hb1 hW.size; have g1 := (hBw.cell (p := ⟨bl_, ol + s, none⟩) hbl).trans g0; have g2 := ((bcell (below1 w1 (.cells #[.slice a xs.length cap, .int .i64 M] 55))).1 bl_ (ol + s) (Nat.lt_of_lt_of_le hbl hBw.size)).trans g1) | go_in)
  simp only [show decide (l.length ≤ s) = false from decide_eq_false (by omega), Bool.or_false]
  obtain ⟨ga, gcap, gv, grow⟩ := hrow1
  obtain ⟨gb, goff, ge, gB, gsz, gcell⟩ := grow.resolve_left (by intro h; have := codes_len l; rw [h] at this; simp at this; omega)
  simp only [Value.slice.injEq] at gv
  obtain ⟨rfl, ge1, ge2⟩ := gv
  clear ge1 ge2
  simp only [Option.some.injEq, Addr.mk.injEq] at ge
  obtain ⟨rfl, rfl, _⟩ := ge
  have gcod := gcell s (by rw [codes_len]; exact hs)
  rw [HC.out, Nat.zero_add] at gcod
  simp at gB
  have q := (bcell (below1 w1 (.cells #[.slice a xs.length cap, .int .i64 M] 55))).1
  have q' := (bcell (below1 w1 (.cells #[.slice a xs.length cap, .int .i64 M] 55))).2
  have hSt : WrSt w.heap.size w1.heap.size gc s (.slice a xs.length cap) M (.slice a xs.length cap) M C (w1.alloc (.cells #[.slice a xs.length cap, .int .i64 M] 55)) := by
    refine ⟨(q _ _ (by omega)).trans k0, (q _ _ (by omega)).trans k1, (q _ _ (by omega)).trans k2, (q _ _ (by omega)).trans k3, (q' _ _ (by omega)).trans f2, (q' _ _ (by omega)).trans f3, ?_, ?_, ?_, ?_, (q _ _ gsz).trans gcod, gsz, hz, by simp⟩ <;> simp [go_sem]
  have hBW := hBw.alloc hBw.size (.cells #[.slice a xs.length cap, .int .i64 M] 55)
  have hrow := hv.below hBW
  have hW0 : Wrote X N C n 0 xs M := ⟨by simpa [rvb] using HST.out, hx, fun h => by omega⟩
  have HW0 : Hid _ := hW0
  have hrw0 := hv
  clear g0 g1 g2 q q' k0 k1 k2 k3 f0 f1 f2 f3 gcell gcod grow hW0 hvl1 hb1 hBw hW
  generalize (w1.alloc (.cells #[.slice a xs.length cap, .int .i64 M] 55)) = W4 at *
  go_loopw [11, 9] (fun lf er wr => ∃ L j : Nat, ∃ cur : List Int, ∃ M' : Int, ∃ x : Option Addr, ∃ c : Nat, L ≤ n ∧ Hid (L + j = n) ∧ lf = .int .i64 L ∧ er = .int .i64 0 ∧ Hid (Wrote X N C n j cur M') ∧ Hid (Rw .u8 wr (.slice x cur.length c) cur) ∧ Hid (1 ≤ j → RwF w1.heap.size .u8 wr (.slice x cur.length c) cur) ∧ Hid (WrSt w.heap.size w1.heap.size gc s (.slice a xs.length cap) M (.slice x cur.length c) M' C wr) ∧ Below w.heap.size w wr) (fun lf _ _ => (intOf lf).toNat)
  case atStart => exact ⟨n, 0, xs, M, a, cap, by omega, by unfold Hid; rfl, rfl, rfl, HW0, hrow, fun h => by omega, hSt, hBW⟩
  case round =>
    obtain ⟨L, j, cur, M', x, c, hL, HL, rfl, rfl, HWr, HRw, HRF, HS, hnx⟩ := hrel
    clear hSt hrow hBW HW0
    by_cases hL0 : 0 < L
    · obtain ⟨Q, rfl⟩ : ∃ Q, L = Q + 1 := ⟨L - 1, by omega⟩
      rw [show ((Q + 1 : Nat) : Int) = (Q : Int) + 1 by omega]
      have hj : j = n - (Q + 1) := by have := HL.out; omega
      have hV : C / 2 ^ Q % 2 < 2 := Nat.mod_lt _ (by decide)
      have hVj : Hid (C / 2 ^ Q % 2 = C / 2 ^ (n - 1 - j) % 2) := by unfold Hid; rw [show n - 1 - j = Q by omega]
      have hand : bits .and .u32 ((C : Int) / 2 ^ Q) 1 = ((C / 2 ^ Q % 2 : Nat) : Int) := by
        rw [nat_shr, and1_u32 _ (Int.natCast_nonneg _) (by have : C / 2 ^ Q ≤ C := Nat.div_le_self _ _; omega)]
        simp
      generalize C / 2 ^ Q % 2 = V at hV hVj hand
      have hA := HS.out.hA
      have hg := HS.out.hg
      have a0 := HS.out.a0
      have a1 := HS.out.a1
      have c0 := HS.out.c0
      have i5 : IntKind.i64.wrap (Q : Int) = Q := wraps_i64 _ (by omega) (by omega)
      have i6 : (0 : Int) ≤ (Q : Int) := by omega
      have i4 : IntKind.u64.wrap (V : Int) = V := wraps_u64 _ (by omega) (by omega)
      by_cases hfit : N + j + 1 ≤ 32000
      · clear hj
        go_wp2
        go_cut [9] (fun er wz => ∃ x' c' ys, er = .int .i64 0 ∧ Hid (ys = byL (X + rvb C n j * 2 ^ N + V * 2 ^ (N + j)) ((N + j + 1 + 7) / 8)) ∧ RwF w1.heap.size .u8 wz (.slice x' ys.length c') ys ∧ WrSt w.heap.size w1.heap.size gc s (.slice a xs.length cap) M (.slice x' ys.length c') ((N : Int) + (j : Int) + 1) C wz ∧ Below w.heap.size w wz)
        case first =>
          go_region_with (go_at_call 59; refine (put1_ok x c cur M' V _ _ _ (HRw.out.below (Below.refl _ _).drew) HWr.out.by_ HWr.out.st hV hfit).mono ?_; rintro e y1 ⟨x', c', ys, HY, rfl, hrw1, hy1'⟩; have hy1 := drew_below hy1'; have z2 := ((bcell hy1).2 w1.heap.size 0 hA).trans HS.out.b0; have z3 := ((bcell hy1).2 w1.heap.size 1 hA).trans HS.out.b1; have z0 := ((bcell hy1).1 w1.heap.size 0 hA).trans a0; have z1 := ((bcell hy1).1 w1.heap.size 1 hA).trans a1)
          all_goals go_wp2
          all_goals go_meet
          all_goals exact ⟨x', c', ys, rfl, HY, RwF.set2 hrw1 hA (show w1.heap.size ≤ wr.heap.size by omega) _ _, (HS.out.below hy1).step (by omega) (by omega) _ _, bset2 (bthen hnx hy1 hnx.size) _ _ _ _ _ _ (by omega) (by omega)⟩
        case rest =>
          obtain ⟨x', c', ys, rfl, HY, hrw2, HS2, hnx2⟩ := hcut
          have hW2 : Wrote X N C n (j + 1) ys ((N + j + 1 : Nat) : Int) := by rw [HY.out]; exact HWr.out.next hVj.out hfit
          have HW2 : Hid _ := hW2
          have HS3 : Hid (WrSt w.heap.size w1.heap.size gc s (.slice a xs.length cap) M (.slice x' ys.length c') ((N + j + 1 : Nat) : Int) C wc) := by
            have e : ((N + j + 1 : Nat) : Int) = (N : Int) + (j : Int) + 1 := by omega
            rw [e]; exact HS2
          clear hW2 HS2 HWr HRw HS a0 a1 c0
          go_wp2
          exact ⟨⟨Q, j + 1, ys, _, x', c', by omega, by have := HL.out; unfold Hid; omega, by go_num, rfl, HW2, hrw2.rw, fun _ => hrw2, HS3, hnx2⟩, by simp [intOf]⟩
      · -- there is no room
        clear hj
        go_wp2
        go_cut [9] (fun er wz => er = .int .i64 3 ∧ ∃ x' n' c' M2, WrSt w.heap.size w1.heap.size gc s (.slice a xs.length cap) M (.slice x' n' c') M2 C wz ∧ Below w.heap.size w wz)
        case first =>
          go_region_with (go_at_call 59; refine (put1_full x c cur M' V _ _ _ (HRw.out.below (Below.refl _ _).drew) HWr.out.by_ HWr.out.st hV (by omega)).mono ?_; rintro e y1 ⟨x', n', c', M2, rfl, hy1'⟩; have hy1 := drew_below hy1'; have z2 := ((bcell hy1).2 w1.heap.size 0 hA).trans HS.out.b0; have z3 := ((bcell hy1).2 w1.heap.size 1 hA).trans HS.out.b1; have z0 := ((bcell hy1).1 w1.heap.size 0 hA).trans a0; have z1 := ((bcell hy1).1 w1.heap.size 1 hA).trans a1)
          all_goals go_wp2
          all_goals go_meet
          all_goals exact ⟨rfl, x', n', c', M2, (HS.out.below hy1).step (by omega) (by omega) _ _, bset2 (bthen hnx hy1 hnx.size) _ _ _ _ _ _ (by omega) (by omega)⟩
        case rest =>
          obtain ⟨rfl, x', n', c', M2, HS2, hnx2⟩ := hcut
          have HS3 : Hid _ := HS2
          have r0 := HS2.r0
          have r1 := HS2.r1
          clear HS2 HWr HRw HS a0 a1 c0
          go_wp2_with (first | (go_at_call 69; refine (asitwas_any _ _ xs M _ (hrw0.below hnx2) hx).mono ?_; rintro e w5 ⟨xw, cw, yw, G, HYw, HG, rfl, hrow5, hb5⟩; clear r0 r1; obtain ⟨r0, r1, s0, s1, t0, t1, a0, a1, b0, b1, c0, hg5, hB5, hA5⟩ := HS3.out.below hb5) | go_in)
          have hz5 := hb5.size
          have hA3 := HS3.out.hA
          have hL2 := HL.out
          refine bodyPost_ret (v := .tuple #[.agg #[.slice xw yw.length cw, .int .i64 G], .int .i64 3]) (by simp [results, Try.results60, go_sem, s0, s1, t0, t1]) rfl (.inr ⟨by omega, xw, cw, yw, G, HYw, HG, rfl, ?_, ?_⟩)
          · exact ((hrow5.set _ _ _ (by omega)).set _ _ _ (by omega)).mono (by omega)
          · exact bset2 (bthen hnx2 hb5 hnx2.size) _ _ _ _ _ _ (by omega) (by omega)
    · have hL00 : L = 0 := by omega
      subst hL00
      have hjn : j = n := by have := HL.out; omega
      subst hjn
      have his := HWr.out.is (by omega)
      have hstN := HWr.out.st.2.2.2
      have HIS : Hid _ := his.1
      have hM : M' = ((N + j : Nat) : Int) := his.2
      subst hM
      have HN : Hid _ := hstN
      obtain ⟨r0, r1, s0, s1, t0, t1, a0, a1, b0, b1, c0, hg5, hB5, hA5⟩ := HS.out
      clear his hstN hL0 HWr HST
      go_wp2
      refine bodyPost_ret (v := .tuple #[.agg #[.slice x cur.length c, .int .i64 ((N : Int) + (j : Int))], .int .i64 0]) (by simp [results, Try.results60, go_sem, s0, s1, t0, t1]) rfl (.inl ⟨HN.out, x, c, cur, HIS.out, by simp, ?_, ?_⟩)
      · exact RwF.mono (RwF.set (RwF.set (HRF.out (by omega)) _ _ _ (by omega)) _ _ _ (by omega)) (by omega)
      · exact bset2 hnx _ _ _ _ _ _ (by omega) (by omega)
end Go.Proofs.Ytolfnjlkcppplaa
/- The document's two Sames; both Rights of posts. -/
namespace Go.Proofs.Ytolfnjlkcppplaa
open Go.RowKit
set_option linter.unusedVariables false
set_option linter.unusedSimpArgs false
set_option maxRecDepth 10000

set_option maxHeartbeats 2000000 in
theorem same_yes (v1 v2 : Value) (xs : List Int) (w : World) (h1 : Rw .i64 w v1 xs) (h2 : Rw .i64 w v2 xs) (hl : xs.length ≤ 100) : Calls Try.prog 39 #[v1, v2] w fun e w' => e = .returned (.bool true) ∧ Below w.heap.size w w' := by
  obtain ⟨a1, c1, rfl, ha1⟩ := h1
  obtain ⟨a2, c2, rfl, ha2⟩ := h2
  obtain ⟨n, hn⟩ : ∃ n, xs.length = n := ⟨_, rfl⟩
  rw [hn] at ha1 ha2 hl ⊢
  have hnil : 0 < n → xs ≠ [] := fun h e => by rw [e] at hn; simp at hn; omega
  clear hn
  go_enter Try.func39, Try.ntmps39
  go_wp2
  go_loopw [5] (fun i wr => ∃ k : Nat, k ≤ n ∧ i = .int .i64 k ∧ Below w.heap.size w wr) (fun i _ => n - (intOf i).toNat)
  case atStart => exact ⟨0, by omega, rfl, Below.refl _ _⟩
  case round =>
    obtain ⟨k, hk, rfl, hnx⟩ := hrel
    by_cases hlt : k < n
    · obtain ⟨b1, o1, rfl, hb1, hc1⟩ := ha1.resolve_left (hnil (by omega))
      obtain ⟨b2, o2, rfl, hb2, hc2⟩ := ha2.resolve_left (hnil (by omega))
      have g1 := (hnx.cell (p := ⟨b1, o1 + k, none⟩) hb1).trans (hc1 k hlt)
      have g2 := (hnx.cell (p := ⟨b2, o2 + k, none⟩) hb2).trans (hc2 k hlt)
      clear ha1 ha2 hc1 hc2 hnil
      generalize xs.getD k 0 = x at *
      have i1 : (0 : Int) ≤ (k : Int) := by omega
      have i2 : (k : Int) < (n : Int) := by omega
      have i3 : IntKind.i64.wrap (k : Int) = k := wraps_i64 _ (by omega) (by omega)
      go_wp2
      go_quiet (fail)
      go_wp2
      exact ⟨⟨k + 1, by omega, by go_num, drewN_below hnx _⟩, by simp [intOf]; omega⟩
    · clear ha1 ha2 hnil
      go_wp2
      go_ret
      exact ⟨rfl, hnx⟩
set_option maxHeartbeats 2000000 in
theorem same64_yes (v1 v2 : Value) (xs : List Int) (w : World) (h1 : Rw .i64 w v1 xs) (h2 : Rw .i64 w v2 xs) (hl : xs.length ≤ 100) : Calls Try.prog 40 #[v1, v2] w fun e w' => e = .returned (.bool true) ∧ Below w.heap.size w w' := by
  obtain ⟨a1, c1, rfl, ha1⟩ := h1
  obtain ⟨a2, c2, rfl, ha2⟩ := h2
  obtain ⟨n, hn⟩ : ∃ n, xs.length = n := ⟨_, rfl⟩
  rw [hn] at ha1 ha2 hl ⊢
  have hnil : 0 < n → xs ≠ [] := fun h e => by rw [e] at hn; simp at hn; omega
  clear hn
  go_enter Try.func40, Try.ntmps40
  go_wp2
  go_loopw [5] (fun i wr => ∃ k : Nat, k ≤ n ∧ i = .int .i64 k ∧ Below w.heap.size w wr) (fun i _ => n - (intOf i).toNat)
  case atStart => exact ⟨0, by omega, rfl, Below.refl _ _⟩
  case round =>
    obtain ⟨k, hk, rfl, hnx⟩ := hrel
    by_cases hlt : k < n
    · obtain ⟨b1, o1, rfl, hb1, hc1⟩ := ha1.resolve_left (hnil (by omega))
      obtain ⟨b2, o2, rfl, hb2, hc2⟩ := ha2.resolve_left (hnil (by omega))
      have g1 := (hnx.cell (p := ⟨b1, o1 + k, none⟩) hb1).trans (hc1 k hlt)
      have g2 := (hnx.cell (p := ⟨b2, o2 + k, none⟩) hb2).trans (hc2 k hlt)
      clear ha1 ha2 hc1 hc2 hnil
      generalize xs.getD k 0 = x at *
      have i1 : (0 : Int) ≤ (k : Int) := by omega
      have i2 : (k : Int) < (n : Int) := by omega
      have i3 : IntKind.i64.wrap (k : Int) = k := wraps_i64 _ (by omega) (by omega)
      go_wp2
      go_quiet (fail)
      go_wp2
      exact ⟨⟨k + 1, by omega, by go_num, drewN_below hnx _⟩, by simp [intOf]; omega⟩
    · clear ha1 ha2 hnil
      go_wp2
      go_ret
      exact ⟨rfl, hnx⟩
/-- All are gains. -/
def arB (x : List Int) : Bool := decide (∀ i, i < x.length → 0 ≤ x.getD i 0 ∧ x.getD i 0 ≤ 44)
theorem arB_bd {x : List Int} (h : arB x = true) : Bd 0 44 x := by unfold arB at h; rw [decide_eq_true_eq] at h; exact h
theorem arB_of {x : List Int} (h : Bd 0 44 x) : arB x = true := by unfold arB; rw [decide_eq_true_eq]; exact h
theorem arB_at {x : List Int} {i : Nat} (hi : i < x.length) (h : x.getD i 0 < 0 ∨ 44 < x.getD i 0) : arB x = false :=
  decide_eq_false fun hh => by have := hh i hi; omega
/-- These are posts. -/
def flOk (x : List Int) : Bool := decide (x.length = 6) && arB x
theorem flOk_parts {x : List Int} (h : flOk x = true) : x.length = 6 ∧ Bd 0 44 x := by
  unfold flOk at h
  rw [Bool.and_eq_true, decide_eq_true_eq] at h
  exact ⟨h.1, arB_bd h.2⟩
theorem flOk_of {x : List Int} (h : x.length = 6) (hb : Bd 0 44 x) : flOk x = true := by
  unfold flOk; rw [decide_eq_true h, arB_of hb]; rfl
theorem flOk_at {x : List Int} (h : flOk x = true) (j : Nat) : 0 ≤ x.getD j 0 ∧ x.getD j 0 ≤ 44 := by
  obtain ⟨hl, hb⟩ := flOk_parts h
  by_cases hj : j < x.length
  · exact hb j hj
  · rw [List.getD_eq_getElem?_getD, List.getElem?_eq_none (by omega)]; simp
set_option maxHeartbeats 1000000 in
theorem far_any (v : Value) (x : List Int) (w : World) (hv : Rw .i64 w v x) (hn : x.length ≤ 100) : Calls Try.prog 58 #[v] w fun e w' => e = .returned (.bool (arB x)) ∧ w' = w := by
  obtain ⟨a, cap, rfl, ha⟩ := hv
  obtain ⟨n, hxn⟩ : ∃ n, x.length = n := ⟨_, rfl⟩
  have HN : Hid (0 < n → x ≠ []) := fun h e => by rw [e] at hxn; simp at hxn; omega
  have HT : Hid (∀ h : (∀ i, i < n → 0 ≤ x.getD i 0 ∧ x.getD i 0 ≤ 44), arB x = true) := fun h => arB_of (by rw [← hxn] at h; exact h)
  have HF : Hid (∀ i, i < n → (x.getD i 0 < 0 ∨ 44 < x.getD i 0) → arB x = false) := fun i hi h => arB_at (by rw [hxn]; exact hi) h
  rw [hxn] at ha hn ⊢
  have HA := hid ha
  clear hxn ha
  have hn2 : (n : Int) ≤ 100 := by omega
  go_enter Try.func58, Try.ntmps58
  go_wp2
  go_loop [7] (fun i => ∃ j : Nat, j ≤ n ∧ i = .int .i64 j ∧ ∀ i, i < j → 0 ≤ x.getD i 0 ∧ x.getD i 0 ≤ 44) (fun i => n - (intOf i).toNat)
  case atStart => exact ⟨0, by omega, rfl, fun i hi => by omega⟩
  case round =>
    obtain ⟨j, hj, rfl, hall⟩ := hrel
    have HB := hid hall
    clear hall
    by_cases hl : j < n
    · obtain ⟨b, off, ea, hlt, hc⟩ := HA.out.resolve_left (HN.out (by omega))
      subst ea
      have g := hc j hl
      clear hc
      by_cases c1 : x.getD j 0 < 0
      · have HO := hid (HF.out j hl (.inl c1))
        generalize x.getD j 0 = u at *
        go_wp2
        go_ret
        exact ⟨ret_bool HO.out.symm, rfl⟩
      · by_cases c2 : 44 < x.getD j 0
        · have HO := hid (HF.out j hl (.inr c2))
          generalize x.getD j 0 = u at *
          go_wp2
          go_ret
          exact ⟨ret_bool HO.out.symm, rfl⟩
        · have HO : Hid (∀ i, i < j + 1 → 0 ≤ x.getD i 0 ∧ x.getD i 0 ≤ 44) := fun i hi => by
            by_cases e : i = j
            · subst e; omega
            · exact HB.out i (by omega)
          have c3 : 0 ≤ x.getD j 0 := by omega
          have c4 : x.getD j 0 ≤ 44 := by omega
          clear c1 c2
          generalize x.getD j 0 = u at g c3 c4
          go_wp2
          exact ⟨⟨j + 1, by omega, by go_num, HO.out⟩, by simp [intOf]; omega⟩
    · obtain rfl : j = n := by omega
      have HO := hid (HT.out HB.out)
      go_wp2
      go_ret
      exact ⟨ret_bool HO.out.symm, rfl⟩
theorem fright_any (a : Option Addr) (cap : Nat) (x : List Int) (w : World) (hv : Rw .i64 w (.slice a x.length cap) x) (hn : x.length ≤ 100) : Calls Try.prog 44 #[.slice a x.length cap] w fun e w' => e = .returned (.bool (flOk x)) ∧ w' = w := by
  have ha := fun w hv => far_any (.slice a x.length cap) x w hv hn
  by_cases h : x.length = 6
  · have HO : Hid (flOk x = arB x) := by unfold Hid flOk; rw [decide_eq_true h]; rfl
    rw [h] at hv ha ⊢
    generalize arB x = r at *
    cases r
    all_goals
      go_enter Try.func44, Try.ntmps44
      go_wp2_with (go_at_call 58; refine (ha _ hv).mono ?_; rintro e w9 ⟨rfl, h9⟩; have h9 := h9.symm; subst h9)
      go_ret
      exact ⟨ret_bool HO.out.symm, rfl⟩
  · have HO : Hid (flOk x = false) := by unfold Hid flOk; rw [decide_eq_false h]; rfl
    have e : ((x.length : Int) == 6) = false := by simpa using fun e => h (by omega)
    clear ha h hn hv
    generalize x.length = n at *
    go_enter Try.func44, Try.ntmps44
    go_wp2
    go_ret
    exact ⟨ret_bool HO.out.symm, rfl⟩
def preF (x : List Int) (k : Nat) : Bool := decide (x.length = 6) && (List.range k).all fun j => decide (0 ≤ x.getD j 0 ∧ x.getD j 0 ≤ 44)
theorem preF_succ (x : List Int) (k : Nat) : preF x (k + 1) = (preF x k && decide (0 ≤ x.getD k 0 ∧ x.getD k 0 ≤ 44)) := by
  unfold preF; rw [List.range_succ, List.all_append]; simp [Bool.and_assoc]
theorem preF_all (x : List Int) : preF x x.length = flOk x := by
  unfold preF flOk
  congr 1
  unfold arB
  rw [Bool.eq_iff_iff]
  simp
theorem rfright_any (a : Option Addr) (n cap : Nat) (x : List Int) (hn : n = x.length) (hl : x.length ≤ 9223372036854775807) (w : World) (hv : Rw .i64 w (.slice a n cap) x) : Calls Try.prog 46 #[.slice a n cap] w fun e w' => e = .returned (.bool (flOk x)) ∧ w' = w := by
  subst hn
  have he : ((x.length : Int) == 6) = preF x 0 := by
    unfold preF
    by_cases h : x.length = 6
    · rw [h]; rfl
    · rw [decide_eq_false h]; simp; omega
  have Hall : Hid (preF x x.length = flOk x) := preF_all x
  have hcell := fun i hi => hv.at i hi
  obtain ⟨n, hn⟩ : ∃ n, x.length = n := ⟨_, rfl⟩
  have hs := preF_succ x
  rw [hn] at he hl hcell Hall ⊢
  clear hv
  generalize preF x = pre at *
  generalize hP0 : pre 0 = p0 at he
  have HP0 := hid hP0
  clear hP0
  go_enter Try.func46, Try.ntmps46
  go_wp2
  go_loop [3, 4] (fun p i => ∃ k : Nat, k ≤ n ∧ i = .int .i64 (k : Nat) ∧ p = .bool (pre k)) (fun _ i => n - (intOf i).toNat)
  case atStart => exact ⟨0, by omega, rfl, by rw [HP0.out]⟩
  case round =>
    obtain ⟨k, hk, rfl, rfl⟩ := hrel
    by_cases hlt : k < n
    · obtain ⟨b, off, rfl, hb, hck⟩ := hcell k hlt
      have hsk := hs k
      clear hs hcell
      generalize x.getD k 0 = X at *
      have HQ : Hid (pre (k + 1) = (pre k && decide (0 ≤ X ∧ X ≤ 44))) := hsk
      clear hsk
      generalize pre k = r at *
      have i1 : (0 : Int) ≤ (k : Int) := by omega
      have i2 : (k : Int) < (n : Int) := by omega
      cases r
      · have HQ2 : Hid (pre (k + 1) = false) := HQ.out
        clear HQ
        go_wp2
        exact ⟨⟨k + 1, by omega, by go_num, by rw [HQ2.out]⟩, by simp [intOf]; omega⟩
      · by_cases h0 : X < 0
        · have HQ2 : Hid (pre (k + 1) = false) := by unfold Hid; rw [HQ.out, decide_eq_false (by omega)]; rfl
          clear HQ
          have h0' : decide (0 ≤ X) = false := decide_eq_false (by omega)
          go_wp2
          exact ⟨⟨k + 1, by omega, by go_num, by rw [HQ2.out]⟩, by simp [intOf]; omega⟩
        · have h0' : 0 ≤ X := by omega
          by_cases h1 : 44 < X
          · have HQ2 : Hid (pre (k + 1) = false) := by unfold Hid; rw [HQ.out, decide_eq_false (by omega)]; rfl
            clear HQ h0
            go_wp2
            exact ⟨⟨k + 1, by omega, by go_num, by rw [HQ2.out]; simp; omega⟩, by simp [intOf]; omega⟩
          · have h1' : X ≤ 44 := by omega
            have HQ2 : Hid (pre (k + 1) = true) := by unfold Hid; rw [HQ.out, decide_eq_true (by omega)]; rfl
            clear HQ h0 h1
            go_wp2
            exact ⟨⟨k + 1, by omega, by go_num, by rw [HQ2.out]⟩, by simp [intOf]; omega⟩
    · obtain rfl : k = n := by omega
      clear hs hcell hlt
      go_wp2
      go_ret
      exact ⟨ret_bool Hall.out, rfl⟩
end Go.Proofs.Ytolfnjlkcppplaa
/- Headers, their bits, and what is read of bytes: plain. Nothing of the program is imported. -/
namespace Go.Proofs.Ytolfnjlkcppplaa
open Go.RowKit
set_option linter.unusedVariables false
set_option linter.unusedSimpArgs false
set_option maxRecDepth 10000

/-- So many bits of a number, from a place on. -/
def fld (X p n : Nat) : Nat := X / 2 ^ p % 2 ^ n
theorem fld_lt (X p n : Nat) : fld X p n < 2 ^ n := Nat.mod_lt _ (Nat.two_pow_pos n)
theorem fld_low (A Y N p n : Nat) (h : p + n ≤ N) : fld (A + Y * 2 ^ N) p n = fld A p n := by
  unfold fld
  obtain ⟨d, rfl⟩ : ∃ d, N = p + (n + d) := ⟨N - p - n, by omega⟩
  rw [Nat.pow_add, show Y * (2 ^ p * 2 ^ (n + d)) = 2 ^ p * (Y * 2 ^ (n + d)) by rw [Nat.mul_left_comm], Nat.add_mul_div_left _ _ (Nat.two_pow_pos p), Nat.pow_add,
    show Y * (2 ^ n * 2 ^ d) = 2 ^ n * (Y * 2 ^ d) by rw [Nat.mul_left_comm], Nat.add_mul_mod_self_left]
theorem fld_at (A Y N p n : Nat) (h : A < 2 ^ N) : fld (A + Y * 2 ^ N) (N + p) n = fld Y p n := by
  unfold fld
  rw [Nat.pow_add, ← Nat.div_div_eq_div_mul, Nat.mul_comm Y, Nat.add_mul_div_left _ _ (Nat.two_pow_pos N), Nat.div_eq_of_lt h, Nat.zero_add]
theorem fld_all (Y n : Nat) (h : Y < 2 ^ n) : fld Y 0 n = Y := by
  unfold fld
  rw [Nat.pow_zero, Nat.div_one, Nat.mod_eq_of_lt h]
theorem fld_add (X p m n : Nat) : fld X p (m + n) = fld X p m + fld X (p + m) n * 2 ^ m := by
  unfold fld
  rw [Nat.pow_add 2 m n, Nat.mod_mul, Nat.div_div_eq_div_mul, ← Nat.pow_add, Nat.mul_comm (2 ^ m)]
theorem mod_fld (X N n : Nat) : X % 2 ^ (N + n) = X % 2 ^ N + fld X N n * 2 ^ N := by
  have := fld_add X 0 N n
  unfold fld at this
  rw [Nat.pow_zero, Nat.div_one, Nat.zero_add] at this
  exact this
theorem mod_whole (X N n : Nat) (h : X < 2 ^ (N + n)) (h0 : fld X N n = 0) : X = X % 2 ^ N := by
  have := mod_fld X N n
  rw [Nat.mod_eq_of_lt h, h0, Nat.zero_mul, Nat.add_zero] at this
  exact this
theorem joined_lt (X V N n : Nat) (hX : X < 2 ^ N) (hV : V < 2 ^ n) : X + V * 2 ^ N < 2 ^ (N + n) := by
  have h1 : V * 2 ^ N + 2 ^ N ≤ 2 ^ n * 2 ^ N := by
    rw [← Nat.succ_mul]; exact Nat.mul_le_mul_right _ hV
  rw [Nat.pow_add, Nat.mul_comm (2 ^ N)]
  omega

theorem pow_up (a b : Nat) (h : a ≤ b) (X : Nat) (hX : X < 2 ^ a) : X < 2 ^ b := Nat.lt_of_lt_of_le hX (Nat.pow_le_pow_right (by omega) h)
theorem bv_len_lt {xs : List Int} (hx : Byts xs) (m : Nat) (h : 8 * xs.length ≤ m) : bv xs < 2 ^ m := by
  have := bv_lt hx
  rw [pow256] at this
  exact pow_up _ _ h _ this

/-- All numbers have 5 bits. -/
def Five (l : List Int) : Prop := ∀ k, 0 ≤ l.getD k 0 ∧ l.getD k 0 < 32
/-- The number that a book's first numbers make, 5 bits each. -/
def vhBk (l : List Int) : Nat → Nat
  | 0 => 0
  | k + 1 => vhBk l k + (l.getD k 0).toNat * 2 ^ (5 * k)
theorem vhBk_lt {l : List Int} (h : Five l) (k : Nat) : vhBk l k < 2 ^ (5 * k) := by
  induction k with
  | zero => simp [vhBk]
  | succ k ih =>
    have := h k
    exact joined_lt _ _ _ 5 ih (by omega)
theorem vhBk_at {l : List Int} (h : Five l) (n k : Nat) (hk : k < n) : fld (vhBk l n) (5 * k) 5 = (l.getD k 0).toNat := by
  induction n with
  | zero => omega
  | succ n ih =>
    have h5 := h n
    rcases Nat.lt_or_ge k n with h1 | h1
    · show fld (vhBk l n + _ * 2 ^ (5 * n)) _ _ = _
      rw [fld_low _ _ _ _ _ (by omega)]
      exact ih h1
    · have e : k = n := by omega
      subst e
      show fld (vhBk l k + _ * 2 ^ (5 * k)) _ _ = _
      have := fld_at (vhBk l k) (l.getD k 0).toNat (5 * k) 0 5 (vhBk_lt h k)
      rw [Nat.add_zero] at this
      rw [this, fld_all _ _ (by omega)]
theorem vhBk_tab (V p n k : Nat) (hk : k ≤ n) : vhBk (tab n fun s => ((fld V (p + 5 * s) 5 : Nat) : Int)) k = fld V p (5 * k) := by
  induction k with
  | zero => simp [vhBk, fld, Nat.mod_one]
  | succ k ih =>
    show vhBk _ k + _ * 2 ^ (5 * k) = _
    rw [ih (by omega), tab_at _ _ _ (by omega), show 5 * (k + 1) = 5 * k + 5 by omega, fld_add]
    simp

/-- A header's number. -/
def hV (c q : Int) (F R : List Int) : Nat := 22099 + (c - 1).toNat * 2 ^ 16 + q.toNat * 2 ^ 17 + vhBk F 45 * 2 ^ 21 + vhBk R 16 * 2 ^ 246
/-- Which headers are right. -/
def vhRight (c q : Int) (F R : List Int) : Bool := decide (1 ≤ c ∧ c ≤ 2 ∧ 0 ≤ q ∧ q ≤ 12 ∧ F.length = 45 ∧ R.length = 16 ∧ rightL F = true ∧ rightL R = true ∧ 0 < R.getD 15 0)
theorem vhRight_parts {c q : Int} {F R : List Int} (h : vhRight c q F R = true) : 1 ≤ c ∧ c ≤ 2 ∧ 0 ≤ q ∧ q ≤ 12 ∧ F.length = 45 ∧ R.length = 16 ∧ rightL F = true ∧ rightL R = true ∧ 0 < R.getD 15 0 := of_decide_eq_true h
theorem five_of_right {l : List Int} (h : rightL l = true) : Five l := fun k => by
  have := inB_at (right_parts h).2.2.1 k
  omega
structure HvB (c q : Int) (F R : List Int) : Prop where
  c0 : (c - 1).toNat < 2 ^ 1
  q0 : q.toNat < 2 ^ 4
  f : Five F
  r : Five R
theorem hvb {c q : Int} {F R : List Int} (h : vhRight c q F R = true) : HvB c q F R := by
  obtain ⟨h1, h2, h3, h4, h5, h6, h7, h8, h9⟩ := vhRight_parts h
  exact ⟨by omega, by omega, five_of_right h7, five_of_right h8⟩
theorem hv_lt1 {c q : Int} {F R : List Int} (h : HvB c q F R) : 22099 + (c - 1).toNat * 2 ^ 16 < 2 ^ 17 := joined_lt 22099 _ 16 1 (by decide) h.c0
theorem hv_lt2 {c q : Int} {F R : List Int} (h : HvB c q F R) : 22099 + (c - 1).toNat * 2 ^ 16 + q.toNat * 2 ^ 17 < 2 ^ 21 := joined_lt _ _ 17 4 (hv_lt1 h) h.q0
theorem hv_lt3 {c q : Int} {F R : List Int} (h : HvB c q F R) : 22099 + (c - 1).toNat * 2 ^ 16 + q.toNat * 2 ^ 17 + vhBk F 45 * 2 ^ 21 < 2 ^ 246 := joined_lt _ _ 21 225 (hv_lt2 h) (vhBk_lt h.f 45)
theorem hv_lt4 {c q : Int} {F R : List Int} (h : HvB c q F R) : hV c q F R < 2 ^ 326 := by
  have := joined_lt _ _ 246 80 (hv_lt3 h) (vhBk_lt h.r 16)
  rw [show 246 + 80 = 326 from rfl] at this
  exact this
theorem hv_magic {c q : Int} {F R : List Int} (h : HvB c q F R) : fld (hV c q F R) 0 16 = 22099 := by
  unfold hV
  rw [fld_low _ _ 246 _ _ (by omega), fld_low _ _ 21 _ _ (by omega), fld_low _ _ 17 _ _ (by omega), fld_low _ _ 16 _ _ (by omega)]
  decide
theorem hv_c {c q : Int} {F R : List Int} (h : HvB c q F R) : fld (hV c q F R) 16 1 = (c - 1).toNat := by
  unfold hV
  rw [fld_low _ _ 246 _ _ (by omega), fld_low _ _ 21 _ _ (by omega), fld_low _ _ 17 _ _ (by omega)]
  have := fld_at 22099 (c - 1).toNat 16 0 1 (by decide)
  rw [Nat.add_zero] at this
  rw [this, fld_all _ _ h.c0]
theorem hv_q {c q : Int} {F R : List Int} (h : HvB c q F R) : fld (hV c q F R) 17 4 = q.toNat := by
  unfold hV
  rw [fld_low _ _ 246 _ _ (by omega), fld_low _ _ 21 _ _ (by omega)]
  have := fld_at (22099 + (c - 1).toNat * 2 ^ 16) q.toNat 17 0 4 (hv_lt1 h)
  rw [Nat.add_zero] at this
  rw [this, fld_all _ _ h.q0]
theorem hv_f {c q : Int} {F R : List Int} (h : HvB c q F R) (s : Nat) (hs : s < 45) : fld (hV c q F R) (21 + 5 * s) 5 = (F.getD s 0).toNat := by
  unfold hV
  rw [fld_low _ _ 246 _ _ (by omega), fld_at _ _ 21 _ _ (hv_lt2 h), vhBk_at h.f 45 s hs]
theorem hv_r {c q : Int} {F R : List Int} (h : HvB c q F R) (s : Nat) (hs : s < 16) : fld (hV c q F R) (246 + 5 * s) 5 = (R.getD s 0).toNat := by
  unfold hV
  rw [fld_at _ _ 246 _ _ (hv_lt3 h), vhBk_at h.r 16 s hs]
theorem hv_end {c q : Int} {F R : List Int} (h : HvB c q F R) : fld (hV c q F R) 326 2 = 0 := by
  unfold fld
  rw [Nat.div_eq_of_lt (hv_lt4 h), Nat.zero_mod]

/-- What is read of bytes at a place; 0, if so many are not there. -/
def gv (xs : List Int) (q n : Nat) : Nat := if q + n ≤ 8 * xs.length then fld (bv xs) q n else 0
theorem gv_lt (xs : List Int) (q n : Nat) : gv xs q n < 2 ^ n := by
  unfold gv; split
  · exact fld_lt _ _ _
  · exact Nat.two_pow_pos n
def vhC (xs : List Int) : Int := 1 + ((gv xs 16 1 : Nat) : Int)
def vhQ (xs : List Int) : Int := ((gv xs 17 4 : Nat) : Int)
def vhF (xs : List Int) : List Int := tab 45 fun s => ((gv xs (21 + 5 * s) 5 : Nat) : Int)
def vhR (xs : List Int) : List Int := tab 16 fun s => ((gv xs (246 + 5 * s) 5 : Nat) : Int)
def vhIn (xs : List Int) : Bool := vhRight (vhC xs) (vhQ xs) (vhF xs) (vhR xs)
def vhOk (xs : List Int) : Bool := decide (xs.length = 41 ∧ gv xs 0 16 = 22099 ∧ gv xs 326 2 = 0 ∧ vhIn xs = true)
def vhE (xs : List Int) : Int := if xs.length < 41 then 4 else if vhOk xs = true then 0 else 2
def oC (xs : List Int) : Int := if vhOk xs = true then vhC xs else 0
def oQ (xs : List Int) : Int := if vhOk xs = true then vhQ xs else 0
def oF (xs : List Int) : List Int := if vhOk xs = true then vhF xs else []
def oR (xs : List Int) : List Int := if vhOk xs = true then vhR xs else []
theorem vhOk_parts {xs : List Int} (h : vhOk xs = true) : xs.length = 41 ∧ gv xs 0 16 = 22099 ∧ gv xs 326 2 = 0 ∧ vhIn xs = true := of_decide_eq_true h
theorem gv_in {xs : List Int} (hl : xs.length = 41) (q n : Nat) (h : q + n ≤ 328) : gv xs q n = fld (bv xs) q n := by
  unfold gv; rw [if_pos (by omega)]
theorem vhF_in {xs : List Int} (hl : xs.length = 41) : vhF xs = tab 45 fun s => ((fld (bv xs) (21 + 5 * s) 5 : Nat) : Int) :=
  tab_congr fun s hs => by rw [gv_in hl _ _ (by omega)]
theorem vhR_in {xs : List Int} (hl : xs.length = 41) : vhR xs = tab 16 fun s => ((fld (bv xs) (246 + 5 * s) 5 : Nat) : Int) :=
  tab_congr fun s hs => by rw [gv_in hl _ _ (by omega)]
theorem bv_hv {c q : Int} {F R : List Int} (h : HvB c q F R) : bv (byL (hV c q F R) 41) = hV c q F R := by
  have := hv_lt4 h
  have h2 := pow_up 326 (8 * 41) (by omega) _ this
  rw [byL_bv, pow256, Nat.mod_eq_of_lt h2]
structure Back (c q : Int) (F R xs : List Int) : Prop where
  len : xs.length = 41
  ok : vhOk xs = true
  c : vhC xs = c
  q : vhQ xs = q
  f : vhF xs = F
  r : vhR xs = R
theorem vh_back {c q : Int} {F R : List Int} (h : vhRight c q F R = true) : Back c q F R (byL (hV c q F R) 41) := by
  have hb := hvb h
  obtain ⟨h1, h2, h3, h4, h5, h6, h7, h8, h9⟩ := vhRight_parts h
  have hl : (byL (hV c q F R) 41).length = 41 := byL_length _ _
  have e1 : vhC (byL (hV c q F R) 41) = c := by
    unfold vhC; rw [gv_in hl _ _ (by omega), bv_hv hb, hv_c hb]; omega
  have e2 : vhQ (byL (hV c q F R) 41) = q := by
    unfold vhQ; rw [gv_in hl _ _ (by omega), bv_hv hb, hv_q hb]; omega
  have e3 : vhF (byL (hV c q F R) 41) = F := by
    rw [vhF_in hl, bv_hv hb]
    exact (tab_eq h5 fun s hs => by rw [hv_f hb s hs]; have := hb.f s; omega).symm
  have e4 : vhR (byL (hV c q F R) 41) = R := by
    rw [vhR_in hl, bv_hv hb]
    exact (tab_eq h6 fun s hs => by rw [hv_r hb s hs]; have := hb.r s; omega).symm
  refine ⟨hl, decide_eq_true ⟨hl, ?_, ?_, ?_⟩, e1, e2, e3, e4⟩
  · rw [gv_in hl _ _ (by omega), bv_hv hb, hv_magic hb]
  · rw [gv_in hl _ _ (by omega), bv_hv hb, hv_end hb]
  · unfold vhIn; rw [e1, e2, e3, e4]; exact h
theorem vh_only {xs : List Int} (hx : Byts xs) (h : vhOk xs = true) : byL (hV (vhC xs) (vhQ xs) (vhF xs) (vhR xs)) 41 = xs := by
  obtain ⟨hl, hm, he, hr⟩ := vhOk_parts h
  have hlt := bv_len_lt hx (326 + 2) (by omega)
  have e : hV (vhC xs) (vhQ xs) (vhF xs) (vhR xs) = bv xs := by
    rw [gv_in hl _ _ (by omega)] at hm he
    unfold hV
    rw [vhF_in hl, vhR_in hl, vhBk_tab _ _ _ _ (Nat.le_refl _), vhBk_tab _ _ _ _ (Nat.le_refl _)]
    unfold vhC vhQ
    rw [gv_in hl _ _ (by omega), gv_in hl _ _ (by omega)]
    have m0 := mod_whole (bv xs) 326 2 hlt he
    have m1 := mod_fld (bv xs) 246 80
    have m2 := mod_fld (bv xs) 21 225
    have m3 := mod_fld (bv xs) 17 4
    have m4 := mod_fld (bv xs) 16 1
    have m5 : fld (bv xs) 0 16 = bv xs % 2 ^ 16 := by unfold fld; rw [Nat.pow_zero, Nat.div_one]
    rw [show (1 + ((fld (bv xs) 16 1 : Nat) : Int) - 1).toNat = fld (bv xs) 16 1 by omega, show (((fld (bv xs) 17 4 : Nat) : Int)).toNat = fld (bv xs) 17 4 by omega]
    rw [m5] at hm
    rw [hm] at m4
    rw [show 16 + 1 = 17 from rfl] at m4
    rw [show 17 + 4 = 21 from rfl, m4] at m3
    rw [show 21 + 225 = 246 from rfl, m3] at m2
    rw [show 246 + 80 = 326 from rfl] at m1
    have m6 := congrArg (fun t => t + fld (bv xs) 246 80 * 2 ^ 246) m2
    rw [show 5 * 45 = 225 from rfl, show 5 * 16 = 80 from rfl]
    exact (m0.trans (m1.trans m6)).symm
  have := byL_eq hx e.symm
  rw [hl] at this
  exact this.symm

/-- The plain books. -/
def plF : List Int := tab 45 fun s => if s < 19 then 5 else 6
def plR : List Int := tab 16 fun _ => 4
theorem plF_right : rightL plF = true := by decide
theorem plR_right : rightL plR = true := by decide
theorem pl_right (c q : Int) : vhRight c q plF plR = decide (1 ≤ c ∧ c ≤ 2 ∧ 0 ≤ q ∧ q ≤ 12) := by
  have h1 : plF.length = 45 := tab_len _ _
  have h2 : plR.length = 16 := tab_len _ _
  have h3 : 0 < plR.getD 15 0 := by decide
  unfold vhRight
  rw [decide_eq_decide]
  exact ⟨fun h => ⟨h.1, h.2.1, h.2.2.1, h.2.2.2.1⟩, fun h => ⟨h.1, h.2.1, h.2.2.1, h.2.2.2, h1, h2, plF_right, plR_right, h3⟩⟩
/-- The first two bytes. -/
theorem two_bytes {xs : List Int} (hx : Byts xs) (hl : 2 ≤ xs.length) : gv xs 0 16 = (xs.getD 0 0).toNat + (xs.getD 1 0).toNat * 256 := by
  unfold gv; rw [if_pos (by omega)]
  have h0 := bv_get hx 0
  have h1 := bv_get hx 1
  unfold fld
  have e : bv xs % 65536 = bv xs % 256 + bv xs / 256 % 256 * 256 := by omega
  rw [Nat.pow_zero, Nat.div_one] at h0
  rw [Nat.pow_one] at h1
  rw [Nat.pow_zero, Nat.div_one, show (2 : Nat) ^ 16 = 65536 from rfl, e, h0, h1]
theorem magic_bytes {xs : List Int} (hx : Byts xs) (hl : 2 ≤ xs.length) : gv xs 0 16 = 22099 ↔ xs.getD 0 0 = 83 ∧ xs.getD 1 0 = 86 := by
  rw [two_bytes hx hl]
  have h0 := hx.getD 0
  have h1 := hx.getD 1
  omega
end Go.Proofs.Ytolfnjlkcppplaa
/- Contracts: whether a header is right, by the program and by the document; the document's As and Same; what is looked at. -/
namespace Go.Proofs.Ytolfnjlkcppplaa
open Go.RowKit
set_option linter.unusedVariables false
set_option linter.unusedSimpArgs false
set_option maxRecDepth 10000

/-- A header's two books in memory. -/
structure Bks (w : World) (af : Option Addr) (nf cf : Nat) (F : List Int) (ar : Option Addr) (nr cr : Nat) (R : List Int) : Prop where
  lf : F.length = nf
  vf : Rw .i64 w (.slice af nf cf) F
  lr : R.length = nr
  vr : Rw .i64 w (.slice ar nr cr) R
theorem Bks.below {w w' : World} {af : Option Addr} {nf cf : Nat} {F : List Int} {ar : Option Addr} {nr cr : Nat} {R : List Int} (h : Bks w af nf cf F ar nr cr R) (hb : Below w.heap.size w w') : Bks w' af nf cf F ar nr cr R :=
  ⟨h.lf, h.vf.below hb, h.lr, h.vr.below hb⟩
def fitB (l : List Int) (n : Nat) : Bool := decide (l.length = n) && rightL l
theorem bookfits_any (a : Option Addr) (n cap : Nat) (l : List Int) (m : Nat) (w : World) (hn : l.length = n) (hv : Rw .i64 w (.slice a n cap) l) :
    Calls Try.prog 43 #[.slice a n cap, .int .i64 m] w fun e w' => e = .returned (.bool (fitB l m)) ∧ w' = w := by
  have hr := fun w hv => hright_any (.slice a n cap) l w hv
  by_cases h : n = m
  · subst h
    have HO : Hid (fitB l n = rightL l) := by unfold Hid fitB; rw [decide_eq_true hn]; rfl
    generalize rightL l = r at *
    clear hn
    cases r
    all_goals
      go_enter Try.func43, Try.ntmps43
      go_wp2_with (go_at_call 57; refine (hr _ hv).mono ?_; rintro e w9 ⟨rfl, h9⟩; have h9 := h9.symm; subst h9)
      go_ret
      exact ⟨ret_bool HO.out.symm, rfl⟩
  · have HO : Hid (fitB l m = false) := by unfold Hid fitB; rw [decide_eq_false (by omega)]; rfl
    have e : ((n : Int) == (m : Int)) = false := by simpa using fun e => h (by omega)
    clear hr h hn hv
    go_enter Try.func43, Try.ntmps43
    go_wp2
    go_ret
    exact ⟨ret_bool HO.out.symm, rfl⟩
theorem vhRight_fit (c q : Int) (F R : List Int) : vhRight c q F R = decide (1 ≤ c ∧ c ≤ 2 ∧ 0 ≤ q ∧ q ≤ 12 ∧ fitB F 45 = true ∧ fitB R 16 = true ∧ 0 < R.getD 15 0) := by
  unfold vhRight
  rw [decide_eq_decide]
  have e1 : fitB F 45 = true ↔ F.length = 45 ∧ rightL F = true := by unfold fitB; rw [Bool.and_eq_true, decide_eq_true_eq]
  have e2 : fitB R 16 = true ↔ R.length = 16 ∧ rightL R = true := by unfold fitB; rw [Bool.and_eq_true, decide_eq_true_eq]
  rw [e1, e2]
  constructor
  · rintro ⟨a, b, c, d, e, f, g, h, i⟩; exact ⟨a, b, c, d, ⟨e, g⟩, ⟨f, h⟩, i⟩
  · rintro ⟨a, b, c, d, ⟨e, g⟩, ⟨f, h⟩, i⟩; exact ⟨a, b, c, d, e, f, g, h, i⟩

set_option maxHeartbeats 4000000 in
theorem vright_any (c q : Int) (af : Option Addr) (nf cf : Nat) (F : List Int) (ar : Option Addr) (nr cr : Nat) (R : List Int) (w : World) (h : Bks w af nf cf F ar nr cr R) :
    Calls Try.prog 22 #[.agg #[.int .i64 c, .int .i64 q, .slice af nf cf, .slice ar nr cr]] w fun e w' => e = .returned (.bool (vhRight c q F R)) ∧ Below w.heap.size w w' := by
  have hW := below1 w (.cells #[.int .i64 c, .int .i64 q, .slice af nf cf, .slice ar nr cr] 24)
  have hB0 := B4.new w (.int .i64 c) (.int .i64 q) (.slice af nf cf) (.slice ar nr cr) 24
  have h1 := h.below hW
  have hf := bookfits_any af nf cf F 45 _ h1.lf h1.vf
  have hr := bookfits_any ar nr cr R 16 _ h1.lr h1.vr
  have hx : fitB R 16 = true → ∃ b off, ar = some ⟨b, off, none⟩ ∧ (w.alloc (.cells #[.int .i64 c, .int .i64 q, .slice af nf cf, .slice ar nr cr] 24)).cell? ⟨b, off + 15, none⟩ = some (.int .i64 (R.getD 15 0)) := fun hb => by
    unfold fitB at hb
    rw [Bool.and_eq_true, decide_eq_true_eq] at hb
    have hv := h1.vr
    rw [← h1.lr] at hv
    obtain ⟨b, off, e, _, hc⟩ := hv.at 15 (by omega)
    rw [h1.lr] at hc
    exact ⟨b, off, e, hc⟩
  have hn16 : fitB R 16 = true → nr = 16 := fun hb => by
    unfold fitB at hb
    rw [Bool.and_eq_true, decide_eq_true_eq] at hb
    have := h1.lr; omega
  rw [vhRight_fit]
  obtain ⟨ez, e0, e1, e2, e3, f0, f1, f2, f3⟩ := hB0
  generalize fitB F 45 = BF at *
  generalize fitB R 16 = BR at *
  generalize R.getD 15 0 = X at *
  clear h1 h
  obtain ⟨Y, hY⟩ : ∃ Y, decide (1 ≤ c ∧ c ≤ 2 ∧ 0 ≤ q ∧ q ≤ 12 ∧ BF = true ∧ BR = true ∧ 0 < X) = Y := ⟨_, rfl⟩
  have HY := hid hY
  rw [hY]
  clear hY
  by_cases c1 : 1 ≤ c
  case neg =>
    have HZ : Hid (Y = false) := by unfold Hid; rw [← HY.out]; exact decide_eq_false (fun k => c1 k.1)
    clear HY hx hn16 hf hr
    have d1 : decide (1 ≤ c) = false := decide_eq_false c1
    go_enter Try.func22, Try.ntmps22
    go_wp2
    go_ret
    exact ⟨ret_bool HZ.out.symm, hW⟩
  by_cases c2 : c ≤ 2
  case neg =>
    have HZ : Hid (Y = false) := by unfold Hid; rw [← HY.out]; exact decide_eq_false (fun k => c2 k.2.1)
    clear HY hx hn16 hf hr
    have d1 : decide (1 ≤ c) = true := decide_eq_true c1
    have d2 : decide (c ≤ 2) = false := decide_eq_false c2
    go_enter Try.func22, Try.ntmps22
    go_wp2
    go_ret
    exact ⟨ret_bool HZ.out.symm, hW⟩
  have d1 : decide (1 ≤ c) = true := decide_eq_true c1
  have d2 : decide (c ≤ 2) = true := decide_eq_true c2
  by_cases c3 : 0 ≤ q
  case neg =>
    have HZ : Hid (Y = false) := by unfold Hid; rw [← HY.out]; exact decide_eq_false (fun k => c3 k.2.2.1)
    clear HY hx hn16 hf hr
    have d3 : decide (0 ≤ q) = false := decide_eq_false c3
    go_enter Try.func22, Try.ntmps22
    go_wp2
    go_ret
    exact ⟨ret_bool HZ.out.symm, hW⟩
  by_cases c4 : q ≤ 12
  case neg =>
    have HZ : Hid (Y = false) := by unfold Hid; rw [← HY.out]; exact decide_eq_false (fun k => c4 k.2.2.2.1)
    clear HY hx hn16 hf hr
    have d3 : decide (0 ≤ q) = true := decide_eq_true c3
    have d4 : decide (q ≤ 12) = false := decide_eq_false c4
    go_enter Try.func22, Try.ntmps22
    go_wp2
    go_ret
    exact ⟨ret_bool HZ.out.symm, hW⟩
  have d3 : decide (0 ≤ q) = true := decide_eq_true c3
  have d4 : decide (q ≤ 12) = true := decide_eq_true c4
  cases BF
  · have HZ : Hid (Y = false) := by unfold Hid; rw [← HY.out]; exact decide_eq_false (fun k => Bool.noConfusion k.2.2.2.2.1)
    clear HY hx hn16 hr
    go_enter Try.func22, Try.ntmps22
    go_wp2_with (go_at_call 43; refine hf.mono ?_; rintro e w9 ⟨rfl, h9⟩; have h9 := h9.symm; subst h9)
    go_ret
    exact ⟨ret_bool HZ.out.symm, hW⟩
  · cases BR
    · have HZ : Hid (Y = false) := by unfold Hid; rw [← HY.out]; exact decide_eq_false (fun k => Bool.noConfusion k.2.2.2.2.2.1)
      clear HY hx hn16
      go_enter Try.func22, Try.ntmps22
      go_wp2_with (first | (go_at_call_of 43 (Value.slice af nf cf); refine hf.mono ?_; rintro e w9 ⟨rfl, h9⟩; have h9 := h9.symm; subst h9) | (go_at_call_of 43 (Value.slice ar nr cr); refine hr.mono ?_; rintro e w9 ⟨rfl, h9⟩; have h9 := h9.symm; subst h9))
      go_ret
      exact ⟨ret_bool HZ.out.symm, hW⟩
    · obtain ⟨b, off, rfl, hc⟩ := hx rfl
      obtain rfl := hn16 rfl
      have HZ : Hid (Y = decide (0 < X)) := by
        unfold Hid; rw [← HY.out, decide_eq_decide]
        exact ⟨fun k => k.2.2.2.2.2.2, fun k => ⟨c1, c2, c3, c4, rfl, rfl, k⟩⟩
      clear HY hx hn16
      go_enter Try.func22, Try.ntmps22
      go_wp2_with (first | (go_at_call_of 43 (Value.slice af nf cf); refine hf.mono ?_; rintro e w9 ⟨rfl, h9⟩; have h9 := h9.symm; subst h9) | (go_at_call_of 43 (Value.slice (some ⟨b, off, none⟩) 16 cr); refine hr.mono ?_; rintro e w9 ⟨rfl, h9⟩; have h9 := h9.symm; subst h9))
      all_goals go_ret
      all_goals exact ⟨ret_bool HZ.out.symm, hW⟩

set_option maxHeartbeats 4000000 in
theorem rvright_any (c q : Int) (af : Option Addr) (nf cf : Nat) (F : List Int) (ar : Option Addr) (nr cr : Nat) (R : List Int) (w : World) (h : Bks w af nf cf F ar nr cr R) :
    Calls Try.prog 25 #[.agg #[.int .i64 c, .int .i64 q, .slice af nf cf, .slice ar nr cr]] w fun e w' => e = .returned (.bool (vhRight c q F R)) ∧ Below w.heap.size w w' := by
  have hW := below1 w (.cells #[.int .i64 c, .int .i64 q, .slice af nf cf, .slice ar nr cr] 32)
  have hB0 := B4.new w (.int .i64 c) (.int .i64 q) (.slice af nf cf) (.slice ar nr cr) 32
  have h1 := h.below hW
  have hf := rright4_any (.slice af nf cf) F _ h1.vf
  have hr := rright4_any (.slice ar nr cr) R _ h1.vr
  have hx : nr = 16 → ∃ b off, ar = some ⟨b, off, none⟩ ∧ (w.alloc (.cells #[.int .i64 c, .int .i64 q, .slice af nf cf, .slice ar nr cr] 32)).cell? ⟨b, off + 15, none⟩ = some (.int .i64 (R.getD 15 0)) := fun hb => by
    have hv := h1.vr
    rw [← h1.lr] at hv hb
    obtain ⟨b, off, e, _, hc⟩ := hv.at 15 (by omega)
    rw [h1.lr] at hc
    exact ⟨b, off, e, hc⟩
  have hpos : rightL R = true → 0 ≤ R.getD 15 0 := fun hR => (five_of_right hR 15).1
  have HY0 : Hid (vhRight c q F R = decide (1 ≤ c ∧ c ≤ 2 ∧ 0 ≤ q ∧ q ≤ 12 ∧ nf = 45 ∧ nr = 16 ∧ rightL F = true ∧ rightL R = true ∧ 0 < R.getD 15 0)) := by
    unfold Hid vhRight; rw [h.lf, h.lr]
  obtain ⟨ez, e0, e1, e2, e3, f0, f1, f2, f3⟩ := hB0
  generalize vhRight c q F R = Y at *
  generalize rightL F = BF at *
  generalize rightL R = BR at *
  generalize R.getD 15 0 = X at *
  clear h1 h
  by_cases c1 : 1 ≤ c ∧ c ≤ 2
  case neg =>
    have HZ : Hid (Y = false) := by unfold Hid; rw [HY0.out]; exact decide_eq_false (fun k => c1 ⟨k.1, k.2.1⟩)
    have d1 : (c != 1) = true := by simp; omega
    have d2 : (c != 2) = true := by simp; omega
    clear HY0 hx hpos hf hr c1
    go_enter Try.func25, Try.ntmps25
    go_wp2
    go_ret
    exact ⟨ret_bool HZ.out.symm, hW⟩
  have hc12 : c = 1 ∨ c = 2 := by omega
  by_cases c3 : 0 ≤ q
  case neg =>
    have HZ : Hid (Y = false) := by unfold Hid; rw [HY0.out]; exact decide_eq_false (fun k => c3 k.2.2.1)
    have d3 : decide (q < 0) = true := decide_eq_true (by omega)
    clear HY0 hx hpos hf hr c1
    rcases hc12 with rfl | rfl
    all_goals
      go_enter Try.func25, Try.ntmps25
      go_wp2
      go_ret
      exact ⟨ret_bool HZ.out.symm, hW⟩
  by_cases c4 : q ≤ 12
  case neg =>
    have HZ : Hid (Y = false) := by unfold Hid; rw [HY0.out]; exact decide_eq_false (fun k => c4 k.2.2.2.1)
    have d3 : decide (q < 0) = false := decide_eq_false (by omega)
    have d4 : decide (12 < q) = true := decide_eq_true (by omega)
    clear HY0 hx hpos hf hr c1
    rcases hc12 with rfl | rfl
    all_goals
      go_enter Try.func25, Try.ntmps25
      go_wp2
      go_ret
      exact ⟨ret_bool HZ.out.symm, hW⟩
  have d3 : decide (q < 0) = false := decide_eq_false (by omega)
  have d4 : decide (12 < q) = false := decide_eq_false (by omega)
  by_cases c5 : nf = 45
  case neg =>
    have HZ : Hid (Y = false) := by unfold Hid; rw [HY0.out]; exact decide_eq_false (fun k => c5 k.2.2.2.2.1)
    have d5 : ((nf : Int) != 45) = true := by simp; omega
    clear HY0 hx hpos hf hr c1
    rcases hc12 with rfl | rfl
    all_goals
      go_enter Try.func25, Try.ntmps25
      go_wp2
      go_ret
      exact ⟨ret_bool HZ.out.symm, hW⟩
  by_cases c6 : nr = 16
  case neg =>
    have HZ : Hid (Y = false) := by unfold Hid; rw [HY0.out]; exact decide_eq_false (fun k => c6 k.2.2.2.2.2.1)
    have d6 : ((nr : Int) != 16) = true := by simp; omega
    obtain rfl := c5
    clear HY0 hx hpos hf hr c1
    rcases hc12 with rfl | rfl
    all_goals
      go_enter Try.func25, Try.ntmps25
      go_wp2
      go_ret
      exact ⟨ret_bool HZ.out.symm, hW⟩
  obtain ⟨b, off, rfl, hc⟩ := hx c6
  subst c5 c6
  clear hx
  cases BF
  · have HZ : Hid (Y = false) := by unfold Hid; rw [HY0.out]; exact decide_eq_false (fun k => Bool.noConfusion k.2.2.2.2.2.2.1)
    clear HY0 hpos hr c1
    rcases hc12 with rfl | rfl
    all_goals
      go_enter Try.func25, Try.ntmps25
      go_wp2_with (go_at_call 45; refine hf.mono ?_; rintro e w9 ⟨rfl, h9⟩; have h9 := h9.symm; subst h9)
      go_ret
      exact ⟨ret_bool HZ.out.symm, hW⟩
  · cases BR
    · have HZ : Hid (Y = false) := by unfold Hid; rw [HY0.out]; exact decide_eq_false (fun k => Bool.noConfusion k.2.2.2.2.2.2.2.1)
      clear HY0 hpos c1
      rcases hc12 with rfl | rfl
      all_goals
        go_enter Try.func25, Try.ntmps25
        go_wp2_with (first | (go_at_call_of 45 (Value.slice af 45 cf); refine hf.mono ?_; rintro e w9 ⟨rfl, h9⟩; have h9 := h9.symm; subst h9) | (go_at_call_of 45 (Value.slice (some ⟨b, off, none⟩) 16 cr); refine hr.mono ?_; rintro e w9 ⟨rfl, h9⟩; have h9 := h9.symm; subst h9))
        go_ret
        exact ⟨ret_bool HZ.out.symm, hW⟩
    · have hx0 := hpos rfl
      have HZ : Hid (Y = (X != 0)) := by
        unfold Hid; rw [HY0.out]
        by_cases e : 0 < X
        · rw [decide_eq_true ⟨c1.1, c1.2, c3, c4, rfl, rfl, rfl, rfl, e⟩]; symm; simp; omega
        · rw [decide_eq_false (fun k => e k.2.2.2.2.2.2.2.2)]; symm; simp; omega
      clear HY0 hpos c1 hx0
      generalize hXB : (X != 0) = XB at *
      rcases hc12 with rfl | rfl
      all_goals
        go_enter Try.func25, Try.ntmps25
        go_wp2_with (first | (go_at_call_of 45 (Value.slice af 45 cf); refine hf.mono ?_; rintro e w9 ⟨rfl, h9⟩; have h9 := h9.symm; subst h9) | (go_at_call_of 45 (Value.slice (some ⟨b, off, none⟩) 16 cr); refine hr.mono ?_; rintro e w9 ⟨rfl, h9⟩; have h9 := h9.symm; subst h9))
        all_goals go_ret
        all_goals exact ⟨ret_bool HZ.out.symm, hW⟩
theorem as16_any (c q : Int) (af : Option Addr) (nf cf : Nat) (ar : Option Addr) (nr cr : Nat) (w : World) :
    Calls Try.prog 13 #[.agg #[.int .i64 c, .int .i64 q, .slice af nf cf, .slice ar nr cr]] w fun e w' => e = .returned (.agg #[.int .i64 c, .int .i64 q, .slice af nf cf, .slice ar nr cr]) ∧ Below w.heap.size w w' := by
  have hB := B4.new2 w (.cells #[.int .i64 c, .int .i64 q, .slice af nf cf, .slice ar nr cr] 24) (.int .i64 c) (.int .i64 q) (.slice af nf cf) (.slice ar nr cr) 32
  have hW := below2 w (.cells #[.int .i64 c, .int .i64 q, .slice af nf cf, .slice ar nr cr] 24) (.cells #[.int .i64 c, .int .i64 q, .slice af nf cf, .slice ar nr cr] 32)
  go_enter Try.func13, Try.ntmps13
  go_wp2
  obtain ⟨gz', g0', g1', g2', g3', k0', k1', k2', k3'⟩ := hB
  refine bodyPost_ret (v := .agg #[.int .i64 c, .int .i64 q, .slice af nf cf, .slice ar nr cr]) (by simp [results, Try.results13, go_sem, g0', g1', g2', g3', k0', k1', k2', k3']) rfl ⟨rfl, hW⟩
theorem great16_any (c q : Int) (af : Option Addr) (nf cf : Nat) (ar : Option Addr) (nr cr : Nat) (w : World) :
    Calls Try.prog 17 #[.agg #[.int .i64 c, .int .i64 q, .slice af nf cf, .slice ar nr cr]] w fun e w' => e = .returned (.bool (decide (200 < nf ∨ 200 < nr))) ∧ Below w.heap.size w w' := by
  have hW := below1 w (.cells #[.int .i64 c, .int .i64 q, .slice af nf cf, .slice ar nr cr] 24)
  by_cases h1 : 200 < nf
  · have d1 : decide (200 < (nf : Int)) = true := decide_eq_true (by omega)
    rw [decide_eq_true (.inl h1)]
    go_enter Try.func17, Try.ntmps17
    go_wp2
    go_ret
    exact ⟨rfl, hW⟩
  · have d1 : decide (200 < (nf : Int)) = false := decide_eq_false (by omega)
    by_cases h2 : 200 < nr
    · have d2 : decide (200 < (nr : Int)) = true := decide_eq_true (by omega)
      rw [decide_eq_true (.inr h2)]
      go_enter Try.func17, Try.ntmps17
      go_wp2
      go_ret
      exact ⟨rfl, hW⟩
    · have d2 : decide (200 < (nr : Int)) = false := decide_eq_false (by omega)
      rw [decide_eq_false (by omega)]
      go_enter Try.func17, Try.ntmps17
      go_wp2
      go_ret
      exact ⟨rfl, hW⟩
end Go.Proofs.Ytolfnjlkcppplaa
/- Contracts: the plain header, by the program and by the document; the document's bits of a number, and its number of bits. -/
namespace Go.Proofs.Ytolfnjlkcppplaa
open Go.RowKit
set_option linter.unusedVariables false
set_option linter.unusedSimpArgs false
set_option maxRecDepth 10000

theorem B4.grown {w w' : World} {b : Nat} {x0 x1 x2 x3 : Value} {o : Option Nat} (h : B4 w b x0 x1 x2 x3) (hg : w.grownBy w' o) (hne : o ≠ some b) : B4 w' b x0 x1 x2 x3 := by
  have e := hg.block b h.z (fun h => hne h.symm)
  have hc := fun i => World.cell?_of_block (w := w) (w' := w') (a := ⟨b, i, none⟩) e
  have hf := fun i => World.frozen?_of_block (w := w) (w' := w') (a := ⟨b, i, none⟩) e
  exact ⟨Nat.lt_of_lt_of_le h.z hg.size, (hc 0).trans h.c0, (hc 1).trans h.c1, (hc 2).trans h.c2, (hc 3).trans h.c3, (hf 0).trans h.f0, (hf 1).trans h.f1, (hf 2).trans h.f2, (hf 3).trans h.f3⟩

/-- The slice v holds the numbers xs, in a block from lo on and below hi. -/
def RwM (lo hi : Nat) (k : IntKind) (w : World) (v : Value) (xs : List Int) : Prop :=
  ∃ a cap, v = .slice a xs.length cap ∧ (xs = [] ∨ ∃ b off, a = some ⟨b, off, none⟩ ∧ lo ≤ b ∧ b < hi ∧ b < w.heap.size ∧ ∀ i, i < xs.length → w.cell? ⟨b, off + i, none⟩ = some (.int k (xs.getD i 0)))
theorem RwM.keep {lo hi : Nat} {k : IntKind} {w w' : World} {v : Value} {xs : List Int} (h : RwM lo hi k w v xs) (hs : w.heap.size ≤ w'.heap.size) (hk : ∀ i, lo ≤ i → i < hi → i < w.heap.size → w'.heap[i]? = w.heap[i]?) : RwM lo hi k w' v xs := by
  obtain ⟨a, cap, e, h⟩ := h
  refine ⟨a, cap, e, ?_⟩
  rcases h with h | ⟨b, off, ha, h1, h2, h3, hc⟩
  · exact .inl h
  · exact .inr ⟨b, off, ha, h1, h2, Nat.lt_of_lt_of_le h3 hs, fun i hi => (World.cell?_of_block (w := w) (hk b h1 h2 h3)).trans (hc i hi)⟩
theorem RwM.rw {lo hi : Nat} {k : IntKind} {w : World} {v : Value} {xs : List Int} (h : RwM lo hi k w v xs) : Rw k w v xs := by
  obtain ⟨a, cap, e, h⟩ := h
  refine ⟨a, cap, e, ?_⟩
  rcases h with h | ⟨b, off, ha, h1, h2, h3, hc⟩
  · exact .inl h
  · exact .inr ⟨b, off, ha, h3, hc⟩
theorem RwM.of_rw {k : IntKind} {w : World} {v : Value} {xs : List Int} (h : Rw k w v xs) : RwM 0 w.heap.size k w v xs := by
  obtain ⟨a, cap, e, h⟩ := h
  refine ⟨a, cap, e, ?_⟩
  rcases h with h | ⟨b, off, ha, h3, hc⟩
  · exact .inl h
  · exact .inr ⟨b, off, ha, Nat.zero_le _, h3, h3, hc⟩
theorem RwM.of_rwf {base : Nat} {k : IntKind} {w : World} {v : Value} {xs : List Int} (h : RwF base k w v xs) : RwM base w.heap.size k w v xs := by
  obtain ⟨a, cap, e, h⟩ := h
  refine ⟨a, cap, e, ?_⟩
  rcases h with h | ⟨b, off, ha, h1, h3, hc⟩
  · exact .inl h
  · exact .inr ⟨b, off, ha, h1, h3, h3, hc⟩
theorem RwM.rwf {lo hi base : Nat} {k : IntKind} {w : World} {v : Value} {xs : List Int} (h : RwM lo hi k w v xs) (hb : base ≤ lo) : RwF base k w v xs := by
  obtain ⟨a, cap, e, h⟩ := h
  refine ⟨a, cap, e, ?_⟩
  rcases h with h | ⟨b, off, ha, h1, h2, h3, hc⟩
  · exact .inl h
  · exact .inr ⟨b, off, ha, Nat.le_trans hb h1, h3, hc⟩
theorem RwM.mono {lo hi lo' hi' : Nat} {k : IntKind} {w : World} {v : Value} {xs : List Int} (h : RwM lo hi k w v xs) (h1 : lo' ≤ lo) (h2 : hi ≤ hi') : RwM lo' hi' k w v xs := by
  obtain ⟨a, cap, e, h⟩ := h
  refine ⟨a, cap, e, ?_⟩
  rcases h with h | ⟨b, off, ha, q1, q2, h3, hc⟩
  · exact .inl h
  · exact .inr ⟨b, off, ha, Nat.le_trans h1 q1, Nat.lt_of_lt_of_le q2 h2, h3, hc⟩
theorem RwM.below {lo hi : Nat} {k : IntKind} {w w' : World} {v : Value} {xs : List Int} (h : RwM lo hi k w v xs) (hb : Below w.heap.size w w') : RwM lo hi k w' v xs := h.keep hb.size fun i _ _ h3 => hb.block i h3
theorem RwM.set {lo hi : Nat} {k : IntKind} {w : World} {v : Value} {xs : List Int} (h : RwM lo hi k w v xs) (p o : Nat) (x : Value) (hp : p < lo ∨ hi ≤ p) : RwM lo hi k (w.setCell ⟨p, o, none⟩ x) v xs :=
  h.keep (by simp [World.setCell]) fun i h1 h2 _ => heap_setCell_other _ _ _ _ (by show i ≠ p; omega)
theorem RwM.grown {lo hi : Nat} {k : IntKind} {w w' : World} {v : Value} {xs : List Int} {o : Option Nat} (h : RwM lo hi k w v xs) (hg : w.grownBy w' o) (ho : ∀ i, o = some i → i < lo ∨ hi ≤ i) : RwM lo hi k w' v xs :=
  h.keep hg.size fun i h1 h2 h3 => hg.block i h3 fun e => by have := ho i e.symm; omega
theorem RwM.nil (lo hi : Nat) (k : IntKind) (w : World) : RwM lo hi k w (.slice none 0 0) [] := ⟨none, 0, rfl, .inl rfl⟩
theorem grown_lt {a b : World} {g B : Nat} (h : a.grownBy b (some g)) (hB : B ≤ a.heap.size) (hg : B ≤ g) : Below B a b :=
  ⟨h.os, h.tape, h.output, h.size, fun k hk => h.block k (by omega) (by intro e; simp only [Option.some.injEq] at e; omega)⟩

set_option maxHeartbeats 1000000 in
theorem plainfloor_any (w : World) : Calls Try.prog 41 #[] w fun e w' => ∃ g, e = .returned (.slice (some ⟨g, 0, none⟩) 45 45) ∧ Blk .i64 3 w' g plF ∧ w.heap.size ≤ g ∧ Below w.heap.size w w' := by
  obtain ⟨i0, hi, hz0, hz1, hz2⟩ := info_parts info3
  go_enter Try.func41, Try.ntmps41
  go_wp2_with (at_make; refine wpList_make_full _ rfl _ _ 22 rfl w.heap.size 3 i0 (.int .i64 0) 1 Try.underlying22 hi hz0 hz1 .i64 .i64 _ _ 45 rfl rfl (by omega) (by omega) (by rw [hz2]; omega) (by unfold maxLen; omega) (by simp) ?_)
  intro w1 hown1 hgrow1
  have HBB := hid (grown_of_none hgrow1)
  have hb0 : Blk .i64 3 w1 w.heap.size (tab 45 fun _ => 0) := Blk.made hown1
  have HB := hid hb0
  clear hown1 hgrow1 hb0
  go_wp2
  go_loopw [6] (fun p wr => ∃ k : Nat, k ≤ 45 ∧ p = .int .i64 k ∧ Hid (Blk .i64 3 wr w.heap.size (tab 45 fun s => if s < k then (if s < 19 then 5 else 6) else 0)) ∧ Hid (Below w.heap.size w wr)) (fun p _ => 45 - (intOf p).toNat)
  case atStart => exact ⟨0, by omega, rfl, by unfold Hid; simpa using HB.out, HBB⟩
  case round =>
    clear HB HBB
    obtain ⟨k, hk, rfl, HB, HBB⟩ := hrel
    by_cases hlt : k < 45
    · have hz := HB.out.lt
      have hc := HB.out.cell k (by rw [tab_len]; exact hlt)
      have hf := HB.out.free k (by rw [tab_len]; exact hlt)
      have i1 : (0 : Int) ≤ (k : Int) := by omega
      have i2 : (k : Int) < 45 := by omega
      have i3 : IntKind.i64.wrap (k : Int) = k := wraps_i64 _ (by omega) (by omega)
      by_cases h19 : k < 19
      · have h19' : ¬ (19 : Int) ≤ (k : Int) := by omega
        have e : (tab 45 fun s => if s < k then (if s < 19 then 5 else 6) else 0).set k 5 = (tab 45 fun s => if s < k + 1 then (if s < 19 then 5 else 6) else (0 : Int)) := by
          rw [tab_set _ _ _ _ hlt]
          refine tab_congr fun i hi => ?_
          by_cases h1 : i = k
          · subst h1; rw [if_pos rfl, if_pos (by omega), if_pos h19]
          · rw [if_neg h1]
            by_cases h2 : i < k
            · have h3 : i < k + 1 := by omega
              rw [if_pos h2, if_pos h3]
            · have h3 : ¬ i < k + 1 := by omega
              rw [if_neg h2, if_neg h3]
        have HS := hid (HB.out.set k 5)
        rw [e] at HS
        have HBB2 := hid (bset1 HBB.out w.heap.size k (.int .i64 5) (Nat.le_refl _))
        clear e
        go_wp2
        exact ⟨⟨k + 1, by omega, by go_num, HS, HBB2⟩, by simp [intOf]; omega⟩
      · have h19' : (19 : Int) ≤ (k : Int) := by omega
        have e : ((tab 45 fun s => if s < k then (if s < 19 then 5 else 6) else 0).set k 5).set k 6 = (tab 45 fun s => if s < k + 1 then (if s < 19 then 5 else 6) else (0 : Int)) := by
          rw [tab_set _ _ _ _ hlt, tab_set _ _ _ _ hlt]
          refine tab_congr fun i hi => ?_
          by_cases h1 : i = k
          · subst h1; rw [if_pos rfl, if_pos (by omega), if_neg h19]
          · rw [if_neg h1, if_neg h1]
            by_cases h2 : i < k
            · have h3 : i < k + 1 := by omega
              rw [if_pos h2, if_pos h3]
            · have h3 : ¬ i < k + 1 := by omega
              rw [if_neg h2, if_neg h3]
        have HS := hid ((HB.out.set k 5).set k 6)
        rw [e] at HS
        have HBB2 := hid (bset1 (bset1 HBB.out w.heap.size k (.int .i64 5) (Nat.le_refl _)) w.heap.size k (.int .i64 6) (Nat.le_refl _))
        clear e
        go_wp2
        exact ⟨⟨k + 1, by omega, by go_num, HS, HBB2⟩, by simp [intOf]; omega⟩
    · obtain rfl : k = 45 := by omega
      have e : (tab 45 fun s => if s < 45 then (if s < 19 then 5 else 6) else (0 : Int)) = plF := tab_congr fun i hi => by rw [if_pos hi]
      rw [e] at HB
      clear hlt
      go_wp2
      go_ret
      exact ⟨w.heap.size, rfl, HB.out, Nat.le_refl _, HBB.out⟩
set_option maxHeartbeats 1000000 in
theorem plainres_any (w : World) : Calls Try.prog 42 #[] w fun e w' => ∃ g, e = .returned (.slice (some ⟨g, 0, none⟩) 16 16) ∧ Blk .i64 3 w' g plR ∧ w.heap.size ≤ g ∧ Below w.heap.size w w' := by
  obtain ⟨i0, hi, hz0, hz1, hz2⟩ := info_parts info3
  go_enter Try.func42, Try.ntmps42
  go_wp2_with (at_make; refine wpList_make_full _ rfl _ _ 22 rfl w.heap.size 3 i0 (.int .i64 0) 1 Try.underlying22 hi hz0 hz1 .i64 .i64 _ _ 16 rfl rfl (by omega) (by omega) (by rw [hz2]; omega) (by unfold maxLen; omega) (by simp) ?_)
  intro w1 hown1 hgrow1
  have HBB := hid (grown_of_none hgrow1)
  have hb0 : Blk .i64 3 w1 w.heap.size (tab 16 fun _ => 0) := Blk.made hown1
  have HB := hid hb0
  clear hown1 hgrow1 hb0
  go_wp2
  go_loopw [6] (fun p wr => ∃ k : Nat, k ≤ 16 ∧ p = .int .i64 k ∧ Hid (Blk .i64 3 wr w.heap.size (tab 16 fun s => if s < k then 4 else 0)) ∧ Hid (Below w.heap.size w wr)) (fun p _ => 16 - (intOf p).toNat)
  case atStart => exact ⟨0, by omega, rfl, by unfold Hid; simpa using HB.out, HBB⟩
  case round =>
    clear HB HBB
    obtain ⟨k, hk, rfl, HB, HBB⟩ := hrel
    by_cases hlt : k < 16
    · have hz := HB.out.lt
      have hc := HB.out.cell k (by rw [tab_len]; exact hlt)
      have hf := HB.out.free k (by rw [tab_len]; exact hlt)
      have i1 : (0 : Int) ≤ (k : Int) := by omega
      have i2 : (k : Int) < 16 := by omega
      have i3 : IntKind.i64.wrap (k : Int) = k := wraps_i64 _ (by omega) (by omega)
      have e : (tab 16 fun s => if s < k then 4 else 0).set k 4 = (tab 16 fun s => if s < k + 1 then 4 else (0 : Int)) := by
        rw [tab_set _ _ _ _ hlt]
        refine tab_congr fun i hi => ?_
        by_cases h1 : i = k
        · subst h1; rw [if_pos rfl, if_pos (by omega)]
        · rw [if_neg h1]
          by_cases h2 : i < k
          · have h3 : i < k + 1 := by omega
            rw [if_pos h2, if_pos h3]
          · have h3 : ¬ i < k + 1 := by omega
            rw [if_neg h2, if_neg h3]
      have HS := hid (HB.out.set k 4)
      rw [e] at HS
      have HBB2 := hid (bset1 HBB.out w.heap.size k (.int .i64 4) (Nat.le_refl _))
      clear e
      go_wp2
      exact ⟨⟨k + 1, by omega, by go_num, HS, HBB2⟩, by simp [intOf]; omega⟩
    · obtain rfl : k = 16 := by omega
      have e : (tab 16 fun s => if s < 16 then 4 else (0 : Int)) = plR := tab_congr fun i hi => by rw [if_pos hi]
      rw [e] at HB
      clear hlt
      go_wp2
      go_ret
      exact ⟨w.heap.size, rfl, HB.out, Nat.le_refl _, HBB.out⟩
set_option maxHeartbeats 1000000 in
theorem plain_any (c q : Int) (w : World) : Calls Try.prog 21 #[.int .i64 c, .int .i64 q] w fun e w' => ∃ g1 g2, e = .returned (.agg #[.int .i64 c, .int .i64 q, .slice (some ⟨g1, 0, none⟩) 45 45, .slice (some ⟨g2, 0, none⟩) 16 16]) ∧ Rw .i64 w' (.slice (some ⟨g1, 0, none⟩) 45 45) plF ∧ Rw .i64 w' (.slice (some ⟨g2, 0, none⟩) 16 16) plR ∧ w.heap.size ≤ g1 ∧ w.heap.size ≤ g2 ∧ Below w.heap.size w w' := by
  have hB := B4.new w (.int .i64 0) (.int .i64 0) (.slice none 0 0) (.slice none 0 0) 24
  have hW := below1 w (.cells #[.int .i64 0, .int .i64 0, .slice none 0 0, .slice none 0 0] 24)
  have hf := fun w' => plainfloor_any w'
  have hr := fun w' => plainres_any w'
  go_enter Try.func21, Try.ntmps21
  go_wp2_with (first | (go_at_call 41; refine (hf _).mono ?_; rintro e y1 ⟨g1, rfl, hk1, hg1, hy1⟩; have hB1 := hB.below hy1) | (go_at_call 42; refine (hr _).mono ?_; rintro e y2 ⟨g2, rfl, hk2, hg2, hy2⟩; have hB2 := hB1.below hy2; obtain ⟨gz, g0, g1', g2', g3', j0, j1, j2, j3⟩ := id hB2))
  obtain ⟨gz', p0, p1, p2, p3, q0, q1', q2, q3⟩ := hB2.set (.int .i64 c) (.int .i64 q) (.slice (some ⟨g1, 0, none⟩) 45 45) (.slice (some ⟨g2, 0, none⟩) 16 16)
  have z1 := hy1.size
  have z2 := hy2.size
  simp only [World.size_alloc] at hg1 z1
  have hk1' := hk1.below hy2
  refine bodyPost_ret (v := .agg #[.int .i64 c, .int .i64 q, .slice (some ⟨g1, 0, none⟩) 45 45, .slice (some ⟨g2, 0, none⟩) 16 16]) (by simp [results, Try.results21, go_sem, p0, p1, p2, p3, q0, q1', q2, q3]) rfl ⟨g1, g2, rfl, ?_, ?_, by omega, by omega, ?_⟩
  · exact ((((hk1'.other _ _ _ (by omega)).other _ _ _ (by omega)).other _ _ _ (by omega)).other _ _ _ (by omega)).rw (tab_len _ _)
  · exact ((((hk2.other _ _ _ (by omega)).other _ _ _ (by omega)).other _ _ _ (by omega)).other _ _ _ (by omega)).rw (tab_len _ _)
  · exact bset4 (bthen' (bthen' hW hy1) hy2) w.heap.size _ _ _ _ (Nat.le_refl _)
end Go.Proofs.Ytolfnjlkcppplaa
/- Bits put together; an append of any row in a region that draws. -/
namespace Go.Proofs.Ytolfnjlkcppplaa
open Go.RowKit
set_option linter.unusedVariables false
set_option linter.unusedSimpArgs false
set_option maxRecDepth 10000

theorem bl_app (X V N n : Nat) (hX : X < 2 ^ N) : bl (X + V * 2 ^ N) (N + n) = bl X N ++ bl V n := by
  have h1 : bl (X + V * 2 ^ N) N = bl X N := bl_put X V N
  unfold bl at *
  rw [List.range_add, List.map_append, h1, List.map_map]
  congr 1
  apply List.map_congr_left
  intro k hk
  exact bl_put_new X V N k hX
/-- A whole row of integers, nil or not, behind a row of the call's own: at a step of a region that draws its order. -/
theorem step_append_rw {P : Program} {w : World} {ops : Array Oper} {o : Oper} {a : Act} {K : Act → World → Prop} {Q : Exit → Act → World → Prop} {E : Prop} (hgd : o.guard = none) (s x : Operand) (t : TypeId)
    (ho : o.op = .call { callee := .builtin .append, args := #[s, x], argTypes := #[t, t] })
    (base : Nat) (e : TypeId) (i : TypeInfo) (z : Value) (bytes : Nat) (ht : P.underlying t = some (.slice e)) (hi : P.info? e = some i) (hz : i.zero = some z)
    (hsize : i.size = 1) (hby : i.bytes = bytes) (hzs : z.cells.size = 1)
    (k : IntKind) (v : Value) (n : Nat) (xs : List Value) (hs : a.eval s = v) (hown : w.ownsRow base e 1 v n xs)
    (ad : Option Addr) (m c : Nat) (ys : List Int) (hm : ys.length = m) (hx : a.eval x = .slice ad m c) (hrw : Rw k w (.slice ad m c) ys) (hn : ad = none → c = 0)
    (h63 : n + m ≤ maxLen) (hbytes : (n + m) * bytes ≤ 140737488355328) (hbase : base ≤ w.heap.size)
    (h : ∀ v' w', w'.ownsRow base e 1 v' (n + m) (xs ++ ys.map (Value.int k)) → w.grownBy w' v.ownBlock → K (a.put o.dst v') w') :
    if Region.wanted o (yielded ops a.tmps) = true then Oper.wp P o a w K Q else E := by
  have hw : Region.wanted o (yielded ops a.tmps) = true := by simp [Region.wanted, hgd]
  rw [if_pos hw]
  subst hm
  have key : ∃ v' w', (Builtin.append_ #[t, t] o.type #[v, .slice ad ys.length c]).run P w = .ok v' w' ∧ w'.ownsRow base e 1 v' (n + ys.length) (xs ++ ys.map (Value.int k)) ∧ w.grownBy w' v.ownBlock := by
    obtain ⟨a', c', he, hr⟩ := hrw
    simp only [Value.slice.injEq, true_and] at he
    obtain ⟨rfl, rfl⟩ := he
    cases ad with
    | none =>
      have hc := hn rfl
      subst hc
      have hy : ys = [] := by
        rcases hr with h | ⟨b, off, hh, _⟩
        · exact h
        · cases hh
      subst hy
      exact ⟨v, w, run_append_owned_none (P := P) (w := w) base t o.type e i 1 ht hi v n xs hown, by simpa using hown, World.grownBy.refl w _⟩
    | some ad =>
      obtain ⟨v', w', h1, h2, h3, _⟩ := run_append_own (P := P) w base t o.type e i z 1 bytes ht hi hz hsize hby hzs (by decide) v n xs hown ad ys.length c (ys.map (Value.int k)) (by simp) (by
        intro j u hj
        have hjl : j < ys.length := by
          have := (List.getElem?_eq_some_iff.1 hj).1
          simpa using this
        obtain ⟨b, off, hh, hb, hc⟩ := hr.resolve_left (by intro h; subst h; simp at hjl)
        cases hh
        rw [Addr.add_lit, hc j hjl, ← hj]
        simp [hjl]) (ints_oneCell k ys) h63 hbytes hbase
      exact ⟨v', w', h1, h2, h3⟩
  obtain ⟨v', w', hr, h2, h3⟩ := key
  unfold Oper.wp execOp
  simp only [ho, resolve, invoke, builtin, Sem.run_bind, Sem.run_pure, Result.andThen_ok, List.map_toArray, List.map_cons, List.map_nil, hs, hx, hr]
  exact h v' w' h2 h3
end Go.Proofs.Ytolfnjlkcppplaa
