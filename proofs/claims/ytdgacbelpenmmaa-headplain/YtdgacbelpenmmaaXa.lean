/- Books of symbols: how many are used, what they take, their codes; that no code begins another one, and that the codes of a right book fill all there is. Nothing of the program is imported. -/
import Derived.Test.YtdgacbelpenmmaaGrids
namespace Go.Proofs.Ytdgacbelpenmmaa
open Go.RowKit
set_option linter.unusedVariables false
set_option linter.unusedSimpArgs false

def wt (x : Int) : Nat := if 0 < x then 2 ^ (16 - x.toNat) else 0
def usedN : List Int → Nat
  | [] => 0
  | x :: l => (if 0 < x then 1 else 0) + usedN l
def takenN : List Int → Nat
  | [] => 0
  | x :: l => wt x + takenN l
def inB (l : List Int) : Bool := l.all fun x => decide (0 ≤ x ∧ x ≤ 16)
def rightL (l : List Int) : Bool := decide (2 ≤ l.length ∧ l.length ≤ 64 ∧ inB l = true ∧ (if usedN l = 1 then takenN l = 32768 else takenN l = 65536))

theorem take_snoc (l : List Int) (k : Nat) (h : k < l.length) : l.take (k + 1) = l.take k ++ [l.getD k 0] := by
  rw [List.take_add_one]; simp [h]
theorem used_snoc (l : List Int) (x : Int) : usedN (l ++ [x]) = usedN l + (if 0 < x then 1 else 0) := by
  induction l with
  | nil => simp [usedN]
  | cons y l ih => simp only [List.cons_append, usedN, ih]; omega
theorem taken_snoc (l : List Int) (x : Int) : takenN (l ++ [x]) = takenN l + wt x := by
  induction l with
  | nil => simp [takenN]
  | cons y l ih => simp only [List.cons_append, takenN, ih]; omega
theorem used_take (l : List Int) (k : Nat) (h : k < l.length) : usedN (l.take (k + 1)) = usedN (l.take k) + (if 0 < l.getD k 0 then 1 else 0) := by
  rw [take_snoc l k h, used_snoc]
theorem taken_take (l : List Int) (k : Nat) (h : k < l.length) : takenN (l.take (k + 1)) = takenN (l.take k) + wt (l.getD k 0) := by
  rw [take_snoc l k h, taken_snoc]
theorem used_le (l : List Int) : usedN l ≤ l.length := by
  induction l with
  | nil => simp [usedN]
  | cons y l ih => simp only [usedN, List.length_cons]; split <;> omega
theorem wt_le (x : Int) : wt x ≤ 65536 := by
  unfold wt; split
  · have : (2 : Nat) ^ (16 - x.toNat) ≤ 2 ^ 16 := Nat.pow_le_pow_right (by decide) (by omega)
    omega
  · omega
theorem taken_le (l : List Int) : takenN l ≤ 65536 * l.length := by
  induction l with
  | nil => simp [takenN]
  | cons y l ih => simp only [takenN, List.length_cons]; have := wt_le y; omega
theorem taken_none (l : List Int) (h : usedN l = 0) : takenN l = 0 := by
  induction l with
  | nil => rfl
  | cons y l ih =>
    simp only [usedN] at h
    simp only [takenN]
    have h1 : ¬ 0 < y := by intro hy; rw [if_pos hy] at h; omega
    rw [ih (by omega)]
    unfold wt; rw [if_neg h1]
theorem inB_at {l : List Int} (h : inB l = true) (k : Nat) : 0 ≤ l.getD k 0 ∧ l.getD k 0 ≤ 16 := by
  unfold inB at h
  rw [List.all_eq_true] at h
  rw [List.getD_eq_getElem?_getD]
  by_cases hk : k < l.length
  · rw [List.getElem?_eq_getElem hk]
    simpa using h _ (List.getElem_mem hk)
  · rw [List.getElem?_eq_none (by omega)]; simp
theorem inB_mk {l : List Int} (h : ∀ k, k < l.length → 0 ≤ l.getD k 0 ∧ l.getD k 0 ≤ 16) : inB l = true := by
  unfold inB
  rw [List.all_eq_true]
  intro x hx
  obtain ⟨k, hk, rfl⟩ := List.mem_iff_getElem.1 hx
  have := h k hk
  rw [List.getD_eq_getElem?_getD, List.getElem?_eq_getElem hk] at this
  simpa using this
theorem inB_not {l : List Int} (k : Nat) (hk : k < l.length) (h : ¬ (0 ≤ l.getD k 0 ∧ l.getD k 0 ≤ 16)) : inB l = false := by
  cases hh : inB l
  · rfl
  · exact absurd (inB_at hh k) h
theorem right_not_len {l : List Int} (h : l.length < 2 ∨ 64 < l.length) : rightL l = false := by
  unfold rightL; rw [decide_eq_false_iff_not]; omega
theorem right_not_in {l : List Int} (h : inB l = false) : rightL l = false := by
  unfold rightL; rw [decide_eq_false_iff_not, h]; simp
theorem right_parts {l : List Int} (h : rightL l = true) : 2 ≤ l.length ∧ l.length ≤ 64 ∧ inB l = true ∧ (usedN l = 1 → takenN l = 32768) ∧ (usedN l ≠ 1 → takenN l = 65536 ∧ 2 ≤ usedN l) := by
  unfold rightL at h
  rw [decide_eq_true_eq] at h
  refine ⟨h.1, h.2.1, h.2.2.1, fun h1 => ?_, fun h1 => ?_⟩
  · have := h.2.2.2; rwa [if_pos h1] at this
  · have := h.2.2.2; rw [if_neg h1] at this
    refine ⟨this, ?_⟩
    rcases Nat.lt_or_ge (usedN l) 2 with h2 | h2
    · have := taken_none l (by omega); omega
    · exact h2
theorem right_end {l : List Int} (h1 : 2 ≤ l.length) (h2 : l.length ≤ 64) (h3 : inB l = true) : rightL l = if usedN l = 1 then decide (takenN l = 32768) else decide (takenN l = 65536) := by
  unfold rightL
  by_cases h : usedN l = 1
  · simp [h1, h2, h3, h]
  · simp [h1, h2, h3, h]

/-! ### the codes -/
def F (l : List Int) : Nat → Nat
  | 0 => 0
  | n + 1 => 2 * (F l n + if n = 0 then 0 else l.count (n : Int))
def cd (l : List Int) (s : Nat) : Nat := F l (l.getD s 0).toNat + (l.take s).count (l.getD s 0)
def codeAt (l : List Int) (s : Nat) : Int := if 0 < l.getD s 0 then (cd l s : Int) else 0
def codesL (l : List Int) : List Int := (List.range l.length).map (codeAt l)

theorem F_le (l : List Int) (h : l.length ≤ 64) (n : Nat) : F l n + 128 ≤ 128 * 2 ^ n := by
  induction n with
  | zero => simp [F]
  | succ n ih =>
    simp only [F, Nat.pow_succ]
    have : (if n = 0 then 0 else l.count (n : Int)) ≤ 64 := by
      split
      · omega
      · exact Nat.le_trans List.count_le_length h
    omega
theorem F_small (l : List Int) (h : l.length ≤ 64) (n : Nat) (hn : n ≤ 16) : F l n ≤ 8388480 := by
  have h1 := F_le l h n
  have h2 : (2 : Nat) ^ n ≤ 2 ^ 16 := Nat.pow_le_pow_right (by decide) hn
  omega
theorem count_take_le (l : List Int) (k : Nat) (x : Int) : (l.take k).count x ≤ l.count x := (List.take_sublist k l).count_le x
theorem count_take (l : List Int) (k : Nat) (h : k < l.length) (x : Int) : (l.take (k + 1)).count x = (l.take k).count x + (if l.getD k 0 = x then 1 else 0) := by
  rw [take_snoc l k h, List.count_append]
  congr 1
  rw [List.count_singleton]
  by_cases hx : l.getD k 0 = x
  · simp [hx]
  · rw [if_neg hx, if_neg (by simpa using hx)]
theorem count_take_mono (l : List Int) (i j : Nat) (h : i ≤ j) (x : Int) : (l.take i).count x ≤ (l.take j).count x := by
  have : l.take i = (l.take j).take i := by rw [List.take_take, Nat.min_eq_left h]
  rw [this]
  exact count_take_le _ _ _
theorem F_grow (l : List Int) (n d : Nat) (h : 1 ≤ n) : (F l n + l.count (n : Int)) * 2 ^ (d + 1) ≤ F l (n + 1 + d) := by
  induction d with
  | zero =>
    simp only [F, Nat.add_zero]
    rw [if_neg (by omega)]
    simp; omega
  | succ d ih =>
    have e : F l (n + 1 + (d + 1)) = 2 * (F l (n + 1 + d) + l.count ((n + 1 + d : Nat) : Int)) := by
      show 2 * (F l (n + 1 + d) + if n + 1 + d = 0 then 0 else l.count ((n + 1 + d : Nat) : Int)) = _
      rw [if_neg (by omega)]
    rw [e, Nat.pow_succ 2 (d + 1), ← Nat.mul_assoc]
    omega
theorem cd_lt (l : List Int) (s : Nat) (hs : s < l.length) (h : 0 < l.getD s 0) : cd l s + 1 ≤ F l (l.getD s 0).toNat + l.count (l.getD s 0) := by
  unfold cd
  have h1 := count_take l s hs (l.getD s 0)
  rw [if_pos rfl] at h1
  have h2 := count_take_le l (s + 1) (l.getD s 0)
  omega
theorem cd_small (l : List Int) (h : l.length ≤ 64) (hb : inB l = true) (s : Nat) : cd l s ≤ 8388544 := by
  unfold cd
  have h1 := F_small l h (l.getD s 0).toNat (by have := inB_at hb s; omega)
  have h2 : (l.take s).count (l.getD s 0) ≤ 64 := Nat.le_trans (count_take_le _ _ _) (Nat.le_trans List.count_le_length h)
  omega
theorem cd_apart (l : List Int) (a b : Nat) (ha : a < l.length) (hb : b < l.length) (hne : a ≠ b) (h0 : 0 < l.getD a 0) (hle : l.getD a 0 ≤ l.getD b 0) : cd l b / 2 ^ ((l.getD b 0).toNat - (l.getD a 0).toNat) ≠ cd l a := by
  by_cases he : l.getD a 0 = l.getD b 0
  · rw [← he, Nat.sub_self, Nat.pow_zero, Nat.div_one]
    unfold cd
    rw [← he]
    rcases Nat.lt_or_ge a b with h | h
    · have h1 := count_take l a ha (l.getD a 0)
      rw [if_pos rfl] at h1
      have h2 := count_take_mono l (a + 1) b (by omega) (l.getD a 0)
      omega
    · have h1 := count_take l b hb (l.getD a 0)
      rw [if_pos he.symm] at h1
      have h2 := count_take_mono l (b + 1) a (by omega) (l.getD a 0)
      omega
  · have h1 := cd_lt l a ha h0
    obtain ⟨n, hn⟩ : ∃ n : Nat, l.getD a 0 = n := ⟨_, (Int.toNat_of_nonneg (by omega)).symm⟩
    obtain ⟨m, hm⟩ : ∃ m : Nat, l.getD b 0 = m := ⟨_, (Int.toNat_of_nonneg (by omega)).symm⟩
    rw [hn] at h1 h0 hle he
    rw [hm] at hle he
    rw [hn, hm]
    simp only [Int.toNat_natCast] at h1 ⊢
    obtain ⟨d, rfl⟩ : ∃ d, m = n + 1 + d := ⟨m - n - 1, by omega⟩
    have h2 := F_grow l n d (by omega)
    have h3 : F l (n + 1 + d) ≤ cd l b := by unfold cd; rw [hm, Int.toNat_natCast]; omega
    rw [show n + 1 + d - n = d + 1 by omega]
    have h4 : (cd l a + 1) * 2 ^ (d + 1) ≤ cd l b := Nat.le_trans (Nat.mul_le_mul_right _ h1) (Nat.le_trans h2 h3)
    have h5 : cd l a + 1 ≤ cd l b / 2 ^ (d + 1) := (Nat.le_div_iff_mul_le (Nat.two_pow_pos _)).2 h4
    omega

/-! ### all there is -/
def S (l : List Int) : Nat → Nat
  | 0 => 0
  | n + 1 => S l n + if n = 0 then 0 else l.count (n : Int) * 2 ^ (16 - n)
theorem F_S (l : List Int) (n : Nat) (h : n ≤ 16) : F l n * 2 ^ (16 - n) = S l n := by
  induction n with
  | zero => simp [F, S]
  | succ n ih =>
    have ih := ih (by omega)
    simp only [F, S]
    have e : 16 - n = (16 - (n + 1)) + 1 := by omega
    rw [← ih, e, Nat.pow_succ]
    generalize 2 ^ (16 - (n + 1)) = P
    split
    · simp; rw [Nat.mul_comm P 2, ← Nat.mul_assoc, Nat.mul_comm 2]
    · generalize l.count (n : Int) = c
      generalize F l n = f
      rw [Nat.mul_comm P 2, ← Nat.mul_assoc, ← Nat.mul_assoc, ← Nat.add_mul, Nat.mul_comm 2, ← Nat.add_mul]
theorem S_cons (x : Int) (l : List Int) (n : Nat) : S (x :: l) n = S l n + (if 0 < x ∧ x < n then wt x else 0) := by
  induction n with
  | zero =>
    simp only [S]
    rw [if_neg (by omega)]
  | succ n ih =>
    simp only [S, ih]
    by_cases hn : n = 0
    · subst hn
      simp only [if_true, Nat.add_zero, Nat.zero_add]
      rw [if_neg (by omega), if_neg (by omega)]
    · rw [if_neg hn, if_neg hn, List.count_cons]
      have e1 : (if 0 < x ∧ x < ((n + 1 : Nat) : Int) then wt x else 0) = (if 0 < x ∧ x < (n : Int) then wt x else 0) + (if x = n then 2 ^ (16 - n) else 0) := by
        by_cases hx : x = n
        · have hw : wt x = 2 ^ (16 - n) := by unfold wt; rw [if_pos (by omega), hx]; simp
          rw [if_pos (by omega), if_neg (by omega), if_pos hx, hw]; omega
        · rw [if_neg hx]
          by_cases hc : 0 < x ∧ x < n
          · rw [if_pos (by omega), if_pos hc]; rfl
          · rw [if_neg (by omega), if_neg hc]
      have e2 : (l.count (n : Int) + if (x == (n : Int)) = true then 1 else 0) * 2 ^ (16 - n) = l.count (n : Int) * 2 ^ (16 - n) + (if x = n then 2 ^ (16 - n) else 0) := by
        by_cases hx : x = n
        · rw [if_pos hx, if_pos (by simpa using hx), Nat.add_mul, Nat.one_mul]
        · rw [if_neg hx, if_neg (by simpa using hx), Nat.add_zero, Nat.add_zero]
      rw [e1, e2]
      omega
theorem S_taken (l : List Int) (h : inB l = true) : S l 17 = takenN l := by
  induction l with
  | nil => simp [S, takenN]
  | cons x l ih =>
    unfold inB at h
    simp only [List.all_cons, Bool.and_eq_true, decide_eq_true_eq] at h
    rw [S_cons, ih (by unfold inB; exact h.2), takenN]
    by_cases hx : 0 < x
    · rw [if_pos (by omega)]; omega
    · rw [if_neg (by omega)]; unfold wt; rw [if_neg hx]; omega
theorem S_from (l : List Int) (m d : Nat) (h : ∀ x ∈ l, x ≤ m) : S l (m + 1 + d) = S l (m + 1) := by
  induction d with
  | zero => rfl
  | succ d ih =>
    show S l (m + 1 + d) + (if m + 1 + d = 0 then 0 else l.count ((m + 1 + d : Nat) : Int) * 2 ^ (16 - (m + 1 + d))) = _
    have : l.count ((m + 1 + d : Nat) : Int) = 0 := by
      rw [List.count_eq_zero]
      intro hm
      have := h _ hm
      omega
    rw [ih, this]; simp
/-- The codes of so many bits as the longest one fill all. -/
theorem full (l : List Int) (h : inB l = true) (ht : takenN l = 65536) (m : Nat) (h0 : 1 ≤ m) (h1 : m ≤ 16) (hm : ∀ x ∈ l, x ≤ m) : F l m + l.count (m : Int) = 2 ^ m := by
  have e1 := S_taken l h
  have e2 := S_from l m (16 - m) hm
  rw [show m + 1 + (16 - m) = 17 by omega, e1, ht] at e2
  have e3 : S l (m + 1) = (F l m + l.count (m : Int)) * 2 ^ (16 - m) := by
    simp only [S]
    rw [if_neg (by omega), ← F_S l m h1, Nat.add_mul]
  rw [e3] at e2
  have e4 : (2 : Nat) ^ m * 2 ^ (16 - m) = 65536 := by rw [← Nat.pow_add, show m + (16 - m) = 16 by omega]
  rw [← e4] at e2
  exact (Nat.eq_of_mul_eq_mul_right (Nat.two_pow_pos _) e2).symm
theorem count_nth (l : List Int) (x : Int) (j : Nat) (h : j < l.count x) : ∃ s, s < l.length ∧ l.getD s 0 = x ∧ (l.take s).count x = j := by
  induction l generalizing j with
  | nil => simp at h
  | cons y l ih =>
    rw [List.count_cons] at h
    by_cases hy : y = x
    · subst hy
      simp only [beq_self_eq_true, if_true] at h
      cases j with
      | zero => exact ⟨0, by simp, by simp, by simp⟩
      | succ j =>
        obtain ⟨s, h1, h2, h3⟩ := ih j (by omega)
        exact ⟨s + 1, by simp; omega, by simpa using h2, by rw [List.take_succ_cons, List.count_cons, h3]; simp⟩
    · have e : (y == x) = false := by simpa using hy
      rw [e] at h
      obtain ⟨s, h1, h2, h3⟩ := ih j (by simpa using h)
      exact ⟨s + 1, by simp; omega, by simpa using h2, by rw [List.take_succ_cons, List.count_cons, h3, e]; simp⟩
theorem some_code (l : List Int) (m v : Nat) (hf : F l m + l.count (m : Int) = 2 ^ m) (h0 : 1 ≤ m) (hv : v < 2 ^ m) : ∃ s, s < l.length ∧ 0 < l.getD s 0 ∧ l.getD s 0 ≤ m ∧ cd l s = v / 2 ^ (m - (l.getD s 0).toNat) := by
  have key : ∀ n, n ≤ m → (∃ s, s < l.length ∧ 0 < l.getD s 0 ∧ l.getD s 0 ≤ m ∧ cd l s = v / 2 ^ (m - (l.getD s 0).toNat)) ∨ F l n + (if n = 0 then 0 else l.count (n : Int)) ≤ v / 2 ^ (m - n) := by
    intro n
    induction n with
    | zero => intro _; right; simp [F]
    | succ n ih =>
      intro hn
      rcases ih (by omega) with h | h
      · exact .inl h
      · have e1 : v / 2 ^ (m - n) * 2 ≤ v / 2 ^ (m - (n + 1)) := by
          have : 2 ^ (m - n) = 2 ^ (m - (n + 1)) * 2 := by rw [← Nat.pow_succ]; congr 1; omega
          rw [this, ← Nat.div_div_eq_div_mul]
          omega
        have e2 : F l (n + 1) ≤ v / 2 ^ (m - (n + 1)) := by
          simp only [F]; omega
        by_cases hc : F l (n + 1) + l.count ((n + 1 : Nat) : Int) ≤ v / 2 ^ (m - (n + 1))
        · right; rw [if_neg (by omega)]; exact hc
        · left
          obtain ⟨s, h1, h2, h3⟩ := count_nth l ((n + 1 : Nat) : Int) (v / 2 ^ (m - (n + 1)) - F l (n + 1)) (by omega)
          refine ⟨s, h1, by rw [h2]; omega, by rw [h2]; omega, ?_⟩
          unfold cd
          rw [h2, h3, Int.toNat_natCast]
          omega
  rcases key m (Nat.le_refl _) with h | h
  · exact h
  · rw [if_neg (by omega), hf, Nat.sub_self, Nat.pow_zero, Nat.div_one] at h
    omega

/-! ### bits, the highest one first -/
def hv (V p : Nat) : Nat → Nat
  | 0 => 0
  | k + 1 => 2 * hv V p k + V / 2 ^ (p + k) % 2
theorem hv_lt (V p k : Nat) : hv V p k < 2 ^ k := by
  induction k with
  | zero => simp [hv]
  | succ k ih => simp only [hv, Nat.pow_succ]; omega
theorem hv_up (V p n d : Nat) : hv V p (n + d) / 2 ^ d = hv V p n := by
  induction d with
  | zero => simp
  | succ d ih =>
    show (2 * hv V p (n + d) + V / 2 ^ (p + (n + d)) % 2) / 2 ^ (d + 1) = _
    rw [Nat.pow_succ, Nat.mul_comm (2 ^ d) 2, ← Nat.div_div_eq_div_mul]
    rw [show (2 * hv V p (n + d) + V / 2 ^ (p + (n + d)) % 2) / 2 = hv V p (n + d) by omega, ih]
/-- The code of the symbol s lies at the place p. -/
def Mt (l : List Int) (V T p s : Nat) : Prop := s < l.length ∧ 0 < l.getD s 0 ∧ p + (l.getD s 0).toNat ≤ T ∧ hv V p (l.getD s 0).toNat = cd l s
instance (l : List Int) (V T p s : Nat) : Decidable (Mt l V T p s) := by unfold Mt; exact inferInstance
theorem Mt.one {l : List Int} {V T p a b : Nat} (ha : Mt l V T p a) (hb : Mt l V T p b) : a = b := by
  rcases Decidable.em (a = b) with h | hne
  · exact h
  · exfalso
    obtain ⟨a1, a2, a3, a4⟩ := ha
    obtain ⟨b1, b2, b3, b4⟩ := hb
    have key : ∀ x y, x < l.length → y < l.length → x ≠ y → 0 < l.getD x 0 → l.getD x 0 ≤ l.getD y 0 → hv V p (l.getD x 0).toNat = cd l x → hv V p (l.getD y 0).toNat = cd l y → False := by
      intro x y hx hy hxy h0 hle ex ey
      refine cd_apart l x y hx hy hxy h0 hle ?_
      rw [← ex, ← ey]
      have := hv_up V p (l.getD x 0).toNat ((l.getD y 0).toNat - (l.getD x 0).toNat)
      rw [show (l.getD x 0).toNat + ((l.getD y 0).toNat - (l.getD x 0).toNat) = (l.getD y 0).toNat by omega] at this
      exact this
    rcases Int.le_total (l.getD a 0) (l.getD b 0) with h | h
    · exact key a b a1 b1 hne a2 h a4 b4
    · exact key b a b1 a1 (Ne.symm hne) b2 h b4 a4
theorem Mt.some {l : List Int} (h : inB l = true) (ht : takenN l = 65536) {m : Nat} (h0 : 1 ≤ m) (h1 : m ≤ 16) (hm : ∀ x ∈ l, x ≤ m) {V T p : Nat} (hp : p + m ≤ T) : ∃ s, Mt l V T p s ∧ l.getD s 0 ≤ m := by
  obtain ⟨s, s1, s2, s3, s4⟩ := some_code l m (hv V p m) (full l h ht m h0 h1 hm) h0 (hv_lt _ _ _)
  refine ⟨s, ⟨s1, s2, by omega, ?_⟩, s3⟩
  rw [s4]
  have := hv_up V p (l.getD s 0).toNat (m - (l.getD s 0).toNat)
  rw [show (l.getD s 0).toNat + (m - (l.getD s 0).toNat) = m by omega] at this
  exact this.symm
/-- What is read at the place p: the symbol, if one is there. -/
def findS (l : List Int) (V T p : Nat) : Option Nat := (List.range l.length).find? fun s => decide (Mt l V T p s)
theorem find_some {l : List Int} {V T p s : Nat} (h : Mt l V T p s) : findS l V T p = some s := by
  cases hf : findS l V T p with
  | none =>
    unfold findS at hf
    rw [List.find?_eq_none] at hf
    have := hf s (by simpa using h.1)
    simp [h] at this
  | some t =>
    have : Mt l V T p t := by
      unfold findS at hf
      simpa using List.find?_some hf
    rw [this.one h]
theorem find_none {l : List Int} {V T p : Nat} (h : ∀ s, ¬ Mt l V T p s) : findS l V T p = none := by
  unfold findS
  rw [List.find?_eq_none]
  intro s _
  simpa using h s
theorem of_find {l : List Int} {V T p s : Nat} (h : findS l V T p = some s) : Mt l V T p s := by
  unfold findS at h
  simpa using List.find?_some h
theorem of_find_none {l : List Int} {V T p : Nat} (h : findS l V T p = none) (s : Nat) : ¬ Mt l V T p s := by
  intro hm; rw [find_some hm] at h; cases h
theorem used_one_lt {l : List Int} (a b : Nat) (ha : a < l.length) (hb : b < l.length) (hne : a ≠ b) (h1 : 0 < l.getD a 0) (h2 : 0 < l.getD b 0) : 2 ≤ usedN l := by
  have key : ∀ a b, a < b → b < l.length → 0 < l.getD a 0 → 0 < l.getD b 0 → 2 ≤ usedN l := by
    intro a b hab hb h1 h2
    have mono : ∀ i d, i + d ≤ l.length → usedN (l.take i) ≤ usedN (l.take (i + d)) := by
      intro i d
      induction d with
      | zero => intro _; exact Nat.le_refl _
      | succ d ih =>
        intro hd
        have := used_take l (i + d) (by omega)
        have := ih (by omega)
        rw [show i + (d + 1) = i + d + 1 by omega]
        omega
    have e1 := used_take l a (by omega)
    have e2 := used_take l b hb
    rw [if_pos h1] at e1
    rw [if_pos h2] at e2
    have m1 := mono (a + 1) (b - (a + 1)) (by omega)
    rw [show a + 1 + (b - (a + 1)) = b by omega] at m1
    have m2 := mono (b + 1) (l.length - (b + 1)) (by omega)
    rw [show b + 1 + (l.length - (b + 1)) = l.length by omega, List.take_length] at m2
    omega
  rcases Nat.lt_or_ge a b with h | h
  · exact key a b h hb h1 h2
  · exact key b a (by omega) ha h2 h1
theorem used_pos {l : List Int} (h : 1 ≤ usedN l) : ∃ s, s < l.length ∧ 0 < l.getD s 0 := by
  induction l with
  | nil => simp [usedN] at h
  | cons x l ih =>
    by_cases hx : 0 < x
    · exact ⟨0, by simp, by simpa using hx⟩
    · simp only [usedN] at h
      rw [if_neg hx] at h
      obtain ⟨s, h1, h2⟩ := ih (by omega)
      exact ⟨s + 1, by simp; omega, by simpa using h2⟩
theorem taken_two {l : List Int} (s : Nat) (hs : s < l.length) : wt (l.getD s 0) ≤ takenN l := by
  induction l generalizing s with
  | nil => simp at hs
  | cons x l ih =>
    cases s with
    | zero => simp [takenN]
    | succ s => simp only [takenN, List.getD_cons_succ]; have := ih s (by simpa using hs); omega
theorem taken_one {l : List Int} (h : usedN l = 1) (s : Nat) (hs : s < l.length) (h0 : 0 < l.getD s 0) : takenN l = wt (l.getD s 0) := by
  induction l generalizing s with
  | nil => simp at hs
  | cons x l ih =>
    simp only [usedN] at h
    cases s with
    | zero =>
      simp only [List.getD_cons_zero] at h0 ⊢
      rw [if_pos h0] at h
      simp only [takenN]; rw [taken_none l (by omega)]; omega
    | succ s =>
      simp only [List.getD_cons_succ] at h0 ⊢
      have hx : ¬ 0 < x := by
        intro hx
        rw [if_pos hx] at h
        have := taken_none l (by omega)
        have h2 := taken_two (l := l) s (by simpa using hs)
        unfold wt at h2; rw [if_pos h0] at h2
        have := Nat.two_pow_pos (16 - (l.getD s 0).toNat)
        omega
      rw [if_neg hx] at h
      simp only [takenN]
      rw [ih (by omega) s (by simpa using hs) h0]
      have : wt x = 0 := by unfold wt; rw [if_neg hx]
      omega
/-- The one symbol that is used has one bit. -/
theorem one_bit {l : List Int} (hr : rightL l = true) (h : usedN l = 1) (s : Nat) (hs : s < l.length) (h0 : 0 < l.getD s 0) : l.getD s 0 = 1 := by
  obtain ⟨_, _, hb, ht, _⟩ := right_parts hr
  have h1 := taken_one h s hs h0
  rw [ht h] at h1
  have h2 := inB_at hb s
  obtain ⟨n, hn⟩ : ∃ n : Nat, l.getD s 0 = n := ⟨_, (Int.toNat_of_nonneg (by omega)).symm⟩
  rw [hn] at h1 h2 h0 ⊢
  unfold wt at h1
  rw [if_pos (by omega), Int.toNat_natCast] at h1
  rcases Nat.lt_or_ge 1 n with h3 | h3
  · have : (2 : Nat) ^ (16 - n) ≤ 2 ^ 14 := Nat.pow_le_pow_right (by decide) (by omega)
    omega
  · omega
end Go.Proofs.Ytdgacbelpenmmaa
