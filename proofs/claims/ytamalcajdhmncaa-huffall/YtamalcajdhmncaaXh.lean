/- Contracts of asItWas and Write: a code's bits behind a writer's, from the highest one on. -/
import Derived.Test.YtamalcajdhmncaaXg
import Derived.Test.YtamalcajdhmncaaWj
import Derived.Test.YtamalcajdhmncaaWm
import Derived.Deep.RegionHeld3
namespace Go.Proofs.Ytamalcajdhmncaa
open Go.RowKit Go.Maps
set_option linter.unusedVariables false
set_option linter.unusedSimpArgs false

theorem right_byL (X N : Nat) (hX : X < 2 ^ N) (hN : N ≤ 32000) : rightB (byL X ((N + 7) / 8)) N = true ∧ bv (byL X ((N + 7) / 8)) = X := by
  have h : bv (byL X ((N + 7) / 8)) = X := by
    rw [byL_bv, Nat.mod_eq_of_lt]
    refine Nat.lt_of_lt_of_le hX ?_
    rw [pow256]
    exact Nat.pow_le_pow_right (by decide) (by omega)
  exact ⟨by rw [rightB_nat, decide_eq_true_eq, h, byL_length]; exact ⟨hN, rfl, hX⟩, h⟩
theorem good_byL (X N : Nat) (hX : X < 2 ^ N) (hN : N ≤ 32000) : goodX (byL X ((N + 7) / 8)) N = byL X ((N + 7) / 8) ∧ goodN (byL X ((N + 7) / 8)) N = N := by
  unfold goodX goodN
  rw [if_pos (right_byL X N hX hN).1, if_pos (right_byL X N hX hN).1]
  exact ⟨rfl, rfl⟩
/-- A writer that stands for the number X of N bits. -/
def Stands (xs : List Int) (M : Int) (X N : Nat) : Prop := goodX xs M = byL X ((N + 7) / 8) ∧ goodN xs M = N ∧ X < 2 ^ N ∧ N ≤ 32000
theorem Stands.mk {xs : List Int} (hx : Byts xs) (M : Int) : ∃ X N : Nat, Stands xs M X N := by
  obtain ⟨N, h1, h2, h3, h4⟩ := goodN_nat xs M
  refine ⟨bv (goodX xs M), N, ?_, h1, h4, h2⟩
  have := byL_eq (good_byts hx M) rfl
  rw [h3] at this
  exact this
theorem Stands.put_ok {xs : List Int} {M : Int} {X N V : Nat} (h : Stands xs M X N) (hV : V < 2) (hN : N + 1 ≤ 32000) :
    putE xs M V 1 = 0 ∧ putN xs M V 1 = ((N + 1 : Nat) : Int) ∧ putX xs M V 1 = byL (X + V * 2 ^ N) ((N + 1 + 7) / 8) ∧ Stands (byL (X + V * 2 ^ N) ((N + 1 + 7) / 8)) ((N + 1 : Nat) : Int) (X + V * 2 ^ N) (N + 1) := by
  obtain ⟨h1, h2, h3, h4⟩ := h
  have hX : X + V * 2 ^ N < 2 ^ (N + 1) := by
    rw [Nat.pow_succ]
    have : V = 0 ∨ V = 1 := by omega
    rcases this with rfl | rfl <;> omega
  have e : putE xs M V 1 = 0 := by
    unfold putE
    rw [if_pos ⟨by decide, by decide, by simpa using hV⟩, h2, if_pos (by omega)]
  refine ⟨e, ?_, ?_, ?_⟩
  · unfold putN; rw [if_pos e, h2]; omega
  · unfold putX; rw [if_pos e, h1, h2, (right_byL X N h3 h4).2]; rfl
  · obtain ⟨g1, g2⟩ := good_byL (X + V * 2 ^ N) (N + 1) hX hN
    exact ⟨g1, g2, hX, hN⟩
theorem Stands.put_full {xs : List Int} {M : Int} {X N V : Nat} (h : Stands xs M X N) (hV : V < 2) (hN : 32000 < N + 1) : putE xs M V 1 = 3 := by
  obtain ⟨h1, h2, h3, h4⟩ := h
  unfold putE
  rw [if_pos ⟨by decide, by decide, by simpa using hV⟩, h2, if_neg (by omega)]

/-- The first j bits of a code of n bits, from the highest one on, as a number whose lowest bit is the first. -/
def rvb (C n : Nat) : Nat → Nat
  | 0 => 0
  | j + 1 => rvb C n j + C / 2 ^ (n - 1 - j) % 2 * 2 ^ j
theorem rvb_lt (C n j : Nat) : rvb C n j < 2 ^ j := by
  induction j with
  | zero => simp [rvb]
  | succ j ih =>
    simp only [rvb, Nat.pow_succ]
    have : C / 2 ^ (n - 1 - j) % 2 = 0 ∨ C / 2 ^ (n - 1 - j) % 2 = 1 := by omega
    rcases this with h | h <;> rw [h] <;> omega
theorem bit_low (X R N i : Nat) (h : i < N) : (X + R * 2 ^ N) / 2 ^ i % 2 = X / 2 ^ i % 2 := by
  obtain ⟨d, rfl⟩ : ∃ d, N = i + 1 + d := ⟨N - i - 1, by omega⟩
  rw [Nat.add_assoc, Nat.pow_add, ← Nat.mul_assoc, Nat.mul_comm R, Nat.mul_assoc, Nat.add_mul_div_left _ _ (Nat.two_pow_pos _), Nat.add_comm 1 d, Nat.pow_succ, ← Nat.mul_assoc]
  omega
theorem bit_high (X R N i : Nat) (hX : X < 2 ^ N) : (X + R * 2 ^ N) / 2 ^ (N + i) % 2 = R / 2 ^ i % 2 := by
  rw [Nat.pow_add, ← Nat.div_div_eq_div_mul, Nat.add_mul_div_right _ _ (Nat.two_pow_pos _), Nat.div_eq_of_lt hX, Nat.zero_add]
theorem rvb_bit (C n j i : Nat) (hi : i < j) : rvb C n j / 2 ^ i % 2 = C / 2 ^ (n - 1 - i) % 2 := by
  induction j with
  | zero => omega
  | succ j ih =>
    simp only [rvb]
    rcases Nat.lt_or_ge i j with h | h
    · rw [bit_low _ _ _ _ h, ih h]
    · have : i = j := by omega
      subst this
      have := bit_high (rvb C n i) (C / 2 ^ (n - 1 - i) % 2) i 0 (rvb_lt C n i)
      rw [Nat.add_zero] at this
      rw [this]; simp
theorem hv_same (V V' p n : Nat) (h : ∀ i, i < n → V / 2 ^ (p + i) % 2 = V' / 2 ^ (p + i) % 2) : hv V p n = hv V' p n := by
  induction n with
  | zero => rfl
  | succ n ih =>
    simp only [hv]
    rw [ih (fun i hi => h i (by omega)), h n (by omega)]
/-- The bits that were written are the code's. -/
theorem hv_written (X C n N : Nat) (hX : X < 2 ^ N) (hC : C < 2 ^ n) : hv (X + rvb C n n * 2 ^ N) N n = C := by
  have key : ∀ k, k ≤ n → hv (X + rvb C n n * 2 ^ N) N k = C / 2 ^ (n - k) := by
    intro k
    induction k with
    | zero => intro _; rw [Nat.sub_zero, Nat.div_eq_of_lt hC]; rfl
    | succ k ih =>
      intro hk
      rw [hv_step _ _ C n k (by omega) (ih (by omega)), bit_high _ _ _ _ hX, rvb_bit C n n k (by omega)]
  have := key n (Nat.le_refl _)
  rwa [Nat.sub_self, Nat.pow_zero, Nat.div_one] at this
theorem and1_u32 (x : Int) (h0 : 0 ≤ x) (h1 : x < 2 ^ 32) : bits .and .u32 x 1 = x % 2 := by
  have := bits_mask .u32 32 (by decide) wraps_u32 1 (by decide) x h0 h1
  simpa using this

set_option maxHeartbeats 1000000 in
theorem asitwas_any (a : Option Addr) (cap : Nat) (xs : List Int) (M : Int) (w : World) (hv : Rw .u8 w (.slice a xs.length cap) xs) (hl : xs.length ≤ 100000) :
    Calls Try.prog 26 #[.agg #[.slice a xs.length cap, .int .i64 M]] w fun e w' => ∃ g, e = .returned (.agg #[.slice (some ⟨g, 0, none⟩) xs.length xs.length, .int .i64 M]) ∧ RwF w.heap.size .u8 w' (.slice (some ⟨g, 0, none⟩) xs.length xs.length) xs ∧ Below w.heap.size w w' := by
  obtain ⟨i0, hi, hz0, hz1, hz2⟩ := info_parts info5
  have hW := below2 w (.cells #[.slice a xs.length cap, .int .i64 M] 42) (.cells #[.slice none 0 0, .int .i64 0] 42)
  go_enter Try.func26, Try.ntmps26
  go_wp2_with (at_make; refine wpList_make_full _ rfl _ _ 32 rfl w.heap.size 5 i0 (.int .u8 0) 1 Try.underlying32 hi hz0 hz1 .i64 .i64 _ _ xs.length rfl rfl (by omega) (by omega) (by rw [hz2]; omega) (by unfold maxLen; omega) (by simp; omega) ?_)
  intro w1 hown1 hgrow1
  have hb1 := grown_of_none hgrow1
  have hBw : Below w.heap.size w w1 := bthen hW hb1 hW.size
  have hv1 := hv.below hBw
  have hfull := owns_full hown1
  rw [made_one] at hfull
  obtain ⟨hc1, hf1⟩ := bcell hb1
  clear hown1 hgrow1
  have q0 : w1.cell? ⟨w.heap.size, 0, none⟩ = some (.slice a xs.length cap) := by rw [hc1 _ _ (by simp; omega)]; simp [go_sem]
  go_wp2_with (refine wpList_copy_splice rfl (.tmp 8) (.tmp 10) 32 32 rfl 5 Try.underlying32 (by kernel_rfl) _ _ _ _ _ _ rfl rfl (w.heap.size + 1 + 1) 0 (List.replicate xs.length (.int .u8 0)) 5 hfull.1 (xs.map (Value.int .u8)) ?c1 ?c2 ?c3 ?c4 (w.heap.size + 1 + 1) w1 (Below.refl _ _) (Nat.le_refl _) ?_)
  case c1 => simp
  case c2 =>
    intro hpos
    obtain ⟨a', cap', he, ha⟩ := hv1
    simp only [Value.slice.injEq] at he
    obtain ⟨rfl, _, rfl⟩ := he
    obtain ⟨b, off, rfl, hb, hc⟩ := ha.resolve_left (by intro h; subst h; simp at hpos)
    refine ⟨_, rfl, fun j x hj => ?_⟩
    have hjl : j < xs.length := (List.getElem?_eq_some_iff.1 hj).1
    rw [Addr.add_lit, hc j hjl]
    simp [hj]
  case c3 => simp
  case c4 => exact ints_oneCell _ _
  intro w2 H2 hb2
  have hz2 := hb1.size
  have hz3 := hb2.size
  simp at hz2
  have k0 : w2.cell? ⟨w.heap.size, 0, none⟩ = some (.slice a xs.length cap) := by
    rw [hb2.cell (p := ⟨w.heap.size, 0, none⟩) (by show w.heap.size < _; omega), hc1 _ _ (by simp; omega)]; simp [go_sem]
  have k1 : w2.cell? ⟨w.heap.size, 1, none⟩ = some (.int .i64 M) := by
    rw [hb2.cell (p := ⟨w.heap.size, 1, none⟩) (by show w.heap.size < _; omega), hc1 _ _ (by simp; omega)]; simp [go_sem]
  have k2 : w2.cell? ⟨w.heap.size + 1, 0, none⟩ = some (.slice none 0 0) := by
    rw [hb2.cell (p := ⟨w.heap.size + 1, 0, none⟩) (by show w.heap.size + 1 < _; omega), hc1 _ _ (by simp)]; simp [go_sem]
  have k3 : w2.cell? ⟨w.heap.size + 1, 1, none⟩ = some (.int .i64 0) := by
    rw [hb2.cell (p := ⟨w.heap.size + 1, 1, none⟩) (by show w.heap.size + 1 < _; omega), hc1 _ _ (by simp)]; simp [go_sem]
  have f2 : w2.frozen? ⟨w.heap.size + 1, 0, none⟩ = false := by
    rw [hb2.frozen (p := ⟨w.heap.size + 1, 0, none⟩) (by show w.heap.size + 1 < _; omega), hf1 _ _ (by simp)]; simp [go_sem]
  have f3 : w2.frozen? ⟨w.heap.size + 1, 1, none⟩ = false := by
    rw [hb2.frozen (p := ⟨w.heap.size + 1, 1, none⟩) (by show w.heap.size + 1 < _; omega), hf1 _ _ (by simp)]; simp [go_sem]
  clear hc1 hf1 hv1 hfull hv q0
  go_wp2
  refine bodyPost_ret (v := .agg #[.slice (some ⟨w.heap.size + 1 + 1, 0, none⟩) xs.length xs.length, .int .i64 M]) (by simp [results, Try.results26, go_sem, k2, k3, f2, f3]) rfl ⟨_, rfl, ?_, ?_⟩
  · refine RwF.of_row (e := 5) ?_ rfl (by omega)
    rw [Below.heap_setCell _ _ _ _ (by simp), Below.heap_setCell _ _ _ _ (by simp), H2.out]
    simp [splice]
  · exact bset2 (hBw.trans (hb2.mono (by omega))) _ _ _ _ _ _ (by omega) (by omega)
end Go.Proofs.Ytamalcajdhmncaa
