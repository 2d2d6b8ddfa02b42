/- Contracts of asItWas and Write: a code's bits behind a writer's, from the highest one on. -/
import Derived.Test.YtnlahpnpajadpaaXg
import Derived.Test.YtnlahpnpajadpaaWj
import Derived.Test.YtnlahpnpajadpaaWm
import Derived.Deep.RegionHeld3
namespace Go.Proofs.Ytnlahpnpajadpaa
open Go.RowKit Go.Maps
set_option linter.unusedVariables false
set_option linter.unusedSimpArgs false

theorem right_byL (X N : Nat) (hX : X < 2 ^ N) (hN : N ≤ 32000) : rightB (byL X ((N + 7) / 8)) N = true ∧ bv (byL X ((N + 7) / 8)) = X := by
  have h : bv (byL X ((N + 7) / 8)) = X := by
    rw [byL_bv, Nat.mod_eq_of_lt]
    refine Nat.lt_of_lt_of_le hX ?_
    rw [pow256]
    exact Nat.pow_le_pow_right (by decide) (by omega)
  exact ⟨by rw [rightB_nat, decide_eq_true_eq, h, byL_length]; exact ⟨hN, rfl, hX⟩, h⟩
theorem good_byL (X N : Nat) (hX : X < 2 ^ N) (hN : N ≤ 32000) : goodX (byL X ((N + 7) / 8)) N = byL X ((N + 7) / 8) ∧ goodN (byL X ((N + 7) / 8)) N = N := by
  unfold goodX goodN
  rw [if_pos (right_byL X N hX hN).1, if_pos (right_byL X N hX hN).1]
  exact ⟨rfl, rfl⟩
/-- A writer that stands for the number X of N bits. -/
def Stands (xs : List Int) (M : Int) (X N : Nat) : Prop := goodX xs M = byL X ((N + 7) / 8) ∧ goodN xs M = N ∧ X < 2 ^ N ∧ N ≤ 32000
theorem Stands.mk {xs : List Int} (hx : Byts xs) (M : Int) : ∃ X N : Nat, Stands xs M X N := by
  obtain ⟨N, h1, h2, h3, h4⟩ := goodN_nat xs M
  refine ⟨bv (goodX xs M), N, ?_, h1, h4, h2⟩
  have := byL_eq (good_byts hx M) rfl
  rw [h3] at this
  exact this
theorem Stands.put_ok {xs : List Int} {M : Int} {X N V : Nat} (h : Stands xs M X N) (hV : V < 2) (hN : N + 1 ≤ 32000) :
    putE xs M V 1 = 0 ∧ putN xs M V 1 = ((N + 1 : Nat) : Int) ∧ putX xs M V 1 = byL (X + V * 2 ^ N) ((N + 1 + 7) / 8) ∧ Stands (byL (X + V * 2 ^ N) ((N + 1 + 7) / 8)) ((N + 1 : Nat) : Int) (X + V * 2 ^ N) (N + 1) := by
  obtain ⟨h1, h2, h3, h4⟩ := h
  have hX : X + V * 2 ^ N < 2 ^ (N + 1) := by
    rw [Nat.pow_succ]
    have : V = 0 ∨ V = 1 := by omega
    rcases this with rfl | rfl <;> omega
  have e : putE xs M V 1 = 0 := by
    unfold putE
    rw [if_pos ⟨by decide, by decide, by simpa using hV⟩, h2, if_pos (by omega)]
  refine ⟨e, ?_, ?_, ?_⟩
  · unfold putN; rw [if_pos e, h2]; omega
  · unfold putX; rw [if_pos e, h1, h2, (right_byL X N h3 h4).2]; rfl
  · obtain ⟨g1, g2⟩ := good_byL (X + V * 2 ^ N) (N + 1) hX hN
    exact ⟨g1, g2, hX, hN⟩
theorem Stands.put_full {xs : List Int} {M : Int} {X N V : Nat} (h : Stands xs M X N) (hV : V < 2) (hN : 32000 < N + 1) : putE xs M V 1 = 3 := by
  obtain ⟨h1, h2, h3, h4⟩ := h
  unfold putE
  rw [if_pos ⟨by decide, by decide, by simpa using hV⟩, h2, if_neg (by omega)]

/-- The first j bits of a code of n bits, from the highest one on, as a number whose lowest bit is the first. -/
def rvb (C n : Nat) : Nat → Nat
  | 0 => 0
  | j + 1 => rvb C n j + C / 2 ^ (n - 1 - j) % 2 * 2 ^ j
theorem rvb_lt (C n j : Nat) : rvb C n j < 2 ^ j := by
  induction j with
  | zero => simp [rvb]
  | succ j ih =>
    simp only [rvb, Nat.pow_succ]
    have : C / 2 ^ (n - 1 - j) % 2 = 0 ∨ C / 2 ^ (n - 1 - j) % 2 = 1 := by omega
    rcases this with h | h <;> rw [h] <;> omega
theorem bit_low (X R N i : Nat) (h : i < N) : (X + R * 2 ^ N) / 2 ^ i % 2 = X / 2 ^ i % 2 := by
  obtain ⟨d, rfl⟩ : ∃ d, N = i + 1 + d := ⟨N - i - 1, by omega⟩
  rw [Nat.add_assoc, Nat.pow_add, ← Nat.mul_assoc, Nat.mul_comm R, Nat.mul_assoc, Nat.add_mul_div_left _ _ (Nat.two_pow_pos _), Nat.add_comm 1 d, Nat.pow_succ, ← Nat.mul_assoc]
  omega
theorem bit_high (X R N i : Nat) (hX : X < 2 ^ N) : (X + R * 2 ^ N) / 2 ^ (N + i) % 2 = R / 2 ^ i % 2 := by
  rw [Nat.pow_add, ← Nat.div_div_eq_div_mul, Nat.add_mul_div_right _ _ (Nat.two_pow_pos _), Nat.div_eq_of_lt hX, Nat.zero_add]
theorem rvb_bit (C n j i : Nat) (hi : i < j) : rvb C n j / 2 ^ i % 2 = C / 2 ^ (n - 1 - i) % 2 := by
  induction j with
  | zero => omega
  | succ j ih =>
    simp only [rvb]
    rcases Nat.lt_or_ge i j with h | h
    · rw [bit_low _ _ _ _ h, ih h]
    · have : i = j := by omega
      subst this
      have := bit_high (rvb C n i) (C / 2 ^ (n - 1 - i) % 2) i 0 (rvb_lt C n i)
      rw [Nat.add_zero] at this
      rw [this]; simp
theorem hv_same (V V' p n : Nat) (h : ∀ i, i < n → V / 2 ^ (p + i) % 2 = V' / 2 ^ (p + i) % 2) : hv V p n = hv V' p n := by
  induction n with
  | zero => rfl
  | succ n ih =>
    simp only [hv]
    rw [ih (fun i hi => h i (by omega)), h n (by omega)]
/-- The bits that were written are the code's. -/
theorem hv_written (X C n N : Nat) (hX : X < 2 ^ N) (hC : C < 2 ^ n) : hv (X + rvb C n n * 2 ^ N) N n = C := by
  have key : ∀ k, k ≤ n → hv (X + rvb C n n * 2 ^ N) N k = C / 2 ^ (n - k) := by
    intro k
    induction k with
    | zero => intro _; rw [Nat.sub_zero, Nat.div_eq_of_lt hC]; rfl
    | succ k ih =>
      intro hk
      rw [hv_step _ _ C n k (by omega) (ih (by omega)), bit_high _ _ _ _ hX, rvb_bit C n n k (by omega)]
  have := key n (Nat.le_refl _)
  rwa [Nat.sub_self, Nat.pow_zero, Nat.div_one] at this
theorem and1_u32 (x : Int) (h0 : 0 ≤ x) (h1 : x < 2 ^ 32) : bits .and .u32 x 1 = x % 2 := by
  have := bits_mask .u32 32 (by decide) wraps_u32 1 (by decide) x h0 h1
  simpa using this

theorem put0 {xs : List Int} (hx : Byts xs) (M : Int) : putE xs M 0 0 = 0 ∧ putN xs M 0 0 = goodN xs M ∧ putX xs M 0 0 = goodX xs M := by
  obtain ⟨N, h1, h2, h3, h4⟩ := goodN_nat xs M
  have e : putE xs M 0 0 = 0 := by
    unfold putE
    rw [if_pos ⟨by decide, by decide, by decide⟩, h1, if_pos (by omega)]
  refine ⟨e, ?_, ?_⟩
  · unfold putN; rw [if_pos e]; omega
  · unfold putX
    rw [if_pos e, h1]
    have := byL_eq (good_byts hx M) rfl
    rw [h3] at this
    simpa using this.symm
/-- No bits are put: the writer that stands there. -/
theorem put0_any (a : Option Addr) (cap : Nat) (xs : List Int) (M : Int) (w : World) (hv : Rw .u8 w (.slice a xs.length cap) xs) (hx : Byts xs) :
    Calls Try.prog 26 #[.agg #[.slice a xs.length cap, .int .i64 M], .int .u64 0, .int .i64 0] w fun e w' => ∃ x c ys G, Hid (ys = goodX xs M) ∧ Hid (G = goodN xs M) ∧ e = .returned (.tuple #[.agg #[.slice x ys.length c, .int .i64 G], .int .i64 0]) ∧ RwF w.heap.size .u8 w' (.slice x ys.length c) ys ∧ Below w.heap.size w w' := by
  obtain ⟨e1, e2, e3⟩ := put0 hx M
  refine (put_any _ xs M 0 0 w hv hx (by decide)).mono ?_
  rintro e w' ⟨v', rfl, hr, hb⟩
  rw [e3] at hr
  obtain ⟨x, c, rfl, h⟩ := hr
  exact ⟨x, c, _, _, rfl, rfl, by rw [e1, e2], ⟨x, c, rfl, h⟩, hb⟩

set_option maxHeartbeats 1000000 in
theorem asitwas_any (a : Option Addr) (cap : Nat) (xs : List Int) (M : Int) (w : World) (hv : Rw .u8 w (.slice a xs.length cap) xs) (hx : Byts xs) :
    Calls Try.prog 25 #[.agg #[.slice a xs.length cap, .int .i64 M]] w fun e w' => ∃ x c ys G, Hid (ys = goodX xs M) ∧ Hid (G = goodN xs M) ∧ e = .returned (.agg #[.slice x ys.length c, .int .i64 G]) ∧ RwF w.heap.size .u8 w' (.slice x ys.length c) ys ∧ Below w.heap.size w w' := by
  have hW := below2 w (.cells #[.slice a xs.length cap, .int .i64 M] 34) (.cells #[.slice none 0 0, .int .i64 0] 34)
  have hv1 := hv.below hW
  go_enter Try.func25, Try.ntmps25
  go_wp2_with (go_at_call 26; refine (put0_any _ _ xs M _ hv1 hx).mono ?_; rintro e w1 ⟨x, c, ys, G, HY, HG, rfl, hrow, hb1⟩; obtain ⟨k0, k1, k2, k3, f0, f1, f2, f3, hz⟩ := two_boxes hb1)
  have hz1 := hb1.size
  simp at hz1
  have hBw := bthen hW hb1 hW.size
  have hB5 := bset2 hBw (w.heap.size + 1) (w.heap.size + 1) 0 1 (.slice x ys.length c) (.int .i64 G) (by omega) (by omega)
  have m2 : ((w1.setCell ⟨w.heap.size + 1, 0, none⟩ (.slice x ys.length c)).setCell ⟨w.heap.size + 1, 1, none⟩ (.int .i64 G)).cell? ⟨w.heap.size + 1, 0, none⟩ = some (.slice x ys.length c) := by simp [go_sem, k2, k3]
  have m3 : ((w1.setCell ⟨w.heap.size + 1, 0, none⟩ (.slice x ys.length c)).setCell ⟨w.heap.size + 1, 1, none⟩ (.int .i64 G)).cell? ⟨w.heap.size + 1, 1, none⟩ = some (.int .i64 G) := by simp [go_sem, k2, k3]
  have hr5 := (hrow.set (w.heap.size + 1) 0 (.slice x ys.length c) (by simp)).set (w.heap.size + 1) 1 (.int .i64 G) (by simp)
  have hz5 : w.heap.size + 1 < ((w1.setCell ⟨w.heap.size + 1, 0, none⟩ (.slice x ys.length c)).setCell ⟨w.heap.size + 1, 1, none⟩ (.int .i64 G)).heap.size := by simp [World.setCell]; omega
  generalize ((w1.setCell ⟨w.heap.size + 1, 0, none⟩ (.slice x ys.length c)).setCell ⟨w.heap.size + 1, 1, none⟩ (.int .i64 G)) = W5 at *
  have q := (bcell (below1 W5 (.cells #[.slice x ys.length c, .int .i64 G] 34))).1
  have n2 := (q _ _ hz5).trans m2
  have n3 := (q _ _ hz5).trans m3
  refine bodyPost_ret (v := .agg #[.slice x ys.length c, .int .i64 G]) (by simp [results, Try.results25, go_sem, n2, n3]) rfl ⟨x, c, ys, G, HY, HG, rfl, ?_, ?_⟩
  · exact (hr5.below (below1 W5 _)).mono (by simp; omega)
  · exact hB5.alloc hB5.size _
end Go.Proofs.Ytnlahpnpajadpaa
