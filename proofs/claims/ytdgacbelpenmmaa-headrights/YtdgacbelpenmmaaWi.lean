/- The contracts of both Gets, at every argument. -/
import Derived.Test.YtdgacbelpenmmaaWh
import Derived.Test.YtdgacbelpenmmaaWd
namespace Go.Proofs.Ytdgacbelpenmmaa
open Go.RowKit
set_option linter.unusedVariables false
set_option linter.unusedSimpArgs false

/-- What the document reads: the number and the error. -/
def getV (xs : List Int) (p n : Int) : Int := if 0 ≤ n ∧ n ≤ 32 ∧ 0 ≤ p ∧ p + n ≤ 8 * xs.length then ((bv xs / 2 ^ p.toNat % 2 ^ n.toNat : Nat) : Int) else 0
def getE (xs : List Int) (p n : Int) : Int := if 0 ≤ n ∧ n ≤ 32 ∧ 0 ≤ p then (if p + n ≤ 8 * xs.length then 0 else 4) else 1

theorem take_up (V p k n : Nat) (hk : k < n) : V / 2 ^ (p + k) % 2 ^ (n - k) = V / 2 ^ (p + (k + 1)) % 2 ^ (n - (k + 1)) * 2 + V / 2 ^ (p + k) % 2 := by
  have e : n - k = (n - (k + 1)) + 1 := by omega
  rw [e, Nat.pow_succ, Nat.mul_comm (2 ^ _) 2, Nat.mod_mul, ← Nat.add_assoc p k 1, Nat.pow_succ, ← Nat.div_div_eq_div_mul]
  omega

theorem take_next (V p q n : Nat) (y x : Int) (hq : q < n) (hy : y = ((V / 2 ^ (p + (q + 1)) % 2 ^ (n - (q + 1)) : Nat) : Int)) (hx : bitAt V (p + q) = x) : Hid (y * 2 + x = ((V / 2 ^ (p + q) % 2 ^ (n - q) : Nat) : Int)) := by
  unfold Hid
  rw [take_up V p q n hq, hy, ← hx]; unfold bitAt; omega
theorem take_lt (V p k : Nat) (hk : k ≤ 32) (y : Int) (hy : y = ((V / 2 ^ p % 2 ^ k : Nat) : Int)) : 0 ≤ y ∧ y < 4294967296 := by
  have h1 : V / 2 ^ p % 2 ^ k < 2 ^ k := Nat.mod_lt _ (Nat.two_pow_pos _)
  have h2 : 2 ^ k ≤ 2 ^ 32 := Nat.pow_le_pow_right (by decide) hk
  omega

set_option maxHeartbeats 1000000 in
theorem rget_ok (v : Value) (xs : List Int) (p n : Nat) (w : World) (hv : Rw .u8 w v xs) (hx : Byts xs) (hl : xs.length ≤ 100000) (h1 : n ≤ 32) (h2 : p + n ≤ 8 * xs.length) :
    Calls Try.prog 39 #[v, .int .i64 p, .int .i64 n] w fun e w' => e = .returned (.tuple #[.int .u64 ((bv xs / 2 ^ p % 2 ^ n : Nat) : Int), .int .i64 0]) ∧ Below w.heap.size w w' := by
  have hv0 := hv
  obtain ⟨a, cap, rfl, ha⟩ := hv
  clear ha
  go_enter Try.func39, Try.ntmps39
  go_wp2_with (go_at_call 43; refine (bits_any _ xs _ hv0 hx hl).mono ?_; rintro e w' ⟨v', rfl, hown, hb1⟩; obtain ⟨a1, c1, rfl, ha1⟩ := owns_bits hown)
  clear hown hv0
  go_loop [9, 10] (fun v i => ∃ q : Nat, ∃ y : Int, q ≤ n ∧ i = .int .i64 ((q : Int) - 1) ∧ v = .int .u64 y ∧ 0 ≤ y ∧ y < 4294967296 ∧ Hid (y = ((bv xs / 2 ^ (p + q) % 2 ^ (n - q) : Nat) : Int))) (fun _ i => (intOf i + 1).toNat)
  case atStart => exact ⟨n, 0, by omega, rfl, rfl, by omega, by omega, by unfold Hid; simp [Nat.mod_one]⟩
  case round =>
    obtain ⟨q, y, hq, rfl, rfl, hy0, hy1, HY⟩ := hrel
    cases q with
    | zero =>
      go_wp2
      go_ret2
      exact ⟨by rw [HY.out]; rfl, hb1⟩
    | succ q =>
      obtain ⟨b, off, rfl, hb, hc⟩ := ha1.resolve_left (by omega)
      have g := hc (p + q) (by omega)
      have h01 := bitAt_01 (bv xs) (p + q)
      generalize hxe : bitAt (bv xs) (p + q) = x at g h01
      have HX : Hid _ := hxe
      have hx0 : 0 ≤ x := by omega
      have hx1 : x ≤ 1 := by omega
      clear hxe hc ha1 h01
      go_wp2
      go_round
      case rel =>
        have H := take_next (bv xs) p q n y x (by omega) HY.out HX.out
        have hl := take_lt (bv xs) (p + q) (n - q) (by omega) _ H.out
        exact ⟨q, _, by omega, by go_num, rfl, hl.1, hl.2, H⟩
      case measure => simp [intOf]

theorem rget_arg (v : Value) (p n : Int) (w : World) (h : n < 0 ∨ 32 < n ∨ p < 0) :
    Calls Try.prog 39 #[v, .int .i64 p, .int .i64 n] w fun e w' => e = .returned (.tuple #[.int .u64 0, .int .i64 1]) ∧ w' = w := by
  by_cases h1 : n < 0
  · go_enter Try.func39, Try.ntmps39
    go_wp2
    go_ret2
    exact ⟨rfl, rfl⟩
  · by_cases h2 : 32 < n
    · go_enter Try.func39, Try.ntmps39
      go_wp2
      go_ret2
      exact ⟨rfl, rfl⟩
    · have h3 : p < 0 := by omega
      go_enter Try.func39, Try.ntmps39
      go_wp2
      go_ret2
      exact ⟨rfl, rfl⟩

set_option maxHeartbeats 400000 in
theorem rget_more (v : Value) (xs : List Int) (p n : Int) (w : World) (hv : Rw .u8 w v xs) (hx : Byts xs) (hl : xs.length ≤ 100000) (h0 : 0 ≤ n) (h1 : n ≤ 32) (h2 : 0 ≤ p) (h3 : 8 * xs.length < p + n) :
    Calls Try.prog 39 #[v, .int .i64 p, .int .i64 n] w fun e w' => e = .returned (.tuple #[.int .u64 0, .int .i64 4]) ∧ Below w.heap.size w w' := by
  have hv0 := hv
  obtain ⟨a, cap, rfl, ha⟩ := hv
  clear ha
  by_cases h4 : 8 * xs.length < p
  · go_enter Try.func39, Try.ntmps39
    go_wp2_with (go_at_call 43; refine (bits_any _ xs _ hv0 hx hl).mono ?_; rintro e w' ⟨v', rfl, hown, hb1⟩; obtain ⟨a1, c1, rfl, ha1⟩ := owns_bits hown)
    go_ret2
    exact ⟨rfl, hb1⟩
  · go_enter Try.func39, Try.ntmps39
    go_wp2_with (go_at_call 43; refine (bits_any _ xs _ hv0 hx hl).mono ?_; rintro e w' ⟨v', rfl, hown, hb1⟩; obtain ⟨a1, c1, rfl, ha1⟩ := owns_bits hown)
    go_ret2
    exact ⟨rfl, hb1⟩

theorem rget_any (v : Value) (xs : List Int) (p n : Int) (w : World) (hv : Rw .u8 w v xs) (hx : Byts xs) (hl : xs.length ≤ 100000) :
    Calls Try.prog 39 #[v, .int .i64 p, .int .i64 n] w fun e w' => e = .returned (.tuple #[.int .u64 (getV xs p n), .int .i64 (getE xs p n)]) ∧ Below w.heap.size w w' := by
  by_cases h1 : 0 ≤ n ∧ n ≤ 32 ∧ 0 ≤ p
  · obtain ⟨N, rfl⟩ := Int.eq_ofNat_of_zero_le h1.1
    obtain ⟨Q, rfl⟩ := Int.eq_ofNat_of_zero_le h1.2.2
    by_cases h2 : (Q : Int) + N ≤ 8 * xs.length
    · rw [getV, if_pos ⟨h1.1, h1.2.1, h1.2.2, h2⟩, getE, if_pos h1, if_pos h2]
      exact rget_ok v xs Q N w hv hx hl (by omega) (by omega)
    · rw [getV, if_neg (by omega), getE, if_pos h1, if_neg h2]
      exact rget_more v xs Q N w hv hx hl (by omega) (by omega) (by omega) (by omega)
  · rw [getV, if_neg (by omega), getE, if_neg h1]
    refine (rget_arg v p n w (by omega)).mono ?_
    rintro e w' ⟨rfl, rfl⟩
    exact ⟨rfl, Below.refl _ _⟩

/-! ### The program's own -/
set_option maxHeartbeats 400000 in
theorem get_arg (a : Option Addr) (len cap : Nat) (p n : Int) (w : World) (h : n < 0 ∨ 32 < n ∨ p < 0) :
    Calls Try.prog 36 #[.agg #[.slice a len cap, .int .i64 p], .int .i64 n] w fun e w' => e = .returned (.tuple #[.agg #[.slice a len cap, .int .i64 p], .int .u64 0, .int .i64 1]) ∧ Below w.heap.size w w' := by
  by_cases h1 : 0 ≤ n ∧ n ≤ 32
  · have h2 : p < 0 := by omega
    have hd : decide (0 ≤ n ∧ n ≤ 32) = true := decide_eq_true h1
    go_enter Try.func36, Try.ntmps36
    go_wp2_with (go_at_call 41; refine (widthFits_any _ _).mono ?_; rintro e w' ⟨rfl, rfl⟩; rw [hd])
    exact bodyPost_ret (v := .tuple #[.agg #[.slice a len cap, .int .i64 p], .int .u64 0, .int .i64 1]) (by simp [results, Try.results36, go_sem]) rfl ⟨rfl, below2 _ _ _⟩
  · have hd : decide (0 ≤ n ∧ n ≤ 32) = false := decide_eq_false h1
    go_enter Try.func36, Try.ntmps36
    go_wp2_with (go_at_call 41; refine (widthFits_any _ _).mono ?_; rintro e w' ⟨rfl, rfl⟩; rw [hd])
    exact bodyPost_ret (v := .tuple #[.agg #[.slice a len cap, .int .i64 p], .int .u64 0, .int .i64 1]) (by simp [results, Try.results36, go_sem]) rfl ⟨rfl, below2 _ _ _⟩

set_option maxHeartbeats 400000 in
theorem get_more (a : Option Addr) (len cap : Nat) (p n : Int) (w : World) (hl : len ≤ 100000) (h0 : 0 ≤ n) (h1 : n ≤ 32) (h2 : 0 ≤ p) (h3 : 8 * len < p + n) :
    Calls Try.prog 36 #[.agg #[.slice a len cap, .int .i64 p], .int .i64 n] w fun e w' => e = .returned (.tuple #[.agg #[.slice a len cap, .int .i64 p], .int .u64 0, .int .i64 4]) ∧ Below w.heap.size w w' := by
  have hd : decide (0 ≤ n ∧ n ≤ 32) = true := decide_eq_true ⟨h0, h1⟩
  by_cases h4 : 8 * len < p
  · go_enter Try.func36, Try.ntmps36
    go_wp2_with (go_at_call 41; refine (widthFits_any _ _).mono ?_; rintro e w' ⟨rfl, rfl⟩; rw [hd])
    exact bodyPost_ret (v := .tuple #[.agg #[.slice a len cap, .int .i64 p], .int .u64 0, .int .i64 4]) (by simp [results, Try.results36, go_sem]) rfl ⟨rfl, below2 _ _ _⟩
  · have h5 : p ≤ 8 * len := by omega
    go_enter Try.func36, Try.ntmps36
    go_wp2_with (first | (go_at_call 41; refine (widthFits_any _ _).mono ?_; rintro e w' ⟨rfl, rfl⟩; rw [hd]) | (go_at_call 38; refine (left_any _ _ _ _ _ (by omega)).mono ?_; rw [if_pos ⟨h2, h5⟩]; rintro e w' ⟨rfl, hb1⟩; obtain ⟨hc1, hf1⟩ := bcell hb1))
    have hz : w.heap.size + 1 < w'.heap.size := by have := hb1.size; simp at this; omega
    exact bodyPost_ret (v := .tuple #[.agg #[.slice a len cap, .int .i64 p], .int .u64 0, .int .i64 4]) (by simp [results, Try.results36, go_sem, hc1]) rfl ⟨rfl, bset2 (bthen (below2 _ _ _) hb1 (by simp; omega)) _ _ _ _ _ _ (by omega) (by omega)⟩

set_option maxHeartbeats 400000 in
theorem get_none (a : Option Addr) (len cap p : Nat) (w : World) (hl : len ≤ 100000) (h2 : p ≤ 8 * len) :
    Calls Try.prog 36 #[.agg #[.slice a len cap, .int .i64 p], .int .i64 0] w fun e w' => e = .returned (.tuple #[.agg #[.slice a len cap, .int .i64 p], .int .u64 0, .int .i64 0]) ∧ Below w.heap.size w w' := by
  have h5 : 0 ≤ (p : Int) ∧ (p : Int) ≤ 8 * len := by omega
  go_enter Try.func36, Try.ntmps36
  go_wp2_with (first | (go_at_call 41; refine (widthFits_any _ _).mono ?_; rintro e w' ⟨rfl, rfl⟩; rw [show decide ((0 : Int) ≤ 0 ∧ (0 : Int) ≤ 32) = true from rfl]) | (go_at_call 38; refine (left_any _ _ _ _ _ (by omega)).mono ?_; rw [if_pos h5]; rintro e w' ⟨rfl, hb1⟩; obtain ⟨hc1, hf1⟩ := bcell hb1))
  refine wp_loop_rounds 1 ?_
  rw [rounds_succ]
  go_wp2
  have hz : w.heap.size + 1 < w'.heap.size := by have := hb1.size; simp at this; omega
  exact bodyPost_ret (v := .tuple #[.agg #[.slice a len cap, .int .i64 p], .int .u64 0, .int .i64 0]) (by simp [results, Try.results36, go_sem, hc1]) rfl ⟨rfl, bset2 (bthen (below2 _ _ _) hb1 (by simp; omega)) _ _ _ _ _ _ (by omega) (by omega)⟩

theorem get_any (v : Value) (xs : List Int) (p n : Int) (w : World) (hv : Rw .u8 w v xs) (hx : Byts xs) (hl : xs.length ≤ 100000) :
    Calls Try.prog 36 #[.agg #[v, .int .i64 p], .int .i64 n] w fun e w' => e = .returned (.tuple #[.agg #[v, .int .i64 (if getE xs p n = 0 then p + n else p)], .int .u64 (getV xs p n), .int .i64 (getE xs p n)]) ∧ Below w.heap.size w w' := by
  obtain ⟨a, cap, rfl, ha⟩ := hv
  by_cases h1 : 0 ≤ n ∧ n ≤ 32 ∧ 0 ≤ p
  · obtain ⟨N, rfl⟩ := Int.eq_ofNat_of_zero_le h1.1
    obtain ⟨Q, rfl⟩ := Int.eq_ofNat_of_zero_le h1.2.2
    by_cases h2 : (Q : Int) + N ≤ 8 * xs.length
    · have eV : getV xs Q N = ((bv xs / 2 ^ Q % 2 ^ N : Nat) : Int) := by rw [getV, if_pos ⟨h1.1, h1.2.1, h1.2.2, h2⟩]; rfl
      have eE : getE xs Q N = 0 := by rw [getE, if_pos h1, if_pos h2]
      rw [eV, eE, if_pos rfl]
      by_cases hN : N = 0
      · subst hN
        refine (get_none a xs.length cap Q w hl (by omega)).mono ?_
        rintro e w' ⟨rfl, hb⟩
        exact ⟨by simp [Nat.mod_one], hb⟩
      · obtain ⟨b, off, rfl, hb, hc⟩ := ha.resolve_left (by intro h; subst h; simp at h2; omega)
        exact get_ok b off xs.length cap Q N xs w rfl hl (by omega) (by omega) hb hc hx
    · have eV : getV xs Q N = 0 := by rw [getV, if_neg (by omega)]
      have eE : getE xs Q N = 4 := by rw [getE, if_pos h1, if_neg h2]
      rw [eV, eE, if_neg (by decide)]
      exact get_more a xs.length cap Q N w hl (by omega) (by omega) (by omega) (by omega)
  · have eV : getV xs p n = 0 := by rw [getV, if_neg (by omega)]
    have eE : getE xs p n = 1 := by rw [getE, if_neg h1]
    rw [eV, eE, if_neg (by decide)]
    exact get_arg a xs.length cap p n w (by omega)
end Go.Proofs.Ytdgacbelpenmmaa
