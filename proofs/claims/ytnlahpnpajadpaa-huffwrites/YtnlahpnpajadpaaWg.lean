/- The contract of the document function Right, at every writer. -/
import Derived.Test.YtnlahpnpajadpaaWb
namespace Go.Proofs.Ytnlahpnpajadpaa
open Go.RowKit
set_option linter.unusedVariables false
set_option linter.unusedSimpArgs false
/-! ### The document's own -/
set_option maxHeartbeats 400000 in
theorem rright_out (a : Option Addr) (len cap : Nat) (n : Int) (w : World) (h : n < 0 ∨ 32000 < n) :
    Calls Try.prog 37 #[.agg #[.slice a len cap, .int .i64 n]] w fun e w' => e = .returned (.bool false) ∧ Below w.heap.size w w' := by
  rcases h with h | h
  · go_enter Try.func37, Try.ntmps37
    go_wp2
    go_ret
    exact ⟨rfl, (Below.refl _ _).alloc (Nat.le_refl _) _⟩
  · have h0 : 0 ≤ n := by omega
    go_enter Try.func37, Try.ntmps37
    go_wp2
    go_ret
    exact ⟨rfl, (Below.refl _ _).alloc (Nat.le_refl _) _⟩

theorem owns_bits {w : World} {base V n : Nat} {v : Value} (h : w.ownsRow base 3 1 v n ((bl V n).map (Value.int .i64))) :
    ∃ a cap, v = .slice a n cap ∧ (n = 0 ∨ ∃ b off, a = some ⟨b, off, none⟩ ∧ b < w.heap.size ∧ ∀ i, i < n → w.cell? ⟨b, off + i, none⟩ = some (.int .i64 (bitAt V i))) := by
  obtain ⟨a, cap, hv, hr⟩ := Rw.of_owns h
  rw [bl_length] at hv hr
  refine ⟨a, cap, hv, ?_⟩
  rcases hr with hr | ⟨b, off, ha, hb, hc⟩
  · left; have := congrArg List.length hr; rw [bl_length] at this; simpa using this
  · exact .inr ⟨b, off, ha, hb, fun i hi => by rw [hc i hi, bl_getD V n i hi]⟩

theorem bits_zero_from (V N n : Nat) (h : ∀ i, N ≤ i → i < n → bitAt V i = 0) (hV : V < 2 ^ n) (hN : N ≤ n) : V < 2 ^ N := by
  induction n with
  | zero => have : N = 0 := by omega
            subst this; exact hV
  | succ n ih =>
    by_cases hn : N = n + 1
    · subst hn; exact hV
    · refine ih (fun i h1 h2 => h i h1 (by omega)) ?_ (by omega)
      have h0 := h n (by omega) (by omega)
      unfold bitAt at h0
      have h1 : V / 2 ^ n % 2 = 0 := by exact_mod_cast h0
      have h2 : V / 2 ^ n < 2 := by rw [Nat.div_lt_iff_lt_mul (Nat.two_pow_pos n)]; rw [Nat.pow_succ] at hV; omega
      have h3 : V / 2 ^ n = 0 := by
        revert h1 h2; generalize V / 2 ^ n = q; intro h1 h2; omega
      rw [Nat.div_eq_zero_iff] at h3
      rcases h3 with h3 | h3
      · have := Nat.two_pow_pos n; omega
      · exact h3

set_option maxHeartbeats 400000 in
theorem rright_few (v : Value) (xs : List Int) (N : Nat) (w : World) (hv : Rw .u8 w v xs) (hx : Byts xs) (hl : xs.length ≤ 100000) (hN : N ≤ 32000) (h1 : 8 * xs.length < N) :
    Calls Try.prog 37 #[.agg #[v, .int .i64 N]] w fun e w' => e = .returned (.bool (rightB xs N)) ∧ Below w.heap.size w w' := by
  have hv0 := hv
  obtain ⟨a, cap, rfl, ha⟩ := hv
  clear ha
  go_enter Try.func37, Try.ntmps37
  go_wp2_with (go_at_call 28; refine (bits_any _ xs _ (hv0.below ((Below.refl _ _).alloc (Nat.le_refl _) _)) hx hl).mono ?_; rintro e w' ⟨v', rfl, hown, hb1⟩; obtain ⟨a1, c1, rfl, ha1⟩ := owns_bits hown; obtain ⟨hc1, hf1⟩ := bcell hb1)
  go_ret
  exact ⟨ret_bool (by rw [rightB_nat]; simp; omega), ((Below.refl _ _).alloc (Nat.le_refl _) _).trans (hb1.mono (by simp))⟩

set_option maxHeartbeats 400000 in
theorem rright_many (v : Value) (xs : List Int) (N : Nat) (w : World) (hv : Rw .u8 w v xs) (hx : Byts xs) (hl : xs.length ≤ 100000) (hN : N ≤ 32000) (h1 : N ≤ 8 * xs.length) (h2 : N + 8 ≤ 8 * xs.length) :
    Calls Try.prog 37 #[.agg #[v, .int .i64 N]] w fun e w' => e = .returned (.bool (rightB xs N)) ∧ Below w.heap.size w w' := by
  have hv0 := hv
  obtain ⟨a, cap, rfl, ha⟩ := hv
  clear ha
  go_enter Try.func37, Try.ntmps37
  go_wp2_with (go_at_call 28; refine (bits_any _ xs _ (hv0.below ((Below.refl _ _).alloc (Nat.le_refl _) _)) hx hl).mono ?_; rintro e w' ⟨v', rfl, hown, hb1⟩; obtain ⟨a1, c1, rfl, ha1⟩ := owns_bits hown; obtain ⟨hc1, hf1⟩ := bcell hb1)
  go_ret
  exact ⟨ret_bool (by rw [rightB_nat]; simp; omega), ((Below.refl _ _).alloc (Nat.le_refl _) _).trans (hb1.mono (by simp))⟩

set_option maxHeartbeats 1000000 in
theorem rright_fit (v : Value) (xs : List Int) (N : Nat) (w : World) (hv : Rw .u8 w v xs) (hx : Byts xs) (hl : xs.length ≤ 100000) (hN : N ≤ 32000) (h1 : ¬ 8 * xs.length < N) (h2 : ¬ N + 8 ≤ 8 * xs.length) :
    Calls Try.prog 37 #[.agg #[v, .int .i64 N]] w fun e w' => e = .returned (.bool (rightB xs N)) ∧ Below w.heap.size w w' := by
  have hv0 := hv
  obtain ⟨a, cap, rfl, ha⟩ := hv
  clear ha
  have hle : Hid (xs.length = (N + 7) / 8) := by unfold Hid; omega
  have g1 : N ≤ 8 * xs.length := by omega
  have g2 : 8 * xs.length < N + 8 := by omega
  have hV := bv_lt hx
  rw [pow256] at hV
  have HV : Hid _ := hV
  clear h1 h2 hV
  go_enter Try.func37, Try.ntmps37
  go_wp2_with (go_at_call 28; refine (bits_any _ xs _ (hv0.below ((Below.refl _ _).alloc (Nat.le_refl _) _)) hx hl).mono ?_; rintro e w' ⟨v', rfl, hown, hb1⟩; obtain ⟨a1, c1, rfl, ha1⟩ := owns_bits hown; obtain ⟨hc1, hf1⟩ := bcell hb1)
  clear hown hv0
  go_loop [4] (fun i => ∃ k : Nat, N ≤ k ∧ k ≤ 8 * xs.length ∧ i = .int .i64 k ∧ ∀ j, N ≤ j → j < k → Hid (bitAt (bv xs) j = 0)) (fun i => (8 * xs.length - (intOf i).toNat))
  case atStart => exact ⟨N, by omega, by omega, rfl, fun j h1 h2 => by omega⟩
  case round =>
    obtain ⟨k, hk1, hk2, rfl, hz⟩ := hrel
    by_cases hlt : k < 8 * xs.length
    · obtain ⟨b, off, rfl, hb, hc⟩ := ha1.resolve_left (by omega)
      have g := hc k hlt
      clear ha1 hc
      generalize hxe : bitAt (bv xs) k = x at g
      have HX : Hid _ := hxe
      clear hxe
      by_cases hx0 : (x != 0) = true
      · go_wp2
        go_ret
        refine ⟨ret_bool ?_, ((Below.refl _ _).alloc (Nat.le_refl _) _).trans (hb1.mono (by simp))⟩
        rw [rightB_nat, eq_comm, decide_eq_false_iff_not]
        rintro ⟨_, _, hlt'⟩
        have := HX.out
        unfold bitAt at this
        rw [bits_above _ N k hlt' hk1] at this
        simp at this; subst this; simp at hx0
      · have hx0' : (x != 0) = false := by simpa using hx0
        clear hx0
        go_wp2
        go_round
        case rel =>
          refine ⟨k + 1, by omega, by omega, by go_num, fun j h1 h2 => ?_⟩
          by_cases hj : j = k
          · subst hj; unfold Hid; rw [HX.out]; simpa using hx0'
          · exact hz j h1 (by omega)
        case measure => simp [intOf]; omega
    · have hge : 8 * xs.length ≤ k := by omega
      clear hlt
      go_wp2
      go_ret
      refine ⟨ret_bool ?_, ((Below.refl _ _).alloc (Nat.le_refl _) _).trans (hb1.mono (by simp))⟩
      rw [rightB_nat, eq_comm, decide_eq_true_eq]
      exact ⟨hN, hle.out, bits_zero_from _ N _ (fun j h1 h2 => (hz j h1 (by omega)).out) HV.out g1⟩

theorem rright_any (v : Value) (xs : List Int) (n : Int) (w : World) (hv : Rw .u8 w v xs) (hx : Byts xs) (hl : xs.length ≤ 100000) :
    Calls Try.prog 37 #[.agg #[v, .int .i64 n]] w fun e w' => e = .returned (.bool (rightB xs n)) ∧ Below w.heap.size w w' := by
  by_cases hn : 0 ≤ n ∧ n ≤ 32000
  · obtain ⟨N, rfl⟩ := Int.eq_ofNat_of_zero_le hn.1
    by_cases h1 : 8 * xs.length < N
    · exact rright_few v xs N w hv hx hl (by omega) h1
    · by_cases h2 : N + 8 ≤ 8 * xs.length
      · exact rright_many v xs N w hv hx hl (by omega) (by omega) h2
      · exact rright_fit v xs N w hv hx hl (by omega) h1 h2
  · obtain ⟨a, cap, rfl, ha⟩ := hv
    refine (rright_out a xs.length cap n w (by omega)).mono ?_
    rintro e w' ⟨rfl, hb⟩
    refine ⟨ret_bool ?_, hb⟩
    unfold rightB
    rw [eq_comm, decide_eq_false_iff_not]
    omega
end Go.Proofs.Ytnlahpnpajadpaa
