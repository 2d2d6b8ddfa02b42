/- The contract of bits.Get where bits are read. -/
import Derived.Test.YtdgacbelpenmmaaWa
namespace Go.Proofs.Ytdgacbelpenmmaa
open Go.RowKit
set_option linter.unusedVariables false
set_option linter.unusedSimpArgs false

theorem get_step (V p k : Nat) (x : Int) (h0 : 0 ≤ x) (h1 : x < 256) (hk : k < 32) (hb : V / 2 ^ (p + k) % 2 = x.toNat / 2 ^ ((p + k) % 8) % 2) :
    bits .or .u64 ((V : Int) / 2 ^ p % 2 ^ k) (IntKind.u64.wrap (IntKind.u64.wrap (bits .and .u8 (x / 2 ^ ((p + k) % 8)) 1) * 2 ^ k)) = ((V / 2 ^ p % 2 ^ (k + 1) : Nat) : Int) := by
  obtain ⟨X, rfl⟩ := Int.eq_ofNat_of_zero_le h0
  rw [Int.toNat_natCast] at hb
  have hd : X / 2 ^ ((p + k) % 8) ≤ X := Nat.div_le_self _ _
  have hm := mod_two_pow_succ (V / 2 ^ p) k
  rw [Nat.div_div_eq_div_mul, ← Nat.pow_add] at hm
  rw [hm]
  rw [nat_shr, nat_shr, nat_mod2]
  generalize X / 2 ^ ((p + k) % 8) = Y at hd hb
  rw [and1_u8 _ (by omega) (by omega)]
  have hbit : V / 2 ^ (p + k) % 2 < 2 := Nat.mod_lt _ (by decide)
  have e : ((Y : Int) % 2) = ((Y % 2 : Nat) : Int) := by simp
  rw [e, ← hb]
  generalize V / 2 ^ (p + k) % 2 = b at hbit
  have hlt : V / 2 ^ p % 2 ^ k < 2 ^ k := Nat.mod_lt _ (Nat.two_pow_pos k)
  generalize V / 2 ^ p % 2 ^ k = y at hlt
  have hkp : (2 : Nat) ^ k ≤ 2 ^ 31 := Nat.pow_le_pow_right (by decide) (by omega)
  have hmul := bit_mul b k 31 hbit (by omega)
  rw [nat_u64 b (by omega), nat_shl, nat_u64 _ (by omega), nat_or_low y b k hlt (by omega) (by omega)]

set_option maxHeartbeats 400000 in
theorem get_ok (b off len cap p n : Nat) (xs : List Int) (w : World) (hlen : xs.length = len) (hl1 : len ≤ 100000) (h1 : n ≤ 32) (ha1 : p + n ≤ 8 * len)
   (hb : b < w.heap.size) (hc : ∀ i, i < len → w.cell? ⟨b, off + i, none⟩ = some (.int .u8 (xs.getD i 0))) (hx : Byts xs) :
    Calls Try.prog 36 #[.agg #[.slice (some ⟨b, off, none⟩) len cap, .int .i64 p], .int .i64 n] w fun e w' => e = .returned (.tuple #[.agg #[.slice (some ⟨b, off, none⟩) len cap, .int .i64 (p + n)], .int .u64 ((bv xs / 2 ^ p) % 2 ^ n : Nat), .int .i64 0]) ∧ Below w.heap.size w w' := by
  go_enter Try.func36, Try.ntmps36
  go_wp2_with (first | (go_at_call 41; refine (widthFits_any _ _).mono ?_; rintro e w' ⟨rfl, rfl⟩; rw [decide_eq_true (show (0 : Int) ≤ n ∧ (n : Int) ≤ 32 by omega)]) | (go_at_call 38; refine (left_any _ _ _ _ _ (by omega)).mono ?_; rintro e w' ⟨rfl, hb1⟩))
  obtain ⟨hc1, hf1⟩ := bcell hb1
  have hcx : ∀ i, i < len → w'.cell? ⟨b, off + i, none⟩ = some (.int .u8 (xs.getD i 0)) := by
    intro i hi
    rw [hc1 _ _ (by simp; omega), ← hc i hi]
    simp [hb, Nat.ne_of_lt, go_sem]
  clear hc
  go_loop [7, 34] (fun v i => ∃ k : Nat, k ≤ n ∧ i = .int .i64 k ∧ v = .int .u64 ((bv xs / 2 ^ p) % 2 ^ k : Nat)) (fun _ i => (n - intOf i).toNat)
  case atStart => exact ⟨0, by omega, rfl, by simp [Nat.mod_one]⟩
  case round =>
    obtain ⟨k, hk, rfl, rfl⟩ := hrel
    by_cases hlt : k < n
    · have g := hcx ((p + k) / 8) (by omega)
      have hx1 := hx.getD ((p + k) / 8)
      have hbit : Hid _ := bv_bit hx (p + k)
      generalize xs.getD ((p + k) / 8) 0 = x at g hx1 hbit
      clear hcx
      go_wp2
      go_round
      case rel => 
        refine ⟨k + 1, by omega, by go_num, ?_⟩
        rw [get_step _ _ _ _ hx1.1 hx1.2 (by omega) hbit.out]
      case measure => simp [intOf]; omega
    · have hge : n ≤ k := by omega
      clear hlt
      go_wp2
      have hkn : k = n := by omega
      subst hkn
      have hz : w.heap.size + 1 < w'.heap.size := by have := hb1.size; simp at this; omega
      refine bodyPost_ret (v := .tuple #[.agg #[.slice (some ⟨b, off, none⟩) len cap, .int .i64 (p + k)], .int .u64 ((bv xs / 2 ^ p) % 2 ^ k : Nat), .int .i64 0]) (by simp [results, Try.results36, go_sem, hc1]) rfl ⟨by simp, ?_⟩
      exact (((((Below.refl _ _).alloc (Nat.le_refl _) _).alloc (by simp) _).trans (hb1.mono (by simp; omega))).setCell (by simp) _).setCell (by simp) _
end Go.Proofs.Ytdgacbelpenmmaa
