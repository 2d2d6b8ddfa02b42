/- Contracts: the writer that remembers the first error (put, putBook), and Write. -/
import Derived.Test.YtdgacbelpenmmaaVc
import Derived.Test.YtdgacbelpenmmaaXr
namespace Go.Proofs.Ytdgacbelpenmmaa
open Go.RowKit
set_option linter.unusedVariables false
set_option linter.unusedSimpArgs false

/-- A writer of N bits, with no error. -/
structure Wr (w : World) (b X N : Nat) : Prop where
  ex : ∃ a cap, B3 w b (.slice a ((N + 7) / 8) cap) (.int .i64 N) (.int .i64 0) ∧ RwF (b + 1) .u8 w (.slice a ((N + 7) / 8) cap) (byL X ((N + 7) / 8))
  lt : X < 2 ^ N
  le : N ≤ 32000
theorem Wr.below {w w' : World} {b X N : Nat} (h : Wr w b X N) (hb : Below w.heap.size w w') : Wr w' b X N := by
  obtain ⟨a, cap, h1, h2⟩ := h.ex
  exact ⟨⟨a, cap, h1.below hb, h2.below hb⟩, h.lt, h.le⟩
theorem putE_in (X N V n : Nat) (hX : X < 2 ^ N) (hN : N ≤ 32000) (hV : V < 2 ^ n) (hn : n ≤ 32) (hN2 : N + n ≤ 32000) :
    putE (byL X ((N + 7) / 8)) N V n = 0 ∧ putN (byL X ((N + 7) / 8)) N V n = ((N + n : Nat) : Int) ∧ putX (byL X ((N + 7) / 8)) N V n = byL (X + V * 2 ^ N) ((N + n + 7) / 8) := by
  obtain ⟨h1, h2⟩ := right_byL X N hX hN
  have e0 : goodN (byL X ((N + 7) / 8)) N = N := by unfold goodN; rw [if_pos h1]
  have e1 : goodX (byL X ((N + 7) / 8)) N = byL X ((N + 7) / 8) := by unfold goodX; rw [if_pos h1]
  have e : putE (byL X ((N + 7) / 8)) N V n = 0 := by
    unfold putE; rw [e0, if_pos ⟨by omega, by omega, by simpa using hV⟩, if_pos (by omega)]
  refine ⟨e, ?_, ?_⟩
  · unfold putN; rw [if_pos e, e0]; simp
  · unfold putX; rw [if_pos e, e0, e1, h2]; simp

set_option maxHeartbeats 2000000 in
theorem vput_any (b X N V n : Nat) (w : World) (h : Wr w b X N) (hV : V < 2 ^ n) (hn : n ≤ 32) (hN : N + n ≤ 32000) :
    Calls Try.prog 26 #[.pointer (some ⟨b, 0, none⟩), .int .i64 V, .int .i64 n] w fun e w' => e = .returned (.tuple #[]) ∧ Wr w' b (X + V * 2 ^ N) (N + n) ∧ w.grownBy w' (some b) := by
  have hV32 : V < 4294967296 := Nat.lt_of_lt_of_le hV (Nat.pow_le_pow_right (n := 2) (by decide) hn)
  obtain ⟨a, cap, hB, hR⟩ := h.ex
  obtain ⟨q1, q2, q3⟩ := putE_in X N V n h.lt h.le hV hn hN
  have hp := fun w' hv => put_any (.slice a ((N + 7) / 8) cap) (byL X ((N + 7) / 8)) N V n w' hv (byL_byts _ _) (by omega)
  rw [q1, q2, q3] at hp
  have HLT := hid (joined_lt X V N n h.lt hV)
  have HLE : Hid (N + n ≤ 32000) := hN
  have hrw := hR.rw
  clear q1 q2 q3 hV h hR
  generalize X + V * 2 ^ N = Y at *
  obtain ⟨Z, hZ⟩ : ∃ Z : Int, (V : Int) = Z := ⟨_, rfl⟩
  rw [hZ] at hp ⊢
  have z0 : 0 ≤ Z := by omega
  have z1 : Z < 4294967296 := by omega
  obtain ⟨M, hM⟩ : ∃ M : Int, (n : Int) = M := ⟨_, rfl⟩
  rw [hM] at hp ⊢
  clear hZ hM hV32 hn
  generalize N + n = N' at *
  obtain ⟨bz, c0, c1, c2, f0, f1, f2⟩ := id hB
  go_enter Try.func26, Try.ntmps26
  go_wp2_with (go_at_call 35; refine (hp _ hrw).mono ?_; rintro e y1 ⟨v, rfl, hv1, hy1⟩; obtain ⟨a2, k2, hv2, _⟩ := id hv1; rw [byL_length] at hv2; subst hv2; have hB1 := hB.below hy1; obtain ⟨bz', c0', c1', c2', f0', f1', f2'⟩ := id hB1)
  have hz := hB.z
  have hB2 := hB1.set (.slice a2 ((N' + 7) / 8) k2) (.int .i64 (N' : Nat)) (.int .i64 0)
  have hg := grown_below hy1 b
  have hv3 := ((((hv1.mono (show b + 1 ≤ w.heap.size by omega)).set b 0 (.slice a2 ((N' + 7) / 8) k2) (by omega)).set b 1 (.int .i64 (N' : Nat)) (by omega)).set b 2 (.int .i64 0) (by omega))
  have hg2 := grown_set (grown_set (grown_set hg b 0 (.inr rfl) (.slice a2 ((N' + 7) / 8) k2)) b 1 (.inr rfl) (.int .i64 (N' : Nat))) b 2 (.inr rfl) (.int .i64 0)
  refine bodyPost_end (results_none rfl _ _ _) rfl ⟨rfl, ⟨⟨a2, k2, hB2, hv3⟩, HLT.out, HLE.out⟩, hg2⟩

theorem book_step (l : List Int) (X N k : Nat) : X + vhBk l k * 2 ^ N + (l.getD k 0).toNat * 2 ^ (N + 5 * k) = X + vhBk l (k + 1) * 2 ^ N := by
  show _ = X + (vhBk l k + (l.getD k 0).toNat * 2 ^ (5 * k)) * 2 ^ N
  rw [Nat.add_mul, Nat.mul_assoc, ← Nat.pow_add, Nat.add_comm (5 * k) N]
  omega
set_option maxHeartbeats 2000000 in
theorem putbook_any (b X N : Nat) (al : Option Addr) (m cl : Nat) (l : List Int) (w : World) (h : Wr w b X N) (hl : RwM 0 b .i64 w (.slice al m cl) l) (hm : l.length = m) (h5 : Five l) (hm1 : m ≤ 100) (hN : N + 5 * m ≤ 32000) :
    Calls Try.prog 27 #[.pointer (some ⟨b, 0, none⟩), .slice al m cl] w fun e w' => e = .returned (.tuple #[]) ∧ Wr w' b (X + vhBk l m * 2 ^ N) (N + 5 * m) ∧ w.grownBy w' (some b) := by
  go_enter Try.func27, Try.ntmps27
  go_wp2
  go_loopw [8] (fun p wr => ∃ k : Nat, k ≤ m ∧ p = .int .i64 k ∧ Hid (Wr wr b (X + vhBk l k * 2 ^ N) (N + 5 * k)) ∧ Hid (w.grownBy wr (some b))) (fun p _ => m - (intOf p).toNat)
  case atStart => exact ⟨0, by omega, rfl, by unfold Hid; simpa [vhBk] using h, World.grownBy.refl w _⟩
  case round =>
    clear h
    obtain ⟨k, hk, rfl, HW, HG⟩ := hrel
    obtain ⟨W1, rfl⟩ : ∃ x, x = wr := ⟨wr, rfl⟩
    by_cases hlt : k < m
    · have hl1 := (hl.grown HG.out (fun i e => .inr (by simp only [Option.some.injEq] at e; omega))).rw
      rw [← hm] at hl1
      obtain ⟨p0, o0, rfl, _, hc⟩ := hl1.at k (by omega)
      have h5k := h5 k
      have hst := book_step l X N k
      have hp := vput_any b _ _ (l.getD k 0).toNat 5 W1 HW.out (by omega) (by omega) (by omega)
      rw [hst, show N + 5 * k + 5 = N + 5 * (k + 1) by omega] at hp
      have i1 : (0 : Int) ≤ (k : Int) := by omega
      have i2 : (k : Int) < (m : Int) := by omega
      have i3 : IntKind.i64.wrap (k : Int) = k := wraps_i64 _ (by omega) (by omega)
      rw [show (((l.getD k 0).toNat : Nat) : Int) = l.getD k 0 by omega] at hp
      clear hst hl1 HW h5k
      generalize l.getD k 0 = x at *
      go_wp2_with (go_at_call 26; refine hp.mono ?_; rintro e y1 ⟨rfl, hw1, hg1⟩)
      exact ⟨⟨k + 1, by omega, by go_num, hw1, grown_trans HG.out hg1⟩, by simp [intOf]; omega⟩
    · obtain rfl : k = m := by omega
      clear hlt
      go_wp2
      refine bodyPost_end (results_none rfl _ _ _) rfl ⟨rfl, HW.out, HG.out⟩
end Go.Proofs.Ytdgacbelpenmmaa
