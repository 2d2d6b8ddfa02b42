/- Contracts of the logarithms and of the costs, by the program and by the document. -/
import Derived.Test.YtlpjkahppogkiaaEe
import Derived.Lib.BitFns
import Derived.Lib.Walk
namespace Go.Proofs.Ytlpjkahppogkiaa
open Go.RowKit
set_option linter.unusedVariables false
set_option linter.unusedSimpArgs false

/-- The table's number at a place is how many bits the place has. -/
theorem len8_tab_at (y : Int) (h0 : 0 ≤ y) (h1 : y < 256) (h : y.toNat < Lib.len8tab.size) : ((Lib.len8tab[y.toNat]'h).toNat : Int) = Lib.bitLen y.toNat := by
  have e := Lib.len8_of y h0 (by omega)
  unfold Lib.len8 at e
  rw [getElem?_pos Lib.len8tab y.toNat h] at e
  exact e

theorem fin_core (B : Nat → Nat) (x y s : Nat) (h8 : B y ≤ 8) (hs : s ≤ 56) (sh : B x = s + B y) : wrap64 ((s : Int) + wrap64 (B y : Int)) = (B x : Int) := by
  unfold wrap64; omega
theorem fin_core0 (B : Nat → Nat) (x : Nat) (h8 : B x ≤ 8) : wrap64 (wrap64 (B x : Int)) = (B x : Int) := by
  unfold wrap64; omega
theorem len_fin (x : Int) (s : Nat) (y : Int) (P : Nat) (hP : P = 2 ^ s) (h1 : x.toNat < 2 ^ 64) (hy0 : 0 ≤ y) (hy : y < 256) (hs : s ≤ 56) (e : y.toNat = x.toNat / P) (hz : P ≤ x.toNat) (h : y.toNat < Lib.len8tab.size) :
    wrap64 ((s : Int) + wrap64 ((Lib.len8tab[y.toNat]'h).toNat : Int)) = Lib.bitLen x.toNat :=
  (congrArg (fun z => wrap64 ((s : Int) + wrap64 z)) (len8_tab_at y hy0 hy h)).trans
    (fin_core Lib.bitLen x.toNat y.toNat s (Lib.bitLen_le8' y hy0 (by omega)) hs (by subst hP; rw [e]; exact Lib.bitLen_shift s x.toNat hz h1))
theorem len_fin0 (x : Int) (hy0 : 0 ≤ x) (hy : x < 256) (h : x.toNat < Lib.len8tab.size) :
    wrap64 (wrap64 ((Lib.len8tab[x.toNat]'h).toNat : Int)) = Lib.bitLen x.toNat :=
  (congrArg (fun z => wrap64 (wrap64 z)) (len8_tab_at x hy0 hy h)).trans (fin_core0 Lib.bitLen x.toNat (Lib.bitLen_le8' x hy0 (by omega)))

set_option maxHeartbeats 4000000 in
set_option maxRecDepth 100000 in
theorem len_any (x : Int) (h0 : 0 ≤ x) (h1 : x ≤ 18446744073709551615) (w : World) : Calls Try.prog 50 #[.int .u64 x] w fun e w' => e = .returned (.int .i64 (Lib.bitLen x.toNat)) ∧ w' = w := by
  have hsz : (Lib.len8tab.size : Int) = 256 := by rw [Lib.len8tab_size]; rfl
  go_enter Try.func50, Try.ntmps50
  go_wp2
  all_goals (go_ret; refine ⟨ret_int ?_, rfl⟩)
  · exact len_fin x 56 _ 72057594037927936 (by decide) (by omega) (by omega) (by omega) (by omega) (by omega) (by omega) _
  · exact len_fin x 48 _ 281474976710656 (by decide) (by omega) (by omega) (by omega) (by omega) (by omega) (by omega) _
  · exact len_fin x 40 _ 1099511627776 (by decide) (by omega) (by omega) (by omega) (by omega) (by omega) (by omega) _
  · exact len_fin x 32 _ 4294967296 (by decide) (by omega) (by omega) (by omega) (by omega) (by omega) (by omega) _
  · exact len_fin x 24 _ 16777216 (by decide) (by omega) (by omega) (by omega) (by omega) (by omega) (by omega) _
  · exact len_fin x 16 _ 65536 (by decide) (by omega) (by omega) (by omega) (by omega) (by omega) (by omega) _
  · exact len_fin x 8 _ 256 (by decide) (by omega) (by omega) (by omega) (by omega) (by omega) (by omega) _
  · exact len_fin0 x (by omega) (by omega) _

/-- B counts a number's bits. -/
structure Counts (B : Nat → Nat) : Prop where
  zero : B 0 = 0
  half : ∀ x : Nat, x ≠ 0 → x < 2 ^ 64 → B x = 1 + B (x / 2)
  le : ∀ x : Nat, x < 2 ^ 64 → B x ≤ 64
  three : B 3 = 2
  shift : ∀ x : Nat, 65536 ≤ x → x < 2 ^ 64 → B x = 16 + B (x / 65536)

theorem logR_of {B : Nat → Nat} (H : Counts B) (k : Nat) : ∀ (x : Nat) (w : World), x ≤ k → x < 2 ^ 64 → Calls Try.prog 36 #[.int .u64 x] w fun e w' => e = .returned (.int .i64 ((B x : Int) - 1)) ∧ w' = w := by
  induction k with
  | zero =>
    intro x w hk _
    have : x = 0 := by omega
    subst this
    rw [H.zero]
    go_enter Try.func36, Try.ntmps36
    go_wp2_with fail
    go_ret
    exact ⟨rfl, rfl⟩
  | succ k ih =>
    intro x w hk hx
    by_cases h0 : x = 0
    · subst h0
      rw [H.zero]
      go_enter Try.func36, Try.ntmps36
      go_wp2_with fail
      go_ret
      exact ⟨rfl, rfl⟩
    · have hb : Hid _ := H.half x h0 hx
      have hl := H.le (x / 2) (by omega)
      have hc := fun w => ih (x / 2) w (by omega) (by omega)
      have e2 : ((x / 2 : Nat) : Int) = (x : Int) / 2 := by omega
      rw [e2] at hc
      generalize B (x / 2) = l at *
      clear e2 ih
      go_enter Try.func36, Try.ntmps36
      go_wp2_with (go_at_call 36; refine (hc _).mono ?_; rintro e w' ⟨rfl, rfl⟩)
      go_ret
      exact ⟨ret_int (by rw [hb.out]; omega), rfl⟩


theorem bits_counts : Counts Lib.bitLen := ⟨by decide, fun x h0 h => Lib.bitLen_half x h0 h, fun x h => Lib.bitLen_le x 64 (by omega) h, by decide, fun x h0 h => Lib.bitLen_shift 16 x h0 h⟩

set_option maxHeartbeats 400000 in
theorem cost_of {B : Nat → Nat} (H : Counts B) (hc : ∀ (x : Nat) (w : World), x < 2 ^ 64 → Calls Try.prog 50 #[.int .u64 x] w fun e w' => e = .returned (.int .i64 (B x)) ∧ w' = w) (n k : Nat) (w : World) (h1 : 1 ≤ n) (h2 : n ≤ 16) (h3 : k ≤ 12) :
    Calls Try.prog 45 #[.int .i64 n, .int .i64 k] w fun e w' => e = .returned (.tuple #[.int .i64 (B (V n k - 1)), .int .i64 0]) ∧ Below w.heap.size w w' := by
  have hb := V_small n k h2 (by omega)
  have hp := V_pos n k h1
  have hl := H.le (V n k - 1) (by omega)
  have hcc := fun w => hc (V n k - 1) w (by omega)
  have hcnt := fun w => count_any n k w h1 h2 h3
  rw [show ((V n k - 1 : Nat) : Int) = (V n k : Int) - 1 by omega] at hcc
  generalize B (V n k - 1) = l at *
  generalize V n k = X at *
  clear hc H
  go_enter Try.func45, Try.ntmps45
  go_wp2_with (first | (go_at_call 49; refine (hcnt _).mono ?_; rintro e w1 ⟨rfl, hb1⟩) | (go_at_call 50; refine (hcc _).mono ?_; rintro e w2 ⟨rfl, rfl⟩))
  go_ret2
  exact ⟨rfl, hb1⟩
theorem cost_no (n k : Int) (w : World) (h : fairB n k = false) : Calls Try.prog 45 #[.int .i64 n, .int .i64 k] w fun e w' => e = .returned (.tuple #[.int .i64 0, .int .i64 1]) ∧ w' = w := by
  go_enter Try.func45, Try.ntmps45
  go_wp2_with (go_at_call 49; refine (count_no n k _ h).mono ?_; rintro e w1 ⟨rfl, rfl⟩)
  go_ret2
  exact ⟨rfl, rfl⟩
set_option maxHeartbeats 400000 in
theorem rcost_of {B : Nat → Nat} (H : Counts B) (n k : Nat) (w : World) (h1 : 1 ≤ n) (h2 : n ≤ 16) (h3 : k ≤ 12) :
    Calls Try.prog 28 #[.int .i64 n, .int .i64 k] w fun e w' => e = .returned (.int .i64 (B (V n k - 1))) ∧ Below w.heap.size w w' := by
  have hb := V_small n k h2 (by omega)
  have hp := V_pos n k h1
  have hcnt := fun w => rcount_any n k w h2 h3
  by_cases hlt : V n k - 1 < 65536
  · have hl := H.le (V n k - 1) (by omega)
    have hcc := fun w => logR_of H (V n k - 1) (V n k - 1) w (Nat.le_refl _) (by omega)
    rw [show ((V n k - 1 : Nat) : Int) = (V n k : Int) - 1 by omega] at hcc
    generalize B (V n k - 1) = l at *
    generalize V n k = X at *
    have i1 : (X : Int) - 1 < 65536 := by omega
    clear H hlt
    go_enter Try.func28, Try.ntmps28
    go_wp2_with (first | (go_at_call 35; refine (hcnt _).mono ?_; rintro e w1 ⟨rfl, hb1⟩) | (go_at_call 36; refine (hcc _).mono ?_; rintro e w2 ⟨rfl, rfl⟩))
    go_ret
    exact ⟨ret_int (by omega), hb1⟩
  · have hs := H.shift (V n k - 1) (by omega) (by omega)
    have hl := H.le ((V n k - 1) / 65536) (by omega)
    have hcc := fun w => logR_of H ((V n k - 1) / 65536) ((V n k - 1) / 65536) w (Nat.le_refl _) (by omega)
    rw [show (((V n k - 1) / 65536 : Nat) : Int) = ((V n k : Int) - 1) / 65536 by omega] at hcc
    rw [hs]
    generalize B ((V n k - 1) / 65536) = l at *
    clear hs
    generalize V n k = X at *
    have i1 : ¬ ((X : Int) - 1 < 65536) := by omega
    clear H hlt
    go_enter Try.func28, Try.ntmps28
    go_wp2_with (first | (go_at_call 35; refine (hcnt _).mono ?_; rintro e w1 ⟨rfl, hb1⟩) | (go_at_call 36; refine (hcc _).mono ?_; rintro e w2 ⟨rfl, rfl⟩))
    go_ret
    exact ⟨ret_int (by omega), hb1⟩
/-- Both costs are how many bits the greatest number has. -/
theorem costs : ∃ B : Nat → Nat, B 3 = 2 ∧ (∀ x : Nat, x < 2 ^ 64 → B x ≤ 64) ∧
    (∀ (n k : Nat) (w : World), 1 ≤ n → n ≤ 16 → k ≤ 12 → Calls Try.prog 45 #[.int .i64 n, .int .i64 k] w fun e w' => e = .returned (.tuple #[.int .i64 (B (V n k - 1)), .int .i64 0]) ∧ Below w.heap.size w w') ∧
    (∀ (n k : Nat) (w : World), 1 ≤ n → n ≤ 16 → k ≤ 12 → Calls Try.prog 28 #[.int .i64 n, .int .i64 k] w fun e w' => e = .returned (.int .i64 (B (V n k - 1))) ∧ Below w.heap.size w w') :=
  ⟨Lib.bitLen, bits_counts.three, bits_counts.le, fun n k w h1 h2 h3 => cost_of bits_counts (fun x w h => len_any (x : Int) (by omega) (by omega) w) n k w h1 h2 h3, fun n k w h1 h2 h3 => rcost_of bits_counts n k w h1 h2 h3⟩
end Go.Proofs.Ytlpjkahppogkiaa
