/- Contracts of the logarithms, by the program and by the document. -/
import Derived.Test.YtpmpdikabdaagaaNa
import Derived.Lib.BitFns
import Derived.Lib.Walk
namespace Go.Proofs.Ytpmpdikabdaagaa
open Go.RowKit
set_option linter.unusedVariables false
set_option linter.unusedSimpArgs false

/-- The table's number at a place is how many bits the place has. -/
theorem lentab_at (y : Int) (h0 : 0 ≤ y) (h1 : y < 256) (h : y.toNat < Lib.len8tab.size) : ((Lib.len8tab[y.toNat]'h).toNat : Int) = Lib.bitLen y.toNat := by
  have e := Lib.len8_of y h0 (by omega)
  unfold Lib.len8 at e
  rw [getElem?_pos Lib.len8tab y.toNat h] at e
  exact e

theorem fin_core (B : Nat → Nat) (x y s : Nat) (h8 : B y ≤ 8) (hs : s ≤ 56) (sh : B x = s + B y) : wrap64 ((s : Int) + wrap64 (B y : Int)) = (B x : Int) := by
  unfold wrap64; omega
theorem fin_core0 (B : Nat → Nat) (x : Nat) (h8 : B x ≤ 8) : wrap64 (wrap64 (B x : Int)) = (B x : Int) := by
  unfold wrap64; omega
theorem len_fin (x : Int) (s : Nat) (y : Int) (P : Nat) (hP : P = 2 ^ s) (h1 : x.toNat < 2 ^ 64) (hy0 : 0 ≤ y) (hy : y < 256) (hs : s ≤ 56) (e : y.toNat = x.toNat / P) (hz : P ≤ x.toNat) (h : y.toNat < Lib.len8tab.size) :
    wrap64 ((s : Int) + wrap64 ((Lib.len8tab[y.toNat]'h).toNat : Int)) = Lib.bitLen x.toNat :=
  (congrArg (fun z => wrap64 ((s : Int) + wrap64 z)) (lentab_at y hy0 hy h)).trans
    (fin_core Lib.bitLen x.toNat y.toNat s (Lib.bitLen_le8' y hy0 (by omega)) hs (by subst hP; rw [e]; exact Lib.bitLen_shift s x.toNat hz h1))
theorem len_fin0 (x : Int) (hy0 : 0 ≤ x) (hy : x < 256) (h : x.toNat < Lib.len8tab.size) :
    wrap64 (wrap64 ((Lib.len8tab[x.toNat]'h).toNat : Int)) = Lib.bitLen x.toNat :=
  (congrArg (fun z => wrap64 (wrap64 z)) (lentab_at x hy0 hy h)).trans (fin_core0 Lib.bitLen x.toNat (Lib.bitLen_le8' x hy0 (by omega)))

set_option maxHeartbeats 4000000 in
set_option maxRecDepth 100000 in
theorem len_any (x : Int) (h0 : 0 ≤ x) (h1 : x ≤ 18446744073709551615) (w : World) : Calls Try.prog 37 #[.int .u64 x] w fun e w' => e = .returned (.int .i64 (Lib.bitLen x.toNat)) ∧ w' = w := by
  have hsz : (Lib.len8tab.size : Int) = 256 := by rw [Lib.len8tab_size]; rfl
  go_enter Try.func37, Try.ntmps37
  go_wp2
  all_goals (go_ret; refine ⟨ret_int ?_, rfl⟩)
  · exact len_fin x 56 _ 72057594037927936 (by decide) (by omega) (by omega) (by omega) (by omega) (by omega) (by omega) _
  · exact len_fin x 48 _ 281474976710656 (by decide) (by omega) (by omega) (by omega) (by omega) (by omega) (by omega) _
  · exact len_fin x 40 _ 1099511627776 (by decide) (by omega) (by omega) (by omega) (by omega) (by omega) (by omega) _
  · exact len_fin x 32 _ 4294967296 (by decide) (by omega) (by omega) (by omega) (by omega) (by omega) (by omega) _
  · exact len_fin x 24 _ 16777216 (by decide) (by omega) (by omega) (by omega) (by omega) (by omega) (by omega) _
  · exact len_fin x 16 _ 65536 (by decide) (by omega) (by omega) (by omega) (by omega) (by omega) (by omega) _
  · exact len_fin x 8 _ 256 (by decide) (by omega) (by omega) (by omega) (by omega) (by omega) (by omega) _
  · exact len_fin0 x (by omega) (by omega) _

theorem logP_of (B : Nat → Nat) (x : Nat) (hl : B x ≤ 64) (hc : ∀ w, Calls Try.prog 37 #[.int .u64 x] w fun e w' => e = .returned (.int .i64 (B x)) ∧ w' = w) (w : World) : Calls Try.prog 32 #[.int .u64 x] w fun e w' => e = .returned (.int .i64 ((B x : Int) - 1)) ∧ w' = w := by
  generalize B x = l at *
  go_enter Try.func32, Try.ntmps32
  go_wp2_with (go_at_call 37; refine (hc _).mono ?_; rintro e w' ⟨rfl, rfl⟩)
  go_ret
  exact ⟨rfl, rfl⟩

/-- B counts a number's bits. -/
structure Counts (B : Nat → Nat) : Prop where
  zero : B 0 = 0
  half : ∀ x : Nat, x ≠ 0 → x < 2 ^ 64 → B x = 1 + B (x / 2)
  le : ∀ x : Nat, x < 2 ^ 64 → B x ≤ 64
  mem : B 1023 = 10

theorem Counts.mono {B : Nat → Nat} (H : Counts B) (k : Nat) : ∀ x y : Nat, x ≤ k → x ≤ y → y < 2 ^ 64 → B x ≤ B y := by
  induction k with
  | zero =>
    intro x y hk _ _
    have : x = 0 := by omega
    subst this
    rw [H.zero]; omega
  | succ k ih =>
    intro x y hk hxy hy
    by_cases hx : x = 0
    · subst hx; rw [H.zero]; omega
    · have e1 := H.half x hx (by omega)
      have e2 := H.half y (by omega) hy
      have := ih (x / 2) (y / 2) (by omega) (by omega) (by omega)
      omega

end Go.Proofs.Ytpmpdikabdaagaa
