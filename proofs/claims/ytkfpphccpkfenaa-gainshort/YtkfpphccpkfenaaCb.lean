/- Contracts of the small functions: which choices, encoders and decoders are right; shares of a range; a new encoder. -/
import Derived.Test.YtkfpphccpkfenaaRows
import Derived.Test.YtkfpphccpkfenaaCa
namespace Go.Proofs.Ytkfpphccpkfenaa
open Go.RowKit
set_option linter.unusedVariables false
set_option linter.unusedSimpArgs false

theorem fair_any (lo hi tot : Int) (w : World) : Calls Try.prog 52 #[.int .i64 lo, .int .i64 hi, .int .i64 tot] w fun e w' => e = .returned (.bool (fairB lo hi tot)) ∧ w' = w := by
  by_cases h0 : 0 ≤ lo
  · by_cases h1 : lo < hi
    · by_cases h2 : hi ≤ tot
      · by_cases h3 : tot ≤ 65536
        · have e : fairB lo hi tot = true := by unfold fairB; rw [decide_eq_true_eq]; exact ⟨h0, h1, h2, h3⟩
          rw [e]
          go_enter Try.func52, Try.ntmps52
          go_wp2
          go_ret; exact ⟨rfl, rfl⟩
        · have e : fairB lo hi tot = false := by unfold fairB; rw [decide_eq_false_iff_not]; omega
          rw [e]
          go_enter Try.func52, Try.ntmps52
          go_wp2
          go_ret; exact ⟨rfl, rfl⟩
      · have e : fairB lo hi tot = false := by unfold fairB; rw [decide_eq_false_iff_not]; omega
        rw [e]
        go_enter Try.func52, Try.ntmps52
        go_wp2
        go_ret; exact ⟨rfl, rfl⟩
    · have e : fairB lo hi tot = false := by unfold fairB; rw [decide_eq_false_iff_not]; omega
      rw [e]
      go_enter Try.func52, Try.ntmps52
      go_wp2
      go_ret; exact ⟨rfl, rfl⟩
  · have e : fairB lo hi tot = false := by unfold fairB; rw [decide_eq_false_iff_not]; omega
    rw [e]
    go_enter Try.func52, Try.ntmps52
    go_wp2
    go_ret; exact ⟨rfl, rfl⟩

theorem rfair_any (lo hi tot : Int) (w : World) : Calls Try.prog 45 #[.int .i64 lo, .int .i64 hi, .int .i64 tot] w fun e w' => e = .returned (.bool (fairB lo hi tot)) ∧ w' = w := by
  by_cases h0 : 0 ≤ lo
  · by_cases h1 : lo < hi
    · by_cases h2 : hi ≤ tot
      · by_cases h3 : tot ≤ 65536
        · have e : fairB lo hi tot = true := by unfold fairB; rw [decide_eq_true_eq]; exact ⟨h0, h1, h2, h3⟩
          rw [e]
          go_enter Try.func45, Try.ntmps45
          go_wp2
          go_ret; exact ⟨rfl, rfl⟩
        · have e : fairB lo hi tot = false := by unfold fairB; rw [decide_eq_false_iff_not]; omega
          rw [e]
          go_enter Try.func45, Try.ntmps45
          go_wp2
          go_ret; exact ⟨rfl, rfl⟩
      · have e : fairB lo hi tot = false := by unfold fairB; rw [decide_eq_false_iff_not]; omega
        rw [e]
        go_enter Try.func45, Try.ntmps45
        go_wp2
        go_ret; exact ⟨rfl, rfl⟩
    · have e : fairB lo hi tot = false := by unfold fairB; rw [decide_eq_false_iff_not]; omega
      rw [e]
      go_enter Try.func45, Try.ntmps45
      go_wp2
      go_ret; exact ⟨rfl, rfl⟩
  · have e : fairB lo hi tot = false := by unfold fairB; rw [decide_eq_false_iff_not]; omega
    rw [e]
    go_enter Try.func45, Try.ntmps45
    go_wp2
    go_ret; exact ⟨rfl, rfl⟩

/-- What a share's walk wants of its numbers. -/
theorem share_facts {R lo hi tot : Nat} (hR : Rok R) (hf : Fair lo hi tot) : ∃ q A B : Nat, R / tot = q ∧ q * lo = A ∧ q * (hi - lo) = B ∧ 256 ≤ q ∧ q ≤ R ∧ A + B ≤ R ∧ ahead R lo tot = A ∧ (hi = tot → width R lo hi tot = R - A) ∧ (hi ≠ tot → width R lo hi tot = B) := by
  have hm := unit_mul R tot
  have h1 := hf.lt
  have h2 := hf.le
  refine ⟨R / tot, R / tot * lo, R / tot * (hi - lo), rfl, rfl, rfl, unit_ge hR (by omega) hf.top, Nat.div_le_self _ _, ?_, rfl, fun h => by unfold width; rw [if_pos h], fun h => by unfold width; rw [if_neg h]⟩
  rw [← Nat.mul_add, show lo + (hi - lo) = hi by omega]
  exact Nat.le_trans (Nat.mul_le_mul_left _ h2) hm

set_option maxHeartbeats 400000 in
theorem share_any (R lo hi tot : Nat) (w : World) (hR : Rok R) (hf : Fair lo hi tot) : Calls Try.prog 53 #[.int .u32 R, .int .i64 lo, .int .i64 hi, .int .i64 tot] w fun e w' => e = .returned (.tuple #[.int .u64 (ahead R lo tot : Nat), .int .u32 (width R lo hi tot : Nat)]) ∧ w' = w := by
  obtain ⟨q, A, B, hq, hA, hB, hq1, hq2, hAB, eA, eW1, eW2⟩ := share_facts hR hf
  obtain ⟨hR1, hR2⟩ := hR
  obtain ⟨h1, h2, h3⟩ := hf
  have k1 : ((R : Int).tdiv (tot : Int)) = (q : Int) := by rw [← hq]; rfl
  have k2 : ((q : Int) * (lo : Int)) = (A : Int) := by rw [← hA]; simp
  have k3 : ((q : Int) * ((hi : Int) - (lo : Int))) = (B : Int) := by rw [← hB, show ((hi : Int) - (lo : Int)) = ((hi - lo : Nat) : Int) by omega]; simp
  have t0 : ((tot : Int) == 0) = false := by simp; omega
  rw [eA]
  have E1 : Hid _ := eW1
  have E2 : Hid _ := eW2
  clear eW1 eW2 hq hA hB eA
  by_cases hh : hi = tot
  · have := E1.out hh
    rw [this]
    clear this E1 E2
    subst hh
    rw [show ((R - A : Nat) : Int) = (R : Int) - A by omega]
    go_enter Try.func53, Try.ntmps53
    go_wp2
    exact bodyPost_ret (v := .tuple #[_, _]) (by simp [results, Try.results53, go_sem]) rfl ⟨rfl, rfl⟩
  · have := E2.out hh
    rw [this]
    clear this E1 E2
    have hh' : ((hi : Int) == (tot : Int)) = false := by simp; omega
    go_enter Try.func53, Try.ntmps53
    go_wp2
    exact bodyPost_ret (v := .tuple #[_, _]) (by simp [results, Try.results53, go_sem]) rfl ⟨rfl, rfl⟩

set_option maxHeartbeats 400000 in
theorem part_any (R lo hi tot : Nat) (w : World) (hR : Rok R) (hf : Fair lo hi tot) : Calls Try.prog 46 #[.int .u64 R, .int .i64 lo, .int .i64 hi, .int .i64 tot] w fun e w' => e = .returned (.tuple #[.int .u64 (width R lo hi tot : Nat), .int .u64 (ahead R lo tot : Nat)]) ∧ w' = w := by
  obtain ⟨q, A, B, hq, hA, hB, hq1, hq2, hAB, eA, eW1, eW2⟩ := share_facts hR hf
  obtain ⟨hR1, hR2⟩ := hR
  obtain ⟨h1, h2, h3⟩ := hf
  have k1 : ((R : Int).tdiv (tot : Int)) = (q : Int) := by rw [← hq]; rfl
  have k2 : ((q : Int) * (lo : Int)) = (A : Int) := by rw [← hA]; simp
  have k3 : ((q : Int) * ((hi : Int) - (lo : Int))) = (B : Int) := by rw [← hB, show ((hi : Int) - (lo : Int)) = ((hi - lo : Nat) : Int) by omega]; simp
  have t0 : ((tot : Int) == 0) = false := by simp; omega
  rw [eA]
  have E1 : Hid _ := eW1
  have E2 : Hid _ := eW2
  clear eW1 eW2 hq hA hB eA
  by_cases hh : hi = tot
  · have := E1.out hh
    rw [this]
    clear this E1 E2
    subst hh
    rw [show ((R - A : Nat) : Int) = (R : Int) - A by omega]
    go_enter Try.func46, Try.ntmps46
    go_wp2
    exact bodyPost_ret (v := .tuple #[_, _]) (by simp [results, Try.results46, go_sem]) rfl ⟨rfl, rfl⟩
  · have := E2.out hh
    rw [this]
    clear this E1 E2
    have hh' : ((hi : Int) == (tot : Int)) = false := by simp; omega
    go_enter Try.func46, Try.ntmps46
    go_wp2
    exact bodyPost_ret (v := .tuple #[_, _]) (by simp [results, Try.results46, go_sem]) rfl ⟨rfl, rfl⟩

/-! ### Which encoders and decoders are right -/
def encB (L R : Int) (n : Nat) : Bool := decide (L ≤ 4294967295 ∧ 16777216 ≤ R ∧ n ≤ 4000)
def decB (C R : Int) (A : Int) : Bool := decide (C ≤ 4294967295 ∧ 16777216 ≤ R ∧ 0 ≤ A)
theorem rightEnc_any (L R : Int) (a : Option Addr) (n cap : Nat) (w : World) : Calls Try.prog 51 #[.agg #[.int .u64 L, .int .u32 R, .slice a n cap]] w fun e w' => e = .returned (.bool (encB L R n)) ∧ Below w.heap.size w w' := by
  by_cases h0 : L ≤ 4294967295
  · by_cases h1 : 16777216 ≤ R
    · by_cases h2 : (n : Int) ≤ 4000
      · have e : encB L R n = true := by unfold encB; rw [decide_eq_true_eq]; omega
        rw [e]
        go_enter Try.func51, Try.ntmps51
        go_wp2
        go_ret; exact ⟨rfl, below1 _ _⟩
      · have e : encB L R n = false := by unfold encB; rw [decide_eq_false_iff_not]; omega
        rw [e]
        go_enter Try.func51, Try.ntmps51
        go_wp2
        go_ret; exact ⟨rfl, below1 _ _⟩
    · have e : encB L R n = false := by unfold encB; rw [decide_eq_false_iff_not]; omega
      rw [e]
      go_enter Try.func51, Try.ntmps51
      go_wp2
      go_ret; exact ⟨rfl, below1 _ _⟩
  · have e : encB L R n = false := by unfold encB; rw [decide_eq_false_iff_not]; omega
    rw [e]
    go_enter Try.func51, Try.ntmps51
    go_wp2
    go_ret; exact ⟨rfl, below1 _ _⟩
theorem lright_any (L R : Int) (a : Option Addr) (n cap : Nat) (w : World) : Calls Try.prog 33 #[.agg #[.int .u64 L, .int .u32 R, .slice a n cap]] w fun e w' => e = .returned (.bool (encB L R n)) ∧ Below w.heap.size w w' := by
  by_cases h0 : L ≤ 4294967295
  · by_cases h1 : 16777216 ≤ R
    · by_cases h2 : (n : Int) ≤ 4000
      · have e : encB L R n = true := by unfold encB; rw [decide_eq_true_eq]; omega
        rw [e]
        go_enter Try.func33, Try.ntmps33
        go_wp2
        go_ret; exact ⟨rfl, below1 _ _⟩
      · have e : encB L R n = false := by unfold encB; rw [decide_eq_false_iff_not]; omega
        rw [e]
        go_enter Try.func33, Try.ntmps33
        go_wp2
        go_ret; exact ⟨rfl, below1 _ _⟩
    · have e : encB L R n = false := by unfold encB; rw [decide_eq_false_iff_not]; omega
      rw [e]
      go_enter Try.func33, Try.ntmps33
      go_wp2
      go_ret; exact ⟨rfl, below1 _ _⟩
  · have e : encB L R n = false := by unfold encB; rw [decide_eq_false_iff_not]; omega
    rw [e]
    go_enter Try.func33, Try.ntmps33
    go_wp2
    go_ret; exact ⟨rfl, below1 _ _⟩
theorem rightDec_any (C R : Int) (a : Option Addr) (n cap : Nat) (A : Int) (w : World) : Calls Try.prog 25 #[.agg #[.int .u64 C, .int .u32 R, .slice a n cap, .int .i64 A]] w fun e w' => e = .returned (.bool (decB C R A)) ∧ Below w.heap.size w w' := by
  by_cases h0 : C ≤ 4294967295
  · by_cases h1 : 16777216 ≤ R
    · by_cases h2 : 0 ≤ A
      · have e : decB C R A = true := by unfold decB; rw [decide_eq_true_eq]; exact ⟨h0, h1, h2⟩
        rw [e]
        go_enter Try.func25, Try.ntmps25
        go_wp2
        go_ret; exact ⟨rfl, below1 _ _⟩
      · have e : decB C R A = false := by unfold decB; rw [decide_eq_false_iff_not]; omega
        rw [e]
        go_enter Try.func25, Try.ntmps25
        go_wp2
        go_ret; exact ⟨rfl, below1 _ _⟩
    · have e : decB C R A = false := by unfold decB; rw [decide_eq_false_iff_not]; omega
      rw [e]
      go_enter Try.func25, Try.ntmps25
      go_wp2
      go_ret; exact ⟨rfl, below1 _ _⟩
  · have e : decB C R A = false := by unfold decB; rw [decide_eq_false_iff_not]; omega
    rw [e]
    go_enter Try.func25, Try.ntmps25
    go_wp2
    go_ret; exact ⟨rfl, below1 _ _⟩
theorem new_any (w : World) : Calls Try.prog 22 #[] w fun e w' => e = .returned (.agg #[.int .u64 0, .int .u32 4294967295, .slice none 0 0]) ∧ Below w.heap.size w w' := by
  go_enter Try.func22, Try.ntmps22
  go_wp2
  refine bodyPost_ret (v := .agg #[.int .u64 0, .int .u32 4294967295, .slice none 0 0]) (by simp [results, Try.results22, go_sem]) rfl ⟨rfl, ?_⟩
  exact below1 _ _
end Go.Proofs.Ytkfpphccpkfenaa
