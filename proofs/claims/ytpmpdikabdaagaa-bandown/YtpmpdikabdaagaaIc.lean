/- Contracts of Gain, by the program and by the document; which lists are frames; more than are looked at. -/
import Derived.Test.YtpmpdikabdaagaaIb
import Derived.Test.YtpmpdikabdaagaaFb
import Derived.Test.YtpmpdikabdaagaaFs
namespace Go.Proofs.Ytpmpdikabdaagaa
open Go.RowKit
set_option linter.unusedVariables false
set_option linter.unusedSimpArgs false

theorem log_any (x : Nat) (h : x < 2 ^ 64) (w : World) : Calls Try.prog 32 #[.int .u64 x] w fun e w' => e = .returned (.int .i64 ((bitN x : Int) - 1)) ∧ w' = w := by
  have H : Counts Lib.bitLen := ⟨by decide, fun x h0 h => Lib.bitLen_half x h0 h, fun x h => Lib.bitLen_le x 64 (by omega) h, by decide⟩
  have e := H.bits x x (Nat.le_refl _) h
  have := logP_of Lib.bitLen x (H.le x h) (fun w => len_any (x : Int) (by omega) (by omega) w) w
  rw [e] at this
  exact this

theorem gain_long (a : Option Addr) (cap : Nat) (x : List Int) (w : World) (h : 8 < x.length) : Calls Try.prog 17 #[.slice a x.length cap] w fun e w' => e = .returned (.tuple #[.int .i64 0, .int .i64 1]) ∧ w' = w := by
  have hw := fun w => width_any 4 w
  rw [show wdI 4 = 8 by rfl] at hw
  have h1 : (8 : Int) < (x.length : Int) := by omega
  generalize x.length = n at *
  go_enter Try.func17, Try.ntmps17
  go_wp2_with (go_at_call 11; refine (hw _).mono ?_; rintro e w9 ⟨rfl, h9⟩; have h9 := h9.symm; subst h9)
  go_ret2
  exact ⟨rfl, rfl⟩
theorem gain_wrong (a : Option Addr) (cap : Nat) (x : List Int) (w : World) (hv : Rw .i64 w (.slice a x.length cap) x) (hf : Fits x) (hx : fairX x = false) (h : ¬ 8 < x.length) : Calls Try.prog 17 #[.slice a x.length cap] w fun e w' => e = .returned (.tuple #[.int .i64 0, .int .i64 1]) ∧ w' = w := by
  have hw := fun w => width_any 4 w
  rw [show wdI 4 = 8 by rfl] at hw
  have h1 : (x.length : Int) ≤ 8 := by omega
  have hs := fun w hv => square_no (.slice a x.length cap) x w hv hf hx
  generalize x.length = n at *
  go_enter Try.func17, Try.ntmps17
  go_wp2_with (first | (go_at_call 11; refine (hw _).mono ?_; rintro e w9 ⟨rfl, h9⟩; have h9 := h9.symm; subst h9) | (go_at_call 31; refine (hs _ hv).mono ?_; rintro e w9 ⟨rfl, h9⟩; have h9 := h9.symm; subst h9))
  go_ret2
  exact ⟨rfl, rfl⟩
theorem gain_ok (a : Option Addr) (cap : Nat) (x : List Int) (w : World) (hv : Rw .i64 w (.slice a x.length cap) x) (hf : Fits x) (hx : fairX x = true) (h : x.length ≤ 8) : Calls Try.prog 17 #[.slice a x.length cap] w fun e w' => e = .returned (.tuple #[.int .i64 (gn x : Nat), .int .i64 0]) ∧ w' = w := by
  have hw := fun w => width_any 4 w
  rw [show wdI 4 = 8 by rfl] at hw
  have h1 : (x.length : Int) ≤ 8 := by omega
  have hs := fun w hv => square_ok (.slice a x.length cap) x w hv hf hx
  have hl := fun w => log_any (sq x x.length) (sq_lt64 hx) w
  have hg := gn_le64 hx
  unfold gn at *
  generalize bitN (sq x x.length) = g at *
  generalize sq x x.length = s at *
  generalize x.length = n at *
  go_enter Try.func17, Try.ntmps17
  go_wp2_with (first | (go_at_call 11; refine (hw _).mono ?_; rintro e w9 ⟨rfl, h9⟩; have h9 := h9.symm; subst h9) | (go_at_call 31; refine (hs _ hv).mono ?_; rintro e w9 ⟨rfl, h9⟩; have h9 := h9.symm; subst h9) | (go_at_call 32; refine (hl _).mono ?_; rintro e w9 ⟨rfl, h9⟩; have h9 := h9.symm; subst h9))
  go_ret2
  exact ⟨rfl, rfl⟩

theorem rgain_any (a : Option Addr) (cap : Nat) (x : List Int) (w : World) (hv : Rw .i64 w (.slice a x.length cap) x) (hx : fairX x = true) : Calls Try.prog 19 #[.slice a x.length cap] w fun e w' => e = .returned (.int .i64 (gn x : Nat)) ∧ w' = w := by
  have hs := fun w hv => rsquare_any (.slice a x.length cap) x w hv hx
  have h64 := sq_lt64 hx
  have hg := gn_le64 hx
  unfold gn at *
  generalize sq x x.length = s at *
  obtain ⟨G, hG⟩ : ∃ G, bitN s = G := ⟨_, rfl⟩
  rw [hG] at hg ⊢
  have HG := hid hG
  have H64 := hid h64
  generalize x.length = n at *
  clear hG h64
  go_enter Try.func19, Try.ntmps19
  go_wp2_with (go_at_call 27; refine (hs _ hv).mono ?_; rintro e w9 ⟨rfl, h9⟩; have h9 := h9.symm; subst h9)
  clear hs hv
  go_loop [3, 4] (fun p i => ∃ t j : Nat, t < 18446744073709551616 ∧ j + bitN t = G ∧ p = .int .u64 (t : Nat) ∧ i = .int .i64 (j : Nat)) (fun p _ => (intOf p).toNat)
  case atStart => exact ⟨s, 0, H64.out, by rw [HG.out]; omega, rfl, rfl⟩
  case round =>
    obtain ⟨t, j, ht, hj, rfl, rfl⟩ := hrel
    by_cases h0 : t = 0
    · subst h0
      rw [bit_zero] at hj
      have hj : Hid (j = G) := by unfold Hid; omega
      go_wp2
      go_ret
      exact ⟨ret_int (by rw [hj.out]), rfl⟩
    · have hb := bit_half (x := t) ht h0
      have HJ : Hid (j + 1 + bitN (t / 2) = G) := by unfold Hid; omega
      have hj2 : (j : Int) ≤ 64 := by omega
      clear hj hb
      have t1 : (0 : Int) < (t : Int) := by omega
      obtain ⟨T, hT⟩ : ∃ T : Int, (t : Int) = T := ⟨_, rfl⟩
      have HT := hid hT
      have t2 : T ≤ 18446744073709551615 := by omega
      rw [hT] at t1
      go_wp2
      exact ⟨⟨t / 2, j + 1, by omega, HJ.out, by rw [← HT.out]; go_num, by go_num⟩, by simp [intOf]; have := HT.out; omega⟩

/-- Is it a frame? -/
def fairF (c : List Int) : Bool := decide (c.length = 16) && fairX c
theorem fairF_len {c : List Int} (h : c.length ≠ 16) : fairF c = false := by unfold fairF; rw [decide_eq_false h]; rfl
theorem fairF_16 {c : List Int} (h : c.length = 16) : fairF c = fairX c := by unfold fairF; rw [decide_eq_true h]; simp
theorem isf_any (a : Option Addr) (cap : Nat) (c : List Int) (w : World) (hv : Rw .i64 w (.slice a c.length cap) c) (hf : Fits c) : Calls Try.prog 33 #[.slice a c.length cap] w fun e w' => e = .returned (.bool (fairF c)) ∧ w' = w := by
  by_cases h : c.length = 16
  · rw [fairF_16 h]
    cases hx : fairX c
    · have hs := fun w hv => square_no (.slice a c.length cap) c w hv hf hx
      generalize c.length = n at *
      subst h
      go_enter Try.func33, Try.ntmps33
      go_wp2_with (go_at_call 31; refine (hs _ hv).mono ?_; rintro e w9 ⟨rfl, h9⟩; have h9 := h9.symm; subst h9)
      go_ret
      exact ⟨rfl, rfl⟩
    · have hs := fun w hv => square_ok (.slice a c.length cap) c w hv hf hx
      generalize sq c c.length = s at *
      generalize c.length = n at *
      subst h
      go_enter Try.func33, Try.ntmps33
      go_wp2_with (go_at_call 31; refine (hs _ hv).mono ?_; rintro e w9 ⟨rfl, h9⟩; have h9 := h9.symm; subst h9)
      go_ret
      exact ⟨rfl, rfl⟩
  · rw [fairF_len h]
    have h1 : ((c.length : Int) != 16) = true := by simp; omega
    generalize c.length = n at *
    clear h hv
    go_enter Try.func33, Try.ntmps33
    go_wp2
    go_ret
    exact ⟨rfl, rfl⟩
theorem rfair_any (a : Option Addr) (cap : Nat) (c : List Int) (w : World) (hv : Rw .i64 w (.slice a c.length cap) c) (hf : Fits c) (hn : c.length ≤ 100) : Calls Try.prog 22 #[.slice a c.length cap] w fun e w' => e = .returned (.bool (fairF c)) ∧ w' = w := by
  have hs := fun w hv => fair_any (.slice a c.length cap) c w hv hf hn
  by_cases h : c.length = 16
  · rw [fairF_16 h]
    generalize fairX c = B at *
    generalize c.length = n at *
    subst h
    go_enter Try.func22, Try.ntmps22
    go_wp2_with (go_at_call 18; refine (hs _ hv).mono ?_; rintro e w9 ⟨rfl, h9⟩; have h9 := h9.symm; subst h9)
    go_ret
    exact ⟨rfl, rfl⟩
  · rw [fairF_len h]
    have h1 : ((c.length : Int) == 16) = false := by simp; omega
    generalize c.length = n at *
    clear h hv hs
    go_enter Try.func22, Try.ntmps22
    go_wp2
    go_ret
    exact ⟨rfl, rfl⟩
theorem great_any (a : Option Addr) (n cap : Nat) (w : World) : Calls Try.prog 16 #[.slice a n cap] w fun e w' => e = .returned (.bool (decide (100 < n))) ∧ w' = w := by
  by_cases h : 100 < n
  · rw [decide_eq_true h]
    have h1 : (100 : Int) < (n : Int) := by omega
    go_enter Try.func16, Try.ntmps16
    go_wp2
    go_ret
    exact ⟨rfl, rfl⟩
  · rw [decide_eq_false h]
    have h1 : ¬ (100 : Int) < (n : Int) := by omega
    go_enter Try.func16, Try.ntmps16
    go_wp2
    go_ret
    exact ⟨rfl, rfl⟩
end Go.Proofs.Ytpmpdikabdaagaa
