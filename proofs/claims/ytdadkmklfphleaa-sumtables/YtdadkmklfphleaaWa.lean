/- Contracts of the small functions: Begin, End, great, and the table's number at a place, by the program and by the document. -/
import Derived.Test.YtdadkmklfphleaaRows
import Derived.Test.YtdadkmklfphleaaBase
import Derived.Test.YtdadkmklfphleaaMath
import Derived.Test.YtdadkmklfphleaaCrc
import Derived.Laws.BitsAllLaws
namespace Go.Proofs.Ytdadkmklfphleaa
open Go.RowKit
set_option linter.unusedVariables false
set_option linter.unusedSimpArgs false

theorem u8_nat {a : Int} (h : (Lit.int .u8 a).wf = true) : ∃ V : Nat, a = V ∧ V < 2 ^ 8 := by
  simp [Lit.wf, IntKind.min, IntKind.max, IntKind.bits, IntKind.signed] at h
  exact ⟨a.toNat, by omega, by omega⟩
theorem u32_nat {a : Int} (h : (Lit.int .u32 a).wf = true) : ∃ V : Nat, a = V ∧ V < 2 ^ 32 := by
  simp [Lit.wf, IntKind.min, IntKind.max, IntKind.bits, IntKind.signed] at h
  exact ⟨a.toNat, by omega, by omega⟩

theorem begin_any (w : World) : Calls Try.prog 16 #[] w fun e w' => e = .returned (.int .u32 4294967295) ∧ w' = w := by
  go_enter Try.func16, Try.ntmps16
  go_wp2
  go_ret
  exact ⟨rfl, rfl⟩

theorem end_any (c : Nat) (h : c < 2 ^ 32) (w : World) : Calls Try.prog 17 #[.int .u32 c] w fun e w' => e = .returned (.int .u32 ((c ^^^ 4294967295 : Nat) : Int)) ∧ w' = w := by
  have h1 := u32_xor_nat c 4294967295 (by omega) (by decide)
  go_enter Try.func17, Try.ntmps17
  go_wp2
  go_ret
  exact ⟨ret_int h1, rfl⟩

theorem great_any (a : Option Addr) (len cap : Nat) (w : World) :
    Calls Try.prog 11 #[.slice a len cap] w fun e w' => e = .returned (.bool (decide (5000 < len))) ∧ w' = w := by
  go_enter Try.func11, Try.ntmps11
  go_wp2
  go_ret
  exact ⟨by simp; omega, rfl⟩

theorem stps_succ (k x : Nat) : stps (k + 1) x = stp (stps k x) := stps_add k 1 x
theorem stp_odd (y : Nat) (hlt : y < 2 ^ 32) (ho : y % 2 = 1) : bits .xor .u32 ((y : Int) / 2) 3988292384 = ((stp y : Nat) : Int) := by
  have h := u32_xor_nat (y / 2) 3988292384 (by omega) (by decide)
  unfold stp
  rw [if_pos ho]
  have e : ((y / 2 : Nat) : Int) = (y : Int) / 2 := by omega
  rw [e] at h
  exact h
theorem stp_not (y : Nat) (ho : ¬ y % 2 = 1) : (y : Int) / 2 = ((stp y : Nat) : Int) := by
  unfold stp
  rw [if_neg ho]
  simp
theorem and1_u32 (y : Nat) (hlt : y < 2 ^ 32) : bits .and .u32 (y : Int) 1 = ((y % 2 : Nat) : Int) := by
  have h := u32_and_nat y 1 (by omega) (by decide)
  rw [Nat.and_one_is_mod] at h
  exact_mod_cast h

theorem entryP_any (c : Nat) (h : c < 2 ^ 32) (w : World) : Calls Try.prog 18 #[.int .u32 c] w fun e w' => e = .returned (.int .u32 (entry c)) ∧ w' = w := by
  go_enter Try.func18, Try.ntmps18
  go_wp2
  go_loop [3, 6] (fun v i => ∃ k : Nat, k ≤ 8 ∧ i = .int .i64 k ∧ v = .int .u32 (stps k c)) (fun _ i => 8 - (intOf i).toNat)
  case atStart => exact ⟨0, by omega, rfl, rfl⟩
  case round =>
    obtain ⟨k, hk, rfl, rfl⟩ := hrel
    have hlt := stps_lt k c h
    have hs : Hid (stps (k + 1) c = stp (stps k c)) := stps_succ k c
    by_cases h8 : k < 8
    · generalize stps k c = y at hs hlt
      by_cases ho : y % 2 = 1
      · have e1 : bits .and .u32 (y : Int) 1 = 1 := by rw [and1_u32 y hlt, ho]; rfl
        go_wp2
        refine ⟨⟨k + 1, by omega, by go_num, ?_⟩, by simp [intOf]; omega⟩
        rw [hs.out, stp_odd y hlt ho]
      · have e1 : bits .and .u32 (y : Int) 1 = 0 := by rw [and1_u32 y hlt, show y % 2 = 0 by omega]; rfl
        go_wp2
        refine ⟨⟨k + 1, by omega, by go_num, ?_⟩, by simp [intOf]; omega⟩
        rw [hs.out, stp_not y ho]
    · have hge : 8 ≤ k := by omega
      clear h8
      go_wp2
      have : k = 8 := by omega
      subst this
      go_ret
      exact ⟨rfl, rfl⟩

theorem entryR_any (c : Nat) (h : c < 2 ^ 32) (w : World) : Calls Try.prog 9 #[.int .u32 c] w fun e w' => e = .returned (.int .u32 (entry c)) ∧ w' = w := by
  go_enter Try.func9, Try.ntmps9
  go_wp2
  go_loop [0, 3] (fun v i => ∃ k : Nat, k ≤ 8 ∧ i = .int .i64 k ∧ v = .int .u32 (stps k c)) (fun _ i => 8 - (intOf i).toNat)
  case atStart => exact ⟨0, by omega, rfl, rfl⟩
  case round =>
    obtain ⟨k, hk, rfl, rfl⟩ := hrel
    have hlt := stps_lt k c h
    have hs : Hid (stps (k + 1) c = stp (stps k c)) := stps_succ k c
    by_cases h8 : k < 8
    · generalize stps k c = y at hs hlt
      by_cases ho : y % 2 = 1
      · go_wp2
        refine ⟨⟨k + 1, by omega, by go_num, ?_⟩, by simp [intOf]; omega⟩
        rw [hs.out, stp_odd y hlt ho]
      · have ho' : y % 2 = 0 := by omega
        go_wp2
        refine ⟨⟨k + 1, by omega, by go_num, ?_⟩, by simp [intOf]; omega⟩
        rw [hs.out, stp_not y ho]
    · have hge : 8 ≤ k := by omega
      clear h8
      go_wp2
      have : k = 8 := by omega
      subst this
      go_ret
      exact ⟨rfl, rfl⟩
end Go.Proofs.Ytdadkmklfphleaa
