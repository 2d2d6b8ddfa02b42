/- Is it the document's encoder? -/
import Derived.Test.YtkfpphccpkfenaaCr
import Derived.Deep.QuietTactic
import Derived.BigQuiet
namespace Go.Proofs.Ytkfpphccpkfenaa
open Go.RowKit
set_option linter.unusedVariables false
set_option linter.unusedSimpArgs false

set_option maxRecDepth 10000 in
set_option maxHeartbeats 2000000 in
theorem sameEnc_true (L R : Int) (a : Option Addr) (n cap : Nat) (R2 : Int) (a2 : Option Addr) (n2 cap2 : Nat) (e : En) (w : World) (h : EvOf w L R a n cap e) (hr : encB L R n = true) (h2 : rEv w R2 a2 n2 cap2 e) :
    Calls Try.prog 14 #[.agg #[.int .u64 L, .int .u32 R, .slice a n cap], .agg #[.int .u64 R2, .slice a2 n2 cap2]] w fun x w' => x = .returned (.bool true) ∧ Below w.heap.size w w' := by
  obtain ⟨hok, rfl, hn2, hrw2⟩ := h2
  have has := fun w h => asEnc_any L R a n cap e w h
  rw [← hn2] at has
  have hW := below2 w (.cells #[.int .u64 L, .int .u32 R, .slice a n cap] 26) (.cells #[.int .u64 e.R, .slice a2 n2 cap2] 36)
  have HL : Hid (e.all.length = n2) := by unfold Hid; rw [En.all_length, hn2]
  have hle := hok.le
  have hK : Hid (n2 ≤ 5000) := by unfold Hid; omega
  clear hn2 hle
  generalize e.all = xs at *
  have hne : ∀ x : Int, (x != x) = false := fun x => by simp
  go_enter Try.func14, Try.ntmps14
  go_wp2_with (first | (go_at_call 13; refine (has _ (h.below hW)).mono ?_; rintro x w1 ⟨a1, cap1, rfl, hrw1, hb1⟩; have hbw1 := bthen hW hb1 hW.size; have hbx := hbw1.alloc hbw1.size (.cells #[.int .u64 e.R, .slice a1 n2 cap1] 36); have hBe := (((B3.new w (.int .u64 L) (.int .u32 R) (.slice a n cap) 26).below (below1 _ (.cells #[.int .u64 e.R, .slice a2 n2 cap2] 36))).below hb1).below (below1 w1 (.cells #[.int .u64 e.R, .slice a1 n2 cap1] 36)); have hBf := ((B2.new2 w (.cells #[.int .u64 L, .int .u32 R, .slice a n cap] 26) (.int .u64 e.R) (.slice a2 n2 cap2) 36).below hb1).below (below1 w1 (.cells #[.int .u64 e.R, .slice a1 n2 cap1] 36)); have hBg := B2.new w1 (.int .u64 e.R) (.slice a1 n2 cap1) 36; obtain ⟨ze, e0, e1, e2, _, _, _⟩ := id hBe) | (go_at_call 33; refine (lright_any _ _ _ _ _ _).mono ?_; rw [hr]; rintro x w2 ⟨rfl, hb2⟩; have hbw2 := bthen hbx hb2 hbx.size; have hBf2 := hBf.below hb2; have hBg2 := hBg.below hb2; obtain ⟨zf, p0, p1, _, _⟩ := id hBf2; obtain ⟨zg, g0, g1, _, _⟩ := id hBg2))
  have hr1 := (hrw1.below (below1 w1 (.cells #[.int .u64 e.R, .slice a1 n2 cap1] 36))).below hb2
  have hr2 := hrw2.below hbw2
  rw [← HL.out] at hr1 hr2
  clear p0 p1 g0 g1
  go_loopw [6] (fun i wr => ∃ k : Nat, k ≤ n2 ∧ i = .int .i64 k ∧ Below w2.heap.size w2 wr) (fun i _ => n2 - (intOf i).toNat)
  case atStart => exact ⟨0, by omega, rfl, Below.refl _ _⟩
  case round =>
    obtain ⟨k, hk, rfl, hbr⟩ := hrel
    obtain ⟨zf, p0, p1, _, _⟩ := hBf2.below hbr
    obtain ⟨zg, g0, g1, _, _⟩ := hBg2.below hbr
    by_cases hlt : k < n2
    · obtain ⟨b1, o1, rfl, hb1', hc1⟩ := (hr1.below hbr).at k (by rw [HL.out]; exact hlt)
      obtain ⟨b2, o2, rfl, hb2', hc2⟩ := (hr2.below hbr).at k (by rw [HL.out]; exact hlt)
      generalize xs.getD k 0 = y at hc1 hc2
      have i1 : (0 : Int) ≤ (k : Int) := by omega
      have i2 : (k : Int) < (n2 : Int) := by omega
      have i3 : IntKind.i64.wrap (k : Int) = k := wraps_i64 _ (by omega) (by have := hK.out; omega)
      have hk5 : (k : Int) < 5000 := by have := hK.out; omega
      go_wp2
      go_quiet (fail)
      go_wp2
      exact ⟨⟨k + 1, by omega, by go_num, drewN_below hbr _⟩, by simp [intOf]; omega⟩
    · go_wp2
      go_ret
      exact ⟨rfl, bthen hbw2 hbr hbw2.size⟩
end Go.Proofs.Ytkfpphccpkfenaa
