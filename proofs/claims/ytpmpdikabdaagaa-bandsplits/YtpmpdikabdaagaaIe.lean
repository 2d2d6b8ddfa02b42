/- Contract of Gains. -/
import Derived.Test.YtpmpdikabdaagaaId
namespace Go.Proofs.Ytpmpdikabdaagaa
open Go.RowKit
set_option linter.unusedVariables false
set_option linter.unusedSimpArgs false

theorem bnds_at (c : List Int) (i : Nat) (h : i < 5) : (bnds c).getD i [] = bnd c i := by
  simp [bnds, List.getD_eq_getElem?_getD, h]
theorem fits_fair {x : List Int} (h : fairX x = true) : Fits x := fun j => by
  have := (fairX_parts h).2.2 j
  omega
theorem fairF_parts {c : List Int} (h : fairF c = true) : c.length = 16 ∧ fairX c = true := by
  unfold fairF at h
  simpa only [Bool.and_eq_true, decide_eq_true_eq] using h
/-- The gain of a band of a frame, by the program. -/
theorem gain_band {c : List Int} (hx : fairF c = true) (i : Nat) (hi : i < 5) (a : Option Addr) (cap : Nat) (w : World) (hv : Rw .i64 w (.slice a (bnd c i).length cap) (bnd c i)) : Calls Try.prog 17 #[.slice a (bnd c i).length cap] w fun e w' => e = .returned (.tuple #[.int .i64 (gn (bnd c i) : Nat), .int .i64 0]) ∧ w' = w := by
  obtain ⟨h16, hf⟩ := fairF_parts hx
  have hb := bnd_fair hf h16 hi
  have := bnd_len h16 hi
  have := band_in hi
  exact gain_ok a cap (bnd c i) w hv (fits_fair hb) hb (by omega)
def gpart (c : List Int) (i : Nat) (j : Nat) : Int := if j < i then (gn (bnd c j) : Nat) else 0
theorem gpart_next (c : List Int) (i : Nat) (hi : i < 5) : (tab 5 (gpart c i)).set i ((gn (bnd c i) : Nat) : Int) = tab 5 (gpart c (i + 1)) := by
  rw [tab_set _ _ _ _ hi]
  refine tab_congr fun j hj => ?_
  unfold gpart
  by_cases e : j = i
  · subst e; rw [if_pos rfl, if_pos (by omega)]
  · rw [if_neg e]
    by_cases h : j < i
    · rw [if_pos h, if_pos (by omega)]
    · rw [if_neg h, if_neg (by omega)]
theorem gpart_all (c : List Int) : tab 5 (gpart c 5) = gns c := tab_congr fun j hj => by unfold gpart; rw [if_pos hj]
theorem gpart_none (c : List Int) : (tab 5 fun _ => 0) = tab 5 (gpart c 0) := tab_congr fun j hj => by unfold gpart; rw [if_neg (by omega)]
theorem info_int : (Try.prog.info? 3).map (fun i => (i.zero, i.size, i.bytes)) = some (some (.int .i64 0), 1, 8) := by kernel_rfl
theorem gains_no (a : Option Addr) (cap : Nat) (c : List Int) (w : World) (hv : Rw .i64 w (.slice a c.length cap) c) (hf : Fits c) (hx : fairF c = false) : Calls Try.prog 21 #[.slice a c.length cap] w fun e w' => e = .returned (.tuple #[.slice none 0 0, .int .i64 1]) ∧ w' = w := by
  have hs := fun w hv => split_no a cap c w hv hf hx
  go_enter Try.func21, Try.ntmps21
  go_wp2_with (go_at_call 20; refine (hs _ hv).mono ?_; rintro e w9 ⟨rfl, h9⟩; have h9 := h9.symm; subst h9)
  go_ret2
  exact ⟨rfl, rfl⟩
set_option maxRecDepth 10000 in
set_option maxHeartbeats 4000000 in
theorem gains_ok (a : Option Addr) (cap : Nat) (c : List Int) (w : World) (hv : Rw .i64 w (.slice a c.length cap) c) (hf : Fits c) (hx : fairF c = true) :
    Calls Try.prog 21 #[.slice a c.length cap] w fun e w' => ∃ g, e = .returned (.tuple #[.slice (some ⟨g, 0, none⟩) 5 5, .int .i64 0]) ∧ Rw .i64 w' (.slice (some ⟨g, 0, none⟩) 5 5) (gns c) ∧ Below w.heap.size w w' := by
  obtain ⟨i1, hi1, hy0, hy1, hy2⟩ := info_parts info_int
  have hs := fun w hv => split_ok a cap c w hv hf hx
  have HGB := hid (gain_band hx)
  have HAT := hid (bnds_at c)
  have HNX := hid (gpart_next c)
  have HAL := hid (gpart_all c)
  have HNO := hid (gpart_none c)
  have HLE : Hid (∀ i, i < 5 → gn (bnd c i) ≤ 64) := fun i hi => gn_le64 (bnd_fair (fairF_parts hx).2 (fairF_parts hx).1 hi)
  generalize c.length = n at *
  generalize bnds c = BS at *
  generalize gns c = GS at *
  generalize gpart c = gp at *
  generalize bnd c = B at *
  clear hf hx
  go_enter Try.func21, Try.ntmps21
  go_wp2_with (first | (go_at_call 20; refine (hs _ hv).mono ?_; rintro e W ⟨g, rfl, hfr, hb1⟩; have HF := hid hfr; have HB1 := hid hb1; clear hfr hb1 hs hv) | (at_make; refine wpList_make_full _ rfl _ _ 35 rfl W.heap.size 3 i1 (.int .i64 0) 1 Try.underlying35 hi1 hy0 hy1 .i64 .i64 _ _ 5 rfl rfl (by omega) (by omega) (by rw [hy2]; omega) (by unfold maxLen; omega) (by simp) ?_))
  intro w7 hown7 hgrow7
  have hb7 := grown_of_none hgrow7
  have HG0 : Hid (Blk .i64 3 w7 W.heap.size (tab 5 (gp 0))) := by rw [← HNO.out]; exact Blk.made hown7
  have HB7 := hid hb7
  have HF7 := hid (HF.out.below hb7)
  clear hown7 hgrow7 hb7
  go_wp2
  go_loopw [22] (fun p wr => ∃ i : Nat, i ≤ 5 ∧ p = .int .i64 i ∧ Blk .i64 3 wr W.heap.size (tab 5 (gp i)) ∧ Below W.heap.size W wr) (fun p _ => 5 - (intOf p).toNat)
  case atStart => exact ⟨0, by omega, rfl, HG0.out, HB7.out⟩
  case round =>
    obtain ⟨i, hi2, rfl, hbk, hbw⟩ := hrel
    have HBK := hid hbk
    have HBW := hid hbw
    clear hbk hbw HG0 HB7 HF7
    by_cases hl : i < 5
    · obtain ⟨b1, o1, he1, hb1, ra, rc, hc1, _, hrw⟩ := (HF.out.below HBW.out).at i hl
      rw [HAT.out i hl] at hc1 hrw
      have hgb := fun w hv => HGB.out i hl ra rc w hv
      have hf2 := HBK.out.free i (by rw [tab_len]; exact hl)
      have hc2 := HBK.out.cell i (by rw [tab_len]; exact hl)
      have hle := HLE.out i hl
      have HN := hid (HNX.out i hl)
      have HP : Hid (∀ v, Blk .i64 3 (wr.setCell ⟨W.heap.size, i, none⟩ (.int .i64 v)) W.heap.size ((tab 5 (gp i)).set i v)) := fun v => HBK.out.set i v
      have HI : Hid (i < 5) := hl
      simp only [Option.some.injEq, Addr.mk.injEq] at he1
      obtain ⟨rfl, rfl, _⟩ := he1
      rw [Nat.zero_add] at hc1
      generalize gn (B i) = G at *
      generalize (tab 5 (gp i)).getD i 0 = v0 at *
      go_wp2_with (go_at_call 17; refine (hgb _ hrw).mono ?_; rintro e w9 ⟨rfl, h9⟩; have h9 := h9.symm; subst h9)
      exact ⟨⟨i + 1, by omega, by go_num, by rw [← HN.out]; exact HP.out _, bset1 HBW.out _ _ _ (Nat.le_refl _)⟩, by simp [intOf]; omega⟩
    · have hie : i = 5 := by omega
      have R : Hid (Rw .i64 wr (.slice (some ⟨W.heap.size, 0, none⟩) 5 5) GS) := by
        have h := HBK.out
        rw [hie, HAL.out] at h
        exact h.rw (by rw [← HAL.out, tab_len])
      have HB := hid (bthen' HB1.out HBW.out)
      clear hie HBK
      go_wp2
      go_ret2
      exact ⟨_, rfl, R.out, HB.out⟩
end Go.Proofs.Ytpmpdikabdaagaa
