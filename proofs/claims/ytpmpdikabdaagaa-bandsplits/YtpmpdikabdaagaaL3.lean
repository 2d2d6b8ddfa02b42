/- The Go function of the statement BandSplits returns true at every input, and leaves each argument as it read. No condition. -/
import Derived.Test.YtpmpdikabdaagaaIh
import Derived.Deep.QuietTactic
import Derived.Deep.RegionHeld3
import Derived.Deep.RegionWith
import Derived.Deep.DeepCutAuto
import Derived.Deep.CutRange
import Derived.ProofKit
import Derived.OpenShut
import Derived.ShutString
import Derived.ChangeOld
import Derived.Lib.SmallJoins
namespace Go.Proofs.Ytpmpdikabdaagaa.bandSplits
open Go.ChangeShapes Go.WideShapes Go.ChangeAt Go.RowKit Go.Joins
set_option linter.unusedVariables false
set_option linter.unusedSimpArgs false

theorem own : ownKnob Try.prog.godebug = none := by kernel_rfl
theorem laidOut : laidOutB Try.prog = true := by kernel_rfl

set_option maxRecDepth 10000 in
set_option maxHeartbeats 2000000 in
theorem walk (a0 : Option Addr) (len0 cap0 : Nat) (z0 : List Int) (w : World) (w0 : IsRow .i64 w a0 len0 cap0 z0) :
    Calls Try.prog 5 #[.slice a0 len0 cap0] w fun e w' => e = .returned (.bool true) ∧ Below w.heap.size w w' := by
  obtain ⟨c, rfl, hv, hwf⟩ := row_rw_any w0
  have hf := fits_of hwf
  clear hwf w0
  have hgr := fun w => great_any a0 c.length cap0 w
  by_cases hg : 100 < c.length
  · rw [decide_eq_true hg] at hgr
    go_enter Try.func5, Try.ntmps5
    go_wp2_with (first | (go_at_call 16; refine (hgr _).mono ?_; rintro e w9 ⟨rfl, h9⟩; have h9 := h9.symm; subst h9) | (go_at_call 15; refine (knows_any _).mono ?_; rintro e wk ⟨rfl, hbk⟩))
    go_ret
    exact ⟨rfl, hbk⟩
  rw [decide_eq_false hg] at hgr
  have hg2 : c.length ≤ 100 := by omega
  have hfr := fun w hv => rfair_any a0 cap0 c w hv hf hg2
  cases hx : fairF c
  · rw [hx] at hfr
    have hs := fun w hv => split_no a0 cap0 c w hv hf hx
    have hg1 := fun w hv => gains_no a0 cap0 c w hv hf hx
    generalize c.length = n at *
    go_enter Try.func5, Try.ntmps5
    go_wp2_with (first | (go_at_call 16; refine (hgr _).mono ?_; rintro e w9 ⟨rfl, h9⟩; have h9 := h9.symm; subst h9) | (go_at_call 20; refine (hs _ hv).mono ?_; rintro e w9 ⟨rfl, h9⟩; have h9 := h9.symm; subst h9) | (go_at_call 21; refine (hg1 _ hv).mono ?_; rintro e w9 ⟨rfl, h9⟩; have h9 := h9.symm; subst h9) | (go_at_call 22; refine (hfr _ hv).mono ?_; rintro e w9 ⟨rfl, h9⟩; have h9 := h9.symm; subst h9) | (go_at_call 15; refine (knows_any _).mono ?_; rintro e wk ⟨rfl, hbk⟩))
    go_ret
    exact ⟨rfl, hbk⟩
  rw [hx] at hfr
  obtain ⟨h16, hfx⟩ := fairF_parts hx
  have hs := fun w hv => split_ok a0 cap0 c w hv hf hx
  have hg1 := fun w hv => gains_ok a0 cap0 c w hv hf hx
  have HRB : Hid (∀ b : Nat, b < 5 → ∀ w, Rw .i64 w (.slice a0 c.length cap0) c → Calls Try.prog 24 #[.slice a0 c.length cap0, .int .i64 b] w fun e w' => ∃ v, e = .returned v ∧ RwF w.heap.size .i64 w' v (bnd c b) ∧ Below w.heap.size w w') := fun b hb w hv => rband_any a0 cap0 c b w hv h16 hb
  have HRG : Hid (∀ w, Rw .i64 w (.slice a0 c.length cap0) c → Calls Try.prog 26 #[.slice a0 c.length cap0] w fun e w' => ∃ v, e = .returned v ∧ Rw .i64 w' v (gns c) ∧ Below w.heap.size w w') := fun w hv => rgains_any a0 cap0 c w hv hx
  have HBL : Hid (∀ i, i < 5 → (bnd c i).length = wd i) := fun i hi => bnd_len h16 hi
  have HAT := hid (bnds_at c)
  have HJ := hid (bnd_join c)
  have HF := hid hf
  rw [h16] at hv hgr hfr hs hg1 HRB HRG ⊢
  have HV := hid hv
  have H16 := hid h16
  clear hg hg2 hx hfx h16 hf hv
  go_enter Try.func5, Try.ntmps5
  go_wp2_with (first | (go_at_call 16; refine (hgr _).mono ?_; rintro e w9 ⟨rfl, h9⟩; have h9 := h9.symm; subst h9) | (go_at_call 20; refine (hs _ HV.out).mono ?_; rintro e w1 ⟨g1, rfl, hfr1, hb1⟩; have HF1 := hid hfr1; have HB1 := hid hb1; have HV1 := hid (HV.out.below hb1); clear hfr1 hb1) | (go_at_call 21; refine (hg1 _ HV1.out).mono ?_; rintro e w2 ⟨g2, rfl, hr2, hb2⟩; have HR2 := hid hr2; have HF2 := hid (HF1.out.below hb2); have HV2 := hid (HV1.out.below hb2); have HB2 := hid (bthen' HB1.out hb2); clear hr2 hb2) | (go_at_call 22; refine (hfr _ HV2.out).mono ?_; rintro e w9 ⟨rfl, h9⟩; have h9 := h9.symm; subst h9))
  have HNX : Hid (∀ b, b < 5 → ed b + (bnd c b).length = ed (b + 1) ∧ c.take (ed b) ++ bnd c b = c.take (ed (b + 1))) := fun b hb => ed_next H16.out hb
  obtain ⟨i0, hi, hz0, hz1, hz2⟩ := info_parts info_i64
  obtain ⟨W2, hW2⟩ : ∃ W2, W2 = w2 := ⟨_, rfl⟩
  rw [← hW2] at HR2 HF2 HV2 HB2 ⊢
  clear hW2 HF1 HB1 HV1 hs hg1 hfr hgr
  go_loopw [7, 8] (fun o i wr => ∃ j : Nat, j ≤ 5 ∧ i = .int .i64 j ∧ wr.ownsRow W2.heap.size 2 1 o (ed j) ((c.take (ed j)).map (Value.int .i64)) ∧ Below W2.heap.size W2 wr) (fun _ i _ => 5 - (intOf i).toNat)
  case atStart => exact ⟨0, by omega, rfl, World.ownsRow_nil _ _ _ _, Below.refl _ _⟩
  case round =>
    obtain ⟨j, hj, rfl, hown, hbr⟩ := hrel
    have HOW := hid hown
    have HBR := hid hbr
    clear hown hbr
    by_cases hl : j < 5
    · obtain ⟨bx, ox, he1, hbx, ra, rc, hc1, _, hrw⟩ := (HF2.out.below HBR.out).at j hl
      rw [HAT.out j hl] at hc1 hrw
      simp only [Option.some.injEq, Addr.mk.injEq] at he1
      obtain ⟨rfl, rfl, _⟩ := he1
      rw [Nat.zero_add] at hc1
      have hrb := HRB.out j hl
      have hvr := HV2.out.below HBR.out
      have HN := hid (HNX.out j hl)
      have HE := hid (ed_le (b := j) (by omega))
      have HE2 := hid (ed_le (b := j + 1) (by omega))
      have hra : ra = none → rc = 0 := fun h => by
        obtain ⟨a9, c9, he9, h9⟩ := hrw
        simp only [Value.slice.injEq] at he9
        obtain ⟨rfl, _, rfl⟩ := he9
        rcases h9 with h9 | ⟨b9, o9, h9, _⟩
        · have := (band_in hl).2.1
          have h10 := HBL.out j hl
          rw [h9] at h10; simp at h10; omega
        · rw [h9] at h; cases h
      have HRA := hid hra
      have HBl : Hid ((bnd c j).length ≤ 8) := by
        have h10 := HBL.out j hl
        have := (band_in hl).2.2.1
        unfold Hid; omega
      generalize bnd c j = B at *
      have HRW := hid hrw
      obtain ⟨W, hW⟩ : ∃ W, W = wr := ⟨_, rfl⟩
      rw [← hW] at HOW HBR HRW hbx hc1 hvr ⊢
      clear hW hra hrw
      have p1 : (0 : Int) ≤ (j : Int) := by omega
      have p2 : (j : Int) < 5 := by omega
      have p3 : IntKind.i64.wrap (j : Int) = j := wraps_i64 _ (by omega) (by omega)
      go_wp2
      go_region_held3 (fun w' => w'.cell? ⟨g1, j, none⟩ = some (.slice ra B.length rc)) (first | exact hc1 | exact ((bcell (by first | exact (Below.refl _ _).drew | exact hy2 | exact hy1 | exact hy1.drew)).1 _ _ hbx).trans hc1) (first | (go_at_call 24; refine (hrb _ (hvr.below (by first | exact (Below.refl _ _).drew | exact Below.refl _ _))).mono ?_; rintro e y1 ⟨v1, rfl, hr1, hq1⟩; have hy1 : Below W.heap.size W y1 := bthen' (by first | exact (Below.refl _ _).drew | exact Below.refl _ _) hq1; have hr1 := hr1.rw; obtain ⟨a1, c1, rfl, _⟩ := id hr1) | (go_at_call 23; refine (same64_yes _ _ B _ (HRW.out.below hy1) hr1 (by have := HBl.out; omega)).mono ?_; rintro e y2 ⟨rfl, hq2⟩; have hy2 := bthen' hy1 hq2))
      have HY := hid (bthen' HBR.out hy2)
      have HO2 := hid (owns_below HOW.out hy2)
      have HR3 := hid (HRW.out.below hy2)
      have zy := HY.out.size
      have zq := HE.out
      have zr := HBl.out
      clear hy1 hy2 hq1 hq2 hr1 hvr hrb
      go_wp2_with (at_builtin; refine wpList_append_rw rfl _ _ _ rfl W2.heap.size 2 i0 (.int .i64 0) 8 Try.underlying26 hi hz0 hz1 hz2 rfl .i64 _ (ed j) _ rfl HO2.out _ _ B rfl HR3.out HRA.out (by unfold maxLen; omega) (by omega) zy ?_)
      intro v' w3 hown' hgrow
      have HN3 : Hid (w3.ownsRow W2.heap.size 2 1 v' (ed (j + 1)) ((c.take (ed (j + 1))).map (Value.int .i64))) := by
        have h := hown'
        rw [HN.out.1, ← List.map_take, ← List.map_append, HN.out.2] at h
        exact h
      have HB3 := hid (HY.out.grown hgrow zy (fun k hk => (HO2.out.lt k hk).1))
      clear hown' hgrow
      go_wp2
      exact ⟨⟨j + 1, by omega, by go_num, HN3.out, HB3.out⟩, by simp [intOf]; omega⟩
    · have hje : j = 5 := by omega
      subst hje
      have h := HOW.out
      rw [show ed 5 = 16 by rfl, List.take_of_length_le (Nat.le_of_eq H16.out)] at h
      obtain ⟨a2, c2, rfl, _⟩ := owns_open h
      have HA := hid (Rw.of_owns h)
      have HVr := hid (HV2.out.below HBR.out)
      have HRr := hid (HR2.out.below HBR.out)
      have HB4 := hid (bthen' HB2.out HBR.out)
      clear h HOW
      go_wp2_with (first | (go_at_call 23; refine (same64_yes _ _ c _ HA.out HVr.out (by rw [H16.out]; omega)).mono ?_; rintro e w5 ⟨rfl, hb5⟩) | (go_at_call 26; refine (HRG.out _ (HVr.out.below hb5)).mono ?_; rintro e w6 ⟨v6, rfl, hr6, hb6⟩; obtain ⟨a6, c6, rfl, _⟩ := id hr6) | (go_at_call 25; refine (same_yes _ _ (gns c) _ (HRr.out.below (bthen' hb5 hb6)) hr6 (by unfold gns; rw [tab_len]; omega)).mono ?_; rintro e w7 ⟨rfl, hb7⟩) | (go_at_call 15; refine (knows_any _).mono ?_; rintro e wk ⟨rfl, hbk⟩))
      go_ret
      exact ⟨rfl, bthen' HB4.out (bthen' (bthen' hb5 hb6) (bthen' hb7 hbk))⟩


set_option maxRecDepth 100000 in
theorem lifted (os : Os) (started : os.Started) (H : Type) (enc : TypeId × Value → H) :
    ReturnsInHanded {} Try.checked os 5 .any (Rows.bandSplitsSpec.pre6 enc Try.prog Try.f5 Rows.bandSplitsRow.domain false) (Rows.bandSplitsSpec.post enc Try.prog Try.f5 false true false false) := by
  refine returnsInHanded_of_change (C := Try.checked) own started (by kernel_rfl) Try.func5
    (ChangeSpec.witness6 (enc := enc) (C := Try.checked) false ⟨#[], #[.slice none 0 0], []⟩ 8 (by kernel_rfl) (by kernel_rfl) (by kernel_rfl) (by kernel_rfl)) ?_
  intro W base args ds gs before hval0 hW hcnd _
  have hval : ∀ (j : Nat) t v, Try.f5.params[j]? = some t → args[j]? = some v → Value.okWide Try.prog W .any base t v := hval0
  have hW' := hW
  obtain ⟨p, q, hA0, hV, rfl, hfz, hnd⟩ := hW
  have hA : DataW.TrodAll enc Try.prog W 0 (fun _ => true) true Try.f5.params.toList args.toList ds p := hA0
  rw [Try.params5] at hA hval
  obtain ⟨v0, vs0, d0, ds0, p0, q0, hargs, rfl, rfl, h0, r0⟩ := trodAll_cons hA
  obtain ⟨rfl, rfl, rfl⟩ := trodAll_nil r0
  obtain rfl : args = #[v0] := by cases args; simp_all
  obtain ⟨rfl, rfl⟩ := trodVars_none hV
  have k0 := h0
  have lt0 : ∀ x ∈ p0, x.block < W.heap.size := by obtain ⟨m, hm⟩ := k0; exact DataW.trod_lt m _ _ _ hm
  obtain ⟨a0, len0, cap0, rfl⟩ := okWide_slice Try.underlying26 (hval 0 26 v0 rfl rfl)
  obtain ⟨z0, w0⟩ : ∃ zs, IsRow .i64 W a0 len0 cap0 zs := by
    obtain ⟨fuel, hf⟩ := h0
    obtain ⟨a', l', c', zs, he, hr⟩ := ints_of_trod Try.underlying26 Try.underlying2 (by kernel_rfl) (show DataW.trod enc Try.prog W 0 (fun _ => true) true fuel 26 [.slice a0 len0 cap0] = _ from hf)
    simp only [Value.slice.injEq] at he
    obtain ⟨rfl, rfl, rfl⟩ := he
    exact ⟨zs, hr⟩
  clear hA0 hval0
  refine (walk a0 len0 cap0 z0 W w0).mono fun e W' ⟨he, bel⟩ => ?_
  subst he
  exact ⟨_, rfl, _, _, _, [], _, [], hW', trodAll_mk1 (shut_bool Try.underlying4 _), (trodAll_cons_mk (Below.trod laidOut (by kernel_rfl) (of_decide_eq_true (by kernel_rfl)) k0 bel lt0) trodAll_mk0), rfl, bel.frame _, fun h => by cases h⟩

theorem over : Rows.bandSplitsRow.holds Try.pinned (OpenSpec.ofChange Rows.bandSplitsSpec) :=
  OpenClaim.holds_of_wide 5 Try.f5 rfl rfl rfl rfl rfl rfl rfl ⟨rfl, rfl, rfl, rfl, rfl⟩ rfl rfl rfl rfl rfl (by kernel_rfl) Try.func5 (by kernel_rfl)
    (of_decide_eq_true (by kernel_rfl)) (by unfold Func.isWrapper; first | (rw [if_pos (by decide +kernel)]; kernel_rfl) | (rw [if_neg (by decide +kernel)]; exact ⟨rfl, rfl⟩))
    (fun os started H enc _ => lifted os started H enc)

theorem proved : Rows.BandSplitsSaid := over
#print axioms proved
end Go.Proofs.Ytpmpdikabdaagaa.bandSplits
