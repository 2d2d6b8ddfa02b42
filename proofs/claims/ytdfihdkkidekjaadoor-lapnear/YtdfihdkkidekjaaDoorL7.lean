/- The Go function of the statement LapNear returns true at every input, and leaves each argument as it read. One condition: the package-level table of weights reads as the program lays it; it is tied to the text of the program (a tied card). The tie speaks of the packages of this seat (a pruned copy of the project) alone. -/
import Derived.Test.YtdfihdkkidekjaaDoorHm
import Derived.Test.YtdfihdkkidekjaaDoorCards
import Derived.Test.YtdfihdkkidekjaaDoorTie
import Derived.LaidMore
import Derived.SevenTiedAt
import Derived.ProofKit
import Derived.OpenShut
import Derived.ShutString
import Derived.ChangeOld
import Derived.Lib.SmallJoins
namespace Go.Proofs.YtdfihdkkidekjaaDoor.lapNear
open Go.ChangeShapes Go.WideShapes Go.ChangeAt Go.RowKit Go.Joins
set_option linter.unusedVariables false
set_option linter.unusedSimpArgs false

theorem own : ownKnob Tryd.prog.godebug = none := by kernel_rfl
theorem laidOut : laidOutB Tryd.prog = true := by kernel_rfl

set_option maxRecDepth 10000 in
set_option maxHeartbeats 4000000 in
theorem walk (a0 : Option Addr) (len0 cap0 : Nat) (z0 : List Int) (a1 : Int) (a2 : Int) (a3 : Int) (w : World) (w0 : IsRow .i64 w a0 len0 cap0 z0) (w1 : (Lit.int .i64 a1).wf = true) (w2 : (Lit.int .i64 a2).wf = true) (w3 : (Lit.int .u8 a3).wf = true) (hw : Wt w) :
    Calls Tryd.prog 9 #[.slice a0 len0 cap0, .int .i64 a1, .int .i64 a2, .int .u8 a3] w fun e w' => e = .returned (.bool true) ∧ Below w.heap.size w w' := by
  have HW := hid hw
  clear hw
  have hacc : Below w.heap.size w w := Below.refl _ _
  have hcap := row_le w0
  have hcn := row_cap w0
  obtain ⟨x, rfl, hv, hwf⟩ := row_rw_any w0
  have hf := fits_of hwf
  clear hwf w0
  have hgr := fun w => great_any a0 x.length cap0 w
  by_cases hg : 200 < x.length
  · rw [decide_eq_true hg] at hgr
    go_enter Tryd.func9, Tryd.ntmps9
    go_wp2_with (first | (go_at_call 10; refine (hgr _).mono ?_; rintro e wg ⟨rfl, hwg⟩; have hwg := hwg.symm; subst hwg) | (go_at_call 11; refine (knows_any _ (HW.out.below hacc)).mono ?_; rintro e w9 ⟨rfl, hb9⟩; replace hacc := bthen' hacc hb9))
    go_ret
    exact ⟨rfl, hacc⟩
  rw [decide_eq_false hg] at hgr
  have hg2 : x.length ≤ 200 := by omega
  have hp : -9223372036854775808 ≤ a1 ∧ a1 ≤ 9223372036854775807 := by
    simp [Lit.wf, IntKind.min, IntKind.max, IntKind.bits, IntKind.signed] at w1
    omega
  clear w1
  have hq : -9223372036854775808 ≤ a2 ∧ a2 ≤ 9223372036854775807 := by
    simp [Lit.wf, IntKind.min, IntKind.max, IntKind.bits, IntKind.signed] at w2
    omega
  clear w2
  obtain ⟨i0, hi, hz0, hz1, hz2⟩ := info_parts info_i64
  obtain ⟨s, K, hS, hsz⟩ := size_same a3 w3
  clear w3
  by_cases c1 : a1 < 0
  · go_enter Tryd.func9, Tryd.ntmps9
    go_wp2_with (first | (go_at_call 10; refine (hgr _).mono ?_; rintro e wg ⟨rfl, hwg⟩; have hwg := hwg.symm; subst hwg) | (go_at_call 11; refine (knows_any _ (HW.out.below hacc)).mono ?_; rintro e w9 ⟨rfl, hb9⟩; replace hacc := bthen' hacc hb9))
    go_ret
    exact ⟨rfl, hacc⟩
  by_cases c2 : (x.length : Int) ≤ a1
  · go_enter Tryd.func9, Tryd.ntmps9
    go_wp2_with (first | (go_at_call 10; refine (hgr _).mono ?_; rintro e wg ⟨rfl, hwg⟩; have hwg := hwg.symm; subst hwg) | (go_at_call 11; refine (knows_any _ (HW.out.below hacc)).mono ?_; rintro e w9 ⟨rfl, hb9⟩; replace hacc := bthen' hacc hb9))
    go_ret
    exact ⟨rfl, hacc⟩
  by_cases c3 : a2 < -262144
  · go_enter Tryd.func9, Tryd.ntmps9
    go_wp2_with (first | (go_at_call 10; refine (hgr _).mono ?_; rintro e wg ⟨rfl, hwg⟩; have hwg := hwg.symm; subst hwg) | (go_at_call 11; refine (knows_any _ (HW.out.below hacc)).mono ?_; rintro e w9 ⟨rfl, hb9⟩; replace hacc := bthen' hacc hb9))
    go_ret
    exact ⟨rfl, hacc⟩
  by_cases c4 : 262144 < a2
  · go_enter Tryd.func9, Tryd.ntmps9
    go_wp2_with (first | (go_at_call 10; refine (hgr _).mono ?_; rintro e wg ⟨rfl, hwg⟩; have hwg := hwg.symm; subst hwg) | (go_at_call 11; refine (knows_any _ (HW.out.below hacc)).mono ?_; rintro e w9 ⟨rfl, hb9⟩; replace hacc := bthen' hacc hb9))
    go_ret
    exact ⟨rfl, hacc⟩
  obtain ⟨A, rfl⟩ : ∃ A : Nat, a1 = A := ⟨a1.toNat, by omega⟩
  have hA : A < x.length := by omega
  have hA2 : (A : Int) < (x.length : Int) := by omega
  have hyl : (x.set A a2).length = x.length := List.length_set
  have hyf := set_fits hf A a2 hq.1 hq.2
  have HX := hid hv
  cases hx : okB 262144 x
  · have hC1 := fun w hv => lframes_no a0 cap0 x s w hv hf hg2 (by rw [hx]; rfl)
    have hC2 : ∀ (g c : Nat) (w : World), Wt w → Rw .i64 w (.slice (some ⟨g, 0, none⟩) x.length c) (x.set A a2) → Calls Tryd.prog 20 #[.slice (some ⟨g, 0, none⟩) x.length c, .int .i64 s] w fun e w' => ∃ v er, e = .returned (.tuple #[v, .int .i64 er]) ∧ Below w.heap.size w w' := fun g c w hw hv => by
      have h := lframes_some (some ⟨g, 0, none⟩) c s K (x.set A a2) w hw (by rw [hyl]; exact hv) hyf hS (by rw [hyl]; exact hg2)
      rw [hyl] at h
      exact h
    clear hx
    go_enter Tryd.func9, Tryd.ntmps9
    go_wp2_with (first | (go_at_call 10; refine (hgr _).mono ?_; rintro e wg ⟨rfl, hwg⟩; have hwg := hwg.symm; subst hwg) | (go_at_call 26; refine (hsz _).mono ?_; rintro e ws ⟨rfl, hws⟩; have hws := hws.symm; subst hws) | (at_builtin; refine wpList_append_rw rfl _ _ _ rfl w.heap.size 2 i0 (.int .i64 0) 8 Tryd.underlying22 hi hz0 hz1 hz2 rfl .i64 _ 0 [] rfl (own_empty (Nat.le_refl _)) a0 cap0 x rfl (HX.out.below (below1 _ _)) hcn (by unfold maxLen; omega) (by omega) (by simp) ?_))
    intro v8 w5 hown8 hgrow8
    have hb8 : Below w.heap.size w w5 := ((Below.refl _ _).alloc (Nat.le_refl _) _).grown hgrow8 (by simp) (fun k hk => by simp [Value.ownBlock] at hk; omega)
    obtain ⟨g, c, rfl, hg, hgc, hhl⟩ := Hl.of_owns (n := x.length) (by simpa using hown8) (by omega)
    have q1 := hhl.cell A hA
    have q2 := hhl.free A
    have HY := hid (hhl.set A a2)
    have HB := hid (bset1 hb8 g A (.int .i64 a2) hg)
    clear hown8 hgrow8 hhl hb8
    go_wp2_with (first | (go_at_call_of 20 (Value.slice a0 x.length cap0); refine (hC1 _ (HX.out.below HB.out)).mono ?_; rintro e w8 ⟨rfl, h8⟩; have h8 := h8.symm; subst h8) | (go_at_call_of 20 (Value.slice (some ⟨g, 0, none⟩) x.length c); refine (hC2 _ _ _ (HW.out.below HB.out) (HY.out.rw hyl)).mono ?_; rintro e w9 ⟨v9, er9, rfl, hb9⟩; replace hacc := bthen' HB.out hb9; clear hb9) | (go_at_call 11; refine (knows_any _ (HW.out.below hacc)).mono ?_; rintro e w9 ⟨rfl, hb9⟩; replace hacc := bthen' hacc hb9))
    go_ret
    exact ⟨rfl, hacc⟩
  have hBX := okB_bd hx
  have hBY := set_bd hBX A a2 (by omega) (by omega)
  obtain ⟨m, hm⟩ : ∃ m, cnt s x.length = m := ⟨_, rfl⟩
  have hm30 : m ≤ 30 := by rw [← hm]; exact cnt_le hS x.length hg2
  have hlx : (frames s K x).length = m := by rw [frames_len, hm]
  have hly : (frames s K (x.set A a2)).length = m := by rw [frames_len, hyl, hm]
  have hC1 : ∀ (w : World), Wt w → Rw .i64 w (.slice a0 x.length cap0) x → Calls Tryd.prog 20 #[.slice a0 x.length cap0, .int .i64 s] w fun e w' => ∃ a c, e = .returned (.tuple #[.slice a m c, .int .i64 0]) ∧ Fr true w' (.slice a m c) (frames s K x) ∧ Below w.heap.size w w' := fun w hw hv => (lframes_ok a0 cap0 s K x w hw hv hf hS hg2 hBX).mono (by
    rintro e w' ⟨v, rfl, hfr, hB⟩
    obtain ⟨a, c, rfl, _⟩ := id hfr
    rw [hlx] at hfr ⊢
    exact ⟨a, c, rfl, hfr, hB⟩)
  have hC2 : ∀ (g c : Nat) (w : World), Wt w → Rw .i64 w (.slice (some ⟨g, 0, none⟩) x.length c) (x.set A a2) → Calls Tryd.prog 20 #[.slice (some ⟨g, 0, none⟩) x.length c, .int .i64 s] w fun e w' => ∃ a c, e = .returned (.tuple #[.slice a m c, .int .i64 0]) ∧ Fr true w' (.slice a m c) (frames s K (x.set A a2)) ∧ Below w.heap.size w w' := fun g c w hw hv => by
    have h := lframes_ok (some ⟨g, 0, none⟩) c s K (x.set A a2) w hw (by rw [hyl]; exact hv) hyf hS (by rw [hyl]; exact hg2) hBY
    rw [hyl] at h
    refine h.mono ?_
    rintro e w' ⟨v, rfl, hfr, hB⟩
    obtain ⟨a, c, rfl, _⟩ := id hfr
    rw [hly] at hfr ⊢
    exact ⟨a, c, rfl, hfr, hB⟩
  have HROW : Hid (∀ i, ((frames s K x).getD i []).length ≤ 4000) := fun i => by have := (frames_row hS hBX i).2; omega
  have HNEAR : Hid (∀ i, i < m → (A + 4 < i * s ∨ i * s + s + 4 ≤ A) → (frames s K (x.set A a2)).getD i [] = (frames s K x).getD i []) := fun i hi hfar => by
    rw [frames_at _ _ _ _ (by rw [hyl, hm]; exact hi), frames_at _ _ _ _ (by rw [hm]; exact hi)]
    refine (frm_near hS x (x.set A a2) hyl.symm i (by rw [hm]; exact hi) fun j h1 h2 => ?_).symm
    rw [getD_set_at _ _ _ _ hA, if_neg (by omega)]
  have hs0 : 8 ≤ s := hS.le.1
  have hs1 : s ≤ 32 := hS.le.2.1
  generalize frames s K x = FA at *
  generalize frames s K (x.set A a2) = FB at *
  clear hx hBX hBY hS hlx hly hm
  go_enter Tryd.func9, Tryd.ntmps9
  go_wp2_with (first | (go_at_call 10; refine (hgr _).mono ?_; rintro e wg ⟨rfl, hwg⟩; have hwg := hwg.symm; subst hwg) | (go_at_call 26; refine (hsz _).mono ?_; rintro e ws ⟨rfl, hws⟩; have hws := hws.symm; subst hws) | (at_builtin; refine wpList_append_rw rfl _ _ _ rfl w.heap.size 2 i0 (.int .i64 0) 8 Tryd.underlying22 hi hz0 hz1 hz2 rfl .i64 _ 0 [] rfl (own_empty (Nat.le_refl _)) a0 cap0 x rfl (HX.out.below (below1 _ _)) hcn (by unfold maxLen; omega) (by omega) (by simp) ?_))
  intro v8 w5 hown8 hgrow8
  have hb8 : Below w.heap.size w w5 := ((Below.refl _ _).alloc (Nat.le_refl _) _).grown hgrow8 (by simp) (fun k hk => by simp [Value.ownBlock] at hk; omega)
  obtain ⟨g, c, rfl, hg, hgc, hhl⟩ := Hl.of_owns (n := x.length) (by simpa using hown8) (by omega)
  have q1 := hhl.cell A hA
  have q2 := hhl.free A
  have HY := hid (hhl.set A a2)
  have HB := hid (bset1 hb8 g A (.int .i64 a2) hg)
  clear hown8 hgrow8 hhl hb8
  go_wp2_with (first | (go_at_call_of 20 (Value.slice a0 x.length cap0); refine (hC1 _ (HW.out.below HB.out) (HX.out.below HB.out)).mono ?_; rintro e w8 ⟨aa, ca, rfl, hfa, hb8⟩; have HY := hid ((HY.out.rw (c := c) hyl).below hb8); have HFA := hid hfa; replace hacc := bthen' HB.out hb8; clear hb8 hfa) | (go_at_call_of 20 (Value.slice (some ⟨g, 0, none⟩) x.length c); refine (hC2 _ _ _ (HW.out.below hacc) HY.out).mono ?_; rintro e W ⟨ab, cb, rfl, hfb, hb9⟩; have HFB := hid hfb; have HFA := hid (HFA.out.below hb9); replace hacc := bthen' hacc hb9; clear hb9 hfb))
  have HACC := hid hacc
  clear hacc
  go_loopw [15] (fun i wr => ∃ k : Nat, k ≤ m ∧ i = .int .i64 k ∧ Below W.heap.size W wr) (fun i _ => m - (intOf i).toNat)
  case atStart => exact ⟨0, by omega, rfl, Below.refl _ _⟩
  case round =>
    obtain ⟨k, hk, rfl, hnx⟩ := hrel
    have HNX := hid hnx
    clear hnx
    by_cases hlt : k < m
    · obtain ⟨P, hP⟩ : ∃ P : Nat, P = k * s := ⟨_, rfl⟩
      have z1 : (k : Int) * (s : Int) = (P : Int) := by rw [hP]; simp
      have hPb : P ≤ 960 := by rw [hP]; exact Nat.le_trans (Nat.mul_le_mul (show k ≤ 30 by omega) hs1) (by decide)
      have hnr := HNEAR.out k hlt
      rw [← hP] at hnr
      obtain ⟨ba, oa, rfl, hba, ra, rca, f1, _, wa⟩ := HFA.out.at k hlt
      obtain ⟨bb, ob, rfl, hbb, rb, rcb, f2, _, wb⟩ := HFB.out.at k hlt
      have f1 := ((bcell HNX.out).1 _ _ hba).trans f1
      have f2 := ((bcell HNX.out).1 _ _ hbb).trans f2
      have i1 : (0 : Int) ≤ (k : Int) := by omega
      have i2 : (k : Int) < (m : Int) := by omega
      have i3 : IntKind.i64.wrap (k : Int) = k := wraps_i64 _ (by omega) (by omega)
      have hrl := HROW.out k
      clear hP
      by_cases e1 : A + 4 < P
      · rw [hnr (.inl e1)] at f2 wb
        have HWA := hid (wa.below HNX.out)
        have HWB := hid (wb.below HNX.out)
        have e2 : ¬ (P : Int) - 4 ≤ (A : Int) := by omega
        have hsm := fun n => same_quiet (.slice ra (FA.getD k []).length rca) (.slice rb (FA.getD k []).length rcb) (FA.getD k []) (wr.drewN n) (HWA.out.below (drewN_below (Below.refl _ _) _)) (HWB.out.below (drewN_below (Below.refl _ _) _)) hrl
        clear hnr wa wb
        generalize FA.getD k [] = Y at *
        go_wp2
        go_quiet (first | (go_at_call 16; refine Calls.quiet_of (hsm _)))
        go_wp2
        exact ⟨⟨k + 1, by omega, by go_num, drewN_below HNX.out _⟩, by simp [intOf]; omega⟩
      · have e2 : (P : Int) - 4 ≤ (A : Int) := by omega
        by_cases e3 : P + s + 4 ≤ A
        · rw [hnr (.inr e3)] at f2 wb
          have HWA := hid (wa.below HNX.out)
          have HWB := hid (wb.below HNX.out)
          have e4 : ¬ (A : Int) < (P : Int) + (s : Int) + 4 := by omega
          have hsm := fun n => same_quiet (.slice ra (FA.getD k []).length rca) (.slice rb (FA.getD k []).length rcb) (FA.getD k []) (wr.drewN n) (HWA.out.below (drewN_below (Below.refl _ _) _)) (HWB.out.below (drewN_below (Below.refl _ _) _)) hrl
          clear hnr wa wb
          generalize FA.getD k [] = Y at *
          go_wp2
          go_quiet (first | (go_at_call 16; refine Calls.quiet_of (hsm _)))
          go_wp2
          exact ⟨⟨k + 1, by omega, by go_num, drewN_below HNX.out _⟩, by simp [intOf]; omega⟩
        · have e4 : (A : Int) < (P : Int) + (s : Int) + 4 := by omega
          clear hnr wa wb
          generalize (FA.getD k []).length = y1 at *
          generalize (FB.getD k []).length = y2 at *
          go_wp2
          go_quiet (fail)
          go_wp2
          exact ⟨⟨k + 1, by omega, by go_num, drewN_below HNX.out _⟩, by simp [intOf]; omega⟩
    · have hacc := bthen' HACC.out HNX.out
      go_wp2_with (first | (go_at_call 11; refine (knows_any _ (HW.out.below hacc)).mono ?_; rintro e w9 ⟨rfl, hb9⟩; replace hacc := bthen' hacc hb9))
      go_ret
      exact ⟨rfl, hacc⟩


/-- The heap that the door's own run leaves meets the condition. -/
theorem door_met (os : Os) (args : Array Value) : laidMetH Tryd.prog [("psaltery/lap.weights", Rows.laid_psaltery_lap_weights)] ((World.doorLaid Tryd.prog 400 os).forCall (fun _ _ => 0) ⟨#[], args, []⟩).memory :=
  laidMetH_of_parts3 (fuel := 8) (laidMet_of_run' 8 (by kernel_rfl) (by kernel_rfl)) (by kernel_rfl) (by kernel_rfl)
set_option maxRecDepth 100000 in
theorem lifted (os : Os) (started : os.Started) (H : Type) (enc : TypeId × Value → H) :
    ReturnsInHanded {} Tryd.checked os 9 .any (fun w args => (Rows.lapNearSpec.pre enc Tryd.prog Tryd.f9 [] false w args ∧ laidMetH Tryd.prog [("psaltery/lap.weights", Rows.laid_psaltery_lap_weights)] w) ∧ sizedMet enc Tryd.prog Tryd.f9 (OpenSpec.ofChange Rows.lapNearSpec) false w args)
      (Rows.lapNearSpec.post enc Tryd.prog Tryd.f9 false true false false) := by
  refine returnsInHanded_of_change_and (C := Tryd.checked) (X := fun w _ => laidMetH Tryd.prog [("psaltery/lap.weights", Rows.laid_psaltery_lap_weights)] w) (fun _ _ _ hh h => h.of_heap hh) own started (by kernel_rfl) Tryd.func9
    (ChangeSpec.witness_shaped (enc := enc) (C := Tryd.checked) (os := os) (X := fun w _ => laidMetH Tryd.prog [("psaltery/lap.weights", Rows.laid_psaltery_lap_weights)] w) false (World.doorLaid Tryd.prog 400 os) #[.slice none 0 0, .int .i64 0, .int .i64 0, .int .u8 0] 8 rfl (World.shaped_of_RefB (by kernel_rfl) (by kernel_rfl)) (by kernel_rfl) (by kernel_rfl) (by kernel_rfl) (door_met os _)) ?_
  intro W base args ds gs before hval0 hW _ _ hL _
  have hval : ∀ (j : Nat) t v, Tryd.f9.params[j]? = some t → args[j]? = some v → Value.okWide Tryd.prog W .any base t v := hval0
  have hW' := hW
  obtain ⟨p, q, hA0, hV, rfl, hfz, hnd⟩ := hW
  have hA : DataW.TrodAll enc Tryd.prog W 0 (fun _ => true) true Tryd.f9.params.toList args.toList ds p := hA0
  rw [Tryd.params9] at hA hval
  obtain ⟨v0, vs0, d0, ds0, p0, q0, hargs, rfl, rfl, h0, r0⟩ := trodAll_cons hA
  obtain ⟨v1, vs1, d1, ds1, p1, q1, rfl, rfl, rfl, h1, r1⟩ := trodAll_cons r0
  obtain ⟨v2, vs2, d2, ds2, p2, q2, rfl, rfl, rfl, h2, r2⟩ := trodAll_cons r1
  obtain ⟨v3, vs3, d3, ds3, p3, q3, rfl, rfl, rfl, h3, r3⟩ := trodAll_cons r2
  obtain ⟨rfl, rfl, rfl⟩ := trodAll_nil r3
  obtain rfl : args = #[v0, v1, v2, v3] := by cases args; simp_all
  obtain ⟨rfl, rfl⟩ := trodVars_none hV
  have k0 := h0
  have lt0 : ∀ x ∈ p0, x.block < W.heap.size := by obtain ⟨m, hm⟩ := k0; exact DataW.trod_lt m _ _ _ hm
  obtain ⟨a0, len0, cap0, rfl⟩ := okWide_slice Tryd.underlying22 (hval 0 22 v0 rfl rfl)
  obtain ⟨z0, w0⟩ : ∃ zs, IsRow .i64 W a0 len0 cap0 zs := by
    obtain ⟨fuel, hf⟩ := h0
    obtain ⟨a', l', c', zs, he, hr⟩ := ints_of_trod Tryd.underlying22 Tryd.underlying2 (by kernel_rfl) (show DataW.trod enc Tryd.prog W 0 (fun _ => true) true fuel 22 [.slice a0 len0 cap0] = _ from hf)
    simp only [Value.slice.injEq] at he
    obtain ⟨rfl, rfl, rfl⟩ := he
    exact ⟨zs, hr⟩
  obtain ⟨a1, rfl, rfl, rfl, w1⟩ := open_int Tryd.underlying3 (hval 1 3 v1 rfl rfl) h1
  obtain ⟨a2, rfl, rfl, rfl, w2⟩ := open_int Tryd.underlying2 (hval 2 2 v2 rfl rfl) h2
  obtain ⟨a3, rfl, rfl, rfl, w3⟩ := open_int Tryd.underlying5 (hval 3 5 v3 rfl rfl) h3
  clear hA0 hval0
  have hlaid := wt_of_laid hL
  refine (walk a0 len0 cap0 z0 a1 a2 a3 W w0 w1 w2 w3 hlaid).mono fun e W' ⟨he, bel⟩ => ?_
  subst he
  exact ⟨_, rfl, _, _, _, [], _, [], hW', trodAll_mk1 (shut_bool Tryd.underlying4 _), (trodAll_cons_mk (Below.trod laidOut (by kernel_rfl) (of_decide_eq_true (by kernel_rfl)) k0 bel lt0) (trodAll_cons_mk (shut_int Tryd.underlying3 w1) (trodAll_cons_mk (shut_int Tryd.underlying2 w2) (trodAll_cons_mk (shut_int Tryd.underlying5 w3) trodAll_mk0)))), rfl, bel.frame _, fun h => by cases h⟩

theorem over : Rows.lapNearRow.holds Tryd.pinned (OpenSpec.ofChange Rows.lapNearSpec) :=
  OpenClaim.holds_of_wide 9 Tryd.f9 rfl rfl rfl rfl rfl rfl rfl ⟨rfl, rfl, rfl, rfl, rfl⟩ rfl rfl rfl rfl rfl (by kernel_rfl) Tryd.func9 (by kernel_rfl)
    (of_decide_eq_true (by kernel_rfl)) (by unfold Func.isWrapper; first | (rw [if_pos (by decide +kernel)]; kernel_rfl) | (rw [if_neg (by decide +kernel)]; exact ⟨rfl, rfl⟩))
    (fun os started H enc _ => lifted os started H enc)

theorem proved : Rows.LapNearCardSaid :=
  Claim7.holds_tied_plain_at .later [] [.data] true (true, "8638fc0fe754741ea9dbcc459025a83affa5426b0c39cdcea04ae0ea3c6db5a2") false
    over (fun _ h => by cases h) (by kernel_rfl) (fun _ h => by cases h) lapNear_row_tie rfl ⟨rfl, rfl⟩ (by kernel_rfl) rfl
    (fun f fn hf hfn => by
      obtain rfl : f = 9 := Option.some.inj ((show Tryd.prog.funcNamed "psaltery/psalterylaw09.LapNear" = some 9 by kernel_rfl).symm.trans hf) |>.symm
      obtain rfl : fn = Tryd.f9 := (Option.some.inj (Tryd.func9.symm.trans hfn)).symm
      exact ⟨by kernel_rfl, fun j t ht => by
        rw [Tryd.params9] at ht
        have hm : t ∈ [22, 3, 2, 5] := by simpa using Array.mem_of_getElem? ht
        have hall : ([22, 3, 2, 5].all fun u => !Tryd.prog.wantsStandIn u) = true := by kernel_rfl
        exact (show Tryd.prog.wantsStandIn t = false by simpa using List.all_eq_true.1 hall t hm)⟩)
    (by kernel_rfl)
#print axioms proved
end Go.Proofs.YtdfihdkkidekjaaDoor.lapNear
