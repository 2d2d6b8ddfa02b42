/- The Go function of the statement LapSignals returns true at every input, and leaves each argument as it read. One condition: the package-level table of weights reads as the program lays it; it is tied to the text of the program (a tied card). The tie speaks of the packages of this seat (a pruned copy of the project) alone. -/
import Derived.Test.YtdfihdkkidekjaaDoorHl
import Derived.Test.YtdfihdkkidekjaaDoorCards
import Derived.Test.YtdfihdkkidekjaaDoorTie
import Derived.LaidMore
import Derived.SevenTiedAt
import Derived.ProofKit
import Derived.OpenShut
import Derived.ShutString
import Derived.ChangeOld
import Derived.Lib.SmallJoins
namespace Go.Proofs.YtdfihdkkidekjaaDoor.lapSignals
open Go.ChangeShapes Go.WideShapes Go.ChangeAt Go.RowKit Go.Joins
set_option linter.unusedVariables false
set_option linter.unusedSimpArgs false

theorem own : ownKnob Tryd.prog.godebug = none := by kernel_rfl
theorem laidOut : laidOutB Tryd.prog = true := by kernel_rfl

set_option maxRecDepth 10000 in
set_option maxHeartbeats 4000000 in
theorem walk (a0 : Option Addr) (len0 cap0 : Nat) (z0 : List (List Int)) (a1 : Int) (w : World) (w0 : IsGrid w a0 len0 cap0 z0) (w1 : (Lit.int .i64 a1).wf = true) (hw : Wt w) :
    Calls Tryd.prog 6 #[.slice a0 len0 cap0, .int .i64 a1] w fun e w' => e = .returned (.bool true) ∧ Below w.heap.size w w' := by
  have HW := hid hw
  clear hw
  have hacc : Below w.heap.size w w := Below.refl _ _
  have hp : -9223372036854775808 ≤ a1 ∧ a1 ≤ 9223372036854775807 := by
    simp [Lit.wf, IntKind.min, IntKind.max, IntKind.bits, IntKind.signed] at w1
    omega
  clear w1
  have hwd := fun w hv => wide_any a0 len0 cap0 z0 w hv
  cases hx : isWide z0
  case true =>
    rw [hx] at hwd
    clear hx
    go_enter Tryd.func6, Tryd.ntmps6
    go_wp2_with (first | (go_at_call 23; refine (hwd _ w0).mono ?_; rintro e wg ⟨rfl, hwg⟩; have hwg := hwg.symm; subst hwg) | (go_at_call 11; refine (knows_any _ (HW.out.below hacc)).mono ?_; rintro e w9 ⟨rfl, hb9⟩; replace hacc := bthen' hacc hb9))
    go_ret
    exact ⟨rfl, hacc⟩
  rw [hx] at hwd
  obtain ⟨h30, h200⟩ := isWide_no hx
  have hll := w0.len
  have hfr := w0.1
  have hft := w0.2.1
  rw [hll] at h30
  have hsame := fun w => same_yes (.slice none 0 0) (.slice none 0 0) [] w ⟨none, 0, rfl, .inl rfl⟩ ⟨none, 0, rfl, .inl rfl⟩ (by decide)
  cases hs : isSz a1
  · have hn1 := fun w => lsignal_no a0 len0 cap0 a1 w hs
    have hn2 := fun w => rsignal_no a0 len0 cap0 a1 w hs
    clear hx hs
    go_enter Tryd.func6, Tryd.ntmps6
    go_wp2_with (first | (go_at_call 23; refine (hwd _ w0).mono ?_; rintro e wg ⟨rfl, hwg⟩; have hwg := hwg.symm; subst hwg) | (go_at_call 24; refine (hn1 _).mono ?_; rintro e w2 ⟨rfl, h2⟩; have h2 := h2.symm; subst h2) | (go_at_call 25; refine (hn2 _).mono ?_; rintro e w2 ⟨rfl, h2⟩; have h2 := h2.symm; subst h2) | (go_at_call 16; refine (hsame _).mono ?_; rintro e w7 ⟨rfl, hb7⟩; replace hacc := bthen' hacc hb7; clear hb7) | (go_at_call 11; refine (knows_any _ (HW.out.below hacc)).mono ?_; rintro e w9 ⟨rfl, hb9⟩; replace hacc := bthen' hacc hb9))
    go_ret
    exact ⟨rfl, hacc⟩
  obtain ⟨s, K, rfl, hS⟩ := isSz_parts hs
  have hC1 := fun w hw hv => lsignal_any a0 len0 cap0 s K z0 w hw hv hS h30 hft h200
  have hC2 := fun w hv => rsignal_any a0 len0 cap0 s K z0 w hv hS h30 hft h200
  cases hok : okL s z0
  · have hD1 : ∀ w, Wt w → Fr true w (.slice a0 len0 cap0) z0 → Calls Tryd.prog 24 #[.slice a0 len0 cap0, .int .i64 s] w fun e w' => e = .returned (.tuple #[.slice none 0 0, .int .i64 1]) ∧ Below w.heap.size w w' := fun w h1 h2 => (hC1 w h1 h2).mono (by
      rintro e w' ⟨v, er, rfl, hp, hB⟩
      rcases hp with ⟨h, _⟩ | ⟨_, rfl, rfl⟩
      · rw [hok] at h; cases h
      · exact ⟨rfl, hB⟩)
    have hD2 : ∀ w, Fr true w (.slice a0 len0 cap0) z0 → Calls Tryd.prog 25 #[.slice a0 len0 cap0, .int .i64 s] w fun e w' => e = .returned (.tuple #[.slice none 0 0, .bool false]) ∧ Below w.heap.size w w' := fun w h2 => (hC2 w h2).mono (by
      rintro e w' ⟨v, er, rfl, hp, hB⟩
      rcases hp with ⟨h, _⟩ | ⟨_, rfl, rfl⟩
      · rw [hok] at h; cases h
      · exact ⟨rfl, hB⟩)
    have HFR := hid hfr
    clear hx hs hC1 hC2 hok hS hfr
    go_enter Tryd.func6, Tryd.ntmps6
    go_wp2_with (first | (go_at_call 23; refine (hwd _ w0).mono ?_; rintro e wg ⟨rfl, hwg⟩; have hwg := hwg.symm; subst hwg) | (go_at_call 24; refine (hD1 _ HW.out HFR.out).mono ?_; rintro e w2 ⟨rfl, hb2⟩; replace hacc := bthen' hacc hb2; clear hb2) | (go_at_call 25; refine (hD2 _ (HFR.out.below hacc)).mono ?_; rintro e w3 ⟨rfl, hb3⟩; replace hacc := bthen' hacc hb3; clear hb3) | (go_at_call 16; refine (hsame _).mono ?_; rintro e w7 ⟨rfl, hb7⟩; replace hacc := bthen' hacc hb7; clear hb7) | (go_at_call 11; refine (knows_any _ (HW.out.below hacc)).mono ?_; rintro e w9 ⟨rfl, hb9⟩; replace hacc := bthen' hacc hb9))
    go_ret
    exact ⟨rfl, hacc⟩
  · have hsl : (signal s K z0).length ≤ 4000 := by
      unfold signal
      rw [bkN_len, smp_len hS z0 (fun j hj => (okF_parts hS (of_decide_eq_true hok j hj)).1) _ (Nat.le_refl _), hll]
      exact Nat.le_trans (Nat.mul_le_mul h30 hS.le.2.1) (by decide)
    have hD1 : ∀ w, Wt w → Fr true w (.slice a0 len0 cap0) z0 → Calls Tryd.prog 24 #[.slice a0 len0 cap0, .int .i64 s] w fun e w' => ∃ v, e = .returned (.tuple #[v, .int .i64 0]) ∧ Rw .i64 w' v (signal s K z0) ∧ Below w.heap.size w w' := fun w h1 h2 => (hC1 w h1 h2).mono (by
      rintro e w' ⟨v, er, rfl, hp, hB⟩
      rcases hp with ⟨_, rfl, h⟩ | ⟨h, _⟩
      · exact ⟨v, rfl, h, hB⟩
      · rw [hok] at h; cases h)
    have hD2 : ∀ w, Fr true w (.slice a0 len0 cap0) z0 → Calls Tryd.prog 25 #[.slice a0 len0 cap0, .int .i64 s] w fun e w' => ∃ v, e = .returned (.tuple #[v, .bool true]) ∧ Rw .i64 w' v (signal s K z0) ∧ Below w.heap.size w w' := fun w h2 => (hC2 w h2).mono (by
      rintro e w' ⟨v, er, rfl, hp, hB⟩
      rcases hp with ⟨_, rfl, h⟩ | ⟨h, _⟩
      · exact ⟨v, rfl, h, hB⟩
      · rw [hok] at h; cases h)
    have HFR := hid hfr
    generalize signal s K z0 = Y at *
    clear hx hs hC1 hC2 hok hS hfr
    go_enter Tryd.func6, Tryd.ntmps6
    go_wp2_with (first | (go_at_call 23; refine (hwd _ w0).mono ?_; rintro e wg ⟨rfl, hwg⟩; have hwg := hwg.symm; subst hwg) | (go_at_call 24; refine (hD1 _ HW.out HFR.out).mono ?_; rintro e w2 ⟨v2, rfl, hr2, hb2⟩; have HR2 := hid hr2; replace hacc := bthen' hacc hb2; clear hb2 hr2) | (go_at_call 25; refine (hD2 _ (HFR.out.below hacc)).mono ?_; rintro e w3 ⟨v3, rfl, hr3, hb3⟩; have HR3 := hid hr3; have HR2 := hid (HR2.out.below hb3); replace hacc := bthen' hacc hb3; clear hb3 hr3) | (go_at_call 16; refine (same_yes _ _ Y _ HR2.out HR3.out hsl).mono ?_; rintro e w7 ⟨rfl, hb7⟩; replace hacc := bthen' hacc hb7; clear hb7) | (go_at_call 11; refine (knows_any _ (HW.out.below hacc)).mono ?_; rintro e w9 ⟨rfl, hb9⟩; replace hacc := bthen' hacc hb9))
    go_ret
    exact ⟨rfl, hacc⟩


/-- The heap that the door's own run leaves meets the condition. -/
theorem door_met (os : Os) (args : Array Value) : laidMetH Tryd.prog [("psaltery/lap.weights", Rows.laid_psaltery_lap_weights)] ((World.doorLaid Tryd.prog 400 os).forCall (fun _ _ => 0) ⟨#[], args, []⟩).memory :=
  laidMetH_of_parts3 (fuel := 8) (laidMet_of_run' 8 (by kernel_rfl) (by kernel_rfl)) (by kernel_rfl) (by kernel_rfl)
set_option maxRecDepth 100000 in
theorem lifted (os : Os) (started : os.Started) (H : Type) (enc : TypeId × Value → H) :
    ReturnsInHanded {} Tryd.checked os 6 .any (fun w args => (Rows.lapSignalsSpec.pre enc Tryd.prog Tryd.f6 [] false w args ∧ laidMetH Tryd.prog [("psaltery/lap.weights", Rows.laid_psaltery_lap_weights)] w) ∧ sizedMet enc Tryd.prog Tryd.f6 (OpenSpec.ofChange Rows.lapSignalsSpec) false w args)
      (Rows.lapSignalsSpec.post enc Tryd.prog Tryd.f6 false true false false) := by
  refine returnsInHanded_of_change_and (C := Tryd.checked) (X := fun w _ => laidMetH Tryd.prog [("psaltery/lap.weights", Rows.laid_psaltery_lap_weights)] w) (fun _ _ _ hh h => h.of_heap hh) own started (by kernel_rfl) Tryd.func6
    (ChangeSpec.witness_shaped (enc := enc) (C := Tryd.checked) (os := os) (X := fun w _ => laidMetH Tryd.prog [("psaltery/lap.weights", Rows.laid_psaltery_lap_weights)] w) false (World.doorLaid Tryd.prog 400 os) #[.slice none 0 0, .int .i64 0] 8 rfl (World.shaped_of_RefB (by kernel_rfl) (by kernel_rfl)) (by kernel_rfl) (by kernel_rfl) (by kernel_rfl) (door_met os _)) ?_
  intro W base args ds gs before hval0 hW _ _ hL _
  have hval : ∀ (j : Nat) t v, Tryd.f6.params[j]? = some t → args[j]? = some v → Value.okWide Tryd.prog W .any base t v := hval0
  have hW' := hW
  obtain ⟨p, q, hA0, hV, rfl, hfz, hnd⟩ := hW
  have hA : DataW.TrodAll enc Tryd.prog W 0 (fun _ => true) true Tryd.f6.params.toList args.toList ds p := hA0
  rw [Tryd.params6] at hA hval
  obtain ⟨v0, vs0, d0, ds0, p0, q0, hargs, rfl, rfl, h0, r0⟩ := trodAll_cons hA
  obtain ⟨v1, vs1, d1, ds1, p1, q1, rfl, rfl, rfl, h1, r1⟩ := trodAll_cons r0
  obtain ⟨rfl, rfl, rfl⟩ := trodAll_nil r1
  obtain rfl : args = #[v0, v1] := by cases args; simp_all
  obtain ⟨rfl, rfl⟩ := trodVars_none hV
  have k0 := h0
  have lt0 : ∀ x ∈ p0, x.block < W.heap.size := by obtain ⟨m, hm⟩ := k0; exact DataW.trod_lt m _ _ _ hm
  obtain ⟨a0, len0, cap0, rfl⟩ := okWide_slice Tryd.underlying32 (hval 0 32 v0 rfl rfl)
  obtain ⟨z0, w0⟩ : ∃ zs, IsGrid W a0 len0 cap0 zs := by
    obtain ⟨fuel, hf⟩ := h0
    exact grid_of_trod Tryd.underlying32 Tryd.underlying22 Tryd.underlying2 (by kernel_rfl) (by kernel_rfl) (show DataW.trod enc Tryd.prog W 0 (fun _ => true) true fuel 32 [.slice a0 len0 cap0] = _ from hf)
  obtain ⟨a1, rfl, rfl, rfl, w1⟩ := open_int Tryd.underlying3 (hval 1 3 v1 rfl rfl) h1
  clear hA0 hval0
  have hlaid := wt_of_laid hL
  refine (walk a0 len0 cap0 z0 a1 W w0 w1 hlaid).mono fun e W' ⟨he, bel⟩ => ?_
  subst he
  exact ⟨_, rfl, _, _, _, [], _, [], hW', trodAll_mk1 (shut_bool Tryd.underlying4 _), (trodAll_cons_mk (Below.trod laidOut (by kernel_rfl) (of_decide_eq_true (by kernel_rfl)) k0 bel lt0) (trodAll_cons_mk (shut_int Tryd.underlying3 w1) trodAll_mk0)), rfl, bel.frame _, fun h => by cases h⟩

theorem over : Rows.lapSignalsRow.holds Tryd.pinned (OpenSpec.ofChange Rows.lapSignalsSpec) :=
  OpenClaim.holds_of_wide 6 Tryd.f6 rfl rfl rfl rfl rfl rfl rfl ⟨rfl, rfl, rfl, rfl, rfl⟩ rfl rfl rfl rfl rfl (by kernel_rfl) Tryd.func6 (by kernel_rfl)
    (of_decide_eq_true (by kernel_rfl)) (by unfold Func.isWrapper; first | (rw [if_pos (by decide +kernel)]; kernel_rfl) | (rw [if_neg (by decide +kernel)]; exact ⟨rfl, rfl⟩))
    (fun os started H enc _ => lifted os started H enc)

theorem proved : Rows.LapSignalsCardSaid :=
  Claim7.holds_tied_plain_at .later [] [.data] true (true, "8638fc0fe754741ea9dbcc459025a83affa5426b0c39cdcea04ae0ea3c6db5a2") false
    over (fun _ h => by cases h) (by kernel_rfl) (fun _ h => by cases h) lapSignals_row_tie rfl ⟨rfl, rfl⟩ (by kernel_rfl) rfl
    (fun f fn hf hfn => by
      obtain rfl : f = 6 := Option.some.inj ((show Tryd.prog.funcNamed "psaltery/psalterylaw09.LapSignals" = some 6 by kernel_rfl).symm.trans hf) |>.symm
      obtain rfl : fn = Tryd.f6 := (Option.some.inj (Tryd.func6.symm.trans hfn)).symm
      exact ⟨by kernel_rfl, fun j t ht => by
        rw [Tryd.params6] at ht
        have hm : t ∈ [32, 3] := by simpa using Array.mem_of_getElem? ht
        have hall : ([32, 3].all fun u => !Tryd.prog.wantsStandIn u) = true := by kernel_rfl
        exact (show Tryd.prog.wantsStandIn t = false by simpa using List.all_eq_true.1 hall t hm)⟩)
    (by kernel_rfl)
#print axioms proved
end Go.Proofs.YtdfihdkkidekjaaDoor.lapSignals
