/- The Go function of the statement LapTurns returns true at every input, and leaves each argument as it read. One condition: the package-level table of weights reads as the program lays it; it is tied to the text of the program (a tied card). The tie speaks of the packages of this seat (a pruned copy of the project) alone. -/
import Derived.Test.YtdfihdkkidekjaaDoorHl
import Derived.Test.YtdfihdkkidekjaaDoorCards
import Derived.Test.YtdfihdkkidekjaaDoorTie
import Derived.LaidMore
import Derived.SevenTiedAt
import Derived.ProofKit
import Derived.OpenShut
import Derived.ShutString
import Derived.ChangeOld
import Derived.Lib.SmallJoins
namespace Go.Proofs.YtdfihdkkidekjaaDoor.lapTurns
open Go.ChangeShapes Go.WideShapes Go.ChangeAt Go.RowKit Go.Joins
set_option linter.unusedVariables false
set_option linter.unusedSimpArgs false

theorem own : ownKnob Tryd.prog.godebug = none := by kernel_rfl
theorem laidOut : laidOutB Tryd.prog = true := by kernel_rfl

set_option maxRecDepth 10000 in
set_option maxHeartbeats 4000000 in
theorem walk (a0 : Option Addr) (len0 cap0 : Nat) (z0 : List Int) (a1 : Int) (w : World) (w0 : IsRow .i64 w a0 len0 cap0 z0) (w1 : (Lit.int .i64 a1).wf = true) (hw : Wt w) :
    Calls Tryd.prog 3 #[.slice a0 len0 cap0, .int .i64 a1] w fun e w' => e = .returned (.bool true) ∧ Below w.heap.size w w' := by
  have HW := hid hw
  clear hw
  have hacc : Below w.heap.size w w := Below.refl _ _
  have hcap := row_le w0
  have hcn := row_cap w0
  obtain ⟨x, rfl, hv, hwf⟩ := row_rw_any w0
  have hf := fits_of hwf
  clear hwf w0
  have hgr := fun w => great_any a0 x.length cap0 w
  by_cases hg : 200 < x.length
  · rw [decide_eq_true hg] at hgr
    go_enter Tryd.func3, Tryd.ntmps3
    go_wp2_with (first | (go_at_call 10; refine (hgr _).mono ?_; rintro e wg ⟨rfl, hwg⟩; have hwg := hwg.symm; subst hwg) | (go_at_call 11; refine (knows_any _ (HW.out.below hacc)).mono ?_; rintro e w9 ⟨rfl, hb9⟩; replace hacc := bthen' hacc hb9))
    go_ret
    exact ⟨rfl, hacc⟩
  rw [decide_eq_false hg] at hgr
  have hg2 : x.length ≤ 200 := by omega
  have hp : -9223372036854775808 ≤ a1 ∧ a1 ≤ 9223372036854775807 := by
    simp [Lit.wf, IntKind.min, IntKind.max, IntKind.bits, IntKind.signed] at w1
    omega
  clear w1
  have hbo := fun w => border_any a0 x.length cap0 a1 w hg2 hp.1 hp.2
  have hwi := fun w hv => within_any (.slice a0 x.length cap0) x 262144 w hv hf hg2 (by omega) (by omega)
  have hrt := fun w hv => lright_any (.slice a0 x.length cap0) x w hv hf hg2
  cases hx : okB 262144 x
  · rw [hx] at hwi hrt
    have hno := fun w hv => lturn_no a0 cap0 x a1 w hv hf hg2 hp.1 hp.2 (by rw [hx]; rfl)
    clear hx hbo
    go_enter Tryd.func3, Tryd.ntmps3
    go_wp2_with (first | (go_at_call 10; refine (hgr _).mono ?_; rintro e wg ⟨rfl, hwg⟩; have hwg := hwg.symm; subst hwg) | (go_at_call 12; refine (hno _ hv).mono ?_; rintro e w2 ⟨rfl, h2⟩; have h2 := h2.symm; subst h2) | (go_at_call 13; refine (hwi _ hv).mono ?_; rintro e w3 ⟨rfl, h3⟩; have h3 := h3.symm; subst h3) | (go_at_call 14; refine (hrt _ hv).mono ?_; rintro e w4 ⟨rfl, h4⟩; have h4 := h4.symm; subst h4) | (go_at_call 11; refine (knows_any _ (HW.out.below hacc)).mono ?_; rintro e w9 ⟨rfl, hb9⟩; replace hacc := bthen' hacc hb9))
    go_ret
    exact ⟨rfl, hacc⟩
  cases hb : bord x.length a1
  · rw [hx] at hwi hrt
    rw [hb] at hbo
    have hno := fun w hv => lturn_no a0 cap0 x a1 w hv hf hg2 hp.1 hp.2 (by rw [hb, Bool.and_false])
    clear hx hb
    go_enter Tryd.func3, Tryd.ntmps3
    go_wp2_with (first | (go_at_call 10; refine (hgr _).mono ?_; rintro e wg ⟨rfl, hwg⟩; have hwg := hwg.symm; subst hwg) | (go_at_call 12; refine (hno _ hv).mono ?_; rintro e w2 ⟨rfl, h2⟩; have h2 := h2.symm; subst h2) | (go_at_call 13; refine (hwi _ hv).mono ?_; rintro e w3 ⟨rfl, h3⟩; have h3 := h3.symm; subst h3) | (go_at_call 14; refine (hrt _ hv).mono ?_; rintro e w4 ⟨rfl, h4⟩; have h4 := h4.symm; subst h4) | (go_at_call 15; refine (hbo _).mono ?_; rintro e w5 ⟨rfl, h5⟩; have h5 := h5.symm; subst h5) | (go_at_call 11; refine (knows_any _ (HW.out.below hacc)).mono ?_; rintro e w9 ⟨rfl, hb9⟩; replace hacc := bthen' hacc hb9))
    go_ret
    exact ⟨rfl, hacc⟩
  rw [hx] at hwi hrt
  rw [hb] at hbo
  have hbb := of_decide_eq_true hb
  obtain ⟨P, rfl⟩ : ∃ P : Nat, a1 = P := ⟨a1.toNat, by omega⟩
  have hP4 : 4 ≤ P := by omega
  have hPl : P + 4 ≤ x.length := by omega
  have hBD := okB_bd hx
  have hC1 := fun w hw hv => lturn_ok a0 cap0 x P w hw hv hf hg2 hBD hP4 hPl
  have hC2 := fun w hv => rturn_any a0 cap0 x P w hv hP4 hPl (by omega) ((In.of_bd hBD _ _).mono (Nat.le_refl _) (Nat.le_refl _) (by omega))
  have hlen : Hid ((tnL P x).length = x.length) := tnL_len P x
  generalize tnL P x = Y at *
  clear hx hb hbb hBD
  go_enter Tryd.func3, Tryd.ntmps3
  go_wp2_with (first | (go_at_call 10; refine (hgr _).mono ?_; rintro e wg ⟨rfl, hwg⟩; have hwg := hwg.symm; subst hwg) | (go_at_call 12; refine (hC1 _ HW.out hv).mono ?_; rintro e w2 ⟨g2, c2, rfl, _, _, hh2, hb2⟩; have HR2 := hid (hh2.rw (c := c2) hlen.out); have hv2 := hv.below hb2; replace hacc := bthen' hacc hb2; clear hb2 hh2) | (go_at_call 13; refine (hwi _ hv2).mono ?_; rintro e w3 ⟨rfl, h3⟩; have h3 := h3.symm; subst h3) | (go_at_call 14; refine (hrt _ hv2).mono ?_; rintro e w4 ⟨rfl, h4⟩; have h4 := h4.symm; subst h4) | (go_at_call 15; refine (hbo _).mono ?_; rintro e w5 ⟨rfl, h5⟩; have h5 := h5.symm; subst h5) | (go_at_call 17; refine (hC2 _ hv2).mono ?_; rintro e w6 ⟨g6, c6, rfl, _, _, hh6, hb6⟩; have HR6 := hid (hh6.rw (c := c6) hlen.out); have HR2 := hid (HR2.out.below hb6); replace hacc := bthen' hacc hb6; clear hb6 hh6) | (go_at_call 16; refine (same_yes _ _ Y _ HR2.out HR6.out (by have := hlen.out; omega)).mono ?_; rintro e w7 ⟨rfl, hb7⟩; replace hacc := bthen' hacc hb7; clear hb7) | (go_at_call 11; refine (knows_any _ (HW.out.below hacc)).mono ?_; rintro e w9 ⟨rfl, hb9⟩; replace hacc := bthen' hacc hb9))
  go_ret
  exact ⟨rfl, hacc⟩


/-- The heap that the door's own run leaves meets the condition. -/
theorem door_met (os : Os) (args : Array Value) : laidMetH Tryd.prog [("psaltery/lap.weights", Rows.laid_psaltery_lap_weights)] ((World.doorLaid Tryd.prog 400 os).forCall (fun _ _ => 0) ⟨#[], args, []⟩).memory :=
  laidMetH_of_parts3 (fuel := 8) (laidMet_of_run' 8 (by kernel_rfl) (by kernel_rfl)) (by kernel_rfl) (by kernel_rfl)
set_option maxRecDepth 100000 in
theorem lifted (os : Os) (started : os.Started) (H : Type) (enc : TypeId × Value → H) :
    ReturnsInHanded {} Tryd.checked os 3 .any (fun w args => (Rows.lapTurnsSpec.pre enc Tryd.prog Tryd.f3 [] false w args ∧ laidMetH Tryd.prog [("psaltery/lap.weights", Rows.laid_psaltery_lap_weights)] w) ∧ sizedMet enc Tryd.prog Tryd.f3 (OpenSpec.ofChange Rows.lapTurnsSpec) false w args)
      (Rows.lapTurnsSpec.post enc Tryd.prog Tryd.f3 false true false false) := by
  refine returnsInHanded_of_change_and (C := Tryd.checked) (X := fun w _ => laidMetH Tryd.prog [("psaltery/lap.weights", Rows.laid_psaltery_lap_weights)] w) (fun _ _ _ hh h => h.of_heap hh) own started (by kernel_rfl) Tryd.func3
    (ChangeSpec.witness_shaped (enc := enc) (C := Tryd.checked) (os := os) (X := fun w _ => laidMetH Tryd.prog [("psaltery/lap.weights", Rows.laid_psaltery_lap_weights)] w) false (World.doorLaid Tryd.prog 400 os) #[.slice none 0 0, .int .i64 0] 8 rfl (World.shaped_of_RefB (by kernel_rfl) (by kernel_rfl)) (by kernel_rfl) (by kernel_rfl) (by kernel_rfl) (door_met os _)) ?_
  intro W base args ds gs before hval0 hW _ _ hL _
  have hval : ∀ (j : Nat) t v, Tryd.f3.params[j]? = some t → args[j]? = some v → Value.okWide Tryd.prog W .any base t v := hval0
  have hW' := hW
  obtain ⟨p, q, hA0, hV, rfl, hfz, hnd⟩ := hW
  have hA : DataW.TrodAll enc Tryd.prog W 0 (fun _ => true) true Tryd.f3.params.toList args.toList ds p := hA0
  rw [Tryd.params3] at hA hval
  obtain ⟨v0, vs0, d0, ds0, p0, q0, hargs, rfl, rfl, h0, r0⟩ := trodAll_cons hA
  obtain ⟨v1, vs1, d1, ds1, p1, q1, rfl, rfl, rfl, h1, r1⟩ := trodAll_cons r0
  obtain ⟨rfl, rfl, rfl⟩ := trodAll_nil r1
  obtain rfl : args = #[v0, v1] := by cases args; simp_all
  obtain ⟨rfl, rfl⟩ := trodVars_none hV
  have k0 := h0
  have lt0 : ∀ x ∈ p0, x.block < W.heap.size := by obtain ⟨m, hm⟩ := k0; exact DataW.trod_lt m _ _ _ hm
  obtain ⟨a0, len0, cap0, rfl⟩ := okWide_slice Tryd.underlying22 (hval 0 22 v0 rfl rfl)
  obtain ⟨z0, w0⟩ : ∃ zs, IsRow .i64 W a0 len0 cap0 zs := by
    obtain ⟨fuel, hf⟩ := h0
    obtain ⟨a', l', c', zs, he, hr⟩ := ints_of_trod Tryd.underlying22 Tryd.underlying2 (by kernel_rfl) (show DataW.trod enc Tryd.prog W 0 (fun _ => true) true fuel 22 [.slice a0 len0 cap0] = _ from hf)
    simp only [Value.slice.injEq] at he
    obtain ⟨rfl, rfl, rfl⟩ := he
    exact ⟨zs, hr⟩
  obtain ⟨a1, rfl, rfl, rfl, w1⟩ := open_int Tryd.underlying3 (hval 1 3 v1 rfl rfl) h1
  clear hA0 hval0
  have hlaid := wt_of_laid hL
  refine (walk a0 len0 cap0 z0 a1 W w0 w1 hlaid).mono fun e W' ⟨he, bel⟩ => ?_
  subst he
  exact ⟨_, rfl, _, _, _, [], _, [], hW', trodAll_mk1 (shut_bool Tryd.underlying4 _), (trodAll_cons_mk (Below.trod laidOut (by kernel_rfl) (of_decide_eq_true (by kernel_rfl)) k0 bel lt0) (trodAll_cons_mk (shut_int Tryd.underlying3 w1) trodAll_mk0)), rfl, bel.frame _, fun h => by cases h⟩

theorem over : Rows.lapTurnsRow.holds Tryd.pinned (OpenSpec.ofChange Rows.lapTurnsSpec) :=
  OpenClaim.holds_of_wide 3 Tryd.f3 rfl rfl rfl rfl rfl rfl rfl ⟨rfl, rfl, rfl, rfl, rfl⟩ rfl rfl rfl rfl rfl (by kernel_rfl) Tryd.func3 (by kernel_rfl)
    (of_decide_eq_true (by kernel_rfl)) (by unfold Func.isWrapper; first | (rw [if_pos (by decide +kernel)]; kernel_rfl) | (rw [if_neg (by decide +kernel)]; exact ⟨rfl, rfl⟩))
    (fun os started H enc _ => lifted os started H enc)

theorem proved : Rows.LapTurnsCardSaid :=
  Claim7.holds_tied_plain_at .later [] [.data] true (true, "8638fc0fe754741ea9dbcc459025a83affa5426b0c39cdcea04ae0ea3c6db5a2") false
    over (fun _ h => by cases h) (by kernel_rfl) (fun _ h => by cases h) lapTurns_row_tie rfl ⟨rfl, rfl⟩ (by kernel_rfl) rfl
    (fun f fn hf hfn => by
      obtain rfl : f = 3 := Option.some.inj ((show Tryd.prog.funcNamed "psaltery/psalterylaw09.LapTurns" = some 3 by kernel_rfl).symm.trans hf) |>.symm
      obtain rfl : fn = Tryd.f3 := (Option.some.inj (Tryd.func3.symm.trans hfn)).symm
      exact ⟨by kernel_rfl, fun j t ht => by
        rw [Tryd.params3] at ht
        have hm : t ∈ [22, 3] := by simpa using Array.mem_of_getElem? ht
        have hall : ([22, 3].all fun u => !Tryd.prog.wantsStandIn u) = true := by kernel_rfl
        exact (show Tryd.prog.wantsStandIn t = false by simpa using List.all_eq_true.1 hall t hm)⟩)
    (by kernel_rfl)
#print axioms proved
end Go.Proofs.YtdfihdkkidekjaaDoor.lapTurns
