/- The Go function of the statement LapBorder returns true at every input, and leaves each argument as it read. One condition: the package-level table of weights reads as the program lays it; it is tied to the text of the program (a tied card). The tie speaks of the packages of this seat (a pruned copy of the project) alone. -/
import Derived.Test.YtdfihdkkidekjaaDoorHm
import Derived.Test.YtdfihdkkidekjaaDoorCards
import Derived.Test.YtdfihdkkidekjaaDoorTie
import Derived.LaidMore
import Derived.SevenTiedAt
import Derived.ProofKit
import Derived.OpenShut
import Derived.ShutString
import Derived.ChangeOld
import Derived.Lib.SmallJoins
namespace Go.Proofs.YtdfihdkkidekjaaDoor.lapBorder
open Go.ChangeShapes Go.WideShapes Go.ChangeAt Go.RowKit Go.Joins
set_option linter.unusedVariables false
set_option linter.unusedSimpArgs false

theorem own : ownKnob Tryd.prog.godebug = none := by kernel_rfl
theorem laidOut : laidOutB Tryd.prog = true := by kernel_rfl

set_option maxRecDepth 10000 in
set_option maxHeartbeats 4000000 in
theorem walk (a0 : Option Addr) (len0 cap0 : Nat) (z0 : List Int) (a1 : Int) (w : World) (w0 : IsRow .i64 w a0 len0 cap0 z0) (w1 : (Lit.int .i64 a1).wf = true) (hw : Wt w) :
    Calls Tryd.prog 7 #[.slice a0 len0 cap0, .int .i64 a1] w fun e w' => e = .returned (.bool true) ∧ Below w.heap.size w w' := by
  have HW := hid hw
  clear hw
  have hacc : Below w.heap.size w w := Below.refl _ _
  have hcap := row_le w0
  have hcn := row_cap w0
  obtain ⟨x, rfl, hv, hwf⟩ := row_rw_any w0
  have hf := fits_of hwf
  clear hwf w0
  have hgr := fun w => great_any a0 x.length cap0 w
  by_cases hg : 200 < x.length
  · rw [decide_eq_true hg] at hgr
    go_enter Tryd.func7, Tryd.ntmps7
    go_wp2_with (first | (go_at_call 10; refine (hgr _).mono ?_; rintro e wg ⟨rfl, hwg⟩; have hwg := hwg.symm; subst hwg) | (go_at_call 11; refine (knows_any _ (HW.out.below hacc)).mono ?_; rintro e w9 ⟨rfl, hb9⟩; replace hacc := bthen' hacc hb9))
    go_ret
    exact ⟨rfl, hacc⟩
  rw [decide_eq_false hg] at hgr
  have hg2 : x.length ≤ 200 := by omega
  have hp : -9223372036854775808 ≤ a1 ∧ a1 ≤ 9223372036854775807 := by
    simp [Lit.wf, IntKind.min, IntKind.max, IntKind.bits, IntKind.signed] at w1
    omega
  clear w1
  cases hb : (okB 262144 x && bord x.length a1)
  · have hno := fun w hv => lturn_no a0 cap0 x a1 w hv hf hg2 hp.1 hp.2 hb
    clear hb
    go_enter Tryd.func7, Tryd.ntmps7
    go_wp2_with (first | (go_at_call 10; refine (hgr _).mono ?_; rintro e wg ⟨rfl, hwg⟩; have hwg := hwg.symm; subst hwg) | (go_at_call 12; refine (hno _ hv).mono ?_; rintro e w2 ⟨rfl, h2⟩; have h2 := h2.symm; subst h2) | (go_at_call 11; refine (knows_any _ (HW.out.below hacc)).mono ?_; rintro e w9 ⟨rfl, hb9⟩; replace hacc := bthen' hacc hb9))
    go_ret
    exact ⟨rfl, hacc⟩
  simp only [Bool.and_eq_true] at hb
  have hbb := of_decide_eq_true hb.2
  obtain ⟨P, rfl⟩ : ∃ P : Nat, a1 = P := ⟨a1.toNat, by omega⟩
  have hP4 : 4 ≤ P := by omega
  have hPl : P + 4 ≤ x.length := by omega
  have hBD := okB_bd hb.1
  have hC1 := fun w hw hv => lturn_ok a0 cap0 x P w hw hv hf hg2 hBD hP4 hPl
  have hlen : Hid ((tnL P x).length = x.length) := tnL_len P x
  have htb := tnL_bd hBD hP4 hPl
  have hC2 : ∀ (g c : Nat) (w : World), Wt w → Rw .i64 w (.slice (some ⟨g, 0, none⟩) x.length c) (tnL P x) → Calls Tryd.prog 18 #[.slice (some ⟨g, 0, none⟩) x.length c, .int .i64 P] w fun e w' => ∃ g c, e = .returned (.tuple #[.slice (some ⟨g, 0, none⟩) x.length c, .int .i64 0]) ∧ x.length ≤ c ∧ w.heap.size ≤ g ∧ Hl .i64 2 w' g x ∧ Below w.heap.size w w' := fun g c w hw hv => by
    have h := lback_ok (some ⟨g, 0, none⟩) c (tnL P x) P w hw (by rw [tnL_len]; exact hv) (fits_bd htb (by omega) (by omega)) (by rw [tnL_len]; exact hg2) htb hP4 (by rw [tnL_len]; exact hPl)
    rw [tnL_len, bk_tn P x hP4 hPl] at h
    exact h
  have HFAR : Hid (∀ i, i < x.length → (i + 4 < P ∨ P + 4 ≤ i) → (tnL P x).getD i 0 = x.getD i 0) := fun i hi h => twL_far _ _ _ _ i hi h
  generalize tnL P x = Y at *
  clear hb hbb hBD htb
  go_enter Tryd.func7, Tryd.ntmps7
  go_wp2_with (first | (go_at_call 10; refine (hgr _).mono ?_; rintro e wg ⟨rfl, hwg⟩; have hwg := hwg.symm; subst hwg) | (go_at_call 12; refine (hC1 _ HW.out hv).mono ?_; rintro e w2 ⟨g2, c2, rfl, _, _, hh2, hb2⟩; have HR2 := hid (hh2.rw (c := c2) hlen.out); have hv2 := hv.below hb2; replace hacc := bthen' hacc hb2; clear hb2 hh2) | (go_at_call 18; refine (hC2 _ _ _ (HW.out.below hacc) HR2.out).mono ?_; rintro e w3 ⟨g3, c3, rfl, _, _, hh3, hb3⟩; have HR3 := hid (hh3.rw (c := c3) rfl); have HR2 := hid (HR2.out.below hb3); have hv3 := hv2.below hb3; replace hacc := bthen' hacc hb3; clear hb3 hh3) | (go_at_call 16; refine (same_yes _ _ x _ hv3 HR3.out (by omega)).mono ?_; rintro e W ⟨rfl, hb7⟩; have HR2 := hid (HR2.out.below hb7); have HV4 := hid (hv3.below hb7); replace hacc := bthen' hacc hb7; clear hb7))
  have hpos : 0 < x.length := by omega
  obtain ⟨hg2l, hc2⟩ := rw_cells HR2.out hpos
  have HC2 := hid hc2
  have HACC := hid hacc
  clear hc2 hacc
  go_loopw [9] (fun i wr => ∃ k : Nat, k ≤ x.length ∧ i = .int .i64 k ∧ Below W.heap.size W wr) (fun i _ => x.length - (intOf i).toNat)
  case atStart => exact ⟨0, by omega, rfl, Below.refl _ _⟩
  case round =>
    obtain ⟨k, hk, rfl, hnx⟩ := hrel
    have HNX := hid hnx
    clear hnx
    by_cases hlt : k < x.length
    · obtain ⟨b, off, rfl, hbl, f1⟩ := HV4.out.at k hlt
      have f1 := ((bcell HNX.out).1 _ _ hbl).trans f1
      have f2 := ((bcell HNX.out).1 _ _ hg2l).trans (HC2.out k hlt)
      have i1 : (0 : Int) ≤ (k : Int) := by omega
      have i2 : (k : Int) < (x.length : Int) := by omega
      have i3 : IntKind.i64.wrap (k : Int) = k := wraps_i64 _ (by omega) (by omega)
      have r1 : IntKind.i64.wrap ((P : Int) - 4) = (P : Int) - 4 := wraps_i64 _ (by omega) (by omega)
      have r2 : IntKind.i64.wrap ((P : Int) + 4) = (P : Int) + 4 := wraps_i64 _ (by omega) (by omega)
      by_cases c1 : k + 4 < P
      · rw [HFAR.out k hlt (.inl c1)] at f2
        have c2 : (k : Int) < (P : Int) - 4 := by omega
        have d1 : decide ((k : Int) < (P : Int) - 4) = true := decide_eq_true c2
        generalize x.getD k 0 = z at *
        go_wp2
        go_quiet (fail)
        go_wp2
        exact ⟨⟨k + 1, by omega, by go_num, drewN_below HNX.out _⟩, by simp [intOf]; omega⟩
      · have c2 : ¬ (k : Int) < (P : Int) - 4 := by omega
        have d1 : decide ((k : Int) < (P : Int) - 4) = false := decide_eq_false c2
        by_cases c3 : P + 4 ≤ k
        · rw [HFAR.out k hlt (.inr c3)] at f2
          have c4 : (P : Int) + 4 ≤ (k : Int) := by omega
          have d2 : decide ((P : Int) + 4 ≤ (k : Int)) = true := decide_eq_true c4
          generalize x.getD k 0 = z at *
          go_wp2
          go_quiet (fail)
          go_wp2
          exact ⟨⟨k + 1, by omega, by go_num, drewN_below HNX.out _⟩, by simp [intOf]; omega⟩
        · have c4 : ¬ (P : Int) + 4 ≤ (k : Int) := by omega
          have d2 : decide ((P : Int) + 4 ≤ (k : Int)) = false := decide_eq_false c4
          generalize x.getD k 0 = z at *
          generalize Y.getD k 0 = z2 at *
          go_wp2
          go_quiet (fail)
          go_wp2
          exact ⟨⟨k + 1, by omega, by go_num, drewN_below HNX.out _⟩, by simp [intOf]; omega⟩
    · have hacc := bthen' HACC.out HNX.out
      go_wp2_with (first | (go_at_call 11; refine (knows_any _ (HW.out.below hacc)).mono ?_; rintro e w9 ⟨rfl, hb9⟩; replace hacc := bthen' hacc hb9))
      go_ret
      exact ⟨rfl, hacc⟩


/-- The heap that the door's own run leaves meets the condition. -/
theorem door_met (os : Os) (args : Array Value) : laidMetH Tryd.prog [("psaltery/lap.weights", Rows.laid_psaltery_lap_weights)] ((World.doorLaid Tryd.prog 400 os).forCall (fun _ _ => 0) ⟨#[], args, []⟩).memory :=
  laidMetH_of_parts3 (fuel := 8) (laidMet_of_run' 8 (by kernel_rfl) (by kernel_rfl)) (by kernel_rfl) (by kernel_rfl)
set_option maxRecDepth 100000 in
theorem lifted (os : Os) (started : os.Started) (H : Type) (enc : TypeId × Value → H) :
    ReturnsInHanded {} Tryd.checked os 7 .any (fun w args => (Rows.lapBorderSpec.pre enc Tryd.prog Tryd.f7 [] false w args ∧ laidMetH Tryd.prog [("psaltery/lap.weights", Rows.laid_psaltery_lap_weights)] w) ∧ sizedMet enc Tryd.prog Tryd.f7 (OpenSpec.ofChange Rows.lapBorderSpec) false w args)
      (Rows.lapBorderSpec.post enc Tryd.prog Tryd.f7 false true false false) := by
  refine returnsInHanded_of_change_and (C := Tryd.checked) (X := fun w _ => laidMetH Tryd.prog [("psaltery/lap.weights", Rows.laid_psaltery_lap_weights)] w) (fun _ _ _ hh h => h.of_heap hh) own started (by kernel_rfl) Tryd.func7
    (ChangeSpec.witness_shaped (enc := enc) (C := Tryd.checked) (os := os) (X := fun w _ => laidMetH Tryd.prog [("psaltery/lap.weights", Rows.laid_psaltery_lap_weights)] w) false (World.doorLaid Tryd.prog 400 os) #[.slice none 0 0, .int .i64 0] 8 rfl (World.shaped_of_RefB (by kernel_rfl) (by kernel_rfl)) (by kernel_rfl) (by kernel_rfl) (by kernel_rfl) (door_met os _)) ?_
  intro W base args ds gs before hval0 hW _ _ hL _
  have hval : ∀ (j : Nat) t v, Tryd.f7.params[j]? = some t → args[j]? = some v → Value.okWide Tryd.prog W .any base t v := hval0
  have hW' := hW
  obtain ⟨p, q, hA0, hV, rfl, hfz, hnd⟩ := hW
  have hA : DataW.TrodAll enc Tryd.prog W 0 (fun _ => true) true Tryd.f7.params.toList args.toList ds p := hA0
  rw [Tryd.params7] at hA hval
  obtain ⟨v0, vs0, d0, ds0, p0, q0, hargs, rfl, rfl, h0, r0⟩ := trodAll_cons hA
  obtain ⟨v1, vs1, d1, ds1, p1, q1, rfl, rfl, rfl, h1, r1⟩ := trodAll_cons r0
  obtain ⟨rfl, rfl, rfl⟩ := trodAll_nil r1
  obtain rfl : args = #[v0, v1] := by cases args; simp_all
  obtain ⟨rfl, rfl⟩ := trodVars_none hV
  have k0 := h0
  have lt0 : ∀ x ∈ p0, x.block < W.heap.size := by obtain ⟨m, hm⟩ := k0; exact DataW.trod_lt m _ _ _ hm
  obtain ⟨a0, len0, cap0, rfl⟩ := okWide_slice Tryd.underlying22 (hval 0 22 v0 rfl rfl)
  obtain ⟨z0, w0⟩ : ∃ zs, IsRow .i64 W a0 len0 cap0 zs := by
    obtain ⟨fuel, hf⟩ := h0
    obtain ⟨a', l', c', zs, he, hr⟩ := ints_of_trod Tryd.underlying22 Tryd.underlying2 (by kernel_rfl) (show DataW.trod enc Tryd.prog W 0 (fun _ => true) true fuel 22 [.slice a0 len0 cap0] = _ from hf)
    simp only [Value.slice.injEq] at he
    obtain ⟨rfl, rfl, rfl⟩ := he
    exact ⟨zs, hr⟩
  obtain ⟨a1, rfl, rfl, rfl, w1⟩ := open_int Tryd.underlying3 (hval 1 3 v1 rfl rfl) h1
  clear hA0 hval0
  have hlaid := wt_of_laid hL
  refine (walk a0 len0 cap0 z0 a1 W w0 w1 hlaid).mono fun e W' ⟨he, bel⟩ => ?_
  subst he
  exact ⟨_, rfl, _, _, _, [], _, [], hW', trodAll_mk1 (shut_bool Tryd.underlying4 _), (trodAll_cons_mk (Below.trod laidOut (by kernel_rfl) (of_decide_eq_true (by kernel_rfl)) k0 bel lt0) (trodAll_cons_mk (shut_int Tryd.underlying3 w1) trodAll_mk0)), rfl, bel.frame _, fun h => by cases h⟩

theorem over : Rows.lapBorderRow.holds Tryd.pinned (OpenSpec.ofChange Rows.lapBorderSpec) :=
  OpenClaim.holds_of_wide 7 Tryd.f7 rfl rfl rfl rfl rfl rfl rfl ⟨rfl, rfl, rfl, rfl, rfl⟩ rfl rfl rfl rfl rfl (by kernel_rfl) Tryd.func7 (by kernel_rfl)
    (of_decide_eq_true (by kernel_rfl)) (by unfold Func.isWrapper; first | (rw [if_pos (by decide +kernel)]; kernel_rfl) | (rw [if_neg (by decide +kernel)]; exact ⟨rfl, rfl⟩))
    (fun os started H enc _ => lifted os started H enc)

theorem proved : Rows.LapBorderCardSaid :=
  Claim7.holds_tied_plain_at .later [] [.data] true (true, "8638fc0fe754741ea9dbcc459025a83affa5426b0c39cdcea04ae0ea3c6db5a2") false
    over (fun _ h => by cases h) (by kernel_rfl) (fun _ h => by cases h) lapBorder_row_tie rfl ⟨rfl, rfl⟩ (by kernel_rfl) rfl
    (fun f fn hf hfn => by
      obtain rfl : f = 7 := Option.some.inj ((show Tryd.prog.funcNamed "psaltery/psalterylaw09.LapBorder" = some 7 by kernel_rfl).symm.trans hf) |>.symm
      obtain rfl : fn = Tryd.f7 := (Option.some.inj (Tryd.func7.symm.trans hfn)).symm
      exact ⟨by kernel_rfl, fun j t ht => by
        rw [Tryd.params7] at ht
        have hm : t ∈ [22, 3] := by simpa using Array.mem_of_getElem? ht
        have hall : ([22, 3].all fun u => !Tryd.prog.wantsStandIn u) = true := by kernel_rfl
        exact (show Tryd.prog.wantsStandIn t = false by simpa using List.all_eq_true.1 hall t hm)⟩)
    (by kernel_rfl)
#print axioms proved
end Go.Proofs.YtdfihdkkidekjaaDoor.lapBorder
