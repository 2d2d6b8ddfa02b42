/- The Go function of the statement FloorFits returns true at every input, and leaves each argument as it read. One condition: the package-level table of places reads as the program lays it; it is tied to the text of the program (a tied card). The tie speaks of the packages of this seat (a pruned copy of the project) alone. -/
import Derived.Test.YtgmikllbpaekfaaDoorRg
import Derived.Test.YtgmikllbpaekfaaDoorCards
import Derived.Test.YtgmikllbpaekfaaDoorTie
import Derived.LaidMore
import Derived.SevenTiedAt
import Derived.ProofKit
import Derived.OpenShut
import Derived.ShutString
import Derived.ChangeOld
import Derived.Lib.SmallJoins
namespace Go.Proofs.YtgmikllbpaekfaaDoor.floorFits
open Go.ChangeShapes Go.WideShapes Go.ChangeAt Go.RowKit Go.Joins
set_option linter.unusedVariables false
set_option linter.unusedSimpArgs false

theorem own : ownKnob Tryd.prog.godebug = none := by kernel_rfl
theorem laidOut : laidOutB Tryd.prog = true := by kernel_rfl

set_option maxRecDepth 10000 in
set_option maxHeartbeats 2000000 in
theorem walk (a0 : Option Addr) (len0 cap0 : Nat) (z0 : List Int) (a1 : Int) (w : World) (w0 : IsRow .i64 w a0 len0 cap0 z0) (w1 : (Lit.int .i64 a1).wf = true) (hw : Wp w) :
    Calls Tryd.prog 5 #[.slice a0 len0 cap0, .int .i64 a1] w fun e w' => e = .returned (.bool true) ∧ Below w.heap.size w w' := by
  have HW := hid hw
  clear hw
  have hacc : Below w.heap.size w w := Below.refl _ _
  obtain ⟨x, rfl, hv, hwf⟩ := row_rw_any w0
  clear hwf w0
  by_cases hg : 100 < x.length
  · have hg2 : (100 : Int) < (x.length : Int) := by omega
    generalize x.length = n at *
    go_enter Tryd.func5, Tryd.ntmps5
    go_wp2_with (first | (go_at_call 9; refine (knows_any _ (HW.out.below hacc)).mono ?_; rintro e w9 ⟨rfl, hb9⟩; replace hacc := bthen' hacc hb9))
    go_ret
    exact ⟨rfl, hacc⟩
  have hg2 : x.length ≤ 100 := by omega
  have hg3 : (x.length : Int) ≤ 100 := by omega
  have hgr := fun w hv => rright_any a0 x.length cap0 x rfl (by omega) w hv
  by_cases hok : gokB x = true ∧ 0 ≤ a1 ∧ a1 ≤ 12
  · obtain ⟨hx, q0, q1⟩ := hok
    rw [hx] at hgr
    have h1 := ffit_ok a0 cap0 x a1 w hv hx q0 q1
    have HF : Hid (∀ k : Nat, k < 6 → ∀ w : World, Rw .i64 w (.slice a0 x.length cap0) x → Calls Tryd.prog 20 #[.slice a0 x.length cap0, .int .i64 a1, .int .i64 k] w fun e w' => e = .returned (.int .i64 (flFit x a1 k)) ∧ w' = w) := fun k hk w hv => rffit_any _ x a1 k hk q0 q1 w hv hx
    have HV := hid hv
    have HB1 : Hid (∀ k : Nat, k < 6 → (fitL x a1).getD k 0 = flFit x a1 k) := fun k hk => fitL_at x a1 k hk
    have HL1 : Hid ((fitL x a1).length = 6) := tab_len _ _
    have HR : Hid (∀ (g : Nat) (w : World), Blk .i64 3 w g (fitL x a1) → Calls Tryd.prog 12 #[.slice (some ⟨g, 0, none⟩) 6 6] w fun e w' => e = .returned (.bool true) ∧ w' = w) := fun g w hb => by
      have h := fright_any (some ⟨g, 0, none⟩) 6 (fitL x a1) w (by rw [HL1.out]; exact hb.rw HL1.out) (by rw [HL1.out]; omega)
      rw [HL1.out, fitL_ok] at h
      exact h
    generalize x.length = n at *
    clear hg hg2 hx
    go_enter Tryd.func5, Tryd.ntmps5
    go_wp2_with (first | (go_at_call 18; refine h1.mono ?_; rintro e W1 ⟨g1, rfl, hbl1, _, hb1⟩; have HBL1 := hid hbl1; have HV1 := hid (HV.out.below hb1); replace hacc := bthen' hacc hb1; clear hbl1 hb1) | (go_at_call 19; refine (hgr _ HV1.out).mono ?_; rintro e w8 ⟨rfl, h8⟩; have h8 := h8.symm; subst h8))
    have HACC := hid hacc
    clear hacc h1 hgr hv
    go_loopw [7] (fun i wr => ∃ k : Nat, k ≤ 6 ∧ i = .int .i64 k ∧ Below W1.heap.size W1 wr) (fun i _ => 6 - (intOf i).toNat)
    case atStart => exact ⟨0, by omega, rfl, Below.refl _ _⟩
    case round =>
      obtain ⟨k, hk, rfl, hnx⟩ := hrel
      have HNX := hid hnx
      clear hnx
      by_cases hlt : k < 6
      · have c1 := ((bcell HNX.out).1 g1 k HBL1.out.lt).trans (HBL1.out.cell k (by rw [HL1.out]; exact hlt))
        rw [HB1.out k hlt] at c1
        have hsf := fun n => HF.out k hlt (wr.drewN n) ((HV1.out.below HNX.out).below (drewN_below (Below.refl _ _) _))
        generalize flFit x a1 k = A at *
        have i1 : (0 : Int) ≤ (k : Int) := by omega
        have i2 : (k : Int) < 6 := by omega
        have i3 : IntKind.i64.wrap (k : Int) = k := wraps_i64 _ (by omega) (by omega)
        go_wp2
        go_quiet (first | (go_at_call 20; exact Calls.quiet_of_same (hsf _)))
        go_wp2
        exact ⟨⟨k + 1, by omega, by go_num, drewN_below HNX.out _⟩, by simp [intOf]; omega⟩
      · have hacc := bthen' HACC.out HNX.out
        have hr := HR.out g1 wr (HBL1.out.below HNX.out)
        have i2 : ¬ (k : Int) < 6 := by omega
        go_wp2_with (first | (go_at_call 12; refine hr.mono ?_; rintro e w8 ⟨rfl, h8⟩; have h8 := h8.symm; subst h8) | (go_at_call 9; refine (knows_any _ (HW.out.below hacc)).mono ?_; rintro e w9 ⟨rfl, hb9⟩; replace hacc := bthen' hacc hb9))
        go_ret
        exact ⟨rfl, hacc⟩
  have h1 := fun w hv => ffit_no a0 cap0 x a1 w hv hg2 hok
  have hlh : gokB x = true → a1 < 0 ∨ 12 < a1 := fun h => by
    by_cases c : a1 < 0
    · exact .inl c
    · by_cases d : 12 < a1
      · exact .inr d
      · exact absurd ⟨h, by omega, by omega⟩ hok
  clear hok
  generalize x.length = n at *
  generalize gokB x = r at *
  clear hg hg2
  cases r
  · clear hlh
    go_enter Tryd.func5, Tryd.ntmps5
    go_wp2_with (first | (go_at_call 18; refine (h1 _ hv).mono ?_; rintro e w8 ⟨rfl, h8⟩; have h8 := h8.symm; subst h8) | (go_at_call 19; refine (hgr _ hv).mono ?_; rintro e w8 ⟨rfl, h8⟩; have h8 := h8.symm; subst h8) | (go_at_call 9; refine (knows_any _ (HW.out.below hacc)).mono ?_; rintro e w9 ⟨rfl, hb9⟩; replace hacc := bthen' hacc hb9))
    go_ret
    exact ⟨rfl, hacc⟩
  · rcases hlh rfl with q | q
    · clear hlh
      go_enter Tryd.func5, Tryd.ntmps5
      go_wp2_with (first | (go_at_call 18; refine (h1 _ hv).mono ?_; rintro e w8 ⟨rfl, h8⟩; have h8 := h8.symm; subst h8) | (go_at_call 19; refine (hgr _ hv).mono ?_; rintro e w8 ⟨rfl, h8⟩; have h8 := h8.symm; subst h8) | (go_at_call 9; refine (knows_any _ (HW.out.below hacc)).mono ?_; rintro e w9 ⟨rfl, hb9⟩; replace hacc := bthen' hacc hb9))
      go_ret
      exact ⟨rfl, hacc⟩
    · have q2 : 0 ≤ a1 := by omega
      clear hlh
      go_enter Tryd.func5, Tryd.ntmps5
      go_wp2_with (first | (go_at_call 18; refine (h1 _ hv).mono ?_; rintro e w8 ⟨rfl, h8⟩; have h8 := h8.symm; subst h8) | (go_at_call 19; refine (hgr _ hv).mono ?_; rintro e w8 ⟨rfl, h8⟩; have h8 := h8.symm; subst h8) | (go_at_call 9; refine (knows_any _ (HW.out.below hacc)).mono ?_; rintro e w9 ⟨rfl, hb9⟩; replace hacc := bthen' hacc hb9))
      go_ret
      exact ⟨rfl, hacc⟩


/-- The heap that the door's own run leaves meets the condition. -/
theorem door_met (os : Os) (args : Array Value) : laidMetH Tryd.prog [("psaltery/floor.places", Rows.laid_psaltery_floor_places)] ((World.doorLaid Tryd.prog 400 os).forCall (fun _ _ => 0) ⟨#[], args, []⟩).memory :=
  laidMetH_of_parts3 (fuel := 8) (laidMet_of_run' 8 (by kernel_rfl) (by kernel_rfl)) (by kernel_rfl) (by kernel_rfl)
set_option maxRecDepth 100000 in
theorem lifted (os : Os) (started : os.Started) (H : Type) (enc : TypeId × Value → H) :
    ReturnsInHanded {} Tryd.checked os 5 .any (fun w args => (Rows.floorFitsSpec.pre enc Tryd.prog Tryd.f5 [] false w args ∧ laidMetH Tryd.prog [("psaltery/floor.places", Rows.laid_psaltery_floor_places)] w) ∧ sizedMet enc Tryd.prog Tryd.f5 (OpenSpec.ofChange Rows.floorFitsSpec) false w args)
      (Rows.floorFitsSpec.post enc Tryd.prog Tryd.f5 false true false false) := by
  refine returnsInHanded_of_change_and (C := Tryd.checked) (X := fun w _ => laidMetH Tryd.prog [("psaltery/floor.places", Rows.laid_psaltery_floor_places)] w) (fun _ _ _ hh h => h.of_heap hh) own started (by kernel_rfl) Tryd.func5
    (ChangeSpec.witness_shaped (enc := enc) (C := Tryd.checked) (os := os) (X := fun w _ => laidMetH Tryd.prog [("psaltery/floor.places", Rows.laid_psaltery_floor_places)] w) false (World.doorLaid Tryd.prog 400 os) #[.slice none 0 0, .int .i64 0] 8 rfl (World.shaped_of_RefB (by kernel_rfl) (by kernel_rfl)) (by kernel_rfl) (by kernel_rfl) (by kernel_rfl) (door_met os _)) ?_
  intro W base args ds gs before hval0 hW _ _ hL _
  have hval : ∀ (j : Nat) t v, Tryd.f5.params[j]? = some t → args[j]? = some v → Value.okWide Tryd.prog W .any base t v := hval0
  have hW' := hW
  obtain ⟨p, q, hA0, hV, rfl, hfz, hnd⟩ := hW
  have hA : DataW.TrodAll enc Tryd.prog W 0 (fun _ => true) true Tryd.f5.params.toList args.toList ds p := hA0
  rw [Tryd.params5] at hA hval
  obtain ⟨v0, vs0, d0, ds0, p0, q0, hargs, rfl, rfl, h0, r0⟩ := trodAll_cons hA
  obtain ⟨v1, vs1, d1, ds1, p1, q1, rfl, rfl, rfl, h1, r1⟩ := trodAll_cons r0
  obtain ⟨rfl, rfl, rfl⟩ := trodAll_nil r1
  obtain rfl : args = #[v0, v1] := by cases args; simp_all
  obtain ⟨rfl, rfl⟩ := trodVars_none hV
  have k0 := h0
  have lt0 : ∀ x ∈ p0, x.block < W.heap.size := by obtain ⟨m, hm⟩ := k0; exact DataW.trod_lt m _ _ _ hm
  obtain ⟨a0, len0, cap0, rfl⟩ := okWide_slice Tryd.underlying22 (hval 0 22 v0 rfl rfl)
  obtain ⟨z0, w0⟩ : ∃ zs, IsRow .i64 W a0 len0 cap0 zs := by
    obtain ⟨fuel, hf⟩ := h0
    obtain ⟨a', l', c', zs, he, hr⟩ := ints_of_trod Tryd.underlying22 Tryd.underlying3 (by kernel_rfl) (show DataW.trod enc Tryd.prog W 0 (fun _ => true) true fuel 22 [.slice a0 len0 cap0] = _ from hf)
    simp only [Value.slice.injEq] at he
    obtain ⟨rfl, rfl, rfl⟩ := he
    exact ⟨zs, hr⟩
  obtain ⟨a1, rfl, rfl, rfl, w1⟩ := open_int Tryd.underlying3 (hval 1 3 v1 rfl rfl) h1
  clear hA0 hval0
  have hlaid := wp_of_laid hL
  refine (walk a0 len0 cap0 z0 a1 W w0 w1 hlaid).mono fun e W' ⟨he, bel⟩ => ?_
  subst he
  exact ⟨_, rfl, _, _, _, [], _, [], hW', trodAll_mk1 (shut_bool Tryd.underlying4 _), (trodAll_cons_mk (Below.trod laidOut (by kernel_rfl) (of_decide_eq_true (by kernel_rfl)) k0 bel lt0) (trodAll_cons_mk (shut_int Tryd.underlying3 w1) trodAll_mk0)), rfl, bel.frame _, fun h => by cases h⟩

theorem over : Rows.floorFitsRow.holds Tryd.pinned (OpenSpec.ofChange Rows.floorFitsSpec) :=
  OpenClaim.holds_of_wide 5 Tryd.f5 rfl rfl rfl rfl rfl rfl rfl ⟨rfl, rfl, rfl, rfl, rfl⟩ rfl rfl rfl rfl rfl (by kernel_rfl) Tryd.func5 (by kernel_rfl)
    (of_decide_eq_true (by kernel_rfl)) (by unfold Func.isWrapper; first | (rw [if_pos (by decide +kernel)]; kernel_rfl) | (rw [if_neg (by decide +kernel)]; exact ⟨rfl, rfl⟩))
    (fun os started H enc _ => lifted os started H enc)

theorem proved : Rows.FloorFitsCardSaid :=
  Claim7.holds_tied_plain_at .later [] [.data] true (true, "5f5139c8d220193f437a2cd2ffaec1b4e19aa1dc59a741194b095f4b137c78d1") false
    over (fun _ h => by cases h) (by kernel_rfl) (fun _ h => by cases h) floorFits_row_tie rfl ⟨rfl, rfl⟩ (by kernel_rfl) rfl
    (fun f fn hf hfn => by
      obtain rfl : f = 5 := Option.some.inj ((show Tryd.prog.funcNamed "psaltery/psalterylaw14.FloorFits" = some 5 by kernel_rfl).symm.trans hf) |>.symm
      obtain rfl : fn = Tryd.f5 := (Option.some.inj (Tryd.func5.symm.trans hfn)).symm
      exact ⟨by kernel_rfl, fun j t ht => by
        rw [Tryd.params5] at ht
        have hm : t ∈ [22, 3] := by simpa using Array.mem_of_getElem? ht
        have hall : ([22, 3].all fun u => !Tryd.prog.wantsStandIn u) = true := by kernel_rfl
        exact (show Tryd.prog.wantsStandIn t = false by simpa using List.all_eq_true.1 hall t hm)⟩)
    (by kernel_rfl)
#print axioms proved
end Go.Proofs.YtgmikllbpaekfaaDoor.floorFits
