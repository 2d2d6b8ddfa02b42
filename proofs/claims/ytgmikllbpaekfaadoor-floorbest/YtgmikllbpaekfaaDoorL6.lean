/- The Go function of the statement FloorBest returns true at every input, and leaves each argument as it read. One condition: the package-level table of places reads as the program lays it; it is tied to the text of the program (a tied card). The tie speaks of the packages of this seat (a pruned copy of the project) alone. -/
import Derived.Test.YtgmikllbpaekfaaDoorRg
import Derived.Test.YtgmikllbpaekfaaDoorCards
import Derived.Test.YtgmikllbpaekfaaDoorTie
import Derived.LaidMore
import Derived.SevenTiedAt
import Derived.ProofKit
import Derived.OpenShut
import Derived.ShutString
import Derived.ChangeOld
import Derived.Lib.SmallJoins
namespace Go.Proofs.YtgmikllbpaekfaaDoor.floorBest
open Go.ChangeShapes Go.WideShapes Go.ChangeAt Go.RowKit Go.Joins
set_option linter.unusedVariables false
set_option linter.unusedSimpArgs false

theorem own : ownKnob Tryd.prog.godebug = none := by kernel_rfl
theorem laidOut : laidOutB Tryd.prog = true := by kernel_rfl

set_option maxRecDepth 10000 in
set_option maxHeartbeats 2000000 in
theorem walk (a0 : Option Addr) (len0 cap0 : Nat) (z0 : List Int) (a1 : Int) (a2 : Int) (w : World) (w0 : IsRow .i64 w a0 len0 cap0 z0) (w1 : (Lit.int .i64 a1).wf = true) (w2 : (Lit.int .i64 a2).wf = true) (hw : Wp w) :
    Calls Tryd.prog 8 #[.slice a0 len0 cap0, .int .i64 a1, .int .i64 a2] w fun e w' => e = .returned (.bool true) ∧ Below w.heap.size w w' := by
  have HW := hid hw
  clear hw
  have hacc : Below w.heap.size w w := Below.refl _ _
  have hmx := row_max w0
  obtain ⟨x, rfl, hv, hwf⟩ := row_rw_any w0
  clear hwf w0
  have hgr := fun w hv => rright_any a0 x.length cap0 x rfl hmx w hv
  clear w1 w2
  by_cases hok : gokB x = true ∧ 0 ≤ a1 ∧ a2 ≤ 12 ∧ a1 ≤ a2
  · obtain ⟨hx, q0, q1, q2⟩ := hok
    rw [hx] at hgr
    have HF0 : Hid (∀ w, Rw .i64 w (.slice a0 x.length cap0) x → Calls Tryd.prog 18 #[.slice a0 x.length cap0, .int .i64 0] w fun e w' => ∃ g, e = .returned (.tuple #[.slice (some ⟨g, 0, none⟩) 6 6, .int .i64 0]) ∧ Blk .i64 3 w' g (fitL x 0) ∧ w.heap.size ≤ g ∧ Below w.heap.size w w') := fun w hv => ffit_ok a0 cap0 x 0 w hv hx (by omega) (by omega)
    have HFA : Hid (∀ w, Rw .i64 w (.slice a0 x.length cap0) x → Calls Tryd.prog 18 #[.slice a0 x.length cap0, .int .i64 a1] w fun e w' => ∃ g, e = .returned (.tuple #[.slice (some ⟨g, 0, none⟩) 6 6, .int .i64 0]) ∧ Blk .i64 3 w' g (fitL x a1) ∧ w.heap.size ≤ g ∧ Below w.heap.size w w') := fun w hv => ffit_ok a0 cap0 x a1 w hv hx q0 (by omega)
    have HFB : Hid (∀ w, Rw .i64 w (.slice a0 x.length cap0) x → Calls Tryd.prog 18 #[.slice a0 x.length cap0, .int .i64 a2] w fun e w' => ∃ g, e = .returned (.tuple #[.slice (some ⟨g, 0, none⟩) 6 6, .int .i64 0]) ∧ Blk .i64 3 w' g (fitL x a2) ∧ w.heap.size ≤ g ∧ Below w.heap.size w w') := fun w hv => ffit_ok a0 cap0 x a2 w hv hx (by omega) q1
    have HL : Hid (∀ q, (fitL x q).length = 6) := fun q => tab_len _ _
    have HFL : Hid (∀ (g : Nat) (w : World), Wp w → Blk .i64 3 w g (fitL x 0) → Calls Tryd.prog 15 #[.slice (some ⟨g, 0, none⟩) 6 6] w fun e w' => ∃ g, e = .returned (.tuple #[.slice (some ⟨g, 0, none⟩) 16 16, .int .i64 0]) ∧ Blk .i64 2 w' g (flL (fitL x 0)) ∧ w.heap.size ≤ g ∧ Below w.heap.size w w') := fun g w hw hb => by
      have h := ffloor_ok (some ⟨g, 0, none⟩) 6 (fitL x 0) w hw (by rw [HL.out]; exact hb.rw (HL.out 0)) (fitL_ok x 0)
      rw [HL.out] at h
      exact h
    have HONE : Hid (∀ k : Nat, k < 16 → (flL (fitL x 0)).getD k 0 = 1) := fun k hk => by
      rw [fl_at _ _ hk]
      exact fl_one (fun j hj => by rw [fitL_at _ _ _ hj]; rfl) k hk
    have HL16 : Hid ((flL (fitL x 0)).length = 16) := tab_len _ _
    have HUP : Hid (∀ k : Nat, k < 6 → (fitL x a1).getD k 0 ≤ (fitL x a2).getD k 0) := fun k hk => by
      rw [fitL_at _ _ _ hk, fitL_at _ _ _ hk]
      exact fit_mono x q2 q0 k
    have HLA := hid (HL.out a1)
    have HLB := hid (HL.out a2)
    have HV := hid hv
    generalize x.length = n at *
    generalize flL (fitL x 0) = FL at *
    generalize fitL x 0 = X0 at *
    generalize fitL x a1 = XA at *
    generalize fitL x a2 = XB at *
    clear hx hmx HL
    go_enter Tryd.func8, Tryd.ntmps8
    go_wp2_with (first | (go_at_call 19; refine (hgr _ hv).mono ?_; rintro e w8 ⟨rfl, h8⟩; have h8 := h8.symm; subst h8) | (go_at_call_of 18 (Value.int .i64 0); refine (HF0.out _ HV.out).mono ?_; rintro e W1 ⟨g1, rfl, hbl1, _, hb1⟩; have HBL1 := hid hbl1; have HV1 := hid (HV.out.below hb1); replace hacc := bthen' hacc hb1; clear hbl1 hb1) | (go_at_call 15; refine (HFL.out _ _ (HW.out.below hacc) HBL1.out).mono ?_; rintro e W2 ⟨g2, rfl, hbl2, _, hb2⟩; have HBL2 := hid hbl2; have HV2 := hid (HV1.out.below hb2); replace hacc := bthen' hacc hb2; clear hbl2 hb2) | (go_at_call_of 18 (Value.int .i64 a1); refine (HFA.out _ HV2.out).mono ?_; rintro e W3 ⟨g3, rfl, hbl3, _, hb3⟩; have HBL3 := hid hbl3; have HBL23 := hid (HBL2.out.below hb3); have HV3 := hid (HV2.out.below hb3); replace hacc := bthen' hacc hb3; clear hbl3 hb3) | (go_at_call_of 18 (Value.int .i64 a2); refine (HFB.out _ HV3.out).mono ?_; rintro e W4 ⟨g4, rfl, hbl4, _, hb4⟩; have HBL4 := hid hbl4; have HBL24 := hid (HBL23.out.below hb4); have HBL34 := hid (HBL3.out.below hb4); replace hacc := bthen' hacc hb4; clear hbl4 hb4))
    have HACC := hid hacc
    clear hacc HF0 HFA HFB HFL HBL1 HBL2 HBL3 HBL23 HV1 HV2 HV3 HV hgr hv
    go_loop [15] (fun i => ∃ q : Nat, q ≤ 16 ∧ i = .int .i64 q) (fun i => 16 - (intOf i).toNat)
    case atStart => exact ⟨0, by omega, rfl⟩
    case round =>
      obtain ⟨q, hq, rfl⟩ := hrel
      by_cases hqb : q < 16
      · have d1 := HBL24.out.cell q (by rw [HL16.out]; omega)
        rw [HONE.out q hqb] at d1
        have c1 : (q : Int) < 16 := by omega
        have c2 : (0 : Int) ≤ (q : Int) := by omega
        go_wp2
        exact ⟨⟨q + 1, by omega, by go_num⟩, by simp [intOf]; omega⟩
      · have c1 : ¬ (q : Int) < 16 := by omega
        go_wp2
        go_loopw [16] (fun i wq => ∃ p : Nat, p ≤ 6 ∧ i = .int .i64 p ∧ Below W4.heap.size W4 wq) (fun i _ => 6 - (intOf i).toNat)
        case atStart => exact ⟨0, by omega, rfl, Below.refl _ _⟩
        case round =>
          obtain ⟨p, hp, rfl, hnx⟩ := hrel
          have HNX := hid hnx
          clear hnx
          by_cases hl : p < 6
          · have d3 := ((bcell HNX.out).1 g3 p HBL34.out.lt).trans (HBL34.out.cell p (by rw [HLA.out]; omega))
            have d4 := ((bcell HNX.out).1 g4 p HBL4.out.lt).trans (HBL4.out.cell p (by rw [HLB.out]; omega))
            have hup := HUP.out p hl
            generalize XA.getD p 0 = U at *
            generalize XB.getD p 0 = V at *
            have i1 : (0 : Int) ≤ (p : Int) := by omega
            have i2 : (p : Int) < 6 := by omega
            have i3 : IntKind.i64.wrap (p : Int) = p := wraps_i64 _ (by omega) (by omega)
            go_wp2
            go_quiet (fail)
            go_wp2
            exact ⟨⟨p + 1, by omega, by go_num, drewN_below HNX.out _⟩, by simp [intOf]; omega⟩
          · have hacc := bthen' HACC.out HNX.out
            have i2 : ¬ (p : Int) < 6 := by omega
            go_wp2_with (first | (go_at_call 9; refine (knows_any _ (HW.out.below hacc)).mono ?_; rintro e w9 ⟨rfl, hb9⟩; replace hacc := bthen' hacc hb9))
            go_ret
            exact ⟨rfl, hacc⟩
  have hlh : gokB x = true → a1 < 0 ∨ 0 ≤ a1 ∧ 12 < a2 ∨ 0 ≤ a1 ∧ a2 ≤ 12 ∧ a2 < a1 := fun h => by
    by_cases c : a1 < 0
    · exact .inl c
    · by_cases d : 12 < a2
      · exact .inr (.inl ⟨by omega, d⟩)
      · by_cases f : a2 < a1
        · exact .inr (.inr ⟨by omega, by omega, f⟩)
        · exact absurd ⟨h, by omega, by omega, by omega⟩ hok
  clear hok hmx
  generalize x.length = n at *
  generalize gokB x = r at *
  cases r
  · clear hlh
    go_enter Tryd.func8, Tryd.ntmps8
    go_wp2_with (first | (go_at_call 19; refine (hgr _ hv).mono ?_; rintro e w8 ⟨rfl, h8⟩; have h8 := h8.symm; subst h8) | (go_at_call 9; refine (knows_any _ (HW.out.below hacc)).mono ?_; rintro e w9 ⟨rfl, hb9⟩; replace hacc := bthen' hacc hb9))
    go_ret
    exact ⟨rfl, hacc⟩
  · rcases hlh rfl with c | ⟨c, d⟩ | ⟨c, d, f⟩
    all_goals
      clear hlh
      go_enter Tryd.func8, Tryd.ntmps8
      go_wp2_with (first | (go_at_call 19; refine (hgr _ hv).mono ?_; rintro e w8 ⟨rfl, h8⟩; have h8 := h8.symm; subst h8) | (go_at_call 9; refine (knows_any _ (HW.out.below hacc)).mono ?_; rintro e w9 ⟨rfl, hb9⟩; replace hacc := bthen' hacc hb9))
      go_ret
      exact ⟨rfl, hacc⟩


/-- The heap that the door's own run leaves meets the condition. -/
theorem door_met (os : Os) (args : Array Value) : laidMetH Tryd.prog [("psaltery/floor.places", Rows.laid_psaltery_floor_places)] ((World.doorLaid Tryd.prog 400 os).forCall (fun _ _ => 0) ⟨#[], args, []⟩).memory :=
  laidMetH_of_parts3 (fuel := 8) (laidMet_of_run' 8 (by kernel_rfl) (by kernel_rfl)) (by kernel_rfl) (by kernel_rfl)
set_option maxRecDepth 100000 in
theorem lifted (os : Os) (started : os.Started) (H : Type) (enc : TypeId × Value → H) :
    ReturnsInHanded {} Tryd.checked os 8 .any (fun w args => (Rows.floorBestSpec.pre enc Tryd.prog Tryd.f8 [] false w args ∧ laidMetH Tryd.prog [("psaltery/floor.places", Rows.laid_psaltery_floor_places)] w) ∧ sizedMet enc Tryd.prog Tryd.f8 (OpenSpec.ofChange Rows.floorBestSpec) false w args)
      (Rows.floorBestSpec.post enc Tryd.prog Tryd.f8 false true false false) := by
  refine returnsInHanded_of_change_and (C := Tryd.checked) (X := fun w _ => laidMetH Tryd.prog [("psaltery/floor.places", Rows.laid_psaltery_floor_places)] w) (fun _ _ _ hh h => h.of_heap hh) own started (by kernel_rfl) Tryd.func8
    (ChangeSpec.witness_shaped (enc := enc) (C := Tryd.checked) (os := os) (X := fun w _ => laidMetH Tryd.prog [("psaltery/floor.places", Rows.laid_psaltery_floor_places)] w) false (World.doorLaid Tryd.prog 400 os) #[.slice none 0 0, .int .i64 0, .int .i64 0] 8 rfl (World.shaped_of_RefB (by kernel_rfl) (by kernel_rfl)) (by kernel_rfl) (by kernel_rfl) (by kernel_rfl) (door_met os _)) ?_
  intro W base args ds gs before hval0 hW _ _ hL _
  have hval : ∀ (j : Nat) t v, Tryd.f8.params[j]? = some t → args[j]? = some v → Value.okWide Tryd.prog W .any base t v := hval0
  have hW' := hW
  obtain ⟨p, q, hA0, hV, rfl, hfz, hnd⟩ := hW
  have hA : DataW.TrodAll enc Tryd.prog W 0 (fun _ => true) true Tryd.f8.params.toList args.toList ds p := hA0
  rw [Tryd.params8] at hA hval
  obtain ⟨v0, vs0, d0, ds0, p0, q0, hargs, rfl, rfl, h0, r0⟩ := trodAll_cons hA
  obtain ⟨v1, vs1, d1, ds1, p1, q1, rfl, rfl, rfl, h1, r1⟩ := trodAll_cons r0
  obtain ⟨v2, vs2, d2, ds2, p2, q2, rfl, rfl, rfl, h2, r2⟩ := trodAll_cons r1
  obtain ⟨rfl, rfl, rfl⟩ := trodAll_nil r2
  obtain rfl : args = #[v0, v1, v2] := by cases args; simp_all
  obtain ⟨rfl, rfl⟩ := trodVars_none hV
  have k0 := h0
  have lt0 : ∀ x ∈ p0, x.block < W.heap.size := by obtain ⟨m, hm⟩ := k0; exact DataW.trod_lt m _ _ _ hm
  obtain ⟨a0, len0, cap0, rfl⟩ := okWide_slice Tryd.underlying22 (hval 0 22 v0 rfl rfl)
  obtain ⟨z0, w0⟩ : ∃ zs, IsRow .i64 W a0 len0 cap0 zs := by
    obtain ⟨fuel, hf⟩ := h0
    obtain ⟨a', l', c', zs, he, hr⟩ := ints_of_trod Tryd.underlying22 Tryd.underlying3 (by kernel_rfl) (show DataW.trod enc Tryd.prog W 0 (fun _ => true) true fuel 22 [.slice a0 len0 cap0] = _ from hf)
    simp only [Value.slice.injEq] at he
    obtain ⟨rfl, rfl, rfl⟩ := he
    exact ⟨zs, hr⟩
  obtain ⟨a1, rfl, rfl, rfl, w1⟩ := open_int Tryd.underlying3 (hval 1 3 v1 rfl rfl) h1
  obtain ⟨a2, rfl, rfl, rfl, w2⟩ := open_int Tryd.underlying3 (hval 2 3 v2 rfl rfl) h2
  clear hA0 hval0
  have hlaid := wp_of_laid hL
  refine (walk a0 len0 cap0 z0 a1 a2 W w0 w1 w2 hlaid).mono fun e W' ⟨he, bel⟩ => ?_
  subst he
  exact ⟨_, rfl, _, _, _, [], _, [], hW', trodAll_mk1 (shut_bool Tryd.underlying4 _), (trodAll_cons_mk (Below.trod laidOut (by kernel_rfl) (of_decide_eq_true (by kernel_rfl)) k0 bel lt0) (trodAll_cons_mk (shut_int Tryd.underlying3 w1) (trodAll_cons_mk (shut_int Tryd.underlying3 w2) trodAll_mk0))), rfl, bel.frame _, fun h => by cases h⟩

theorem over : Rows.floorBestRow.holds Tryd.pinned (OpenSpec.ofChange Rows.floorBestSpec) :=
  OpenClaim.holds_of_wide 8 Tryd.f8 rfl rfl rfl rfl rfl rfl rfl ⟨rfl, rfl, rfl, rfl, rfl⟩ rfl rfl rfl rfl rfl (by kernel_rfl) Tryd.func8 (by kernel_rfl)
    (of_decide_eq_true (by kernel_rfl)) (by unfold Func.isWrapper; first | (rw [if_pos (by decide +kernel)]; kernel_rfl) | (rw [if_neg (by decide +kernel)]; exact ⟨rfl, rfl⟩))
    (fun os started H enc _ => lifted os started H enc)

theorem proved : Rows.FloorBestCardSaid :=
  Claim7.holds_tied_plain_at .later [] [.data] true (true, "5f5139c8d220193f437a2cd2ffaec1b4e19aa1dc59a741194b095f4b137c78d1") false
    over (fun _ h => by cases h) (by kernel_rfl) (fun _ h => by cases h) floorBest_row_tie rfl ⟨rfl, rfl⟩ (by kernel_rfl) rfl
    (fun f fn hf hfn => by
      obtain rfl : f = 8 := Option.some.inj ((show Tryd.prog.funcNamed "psaltery/psalterylaw14.FloorBest" = some 8 by kernel_rfl).symm.trans hf) |>.symm
      obtain rfl : fn = Tryd.f8 := (Option.some.inj (Tryd.func8.symm.trans hfn)).symm
      exact ⟨by kernel_rfl, fun j t ht => by
        rw [Tryd.params8] at ht
        have hm : t ∈ [22, 3, 3] := by simpa using Array.mem_of_getElem? ht
        have hall : ([22, 3, 3].all fun u => !Tryd.prog.wantsStandIn u) = true := by kernel_rfl
        exact (show Tryd.prog.wantsStandIn t = false by simpa using List.all_eq_true.1 hall t hm)⟩)
    (by kernel_rfl)
#print axioms proved
end Go.Proofs.YtgmikllbpaekfaaDoor.floorBest
