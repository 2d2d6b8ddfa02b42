/- The Go function of the statement FloorBounds returns true at every input, and leaves each argument as it read. One condition: the package-level table of places reads as the program lays it; it is tied to the text of the program (a tied card). The tie speaks of the packages of this seat (a pruned copy of the project) alone. -/
import Derived.Test.YtgmikllbpaekfaaDoorRg
import Derived.Test.YtgmikllbpaekfaaDoorCards
import Derived.Test.YtgmikllbpaekfaaDoorTie
import Derived.LaidMore
import Derived.SevenTiedAt
import Derived.ProofKit
import Derived.OpenShut
import Derived.ShutString
import Derived.ChangeOld
import Derived.Lib.SmallJoins
namespace Go.Proofs.YtgmikllbpaekfaaDoor.floorBounds
open Go.ChangeShapes Go.WideShapes Go.ChangeAt Go.RowKit Go.Joins
set_option linter.unusedVariables false
set_option linter.unusedSimpArgs false

theorem own : ownKnob Tryd.prog.godebug = none := by kernel_rfl
theorem laidOut : laidOutB Tryd.prog = true := by kernel_rfl

set_option maxRecDepth 10000 in
set_option maxHeartbeats 2000000 in
theorem walk (a0 : Option Addr) (len0 cap0 : Nat) (z0 : List Int) (w : World) (w0 : IsRow .i64 w a0 len0 cap0 z0) (hw : Wp w) :
    Calls Tryd.prog 7 #[.slice a0 len0 cap0] w fun e w' => e = .returned (.bool true) ∧ Below w.heap.size w w' := by
  have HW := hid hw
  clear hw
  have hacc : Below w.heap.size w w := Below.refl _ _
  have hmx := row_max w0
  obtain ⟨x, rfl, hv, hwf⟩ := row_rw_any w0
  clear hwf w0
  have hrr := fun w hv => rfright_any a0 x.length cap0 x rfl hmx w hv
  cases hx : flOk x
  · rw [hx] at hrr
    generalize x.length = n at *
    go_enter Tryd.func7, Tryd.ntmps7
    go_wp2_with (first | (go_at_call 13; refine (hrr _ hv).mono ?_; rintro e w8 ⟨rfl, h8⟩; have h8 := h8.symm; subst h8) | (go_at_call 9; refine (knows_any _ (HW.out.below hacc)).mono ?_; rintro e w9 ⟨rfl, hb9⟩; replace hacc := bthen' hacc hb9))
    go_ret
    exact ⟨rfl, hacc⟩
  rw [hx] at hrr
  have h1 := ffloor_ok a0 cap0 x w HW.out hv hx
  have h6 := (flOk_parts hx).1
  obtain ⟨b, off, rfl, hlt, _⟩ := hv.at 0 (by omega)
  have HC : Hid (∀ i, i < 6 → w.cell? ⟨b, off + i, none⟩ = some (.int .i64 (x.getD i 0))) := fun i hi => by
    obtain ⟨b', off', he, _, h⟩ := hv.at i (by omega)
    simp only [Option.some.injEq, Addr.mk.injEq, and_true] at he
    obtain ⟨rfl, rfl⟩ := he
    exact h
  have HX := hid hx
  have HB1 : Hid (∀ k : Nat, k < 16 → (flL x).getD k 0 = flFl x k) := fun k hk => fl_at x k hk
  have HL1 : Hid ((flL x).length = 16) := tab_len _ _
  rw [h6] at hv h1 hrr ⊢
  clear h6 hx hmx
  go_enter Tryd.func7, Tryd.ntmps7
  go_wp2_with (first | (go_at_call 15; refine h1.mono ?_; rintro e W1 ⟨g1, rfl, hbl1, _, hb1⟩; have HBL1 := hid hbl1; have HBB1 := hid hb1; clear hbl1 hb1) | (go_at_call 13; refine (hrr _ hv).mono ?_; rintro e w8 ⟨rfl, h8⟩; have h8 := h8.symm; subst h8))
  have hltW : b < W1.heap.size := Nat.lt_of_lt_of_le hlt HBB1.out.size
  have HC1 : Hid (∀ i, i < 6 → W1.cell? ⟨b, off + i, none⟩ = some (.int .i64 (x.getD i 0))) := fun i hi => ((bcell HBB1.out).1 b (off + i) hlt).trans (HC.out i hi)
  have HXB : Hid (∀ i, 0 ≤ x.getD i 0 ∧ x.getD i 0 ≤ 44) := fun i => flOk_at HX.out i
  have hacc := HBB1.out
  clear h1 hrr hv HC hlt
  go_loop [5, 6] (fun t i => ∃ (T : Int) (k : Nat), k ≤ 6 ∧ i = .int .i64 k ∧ t = .int .i64 T ∧ 0 ≤ T ∧ T ≤ 44 ∧ ∀ j, j < k → x.getD j 0 ≤ T) (fun _ i => 6 - (intOf i).toNat)
  case atStart => exact ⟨0, 0, by omega, rfl, rfl, by omega, by omega, fun j hj => by omega⟩
  case round =>
    obtain ⟨T, k, hk, rfl, rfl, t0, t1, hall⟩ := hrel
    have HALL := hid hall
    clear hall
    by_cases hlt : k < 6
    · have c1 := HC1.out k hlt
      have hb := HXB.out k
      have HN : Hid (∀ S, T ≤ S → x.getD k 0 ≤ S → ∀ j, j < k + 1 → x.getD j 0 ≤ S) := fun S h1 h2 j hj => by
        by_cases e : j = k
        · subst e; exact h2
        · have := HALL.out j (by omega); omega
      have i1 : (0 : Int) ≤ (k : Int) := by omega
      have i2 : (k : Int) < 6 := by omega
      have b1 := hb.1
      have b2 := hb.2
      generalize x.getD k 0 = Y at *
      clear hb
      by_cases c : T < Y
      · have HN2 := hid (HN.out Y (by omega) (by omega))
        clear HN
        go_wp2
        exact ⟨⟨Y, k + 1, by omega, by go_num, rfl, b1, b2, HN2.out⟩, by simp [intOf]; omega⟩
      · have HN2 := hid (HN.out T (by omega) (by omega))
        clear HN
        go_wp2
        exact ⟨⟨T, k + 1, by omega, by go_num, rfl, t0, t1, HN2.out⟩, by simp [intOf]; omega⟩
    · have i2 : ¬ (k : Int) < 6 := by omega
      obtain rfl : k = 6 := by omega
      have HT : Hid (∀ i, i < 16 → flFl x i ≤ (if vlI T < 1 then 1 else vlI T)) := fun i hi => fl_top (fun j hj => ⟨(HXB.out j).1, HALL.out j hj⟩) t1 i hi
      have HF1 : Hid (∀ i, 1 ≤ flFl x i) := fun i => (fl_bd x i).1
      have hva := fun w => rvalue_any T w
      obtain ⟨M, hM⟩ : ∃ M, (if vlI T < 1 then 1 else vlI T) = M := ⟨_, rfl⟩
      rw [hM] at HT
      generalize vlI T = V at *
      clear HALL hlt
      have hcase : V < 1 ∧ M = 1 ∨ ¬ V < 1 ∧ M = V := by
        by_cases c : V < 1
        · rw [if_pos c] at hM; exact .inl ⟨c, hM.symm⟩
        · rw [if_neg c] at hM; exact .inr ⟨c, hM.symm⟩
      clear hM
      rcases hcase with ⟨c, rfl⟩ | ⟨c, rfl⟩
      all_goals
        go_wp2_with (first | (go_at_call 21; refine (hva _).mono ?_; rintro e w8 ⟨rfl, h8⟩; have h8 := h8.symm; subst h8))
        go_loop [8] (fun i => ∃ q : Nat, q ≤ 16 ∧ i = .int .i64 q) (fun i => 16 - (intOf i).toNat)
        case atStart => exact ⟨0, by omega, rfl⟩
        case round =>
          obtain ⟨q, hq, rfl⟩ := hrel
          by_cases hqb : q < 16
          · have d1 := HBL1.out.cell q (by rw [HL1.out]; omega)
            rw [HB1.out q hqb] at d1
            have v1 := HF1.out q
            have v2 := HT.out q hqb
            generalize flFl x q = U at *
            have q1 : (q : Int) < 16 := by omega
            have q2 : (0 : Int) ≤ (q : Int) := by omega
            go_wp2
            exact ⟨⟨q + 1, by omega, by go_num⟩, by simp [intOf]; omega⟩
          · have q1 : ¬ (q : Int) < 16 := by omega
            go_wp2_with (first | (go_at_call 9; refine (knows_any _ (HW.out.below hacc)).mono ?_; rintro e w9 ⟨rfl, hb9⟩; replace hacc := bthen' hacc hb9))
            go_ret
            exact ⟨rfl, hacc⟩


/-- The heap that the door's own run leaves meets the condition. -/
theorem door_met (os : Os) (args : Array Value) : laidMetH Tryd.prog [("psaltery/floor.places", Rows.laid_psaltery_floor_places)] ((World.doorLaid Tryd.prog 400 os).forCall (fun _ _ => 0) ⟨#[], args, []⟩).memory :=
  laidMetH_of_parts3 (fuel := 8) (laidMet_of_run' 8 (by kernel_rfl) (by kernel_rfl)) (by kernel_rfl) (by kernel_rfl)
set_option maxRecDepth 100000 in
theorem lifted (os : Os) (started : os.Started) (H : Type) (enc : TypeId × Value → H) :
    ReturnsInHanded {} Tryd.checked os 7 .any (fun w args => (Rows.floorBoundsSpec.pre enc Tryd.prog Tryd.f7 [] false w args ∧ laidMetH Tryd.prog [("psaltery/floor.places", Rows.laid_psaltery_floor_places)] w) ∧ sizedMet enc Tryd.prog Tryd.f7 (OpenSpec.ofChange Rows.floorBoundsSpec) false w args)
      (Rows.floorBoundsSpec.post enc Tryd.prog Tryd.f7 false true false false) := by
  refine returnsInHanded_of_change_and (C := Tryd.checked) (X := fun w _ => laidMetH Tryd.prog [("psaltery/floor.places", Rows.laid_psaltery_floor_places)] w) (fun _ _ _ hh h => h.of_heap hh) own started (by kernel_rfl) Tryd.func7
    (ChangeSpec.witness_shaped (enc := enc) (C := Tryd.checked) (os := os) (X := fun w _ => laidMetH Tryd.prog [("psaltery/floor.places", Rows.laid_psaltery_floor_places)] w) false (World.doorLaid Tryd.prog 400 os) #[.slice none 0 0] 8 rfl (World.shaped_of_RefB (by kernel_rfl) (by kernel_rfl)) (by kernel_rfl) (by kernel_rfl) (by kernel_rfl) (door_met os _)) ?_
  intro W base args ds gs before hval0 hW _ _ hL _
  have hval : ∀ (j : Nat) t v, Tryd.f7.params[j]? = some t → args[j]? = some v → Value.okWide Tryd.prog W .any base t v := hval0
  have hW' := hW
  obtain ⟨p, q, hA0, hV, rfl, hfz, hnd⟩ := hW
  have hA : DataW.TrodAll enc Tryd.prog W 0 (fun _ => true) true Tryd.f7.params.toList args.toList ds p := hA0
  rw [Tryd.params7] at hA hval
  obtain ⟨v0, vs0, d0, ds0, p0, q0, hargs, rfl, rfl, h0, r0⟩ := trodAll_cons hA
  obtain ⟨rfl, rfl, rfl⟩ := trodAll_nil r0
  obtain rfl : args = #[v0] := by cases args; simp_all
  obtain ⟨rfl, rfl⟩ := trodVars_none hV
  have k0 := h0
  have lt0 : ∀ x ∈ p0, x.block < W.heap.size := by obtain ⟨m, hm⟩ := k0; exact DataW.trod_lt m _ _ _ hm
  obtain ⟨a0, len0, cap0, rfl⟩ := okWide_slice Tryd.underlying22 (hval 0 22 v0 rfl rfl)
  obtain ⟨z0, w0⟩ : ∃ zs, IsRow .i64 W a0 len0 cap0 zs := by
    obtain ⟨fuel, hf⟩ := h0
    obtain ⟨a', l', c', zs, he, hr⟩ := ints_of_trod Tryd.underlying22 Tryd.underlying3 (by kernel_rfl) (show DataW.trod enc Tryd.prog W 0 (fun _ => true) true fuel 22 [.slice a0 len0 cap0] = _ from hf)
    simp only [Value.slice.injEq] at he
    obtain ⟨rfl, rfl, rfl⟩ := he
    exact ⟨zs, hr⟩
  clear hA0 hval0
  have hlaid := wp_of_laid hL
  refine (walk a0 len0 cap0 z0 W w0 hlaid).mono fun e W' ⟨he, bel⟩ => ?_
  subst he
  exact ⟨_, rfl, _, _, _, [], _, [], hW', trodAll_mk1 (shut_bool Tryd.underlying4 _), (trodAll_cons_mk (Below.trod laidOut (by kernel_rfl) (of_decide_eq_true (by kernel_rfl)) k0 bel lt0) trodAll_mk0), rfl, bel.frame _, fun h => by cases h⟩

theorem over : Rows.floorBoundsRow.holds Tryd.pinned (OpenSpec.ofChange Rows.floorBoundsSpec) :=
  OpenClaim.holds_of_wide 7 Tryd.f7 rfl rfl rfl rfl rfl rfl rfl ⟨rfl, rfl, rfl, rfl, rfl⟩ rfl rfl rfl rfl rfl (by kernel_rfl) Tryd.func7 (by kernel_rfl)
    (of_decide_eq_true (by kernel_rfl)) (by unfold Func.isWrapper; first | (rw [if_pos (by decide +kernel)]; kernel_rfl) | (rw [if_neg (by decide +kernel)]; exact ⟨rfl, rfl⟩))
    (fun os started H enc _ => lifted os started H enc)

theorem proved : Rows.FloorBoundsCardSaid :=
  Claim7.holds_tied_plain_at .later [] [.data] true (true, "5f5139c8d220193f437a2cd2ffaec1b4e19aa1dc59a741194b095f4b137c78d1") false
    over (fun _ h => by cases h) (by kernel_rfl) (fun _ h => by cases h) floorBounds_row_tie rfl ⟨rfl, rfl⟩ (by kernel_rfl) rfl
    (fun f fn hf hfn => by
      obtain rfl : f = 7 := Option.some.inj ((show Tryd.prog.funcNamed "psaltery/psalterylaw14.FloorBounds" = some 7 by kernel_rfl).symm.trans hf) |>.symm
      obtain rfl : fn = Tryd.f7 := (Option.some.inj (Tryd.func7.symm.trans hfn)).symm
      exact ⟨by kernel_rfl, fun j t ht => by
        rw [Tryd.params7] at ht
        have hm : t ∈ [22] := by simpa using Array.mem_of_getElem? ht
        have hall : ([22].all fun u => !Tryd.prog.wantsStandIn u) = true := by kernel_rfl
        exact (show Tryd.prog.wantsStandIn t = false by simpa using List.all_eq_true.1 hall t hm)⟩)
    (by kernel_rfl)
#print axioms proved
end Go.Proofs.YtgmikllbpaekfaaDoor.floorBounds
