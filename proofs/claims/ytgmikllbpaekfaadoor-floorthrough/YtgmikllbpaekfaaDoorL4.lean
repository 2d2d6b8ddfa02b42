/- The Go function of the statement FloorThrough returns true at every input, and leaves each argument as it read. One condition: the package-level table of places reads as the program lays it; it is tied to the text of the program (a tied card). The tie speaks of the packages of this seat (a pruned copy of the project) alone. -/
import Derived.Test.YtgmikllbpaekfaaDoorRg
import Derived.Test.YtgmikllbpaekfaaDoorCards
import Derived.Test.YtgmikllbpaekfaaDoorTie
import Derived.LaidMore
import Derived.SevenTiedAt
import Derived.ProofKit
import Derived.OpenShut
import Derived.ShutString
import Derived.ChangeOld
import Derived.Lib.SmallJoins
namespace Go.Proofs.YtgmikllbpaekfaaDoor.floorThrough
open Go.ChangeShapes Go.WideShapes Go.ChangeAt Go.RowKit Go.Joins
set_option linter.unusedVariables false
set_option linter.unusedSimpArgs false

theorem own : ownKnob Tryd.prog.godebug = none := by kernel_rfl
theorem laidOut : laidOutB Tryd.prog = true := by kernel_rfl

set_option maxRecDepth 10000 in
set_option maxHeartbeats 2000000 in
theorem walk (a0 : Option Addr) (len0 cap0 : Nat) (z0 : List Int) (w : World) (w0 : IsRow .i64 w a0 len0 cap0 z0) (hw : Wp w) :
    Calls Tryd.prog 6 #[.slice a0 len0 cap0] w fun e w' => e = .returned (.bool true) ∧ Below w.heap.size w w' := by
  have HW := hid hw
  clear hw
  have hacc : Below w.heap.size w w := Below.refl _ _
  have hmx := row_max w0
  obtain ⟨x, rfl, hv, hwf⟩ := row_rw_any w0
  clear hwf w0
  have hrr := fun w hv => rfright_any a0 x.length cap0 x rfl hmx w hv
  cases hx : flOk x
  · rw [hx] at hrr
    generalize x.length = n at *
    go_enter Tryd.func6, Tryd.ntmps6
    go_wp2_with (first | (go_at_call 13; refine (hrr _ hv).mono ?_; rintro e w8 ⟨rfl, h8⟩; have h8 := h8.symm; subst h8) | (go_at_call 9; refine (knows_any _ (HW.out.below hacc)).mono ?_; rintro e w9 ⟨rfl, hb9⟩; replace hacc := bthen' hacc hb9))
    go_ret
    exact ⟨rfl, hacc⟩
  rw [hx] at hrr
  have h1 := fline_ok a0 cap0 x w HW.out hv hx
  have h6 := (flOk_parts hx).1
  obtain ⟨b, off, rfl, hlt, _⟩ := hv.at 0 (by omega)
  have HC : Hid (∀ i, i < 6 → w.cell? ⟨b, off + i, none⟩ = some (.int .i64 (x.getD i 0))) := fun i hi => by
    obtain ⟨b', off', he, _, h⟩ := hv.at i (by omega)
    simp only [Option.some.injEq, Addr.mk.injEq, and_true] at he
    obtain ⟨rfl, rfl⟩ := he
    exact h
  have HV := hid hv
  have HX := hid hx
  have HB1 : Hid (∀ k : Nat, k < 16 → (lnL x).getD k 0 = flLn x k) := fun k hk => ln_at x k hk
  have HL1 : Hid ((lnL x).length = 16) := tab_len _ _
  have HAT : Hid (∀ (p : Nat), p < 6 → ∀ w, Calls Tryd.prog 11 #[.int .i64 p] w fun e w' => e = .returned (.int .i64 (flAt p : Nat)) ∧ w' = w) := fun p hp w => by
    rw [← flAtI_nat (p := p) hp]; exact rfat_any _ w
  rw [h6] at hv h1 hrr ⊢
  clear h6 hx hmx
  go_enter Tryd.func6, Tryd.ntmps6
  go_wp2_with (first | (go_at_call 14; refine h1.mono ?_; rintro e W1 ⟨g1, rfl, hbl1, _, hb1⟩; have HBL1 := hid hbl1; have HBB1 := hid hb1; clear hbl1 hb1) | (go_at_call 13; refine (hrr _ hv).mono ?_; rintro e w8 ⟨rfl, h8⟩; have h8 := h8.symm; subst h8))
  have hltW : b < W1.heap.size := Nat.lt_of_lt_of_le hlt HBB1.out.size
  have HC1 : Hid (∀ i, i < 6 → W1.cell? ⟨b, off + i, none⟩ = some (.int .i64 (x.getD i 0))) := fun i hi => ((bcell HBB1.out).1 b (off + i) hlt).trans (HC.out i hi)
  clear h1 hrr hv HC HV hacc hlt
  go_loopw [5] (fun i wr => ∃ k : Nat, k ≤ 6 ∧ i = .int .i64 k ∧ Below W1.heap.size W1 wr) (fun i _ => 6 - (intOf i).toNat)
  case atStart => exact ⟨0, by omega, rfl, Below.refl _ _⟩
  case round =>
    obtain ⟨k, hk, rfl, hnx⟩ := hrel
    have HNX := hid hnx
    clear hnx
    by_cases hlt : k < 6
    · have hA := at_in hlt
      have c1 := ((bcell HNX.out).1 g1 (flAt k) HBL1.out.lt).trans (HBL1.out.cell (flAt k) (by rw [HL1.out]; omega))
      rw [HB1.out (flAt k) (by omega), ln_through x hlt] at c1
      have c2 := ((bcell HNX.out).1 b (off + k) hltW).trans (HC1.out k hlt)
      have hat := HAT.out k hlt
      generalize flAt k = A at *
      generalize x.getD k 0 = Y at *
      have a1 : (0 : Int) ≤ (A : Int) := by omega
      have a2 : (A : Int) < 16 := by omega
      have i1 : (0 : Int) ≤ (k : Int) := by omega
      have i2 : (k : Int) < 6 := by omega
      have i3 : IntKind.i64.wrap (k : Int) = k := wraps_i64 _ (by omega) (by omega)
      clear hA
      go_wp2
      go_quiet (first | (go_at_call 11; exact Calls.quiet_of_same (hat _)))
      go_wp2
      exact ⟨⟨k + 1, by omega, by go_num, drewN_below HNX.out _⟩, by simp [intOf]; omega⟩
    · have i2 : ¬ (k : Int) < 6 := by omega
      clear hlt
      go_wp2
      go_loopw [6] (fun i wq => ∃ p : Nat, p ≤ 5 ∧ i = .int .i64 p ∧ Below W1.heap.size W1 wq) (fun i _ => 5 - (intOf i).toNat)
      case atStart => exact ⟨0, by omega, rfl, HNX.out⟩
      case round =>
        clear HNX
        obtain ⟨p, hp, rfl, hnx⟩ := hrel
        have HNX := hid hnx
        clear hnx
        by_cases hl : p < 5
        · obtain ⟨P, hP⟩ : ∃ P : Nat, p + 1 = P := ⟨_, rfl⟩
          have hu := at_up hl
          have hbt := fun i => ln_between x (i := i) hl
          rw [hP] at hu hbt
          have c1 := ((bcell HNX.out).1 b (off + p) hltW).trans (HC1.out p (by omega))
          have c2 := ((bcell HNX.out).1 b (off + P) hltW).trans (HC1.out P (by omega))
          have hat := HAT.out p (by omega)
          have haP := HAT.out P (by omega)
          have b1 := flOk_at HX.out p
          have b2 := flOk_at HX.out P
          generalize flAt p = A at *
          generalize flAt P = B at *
          generalize x.getD p 0 = Y at *
          generalize x.getD P 0 = Z at *
          have e1 : (p : Int) + 1 = (P : Int) := by omega
          have p1 : (0 : Int) ≤ (p : Int) := by omega
          have p2 : (p : Int) < 5 := by omega
          have p3 : (P : Int) < 6 := by omega
          have p4 : (p : Int) < 6 := by omega
          have p5 : IntKind.i64.wrap (p : Int) = p := wraps_i64 _ (by omega) (by omega)
          have p6 : IntKind.i64.wrap (P : Int) = P := wraps_i64 _ (by omega) (by omega)
          have bB : (B : Int) ≤ 15 := by omega
          have HU := hid hu
          have HBT := hid hbt
          have HC1' := HC1
          clear hu hbt hP
          obtain ⟨lo, hi, hmm, HLO⟩ : ∃ lo hi : Int, (Y ≤ Z ∧ lo = Y ∧ hi = Z ∨ Z < Y ∧ lo = Z ∧ hi = Y) ∧ Hid (∀ i, A ≤ i → i ≤ B → lo ≤ flLn x i ∧ flLn x i ≤ hi) := by
            by_cases c : Y ≤ Z
            · exact ⟨Y, Z, .inl ⟨c, rfl, rfl⟩, fun i h1 h2 => (HBT.out i h1 h2).1 c⟩
            · exact ⟨Z, Y, .inr ⟨by omega, rfl, rfl⟩, fun i h1 h2 => (HBT.out i h1 h2).2 (by omega)⟩
          rcases hmm with ⟨c, rfl, rfl⟩ | ⟨c, rfl, rfl⟩
          all_goals
            go_wp2
            go_quiet (fail)
            go_wp2_with (first | (go_at_call 11; refine (hat _).mono ?_; rintro e w8 ⟨rfl, h8⟩; have h8 := h8.symm; subst h8))
            go_loop [9] (fun i => ∃ q : Nat, A ≤ q ∧ q ≤ B + 1 ∧ i = .int .i64 q) (fun i => 17 - (intOf i).toNat)
            case atStart => exact ⟨A, Nat.le_refl _, by have := HU.out; omega, rfl⟩
            case round =>
              obtain ⟨q, hq1, hq2, rfl⟩ := hrel
              by_cases hqb : q ≤ B
              · have d1 := ((bcell (drewN_below HNX.out nq)).1 g1 q HBL1.out.lt).trans (HBL1.out.cell q (by rw [HL1.out]; omega))
                rw [HB1.out q (by omega)] at d1
                have hb := HLO.out q hq1 hqb
                generalize flLn x q = V at *
                have v1 := hb.1
                have v2 := hb.2
                have q1 : (q : Int) ≤ (B : Int) := by omega
                have q2 : (q : Int) < 16 := by omega
                clear hb
                go_wp2_with (first | (go_at_call 11; refine (haP _).mono ?_; rintro e w8 ⟨rfl, h8⟩; have h8 := h8.symm; subst h8))
                exact ⟨⟨q + 1, by omega, by omega, by go_num⟩, by simp [intOf]; omega⟩
              · have q1 : ¬ (q : Int) ≤ (B : Int) := by omega
                go_wp2_with (first | (go_at_call 11; refine (haP _).mono ?_; rintro e w8 ⟨rfl, h8⟩; have h8 := h8.symm; subst h8))
                exact ⟨⟨p + 1, by omega, by go_num, drewN_below HNX.out _⟩, by simp [intOf]; omega⟩
        · have hacc := bthen' HBB1.out HNX.out
          have i2 : ¬ (p : Int) < 5 := by omega
          go_wp2_with (first | (go_at_call 9; refine (knows_any _ (HW.out.below hacc)).mono ?_; rintro e w9 ⟨rfl, hb9⟩; replace hacc := bthen' hacc hb9))
          go_ret
          exact ⟨rfl, hacc⟩


/-- The heap that the door's own run leaves meets the condition. -/
theorem door_met (os : Os) (args : Array Value) : laidMetH Tryd.prog [("psaltery/floor.places", Rows.laid_psaltery_floor_places)] ((World.doorLaid Tryd.prog 400 os).forCall (fun _ _ => 0) ⟨#[], args, []⟩).memory :=
  laidMetH_of_parts3 (fuel := 8) (laidMet_of_run' 8 (by kernel_rfl) (by kernel_rfl)) (by kernel_rfl) (by kernel_rfl)
set_option maxRecDepth 100000 in
theorem lifted (os : Os) (started : os.Started) (H : Type) (enc : TypeId × Value → H) :
    ReturnsInHanded {} Tryd.checked os 6 .any (fun w args => (Rows.floorThroughSpec.pre enc Tryd.prog Tryd.f6 [] false w args ∧ laidMetH Tryd.prog [("psaltery/floor.places", Rows.laid_psaltery_floor_places)] w) ∧ sizedMet enc Tryd.prog Tryd.f6 (OpenSpec.ofChange Rows.floorThroughSpec) false w args)
      (Rows.floorThroughSpec.post enc Tryd.prog Tryd.f6 false true false false) := by
  refine returnsInHanded_of_change_and (C := Tryd.checked) (X := fun w _ => laidMetH Tryd.prog [("psaltery/floor.places", Rows.laid_psaltery_floor_places)] w) (fun _ _ _ hh h => h.of_heap hh) own started (by kernel_rfl) Tryd.func6
    (ChangeSpec.witness_shaped (enc := enc) (C := Tryd.checked) (os := os) (X := fun w _ => laidMetH Tryd.prog [("psaltery/floor.places", Rows.laid_psaltery_floor_places)] w) false (World.doorLaid Tryd.prog 400 os) #[.slice none 0 0] 8 rfl (World.shaped_of_RefB (by kernel_rfl) (by kernel_rfl)) (by kernel_rfl) (by kernel_rfl) (by kernel_rfl) (door_met os _)) ?_
  intro W base args ds gs before hval0 hW _ _ hL _
  have hval : ∀ (j : Nat) t v, Tryd.f6.params[j]? = some t → args[j]? = some v → Value.okWide Tryd.prog W .any base t v := hval0
  have hW' := hW
  obtain ⟨p, q, hA0, hV, rfl, hfz, hnd⟩ := hW
  have hA : DataW.TrodAll enc Tryd.prog W 0 (fun _ => true) true Tryd.f6.params.toList args.toList ds p := hA0
  rw [Tryd.params6] at hA hval
  obtain ⟨v0, vs0, d0, ds0, p0, q0, hargs, rfl, rfl, h0, r0⟩ := trodAll_cons hA
  obtain ⟨rfl, rfl, rfl⟩ := trodAll_nil r0
  obtain rfl : args = #[v0] := by cases args; simp_all
  obtain ⟨rfl, rfl⟩ := trodVars_none hV
  have k0 := h0
  have lt0 : ∀ x ∈ p0, x.block < W.heap.size := by obtain ⟨m, hm⟩ := k0; exact DataW.trod_lt m _ _ _ hm
  obtain ⟨a0, len0, cap0, rfl⟩ := okWide_slice Tryd.underlying22 (hval 0 22 v0 rfl rfl)
  obtain ⟨z0, w0⟩ : ∃ zs, IsRow .i64 W a0 len0 cap0 zs := by
    obtain ⟨fuel, hf⟩ := h0
    obtain ⟨a', l', c', zs, he, hr⟩ := ints_of_trod Tryd.underlying22 Tryd.underlying3 (by kernel_rfl) (show DataW.trod enc Tryd.prog W 0 (fun _ => true) true fuel 22 [.slice a0 len0 cap0] = _ from hf)
    simp only [Value.slice.injEq] at he
    obtain ⟨rfl, rfl, rfl⟩ := he
    exact ⟨zs, hr⟩
  clear hA0 hval0
  have hlaid := wp_of_laid hL
  refine (walk a0 len0 cap0 z0 W w0 hlaid).mono fun e W' ⟨he, bel⟩ => ?_
  subst he
  exact ⟨_, rfl, _, _, _, [], _, [], hW', trodAll_mk1 (shut_bool Tryd.underlying4 _), (trodAll_cons_mk (Below.trod laidOut (by kernel_rfl) (of_decide_eq_true (by kernel_rfl)) k0 bel lt0) trodAll_mk0), rfl, bel.frame _, fun h => by cases h⟩

theorem over : Rows.floorThroughRow.holds Tryd.pinned (OpenSpec.ofChange Rows.floorThroughSpec) :=
  OpenClaim.holds_of_wide 6 Tryd.f6 rfl rfl rfl rfl rfl rfl rfl ⟨rfl, rfl, rfl, rfl, rfl⟩ rfl rfl rfl rfl rfl (by kernel_rfl) Tryd.func6 (by kernel_rfl)
    (of_decide_eq_true (by kernel_rfl)) (by unfold Func.isWrapper; first | (rw [if_pos (by decide +kernel)]; kernel_rfl) | (rw [if_neg (by decide +kernel)]; exact ⟨rfl, rfl⟩))
    (fun os started H enc _ => lifted os started H enc)

theorem proved : Rows.FloorThroughCardSaid :=
  Claim7.holds_tied_plain_at .later [] [.data] true (true, "5f5139c8d220193f437a2cd2ffaec1b4e19aa1dc59a741194b095f4b137c78d1") false
    over (fun _ h => by cases h) (by kernel_rfl) (fun _ h => by cases h) floorThrough_row_tie rfl ⟨rfl, rfl⟩ (by kernel_rfl) rfl
    (fun f fn hf hfn => by
      obtain rfl : f = 6 := Option.some.inj ((show Tryd.prog.funcNamed "psaltery/psalterylaw14.FloorThrough" = some 6 by kernel_rfl).symm.trans hf) |>.symm
      obtain rfl : fn = Tryd.f6 := (Option.some.inj (Tryd.func6.symm.trans hfn)).symm
      exact ⟨by kernel_rfl, fun j t ht => by
        rw [Tryd.params6] at ht
        have hm : t ∈ [22] := by simpa using Array.mem_of_getElem? ht
        have hall : ([22].all fun u => !Tryd.prog.wantsStandIn u) = true := by kernel_rfl
        exact (show Tryd.prog.wantsStandIn t = false by simpa using List.all_eq_true.1 hall t hm)⟩)
    (by kernel_rfl)
#print axioms proved
end Go.Proofs.YtgmikllbpaekfaaDoor.floorThrough
