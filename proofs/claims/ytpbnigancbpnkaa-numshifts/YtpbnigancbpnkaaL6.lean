/- The Go function of the statement NumShifts returns true at every input, and leaves each argument as it read. No condition. -/
import Derived.Test.YtpbnigancbpnkaaWg
import Derived.ProofKit
import Derived.OpenShut
import Derived.ShutString
import Derived.ChangeOld
import Derived.Lib.SmallJoins
namespace Go.Proofs.Ytpbnigancbpnkaa.numShifts
open Go.ChangeShapes Go.WideShapes Go.ChangeAt Go.RowKit Go.Joins
set_option linter.unusedVariables false
set_option linter.unusedSimpArgs false

theorem own : ownKnob Try.prog.godebug = none := by kernel_rfl
theorem laidOut : laidOutB Try.prog = true := by kernel_rfl

set_option maxRecDepth 10000 in
set_option maxHeartbeats 1000000 in
theorem walk (a0 : Int) (a1 : Int) (a2 : Int) (a3 : Int) (w : World) (w0 : (Lit.int .i64 a0).wf = true) (w1 : (Lit.int .i64 a1).wf = true) (w2 : (Lit.int .i64 a2).wf = true) (w3 : (Lit.int .i64 a3).wf = true) :
    Calls Try.prog 8 #[.int .i64 a0, .int .i64 a1, .int .i64 a2, .int .i64 a3] w fun e w' => e = .returned (.bool true) ∧ Below w.heap.size w w' := by
  have ha := i64_of w0
  have hb := i64_of w1
  have c1 := fun w => clampP_any a0 a2 a3 w
  have c2 := fun w => clampR_any a0 a2 a3 w
  generalize clampI a0 a2 a3 = z at *
  by_cases h1 : a1 < 0 ∨ 62 < a1
  · have s := fun w => shiftP_not a0 a1 h1 w
    by_cases h2 : a1 < 0
    · clear h1
      go_enter Try.func8, Try.ntmps8
      go_wp2_with (first | (go_at_call 18; refine (c1 _).mono ?_; rintro e w' ⟨rfl, rfl⟩) | (go_at_call 19; refine (c2 _).mono ?_; rintro e w' ⟨rfl, rfl⟩) | (go_at_call 20; refine (s _).mono ?_; rintro e w' ⟨rfl, rfl⟩) | (go_at_call 11; refine (knows_any _).mono ?_; rintro e wk ⟨rfl, hk⟩))
      go_ret
      exact ⟨rfl, hk⟩
    · have h3 : 62 < a1 := by omega
      clear h1
      go_enter Try.func8, Try.ntmps8
      go_wp2_with (first | (go_at_call 18; refine (c1 _).mono ?_; rintro e w' ⟨rfl, rfl⟩) | (go_at_call 19; refine (c2 _).mono ?_; rintro e w' ⟨rfl, rfl⟩) | (go_at_call 20; refine (s _).mono ?_; rintro e w' ⟨rfl, rfl⟩) | (go_at_call 11; refine (knows_any _).mono ?_; rintro e wk ⟨rfl, hk⟩))
      go_ret
      exact ⟨rfl, hk⟩
  · obtain ⟨n, rfl⟩ := Int.eq_ofNat_of_zero_le (show 0 ≤ a1 by omega)
    have hn : n ≤ 62 := by omega
    have s := fun w => shiftP_any a0 n ha hn w
    have t := fun w => shiftR_any a0 n ha hn w
    generalize a0 / 2 ^ n = x at *
    clear h1 w1 hb
    go_enter Try.func8, Try.ntmps8
    go_wp2_with (first | (go_at_call 18; refine (c1 _).mono ?_; rintro e w' ⟨rfl, rfl⟩) | (go_at_call 19; refine (c2 _).mono ?_; rintro e w' ⟨rfl, rfl⟩) | (go_at_call 20; refine (s _).mono ?_; rintro e w' ⟨rfl, rfl⟩) | (go_at_call 21; refine (t _).mono ?_; rintro e w' ⟨rfl, rfl⟩) | (go_at_call 11; refine (knows_any _).mono ?_; rintro e wk ⟨rfl, hk⟩))
    go_ret
    exact ⟨rfl, hk⟩

set_option maxRecDepth 100000 in
theorem lifted (os : Os) (started : os.Started) (H : Type) (enc : TypeId × Value → H) :
    ReturnsInHanded {} Try.checked os 8 .any (Rows.numShiftsSpec.pre6 enc Try.prog Try.f8 Rows.numShiftsRow.domain false) (Rows.numShiftsSpec.post enc Try.prog Try.f8 false true false false) := by
  refine returnsInHanded_of_change (C := Try.checked) own started (by kernel_rfl) Try.func8
    (ChangeSpec.witness6 (enc := enc) (C := Try.checked) false ⟨#[], #[.int .i64 0, .int .i64 0, .int .i64 0, .int .i64 0], []⟩ 8 (by kernel_rfl) (by kernel_rfl) (by kernel_rfl) (by kernel_rfl)) ?_
  intro W base args ds gs before hval0 hW hcnd _
  have hval : ∀ (j : Nat) t v, Try.f8.params[j]? = some t → args[j]? = some v → Value.okWide Try.prog W .any base t v := hval0
  have hW' := hW
  obtain ⟨p, q, hA0, hV, rfl, hfz, hnd⟩ := hW
  have hA : DataW.TrodAll enc Try.prog W 0 (fun _ => true) true Try.f8.params.toList args.toList ds p := hA0
  rw [Try.params8] at hA hval
  obtain ⟨v0, vs0, d0, ds0, p0, q0, hargs, rfl, rfl, h0, r0⟩ := trodAll_cons hA
  obtain ⟨v1, vs1, d1, ds1, p1, q1, rfl, rfl, rfl, h1, r1⟩ := trodAll_cons r0
  obtain ⟨v2, vs2, d2, ds2, p2, q2, rfl, rfl, rfl, h2, r2⟩ := trodAll_cons r1
  obtain ⟨v3, vs3, d3, ds3, p3, q3, rfl, rfl, rfl, h3, r3⟩ := trodAll_cons r2
  obtain ⟨rfl, rfl, rfl⟩ := trodAll_nil r3
  obtain rfl : args = #[v0, v1, v2, v3] := by cases args; simp_all
  obtain ⟨rfl, rfl⟩ := trodVars_none hV
  obtain ⟨a0, rfl, rfl, rfl, w0⟩ := open_int Try.underlying2 (hval 0 2 v0 rfl rfl) h0
  obtain ⟨a1, rfl, rfl, rfl, w1⟩ := open_int Try.underlying3 (hval 1 3 v1 rfl rfl) h1
  obtain ⟨a2, rfl, rfl, rfl, w2⟩ := open_int Try.underlying2 (hval 2 2 v2 rfl rfl) h2
  obtain ⟨a3, rfl, rfl, rfl, w3⟩ := open_int Try.underlying2 (hval 3 2 v3 rfl rfl) h3
  clear hA0 hval0
  refine (walk a0 a1 a2 a3 W w0 w1 w2 w3).mono fun e W' ⟨he, bel⟩ => ?_
  subst he
  exact ⟨_, rfl, _, _, _, [], _, [], hW', trodAll_mk1 (shut_bool Try.underlying4 _), (trodAll_cons_mk (shut_int Try.underlying2 w0) (trodAll_cons_mk (shut_int Try.underlying3 w1) (trodAll_cons_mk (shut_int Try.underlying2 w2) (trodAll_cons_mk (shut_int Try.underlying2 w3) trodAll_mk0)))), rfl, bel.frame _, fun h => by cases h⟩

theorem over : Rows.numShiftsRow.holds Try.pinned (OpenSpec.ofChange Rows.numShiftsSpec) :=
  OpenClaim.holds_of_wide 8 Try.f8 rfl rfl rfl rfl rfl rfl rfl ⟨rfl, rfl, rfl, rfl, rfl⟩ rfl rfl rfl rfl rfl (by kernel_rfl) Try.func8 (by kernel_rfl)
    (of_decide_eq_true (by kernel_rfl)) (by unfold Func.isWrapper; first | (rw [if_pos (by decide +kernel)]; kernel_rfl) | (rw [if_neg (by decide +kernel)]; exact ⟨rfl, rfl⟩))
    (fun os started H enc _ => lifted os started H enc)

theorem proved : Rows.NumShiftsSaid := over
#print axioms proved
end Go.Proofs.Ytpbnigancbpnkaa.numShifts
