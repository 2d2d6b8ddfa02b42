/- The Go function of the statement CombCounts returns true at every input, and leaves each argument as it read. No condition. -/
import Derived.Test.YtfaoiophphofjaaEm
import Derived.ProofKit
import Derived.OpenShut
import Derived.ShutString
import Derived.ChangeOld
import Derived.Lib.SmallJoins
namespace Go.Proofs.Ytfaoiophphofjaa.combCounts
open Go.ChangeShapes Go.WideShapes Go.ChangeAt Go.RowKit Go.Joins
set_option linter.unusedVariables false
set_option linter.unusedSimpArgs false

theorem own : ownKnob Try.prog.godebug = none := by kernel_rfl
theorem laidOut : laidOutB Try.prog = true := by kernel_rfl

set_option maxRecDepth 10000 in
set_option maxHeartbeats 2000000 in
theorem walk (a0 : Int) (a1 : Int) (w : World) (w0 : (Lit.int .i64 a0).wf = true) (w1 : (Lit.int .i64 a1).wf = true) :
    Calls Try.prog 3 #[.int .i64 a0, .int .i64 a1] w fun e w' => e = .returned (.bool true) ∧ Below w.heap.size w w' := by
  cases hfair : fairB a0 a1
  · go_enter Try.func3, Try.ntmps3
    go_wp2_with (first | (go_at_call 10; refine (count_no _ _ _ hfair).mono ?_; rintro e w2 ⟨rfl, h2⟩; have h2 := h2.symm; subst h2) | (go_at_call 11; refine (cost_no _ _ _ hfair).mono ?_; rintro e w3 ⟨rfl, h3⟩; have h3 := h3.symm; subst h3) | (go_at_call 12; refine (fair_any _ _ _).mono ?_; rw [hfair]; rintro e wf ⟨rfl, hwf⟩; have hwf := hwf.symm; subst hwf) | (go_at_call 13; refine (knows_any _).mono ?_; rintro e w9 ⟨rfl, hb9⟩))
    go_ret
    exact ⟨rfl, hb9⟩
  obtain ⟨f1, f2, f3, f4⟩ : 1 ≤ a0 ∧ a0 ≤ 16 ∧ 0 ≤ a1 ∧ a1 ≤ 12 := of_decide_eq_true hfair
  obtain ⟨n, rfl⟩ := Int.eq_ofNat_of_zero_le (show 0 ≤ a0 by omega)
  obtain ⟨k, rfl⟩ := Int.eq_ofNat_of_zero_le f3
  have n1 : 1 ≤ n := by omega
  have n2 : n ≤ 16 := by omega
  have n3 : k ≤ 12 := by omega
  clear f1 f2 f3 f4 w0 w1
  obtain ⟨B, _, hBl, hc, hrc⟩ := costs
  have hC1 := fun w => count_any n k w n1 n2 n3
  have hC2 := fun w => rcount_any n k w n2 n3
  have hC3 := fun w => hc n k w n1 n2 n3
  have hC4 := fun w => hrc n k w n1 n2 n3
  generalize B (V n k - 1) = l at *
  generalize V n k = Y at *
  clear hc hrc hBl
  go_enter Try.func3, Try.ntmps3
  go_wp2_with (first | (go_at_call 10; refine (hC1 _).mono ?_; rintro e w2 ⟨rfl, hb2⟩) | (go_at_call 11; refine (hC3 _).mono ?_; rintro e w3 ⟨rfl, hb3⟩) | (go_at_call 12; refine (fair_any _ _ _).mono ?_; rw [hfair]; rintro e wf ⟨rfl, hwf⟩; have hwf := hwf.symm; subst hwf) | (go_at_call 14; refine (hC2 _).mono ?_; rintro e w4 ⟨rfl, hb4⟩) | (go_at_call 15; refine (hC4 _).mono ?_; rintro e w5 ⟨rfl, hb5⟩) | (go_at_call 13; refine (knows_any _).mono ?_; rintro e w9 ⟨rfl, hb9⟩))
  go_ret
  exact ⟨rfl, bthen' (bthen' hb2 hb3) (bthen' (bthen' hb4 hb5) hb9)⟩


set_option maxRecDepth 100000 in
theorem lifted (os : Os) (started : os.Started) (H : Type) (enc : TypeId × Value → H) :
    ReturnsInHanded {} Try.checked os 3 .any (Rows.combCountsSpec.pre6 enc Try.prog Try.f3 Rows.combCountsRow.domain false) (Rows.combCountsSpec.post enc Try.prog Try.f3 false true false false) := by
  refine returnsInHanded_of_change (C := Try.checked) own started (by kernel_rfl) Try.func3
    (ChangeSpec.witness6 (enc := enc) (C := Try.checked) false ⟨#[], #[.int .i64 0, .int .i64 0], []⟩ 8 (by kernel_rfl) (by kernel_rfl) (by kernel_rfl) (by kernel_rfl)) ?_
  intro W base args ds gs before hval0 hW hcnd _
  have hval : ∀ (j : Nat) t v, Try.f3.params[j]? = some t → args[j]? = some v → Value.okWide Try.prog W .any base t v := hval0
  have hW' := hW
  obtain ⟨p, q, hA0, hV, rfl, hfz, hnd⟩ := hW
  have hA : DataW.TrodAll enc Try.prog W 0 (fun _ => true) true Try.f3.params.toList args.toList ds p := hA0
  rw [Try.params3] at hA hval
  obtain ⟨v0, vs0, d0, ds0, p0, q0, hargs, rfl, rfl, h0, r0⟩ := trodAll_cons hA
  obtain ⟨v1, vs1, d1, ds1, p1, q1, rfl, rfl, rfl, h1, r1⟩ := trodAll_cons r0
  obtain ⟨rfl, rfl, rfl⟩ := trodAll_nil r1
  obtain rfl : args = #[v0, v1] := by cases args; simp_all
  obtain ⟨rfl, rfl⟩ := trodVars_none hV
  obtain ⟨a0, rfl, rfl, rfl, w0⟩ := open_int Try.underlying3 (hval 0 3 v0 rfl rfl) h0
  obtain ⟨a1, rfl, rfl, rfl, w1⟩ := open_int Try.underlying3 (hval 1 3 v1 rfl rfl) h1
  clear hA0 hval0
  refine (walk a0 a1 W w0 w1).mono fun e W' ⟨he, bel⟩ => ?_
  subst he
  exact ⟨_, rfl, _, _, _, [], _, [], hW', trodAll_mk1 (shut_bool Try.underlying4 _), (trodAll_cons_mk (shut_int Try.underlying3 w0) (trodAll_cons_mk (shut_int Try.underlying3 w1) trodAll_mk0)), rfl, bel.frame _, fun h => by cases h⟩

theorem over : Rows.combCountsRow.holds Try.pinned (OpenSpec.ofChange Rows.combCountsSpec) :=
  OpenClaim.holds_of_wide 3 Try.f3 rfl rfl rfl rfl rfl rfl rfl ⟨rfl, rfl, rfl, rfl, rfl⟩ rfl rfl rfl rfl rfl (by kernel_rfl) Try.func3 (by kernel_rfl)
    (of_decide_eq_true (by kernel_rfl)) (by unfold Func.isWrapper; first | (rw [if_pos (by decide +kernel)]; kernel_rfl) | (rw [if_neg (by decide +kernel)]; exact ⟨rfl, rfl⟩))
    (fun os started H enc _ => lifted os started H enc)

theorem proved : Rows.CombCountsSaid := over
#print axioms proved
end Go.Proofs.Ytfaoiophphofjaa.combCounts
