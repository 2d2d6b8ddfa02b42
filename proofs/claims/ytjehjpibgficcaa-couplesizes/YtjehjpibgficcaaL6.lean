/- The Go function of the statement CoupleSizes returns true at every input, and leaves each argument as it read. No condition. -/
import Derived.Test.YtjehjpibgficcaaSf
import Derived.ProofKit
import Derived.OpenShut
import Derived.ShutString
import Derived.ChangeOld
import Derived.Lib.SmallJoins
namespace Go.Proofs.Ytjehjpibgficcaa.coupleSizes
open Go.ChangeShapes Go.WideShapes Go.ChangeAt Go.RowKit Go.Joins
set_option linter.unusedVariables false
set_option linter.unusedSimpArgs false

theorem own : ownKnob Try.prog.godebug = none := by kernel_rfl
theorem laidOut : laidOutB Try.prog = true := by kernel_rfl

set_option maxRecDepth 10000 in
set_option maxHeartbeats 2000000 in
theorem walk (a0 : Int) (a1 : Int) (w : World) (w0 : (Lit.int .i64 a0).wf = true) (w1 : (Lit.int .i64 a1).wf = true) :
    Calls Try.prog 8 #[.int .i64 a0, .int .i64 a1] w fun e w' => e = .returned (.bool true) ∧ Below w.heap.size w w' := by
  have hacc : Below w.heap.size w w := Below.refl _ _
  have h1 := fun w => cCouple_any a0 a1 w
  unfold Way.x Way.y Way.e at h1
  clear w0 w1
  cases c1 : frB a0 a1 1099511627776
  · have d1 : cWay.ok a0 a1 = false := c1
    simp only [d1, Bool.false_eq_true, if_false] at h1
    clear c1 d1
    go_enter Try.func8, Try.ntmps8
    go_wp2_with (first | (go_at_call 9; refine (h1 _).mono ?_; rintro e w1 ⟨rfl, hb1⟩; replace hacc := bthen' hacc hb1) | (go_at_call 13; refine (knows_any _).mono ?_; rintro e w9 ⟨rfl, hb9⟩; replace hacc := bthen' hacc hb9))
    go_ret
    exact ⟨rfl, hacc⟩
  · have d1 : cWay.ok a0 a1 = true := c1
    simp only [d1, if_true, show cWay.F = cM from rfl, show cWay.G = cA from rfl] at h1
    obtain ⟨⟨x0, x1⟩, y0, y1⟩ := frB_iff.1 c1
    obtain ⟨s1, s2, s3, s4, s5, s6⟩ := couple_sizes a0 a1
    clear c1 d1
    generalize cM a0 a1 = m at *
    generalize cA a0 a1 = a at *
    unfold sz at s2 s3 s4 s5
    by_cases e4 : a0 = a1
    · have e5 := s6 e4
      subst e5
      subst e4
      have em : m = a0 := by omega
      subst em
      clear s1 s6 s2 s3 s4 s5
      by_cases e1 : m < 0
      all_goals
        go_enter Try.func8, Try.ntmps8
        go_wp2_with (first | (go_at_call 9; refine (h1 _).mono ?_; rintro e w1 ⟨rfl, hb1⟩; replace hacc := bthen' hacc hb1) | (go_at_call 13; refine (knows_any _).mono ?_; rintro e w9 ⟨rfl, hb9⟩; replace hacc := bthen' hacc hb9))
        go_ret
        exact ⟨rfl, hacc⟩
    · have e5 : (a0 != a1) = true := by simpa using e4
      clear s6
      rcases s1 with em | em
      · subst em
        have e6 : (m == a1) = false := by simpa using e4
        by_cases e1 : m < 0 <;> by_cases e2 : a1 < 0 <;> simp only [e1, e2, if_true, if_false] at s2 s3 s4 s5
        all_goals
          go_enter Try.func8, Try.ntmps8
          go_wp2_with (first | (go_at_call 9; refine (h1 _).mono ?_; rintro e w1 ⟨rfl, hb1⟩; replace hacc := bthen' hacc hb1) | (go_at_call 13; refine (knows_any _).mono ?_; rintro e w9 ⟨rfl, hb9⟩; replace hacc := bthen' hacc hb9))
          go_ret
          exact ⟨rfl, hacc⟩
      · subst em
        have e6 : (m == a0) = false := by simpa using Ne.symm e4
        by_cases e1 : m < 0 <;> by_cases e2 : a0 < 0 <;> simp only [e1, e2, if_true, if_false] at s2 s3 s4 s5
        all_goals
          go_enter Try.func8, Try.ntmps8
          go_wp2_with (first | (go_at_call 9; refine (h1 _).mono ?_; rintro e w1 ⟨rfl, hb1⟩; replace hacc := bthen' hacc hb1) | (go_at_call 13; refine (knows_any _).mono ?_; rintro e w9 ⟨rfl, hb9⟩; replace hacc := bthen' hacc hb9))
          go_ret
          exact ⟨rfl, hacc⟩


set_option maxRecDepth 100000 in
theorem lifted (os : Os) (started : os.Started) (H : Type) (enc : TypeId × Value → H) :
    ReturnsInHanded {} Try.checked os 8 .any (Rows.coupleSizesSpec.pre6 enc Try.prog Try.f8 Rows.coupleSizesRow.domain false) (Rows.coupleSizesSpec.post enc Try.prog Try.f8 false true false false) := by
  refine returnsInHanded_of_change (C := Try.checked) own started (by kernel_rfl) Try.func8
    (ChangeSpec.witness6 (enc := enc) (C := Try.checked) false ⟨#[], #[.int .i64 0, .int .i64 0], []⟩ 8 (by kernel_rfl) (by kernel_rfl) (by kernel_rfl) (by kernel_rfl)) ?_
  intro W base args ds gs before hval0 hW hcnd _
  have hval : ∀ (j : Nat) t v, Try.f8.params[j]? = some t → args[j]? = some v → Value.okWide Try.prog W .any base t v := hval0
  have hW' := hW
  obtain ⟨p, q, hA0, hV, rfl, hfz, hnd⟩ := hW
  have hA : DataW.TrodAll enc Try.prog W 0 (fun _ => true) true Try.f8.params.toList args.toList ds p := hA0
  rw [Try.params8] at hA hval
  obtain ⟨v0, vs0, d0, ds0, p0, q0, hargs, rfl, rfl, h0, r0⟩ := trodAll_cons hA
  obtain ⟨v1, vs1, d1, ds1, p1, q1, rfl, rfl, rfl, h1, r1⟩ := trodAll_cons r0
  obtain ⟨rfl, rfl, rfl⟩ := trodAll_nil r1
  obtain rfl : args = #[v0, v1] := by cases args; simp_all
  obtain ⟨rfl, rfl⟩ := trodVars_none hV
  obtain ⟨a0, rfl, rfl, rfl, w0⟩ := open_int Try.underlying2 (hval 0 2 v0 rfl rfl) h0
  obtain ⟨a1, rfl, rfl, rfl, w1⟩ := open_int Try.underlying2 (hval 1 2 v1 rfl rfl) h1
  clear hA0 hval0
  refine (walk a0 a1 W w0 w1).mono fun e W' ⟨he, bel⟩ => ?_
  subst he
  exact ⟨_, rfl, _, _, _, [], _, [], hW', trodAll_mk1 (shut_bool Try.underlying4 _), (trodAll_cons_mk (shut_int Try.underlying2 w0) (trodAll_cons_mk (shut_int Try.underlying2 w1) trodAll_mk0)), rfl, bel.frame _, fun h => by cases h⟩

theorem over : Rows.coupleSizesRow.holds Try.pinned (OpenSpec.ofChange Rows.coupleSizesSpec) :=
  OpenClaim.holds_of_wide 8 Try.f8 rfl rfl rfl rfl rfl rfl rfl ⟨rfl, rfl, rfl, rfl, rfl⟩ rfl rfl rfl rfl rfl (by kernel_rfl) Try.func8 (by kernel_rfl)
    (of_decide_eq_true (by kernel_rfl)) (by unfold Func.isWrapper; first | (rw [if_pos (by decide +kernel)]; kernel_rfl) | (rw [if_neg (by decide +kernel)]; exact ⟨rfl, rfl⟩))
    (fun os started H enc _ => lifted os started H enc)

theorem proved : Rows.CoupleSizesSaid := over
#print axioms proved
end Go.Proofs.Ytjehjpibgficcaa.coupleSizes
