/- The Go function of the statement NumRoots returns true at every input, and leaves each argument as it read. No condition. -/
import Derived.Test.YtpbnigancbpnkaaWg
import Derived.ProofKit
import Derived.OpenShut
import Derived.ShutString
import Derived.ChangeOld
import Derived.Lib.SmallJoins
namespace Go.Proofs.Ytpbnigancbpnkaa.numRoots
open Go.ChangeShapes Go.WideShapes Go.ChangeAt Go.RowKit Go.Joins
set_option linter.unusedVariables false
set_option linter.unusedSimpArgs false

theorem own : ownKnob Try.prog.godebug = none := by kernel_rfl
theorem laidOut : laidOutB Try.prog = true := by kernel_rfl

set_option maxRecDepth 10000 in
set_option maxHeartbeats 1000000 in
theorem walk (a0 : Int) (a1 : Int) (w : World) (w0 : (Lit.int .u64 a0).wf = true) (w1 : (Lit.int .u64 a1).wf = true) :
    Calls Try.prog 3 #[.int .u64 a0, .int .u64 a1] w fun e w' => e = .returned (.bool true) ∧ Below w.heap.size w w' := by
  obtain ⟨n, rfl, hn⟩ := u64_nat w0
  obtain ⟨m, rfl, hm⟩ := u64_nat w1
  by_cases hnm : m < n
  · go_enter Try.func3, Try.ntmps3
    go_wp2_with (first | (go_at_call_of 9 (Value.int .u64 (n : Int)); refine (sqrtP_any n hn _).mono ?_; rintro e w' ⟨r, rfl, rfl, hr, hr1⟩; have hr : Hid _ := hr) | (go_at_call_of 9 (Value.int .u64 (m : Int)); refine (sqrtP_any m hm _).mono ?_; rintro e w' ⟨s, rfl, rfl, hs, hs1⟩; have hs : Hid _ := hs) | (go_at_call 10; refine (sqrtR_any n hn _).mono ?_; rintro e w' ⟨r2, rfl, rfl, hr2, hr3⟩; obtain rfl := Root.one hr.out hr2) | (go_at_call 11; refine (knows_any _).mono ?_; rintro e wk ⟨rfl, hk⟩))
    go_ret
    exact ⟨rfl, hk⟩
  · go_enter Try.func3, Try.ntmps3
    go_wp2_with (first | (go_at_call_of 9 (Value.int .u64 (n : Int)); refine (sqrtP_any n hn _).mono ?_; rintro e w' ⟨r, rfl, rfl, hr, hr1⟩) | (go_at_call_of 9 (Value.int .u64 (m : Int)); refine (sqrtP_any m hm _).mono ?_; rintro e w' ⟨s, rfl, rfl, hs, hs1⟩; have hrs : r ≤ s := hr.mono hs (by omega)) | (go_at_call 10; refine (sqrtR_any n hn _).mono ?_; rintro e w' ⟨r2, rfl, rfl, hr2, hr3⟩; obtain rfl := Root.one hr hr2) | (go_at_call 11; refine (knows_any _).mono ?_; rintro e wk ⟨rfl, hk⟩))
    go_ret
    exact ⟨rfl, hk⟩

set_option maxRecDepth 100000 in
theorem lifted (os : Os) (started : os.Started) (H : Type) (enc : TypeId × Value → H) :
    ReturnsInHanded {} Try.checked os 3 .any (Rows.numRootsSpec.pre6 enc Try.prog Try.f3 Rows.numRootsRow.domain false) (Rows.numRootsSpec.post enc Try.prog Try.f3 false true false false) := by
  refine returnsInHanded_of_change (C := Try.checked) own started (by kernel_rfl) Try.func3
    (ChangeSpec.witness6 (enc := enc) (C := Try.checked) false ⟨#[], #[.int .u64 0, .int .u64 0], []⟩ 8 (by kernel_rfl) (by kernel_rfl) (by kernel_rfl) (by kernel_rfl)) ?_
  intro W base args ds gs before hval0 hW hcnd _
  have hval : ∀ (j : Nat) t v, Try.f3.params[j]? = some t → args[j]? = some v → Value.okWide Try.prog W .any base t v := hval0
  have hW' := hW
  obtain ⟨p, q, hA0, hV, rfl, hfz, hnd⟩ := hW
  have hA : DataW.TrodAll enc Try.prog W 0 (fun _ => true) true Try.f3.params.toList args.toList ds p := hA0
  rw [Try.params3] at hA hval
  obtain ⟨v0, vs0, d0, ds0, p0, q0, hargs, rfl, rfl, h0, r0⟩ := trodAll_cons hA
  obtain ⟨v1, vs1, d1, ds1, p1, q1, rfl, rfl, rfl, h1, r1⟩ := trodAll_cons r0
  obtain ⟨rfl, rfl, rfl⟩ := trodAll_nil r1
  obtain rfl : args = #[v0, v1] := by cases args; simp_all
  obtain ⟨rfl, rfl⟩ := trodVars_none hV
  obtain ⟨a0, rfl, rfl, rfl, w0⟩ := open_int Try.underlying22 (hval 0 22 v0 rfl rfl) h0
  obtain ⟨a1, rfl, rfl, rfl, w1⟩ := open_int Try.underlying22 (hval 1 22 v1 rfl rfl) h1
  clear hA0 hval0
  refine (walk a0 a1 W w0 w1).mono fun e W' ⟨he, bel⟩ => ?_
  subst he
  exact ⟨_, rfl, _, _, _, [], _, [], hW', trodAll_mk1 (shut_bool Try.underlying4 _), (trodAll_cons_mk (shut_int Try.underlying22 w0) (trodAll_cons_mk (shut_int Try.underlying22 w1) trodAll_mk0)), rfl, bel.frame _, fun h => by cases h⟩

theorem over : Rows.numRootsRow.holds Try.pinned (OpenSpec.ofChange Rows.numRootsSpec) :=
  OpenClaim.holds_of_wide 3 Try.f3 rfl rfl rfl rfl rfl rfl rfl ⟨rfl, rfl, rfl, rfl, rfl⟩ rfl rfl rfl rfl rfl (by kernel_rfl) Try.func3 (by kernel_rfl)
    (of_decide_eq_true (by kernel_rfl)) (by unfold Func.isWrapper; first | (rw [if_pos (by decide +kernel)]; kernel_rfl) | (rw [if_neg (by decide +kernel)]; exact ⟨rfl, rfl⟩))
    (fun os started H enc _ => lifted os started H enc)

theorem proved : Rows.NumRootsSaid := over
#print axioms proved
end Go.Proofs.Ytpbnigancbpnkaa.numRoots
