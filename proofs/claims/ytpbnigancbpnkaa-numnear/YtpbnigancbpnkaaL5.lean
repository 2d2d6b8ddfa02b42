/- The Go function of the statement NumNear returns true at every input, and leaves each argument as it read. No condition. -/
import Derived.Test.YtpbnigancbpnkaaWg
import Derived.ProofKit
import Derived.OpenShut
import Derived.ShutString
import Derived.ChangeOld
import Derived.Lib.SmallJoins
namespace Go.Proofs.Ytpbnigancbpnkaa.numNear
open Go.ChangeShapes Go.WideShapes Go.ChangeAt Go.RowKit Go.Joins
set_option linter.unusedVariables false
set_option linter.unusedSimpArgs false

theorem own : ownKnob Try.prog.godebug = none := by kernel_rfl
theorem laidOut : laidOutB Try.prog = true := by kernel_rfl

set_option maxRecDepth 10000 in
set_option maxHeartbeats 1000000 in
theorem walk (a0 : Int) (a1 : Int) (a2 : Int) (w : World) (w0 : (Lit.int .i64 a0).wf = true) (w1 : (Lit.int .i64 a1).wf = true) (w2 : (Lit.int .i64 a2).wf = true) :
    Calls Try.prog 7 #[.int .i64 a0, .int .i64 a1, .int .i64 a2] w fun e w' => e = .returned (.bool true) ∧ Below w.heap.size w w' := by
  have ha := i64_of w0
  have hc := i64_of w1
  have hb := i64_of w2
  by_cases o1 : a2 < 1
  · go_enter Try.func7, Try.ntmps7
    go_wp2_with (first | (go_at_call 11; refine (knows_any _).mono ?_; rintro e wk ⟨rfl, hk⟩))
    go_ret
    exact ⟨rfl, hk⟩
  by_cases o2 : 1152921504606846976 < a2
  · go_enter Try.func7, Try.ntmps7
    go_wp2_with (first | (go_at_call 11; refine (knows_any _).mono ?_; rintro e wk ⟨rfl, hk⟩))
    go_ret
    exact ⟨rfl, hk⟩
  by_cases o3 : a0 < -1152921504606846976
  · go_enter Try.func7, Try.ntmps7
    go_wp2_with (first | (go_at_call 11; refine (knows_any _).mono ?_; rintro e wk ⟨rfl, hk⟩))
    go_ret
    exact ⟨rfl, hk⟩
  by_cases o4 : 1152921504606846976 < a0
  · go_enter Try.func7, Try.ntmps7
    go_wp2_with (first | (go_at_call 11; refine (knows_any _).mono ?_; rintro e wk ⟨rfl, hk⟩))
    go_ret
    exact ⟨rfl, hk⟩
  by_cases o5 : a1 < -1152921504606846976
  · go_enter Try.func7, Try.ntmps7
    go_wp2_with (first | (go_at_call 11; refine (knows_any _).mono ?_; rintro e wk ⟨rfl, hk⟩))
    go_ret
    exact ⟨rfl, hk⟩
  by_cases o6 : 1152921504606846976 < a1
  · go_enter Try.func7, Try.ntmps7
    go_wp2_with (first | (go_at_call 11; refine (knows_any _).mono ?_; rintro e wk ⟨rfl, hk⟩))
    go_ret
    exact ⟨rfl, hk⟩
  have p := fun w => divP_any a0 a2 ha (by omega) hb w
  have q := fun w => divP_any a1 a2 hc (by omega) hb w
  obtain ⟨n1, n2⟩ := near_near a0 a2 (by omega)
  have mono : a0 ≤ a1 → near a0 a2 ≤ near a1 a2 := near_mono a0 a1 a2 (by omega)
  generalize near a0 a2 = x at *
  generalize near a1 a2 = y at *
  obtain ⟨P, hP⟩ : ∃ P, x * a2 = P := ⟨_, rfl⟩
  rw [hP] at n1 n2
  have x1 : I64 x := by
    unfold I64
    have hz : x = 0 ∨ 1 ≤ x ∨ x ≤ -1 := by omega
    rcases hz with hz | hz | hz
    · omega
    · have : x * 1 ≤ x * a2 := Int.mul_le_mul_of_nonneg_left (by omega) (by omega)
      omega
    · have : x * a2 ≤ x * 1 := Int.mul_le_mul_of_nonpos_left (by omega) (by omega)
      omega
  unfold I64 at x1
  clear ha hc hb w0 w1 w2
  by_cases h1 : a1 < a0
  · clear mono
    by_cases h2 : a0 - P < 0
    · go_enter Try.func7, Try.ntmps7
      go_wp2_with (first | (go_at_call_of 16 (Value.int .i64 a0); refine (p _).mono ?_; rintro e wa ⟨rfl, h3⟩) | (go_at_call_of 16 (Value.int .i64 a1); refine (q _).mono ?_; rintro e wb ⟨rfl, h4⟩) | (go_at_call 11; refine (knows_any _).mono ?_; rintro e wk ⟨rfl, hk⟩))
      go_ret
      exact ⟨rfl, bthen (bthen h3 h4 h3.size) hk (Nat.le_trans h3.size h4.size)⟩
    · go_enter Try.func7, Try.ntmps7
      go_wp2_with (first | (go_at_call_of 16 (Value.int .i64 a0); refine (p _).mono ?_; rintro e wa ⟨rfl, h3⟩) | (go_at_call_of 16 (Value.int .i64 a1); refine (q _).mono ?_; rintro e wb ⟨rfl, h4⟩) | (go_at_call 11; refine (knows_any _).mono ?_; rintro e wk ⟨rfl, hk⟩))
      go_ret
      exact ⟨rfl, bthen (bthen h3 h4 h3.size) hk (Nat.le_trans h3.size h4.size)⟩
  · have hxy := mono (by omega)
    clear mono
    by_cases h2 : a0 - P < 0
    · go_enter Try.func7, Try.ntmps7
      go_wp2_with (first | (go_at_call_of 16 (Value.int .i64 a0); refine (p _).mono ?_; rintro e wa ⟨rfl, h3⟩) | (go_at_call_of 16 (Value.int .i64 a1); refine (q _).mono ?_; rintro e wb ⟨rfl, h4⟩) | (go_at_call 11; refine (knows_any _).mono ?_; rintro e wk ⟨rfl, hk⟩))
      go_ret
      exact ⟨rfl, bthen (bthen h3 h4 h3.size) hk (Nat.le_trans h3.size h4.size)⟩
    · go_enter Try.func7, Try.ntmps7
      go_wp2_with (first | (go_at_call_of 16 (Value.int .i64 a0); refine (p _).mono ?_; rintro e wa ⟨rfl, h3⟩) | (go_at_call_of 16 (Value.int .i64 a1); refine (q _).mono ?_; rintro e wb ⟨rfl, h4⟩) | (go_at_call 11; refine (knows_any _).mono ?_; rintro e wk ⟨rfl, hk⟩))
      go_ret
      exact ⟨rfl, bthen (bthen h3 h4 h3.size) hk (Nat.le_trans h3.size h4.size)⟩

set_option maxRecDepth 100000 in
theorem lifted (os : Os) (started : os.Started) (H : Type) (enc : TypeId × Value → H) :
    ReturnsInHanded {} Try.checked os 7 .any (Rows.numNearSpec.pre6 enc Try.prog Try.f7 Rows.numNearRow.domain false) (Rows.numNearSpec.post enc Try.prog Try.f7 false true false false) := by
  refine returnsInHanded_of_change (C := Try.checked) own started (by kernel_rfl) Try.func7
    (ChangeSpec.witness6 (enc := enc) (C := Try.checked) false ⟨#[], #[.int .i64 0, .int .i64 0, .int .i64 0], []⟩ 8 (by kernel_rfl) (by kernel_rfl) (by kernel_rfl) (by kernel_rfl)) ?_
  intro W base args ds gs before hval0 hW hcnd _
  have hval : ∀ (j : Nat) t v, Try.f7.params[j]? = some t → args[j]? = some v → Value.okWide Try.prog W .any base t v := hval0
  have hW' := hW
  obtain ⟨p, q, hA0, hV, rfl, hfz, hnd⟩ := hW
  have hA : DataW.TrodAll enc Try.prog W 0 (fun _ => true) true Try.f7.params.toList args.toList ds p := hA0
  rw [Try.params7] at hA hval
  obtain ⟨v0, vs0, d0, ds0, p0, q0, hargs, rfl, rfl, h0, r0⟩ := trodAll_cons hA
  obtain ⟨v1, vs1, d1, ds1, p1, q1, rfl, rfl, rfl, h1, r1⟩ := trodAll_cons r0
  obtain ⟨v2, vs2, d2, ds2, p2, q2, rfl, rfl, rfl, h2, r2⟩ := trodAll_cons r1
  obtain ⟨rfl, rfl, rfl⟩ := trodAll_nil r2
  obtain rfl : args = #[v0, v1, v2] := by cases args; simp_all
  obtain ⟨rfl, rfl⟩ := trodVars_none hV
  obtain ⟨a0, rfl, rfl, rfl, w0⟩ := open_int Try.underlying2 (hval 0 2 v0 rfl rfl) h0
  obtain ⟨a1, rfl, rfl, rfl, w1⟩ := open_int Try.underlying2 (hval 1 2 v1 rfl rfl) h1
  obtain ⟨a2, rfl, rfl, rfl, w2⟩ := open_int Try.underlying2 (hval 2 2 v2 rfl rfl) h2
  clear hA0 hval0
  refine (walk a0 a1 a2 W w0 w1 w2).mono fun e W' ⟨he, bel⟩ => ?_
  subst he
  exact ⟨_, rfl, _, _, _, [], _, [], hW', trodAll_mk1 (shut_bool Try.underlying4 _), (trodAll_cons_mk (shut_int Try.underlying2 w0) (trodAll_cons_mk (shut_int Try.underlying2 w1) (trodAll_cons_mk (shut_int Try.underlying2 w2) trodAll_mk0))), rfl, bel.frame _, fun h => by cases h⟩

theorem over : Rows.numNearRow.holds Try.pinned (OpenSpec.ofChange Rows.numNearSpec) :=
  OpenClaim.holds_of_wide 7 Try.f7 rfl rfl rfl rfl rfl rfl rfl ⟨rfl, rfl, rfl, rfl, rfl⟩ rfl rfl rfl rfl rfl (by kernel_rfl) Try.func7 (by kernel_rfl)
    (of_decide_eq_true (by kernel_rfl)) (by unfold Func.isWrapper; first | (rw [if_pos (by decide +kernel)]; kernel_rfl) | (rw [if_neg (by decide +kernel)]; exact ⟨rfl, rfl⟩))
    (fun os started H enc _ => lifted os started H enc)

theorem proved : Rows.NumNearSaid := over
#print axioms proved
end Go.Proofs.Ytpbnigancbpnkaa.numNear
