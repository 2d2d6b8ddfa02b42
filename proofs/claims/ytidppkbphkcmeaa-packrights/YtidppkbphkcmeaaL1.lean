/- The Go function of the statement PackRights returns true at every input, and leaves each argument as it read. No condition. -/
import Derived.Test.YtidppkbphkcmeaaZg
import Derived.ProofKit
import Derived.OpenShut
import Derived.ShutString
import Derived.ChangeOld
import Derived.Lib.SmallJoins
namespace Go.Proofs.Ytidppkbphkcmeaa.packRights
open Go.ChangeShapes Go.WideShapes Go.ChangeAt Go.RowKit Go.Joins
set_option linter.unusedVariables false
set_option linter.unusedSimpArgs false

theorem own : ownKnob Try.prog.godebug = none := by kernel_rfl
theorem laidOut : laidOutB Try.prog = true := by kernel_rfl

set_option maxRecDepth 10000 in
set_option maxHeartbeats 8000000 in
theorem walk (a0 : Int) (a1 : Int) (a3 : Bool) (a4 : Option Addr) (len4 cap4 : Nat) (z4 : List (List Int)) (a5 : Option Addr) (len5 cap5 : Nat) (z5 : List (List (List Int))) (w : World) (w0 : (Lit.int .i64 a0).wf = true) (w1 : (Lit.int .i64 a1).wf = true) (w4 : IsGrid w a4 len4 cap4 z4) (w5 : IsCube w a5 len5 cap5 z5) :
    Calls Try.prog 3 #[.int .i64 a0, .int .i64 a1, .agg #[.bool a3, .slice a4 len4 cap4, .slice a5 len5 cap5]] w fun e w' => e = .returned (.bool true) ∧ Below w.heap.size w w' := by
  have hpk : PkAt w a4 len4 cap4 z4 a5 len5 cap5 z5 := ⟨w4.len, w4.2.2, w4.1.weak, w5.len, w5.2.1, w5.1.weak, w5.2.2.2, w5.2.2.1⟩
  have hW := below1 w (.cells #[.bool a3, .slice a4 len4 cap4, .slice a5 len5 cap5] 25)
  have hB0 := B3.new w (.bool a3) (.slice a4 len4 cap4) (.slice a5 len5 cap5) 25
  obtain ⟨ez, e0, e1, e2, f0, f1, f2⟩ := id hB0
  have hgr := great_any a3 a4 len4 cap4 z4 a5 len5 cap5 z5 none 0 0 [] _ (hpk.below hW) rfl (by decide) (fr_none _)
  clear w0 w1 w4 w5
  cases hg : greatP z4 [] z5
  · rw [hg] at hgr
    have hsm := great_small hg
    have hlg := hpk.lg
    have hly := hpk.ly
    have hrr := fun W (h : Below w.heap.size w W) => cright_any a0 a1 a3 a4 len4 cap4 z4 a5 len5 cap5 z5 W (hpk.below h)
    have hrd := fun W (h : Below w.heap.size w W) => rrightP_any a0 a1 a3 a4 len4 cap4 z4 a5 len5 cap5 z5 W (hpk.below h) (by have := (wide_no hsm.g).1; omega) (fun i hi => by have := (wide_no hsm.g).2 i (by omega); omega) (fun i j hi hj => by have := (wide_no (hsm.ys i (by omega))).2 j hj; omega)
    generalize pkB a0 a1 z4 z5 = R at *
    clear hg hsm hlg hly
    go_enter Try.func3, Try.ntmps3
    go_upto_region 3 with (go_at_call 8; refine hgr.mono ?_; rintro e w1 ⟨rfl, hb1⟩)
    have hbw := bthen' hW hb1
    have E0 := cellQ ((hB0.below hb1).c0)
    have E1 := cellQ ((hB0.below hb1).c1)
    have E2 := cellQ ((hB0.below hb1).c2)
    have H1 := callQ (w := w1) (fun w' h => hrr w' (bthen' hbw h))
    have H2 := callQ (w := w1) (fun w' _ => as_any a3 (.slice a4 len4 cap4) (.slice a5 len5 cap5) ⟨_, _, _, rfl⟩ ⟨_, _, _, rfl⟩ w')
    have H3 := callQ (w := w1) (fun w' h => hrd w' (bthen' hbw h))
    have H4 := callQ (w := w1) (fun w' _ => knows_any w')
    have HBW := hid hbw
    have hRR : (R == R) = true := by cases R <;> rfl
    clear hrr hrd hb1 hW hbw ez e0 e1 e2 f0 f1 f2 hB0 hpk hgr
    go_wp2
    refine wp_region_quiet_below (by kernel_rfl) (by kernel_rfl) ?_
    repeat (go_big_quiet_step (first | (go_at_call 10; exact H1 _ _) | (go_at_call 12; exact H2 _ _) | (go_at_call 11; exact H3 _ _) | (go_at_call 9; exact H4 _ _)))
    refine wpQuiet_nil ?_
    intro _ hw'
    obtain ⟨⟨dq, osq⟩, hw''⟩ := hw'
    subst hw''
    go_wp2
    go_ret
    exact ⟨rfl, bthen' HBW.out (below_regrown w1 dq osq)⟩
  · rw [hg] at hgr
    clear hg hpk hB0
    go_enter Try.func3, Try.ntmps3
    go_wp2_with (first | (go_at_call 8; refine hgr.mono ?_; rintro e w1 ⟨rfl, hb1⟩) | (go_at_call 9; refine (knows_any _).mono ?_; rintro e wk ⟨rfl, hbk⟩))
    go_ret
    exact ⟨rfl, bthen' (bthen' hW hb1) hbk⟩


set_option maxRecDepth 100000 in
theorem lifted (os : Os) (started : os.Started) (H : Type) (enc : TypeId × Value → H) :
    ReturnsInHanded {} Try.checked os 3 .any (Rows.packRightsSpec.pre6 enc Try.prog Try.f3 Rows.packRightsRow.domain false) (Rows.packRightsSpec.post enc Try.prog Try.f3 false true false false) := by
  refine returnsInHanded_of_change (C := Try.checked) own started (by kernel_rfl) Try.func3
    (ChangeSpec.witness6 (enc := enc) (C := Try.checked) false ⟨#[], #[.int .i64 0, .int .i64 0, .agg #[.bool false, .slice none 0 0, .slice none 0 0]], []⟩ 8 (by kernel_rfl) (by kernel_rfl) (by kernel_rfl) (by kernel_rfl)) ?_
  intro W base args ds gs before hval0 hW hcnd _
  have hval : ∀ (j : Nat) t v, Try.f3.params[j]? = some t → args[j]? = some v → Value.okWide Try.prog W .any base t v := hval0
  have hW' := hW
  obtain ⟨p, q, hA0, hV, rfl, hfz, hnd⟩ := hW
  have hA : DataW.TrodAll enc Try.prog W 0 (fun _ => true) true Try.f3.params.toList args.toList ds p := hA0
  rw [Try.params3] at hA hval
  obtain ⟨v0, vs0, d0, ds0, p0, q0, hargs, rfl, rfl, h0, r0⟩ := trodAll_cons hA
  obtain ⟨v1, vs1, d1, ds1, p1, q1, rfl, rfl, rfl, h1, r1⟩ := trodAll_cons r0
  obtain ⟨v2, vs2, d2, ds2, p2, q2, rfl, rfl, rfl, h2, r2⟩ := trodAll_cons r1
  obtain ⟨rfl, rfl, rfl⟩ := trodAll_nil r2
  obtain rfl : args = #[v0, v1, v2] := by cases args; simp_all
  obtain ⟨rfl, rfl⟩ := trodVars_none hV
  obtain ⟨a0, rfl, rfl, rfl, w0⟩ := open_int Try.underlying3 (hval 0 3 v0 rfl rfl) h0
  obtain ⟨a1, rfl, rfl, rfl, w1⟩ := open_int Try.underlying3 (hval 1 3 v1 rfl rfl) h1
  have k2 := h2
  have lt2 : ∀ x ∈ p2, x.block < W.heap.size := by obtain ⟨m, hm⟩ := k2; exact DataW.trod_lt m _ _ _ hm
  obtain ⟨c20, c21, c22, y20, y21, y22, m2, rfl, hd2, hp2, hy20, hy21, hy22⟩ := open_agg3 Try.underlying25 (by kernel_rfl) (by kernel_rfl) (hval 2 25 v2 rfl rfl) h2
  clear hd2 hp2
  obtain ⟨a3, e3, _⟩ := DataW.trod_bool Try.underlying4 hy20
  simp only [List.cons.injEq, and_true] at e3
  subst e3
  obtain ⟨a4, len4, cap4, z4, e4, w4⟩ := grid_cell_of_trod Try.underlying22 Try.underlying46 Try.underlying3 (by kernel_rfl) (by kernel_rfl) hy21
  subst e4
  obtain ⟨a5, len5, cap5, z5, e5, w5⟩ := cube_cell_of_trod Try.underlying23 Try.underlying22 Try.underlying46 Try.underlying3 (by kernel_rfl) (by kernel_rfl) (by kernel_rfl) hy22
  subst e5
  clear hA0 hval0
  refine (walk a0 a1 a3 a4 len4 cap4 z4 a5 len5 cap5 z5 W w0 w1 w4 w5).mono fun e W' ⟨he, bel⟩ => ?_
  subst he
  exact ⟨_, rfl, _, _, _, [], _, [], hW', trodAll_mk1 (shut_bool Try.underlying4 _), (trodAll_cons_mk (shut_int Try.underlying3 w0) (trodAll_cons_mk (shut_int Try.underlying3 w1) (trodAll_cons_mk (Below.trod laidOut (by kernel_rfl) (of_decide_eq_true (by kernel_rfl)) k2 bel lt2) trodAll_mk0))), rfl, bel.frame _, fun h => by cases h⟩

theorem over : Rows.packRightsRow.holds Try.pinned (OpenSpec.ofChange Rows.packRightsSpec) :=
  OpenClaim.holds_of_wide 3 Try.f3 rfl rfl rfl rfl rfl rfl rfl ⟨rfl, rfl, rfl, rfl, rfl⟩ rfl rfl rfl rfl rfl (by kernel_rfl) Try.func3 (by kernel_rfl)
    (of_decide_eq_true (by kernel_rfl)) (by unfold Func.isWrapper; first | (rw [if_pos (by decide +kernel)]; kernel_rfl) | (rw [if_neg (by decide +kernel)]; exact ⟨rfl, rfl⟩))
    (fun os started H enc _ => lifted os started H enc)

theorem proved : Rows.PackRightsSaid := over
#print axioms proved
end Go.Proofs.Ytidppkbphkcmeaa.packRights
