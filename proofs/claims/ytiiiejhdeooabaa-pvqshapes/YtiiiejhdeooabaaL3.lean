/- The Go function of the statement PvqShapes returns true at every input, and leaves each argument as it read. No condition. -/
import Derived.Test.YtiiiejhdeooabaaFl
import Derived.ProofKit
import Derived.OpenShut
import Derived.ShutString
import Derived.ChangeOld
import Derived.Lib.SmallJoins
namespace Go.Proofs.Ytiiiejhdeooabaa.pvqShapes
open Go.ChangeShapes Go.WideShapes Go.ChangeAt Go.RowKit Go.Joins
set_option linter.unusedVariables false
set_option linter.unusedSimpArgs false

theorem own : ownKnob Try.prog.godebug = none := by kernel_rfl
theorem laidOut : laidOutB Try.prog = true := by kernel_rfl

set_option maxRecDepth 10000 in
set_option maxHeartbeats 2000000 in
theorem walk (a0 : Option Addr) (len0 cap0 : Nat) (z0 : List Int) (a1 : Int) (w : World) (w0 : IsRow .i64 w a0 len0 cap0 z0) (w1 : (Lit.int .i64 a1).wf = true) :
    Calls Try.prog 5 #[.slice a0 len0 cap0, .int .i64 a1] w fun e w' => e = .returned (.bool true) ∧ Below w.heap.size w w' := by
  obtain ⟨y, rfl, hv, hwf⟩ := row_rw_any w0
  have hf := fits_of hwf
  clear hwf w0
  by_cases hg : 100 < y.length
  · have hg2 : (100 : Int) < y.length := by omega
    go_enter Try.func5, Try.ntmps5
    go_wp2_with (go_at_call 9; refine (knows_any _).mono ?_; rintro e w9 ⟨rfl, hb9⟩)
    go_ret
    exact ⟨rfl, hb9⟩
  have hg2 : (y.length : Int) ≤ 100 := by omega
  have hr64 := i64_of w1
  unfold I64 at hr64
  obtain ⟨hr1, hr2⟩ := hr64
  clear w1
  by_cases h1 : y.length < 1
  · have hok : okB y = false := by unfold okB; rw [decide_eq_false_iff_not]; omega
    have i1 : (y.length : Int) < 1 := by omega
    go_enter Try.func5, Try.ntmps5
    go_wp2_with (first | (go_at_call 16; refine (shape_no _ y _ _ hv hf (.inl hok)).mono ?_; rintro e w2 ⟨rfl, hb2⟩) | (go_at_call 9; refine (knows_any _).mono ?_; rintro e w9 ⟨rfl, hb9⟩))
    go_ret
    exact ⟨rfl, bthen' hb2 hb9⟩
  by_cases h2 : 16 < y.length
  · have hok : okB y = false := by unfold okB; rw [decide_eq_false_iff_not]; omega
    have i1 : ¬ (y.length : Int) < 1 := by omega
    have i2 : (16 : Int) < (y.length : Int) := by omega
    go_enter Try.func5, Try.ntmps5
    go_wp2_with (first | (go_at_call 16; refine (shape_no _ y _ _ hv hf (.inl hok)).mono ?_; rintro e w2 ⟨rfl, hb2⟩) | (go_at_call 9; refine (knows_any _).mono ?_; rintro e w9 ⟨rfl, hb9⟩))
    go_ret
    exact ⟨rfl, bthen' hb2 hb9⟩
  have i1 : ¬ ((y.length : Int) < 1) := by omega
  have i2 : ¬ ((16 : Int) < (y.length : Int)) := by omega
  have hpul := fun w hv => rpulses_any (.slice a0 y.length cap0) y w hv hf (by omega)
  by_cases h3 : 12 < ps y
  · have hok : okB y = false := by unfold okB; rw [decide_eq_false_iff_not]; omega
    have h3 := rps_no y h3
    generalize rps y = z at *
    have i3 : (12 : Int) < (z : Int) := by omega
    go_enter Try.func5, Try.ntmps5
    go_wp2_with (first | (go_at_call 16; refine (shape_no _ y _ _ hv hf (.inl hok)).mono ?_; rintro e w2 ⟨rfl, hb2⟩) | (go_at_call 17; refine (hpul _ (hv.below hb2)).mono ?_; rintro e w3 ⟨rfl, h3⟩; have h3 := h3.symm; subst h3) | (go_at_call 9; refine (knows_any _).mono ?_; rintro e w9 ⟨rfl, hb9⟩))
    go_ret
    exact ⟨rfl, bthen' hb2 hb9⟩
  have hok : okB y = true := by unfold okB; rw [decide_eq_true_eq]; omega
  rw [rps_ok y (by omega)] at hpul
  obtain ⟨s, hs⟩ := root_any (65536 * sq y y.length)
  by_cases h4 : a1 < 0
  · generalize ps y = z at *
    have i3 : ¬ ((12 : Int) < (z : Int)) := by omega
    go_enter Try.func5, Try.ntmps5
    go_wp2_with (first | (go_at_call 16; refine (shape_no _ y _ _ hv hf (.inr (.inl h4))).mono ?_; rintro e w2 ⟨rfl, hb2⟩) | (go_at_call 17; refine (hpul _ (hv.below hb2)).mono ?_; rintro e w3 ⟨rfl, h3⟩; have h3 := h3.symm; subst h3) | (go_at_call 9; refine (knows_any _).mono ?_; rintro e w9 ⟨rfl, hb9⟩))
    go_ret
    exact ⟨rfl, bthen' hb2 hb9⟩
  by_cases h5 : 4194304 < a1
  · generalize ps y = z at *
    have i3 : ¬ ((12 : Int) < (z : Int)) := by omega
    go_enter Try.func5, Try.ntmps5
    go_wp2_with (first | (go_at_call 16; refine (shape_no _ y _ _ hv hf (.inr (.inr h5))).mono ?_; rintro e w2 ⟨rfl, hb2⟩) | (go_at_call 17; refine (hpul _ (hv.below hb2)).mono ?_; rintro e w3 ⟨rfl, h3⟩; have h3 := h3.symm; subst h3) | (go_at_call 9; refine (knows_any _).mono ?_; rintro e w9 ⟨rfl, hb9⟩))
    go_ret
    exact ⟨rfl, bthen' hb2 hb9⟩
  have hlen : Hid ((tab y.length (shf y a1 s)).length = y.length) := tab_len _ _
  have hC1 := fun w hv => shape_ok (.slice a0 y.length cap0) y a1 s w hv hf hok (by omega) (by omega) hs
  have hC2 := fun w hv => rshape_any (.slice a0 y.length cap0) y a1 s w hv hok (by omega) (by omega) hs
  generalize tab y.length (shf y a1 s) = Y at *
  generalize ps y = z at *
  have i3 : ¬ ((12 : Int) < (z : Int)) := by omega
  clear hs hok
  go_enter Try.func5, Try.ntmps5
  go_wp2_with (first | (go_at_call 16; refine (hC1 _ hv).mono ?_; rintro e w2 ⟨g2, rfl, _, hr2, hb2⟩; have HR2 := hid hr2; clear hr2) | (go_at_call 17; refine (hpul _ (hv.below hb2)).mono ?_; rintro e w3 ⟨rfl, h3⟩; have h3 := h3.symm; subst h3) | (go_at_call 19; refine (hC2 _ (hv.below hb2)).mono ?_; rintro e w4 ⟨v4, rfl, hr4, hb4⟩; have HR4 := hid hr4; clear hr4) | (go_at_call 18; refine (same64_yes _ _ Y _ ((HR2.out.rw hlen.out).below hb4) HR4.out (by have := hlen.out; omega)).mono ?_; rintro e w5 ⟨rfl, hb5⟩) | (go_at_call 9; refine (knows_any _).mono ?_; rintro e w9 ⟨rfl, hb9⟩))
  go_ret
  exact ⟨rfl, bthen' (bthen' hb2 hb4) (bthen' hb5 hb9)⟩


set_option maxRecDepth 100000 in
theorem lifted (os : Os) (started : os.Started) (H : Type) (enc : TypeId × Value → H) :
    ReturnsInHanded {} Try.checked os 5 .any (Rows.pvqShapesSpec.pre6 enc Try.prog Try.f5 Rows.pvqShapesRow.domain false) (Rows.pvqShapesSpec.post enc Try.prog Try.f5 false true false false) := by
  refine returnsInHanded_of_change (C := Try.checked) own started (by kernel_rfl) Try.func5
    (ChangeSpec.witness6 (enc := enc) (C := Try.checked) false ⟨#[], #[.slice none 0 0, .int .i64 0], []⟩ 8 (by kernel_rfl) (by kernel_rfl) (by kernel_rfl) (by kernel_rfl)) ?_
  intro W base args ds gs before hval0 hW hcnd _
  have hval : ∀ (j : Nat) t v, Try.f5.params[j]? = some t → args[j]? = some v → Value.okWide Try.prog W .any base t v := hval0
  have hW' := hW
  obtain ⟨p, q, hA0, hV, rfl, hfz, hnd⟩ := hW
  have hA : DataW.TrodAll enc Try.prog W 0 (fun _ => true) true Try.f5.params.toList args.toList ds p := hA0
  rw [Try.params5] at hA hval
  obtain ⟨v0, vs0, d0, ds0, p0, q0, hargs, rfl, rfl, h0, r0⟩ := trodAll_cons hA
  obtain ⟨v1, vs1, d1, ds1, p1, q1, rfl, rfl, rfl, h1, r1⟩ := trodAll_cons r0
  obtain ⟨rfl, rfl, rfl⟩ := trodAll_nil r1
  obtain rfl : args = #[v0, v1] := by cases args; simp_all
  obtain ⟨rfl, rfl⟩ := trodVars_none hV
  have k0 := h0
  have lt0 : ∀ x ∈ p0, x.block < W.heap.size := by obtain ⟨m, hm⟩ := k0; exact DataW.trod_lt m _ _ _ hm
  obtain ⟨a0, len0, cap0, rfl⟩ := okWide_slice Try.underlying30 (hval 0 30 v0 rfl rfl)
  obtain ⟨z0, w0⟩ : ∃ zs, IsRow .i64 W a0 len0 cap0 zs := by
    obtain ⟨fuel, hf⟩ := h0
    obtain ⟨a', l', c', zs, he, hr⟩ := ints_of_trod Try.underlying30 Try.underlying3 (by kernel_rfl) (show DataW.trod enc Try.prog W 0 (fun _ => true) true fuel 30 [.slice a0 len0 cap0] = _ from hf)
    simp only [Value.slice.injEq] at he
    obtain ⟨rfl, rfl, rfl⟩ := he
    exact ⟨zs, hr⟩
  obtain ⟨a1, rfl, rfl, rfl, w1⟩ := open_int Try.underlying2 (hval 1 2 v1 rfl rfl) h1
  clear hA0 hval0
  refine (walk a0 len0 cap0 z0 a1 W w0 w1).mono fun e W' ⟨he, bel⟩ => ?_
  subst he
  exact ⟨_, rfl, _, _, _, [], _, [], hW', trodAll_mk1 (shut_bool Try.underlying4 _), (trodAll_cons_mk (Below.trod laidOut (by kernel_rfl) (of_decide_eq_true (by kernel_rfl)) k0 bel lt0) (trodAll_cons_mk (shut_int Try.underlying2 w1) trodAll_mk0)), rfl, bel.frame _, fun h => by cases h⟩

theorem over : Rows.pvqShapesRow.holds Try.pinned (OpenSpec.ofChange Rows.pvqShapesSpec) :=
  OpenClaim.holds_of_wide 5 Try.f5 rfl rfl rfl rfl rfl rfl rfl ⟨rfl, rfl, rfl, rfl, rfl⟩ rfl rfl rfl rfl rfl (by kernel_rfl) Try.func5 (by kernel_rfl)
    (of_decide_eq_true (by kernel_rfl)) (by unfold Func.isWrapper; first | (rw [if_pos (by decide +kernel)]; kernel_rfl) | (rw [if_neg (by decide +kernel)]; exact ⟨rfl, rfl⟩))
    (fun os started H enc _ => lifted os started H enc)

theorem proved : Rows.PvqShapesSaid := over
#print axioms proved
end Go.Proofs.Ytiiiejhdeooabaa.pvqShapes
