/- The Go function of the statement PvqFinds returns true at every input, and leaves each argument as it read. No condition. -/
import Derived.Test.YtiiiejhdeooabaaFl
import Derived.ProofKit
import Derived.OpenShut
import Derived.ShutString
import Derived.ChangeOld
import Derived.Lib.SmallJoins
namespace Go.Proofs.Ytiiiejhdeooabaa.pvqFinds
open Go.ChangeShapes Go.WideShapes Go.ChangeAt Go.RowKit Go.Joins
set_option linter.unusedVariables false
set_option linter.unusedSimpArgs false

theorem own : ownKnob Try.prog.godebug = none := by kernel_rfl
theorem laidOut : laidOutB Try.prog = true := by kernel_rfl

set_option maxRecDepth 10000 in
set_option maxHeartbeats 2000000 in
theorem walk (a0 : Option Addr) (len0 cap0 : Nat) (z0 : List Int) (a1 : Int) (w : World) (w0 : IsRow .i64 w a0 len0 cap0 z0) (w1 : (Lit.int .i64 a1).wf = true) :
    Calls Try.prog 4 #[.slice a0 len0 cap0, .int .i64 a1] w fun e w' => e = .returned (.bool true) ∧ Below w.heap.size w w' := by
  obtain ⟨x, rfl, hv, hwf⟩ := row_rw_any w0
  have hf := fits_of hwf
  clear hwf w0
  by_cases hg : 100 < x.length
  · have hg2 : (100 : Int) < x.length := by omega
    go_enter Try.func4, Try.ntmps4
    go_wp2_with (go_at_call 9; refine (knows_any _).mono ?_; rintro e w9 ⟨rfl, hb9⟩)
    go_ret
    exact ⟨rfl, hb9⟩
  have hg2 : (x.length : Int) ≤ 100 := by omega
  have hfr := fun w hv => fair_any (.slice a0 x.length cap0) x w hv hf (by omega)
  have hk64 := i64_of w1
  unfold I64 at hk64
  obtain ⟨hk1, hk2⟩ := hk64
  clear w1
  cases hx : fairX x
  · rw [hx] at hfr
    go_enter Try.func4, Try.ntmps4
    go_wp2_with (first | (go_at_call 13; refine (search_no _ x _ _ hv hf (.inl hx)).mono ?_; rintro e w2 ⟨rfl, h2⟩; have h2 := h2.symm; subst h2) | (go_at_call 11; refine (hfr _ hv).mono ?_; rintro e wf ⟨rfl, hwf⟩; have hwf := hwf.symm; subst hwf) | (go_at_call 9; refine (knows_any _).mono ?_; rintro e w9 ⟨rfl, hb9⟩))
    go_ret
    exact ⟨rfl, hb9⟩
  rw [hx] at hfr
  by_cases h0 : a1 < 0
  · go_enter Try.func4, Try.ntmps4
    go_wp2_with (first | (go_at_call 13; refine (search_no _ x _ _ hv hf (.inr (.inl h0))).mono ?_; rintro e w2 ⟨rfl, h2⟩; have h2 := h2.symm; subst h2) | (go_at_call 11; refine (hfr _ hv).mono ?_; rintro e wf ⟨rfl, hwf⟩; have hwf := hwf.symm; subst hwf) | (go_at_call 9; refine (knows_any _).mono ?_; rintro e w9 ⟨rfl, hb9⟩))
    go_ret
    exact ⟨rfl, hb9⟩
  by_cases h12 : 12 < a1
  · go_enter Try.func4, Try.ntmps4
    go_wp2_with (first | (go_at_call 13; refine (search_no _ x _ _ hv hf (.inr (.inr h12))).mono ?_; rintro e w2 ⟨rfl, h2⟩; have h2 := h2.symm; subst h2) | (go_at_call 11; refine (hfr _ hv).mono ?_; rintro e wf ⟨rfl, hwf⟩; have hwf := hwf.symm; subst hwf) | (go_at_call 9; refine (knows_any _).mono ?_; rintro e w9 ⟨rfl, hb9⟩))
    go_ret
    exact ⟨rfl, hb9⟩
  obtain ⟨k, rfl⟩ := Int.eq_ofNat_of_zero_le (show 0 ≤ a1 by omega)
  obtain ⟨x1, x2, _⟩ := fairX_parts hx
  have hlen : Hid ((fnd x k).length = x.length) := tab_len _ _
  have hC1 := fun w hv => search_ok (.slice a0 x.length cap0) x k w hv hf hx (by omega)
  have hC2 := fun w hv => rsearch_any (.slice a0 x.length cap0) x k w hv hx (by omega)
  generalize fnd x k = Y at *
  have n1 : ¬ ((k : Int) < 0) := by omega
  have n2 : ¬ (12 < (k : Int)) := by omega
  clear hk1 hk2 h0 h12
  go_enter Try.func4, Try.ntmps4
  go_wp2_with (first | (go_at_call 13; refine (hC1 _ hv).mono ?_; rintro e w2 ⟨g2, rfl, _, hr2, hb2⟩; have HR2 := hid hr2; clear hr2) | (go_at_call 11; refine (hfr _ (hv.below hb2)).mono ?_; rintro e wf ⟨rfl, hwf⟩; have hwf := hwf.symm; subst hwf) | (go_at_call 15; refine (hC2 _ (hv.below hb2)).mono ?_; rintro e w3 ⟨g3, rfl, _, hr3, hb3⟩; have HR3 := hid hr3; clear hr3) | (go_at_call 14; refine (same_yes _ _ Y _ ((HR2.out.rw hlen.out).below hb3) (HR3.out.rw hlen.out) (by have := hlen.out; omega)).mono ?_; rintro e w4 ⟨rfl, hb4⟩) | (go_at_call 9; refine (knows_any _).mono ?_; rintro e w9 ⟨rfl, hb9⟩))
  go_ret
  exact ⟨rfl, bthen' (bthen' hb2 hb3) (bthen' hb4 hb9)⟩


set_option maxRecDepth 100000 in
theorem lifted (os : Os) (started : os.Started) (H : Type) (enc : TypeId × Value → H) :
    ReturnsInHanded {} Try.checked os 4 .any (Rows.pvqFindsSpec.pre6 enc Try.prog Try.f4 Rows.pvqFindsRow.domain false) (Rows.pvqFindsSpec.post enc Try.prog Try.f4 false true false false) := by
  refine returnsInHanded_of_change (C := Try.checked) own started (by kernel_rfl) Try.func4
    (ChangeSpec.witness6 (enc := enc) (C := Try.checked) false ⟨#[], #[.slice none 0 0, .int .i64 0], []⟩ 8 (by kernel_rfl) (by kernel_rfl) (by kernel_rfl) (by kernel_rfl)) ?_
  intro W base args ds gs before hval0 hW hcnd _
  have hval : ∀ (j : Nat) t v, Try.f4.params[j]? = some t → args[j]? = some v → Value.okWide Try.prog W .any base t v := hval0
  have hW' := hW
  obtain ⟨p, q, hA0, hV, rfl, hfz, hnd⟩ := hW
  have hA : DataW.TrodAll enc Try.prog W 0 (fun _ => true) true Try.f4.params.toList args.toList ds p := hA0
  rw [Try.params4] at hA hval
  obtain ⟨v0, vs0, d0, ds0, p0, q0, hargs, rfl, rfl, h0, r0⟩ := trodAll_cons hA
  obtain ⟨v1, vs1, d1, ds1, p1, q1, rfl, rfl, rfl, h1, r1⟩ := trodAll_cons r0
  obtain ⟨rfl, rfl, rfl⟩ := trodAll_nil r1
  obtain rfl : args = #[v0, v1] := by cases args; simp_all
  obtain ⟨rfl, rfl⟩ := trodVars_none hV
  have k0 := h0
  have lt0 : ∀ x ∈ p0, x.block < W.heap.size := by obtain ⟨m, hm⟩ := k0; exact DataW.trod_lt m _ _ _ hm
  obtain ⟨a0, len0, cap0, rfl⟩ := okWide_slice Try.underlying22 (hval 0 22 v0 rfl rfl)
  obtain ⟨z0, w0⟩ : ∃ zs, IsRow .i64 W a0 len0 cap0 zs := by
    obtain ⟨fuel, hf⟩ := h0
    obtain ⟨a', l', c', zs, he, hr⟩ := ints_of_trod Try.underlying22 Try.underlying2 (by kernel_rfl) (show DataW.trod enc Try.prog W 0 (fun _ => true) true fuel 22 [.slice a0 len0 cap0] = _ from hf)
    simp only [Value.slice.injEq] at he
    obtain ⟨rfl, rfl, rfl⟩ := he
    exact ⟨zs, hr⟩
  obtain ⟨a1, rfl, rfl, rfl, w1⟩ := open_int Try.underlying3 (hval 1 3 v1 rfl rfl) h1
  clear hA0 hval0
  refine (walk a0 len0 cap0 z0 a1 W w0 w1).mono fun e W' ⟨he, bel⟩ => ?_
  subst he
  exact ⟨_, rfl, _, _, _, [], _, [], hW', trodAll_mk1 (shut_bool Try.underlying4 _), (trodAll_cons_mk (Below.trod laidOut (by kernel_rfl) (of_decide_eq_true (by kernel_rfl)) k0 bel lt0) (trodAll_cons_mk (shut_int Try.underlying3 w1) trodAll_mk0)), rfl, bel.frame _, fun h => by cases h⟩

theorem over : Rows.pvqFindsRow.holds Try.pinned (OpenSpec.ofChange Rows.pvqFindsSpec) :=
  OpenClaim.holds_of_wide 4 Try.f4 rfl rfl rfl rfl rfl rfl rfl ⟨rfl, rfl, rfl, rfl, rfl⟩ rfl rfl rfl rfl rfl (by kernel_rfl) Try.func4 (by kernel_rfl)
    (of_decide_eq_true (by kernel_rfl)) (by unfold Func.isWrapper; first | (rw [if_pos (by decide +kernel)]; kernel_rfl) | (rw [if_neg (by decide +kernel)]; exact ⟨rfl, rfl⟩))
    (fun os started H enc _ => lifted os started H enc)

theorem proved : Rows.PvqFindsSaid := over
#print axioms proved
end Go.Proofs.Ytiiiejhdeooabaa.pvqFinds
