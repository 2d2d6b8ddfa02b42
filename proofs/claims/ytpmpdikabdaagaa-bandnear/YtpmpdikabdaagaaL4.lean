/- The Go function of the statement BandNear returns true at every input, and leaves each argument as it read. No condition. -/
import Derived.Test.YtpmpdikabdaagaaIg
import Derived.ProofKit
import Derived.OpenShut
import Derived.ShutString
import Derived.ChangeOld
import Derived.Lib.SmallJoins
namespace Go.Proofs.Ytpmpdikabdaagaa.bandNear
open Go.ChangeShapes Go.WideShapes Go.ChangeAt Go.RowKit Go.Joins
set_option linter.unusedVariables false
set_option linter.unusedSimpArgs false

theorem own : ownKnob Try.prog.godebug = none := by kernel_rfl
theorem laidOut : laidOutB Try.prog = true := by kernel_rfl

set_option maxRecDepth 10000 in
set_option maxHeartbeats 2000000 in
theorem walk (a0 : Option Addr) (len0 cap0 : Nat) (z0 : List Int) (w : World) (w0 : IsRow .i64 w a0 len0 cap0 z0) :
    Calls Try.prog 6 #[.slice a0 len0 cap0] w fun e w' => e = .returned (.bool true) ∧ Below w.heap.size w w' := by
  obtain ⟨x, rfl, hv, hwf⟩ := row_rw_any w0
  have hf := fits_of hwf
  clear hwf w0
  have hgr := fun w => great_any a0 x.length cap0 w
  by_cases hg : 100 < x.length
  · rw [decide_eq_true hg] at hgr
    go_enter Try.func6, Try.ntmps6
    go_wp2_with (first | (go_at_call 16; refine (hgr _).mono ?_; rintro e w9 ⟨rfl, h9⟩; have h9 := h9.symm; subst h9) | (go_at_call 15; refine (knows_any _).mono ?_; rintro e wk ⟨rfl, hbk⟩))
    go_ret
    exact ⟨rfl, hbk⟩
  rw [decide_eq_false hg] at hgr
  have hg2 : x.length ≤ 100 := by omega
  by_cases hl : 8 < x.length
  · have hg1 := fun w => gain_long a0 cap0 x w hl
    generalize x.length = n at *
    go_enter Try.func6, Try.ntmps6
    go_wp2_with (first | (go_at_call 16; refine (hgr _).mono ?_; rintro e w9 ⟨rfl, h9⟩; have h9 := h9.symm; subst h9) | (go_at_call 17; refine (hg1 _).mono ?_; rintro e w9 ⟨rfl, h9⟩; have h9 := h9.symm; subst h9) | (go_at_call 15; refine (knows_any _).mono ?_; rintro e wk ⟨rfl, hbk⟩))
    go_ret
    exact ⟨rfl, hbk⟩
  cases hx : fairX x
  · have hg1 := fun w hv => gain_wrong a0 cap0 x w hv hf hx hl
    generalize x.length = n at *
    go_enter Try.func6, Try.ntmps6
    go_wp2_with (first | (go_at_call 16; refine (hgr _).mono ?_; rintro e w9 ⟨rfl, h9⟩; have h9 := h9.symm; subst h9) | (go_at_call 17; refine (hg1 _ hv).mono ?_; rintro e w9 ⟨rfl, h9⟩; have h9 := h9.symm; subst h9) | (go_at_call 15; refine (knows_any _).mono ?_; rintro e wk ⟨rfl, hbk⟩))
    go_ret
    exact ⟨rfl, hbk⟩
  have hg1 := fun w hv => gain_ok a0 cap0 x w hv hf hx (by omega)
  have hs := fun w hv => rsquare_any (.slice a0 x.length cap0) x w hv hx
  have h44 := sq_lt43 hx (by omega)
  unfold gn at hg1
  generalize sq x x.length = s at *
  generalize x.length = n at *
  by_cases h0 : s = 0
  · subst h0
    rw [bit_zero] at hg1
    have hv1 := fun w => value_any 0 w
    rw [e_v0] at hv1
    clear h44
    go_enter Try.func6, Try.ntmps6
    go_wp2_with (first | (go_at_call 16; refine (hgr _).mono ?_; rintro e w9 ⟨rfl, h9⟩; have h9 := h9.symm; subst h9) | (go_at_call 17; refine (hg1 _ hv).mono ?_; rintro e w9 ⟨rfl, h9⟩; have h9 := h9.symm; subst h9) | (go_at_call 27; refine (hs _ hv).mono ?_; rintro e w9 ⟨rfl, h9⟩; have h9 := h9.symm; subst h9) | (go_at_call 13; refine (hv1 _).mono ?_; rintro e w9 ⟨rfl, h9⟩; have h9 := h9.symm; subst h9) | (go_at_call 15; refine (knows_any _).mono ?_; rintro e wk ⟨rfl, hbk⟩))
    go_ret
    exact ⟨rfl, hbk⟩
  obtain ⟨n1, n2, n3, n4⟩ := near_gain h44 h0
  have hv1 := fun w => value_any (bitN s : Nat) w
  rw [show vlI ((bitN s : Nat) : Int) = ((vl (bitN s) : Nat) : Int) by unfold vlI; simp] at hv1
  have hvb : vl (bitN s) < 4194304 := root_lt ⟨Nat.le_refl _, by
    have : ∀ z : Nat, z * z < (z + 1) * (z + 1) := fun z => Nat.mul_lt_mul_of_lt_of_le (by omega) (by omega) (by omega)
    exact this _⟩ (by omega)
  generalize vl (bitN s) = V at *
  generalize bitN s = G at *
  have hb2 : 2 * (V + 1) * (V + 1) ≤ 2 * 4194304 * 4194304 := Nat.mul_le_mul (by omega) (by omega)
  have hA : (V : Int) * (V : Int) = ((V * V : Nat) : Int) := by simp
  have hB : 2 * ((V : Int) + 1) * ((V : Int) + 1) = ((2 * (V + 1) * (V + 1) : Nat) : Int) := by simp
  generalize V * V = A at *
  generalize 2 * (V + 1) * (V + 1) = B at *
  have hs0 : ((s : Int) == 0) = false := by simp; omega
  have n3 : (A : Int) ≤ (s : Int) := by omega
  have n4 : (s : Int) < (B : Int) := by omega
  have n5 : (B : Int) ≤ 35184372088832 := by omega
  have n1 : (1 : Int) ≤ (G : Int) := by omega
  clear hb2
  go_enter Try.func6, Try.ntmps6
  go_wp2_with (first | (go_at_call 16; refine (hgr _).mono ?_; rintro e w9 ⟨rfl, h9⟩; have h9 := h9.symm; subst h9) | (go_at_call 17; refine (hg1 _ hv).mono ?_; rintro e w9 ⟨rfl, h9⟩; have h9 := h9.symm; subst h9) | (go_at_call 27; refine (hs _ hv).mono ?_; rintro e w9 ⟨rfl, h9⟩; have h9 := h9.symm; subst h9) | (go_at_call 13; refine (hv1 _).mono ?_; rintro e w9 ⟨rfl, h9⟩; have h9 := h9.symm; subst h9) | (go_at_call 15; refine (knows_any _).mono ?_; rintro e wk ⟨rfl, hbk⟩))
  go_ret
  exact ⟨rfl, hbk⟩


set_option maxRecDepth 100000 in
theorem lifted (os : Os) (started : os.Started) (H : Type) (enc : TypeId × Value → H) :
    ReturnsInHanded {} Try.checked os 6 .any (Rows.bandNearSpec.pre6 enc Try.prog Try.f6 Rows.bandNearRow.domain false) (Rows.bandNearSpec.post enc Try.prog Try.f6 false true false false) := by
  refine returnsInHanded_of_change (C := Try.checked) own started (by kernel_rfl) Try.func6
    (ChangeSpec.witness6 (enc := enc) (C := Try.checked) false ⟨#[], #[.slice none 0 0], []⟩ 8 (by kernel_rfl) (by kernel_rfl) (by kernel_rfl) (by kernel_rfl)) ?_
  intro W base args ds gs before hval0 hW hcnd _
  have hval : ∀ (j : Nat) t v, Try.f6.params[j]? = some t → args[j]? = some v → Value.okWide Try.prog W .any base t v := hval0
  have hW' := hW
  obtain ⟨p, q, hA0, hV, rfl, hfz, hnd⟩ := hW
  have hA : DataW.TrodAll enc Try.prog W 0 (fun _ => true) true Try.f6.params.toList args.toList ds p := hA0
  rw [Try.params6] at hA hval
  obtain ⟨v0, vs0, d0, ds0, p0, q0, hargs, rfl, rfl, h0, r0⟩ := trodAll_cons hA
  obtain ⟨rfl, rfl, rfl⟩ := trodAll_nil r0
  obtain rfl : args = #[v0] := by cases args; simp_all
  obtain ⟨rfl, rfl⟩ := trodVars_none hV
  have k0 := h0
  have lt0 : ∀ x ∈ p0, x.block < W.heap.size := by obtain ⟨m, hm⟩ := k0; exact DataW.trod_lt m _ _ _ hm
  obtain ⟨a0, len0, cap0, rfl⟩ := okWide_slice Try.underlying26 (hval 0 26 v0 rfl rfl)
  obtain ⟨z0, w0⟩ : ∃ zs, IsRow .i64 W a0 len0 cap0 zs := by
    obtain ⟨fuel, hf⟩ := h0
    obtain ⟨a', l', c', zs, he, hr⟩ := ints_of_trod Try.underlying26 Try.underlying2 (by kernel_rfl) (show DataW.trod enc Try.prog W 0 (fun _ => true) true fuel 26 [.slice a0 len0 cap0] = _ from hf)
    simp only [Value.slice.injEq] at he
    obtain ⟨rfl, rfl, rfl⟩ := he
    exact ⟨zs, hr⟩
  clear hA0 hval0
  refine (walk a0 len0 cap0 z0 W w0).mono fun e W' ⟨he, bel⟩ => ?_
  subst he
  exact ⟨_, rfl, _, _, _, [], _, [], hW', trodAll_mk1 (shut_bool Try.underlying4 _), (trodAll_cons_mk (Below.trod laidOut (by kernel_rfl) (of_decide_eq_true (by kernel_rfl)) k0 bel lt0) trodAll_mk0), rfl, bel.frame _, fun h => by cases h⟩

theorem over : Rows.bandNearRow.holds Try.pinned (OpenSpec.ofChange Rows.bandNearSpec) :=
  OpenClaim.holds_of_wide 6 Try.f6 rfl rfl rfl rfl rfl rfl rfl ⟨rfl, rfl, rfl, rfl, rfl⟩ rfl rfl rfl rfl rfl (by kernel_rfl) Try.func6 (by kernel_rfl)
    (of_decide_eq_true (by kernel_rfl)) (by unfold Func.isWrapper; first | (rw [if_pos (by decide +kernel)]; kernel_rfl) | (rw [if_neg (by decide +kernel)]; exact ⟨rfl, rfl⟩))
    (fun os started H enc _ => lifted os started H enc)

theorem proved : Rows.BandNearSaid := over
#print axioms proved
end Go.Proofs.Ytpmpdikabdaagaa.bandNear
