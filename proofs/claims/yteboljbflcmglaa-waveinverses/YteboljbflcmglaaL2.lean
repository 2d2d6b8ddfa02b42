/- The Go function of the statement WaveInverses returns true at every input, and leaves each argument as it read. No condition. -/
import Derived.Test.YteboljbflcmglaaGh
import Derived.ProofKit
import Derived.OpenShut
import Derived.ShutString
import Derived.ChangeOld
import Derived.Lib.SmallJoins
namespace Go.Proofs.Yteboljbflcmglaa.waveInverses
open Go.ChangeShapes Go.WideShapes Go.ChangeAt Go.RowKit Go.Joins
set_option linter.unusedVariables false
set_option linter.unusedSimpArgs false

theorem own : ownKnob Try.prog.godebug = none := by kernel_rfl
theorem laidOut : laidOutB Try.prog = true := by kernel_rfl

set_option maxRecDepth 10000 in
set_option maxHeartbeats 2000000 in
theorem walk (a0 : Option Addr) (len0 cap0 : Nat) (z0 : List Int) (w : World) (w0 : IsRow .i64 w a0 len0 cap0 z0) :
    Calls Try.prog 4 #[.slice a0 len0 cap0] w fun e w' => e = .returned (.bool true) ∧ Below w.heap.size w w' := by
  have hcap := row_le w0
  obtain ⟨x, rfl, hv, hwf⟩ := row_rw_any w0
  have hf := fits_of hwf
  clear hwf w0
  have hgr := fun w => great_any a0 x.length cap0 w
  by_cases hg : 200 < x.length
  · rw [decide_eq_true hg] at hgr
    go_enter Try.func4, Try.ntmps4
    go_wp2_with (first | (go_at_call 9; refine (hgr _).mono ?_; rintro e wg ⟨rfl, hwg⟩; have hwg := hwg.symm; subst hwg) | (go_at_call 10; refine (knows_any _).mono ?_; rintro e w9 ⟨rfl, hb9⟩))
    go_ret
    exact ⟨rfl, hb9⟩
  rw [decide_eq_false hg] at hgr
  have hg2 : x.length ≤ 200 := by omega
  have hsz := fun w hv => sized_any (.slice a0 x.length cap0) x 67108864 w hv hf hg2 (by omega) (by omega)
  cases hx : okS 67108864 x
  · rw [hx] at hsz
    have hno := fun w hv => inverse_no (.slice a0 x.length cap0) x w hv hf hg2 hx
    clear hx
    go_enter Try.func4, Try.ntmps4
    go_wp2_with (first | (go_at_call 9; refine (hgr _).mono ?_; rintro e wg ⟨rfl, hwg⟩; have hwg := hwg.symm; subst hwg) | (go_at_call 16; refine (hno _ hv).mono ?_; rintro e w2 ⟨rfl, h2⟩; have h2 := h2.symm; subst h2) | (go_at_call 12; refine (hsz _ hv).mono ?_; rintro e w3 ⟨rfl, h3⟩; have h3 := h3.symm; subst h3) | (go_at_call 10; refine (knows_any _).mono ?_; rintro e w9 ⟨rfl, hb9⟩))
    go_ret
    exact ⟨rfl, hb9⟩
  rw [hx] at hsz
  obtain ⟨k, hk, hl, hb⟩ := okS_parts hx
  have hC1 := fun w hv => inverse_ok a0 cap0 x k w hv hcap hk hl hb hf
  have hC2 := fun w hv => rinverse_any a0 cap0 x (k + 1) w hv hcap hk hl hb
  have hlen : Hid ((iv (k + 1) x).length = x.length) := by unfold Hid; rw [hl]; exact iv_len _ _ hl
  have hl2 : x.length ≤ 32 := by rw [hl]; exact Nat.pow_le_pow_right (n := 2) (j := 5) (by decide) hk
  generalize iv (k + 1) x = Y at *
  clear hl hb hx
  go_enter Try.func4, Try.ntmps4
  go_wp2_with (first | (go_at_call 9; refine (hgr _).mono ?_; rintro e wg ⟨rfl, hwg⟩; have hwg := hwg.symm; subst hwg) | (go_at_call 16; refine (hC1 _ hv).mono ?_; rintro e w2 ⟨g2, rfl, _, hr2, hb2⟩; have HR2 := hid hr2; clear hr2) | (go_at_call 12; refine (hsz _ (hv.below hb2)).mono ?_; rintro e w3 ⟨rfl, h3⟩; have h3 := h3.symm; subst h3) | (go_at_call 17; refine (hC2 _ (hv.below hb2)).mono ?_; rintro e w5 ⟨v5, rfl, hr5, hb5⟩; have HR5 := hid hr5; clear hr5) | (go_at_call 14; refine (same64_yes _ _ Y _ ((HR2.out.rw hlen.out).below hb5) HR5.out (by have := hlen.out; omega)).mono ?_; rintro e w6 ⟨rfl, hb6⟩) | (go_at_call 10; refine (knows_any _).mono ?_; rintro e w9 ⟨rfl, hb9⟩))
  go_ret
  exact ⟨rfl, bthen' (bthen' hb2 hb5) (bthen' hb6 hb9)⟩


set_option maxRecDepth 100000 in
theorem lifted (os : Os) (started : os.Started) (H : Type) (enc : TypeId × Value → H) :
    ReturnsInHanded {} Try.checked os 4 .any (Rows.waveInversesSpec.pre6 enc Try.prog Try.f4 Rows.waveInversesRow.domain false) (Rows.waveInversesSpec.post enc Try.prog Try.f4 false true false false) := by
  refine returnsInHanded_of_change (C := Try.checked) own started (by kernel_rfl) Try.func4
    (ChangeSpec.witness6 (enc := enc) (C := Try.checked) false ⟨#[], #[.slice none 0 0], []⟩ 8 (by kernel_rfl) (by kernel_rfl) (by kernel_rfl) (by kernel_rfl)) ?_
  intro W base args ds gs before hval0 hW hcnd _
  have hval : ∀ (j : Nat) t v, Try.f4.params[j]? = some t → args[j]? = some v → Value.okWide Try.prog W .any base t v := hval0
  have hW' := hW
  obtain ⟨p, q, hA0, hV, rfl, hfz, hnd⟩ := hW
  have hA : DataW.TrodAll enc Try.prog W 0 (fun _ => true) true Try.f4.params.toList args.toList ds p := hA0
  rw [Try.params4] at hA hval
  obtain ⟨v0, vs0, d0, ds0, p0, q0, hargs, rfl, rfl, h0, r0⟩ := trodAll_cons hA
  obtain ⟨rfl, rfl, rfl⟩ := trodAll_nil r0
  obtain rfl : args = #[v0] := by cases args; simp_all
  obtain ⟨rfl, rfl⟩ := trodVars_none hV
  have k0 := h0
  have lt0 : ∀ x ∈ p0, x.block < W.heap.size := by obtain ⟨m, hm⟩ := k0; exact DataW.trod_lt m _ _ _ hm
  obtain ⟨a0, len0, cap0, rfl⟩ := okWide_slice Try.underlying22 (hval 0 22 v0 rfl rfl)
  obtain ⟨z0, w0⟩ : ∃ zs, IsRow .i64 W a0 len0 cap0 zs := by
    obtain ⟨fuel, hf⟩ := h0
    obtain ⟨a', l', c', zs, he, hr⟩ := ints_of_trod Try.underlying22 Try.underlying2 (by kernel_rfl) (show DataW.trod enc Try.prog W 0 (fun _ => true) true fuel 22 [.slice a0 len0 cap0] = _ from hf)
    simp only [Value.slice.injEq] at he
    obtain ⟨rfl, rfl, rfl⟩ := he
    exact ⟨zs, hr⟩
  clear hA0 hval0
  refine (walk a0 len0 cap0 z0 W w0).mono fun e W' ⟨he, bel⟩ => ?_
  subst he
  exact ⟨_, rfl, _, _, _, [], _, [], hW', trodAll_mk1 (shut_bool Try.underlying4 _), (trodAll_cons_mk (Below.trod laidOut (by kernel_rfl) (of_decide_eq_true (by kernel_rfl)) k0 bel lt0) trodAll_mk0), rfl, bel.frame _, fun h => by cases h⟩

theorem over : Rows.waveInversesRow.holds Try.pinned (OpenSpec.ofChange Rows.waveInversesSpec) :=
  OpenClaim.holds_of_wide 4 Try.f4 rfl rfl rfl rfl rfl rfl rfl ⟨rfl, rfl, rfl, rfl, rfl⟩ rfl rfl rfl rfl rfl (by kernel_rfl) Try.func4 (by kernel_rfl)
    (of_decide_eq_true (by kernel_rfl)) (by unfold Func.isWrapper; first | (rw [if_pos (by decide +kernel)]; kernel_rfl) | (rw [if_neg (by decide +kernel)]; exact ⟨rfl, rfl⟩))
    (fun os started H enc _ => lifted os started H enc)

theorem proved : Rows.WaveInversesSaid := over
#print axioms proved
end Go.Proofs.Yteboljbflcmglaa.waveInverses
