/- The Go function of the statement WaveAgain returns true at every input, and leaves each argument as it read. No condition. -/
import Derived.Test.YteboljbflcmglaaGh
import Derived.ProofKit
import Derived.OpenShut
import Derived.ShutString
import Derived.ChangeOld
import Derived.Lib.SmallJoins
namespace Go.Proofs.Yteboljbflcmglaa.waveAgain
open Go.ChangeShapes Go.WideShapes Go.ChangeAt Go.RowKit Go.Joins
set_option linter.unusedVariables false
set_option linter.unusedSimpArgs false

theorem own : ownKnob Try.prog.godebug = none := by kernel_rfl
theorem laidOut : laidOutB Try.prog = true := by kernel_rfl

set_option maxRecDepth 10000 in
set_option maxHeartbeats 2000000 in
theorem walk (a0 : Option Addr) (len0 cap0 : Nat) (z0 : List Int) (w : World) (w0 : IsRow .i64 w a0 len0 cap0 z0) :
    Calls Try.prog 6 #[.slice a0 len0 cap0] w fun e w' => e = .returned (.bool true) ∧ Below w.heap.size w w' := by
  have hcap := row_le w0
  obtain ⟨x, rfl, hv, hwf⟩ := row_rw_any w0
  have hf := fits_of hwf
  clear hwf w0
  have hgr := fun w => great_any a0 x.length cap0 w
  by_cases hg : 200 < x.length
  · rw [decide_eq_true hg] at hgr
    go_enter Try.func6, Try.ntmps6
    go_wp2_with (first | (go_at_call 9; refine (hgr _).mono ?_; rintro e wg ⟨rfl, hwg⟩; have hwg := hwg.symm; subst hwg) | (go_at_call 10; refine (knows_any _).mono ?_; rintro e w9 ⟨rfl, hb9⟩))
    go_ret
    exact ⟨rfl, hb9⟩
  rw [decide_eq_false hg] at hgr
  have hg2 : x.length ≤ 200 := by omega
  cases hx : okS 67108864 x
  · have hno := fun w hv => inverse_no (.slice a0 x.length cap0) x w hv hf hg2 hx
    clear hx
    go_enter Try.func6, Try.ntmps6
    go_wp2_with (first | (go_at_call 9; refine (hgr _).mono ?_; rintro e wg ⟨rfl, hwg⟩; have hwg := hwg.symm; subst hwg) | (go_at_call 16; refine (hno _ hv).mono ?_; rintro e w2 ⟨rfl, h2⟩; have h2 := h2.symm; subst h2) | (go_at_call 10; refine (knows_any _).mono ?_; rintro e w9 ⟨rfl, hb9⟩))
    go_ret
    exact ⟨rfl, hb9⟩
  obtain ⟨k, hk, hl, hb⟩ := okS_parts hx
  have hC1 := fun w hv => inverse_ok a0 cap0 x k w hv hcap hk hl hb hf
  have hlen : (iv (k + 1) x).length = x.length := by rw [hl]; exact iv_len _ _ hl
  have hl2 : x.length ≤ 32 := by rw [hl]; exact Nat.pow_le_pow_right (n := 2) (j := 5) (by decide) hk
  have hl0 : (0 : Int) < (x.length : Int) := by have : 0 < 2 ^ (k + 1) := Nat.pow_pos (by decide); omega
  have hib := iv_small (k + 1) (by omega) x hl hb
  have hrt := fun (g : Nat) w hv => right_any (.slice (some ⟨g, 0, none⟩) x.length x.length) (iv (k + 1) x) w hv (fits_bd hib (by omega) (by omega)) (by omega)
  cases hy : okS 16777216 (iv (k + 1) x)
  · rw [hy] at hrt
    have HLEN := hid hlen
    generalize iv (k + 1) x = Y at *
    clear hl hb hx hib hlen hy
    go_enter Try.func6, Try.ntmps6
    go_wp2_with (first | (go_at_call 9; refine (hgr _).mono ?_; rintro e wg ⟨rfl, hwg⟩; have hwg := hwg.symm; subst hwg) | (go_at_call 16; refine (hC1 _ hv).mono ?_; rintro e w2 ⟨g2, rfl, _, hr2, hb2⟩; have HR2 := hid hr2; clear hr2) | (go_at_call 13; refine (hrt _ _ (HR2.out.rw HLEN.out)).mono ?_; rintro e w4 ⟨rfl, h4⟩; have h4 := h4.symm; subst h4) | (go_at_call 10; refine (knows_any _).mono ?_; rintro e w9 ⟨rfl, hb9⟩))
    go_ret
    exact ⟨rfl, bthen' hb2 hb9⟩
  rw [hy] at hrt
  obtain ⟨k2, hk2, hl3, hb3⟩ := okS_parts hy
  have hC2 : ∀ (g : Nat) (w : World), Rw .i64 w (.slice (some ⟨g, 0, none⟩) x.length x.length) (iv (k + 1) x) → Calls Try.prog 11 #[.slice (some ⟨g, 0, none⟩) x.length x.length] w fun e w' => ∃ g : Nat, e = .returned (.tuple #[.slice (some ⟨g, 0, none⟩) x.length x.length, .int .i64 0]) ∧ w.heap.size ≤ g ∧ Blk .i64 2 w' g x ∧ Below w.heap.size w w' := fun g w hv => by
    have h := forward_ok _ (iv (k + 1) x) k w hv hk (by omega) hb3 (fits_bd hib (by omega) (by omega))
    rw [hlen, fw_iv (k + 1) x hl] at h
    exact h
  have HLEN := hid hlen
  generalize iv (k + 1) x = Y at *
  clear hl hb hx hib hlen hy hl3 hb3
  go_enter Try.func6, Try.ntmps6
  go_wp2_with (first | (go_at_call 9; refine (hgr _).mono ?_; rintro e wg ⟨rfl, hwg⟩; have hwg := hwg.symm; subst hwg) | (go_at_call 16; refine (hC1 _ hv).mono ?_; rintro e w2 ⟨g2, rfl, _, hr2, hb2⟩; have HR2 := hid hr2; clear hr2) | (go_at_call 13; refine (hrt _ _ (HR2.out.rw HLEN.out)).mono ?_; rintro e w4 ⟨rfl, h4⟩; have h4 := h4.symm; subst h4) | (go_at_call 11; refine (hC2 _ _ (HR2.out.rw HLEN.out)).mono ?_; rintro e w3 ⟨g3, rfl, _, hr3, hb3⟩; have HR3 := hid hr3; clear hr3) | (go_at_call 14; refine (same64_yes _ _ x _ (hv.below (bthen' hb2 hb3)) (HR3.out.rw rfl) (by omega)).mono ?_; rintro e w6 ⟨rfl, hb6⟩) | (go_at_call 10; refine (knows_any _).mono ?_; rintro e w9 ⟨rfl, hb9⟩))
  go_ret
  exact ⟨rfl, bthen' (bthen' hb2 hb3) (bthen' hb6 hb9)⟩


set_option maxRecDepth 100000 in
theorem lifted (os : Os) (started : os.Started) (H : Type) (enc : TypeId × Value → H) :
    ReturnsInHanded {} Try.checked os 6 .any (Rows.waveAgainSpec.pre6 enc Try.prog Try.f6 Rows.waveAgainRow.domain false) (Rows.waveAgainSpec.post enc Try.prog Try.f6 false true false false) := by
  refine returnsInHanded_of_change (C := Try.checked) own started (by kernel_rfl) Try.func6
    (ChangeSpec.witness6 (enc := enc) (C := Try.checked) false ⟨#[], #[.slice none 0 0], []⟩ 8 (by kernel_rfl) (by kernel_rfl) (by kernel_rfl) (by kernel_rfl)) ?_
  intro W base args ds gs before hval0 hW hcnd _
  have hval : ∀ (j : Nat) t v, Try.f6.params[j]? = some t → args[j]? = some v → Value.okWide Try.prog W .any base t v := hval0
  have hW' := hW
  obtain ⟨p, q, hA0, hV, rfl, hfz, hnd⟩ := hW
  have hA : DataW.TrodAll enc Try.prog W 0 (fun _ => true) true Try.f6.params.toList args.toList ds p := hA0
  rw [Try.params6] at hA hval
  obtain ⟨v0, vs0, d0, ds0, p0, q0, hargs, rfl, rfl, h0, r0⟩ := trodAll_cons hA
  obtain ⟨rfl, rfl, rfl⟩ := trodAll_nil r0
  obtain rfl : args = #[v0] := by cases args; simp_all
  obtain ⟨rfl, rfl⟩ := trodVars_none hV
  have k0 := h0
  have lt0 : ∀ x ∈ p0, x.block < W.heap.size := by obtain ⟨m, hm⟩ := k0; exact DataW.trod_lt m _ _ _ hm
  obtain ⟨a0, len0, cap0, rfl⟩ := okWide_slice Try.underlying22 (hval 0 22 v0 rfl rfl)
  obtain ⟨z0, w0⟩ : ∃ zs, IsRow .i64 W a0 len0 cap0 zs := by
    obtain ⟨fuel, hf⟩ := h0
    obtain ⟨a', l', c', zs, he, hr⟩ := ints_of_trod Try.underlying22 Try.underlying2 (by kernel_rfl) (show DataW.trod enc Try.prog W 0 (fun _ => true) true fuel 22 [.slice a0 len0 cap0] = _ from hf)
    simp only [Value.slice.injEq] at he
    obtain ⟨rfl, rfl, rfl⟩ := he
    exact ⟨zs, hr⟩
  clear hA0 hval0
  refine (walk a0 len0 cap0 z0 W w0).mono fun e W' ⟨he, bel⟩ => ?_
  subst he
  exact ⟨_, rfl, _, _, _, [], _, [], hW', trodAll_mk1 (shut_bool Try.underlying4 _), (trodAll_cons_mk (Below.trod laidOut (by kernel_rfl) (of_decide_eq_true (by kernel_rfl)) k0 bel lt0) trodAll_mk0), rfl, bel.frame _, fun h => by cases h⟩

theorem over : Rows.waveAgainRow.holds Try.pinned (OpenSpec.ofChange Rows.waveAgainSpec) :=
  OpenClaim.holds_of_wide 6 Try.f6 rfl rfl rfl rfl rfl rfl rfl ⟨rfl, rfl, rfl, rfl, rfl⟩ rfl rfl rfl rfl rfl (by kernel_rfl) Try.func6 (by kernel_rfl)
    (of_decide_eq_true (by kernel_rfl)) (by unfold Func.isWrapper; first | (rw [if_pos (by decide +kernel)]; kernel_rfl) | (rw [if_neg (by decide +kernel)]; exact ⟨rfl, rfl⟩))
    (fun os started H enc _ => lifted os started H enc)

theorem proved : Rows.WaveAgainSaid := over
#print axioms proved
end Go.Proofs.Yteboljbflcmglaa.waveAgain
