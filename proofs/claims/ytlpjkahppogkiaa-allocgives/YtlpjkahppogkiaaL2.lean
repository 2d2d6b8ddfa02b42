/- The Go function of the statement AllocGives returns true at every input, and leaves each argument as it read. No condition. -/
import Derived.Test.YtlpjkahppogkiaaKk
import Derived.ProofKit
import Derived.OpenShut
import Derived.ShutString
import Derived.ChangeOld
import Derived.Lib.SmallJoins
namespace Go.Proofs.Ytlpjkahppogkiaa.allocGives
open Go.ChangeShapes Go.WideShapes Go.ChangeAt Go.RowKit Go.Joins
set_option linter.unusedVariables false
set_option linter.unusedSimpArgs false

theorem own : ownKnob Try.prog.godebug = none := by kernel_rfl
theorem laidOut : laidOutB Try.prog = true := by kernel_rfl

set_option maxRecDepth 10000 in
set_option maxHeartbeats 4000000 in
theorem walk (a0 : Int) (a1 : Int) (a2 : Option Addr) (len2 cap2 : Nat) (z2 : List (List Int)) (w : World) (w0 : (Lit.int .i64 a0).wf = true) (w1 : (Lit.int .i64 a1).wf = true) (w2 : IsGrid w a2 len2 cap2 z2) :
    Calls Try.prog 4 #[.int .i64 a0, .int .i64 a1, .slice a2 len2 cap2] w fun e w' => e = .returned (.bool true) ∧ Below w.heap.size w w' := by
  obtain ⟨hfr, hfits, hmx⟩ := id w2
  have hlen := w2.len
  have hgr := great_any a2 len2 cap2 z2 w hlen hmx hfr
  clear w0 w1 w2 hfits
  by_cases hg : greatG z2 = true
  · rw [hg] at hgr
    go_enter Try.func4, Try.ntmps4
    go_wp2_with (first | (go_at_call 14; refine (hgr).mono ?_; rintro e w9 ⟨rfl, h9⟩; have h9 := h9.symm; subst h9) | (go_at_call 13; refine (knows_any _).mono ?_; rintro e wk ⟨rfl, hbk⟩))
    go_ret
    exact ⟨rfl, hbk⟩
  have hg : greatG z2 = false := by simpa using hg
  rw [hg] at hgr
  obtain ⟨hl20, hsm⟩ := great_no hg
  rw [hlen] at hl20 hsm
  clear hg
  have hr := fun w => rsright_any a0 a1 w
  have hfa := fun (w' : World) (h : Below w.heap.size w w') => rfair_any a1 a2 len2 cap2 z2 w' hlen hl20 hsm (hfr.below h)
  cases hrt : rtB a0 a1
  · have hp := pulses_no a0 a1 a2 len2 cap2 z2 w hlen hmx hfr (by rw [hrt]; rfl)
    rw [hrt] at hr
    clear hfa hrt hsm
    go_enter Try.func4, Try.ntmps4
    go_wp2_with (first | (go_at_call 14; refine (hgr).mono ?_; rintro e w9 ⟨rfl, h9⟩; have h9 := h9.symm; subst h9) | (go_at_call 15; refine (hp).mono ?_; rintro e w9 ⟨rfl, h9⟩; have h9 := h9.symm; subst h9) | (go_at_call 10; refine (hr _).mono ?_; rintro e w9 ⟨rfl, h9⟩; have h9 := h9.symm; subst h9) | (go_at_call 13; refine (knows_any _).mono ?_; rintro e wk ⟨rfl, hbk⟩))
    go_ret
    exact ⟨rfl, hbk⟩
  cases hfg : fairG a1 z2
  · have hp := pulses_no a0 a1 a2 len2 cap2 z2 w hlen hmx hfr (by rw [hrt, hfg]; rfl)
    have hfa := hfa w (Below.refl _ _)
    rw [hrt] at hr
    rw [hfg] at hfa
    clear hrt hsm hfg
    go_enter Try.func4, Try.ntmps4
    go_wp2_with (first | (go_at_call 14; refine (hgr).mono ?_; rintro e w9 ⟨rfl, h9⟩; have h9 := h9.symm; subst h9) | (go_at_call 15; refine (hp).mono ?_; rintro e w9 ⟨rfl, h9⟩; have h9 := h9.symm; subst h9) | (go_at_call 10; refine (hr _).mono ?_; rintro e w9 ⟨rfl, h9⟩; have h9 := h9.symm; subst h9) | (go_at_call 16; refine (hfa).mono ?_; rintro e w9 ⟨rfl, h9⟩; have h9 := h9.symm; subst h9) | (go_at_call 13; refine (knows_any _).mono ?_; rintro e wk ⟨rfl, hbk⟩))
    go_ret
    exact ⟨rfl, hbk⟩
  obtain rfl : (len2 : Int) = a1 := by have := (fair_iff.1 hfg).1; omega
  have hp := pulses_ok a0 len2 a2 cap2 z2 w hfr hrt hfg
  have HRP : Hid (∀ w', Below w.heap.size w w' → Calls Try.prog 18 #[.int .i64 a0, .int .i64 len2, .slice a2 len2 cap2] w' fun e w'' => ∃ v, e = .returned v ∧ Fr false w'' v ((List.range len2).map (pul (rmI a0 len2) z2)) ∧ Below w'.heap.size w' w'') := fun w' h => rpulses_any a0 len2 a2 cap2 z2 w' (hfr.below h) hrt hfg
  have HRW : Hid (∀ i, i < ((List.range len2).map (pul (rmI a0 len2) z2)).length → (((List.range len2).map (pul (rmI a0 len2) z2)).getD i []).length ≤ 100) := fun i hi => pul_rows _ _ _ i hi
  have HLL : Hid (((List.range len2).map (pul (rmI a0 len2) z2)).length ≤ 500) := by unfold Hid; simp; omega
  rw [hrt] at hr
  rw [hfg] at hfa
  generalize (List.range len2).map (pul (rmI a0 len2) z2) = K at *
  have HFA := hid hfa
  clear hrt hsm hfg hfa hfr
  go_enter Try.func4, Try.ntmps4
  go_wp2_with (first | (go_at_call 14; refine (hgr).mono ?_; rintro e w9 ⟨rfl, h9⟩; have h9 := h9.symm; subst h9) | (go_at_call 15; refine hp.mono ?_; rintro e w1 ⟨G, rfl, hfr1, hb1⟩; have hfa := HFA.out w1 hb1; have hrp := HRP.out w1 hb1) | (go_at_call 10; refine (hr _).mono ?_; rintro e w9 ⟨rfl, h9⟩; have h9 := h9.symm; subst h9) | (go_at_call 16; refine (hfa).mono ?_; rintro e w9 ⟨rfl, h9⟩; have h9 := h9.symm; subst h9) | (go_at_call 18; refine hrp.mono ?_; rintro e w2 ⟨v, rfl, hfr2, hb2⟩; have hsm := sameG_yes _ _ _ _ _ w2 (hfr1.below hb2) hfr2 HLL.out HRW.out) | (go_at_call 17; refine hsm.mono ?_; rintro e w3 ⟨rfl, hb3⟩) | (go_at_call 13; refine (knows_any _).mono ?_; rintro e wk ⟨rfl, hbk⟩))
  go_ret
  exact ⟨rfl, bthen' (bthen' hb1 hb2) (bthen' hb3 hbk)⟩


set_option maxRecDepth 100000 in
theorem lifted (os : Os) (started : os.Started) (H : Type) (enc : TypeId × Value → H) :
    ReturnsInHanded {} Try.checked os 4 .any (Rows.allocGivesSpec.pre6 enc Try.prog Try.f4 Rows.allocGivesRow.domain false) (Rows.allocGivesSpec.post enc Try.prog Try.f4 false true false false) := by
  refine returnsInHanded_of_change (C := Try.checked) own started (by kernel_rfl) Try.func4
    (ChangeSpec.witness6 (enc := enc) (C := Try.checked) false ⟨#[], #[.int .i64 0, .int .i64 0, .slice none 0 0], []⟩ 8 (by kernel_rfl) (by kernel_rfl) (by kernel_rfl) (by kernel_rfl)) ?_
  intro W base args ds gs before hval0 hW hcnd _
  have hval : ∀ (j : Nat) t v, Try.f4.params[j]? = some t → args[j]? = some v → Value.okWide Try.prog W .any base t v := hval0
  have hW' := hW
  obtain ⟨p, q, hA0, hV, rfl, hfz, hnd⟩ := hW
  have hA : DataW.TrodAll enc Try.prog W 0 (fun _ => true) true Try.f4.params.toList args.toList ds p := hA0
  rw [Try.params4] at hA hval
  obtain ⟨v0, vs0, d0, ds0, p0, q0, hargs, rfl, rfl, h0, r0⟩ := trodAll_cons hA
  obtain ⟨v1, vs1, d1, ds1, p1, q1, rfl, rfl, rfl, h1, r1⟩ := trodAll_cons r0
  obtain ⟨v2, vs2, d2, ds2, p2, q2, rfl, rfl, rfl, h2, r2⟩ := trodAll_cons r1
  obtain ⟨rfl, rfl, rfl⟩ := trodAll_nil r2
  obtain rfl : args = #[v0, v1, v2] := by cases args; simp_all
  obtain ⟨rfl, rfl⟩ := trodVars_none hV
  obtain ⟨a0, rfl, rfl, rfl, w0⟩ := open_int Try.underlying3 (hval 0 3 v0 rfl rfl) h0
  obtain ⟨a1, rfl, rfl, rfl, w1⟩ := open_int Try.underlying3 (hval 1 3 v1 rfl rfl) h1
  have k2 := h2
  have lt2 : ∀ x ∈ p2, x.block < W.heap.size := by obtain ⟨m, hm⟩ := k2; exact DataW.trod_lt m _ _ _ hm
  obtain ⟨a2, len2, cap2, rfl⟩ := okWide_slice Try.underlying25 (hval 2 25 v2 rfl rfl)
  obtain ⟨z2, w2⟩ : ∃ zs, IsGrid W a2 len2 cap2 zs := by
    obtain ⟨fuel, hf⟩ := h2
    exact grid_of_trod Try.underlying25 Try.underlying34 Try.underlying3 (by kernel_rfl) (by kernel_rfl) (show DataW.trod enc Try.prog W 0 (fun _ => true) true fuel 25 [.slice a2 len2 cap2] = _ from hf)
  clear hA0 hval0
  refine (walk a0 a1 a2 len2 cap2 z2 W w0 w1 w2).mono fun e W' ⟨he, bel⟩ => ?_
  subst he
  exact ⟨_, rfl, _, _, _, [], _, [], hW', trodAll_mk1 (shut_bool Try.underlying4 _), (trodAll_cons_mk (shut_int Try.underlying3 w0) (trodAll_cons_mk (shut_int Try.underlying3 w1) (trodAll_cons_mk (Below.trod laidOut (by kernel_rfl) (of_decide_eq_true (by kernel_rfl)) k2 bel lt2) trodAll_mk0))), rfl, bel.frame _, fun h => by cases h⟩

theorem over : Rows.allocGivesRow.holds Try.pinned (OpenSpec.ofChange Rows.allocGivesSpec) :=
  OpenClaim.holds_of_wide 4 Try.f4 rfl rfl rfl rfl rfl rfl rfl ⟨rfl, rfl, rfl, rfl, rfl⟩ rfl rfl rfl rfl rfl (by kernel_rfl) Try.func4 (by kernel_rfl)
    (of_decide_eq_true (by kernel_rfl)) (by unfold Func.isWrapper; first | (rw [if_pos (by decide +kernel)]; kernel_rfl) | (rw [if_neg (by decide +kernel)]; exact ⟨rfl, rfl⟩))
    (fun os started H enc _ => lifted os started H enc)

theorem proved : Rows.AllocGivesSaid := over
#print axioms proved
end Go.Proofs.Ytlpjkahppogkiaa.allocGives
