/- The Go function of the statement AllocFits returns true at every input, and leaves each argument as it read. No condition. -/
import Derived.Test.YtlpjkahppogkiaaKk
import Derived.ProofKit
import Derived.OpenShut
import Derived.ShutString
import Derived.ChangeOld
import Derived.Lib.SmallJoins
namespace Go.Proofs.Ytlpjkahppogkiaa.allocFits
open Go.ChangeShapes Go.WideShapes Go.ChangeAt Go.RowKit Go.Joins
set_option linter.unusedVariables false
set_option linter.unusedSimpArgs false

theorem own : ownKnob Try.prog.godebug = none := by kernel_rfl
theorem laidOut : laidOutB Try.prog = true := by kernel_rfl

set_option maxRecDepth 10000 in
set_option maxHeartbeats 4000000 in
theorem walk (a0 : Int) (a1 : Int) (a2 : Option Addr) (len2 cap2 : Nat) (z2 : List (List Int)) (w : World) (w0 : (Lit.int .i64 a0).wf = true) (w1 : (Lit.int .i64 a1).wf = true) (w2 : IsGrid w a2 len2 cap2 z2) :
    Calls Try.prog 5 #[.int .i64 a0, .int .i64 a1, .slice a2 len2 cap2] w fun e w' => e = .returned (.bool true) ∧ Below w.heap.size w w' := by
  obtain ⟨hfr, hfits, hmx⟩ := id w2
  have hlen := w2.len
  have hgr := great_any a2 len2 cap2 z2 w hlen hmx hfr
  clear w0 w1 w2 hfits
  by_cases hg : greatG z2 = true
  · rw [hg] at hgr
    go_enter Try.func5, Try.ntmps5
    go_wp2_with (first | (go_at_call 14; refine (hgr).mono ?_; rintro e w9 ⟨rfl, h9⟩; have h9 := h9.symm; subst h9) | (go_at_call 13; refine (knows_any _).mono ?_; rintro e wk ⟨rfl, hbk⟩))
    go_ret
    exact ⟨rfl, hbk⟩
  have hg : greatG z2 = false := by simpa using hg
  rw [hg] at hgr
  obtain ⟨hl20, hsm⟩ := great_no hg
  rw [hlen] at hl20 hsm
  clear hg
  by_cases hbad : (rtB a0 a1 && fairG a1 z2) = false
  · have hp := pulses_no a0 a1 a2 len2 cap2 z2 w hlen hmx hfr hbad
    clear hbad hsm
    go_enter Try.func5, Try.ntmps5
    go_wp2_with (first | (go_at_call 14; refine (hgr).mono ?_; rintro e w9 ⟨rfl, h9⟩; have h9 := h9.symm; subst h9) | (go_at_call 15; refine (hp).mono ?_; rintro e w9 ⟨rfl, h9⟩; have h9 := h9.symm; subst h9) | (go_at_call 13; refine (knows_any _).mono ?_; rintro e wk ⟨rfl, hbk⟩))
    go_ret
    exact ⟨rfl, hbk⟩
  have hbad : (rtB a0 a1 && fairG a1 z2) = true := by simpa using hbad
  rw [Bool.and_eq_true] at hbad
  obtain ⟨hrt, hfg⟩ := hbad
  obtain rfl : (len2 : Int) = a1 := by have := (fair_iff.1 hfg).1; omega
  have hp := pulses_ok a0 len2 a2 cap2 z2 w hfr hrt hfg
  have hro := fun w => room_any a0 len2 w
  have hrm := rm_bd a0 len2
  have HAT : Hid (∀ i, i < len2 → ((List.range len2).map (pul (rmI a0 len2) z2)).getD i [] = pls (chan (z2.getD i []) (rmI a0 len2))) := fun i hi => pul_at _ _ _ i hi
  generalize (List.range len2).map (pul (rmI a0 len2) z2) = K at *
  generalize rmI a0 len2 = room at *
  clear hrt hsm hfg
  go_enter Try.func5, Try.ntmps5
  go_upto_region 4 with (first | (go_at_call 14; refine (hgr).mono ?_; rintro e w9 ⟨rfl, h9⟩; have h9 := h9.symm; subst h9) | (go_at_call 15; refine hp.mono ?_; rintro e w1 ⟨G, rfl, hfr1, hb1⟩))
  have HFR1 := hid hfr1
  have HB1 := hid hb1
  clear hfr1 hb1 hp
  go_wp2
  go_loopw [9] (fun p wr => ∃ i : Nat, i ≤ len2 ∧ p = .int .i64 i ∧ Hid (Below w1.heap.size w1 wr)) (fun p _ => len2 - (intOf p).toNat)
  case atStart => exact ⟨0, by omega, rfl, Below.refl _ _⟩
  case round =>
    obtain ⟨i, hi, rfl, HBR⟩ := hrel
    by_cases hlt : i < len2
    · obtain ⟨b, off, hbo, hb, ra, rc, hc1, _, hrw⟩ := (HFR1.out.below HBR.out).at i hlt
      simp only [Option.some.injEq, Addr.mk.injEq, and_true] at hbo
      obtain ⟨rfl, rfl⟩ := hbo
      rw [HAT.out i hlt, pls_len] at hc1
      rw [HAT.out i hlt, pls_len] at hrw
      have hok := (chan_ok (z2.getD i []) hrm.1).1
      have hsp := rspent_any ra rc (chan (z2.getD i []) room) wr hrw (fun b hb => hok.le b hb)
      have hcost := hok.cost
      generalize sp (chan (z2.getD i []) room) = P at *
      have k1 : decide (room < (P : Int)) = false := decide_eq_false (by omega)
      have i1 : (0 : Int) ≤ (i : Int) := by omega
      have i2 : (i : Int) < (len2 : Int) := by omega
      have i3 : IntKind.i64.wrap (i : Int) = i := wraps_i64 _ (by omega) (by omega)
      rw [Nat.zero_add] at hc1
      clear hok hrw hcost
      go_wp2_with (first | (go_at_call 19; refine hsp.mono ?_; rintro e w2 ⟨rfl, hb2⟩) | (go_at_call 11; refine (hro _).mono ?_; rintro e w9 ⟨rfl, h9⟩; have h9 := h9.symm; subst h9))
      exact ⟨⟨i + 1, by omega, by go_num, bthen' HBR.out hb2⟩, by simp [intOf]; omega⟩
    · obtain rfl : i = len2 := by omega
      clear hlt HAT
      go_wp2_with (go_at_call 13; refine (knows_any _).mono ?_; rintro e wk ⟨rfl, hbk⟩)
      go_ret
      exact ⟨rfl, bthen' (bthen' HB1.out HBR.out) hbk⟩


set_option maxRecDepth 100000 in
theorem lifted (os : Os) (started : os.Started) (H : Type) (enc : TypeId × Value → H) :
    ReturnsInHanded {} Try.checked os 5 .any (Rows.allocFitsSpec.pre6 enc Try.prog Try.f5 Rows.allocFitsRow.domain false) (Rows.allocFitsSpec.post enc Try.prog Try.f5 false true false false) := by
  refine returnsInHanded_of_change (C := Try.checked) own started (by kernel_rfl) Try.func5
    (ChangeSpec.witness6 (enc := enc) (C := Try.checked) false ⟨#[], #[.int .i64 0, .int .i64 0, .slice none 0 0], []⟩ 8 (by kernel_rfl) (by kernel_rfl) (by kernel_rfl) (by kernel_rfl)) ?_
  intro W base args ds gs before hval0 hW hcnd _
  have hval : ∀ (j : Nat) t v, Try.f5.params[j]? = some t → args[j]? = some v → Value.okWide Try.prog W .any base t v := hval0
  have hW' := hW
  obtain ⟨p, q, hA0, hV, rfl, hfz, hnd⟩ := hW
  have hA : DataW.TrodAll enc Try.prog W 0 (fun _ => true) true Try.f5.params.toList args.toList ds p := hA0
  rw [Try.params5] at hA hval
  obtain ⟨v0, vs0, d0, ds0, p0, q0, hargs, rfl, rfl, h0, r0⟩ := trodAll_cons hA
  obtain ⟨v1, vs1, d1, ds1, p1, q1, rfl, rfl, rfl, h1, r1⟩ := trodAll_cons r0
  obtain ⟨v2, vs2, d2, ds2, p2, q2, rfl, rfl, rfl, h2, r2⟩ := trodAll_cons r1
  obtain ⟨rfl, rfl, rfl⟩ := trodAll_nil r2
  obtain rfl : args = #[v0, v1, v2] := by cases args; simp_all
  obtain ⟨rfl, rfl⟩ := trodVars_none hV
  obtain ⟨a0, rfl, rfl, rfl, w0⟩ := open_int Try.underlying3 (hval 0 3 v0 rfl rfl) h0
  obtain ⟨a1, rfl, rfl, rfl, w1⟩ := open_int Try.underlying3 (hval 1 3 v1 rfl rfl) h1
  have k2 := h2
  have lt2 : ∀ x ∈ p2, x.block < W.heap.size := by obtain ⟨m, hm⟩ := k2; exact DataW.trod_lt m _ _ _ hm
  obtain ⟨a2, len2, cap2, rfl⟩ := okWide_slice Try.underlying25 (hval 2 25 v2 rfl rfl)
  obtain ⟨z2, w2⟩ : ∃ zs, IsGrid W a2 len2 cap2 zs := by
    obtain ⟨fuel, hf⟩ := h2
    exact grid_of_trod Try.underlying25 Try.underlying34 Try.underlying3 (by kernel_rfl) (by kernel_rfl) (show DataW.trod enc Try.prog W 0 (fun _ => true) true fuel 25 [.slice a2 len2 cap2] = _ from hf)
  clear hA0 hval0
  refine (walk a0 a1 a2 len2 cap2 z2 W w0 w1 w2).mono fun e W' ⟨he, bel⟩ => ?_
  subst he
  exact ⟨_, rfl, _, _, _, [], _, [], hW', trodAll_mk1 (shut_bool Try.underlying4 _), (trodAll_cons_mk (shut_int Try.underlying3 w0) (trodAll_cons_mk (shut_int Try.underlying3 w1) (trodAll_cons_mk (Below.trod laidOut (by kernel_rfl) (of_decide_eq_true (by kernel_rfl)) k2 bel lt2) trodAll_mk0))), rfl, bel.frame _, fun h => by cases h⟩

theorem over : Rows.allocFitsRow.holds Try.pinned (OpenSpec.ofChange Rows.allocFitsSpec) :=
  OpenClaim.holds_of_wide 5 Try.f5 rfl rfl rfl rfl rfl rfl rfl ⟨rfl, rfl, rfl, rfl, rfl⟩ rfl rfl rfl rfl rfl (by kernel_rfl) Try.func5 (by kernel_rfl)
    (of_decide_eq_true (by kernel_rfl)) (by unfold Func.isWrapper; first | (rw [if_pos (by decide +kernel)]; kernel_rfl) | (rw [if_neg (by decide +kernel)]; exact ⟨rfl, rfl⟩))
    (fun os started H enc _ => lifted os started H enc)

theorem proved : Rows.AllocFitsSaid := over
#print axioms proved
end Go.Proofs.Ytlpjkahppogkiaa.allocFits
