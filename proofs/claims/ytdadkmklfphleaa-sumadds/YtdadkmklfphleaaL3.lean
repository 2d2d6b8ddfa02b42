/- The Go function of the statement SumAdds returns true at every input, and leaves each argument as it read. No condition. -/
import Derived.Test.YtdadkmklfphleaaWd
import Derived.Deep.RegionHeld3
import Derived.ProofKit
import Derived.OpenShut
import Derived.ShutString
import Derived.ChangeOld
import Derived.Lib.SmallJoins
namespace Go.Proofs.Ytdadkmklfphleaa.sumAdds
open Go.ChangeShapes Go.WideShapes Go.ChangeAt Go.RowKit Go.Joins
set_option linter.unusedVariables false
set_option linter.unusedSimpArgs false

theorem own : ownKnob Try.prog.godebug = none := by kernel_rfl
theorem laidOut : laidOutB Try.prog = true := by kernel_rfl

set_option maxRecDepth 10000 in
set_option maxHeartbeats 2000000 in
theorem walk (a0 : Option Addr) (len0 cap0 : Nat) (z0 : List Int) (a1 : Int) (a2 : Option Addr) (len2 cap2 : Nat) (z2 : List Int) (w : World) (w0 : IsRow .u32 w a0 len0 cap0 z0) (w1 : (Lit.int .u32 a1).wf = true) (w2 : IsRow .u8 w a2 len2 cap2 z2) :
    Calls Try.prog 5 #[.slice a0 len0 cap0, .int .u32 a1, .slice a2 len2 cap2] w fun e w' => e = .returned (.bool true) ∧ Below w.heap.size w w' := by
  obtain ⟨ts, rfl, hts, hu0⟩ := row_rw_any w0
  obtain ⟨xs, rfl, hrw, hx⟩ := row_rw w2
  obtain ⟨C, rfl, hC⟩ := u32_nat w1
  have hu : U32s ts := fun y hy => by
    have := hu0 y hy
    simp [Lit.wf, IntKind.min, IntKind.max, IntKind.bits, IntKind.signed] at this
    omega
  clear hu0 w0 w1 w2
  by_cases hg : 5000 < xs.length
  · have hd : decide (5000 < xs.length) = true := decide_eq_true hg
    go_enter Try.func5, Try.ntmps5
    go_wp2_with (first | (go_at_call 11; refine (great_any _ _ _ _).mono ?_; rintro e w' ⟨rfl, rfl⟩; rw [hd]) | (go_at_call 10; refine (knows_any _).mono ?_; rintro e w5 ⟨rfl, hb5⟩))
    go_ret
    exact ⟨rfl, hb5⟩
  have hd : decide (5000 < xs.length) = false := decide_eq_false hg
  have hl : xs.length ≤ 5000 := by omega
  clear hg
  by_cases hg : 1000 < ts.length
  · have hg2 : (1000 : Int) < ts.length := by omega
    go_enter Try.func5, Try.ntmps5
    go_wp2_with (first | (go_at_call 11; refine (great_any _ _ _ _).mono ?_; rintro e w' ⟨rfl, rfl⟩; rw [hd]) | (go_at_call 10; refine (knows_any _).mono ?_; rintro e w5 ⟨rfl, hb5⟩))
    go_ret
    exact ⟨rfl, hb5⟩
  have hg2 : (ts.length : Int) ≤ 1000 := by omega
  have hadd := fun w ht hb => add_any (.slice a0 ts.length cap0) (.slice a2 xs.length cap2) ts xs C w ht hu hb hx hl hC
  have hsum := fun w ht hb => sum_any (.slice a0 ts.length cap0) (.slice a2 xs.length cap2) ts xs w ht hu hb hx hl
  by_cases h6 : ts.length = 256
  · have hra := fun w ht hb => addR_any (.slice a0 ts.length cap0) (.slice a2 xs.length cap2) ts xs C w ht hu h6 hb hx hl hC
    have hrs := fun w ht hb => addR_any (.slice a0 ts.length cap0) (.slice a2 xs.length cap2) ts xs 4294967295 w ht hu h6 hb hx hl (by decide)
    unfold addV addE at hadd
    unfold sumV addE at hsum
    simp only [if_pos h6] at hadd hsum
    have hx1 := u32_xor_nat (addI ts 4294967295 xs) 4294967295 (by have := addI_lt hu xs 4294967295 (by decide); omega) (by decide)
    have hx2 := u32_xor_nat C 4294967295 (by omega) (by decide)
    have hx1' : bits .xor .u32 ((addI ts 4294967295 xs : Nat) : Int) 4294967295 = ((addI ts 4294967295 xs ^^^ 4294967295 : Nat) : Int) := hx1
    have hx2' : bits .xor .u32 (C : Int) 4294967295 = ((C ^^^ 4294967295 : Nat) : Int) := hx2
    clear hx1 hx2
    rw [h6] at hadd hsum hra hrs hts ⊢
    generalize addI ts C xs = A at *
    generalize addI ts 4294967295 xs = B at *
    generalize B ^^^ 4294967295 = B' at *
    clear h6 hg hg2
    go_enter Try.func5, Try.ntmps5
    go_wp2_with (first | (go_at_call 11; refine (great_any _ _ _ _).mono ?_; rintro e w' ⟨rfl, rfl⟩; rw [hd]) | (go_at_call 14; refine (hadd _ hts hrw).mono ?_; rintro e w1 ⟨rfl, hb1⟩) | (go_at_call 12; refine (hsum _ (hts.below hb1) (hrw.below hb1)).mono ?_; rintro e w2 ⟨rfl, hb2⟩))
    have hB := bthen hb1 hb2 hb1.size
    have ht2 := hts.below hB
    have hr2 := hrw.below hB
    clear hb1 hb2 hadd hsum
    refine (hra _ ht2 hr2).mono ?_
    rintro e w' ⟨rfl, rfl⟩
    go_wp2_with fail
    refine (hrs _ ht2 hr2).mono ?_
    rintro e w' ⟨rfl, rfl⟩
    go_wp2_with (first | (go_at_call 16; refine (begin_any _).mono ?_; rintro e w' ⟨rfl, rfl⟩) | (go_at_call 17; refine (end_any C hC _).mono ?_; rintro e w' ⟨rfl, rfl⟩) | (go_at_call 10; refine (knows_any _).mono ?_; rintro e w5 ⟨rfl, hb5⟩))
    go_ret
    exact ⟨rfl, bthen hB hb5 hB.size⟩
  · unfold addV addE at hadd
    unfold sumV addE at hsum
    simp only [if_neg h6] at hadd hsum
    have h7 : ¬ (ts.length : Int) = 256 := by omega
    go_enter Try.func5, Try.ntmps5
    go_wp2_with (first | (go_at_call 11; refine (great_any _ _ _ _).mono ?_; rintro e w' ⟨rfl, rfl⟩; rw [hd]) | (go_at_call 14; refine (hadd _ hts hrw).mono ?_; rintro e w1 ⟨rfl, hb1⟩) | (go_at_call 12; refine (hsum _ (hts.below hb1) (hrw.below hb1)).mono ?_; rintro e w2 ⟨rfl, hb2⟩) | (go_at_call 10; refine (knows_any _).mono ?_; rintro e w5 ⟨rfl, hb5⟩))
    go_ret
    have hB := bthen hb1 hb2 hb1.size
    exact ⟨rfl, bthen hB hb5 hB.size⟩


set_option maxRecDepth 100000 in
theorem lifted (os : Os) (started : os.Started) (H : Type) (enc : TypeId × Value → H) :
    ReturnsInHanded {} Try.checked os 5 .any (Rows.sumAddsSpec.pre6 enc Try.prog Try.f5 Rows.sumAddsRow.domain false) (Rows.sumAddsSpec.post enc Try.prog Try.f5 false true false false) := by
  refine returnsInHanded_of_change (C := Try.checked) own started (by kernel_rfl) Try.func5
    (ChangeSpec.witness6 (enc := enc) (C := Try.checked) false ⟨#[], #[.slice none 0 0, .int .u32 0, .slice none 0 0], []⟩ 8 (by kernel_rfl) (by kernel_rfl) (by kernel_rfl) (by kernel_rfl)) ?_
  intro W base args ds gs before hval0 hW hcnd _
  have hval : ∀ (j : Nat) t v, Try.f5.params[j]? = some t → args[j]? = some v → Value.okWide Try.prog W .any base t v := hval0
  have hW' := hW
  obtain ⟨p, q, hA0, hV, rfl, hfz, hnd⟩ := hW
  have hA : DataW.TrodAll enc Try.prog W 0 (fun _ => true) true Try.f5.params.toList args.toList ds p := hA0
  rw [Try.params5] at hA hval
  obtain ⟨v0, vs0, d0, ds0, p0, q0, hargs, rfl, rfl, h0, r0⟩ := trodAll_cons hA
  obtain ⟨v1, vs1, d1, ds1, p1, q1, rfl, rfl, rfl, h1, r1⟩ := trodAll_cons r0
  obtain ⟨v2, vs2, d2, ds2, p2, q2, rfl, rfl, rfl, h2, r2⟩ := trodAll_cons r1
  obtain ⟨rfl, rfl, rfl⟩ := trodAll_nil r2
  obtain rfl : args = #[v0, v1, v2] := by cases args; simp_all
  obtain ⟨rfl, rfl⟩ := trodVars_none hV
  have k0 := h0
  have lt0 : ∀ x ∈ p0, x.block < W.heap.size := by obtain ⟨m, hm⟩ := k0; exact DataW.trod_lt m _ _ _ hm
  obtain ⟨a0, len0, cap0, rfl⟩ := okWide_slice Try.underlying22 (hval 0 22 v0 rfl rfl)
  obtain ⟨z0, w0⟩ : ∃ zs, IsRow .u32 W a0 len0 cap0 zs := by
    obtain ⟨fuel, hf⟩ := h0
    obtain ⟨a', l', c', zs, he, hr⟩ := ints_of_trod Try.underlying22 Try.underlying24 (by kernel_rfl) (show DataW.trod enc Try.prog W 0 (fun _ => true) true fuel 22 [.slice a0 len0 cap0] = _ from hf)
    simp only [Value.slice.injEq] at he
    obtain ⟨rfl, rfl, rfl⟩ := he
    exact ⟨zs, hr⟩
  obtain ⟨a1, rfl, rfl, rfl, w1⟩ := open_int Try.underlying24 (hval 1 24 v1 rfl rfl) h1
  have k2 := h2
  have lt2 : ∀ x ∈ p2, x.block < W.heap.size := by obtain ⟨m, hm⟩ := k2; exact DataW.trod_lt m _ _ _ hm
  obtain ⟨a2, len2, cap2, rfl⟩ := okWide_slice Try.underlying28 (hval 2 28 v2 rfl rfl)
  obtain ⟨z2, w2⟩ : ∃ zs, IsRow .u8 W a2 len2 cap2 zs := by
    obtain ⟨fuel, hf⟩ := h2
    obtain ⟨a', l', c', zs, he, hr⟩ := ints_of_trod Try.underlying28 Try.underlying5 (by kernel_rfl) (show DataW.trod enc Try.prog W 0 (fun _ => true) true fuel 28 [.slice a2 len2 cap2] = _ from hf)
    simp only [Value.slice.injEq] at he
    obtain ⟨rfl, rfl, rfl⟩ := he
    exact ⟨zs, hr⟩
  clear hA0 hval0
  refine (walk a0 len0 cap0 z0 a1 a2 len2 cap2 z2 W w0 w1 w2).mono fun e W' ⟨he, bel⟩ => ?_
  subst he
  exact ⟨_, rfl, _, _, _, [], _, [], hW', trodAll_mk1 (shut_bool Try.underlying4 _), (trodAll_cons_mk (Below.trod laidOut (by kernel_rfl) (of_decide_eq_true (by kernel_rfl)) k0 bel lt0) (trodAll_cons_mk (shut_int Try.underlying24 w1) (trodAll_cons_mk (Below.trod laidOut (by kernel_rfl) (of_decide_eq_true (by kernel_rfl)) k2 bel lt2) trodAll_mk0))), rfl, bel.frame _, fun h => by cases h⟩

theorem over : Rows.sumAddsRow.holds Try.pinned (OpenSpec.ofChange Rows.sumAddsSpec) :=
  OpenClaim.holds_of_wide 5 Try.f5 rfl rfl rfl rfl rfl rfl rfl ⟨rfl, rfl, rfl, rfl, rfl⟩ rfl rfl rfl rfl rfl (by kernel_rfl) Try.func5 (by kernel_rfl)
    (of_decide_eq_true (by kernel_rfl)) (by unfold Func.isWrapper; first | (rw [if_pos (by decide +kernel)]; kernel_rfl) | (rw [if_neg (by decide +kernel)]; exact ⟨rfl, rfl⟩))
    (fun os started H enc _ => lifted os started H enc)

theorem proved : Rows.SumAddsSaid := over
#print axioms proved
end Go.Proofs.Ytdadkmklfphleaa.sumAdds
