/- The Go function of the statement BitsGets returns true at every input, and leaves each argument as it read. No condition. -/
import Derived.Test.YtjlfnihogfgjnaaWn
import Derived.ProofKit
import Derived.OpenShut
import Derived.ShutString
import Derived.ChangeOld
import Derived.Lib.SmallJoins
namespace Go.Proofs.Ytjlfnihogfgjnaa.bitsGets
open Go.ChangeShapes Go.WideShapes Go.ChangeAt Go.RowKit Go.Joins
set_option linter.unusedVariables false
set_option linter.unusedSimpArgs false

theorem own : ownKnob Try.prog.godebug = none := by kernel_rfl
theorem laidOut : laidOutB Try.prog = true := by kernel_rfl

set_option maxHeartbeats 1000000 in
theorem walk (a0 : Option Addr) (len0 cap0 : Nat) (z0 : List Int) (a1 : Int) (a2 : Int) (w : World) (w0 : IsRow .u8 w a0 len0 cap0 z0) (w1 : (Lit.int .i64 a1).wf = true) (w2 : (Lit.int .i64 a2).wf = true) :
    Calls Try.prog 5 #[.slice a0 len0 cap0, .int .i64 a1, .int .i64 a2] w fun e w' => e = .returned (.bool true) ∧ Below w.heap.size w w' := by
  obtain ⟨xs, rfl, hrw, hx⟩ := row_rw w0
  by_cases hg : 5000 < xs.length
  · have hd : decide (5000 < xs.length) = true := decide_eq_true hg
    go_enter Try.func5, Try.ntmps5
    go_wp2_with (first | (go_at_call 9; refine (great_any _ _ _ _).mono ?_; rintro e w' ⟨rfl, rfl⟩; rw [hd]) | (go_at_call 10; refine (knows_any _).mono ?_; rintro e w' ⟨rfl, hb⟩))
    go_ret
    exact ⟨rfl, hb⟩
  have hd : decide (5000 < xs.length) = false := decide_eq_false hg
  by_cases hE : getE xs a1 a2 = 0
  · have hE1 : (getE xs a1 a2 == 0) = true := by simpa using hE
    have hb : 0 ≤ a2 ∧ a2 ≤ 32 ∧ 0 ≤ a1 ∧ a1 + a2 ≤ 8 * xs.length := by
      unfold getE at hE
      split at hE
      · split at hE
        · omega
        · cases hE
      · cases hE
    obtain ⟨h0, h1, h2, h3⟩ := hb
    have HE : Hid (getE xs a1 a2 = 0) := hE
    clear hE
    go_enter Try.func5, Try.ntmps5
    go_wp2_with (first | (go_at_call 9; refine (great_any _ _ _ _).mono ?_; rintro e w' ⟨rfl, rfl⟩; rw [hd]) | (go_at_call 18; refine (get_any _ xs a1 a2 _ hrw hx (by omega)).mono ?_; rw [if_pos HE.out]; rintro e w1 ⟨rfl, hb1⟩; have hb1' := hb1.alloc hb1.size (.cells #[.slice a0 xs.length cap0, .int .i64 (a1 + a2)] 32)) | (go_at_call 19; refine (rget_any _ xs a1 a2 _ (hrw.below hb1') hx (by omega)).mono ?_; rintro e w2 ⟨rfl, hb2⟩; obtain ⟨q0, q1, f0, f1, hz⟩ := one_box hb2; have hb3 := bthen hb1' hb2 hb1'.size; have cv : (convert 22 9 (.slice a0 xs.length cap0)).run Try.prog w2 = _ := conv_rw (hrw.below hb3) 22 9 5 Try.underlying22 Try.underlying5 Try.underlying9) | (go_at_call 10; refine (knows_any _).mono ?_; rintro e w4 ⟨rfl, hb4⟩))
    go_ret
    exact ⟨rfl, bthen hb3 hb4 hb3.size⟩
  · have hE1 : (getE xs a1 a2 == 0) = false := by simpa using hE
    have hE2 : (getE xs a1 a2 != 0) = true := by simpa using hE
    have HE : Hid (¬ getE xs a1 a2 = 0) := hE
    clear hE
    go_enter Try.func5, Try.ntmps5
    go_wp2_with (first | (go_at_call 9; refine (great_any _ _ _ _).mono ?_; rintro e w' ⟨rfl, rfl⟩; rw [hd]) | (go_at_call 18; refine (get_any _ xs a1 a2 _ hrw hx (by omega)).mono ?_; rw [if_neg HE.out]; rintro e w1 ⟨rfl, hb1⟩; have hb1' := hb1.alloc hb1.size (.cells #[.slice a0 xs.length cap0, .int .i64 a1] 32)) | (go_at_call 19; refine (rget_any _ xs a1 a2 _ (hrw.below hb1') hx (by omega)).mono ?_; rintro e w2 ⟨rfl, hb2⟩; obtain ⟨q0, q1, f0, f1, hz⟩ := one_box hb2; have hb3 := bthen hb1' hb2 hb1'.size; have cv : (convert 22 9 (.slice a0 xs.length cap0)).run Try.prog w2 = _ := conv_rw (hrw.below hb3) 22 9 5 Try.underlying22 Try.underlying5 Try.underlying9) | (go_at_call 10; refine (knows_any _).mono ?_; rintro e w4 ⟨rfl, hb4⟩))
    go_ret
    exact ⟨rfl, bthen hb3 hb4 hb3.size⟩


set_option maxRecDepth 100000 in
theorem lifted (os : Os) (started : os.Started) (H : Type) (enc : TypeId × Value → H) :
    ReturnsInHanded {} Try.checked os 5 .any (Rows.bitsGetsSpec.pre6 enc Try.prog Try.f5 Rows.bitsGetsRow.domain false) (Rows.bitsGetsSpec.post enc Try.prog Try.f5 false true false false) := by
  refine returnsInHanded_of_change (C := Try.checked) own started (by kernel_rfl) Try.func5
    (ChangeSpec.witness6 (enc := enc) (C := Try.checked) false ⟨#[], #[.slice none 0 0, .int .i64 0, .int .i64 0], []⟩ 8 (by kernel_rfl) (by kernel_rfl) (by kernel_rfl) (by kernel_rfl)) ?_
  intro W base args ds gs before hval0 hW hcnd _
  have hval : ∀ (j : Nat) t v, Try.f5.params[j]? = some t → args[j]? = some v → Value.okWide Try.prog W .any base t v := hval0
  have hW' := hW
  obtain ⟨p, q, hA0, hV, rfl, hfz, hnd⟩ := hW
  have hA : DataW.TrodAll enc Try.prog W 0 (fun _ => true) true Try.f5.params.toList args.toList ds p := hA0
  rw [Try.params5] at hA hval
  obtain ⟨v0, vs0, d0, ds0, p0, q0, hargs, rfl, rfl, h0, r0⟩ := trodAll_cons hA
  obtain ⟨v1, vs1, d1, ds1, p1, q1, rfl, rfl, rfl, h1, r1⟩ := trodAll_cons r0
  obtain ⟨v2, vs2, d2, ds2, p2, q2, rfl, rfl, rfl, h2, r2⟩ := trodAll_cons r1
  obtain ⟨rfl, rfl, rfl⟩ := trodAll_nil r2
  obtain rfl : args = #[v0, v1, v2] := by cases args; simp_all
  obtain ⟨rfl, rfl⟩ := trodVars_none hV
  have k0 := h0
  have lt0 : ∀ x ∈ p0, x.block < W.heap.size := by obtain ⟨m, hm⟩ := k0; exact DataW.trod_lt m _ _ _ hm
  obtain ⟨a0, len0, cap0, rfl⟩ := okWide_slice Try.underlying22 (hval 0 22 v0 rfl rfl)
  obtain ⟨z0, w0⟩ : ∃ zs, IsRow .u8 W a0 len0 cap0 zs := by
    obtain ⟨fuel, hf⟩ := h0
    obtain ⟨a', l', c', zs, he, hr⟩ := ints_of_trod Try.underlying22 Try.underlying5 (by kernel_rfl) (show DataW.trod enc Try.prog W 0 (fun _ => true) true fuel 22 [.slice a0 len0 cap0] = _ from hf)
    simp only [Value.slice.injEq] at he
    obtain ⟨rfl, rfl, rfl⟩ := he
    exact ⟨zs, hr⟩
  obtain ⟨a1, rfl, rfl, rfl, w1⟩ := open_int Try.underlying3 (hval 1 3 v1 rfl rfl) h1
  obtain ⟨a2, rfl, rfl, rfl, w2⟩ := open_int Try.underlying3 (hval 2 3 v2 rfl rfl) h2
  clear hA0 hval0
  refine (walk a0 len0 cap0 z0 a1 a2 W w0 w1 w2).mono fun e W' ⟨he, bel⟩ => ?_
  subst he
  exact ⟨_, rfl, _, _, _, [], _, [], hW', trodAll_mk1 (shut_bool Try.underlying4 _), (trodAll_cons_mk (Below.trod laidOut (by kernel_rfl) (of_decide_eq_true (by kernel_rfl)) k0 bel lt0) (trodAll_cons_mk (shut_int Try.underlying3 w1) (trodAll_cons_mk (shut_int Try.underlying3 w2) trodAll_mk0))), rfl, bel.frame _, fun h => by cases h⟩

theorem over : Rows.bitsGetsRow.holds Try.pinned (OpenSpec.ofChange Rows.bitsGetsSpec) :=
  OpenClaim.holds_of_wide 5 Try.f5 rfl rfl rfl rfl rfl rfl rfl ⟨rfl, rfl, rfl, rfl, rfl⟩ rfl rfl rfl rfl rfl (by kernel_rfl) Try.func5 (by kernel_rfl)
    (of_decide_eq_true (by kernel_rfl)) (by unfold Func.isWrapper; first | (rw [if_pos (by decide +kernel)]; kernel_rfl) | (rw [if_neg (by decide +kernel)]; exact ⟨rfl, rfl⟩))
    (fun os started H enc _ => lifted os started H enc)

theorem proved : Rows.BitsGetsSaid := over
#print axioms proved
end Go.Proofs.Ytjlfnihogfgjnaa.bitsGets
