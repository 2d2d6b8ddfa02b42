/- The Go function of the statement HuffReads returns true at every input, and leaves each argument as it read. No condition. -/
import Derived.Test.YtnlahpnpajadpaaXk
import Derived.ProofKit
import Derived.OpenShut
import Derived.ShutString
import Derived.ChangeOld
import Derived.Lib.SmallJoins
namespace Go.Proofs.Ytnlahpnpajadpaa.huffReads
open Go.ChangeShapes Go.WideShapes Go.ChangeAt Go.RowKit Go.Joins
set_option linter.unusedVariables false
set_option linter.unusedSimpArgs false

theorem own : ownKnob Try.prog.godebug = none := by kernel_rfl
theorem laidOut : laidOutB Try.prog = true := by kernel_rfl

set_option maxRecDepth 10000 in
set_option maxHeartbeats 4000000 in
theorem walk (a0 : Option Addr) (len0 cap0 : Nat) (z0 : List Int) (a1 : Int) (a2 : Option Addr) (len2 cap2 : Nat) (z2 : List Int) (w : World) (w0 : IsRow .u8 w a0 len0 cap0 z0) (w1 : (Lit.int .i64 a1).wf = true) (w2 : IsRow .i64 w a2 len2 cap2 z2) :
    Calls Try.prog 6 #[.slice a0 len0 cap0, .int .i64 a1, .slice a2 len2 cap2] w fun e w' => e = .returned (.bool true) ∧ Below w.heap.size w w' := by
  obtain ⟨xs, rfl, hv, hx⟩ := row_rw w0
  obtain ⟨l, rfl, hl, _⟩ := row_rw_any w2
  clear w0 w2
  by_cases hg : 4100 < xs.length ∨ 200 < l.length
  · have hd : decide (4100 < xs.length ∨ 200 < l.length) = true := decide_eq_true hg
    go_enter Try.func6, Try.ntmps6
    go_wp2_with (first | (go_at_call 16; refine (great_any _ _ _ _ _ _ _).mono ?_; rintro e w' ⟨rfl, rfl⟩; rw [hd]) | (go_at_call 10; refine (knows_any _).mono ?_; rintro e w9 ⟨rfl, hb9⟩))
    go_ret
    exact ⟨rfl, hb9⟩
  have hd : decide (4100 < xs.length ∨ 200 < l.length) = false := decide_eq_false hg
  have hxl : xs.length ≤ 4100 := by omega
  clear hg
  by_cases harg : rightL l = false ∨ a1 < 0
  · have hrd := fun w => read_arg a0 xs.length cap0 (.slice a2 l.length cap2) l a1 w
    go_enter Try.func6, Try.ntmps6
    go_wp2_with (first | (go_at_call 16; refine (great_any _ _ _ _ _ _ _).mono ?_; rintro e w' ⟨rfl, rfl⟩; rw [hd]) | (go_at_call 21; refine (hrd _ hl harg).mono ?_; rintro e w1 ⟨rfl, hb1⟩; have hBa := hb1.alloc hb1.size (.cells #[.slice a0 xs.length cap0, .int .i64 a1] 45); have hc7 := conv_rw (P := Try.prog) (hv.below hBa) 32 9 5 Try.underlying32 Try.underlying5 Try.underlying9) | (go_at_call 22; refine (rread_arg _ _ l _ _ (hl.below hBa) harg).mono ?_; rintro e w2 ⟨rfl, rfl⟩) | (go_at_call 10; refine (knows_any _).mono ?_; rintro e w9 ⟨rfl, hb9⟩))
    go_ret
    exact ⟨rfl, bthen hBa hb9 hBa.size⟩
  have hr : rightL l = true := by
    cases h : rightL l
    · exact absurd (.inl h) harg
    · rfl
  have hp0 : 0 ≤ a1 := by
    rcases Int.lt_or_le a1 0 with h | h
    · exact absurd (.inr h) harg
    · exact h
  clear harg
  obtain ⟨p, rfl⟩ := Int.eq_ofNat_of_zero_le hp0
  have hrd := read_ok a0 cap0 (.slice a2 l.length cap2) xs l p w hx (by omega) hv hl hr
  have hrr := fun w hv hl => rread_ok (.slice a0 xs.length cap0) (.slice a2 l.length cap2) xs l p w hx (by omega) hv hl hr
  cases hf : findS l (bv xs) (8 * xs.length) p with
  | some s =>
    have hm := of_find hf
    obtain ⟨e1, e2, e3⟩ := rd_some hm
    have e4 : rdK l (bv xs) (8 * xs.length) p = l.getD s 0 := by unfold rdK; rw [hf]
    rw [e1, e2, e3] at hrd
    simp only [e1, e3, e4] at hrr
    obtain ⟨m1, m2, m3, m4⟩ := hm
    have hb16 := inB_at (right_parts hr).2.2.1 s
    clear e1 e2 e3 e4 m4 hf
    generalize l.getD s 0 = z at hrd hrr m2 m3 hb16
    obtain ⟨n, rfl⟩ := Int.eq_ofNat_of_zero_le hb16.1
    rw [Int.toNat_natCast] at m3
    have hw1 : IntKind.i64.wrap ((p : Int) + (n : Int)) = (p : Int) + n := wraps_i64 _ (by omega) (by omega)
    clear m3
    go_enter Try.func6, Try.ntmps6
    go_wp2_with (first | (go_at_call 16; refine (great_any _ _ _ _ _ _ _).mono ?_; rintro e w' ⟨rfl, rfl⟩; rw [hd]) | (go_at_call 21; refine hrd.mono ?_; rintro e w1 ⟨rfl, hb1⟩; have hBa := hb1.alloc hb1.size (.cells #[.slice a0 xs.length cap0, .int .i64 ((p : Int) + (n : Int))] 45)) | (go_at_call 22; refine (hrr _ (hv.below hBa) (hl.below hBa)).mono ?_; rintro e w2 ⟨rfl, hb2⟩; obtain ⟨q0, q1, f0, f1, hz⟩ := one_box hb2; have hB2 := bthen hBa hb2 hBa.size; have hc7 := conv_rw (P := Try.prog) (hv.below hB2) 32 9 5 Try.underlying32 Try.underlying5 Try.underlying9) | (go_at_call 10; refine (knows_any _).mono ?_; rintro e w9 ⟨rfl, hb9⟩))
    go_ret
    exact ⟨rfl, bthen hB2 hb9 hB2.size⟩
  | none =>
    have hno := of_find_none hf
    obtain ⟨e1, e2, e3⟩ := rd_none hno
    have e4 : rdK l (bv xs) (8 * xs.length) p = 0 := by unfold rdK; rw [hf]
    by_cases hu : usedN l = 1 ∧ p < 8 * xs.length
    · rw [if_pos hu] at e3
      rw [e1, e2, e3] at hrd
      simp only [e1, e3, e4] at hrr
      clear e1 e2 e3 e4 hf hno hu
      go_enter Try.func6, Try.ntmps6
      go_wp2_with (first | (go_at_call 16; refine (great_any _ _ _ _ _ _ _).mono ?_; rintro e w' ⟨rfl, rfl⟩; rw [hd]) | (go_at_call 21; refine hrd.mono ?_; rintro e w1 ⟨rfl, hb1⟩; have hBa := hb1.alloc hb1.size (.cells #[.slice a0 xs.length cap0, .int .i64 (p : Int)] 45)) | (go_at_call 22; refine (hrr _ (hv.below hBa) (hl.below hBa)).mono ?_; rintro e w2 ⟨rfl, hb2⟩; obtain ⟨q0, q1, f0, f1, hz⟩ := one_box hb2; have hB2 := bthen hBa hb2 hBa.size; have hc7 := conv_rw (P := Try.prog) (hv.below hB2) 32 9 5 Try.underlying32 Try.underlying5 Try.underlying9) | (go_at_call 10; refine (knows_any _).mono ?_; rintro e w9 ⟨rfl, hb9⟩))
      go_ret
      exact ⟨rfl, bthen hB2 hb9 hB2.size⟩
    · rw [if_neg hu] at e3
      rw [e1, e2, e3] at hrd
      simp only [e1, e3, e4] at hrr
      clear e1 e2 e3 e4 hf hno hu
      go_enter Try.func6, Try.ntmps6
      go_wp2_with (first | (go_at_call 16; refine (great_any _ _ _ _ _ _ _).mono ?_; rintro e w' ⟨rfl, rfl⟩; rw [hd]) | (go_at_call 21; refine hrd.mono ?_; rintro e w1 ⟨rfl, hb1⟩; have hBa := hb1.alloc hb1.size (.cells #[.slice a0 xs.length cap0, .int .i64 (p : Int)] 45)) | (go_at_call 22; refine (hrr _ (hv.below hBa) (hl.below hBa)).mono ?_; rintro e w2 ⟨rfl, hb2⟩; obtain ⟨q0, q1, f0, f1, hz⟩ := one_box hb2; have hB2 := bthen hBa hb2 hBa.size; have hc7 := conv_rw (P := Try.prog) (hv.below hB2) 32 9 5 Try.underlying32 Try.underlying5 Try.underlying9) | (go_at_call 10; refine (knows_any _).mono ?_; rintro e w9 ⟨rfl, hb9⟩))
      go_ret
      exact ⟨rfl, bthen hB2 hb9 hB2.size⟩


set_option maxRecDepth 100000 in
theorem lifted (os : Os) (started : os.Started) (H : Type) (enc : TypeId × Value → H) :
    ReturnsInHanded {} Try.checked os 6 .any (Rows.huffReadsSpec.pre6 enc Try.prog Try.f6 Rows.huffReadsRow.domain false) (Rows.huffReadsSpec.post enc Try.prog Try.f6 false true false false) := by
  refine returnsInHanded_of_change (C := Try.checked) own started (by kernel_rfl) Try.func6
    (ChangeSpec.witness6 (enc := enc) (C := Try.checked) false ⟨#[], #[.slice none 0 0, .int .i64 0, .slice none 0 0], []⟩ 8 (by kernel_rfl) (by kernel_rfl) (by kernel_rfl) (by kernel_rfl)) ?_
  intro W base args ds gs before hval0 hW hcnd _
  have hval : ∀ (j : Nat) t v, Try.f6.params[j]? = some t → args[j]? = some v → Value.okWide Try.prog W .any base t v := hval0
  have hW' := hW
  obtain ⟨p, q, hA0, hV, rfl, hfz, hnd⟩ := hW
  have hA : DataW.TrodAll enc Try.prog W 0 (fun _ => true) true Try.f6.params.toList args.toList ds p := hA0
  rw [Try.params6] at hA hval
  obtain ⟨v0, vs0, d0, ds0, p0, q0, hargs, rfl, rfl, h0, r0⟩ := trodAll_cons hA
  obtain ⟨v1, vs1, d1, ds1, p1, q1, rfl, rfl, rfl, h1, r1⟩ := trodAll_cons r0
  obtain ⟨v2, vs2, d2, ds2, p2, q2, rfl, rfl, rfl, h2, r2⟩ := trodAll_cons r1
  obtain ⟨rfl, rfl, rfl⟩ := trodAll_nil r2
  obtain rfl : args = #[v0, v1, v2] := by cases args; simp_all
  obtain ⟨rfl, rfl⟩ := trodVars_none hV
  have k0 := h0
  have lt0 : ∀ x ∈ p0, x.block < W.heap.size := by obtain ⟨m, hm⟩ := k0; exact DataW.trod_lt m _ _ _ hm
  obtain ⟨a0, len0, cap0, rfl⟩ := okWide_slice Try.underlying32 (hval 0 32 v0 rfl rfl)
  obtain ⟨z0, w0⟩ : ∃ zs, IsRow .u8 W a0 len0 cap0 zs := by
    obtain ⟨fuel, hf⟩ := h0
    obtain ⟨a', l', c', zs, he, hr⟩ := ints_of_trod Try.underlying32 Try.underlying5 (by kernel_rfl) (show DataW.trod enc Try.prog W 0 (fun _ => true) true fuel 32 [.slice a0 len0 cap0] = _ from hf)
    simp only [Value.slice.injEq] at he
    obtain ⟨rfl, rfl, rfl⟩ := he
    exact ⟨zs, hr⟩
  obtain ⟨a1, rfl, rfl, rfl, w1⟩ := open_int Try.underlying3 (hval 1 3 v1 rfl rfl) h1
  have k2 := h2
  have lt2 : ∀ x ∈ p2, x.block < W.heap.size := by obtain ⟨m, hm⟩ := k2; exact DataW.trod_lt m _ _ _ hm
  obtain ⟨a2, len2, cap2, rfl⟩ := okWide_slice Try.underlying22 (hval 2 22 v2 rfl rfl)
  obtain ⟨z2, w2⟩ : ∃ zs, IsRow .i64 W a2 len2 cap2 zs := by
    obtain ⟨fuel, hf⟩ := h2
    obtain ⟨a', l', c', zs, he, hr⟩ := ints_of_trod Try.underlying22 Try.underlying3 (by kernel_rfl) (show DataW.trod enc Try.prog W 0 (fun _ => true) true fuel 22 [.slice a2 len2 cap2] = _ from hf)
    simp only [Value.slice.injEq] at he
    obtain ⟨rfl, rfl, rfl⟩ := he
    exact ⟨zs, hr⟩
  clear hA0 hval0
  refine (walk a0 len0 cap0 z0 a1 a2 len2 cap2 z2 W w0 w1 w2).mono fun e W' ⟨he, bel⟩ => ?_
  subst he
  exact ⟨_, rfl, _, _, _, [], _, [], hW', trodAll_mk1 (shut_bool Try.underlying4 _), (trodAll_cons_mk (Below.trod laidOut (by kernel_rfl) (of_decide_eq_true (by kernel_rfl)) k0 bel lt0) (trodAll_cons_mk (shut_int Try.underlying3 w1) (trodAll_cons_mk (Below.trod laidOut (by kernel_rfl) (of_decide_eq_true (by kernel_rfl)) k2 bel lt2) trodAll_mk0))), rfl, bel.frame _, fun h => by cases h⟩

theorem over : Rows.huffReadsRow.holds Try.pinned (OpenSpec.ofChange Rows.huffReadsSpec) :=
  OpenClaim.holds_of_wide 6 Try.f6 rfl rfl rfl rfl rfl rfl rfl ⟨rfl, rfl, rfl, rfl, rfl⟩ rfl rfl rfl rfl rfl (by kernel_rfl) Try.func6 (by kernel_rfl)
    (of_decide_eq_true (by kernel_rfl)) (by unfold Func.isWrapper; first | (rw [if_pos (by decide +kernel)]; kernel_rfl) | (rw [if_neg (by decide +kernel)]; exact ⟨rfl, rfl⟩))
    (fun os started H enc _ => lifted os started H enc)

theorem proved : Rows.HuffReadsSaid := over
#print axioms proved
end Go.Proofs.Ytnlahpnpajadpaa.huffReads
