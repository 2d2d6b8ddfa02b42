/- The Go function of the statement CoderAny returns true at every input, and leaves each argument as it read. No condition. -/
import Derived.Test.YtocccimlojeaeaaCp
import Derived.ProofKit
import Derived.OpenShut
import Derived.ShutString
import Derived.ChangeOld
import Derived.Lib.SmallJoins
namespace Go.Proofs.Ytocccimlojeaeaa.coderAny
open Go.ChangeShapes Go.WideShapes Go.ChangeAt Go.RowKit Go.Joins
set_option linter.unusedVariables false
set_option linter.unusedSimpArgs false

theorem own : ownKnob Try.prog.godebug = none := by kernel_rfl
theorem laidOut : laidOutB Try.prog = true := by kernel_rfl

set_option maxRecDepth 10000 in
set_option maxHeartbeats 2000000 in
theorem walk (a0 : Option Addr) (len0 cap0 : Nat) (z0 : List Int) (a1 : Option Addr) (len1 cap1 : Nat) (z1 : List Int) (w : World) (w0 : IsRow .u8 w a0 len0 cap0 z0) (w1 : IsRow .i64 w a1 len1 cap1 z1) :
    Calls Try.prog 10 #[.slice a0 len0 cap0, .slice a1 len1 cap1] w fun e w' => e = .returned (.bool true) ∧ Below w.heap.size w w' := by
  obtain ⟨xs, rfl, hv, hx⟩ := row_rw w0
  obtain ⟨ts, rfl, ht, _⟩ := row_rw_any w1
  clear w0 w1
  by_cases hg : 5000 < xs.length
  · have hg2 : (5000 : Int) < xs.length := by omega
    go_enter Try.func10, Try.ntmps10
    go_wp2_with (go_at_call 11; refine (knows_any _).mono ?_; rintro e w9 ⟨rfl, hb9⟩)
    go_ret
    exact ⟨rfl, hb9⟩
  have hg2 : (xs.length : Int) ≤ 5000 := by omega
  have hl : xs.length ≤ 5000 := by omega
  clear hg
  have hok := De.open_ok hx hl
  have hop := fun w hv => open_any a0 cap0 xs w hv hx hl
  go_enter Try.func10, Try.ntmps10
  go_wp2_with (go_at_call 27; refine (hop _ hv).mono ?_; rintro e w1 ⟨rfl, hb1⟩; unfold decV)
  have hB0 := B4.new w1 (.int .u64 (De.open xs).C) (.int .u32 (De.open xs).R) (.slice a0 (De.open xs).B.length cap0) (.int .i64 (De.open xs).A) 42
  have hbw0 := hb1.alloc hb1.size (.cells #[.int .u64 (De.open xs).C, .int .u32 (De.open xs).R, .slice a0 (De.open xs).B.length cap0, .int .i64 (De.open xs).A] 42)
  have hz1 := hb1.size
  go_loopw [6] (fun i wr => ∃ (k : Nat) (d : De) (a' : Option Addr) (cap' : Nat), k ≤ ts.length ∧ i = .int .i64 k ∧ d.Ok ∧ Rw .u8 w (.slice a' d.B.length cap') d.B ∧ B4 wr w1.heap.size (.int .u64 d.C) (.int .u32 d.R) (.slice a' d.B.length cap') (.int .i64 d.A) ∧ Below w.heap.size w wr) (fun i _ => ts.length - (intOf i).toNat)
  case atStart => exact ⟨0, De.open xs, a0, cap0, by omega, rfl, hok, hv, hB0, hbw0⟩
  case round =>
    obtain ⟨k, d, a', cap', hk, rfl, hdok, hrw, hB, hbw⟩ := hrel
    clear hB0 hbw0 hop hok
    obtain ⟨z, c0, c1, c2, c3, f0, f1, f2, f3⟩ := id hB
    by_cases hlt : k < ts.length
    · by_cases h100 : k < 100
      · obtain ⟨tb, toff, rfl, htb, htc⟩ := (ht.below hbw).at k hlt
        generalize ts.getD k 0 = x at htc
        obtain ⟨Y, hY⟩ : ∃ Y : Nat, IntKind.u64.wrap x = (Y : Int) ∧ Y < 18446744073709551616 := ⟨(x % 18446744073709551616).toNat, by rw [IntKind.wrap_u64]; omega, by omega⟩
        obtain ⟨T, hT, hT2⟩ : ∃ T : Nat, ((Y : Int).tmod 65536) = (T : Int) ∧ T < 65536 := ⟨Y % 65536, rfl, by omega⟩
        obtain ⟨hY, hY2⟩ := hY
        have hget := get_at a' cap' d T wr hdok (hrw.below hbw) hT2
        have hgl := De.get_lt d (1 + T) (by omega)
        have htk := fun w hrw => take_at a' cap' d (d.get (1 + T)) T w hdok hrw hT2 hgl
        generalize d.get (1 + T) = v at hget hgl htk
        have i1 : (0 : Int) ≤ (k : Int) := by omega
        have i2 : (k : Int) < (ts.length : Int) := by omega
        have hv1 : (v : Int) < 1 + (T : Int) := by omega
        clear hgl
        go_wp2_with (first | (go_at_call 20; refine hget.mono ?_; rintro e w2 ⟨rfl, hb2⟩; have hbw2 := bthen hbw hb2 hbw.size; have hB2 := hB.below hb2; have hrw2 := hrw.below hbw2; obtain ⟨z', c0', c1', c2', c3', f0', f1', f2', f3'⟩ := id hB2) | (go_at_call 22; refine (htk _ hrw2).mono ?_; rintro e w3 ⟨a3, cap3, d3, rfl, -, hok3, hrw3, hb3⟩; unfold decV; have hbw3 := bthen hbw2 hb3 hbw2.size; have hB3 := (hB2.below hb3).below (below1 w3 (.cells #[.int .u64 d3.C, .int .u32 d3.R, .slice a3 d3.B.length cap3, .int .i64 d3.A] 42)); have hN3 := B4.new w3 (.int .u64 d3.C) (.int .u32 d3.R) (.slice a3 d3.B.length cap3) (.int .i64 d3.A) 42; have hbx3 := hbw3.alloc hbw3.size (.cells #[.int .u64 d3.C, .int .u32 d3.R, .slice a3 d3.B.length cap3, .int .i64 d3.A] 42)) | (go_at_call 26; refine (rightDec_ok a3 cap3 d3 _ hok3).mono ?_; rintro e w4 ⟨rfl, hb4⟩; have hB4 := hB3.below hb4; have hbx4 := bthen hbx3 hb4 hbx3.size; obtain ⟨z4, k0, k1, k2, k3, m0, m1, m2, m3⟩ := hN3.below hb4; obtain ⟨z5, k0', k1', k2', k3', m0', m1', m2', m3'⟩ := id hB4))
        refine ⟨⟨k + 1, d3, a3, cap3, by omega, by go_num, hok3, hrw3 _ hrw, hB4.set _ _ _ _, bset4 hbx4 _ _ _ _ _ hz1⟩, by simp [intOf]; omega⟩
      · go_wp2_with (go_at_call 11; refine (knows_any _).mono ?_; rintro e w9 ⟨rfl, hb9⟩)
        go_ret
        exact ⟨rfl, bthen hbw hb9 hbw.size⟩
    · go_wp2_with (go_at_call 11; refine (knows_any _).mono ?_; rintro e w9 ⟨rfl, hb9⟩)
      go_ret
      exact ⟨rfl, bthen hbw hb9 hbw.size⟩


set_option maxRecDepth 100000 in
theorem lifted (os : Os) (started : os.Started) (H : Type) (enc : TypeId × Value → H) :
    ReturnsInHanded {} Try.checked os 10 .any (Rows.coderAnySpec.pre6 enc Try.prog Try.f10 Rows.coderAnyRow.domain false) (Rows.coderAnySpec.post enc Try.prog Try.f10 false true false false) := by
  refine returnsInHanded_of_change (C := Try.checked) own started (by kernel_rfl) Try.func10
    (ChangeSpec.witness6 (enc := enc) (C := Try.checked) false ⟨#[], #[.slice none 0 0, .slice none 0 0], []⟩ 8 (by kernel_rfl) (by kernel_rfl) (by kernel_rfl) (by kernel_rfl)) ?_
  intro W base args ds gs before hval0 hW hcnd _
  have hval : ∀ (j : Nat) t v, Try.f10.params[j]? = some t → args[j]? = some v → Value.okWide Try.prog W .any base t v := hval0
  have hW' := hW
  obtain ⟨p, q, hA0, hV, rfl, hfz, hnd⟩ := hW
  have hA : DataW.TrodAll enc Try.prog W 0 (fun _ => true) true Try.f10.params.toList args.toList ds p := hA0
  rw [Try.params10] at hA hval
  obtain ⟨v0, vs0, d0, ds0, p0, q0, hargs, rfl, rfl, h0, r0⟩ := trodAll_cons hA
  obtain ⟨v1, vs1, d1, ds1, p1, q1, rfl, rfl, rfl, h1, r1⟩ := trodAll_cons r0
  obtain ⟨rfl, rfl, rfl⟩ := trodAll_nil r1
  obtain rfl : args = #[v0, v1] := by cases args; simp_all
  obtain ⟨rfl, rfl⟩ := trodVars_none hV
  have k0 := h0
  have lt0 : ∀ x ∈ p0, x.block < W.heap.size := by obtain ⟨m, hm⟩ := k0; exact DataW.trod_lt m _ _ _ hm
  obtain ⟨a0, len0, cap0, rfl⟩ := okWide_slice Try.underlying24 (hval 0 24 v0 rfl rfl)
  obtain ⟨z0, w0⟩ : ∃ zs, IsRow .u8 W a0 len0 cap0 zs := by
    obtain ⟨fuel, hf⟩ := h0
    obtain ⟨a', l', c', zs, he, hr⟩ := ints_of_trod Try.underlying24 Try.underlying5 (by kernel_rfl) (show DataW.trod enc Try.prog W 0 (fun _ => true) true fuel 24 [.slice a0 len0 cap0] = _ from hf)
    simp only [Value.slice.injEq] at he
    obtain ⟨rfl, rfl, rfl⟩ := he
    exact ⟨zs, hr⟩
  have k1 := h1
  have lt1 : ∀ x ∈ p1, x.block < W.heap.size := by obtain ⟨m, hm⟩ := k1; exact DataW.trod_lt m _ _ _ hm
  obtain ⟨a1, len1, cap1, rfl⟩ := okWide_slice Try.underlying31 (hval 1 31 v1 rfl rfl)
  obtain ⟨z1, w1⟩ : ∃ zs, IsRow .i64 W a1 len1 cap1 zs := by
    obtain ⟨fuel, hf⟩ := h1
    obtain ⟨a', l', c', zs, he, hr⟩ := ints_of_trod Try.underlying31 Try.underlying3 (by kernel_rfl) (show DataW.trod enc Try.prog W 0 (fun _ => true) true fuel 31 [.slice a1 len1 cap1] = _ from hf)
    simp only [Value.slice.injEq] at he
    obtain ⟨rfl, rfl, rfl⟩ := he
    exact ⟨zs, hr⟩
  clear hA0 hval0
  refine (walk a0 len0 cap0 z0 a1 len1 cap1 z1 W w0 w1).mono fun e W' ⟨he, bel⟩ => ?_
  subst he
  exact ⟨_, rfl, _, _, _, [], _, [], hW', trodAll_mk1 (shut_bool Try.underlying4 _), (trodAll_cons_mk (Below.trod laidOut (by kernel_rfl) (of_decide_eq_true (by kernel_rfl)) k0 bel lt0) (trodAll_cons_mk (Below.trod laidOut (by kernel_rfl) (of_decide_eq_true (by kernel_rfl)) k1 bel lt1) trodAll_mk0)), rfl, bel.frame _, fun h => by cases h⟩

theorem over : Rows.coderAnyRow.holds Try.pinned (OpenSpec.ofChange Rows.coderAnySpec) :=
  OpenClaim.holds_of_wide 10 Try.f10 rfl rfl rfl rfl rfl rfl rfl ⟨rfl, rfl, rfl, rfl, rfl⟩ rfl rfl rfl rfl rfl (by kernel_rfl) Try.func10 (by kernel_rfl)
    (of_decide_eq_true (by kernel_rfl)) (by unfold Func.isWrapper; first | (rw [if_pos (by decide +kernel)]; kernel_rfl) | (rw [if_neg (by decide +kernel)]; exact ⟨rfl, rfl⟩))
    (fun os started H enc _ => lifted os started H enc)

theorem proved : Rows.CoderAnySaid := over
#print axioms proved
end Go.Proofs.Ytocccimlojeaeaa.coderAny
