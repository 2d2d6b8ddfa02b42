/- The Go function of the statement GainTakes returns true at every input, and leaves each argument as it read. No condition. -/
import Derived.Test.YtkfpphccpkfenaaJi
import Derived.ProofKit
import Derived.OpenShut
import Derived.ShutString
import Derived.ChangeOld
import Derived.Lib.SmallJoins
namespace Go.Proofs.Ytkfpphccpkfenaa.gainTakes
open Go.ChangeShapes Go.WideShapes Go.ChangeAt Go.RowKit Go.Joins
set_option linter.unusedVariables false
set_option linter.unusedSimpArgs false

theorem own : ownKnob Try.prog.godebug = none := by kernel_rfl
theorem laidOut : laidOutB Try.prog = true := by kernel_rfl

set_option maxRecDepth 10000 in
set_option maxHeartbeats 4000000 in
theorem walk (a1 : Int) (a2 : Int) (a3 : Option Addr) (len3 cap3 : Nat) (z3 : List Int) (a4 : Int) (a5 : Option Addr) (len5 cap5 : Nat) (z5 : List Int) (a6 : Bool) (w : World) (w1 : (Lit.int .u64 a1).wf = true) (w2 : (Lit.int .u32 a2).wf = true) (w3 : IsRow .u8 w a3 len3 cap3 z3) (w4 : (Lit.int .i64 a4).wf = true) (w5 : IsRow .i64 w a5 len5 cap5 z5) :
    Calls Try.prog 4 #[.agg #[.int .u64 a1, .int .u32 a2, .slice a3 len3 cap3, .int .i64 a4], .slice a5 len5 cap5, .bool a6] w fun e w' => e = .returned (.bool true) ∧ Below w.heap.size w w' := by
  obtain ⟨xs, rfl, hv, hx⟩ := row_rw w3
  obtain ⟨ys, rfl, hu, hy⟩ := row_rw_any w5
  have hW := below1 w (.cells #[.int .u64 a1, .int .u32 a2, .slice a3 xs.length cap3, .int .i64 a4] 30)
  have hgr := fun W => great_any 0 0 none 0 0 a1 a2 a3 xs.length cap3 a4 none 0 0 a5 ys.length cap5 W
  by_cases hg : 5000 < 0 ∨ 5000 < xs.length ∨ 100 < 0 ∨ 100 < ys.length
  · rw [decide_eq_true hg] at hgr
    clear hg
    go_enter Try.func4, Try.ntmps4
    go_wp2_with (first | (go_at_call 9; refine (hgr _).mono ?_; rintro e w0 ⟨rfl, hb0⟩; have hbw0 := bthen hW hb0 hW.size) | (go_at_call 10; refine (knows_any _).mono ?_; rintro e w9 ⟨rfl, hb9⟩))
    go_ret
    exact ⟨rfl, bthen hbw0 hb9 hbw0.size⟩
  rw [decide_eq_false hg] at hgr
  have hxl : xs.length ≤ 5000 := by omega
  have hyl : ys.length ≤ 100 := by omega
  obtain ⟨d, hdv⟩ := dv_some w1 w2 w4 w3 hxl
  clear w1 w2 w3 w4 w5 hg hv hx hy hxl
  have hrr := fun W h => rright_any a5 ys.length cap5 ys rfl hyl W h
  have hta := fun (hb : gokB ys = false) W h => gtake_arg a1 a2 a3 xs.length cap3 a4 a5 ys.length cap5 ys rfl W h hb
  have htk := fun (hb : (a6 || gokB ys) = true) W h h2 => gtake_any a1 a2 a3 xs.length cap3 a4 d a5 ys.length cap5 ys a6 rfl W h h2 hb
  have hrtk := fun (hb : (a6 || gokB ys) = true) a c W h h2 => rgtake_any a c d a5 ys.length cap5 ys a6 rfl W hdv.1 h h2 hb
  have has := fun W => asDec_any a1 a2 a3 xs.length cap3 a4 d w W hdv
  have hDok := dK_ok hdv.1 a6 5
  have hDB := dK_B d a6 5
  have hVl : (vK a6 d ys 5).length ≤ 100 := by rw [vK_len]; decide
  have HRB : Hid (∀ (W : World) (a : Option Addr) (c : Nat), Rw .u8 W (.slice a d.B.length c) d.B → Rw .u8 W (.slice a (dK a6 d 5).B.length c) (dK a6 d 5).B) := fun W a c hh => row_sameB hDB hh
  have hsd := fun a1 a2 c1 c2 W r1 r2 => sameDec_true a1 a2 c1 c2 (dK a6 d 5) W hDok r1 r2
  have hsm := fun v1 v2 W h1 h2 => same_yes v1 v2 (vK a6 d ys 5) W h1 h2 hVl
  clear hDB hVl hDok hyl
  generalize dK a6 d 5 = D at *
  generalize vK a6 d ys 5 = V at *
  generalize gokB ys = q at *
  unfold TakeP at htk
  unfold RTakeP at hrtk
  unfold decV decW at hsd
  have HDV := hid hdv
  have HU := hid hu
  clear hdv hu
  generalize xs.length = nx at *
  generalize ys.length = ny at *
  cases a6
  · cases q
    · have hta2 := hta rfl
      clear htk hrtk hsd hsm has hta
      go_enter Try.func4, Try.ntmps4
      go_wp2_with (first | (go_at_call 9; refine (hgr _).mono ?_; rintro e w0 ⟨rfl, hb0⟩; have hbw0 := bthen hW hb0 hW.size; have hB0 := (B4.new w (.int .u64 a1) (.int .u32 a2) (.slice a3 nx cap3) (.int .i64 a4) 30).below hb0; obtain ⟨z0, c0, c1, c2, c3, f0, f1, f2, f3⟩ := id hB0) | (go_at_call 17; refine (hta2 _ (HU.out.below hbw0)).mono ?_; rintro e w1 ⟨rfl, hb1⟩; have hbw1' := bthen hbw0 hb1 hbw0.size; have hbw1 := hbw1'.alloc hbw1'.size (.cells #[.int .u64 0, .int .u32 0, .slice none 0 0, .int .i64 0] 30)) | (go_at_call 16; refine (hrr _ (HU.out.below hbw1)).mono ?_; rintro e w9 ⟨rfl, h9⟩; have h9 := h9.symm; subst h9) | (go_at_call 10; refine (knows_any _).mono ?_; rintro e w9 ⟨rfl, hb9⟩))
      go_ret
      exact ⟨rfl, bthen hbw1 hb9 hbw1.size⟩
    · have htk := htk rfl
      have hrtk := hrtk rfl
      clear hta
      go_enter Try.func4, Try.ntmps4
      go_wp2_with (first | (go_at_call 9; refine (hgr _).mono ?_; rintro e w0 ⟨rfl, hb0⟩; have hbw0 := bthen hW hb0 hW.size; have hB0 := (B4.new w (.int .u64 a1) (.int .u32 a2) (.slice a3 nx cap3) (.int .i64 a4) 30).below hb0; obtain ⟨z0, c0, c1, c2, c3, f0, f1, f2, f3⟩ := id hB0) | (go_at_call 17; refine (htk _ (HDV.out.below hbw0) (HU.out.below hbw0)).mono ?_; rintro e w1 ⟨aD, cD, gD, rfl, hrG, hqD, hb1⟩; have hbw1' := bthen hbw0 hb1 hbw0.size; have hbw1 := hbw1'.alloc hbw1'.size (.cells #[.int .u64 D.C, .int .u32 D.R, .slice aD D.B.length cD, .int .i64 D.A] 30); have hN1 := B4.new w1 (.int .u64 D.C) (.int .u32 D.R) (.slice aD D.B.length cD) (.int .i64 D.A) 30; have hB1 := (hB0.below hb1).below (below1 w1 (.cells #[.int .u64 D.C, .int .u32 D.R, .slice aD D.B.length cD, .int .i64 D.A] 30)); have hG1 := hrG.rw.below (below1 w1 (.cells #[.int .u64 D.C, .int .u32 D.R, .slice aD D.B.length cD, .int .i64 D.A] 30)); obtain ⟨z1, d0, d1, d2, d3, g0, g1, g2, g3⟩ := id hB1; obtain ⟨y1, e0, e1, e2, e3, h0, h1, h2, h3⟩ := id hN1) | (go_at_call 16; refine (hrr _ (HU.out.below hbw1)).mono ?_; rintro e w9 ⟨rfl, h9⟩; have h9 := h9.symm; subst h9) | (go_at_call 19; refine (has _).mono ?_; rintro e w2 ⟨aK, cK, rfl, hrK, hb2⟩; have hbw2 := bthen hbw1 hb2 hbw1.size; have hN2 := hN1.below hb2; have hG2 := hG1.below hb2; unfold decW) | (go_at_call 18; refine (hrtk _ _ _ (hrK.below hbw2) (HU.out.below hbw2)).mono ?_; rintro e w3 ⟨oV, rfl, hrV, hb3⟩; have hbw3' := bthen hbw2 hb3 hbw2.size; have hbw3 := hbw3'.alloc hbw3'.size (.cells #[.int .u64 D.C, .int .u64 D.R, .slice aK D.B.length cK, .int .i64 D.A] 46); have hN3 := (hN2.below hb3).below (below1 w3 (.cells #[.int .u64 D.C, .int .u64 D.R, .slice aK D.B.length cK, .int .i64 D.A] 46)); have hG3 := (hG2.below hb3).below (below1 w3 (.cells #[.int .u64 D.C, .int .u64 D.R, .slice aK D.B.length cK, .int .i64 D.A] 46)); have hV3 := hrV.below (below1 w3 (.cells #[.int .u64 D.C, .int .u64 D.R, .slice aK D.B.length cK, .int .i64 D.A] 46)); have hrD3 := (hqD _ HDV.out).below hbw3; have hrK3 := (HRB.out _ _ _ hrK).below hbw3; obtain ⟨z3, k0, k1, k2, k3, m0, m1, m2, m3⟩ := id hN3; obtain ⟨z4, r0, r1, r2, r3, s0, s1, s2, s3⟩ := B4.new w3 (.int .u64 D.C) (.int .u64 D.R) (.slice aK D.B.length cK) (.int .i64 D.A) 46) | (go_at_call 20; refine (hsd _ _ _ _ _ hrD3 hrK3).mono ?_; rintro e w4 ⟨rfl, hb4⟩; have hbw4 := bthen hbw3 hb4 hbw3.size; have hG4 := hG3.below hb4; have hV4 := hV3.below hb4) | (go_at_call 21; refine (hsm _ _ _ hG4 hV4).mono ?_; rintro e w5 ⟨rfl, hb5⟩; have hbw5 := bthen hbw4 hb5 hbw4.size) | (go_at_call 10; refine (knows_any _).mono ?_; rintro e w9 ⟨rfl, hb9⟩))
      go_ret
      exact ⟨rfl, bthen hbw5 hb9 hbw5.size⟩
  · have htk := htk rfl
    have hrtk := hrtk rfl
    clear hta
    go_enter Try.func4, Try.ntmps4
    go_wp2_with (first | (go_at_call 9; refine (hgr _).mono ?_; rintro e w0 ⟨rfl, hb0⟩; have hbw0 := bthen hW hb0 hW.size; have hB0 := (B4.new w (.int .u64 a1) (.int .u32 a2) (.slice a3 nx cap3) (.int .i64 a4) 30).below hb0; obtain ⟨z0, c0, c1, c2, c3, f0, f1, f2, f3⟩ := id hB0) | (go_at_call 17; refine (htk _ (HDV.out.below hbw0) (HU.out.below hbw0)).mono ?_; rintro e w1 ⟨aD, cD, gD, rfl, hrG, hqD, hb1⟩; have hbw1' := bthen hbw0 hb1 hbw0.size; have hbw1 := hbw1'.alloc hbw1'.size (.cells #[.int .u64 D.C, .int .u32 D.R, .slice aD D.B.length cD, .int .i64 D.A] 30); have hN1 := B4.new w1 (.int .u64 D.C) (.int .u32 D.R) (.slice aD D.B.length cD) (.int .i64 D.A) 30; have hB1 := (hB0.below hb1).below (below1 w1 (.cells #[.int .u64 D.C, .int .u32 D.R, .slice aD D.B.length cD, .int .i64 D.A] 30)); have hG1 := hrG.rw.below (below1 w1 (.cells #[.int .u64 D.C, .int .u32 D.R, .slice aD D.B.length cD, .int .i64 D.A] 30)); obtain ⟨z1, d0, d1, d2, d3, g0, g1, g2, g3⟩ := id hB1; obtain ⟨y1, e0, e1, e2, e3, h0, h1, h2, h3⟩ := id hN1) | (go_at_call 16; refine (hrr _ (HU.out.below hbw1)).mono ?_; rintro e w9 ⟨rfl, h9⟩; have h9 := h9.symm; subst h9) | (go_at_call 19; refine (has _).mono ?_; rintro e w2 ⟨aK, cK, rfl, hrK, hb2⟩; have hbw2 := bthen hbw1 hb2 hbw1.size; have hN2 := hN1.below hb2; have hG2 := hG1.below hb2; unfold decW) | (go_at_call 18; refine (hrtk _ _ _ (hrK.below hbw2) (HU.out.below hbw2)).mono ?_; rintro e w3 ⟨oV, rfl, hrV, hb3⟩; have hbw3' := bthen hbw2 hb3 hbw2.size; have hbw3 := hbw3'.alloc hbw3'.size (.cells #[.int .u64 D.C, .int .u64 D.R, .slice aK D.B.length cK, .int .i64 D.A] 46); have hN3 := (hN2.below hb3).below (below1 w3 (.cells #[.int .u64 D.C, .int .u64 D.R, .slice aK D.B.length cK, .int .i64 D.A] 46)); have hG3 := (hG2.below hb3).below (below1 w3 (.cells #[.int .u64 D.C, .int .u64 D.R, .slice aK D.B.length cK, .int .i64 D.A] 46)); have hV3 := hrV.below (below1 w3 (.cells #[.int .u64 D.C, .int .u64 D.R, .slice aK D.B.length cK, .int .i64 D.A] 46)); have hrD3 := (hqD _ HDV.out).below hbw3; have hrK3 := (HRB.out _ _ _ hrK).below hbw3; obtain ⟨z3, k0, k1, k2, k3, m0, m1, m2, m3⟩ := id hN3; obtain ⟨z4, r0, r1, r2, r3, s0, s1, s2, s3⟩ := B4.new w3 (.int .u64 D.C) (.int .u64 D.R) (.slice aK D.B.length cK) (.int .i64 D.A) 46) | (go_at_call 20; refine (hsd _ _ _ _ _ hrD3 hrK3).mono ?_; rintro e w4 ⟨rfl, hb4⟩; have hbw4 := bthen hbw3 hb4 hbw3.size; have hG4 := hG3.below hb4; have hV4 := hV3.below hb4) | (go_at_call 21; refine (hsm _ _ _ hG4 hV4).mono ?_; rintro e w5 ⟨rfl, hb5⟩; have hbw5 := bthen hbw4 hb5 hbw4.size) | (go_at_call 10; refine (knows_any _).mono ?_; rintro e w9 ⟨rfl, hb9⟩))
    go_ret
    exact ⟨rfl, bthen hbw5 hb9 hbw5.size⟩


set_option maxRecDepth 100000 in
theorem lifted (os : Os) (started : os.Started) (H : Type) (enc : TypeId × Value → H) :
    ReturnsInHanded {} Try.checked os 4 .any (Rows.gainTakesSpec.pre6 enc Try.prog Try.f4 Rows.gainTakesRow.domain false) (Rows.gainTakesSpec.post enc Try.prog Try.f4 false true false false) := by
  refine returnsInHanded_of_change (C := Try.checked) own started (by kernel_rfl) Try.func4
    (ChangeSpec.witness6 (enc := enc) (C := Try.checked) false ⟨#[], #[.agg #[.int .u64 0, .int .u32 0, .slice none 0 0, .int .i64 0], .slice none 0 0, .bool false], []⟩ 8 (by kernel_rfl) (by kernel_rfl) (by kernel_rfl) (by kernel_rfl)) ?_
  intro W base args ds gs before hval0 hW hcnd _
  have hval : ∀ (j : Nat) t v, Try.f4.params[j]? = some t → args[j]? = some v → Value.okWide Try.prog W .any base t v := hval0
  have hW' := hW
  obtain ⟨p, q, hA0, hV, rfl, hfz, hnd⟩ := hW
  have hA : DataW.TrodAll enc Try.prog W 0 (fun _ => true) true Try.f4.params.toList args.toList ds p := hA0
  rw [Try.params4] at hA hval
  obtain ⟨v0, vs0, d0, ds0, p0, q0, hargs, rfl, rfl, h0, r0⟩ := trodAll_cons hA
  obtain ⟨v1, vs1, d1, ds1, p1, q1, rfl, rfl, rfl, h1, r1⟩ := trodAll_cons r0
  obtain ⟨v2, vs2, d2, ds2, p2, q2, rfl, rfl, rfl, h2, r2⟩ := trodAll_cons r1
  obtain ⟨rfl, rfl, rfl⟩ := trodAll_nil r2
  obtain rfl : args = #[v0, v1, v2] := by cases args; simp_all
  obtain ⟨rfl, rfl⟩ := trodVars_none hV
  have k0 := h0
  have lt0 : ∀ x ∈ p0, x.block < W.heap.size := by obtain ⟨m, hm⟩ := k0; exact DataW.trod_lt m _ _ _ hm
  obtain ⟨c00, c01, c02, c03, y00, y01, y02, y03, m0, rfl, hd0, hp0, hy00, hy01, hy02, hy03⟩ := open_agg4 Try.underlying30 (by kernel_rfl) (by kernel_rfl) (hval 0 30 v0 rfl rfl) h0
  clear hd0 hp0
  obtain ⟨a1, e1, _, w1⟩ := DataW.trod_int Try.underlying22 hy00
  simp only [List.cons.injEq, and_true] at e1
  subst e1
  obtain ⟨a2, e2, _, w2⟩ := DataW.trod_int Try.underlying23 hy01
  simp only [List.cons.injEq, and_true] at e2
  subst e2
  obtain ⟨a3, len3, cap3, z3, e3, w3⟩ := ints_of_trod Try.underlying24 Try.underlying5 (by kernel_rfl) hy02
  subst e3
  obtain ⟨a4, e4, _, w4⟩ := DataW.trod_int Try.underlying3 hy03
  simp only [List.cons.injEq, and_true] at e4
  subst e4
  have k1 := h1
  have lt1 : ∀ x ∈ p1, x.block < W.heap.size := by obtain ⟨m, hm⟩ := k1; exact DataW.trod_lt m _ _ _ hm
  obtain ⟨a5, len5, cap5, rfl⟩ := okWide_slice Try.underlying27 (hval 1 27 v1 rfl rfl)
  obtain ⟨z5, w5⟩ : ∃ zs, IsRow .i64 W a5 len5 cap5 zs := by
    obtain ⟨fuel, hf⟩ := h1
    obtain ⟨a', l', c', zs, he, hr⟩ := ints_of_trod Try.underlying27 Try.underlying3 (by kernel_rfl) (show DataW.trod enc Try.prog W 0 (fun _ => true) true fuel 27 [.slice a5 len5 cap5] = _ from hf)
    simp only [Value.slice.injEq] at he
    obtain ⟨rfl, rfl, rfl⟩ := he
    exact ⟨zs, hr⟩
  obtain ⟨a6, rfl, rfl, rfl⟩ := open_bool Try.underlying4 (hval 2 4 v2 rfl rfl) h2
  clear hA0 hval0
  refine (walk a1 a2 a3 len3 cap3 z3 a4 a5 len5 cap5 z5 a6 W w1 w2 w3 w4 w5).mono fun e W' ⟨he, bel⟩ => ?_
  subst he
  exact ⟨_, rfl, _, _, _, [], _, [], hW', trodAll_mk1 (shut_bool Try.underlying4 _), (trodAll_cons_mk (Below.trod laidOut (by kernel_rfl) (of_decide_eq_true (by kernel_rfl)) k0 bel lt0) (trodAll_cons_mk (Below.trod laidOut (by kernel_rfl) (of_decide_eq_true (by kernel_rfl)) k1 bel lt1) (trodAll_cons_mk (shut_bool Try.underlying4 _) trodAll_mk0))), rfl, bel.frame _, fun h => by cases h⟩

theorem over : Rows.gainTakesRow.holds Try.pinned (OpenSpec.ofChange Rows.gainTakesSpec) :=
  OpenClaim.holds_of_wide 4 Try.f4 rfl rfl rfl rfl rfl rfl rfl ⟨rfl, rfl, rfl, rfl, rfl⟩ rfl rfl rfl rfl rfl (by kernel_rfl) Try.func4 (by kernel_rfl)
    (of_decide_eq_true (by kernel_rfl)) (by unfold Func.isWrapper; first | (rw [if_pos (by decide +kernel)]; kernel_rfl) | (rw [if_neg (by decide +kernel)]; exact ⟨rfl, rfl⟩))
    (fun os started H enc _ => lifted os started H enc)

theorem proved : Rows.GainTakesSaid := over
#print axioms proved
end Go.Proofs.Ytkfpphccpkfenaa.gainTakes
