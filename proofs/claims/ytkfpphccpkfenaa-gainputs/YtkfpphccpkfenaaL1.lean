/- The Go function of the statement GainPuts returns true at every input, and leaves each argument as it read. No condition. -/
import Derived.Test.YtkfpphccpkfenaaJi
import Derived.ProofKit
import Derived.OpenShut
import Derived.ShutString
import Derived.ChangeOld
import Derived.Lib.SmallJoins
namespace Go.Proofs.Ytkfpphccpkfenaa.gainPuts
open Go.ChangeShapes Go.WideShapes Go.ChangeAt Go.RowKit Go.Joins
set_option linter.unusedVariables false
set_option linter.unusedSimpArgs false

theorem own : ownKnob Try.prog.godebug = none := by kernel_rfl
theorem laidOut : laidOutB Try.prog = true := by kernel_rfl

set_option maxRecDepth 10000 in
set_option maxHeartbeats 4000000 in
theorem walk (a1 : Int) (a2 : Int) (a3 : Option Addr) (len3 cap3 : Nat) (z3 : List Int) (a4 : Option Addr) (len4 cap4 : Nat) (z4 : List Int) (a5 : Option Addr) (len5 cap5 : Nat) (z5 : List Int) (a6 : Bool) (w : World) (w1 : (Lit.int .u64 a1).wf = true) (w2 : (Lit.int .u32 a2).wf = true) (w3 : IsRow .u8 w a3 len3 cap3 z3) (w4 : IsRow .i64 w a4 len4 cap4 z4) (w5 : IsRow .i64 w a5 len5 cap5 z5) :
    Calls Try.prog 3 #[.agg #[.int .u64 a1, .int .u32 a2, .slice a3 len3 cap3], .slice a4 len4 cap4, .slice a5 len5 cap5, .bool a6] w fun e w' => e = .returned (.bool true) ∧ Below w.heap.size w w' := by
  obtain ⟨xs, rfl, hv, hx⟩ := row_rw_any w4
  obtain ⟨ys, rfl, hu, hy⟩ := row_rw_any w5
  obtain ⟨E, hev⟩ := ev_some w1 w2 w3
  clear w1 w2 w3 w4 w5
  have hW := below1 w (.cells #[.int .u64 a1, .int .u32 a2, .slice a3 len3 cap3] 26)
  have hgr := fun W => great_any a1 a2 a3 len3 cap3 0 0 none 0 0 0 a4 xs.length cap4 a5 ys.length cap5 W
  by_cases hg : 5000 < len3 ∨ 5000 < 0 ∨ 100 < xs.length ∨ 100 < ys.length
  · rw [decide_eq_true hg] at hgr
    clear hg
    go_enter Try.func3, Try.ntmps3
    go_wp2_with (first | (go_at_call 9; refine (hgr _).mono ?_; rintro e w0 ⟨rfl, hb0⟩; have hbw0 := bthen hW hb0 hW.size) | (go_at_call 10; refine (knows_any _).mono ?_; rintro e w9 ⟨rfl, hb9⟩))
    go_ret
    exact ⟨rfl, bthen hbw0 hb9 hbw0.size⟩
  rw [decide_eq_false hg] at hgr
  have hxl : xs.length ≤ 100 := by omega
  have hyl : ys.length ≤ 100 := by omega
  have hput := fun W h h1 h2 => gput_any a1 a2 a3 len3 cap3 E a4 xs.length cap4 xs a5 ys.length cap5 ys a6 rfl rfl W h h1 h2
  have hrput := fun R a n c W h h1 h2 => rgput_any R a n c E a4 xs.length cap4 xs a5 ys.length cap5 ys a6 rfl rfl hxl hyl W h h1 h2
  have has := fun W h => asEnc_ev a1 a2 a3 len3 cap3 E W h
  have hrt := fun W h => right_any a4 xs.length cap4 xs rfl W h
  have hrr := fun W h => rright_any a4 xs.length cap4 xs rfl hxl W h
  have hFok := gpE_ok hev.1 xs ys a6
  generalize gpE E xs ys a6 = F at *
  generalize gpF E xs ys a6 = er at *
  generalize gokB xs = gk at *
  have hse := fun a c R2 a2 n2 c2 W h h2 => sameEnc_true F.low F.R a F.m c R2 a2 n2 c2 F W h hFok.encB h2
  have hF := ev_row hFok
  unfold PutP at hput
  unfold RPut at hrput
  have HEV := hid hev
  have HV := hid hv
  have HU := hid hu
  clear hg hxl hyl hx hy hFok hev hv hu
  generalize xs.length = nx at *
  generalize ys.length = ny at *
  go_enter Try.func3, Try.ntmps3
  go_wp2_with (first
    | (go_at_call 9; refine (hgr _).mono ?_; rintro e w0 ⟨rfl, hb0⟩; have hbw0 := bthen hW hb0 hW.size; have hB0 := (B3.new w (.int .u64 a1) (.int .u32 a2) (.slice a3 len3 cap3) 26).below hb0; obtain ⟨z0, c0, c1, c2, f0, f1, f2⟩ := id hB0)
    | (go_at_call 11; refine (hput _ (HEV.out.below hbw0) (HV.out.below hbw0) (HU.out.below hbw0)).mono ?_; rintro e w1 ⟨aF, cF, rfl, hrF, hb1⟩; have hbw1' := bthen hbw0 hb1 hbw0.size; have hbw1 := hbw1'.alloc hbw1'.size (.cells #[.int .u64 F.low, .int .u32 F.R, .slice aF F.m cF] 26); have hN1 := B3.new w1 (.int .u64 F.low) (.int .u32 F.R) (.slice aF F.m cF) 26; have hev1 := hF _ _ _ (hrF.below (below1 w1 (.cells #[.int .u64 F.low, .int .u32 F.R, .slice aF F.m cF] 26))); have hB1 := (hB0.below hb1).below (below1 w1 (.cells #[.int .u64 F.low, .int .u32 F.R, .slice aF F.m cF] 26)); obtain ⟨z1, d0, d1, d2, g0, g1, g2⟩ := id hB1)
    | (go_at_call 13; refine (has _ (HEV.out.below hbw1)).mono ?_; rintro e w2 ⟨RE, aE, nE, cE, rfl, hre, hb2⟩; have hbw2 := bthen hbw1 hb2 hbw1.size; have hN2 := hN1.below hb2; have hev2 := hev1.below hb2)
    | (go_at_call 12; refine (hrput _ _ _ _ _ hre (HV.out.below hbw2) (HU.out.below hbw2)).mono ?_; rintro e w3 ⟨RG, aG, nG, cG, rfl, hrg, hb3⟩; have hbw3' := bthen hbw2 hb3 hbw2.size; have hbw3 := hbw3'.alloc hbw3'.size (.cells #[.int .u64 RG, .slice aG nG cG] 36); have hN3 := (hN2.below hb3).below (below1 w3 (.cells #[.int .u64 RG, .slice aG nG cG] 36)); have hev3 := (hev2.below hb3).below (below1 w3 (.cells #[.int .u64 RG, .slice aG nG cG] 36)); have hrg3 := hrg.below (below1 w3 (.cells #[.int .u64 RG, .slice aG nG cG] 36)); obtain ⟨z3, k0, k1, k2, m0, m1, m2⟩ := id hN3; obtain ⟨z4, r0, r1, s0, s1⟩ := B2.new w3 (.int .u64 RG) (.slice aG nG cG) 36)
    | (go_at_call 14; refine (hse _ _ _ _ _ _ _ hev3 hrg3).mono ?_; rintro e w4 ⟨rfl, hb4⟩; have hbw4 := bthen hbw3 hb4 hbw3.size)
    | (go_at_call 15; refine (hrt _ (HV.out.below hbw4)).mono ?_; rintro e w9 ⟨rfl, h9⟩; have h9 := h9.symm; subst h9)
    | (go_at_call 16; refine (hrr _ (HV.out.below hbw4)).mono ?_; rintro e w9 ⟨rfl, h9⟩; have h9 := h9.symm; subst h9)
    | (go_at_call 10; refine (knows_any _).mono ?_; rintro e w9 ⟨rfl, hb9⟩))
  go_ret
  exact ⟨rfl, bthen hbw4 hb9 hbw4.size⟩


set_option maxRecDepth 100000 in
theorem lifted (os : Os) (started : os.Started) (H : Type) (enc : TypeId × Value → H) :
    ReturnsInHanded {} Try.checked os 3 .any (Rows.gainPutsSpec.pre6 enc Try.prog Try.f3 Rows.gainPutsRow.domain false) (Rows.gainPutsSpec.post enc Try.prog Try.f3 false true false false) := by
  refine returnsInHanded_of_change (C := Try.checked) own started (by kernel_rfl) Try.func3
    (ChangeSpec.witness6 (enc := enc) (C := Try.checked) false ⟨#[], #[.agg #[.int .u64 0, .int .u32 0, .slice none 0 0], .slice none 0 0, .slice none 0 0, .bool false], []⟩ 8 (by kernel_rfl) (by kernel_rfl) (by kernel_rfl) (by kernel_rfl)) ?_
  intro W base args ds gs before hval0 hW hcnd _
  have hval : ∀ (j : Nat) t v, Try.f3.params[j]? = some t → args[j]? = some v → Value.okWide Try.prog W .any base t v := hval0
  have hW' := hW
  obtain ⟨p, q, hA0, hV, rfl, hfz, hnd⟩ := hW
  have hA : DataW.TrodAll enc Try.prog W 0 (fun _ => true) true Try.f3.params.toList args.toList ds p := hA0
  rw [Try.params3] at hA hval
  obtain ⟨v0, vs0, d0, ds0, p0, q0, hargs, rfl, rfl, h0, r0⟩ := trodAll_cons hA
  obtain ⟨v1, vs1, d1, ds1, p1, q1, rfl, rfl, rfl, h1, r1⟩ := trodAll_cons r0
  obtain ⟨v2, vs2, d2, ds2, p2, q2, rfl, rfl, rfl, h2, r2⟩ := trodAll_cons r1
  obtain ⟨v3, vs3, d3, ds3, p3, q3, rfl, rfl, rfl, h3, r3⟩ := trodAll_cons r2
  obtain ⟨rfl, rfl, rfl⟩ := trodAll_nil r3
  obtain rfl : args = #[v0, v1, v2, v3] := by cases args; simp_all
  obtain ⟨rfl, rfl⟩ := trodVars_none hV
  have k0 := h0
  have lt0 : ∀ x ∈ p0, x.block < W.heap.size := by obtain ⟨m, hm⟩ := k0; exact DataW.trod_lt m _ _ _ hm
  obtain ⟨c00, c01, c02, y00, y01, y02, m0, rfl, hd0, hp0, hy00, hy01, hy02⟩ := open_agg3 Try.underlying26 (by kernel_rfl) (by kernel_rfl) (hval 0 26 v0 rfl rfl) h0
  clear hd0 hp0
  obtain ⟨a1, e1, _, w1⟩ := DataW.trod_int Try.underlying22 hy00
  simp only [List.cons.injEq, and_true] at e1
  subst e1
  obtain ⟨a2, e2, _, w2⟩ := DataW.trod_int Try.underlying23 hy01
  simp only [List.cons.injEq, and_true] at e2
  subst e2
  obtain ⟨a3, len3, cap3, z3, e3, w3⟩ := ints_of_trod Try.underlying24 Try.underlying5 (by kernel_rfl) hy02
  subst e3
  have k1 := h1
  have lt1 : ∀ x ∈ p1, x.block < W.heap.size := by obtain ⟨m, hm⟩ := k1; exact DataW.trod_lt m _ _ _ hm
  obtain ⟨a4, len4, cap4, rfl⟩ := okWide_slice Try.underlying27 (hval 1 27 v1 rfl rfl)
  obtain ⟨z4, w4⟩ : ∃ zs, IsRow .i64 W a4 len4 cap4 zs := by
    obtain ⟨fuel, hf⟩ := h1
    obtain ⟨a', l', c', zs, he, hr⟩ := ints_of_trod Try.underlying27 Try.underlying3 (by kernel_rfl) (show DataW.trod enc Try.prog W 0 (fun _ => true) true fuel 27 [.slice a4 len4 cap4] = _ from hf)
    simp only [Value.slice.injEq] at he
    obtain ⟨rfl, rfl, rfl⟩ := he
    exact ⟨zs, hr⟩
  have k2 := h2
  have lt2 : ∀ x ∈ p2, x.block < W.heap.size := by obtain ⟨m, hm⟩ := k2; exact DataW.trod_lt m _ _ _ hm
  obtain ⟨a5, len5, cap5, rfl⟩ := okWide_slice Try.underlying27 (hval 2 27 v2 rfl rfl)
  obtain ⟨z5, w5⟩ : ∃ zs, IsRow .i64 W a5 len5 cap5 zs := by
    obtain ⟨fuel, hf⟩ := h2
    obtain ⟨a', l', c', zs, he, hr⟩ := ints_of_trod Try.underlying27 Try.underlying3 (by kernel_rfl) (show DataW.trod enc Try.prog W 0 (fun _ => true) true fuel 27 [.slice a5 len5 cap5] = _ from hf)
    simp only [Value.slice.injEq] at he
    obtain ⟨rfl, rfl, rfl⟩ := he
    exact ⟨zs, hr⟩
  obtain ⟨a6, rfl, rfl, rfl⟩ := open_bool Try.underlying4 (hval 3 4 v3 rfl rfl) h3
  clear hA0 hval0
  refine (walk a1 a2 a3 len3 cap3 z3 a4 len4 cap4 z4 a5 len5 cap5 z5 a6 W w1 w2 w3 w4 w5).mono fun e W' ⟨he, bel⟩ => ?_
  subst he
  exact ⟨_, rfl, _, _, _, [], _, [], hW', trodAll_mk1 (shut_bool Try.underlying4 _), (trodAll_cons_mk (Below.trod laidOut (by kernel_rfl) (of_decide_eq_true (by kernel_rfl)) k0 bel lt0) (trodAll_cons_mk (Below.trod laidOut (by kernel_rfl) (of_decide_eq_true (by kernel_rfl)) k1 bel lt1) (trodAll_cons_mk (Below.trod laidOut (by kernel_rfl) (of_decide_eq_true (by kernel_rfl)) k2 bel lt2) (trodAll_cons_mk (shut_bool Try.underlying4 _) trodAll_mk0)))), rfl, bel.frame _, fun h => by cases h⟩

theorem over : Rows.gainPutsRow.holds Try.pinned (OpenSpec.ofChange Rows.gainPutsSpec) :=
  OpenClaim.holds_of_wide 3 Try.f3 rfl rfl rfl rfl rfl rfl rfl ⟨rfl, rfl, rfl, rfl, rfl⟩ rfl rfl rfl rfl rfl (by kernel_rfl) Try.func3 (by kernel_rfl)
    (of_decide_eq_true (by kernel_rfl)) (by unfold Func.isWrapper; first | (rw [if_pos (by decide +kernel)]; kernel_rfl) | (rw [if_neg (by decide +kernel)]; exact ⟨rfl, rfl⟩))
    (fun os started H enc _ => lifted os started H enc)

theorem proved : Rows.GainPutsSaid := over
#print axioms proved
end Go.Proofs.Ytkfpphccpkfenaa.gainPuts
