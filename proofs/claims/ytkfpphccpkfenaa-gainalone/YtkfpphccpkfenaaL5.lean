/- The Go function of the statement GainAlone returns true at every input, and leaves each argument as it read. No condition. -/
import Derived.Test.YtkfpphccpkfenaaJi
import Derived.Deep.RegionHeld3
import Derived.Deep.CutRange
import Derived.Deep.DeepCutAuto
import Derived.ProofKit
import Derived.OpenShut
import Derived.ShutString
import Derived.ChangeOld
import Derived.Lib.SmallJoins
namespace Go.Proofs.Ytkfpphccpkfenaa.gainAlone
open Go.ChangeShapes Go.WideShapes Go.ChangeAt Go.RowKit Go.Joins
set_option linter.unusedVariables false
set_option linter.unusedSimpArgs false

theorem own : ownKnob Try.prog.godebug = none := by kernel_rfl
theorem laidOut : laidOutB Try.prog = true := by kernel_rfl

theorem gp_alone (e : En) (x y z : List Int) : gpE e x y true = gpE e x z true ∧ gpF e x y true = gpF e x z true := by
  have h1 : gpB x y true = gpB x z true := by unfold gpB; simp
  have h2 : chK true x y 5 = chK true x z 5 := rfl
  unfold gpE gpF
  rw [h1, h2]
  exact ⟨rfl, rfl⟩
theorem vk_alone (d : De) (y z : List Int) : vK true d y 5 = vK true d z 5 := by
  unfold vK
  exact tab_congr fun i hi => by rw [vG_alone, vG_alone]
/-- Two structs of three cells each, in memory. -/
def E6 (w : World) (b c : Nat) (x0 x1 x2 y0 y1 y2 : Value) : Prop := w.cell? ⟨b, 0, none⟩ = some x0 ∧ w.cell? ⟨b, 1, none⟩ = some x1 ∧ w.cell? ⟨b, 2, none⟩ = some x2 ∧ w.cell? ⟨c, 0, none⟩ = some y0 ∧ w.cell? ⟨c, 1, none⟩ = some y1 ∧ w.cell? ⟨c, 2, none⟩ = some y2
theorem E6.of {w w' : World} {b c : Nat} {x0 x1 x2 y0 y1 y2 : Value} (h1 : B3 w b x0 x1 x2) (h2 : B3 w c y0 y1 y2) (hb : Below w.heap.size w w') : E6 w' b c x0 x1 x2 y0 y1 y2 :=
  ⟨(h1.below hb).c0, (h1.below hb).c1, (h1.below hb).c2, (h2.below hb).c0, (h2.below hb).c1, (h2.below hb).c2⟩
/-- Two structs of four cells each, in memory. -/
def E8 (w : World) (b c : Nat) (x0 x1 x2 x3 y0 y1 y2 y3 : Value) : Prop := w.cell? ⟨b, 0, none⟩ = some x0 ∧ w.cell? ⟨b, 1, none⟩ = some x1 ∧ w.cell? ⟨b, 2, none⟩ = some x2 ∧ w.cell? ⟨b, 3, none⟩ = some x3 ∧ w.cell? ⟨c, 0, none⟩ = some y0 ∧ w.cell? ⟨c, 1, none⟩ = some y1 ∧ w.cell? ⟨c, 2, none⟩ = some y2 ∧ w.cell? ⟨c, 3, none⟩ = some y3
theorem E8.of {w w' : World} {b c : Nat} {x0 x1 x2 x3 y0 y1 y2 y3 : Value} (h1 : B4 w b x0 x1 x2 x3) (h2 : B4 w c y0 y1 y2 y3) (hb : Below w.heap.size w w') : E8 w' b c x0 x1 x2 x3 y0 y1 y2 y3 :=
  ⟨(h1.below hb).c0, (h1.below hb).c1, (h1.below hb).c2, (h1.below hb).c3, (h2.below hb).c0, (h2.below hb).c1, (h2.below hb).c2, (h2.below hb).c3⟩

set_option maxRecDepth 10000 in
set_option maxHeartbeats 4000000 in
theorem walk (a1 : Int) (a2 : Int) (a3 : Option Addr) (len3 cap3 : Nat) (z3 : List Int) (a5 : Int) (a6 : Int) (a7 : Option Addr) (len7 cap7 : Nat) (z7 : List Int) (a8 : Int) (a9 : Option Addr) (len9 cap9 : Nat) (z9 : List Int) (a10 : Option Addr) (len10 cap10 : Nat) (z10 : List Int) (a11 : Option Addr) (len11 cap11 : Nat) (z11 : List Int) (w : World) (w1 : (Lit.int .u64 a1).wf = true) (w2 : (Lit.int .u32 a2).wf = true) (w3 : IsRow .u8 w a3 len3 cap3 z3) (w5 : (Lit.int .u64 a5).wf = true) (w6 : (Lit.int .u32 a6).wf = true) (w7 : IsRow .u8 w a7 len7 cap7 z7) (w8 : (Lit.int .i64 a8).wf = true) (w9 : IsRow .i64 w a9 len9 cap9 z9) (w10 : IsRow .i64 w a10 len10 cap10 z10) (w11 : IsRow .i64 w a11 len11 cap11 z11) :
    Calls Try.prog 7 #[.agg #[.int .u64 a1, .int .u32 a2, .slice a3 len3 cap3], .agg #[.int .u64 a5, .int .u32 a6, .slice a7 len7 cap7, .int .i64 a8], .slice a9 len9 cap9, .slice a10 len10 cap10, .slice a11 len11 cap11] w fun e w' => e = .returned (.bool true) ∧ Below w.heap.size w w' := by
  obtain ⟨bs, rfl, hbv, hbx⟩ := row_rw w7
  obtain ⟨xs, rfl, hv, hx⟩ := row_rw_any w9
  obtain ⟨ys, rfl, hu, hy⟩ := row_rw_any w10
  obtain ⟨zs, rfl, ht, hz⟩ := row_rw_any w11
  obtain ⟨E, hev⟩ := ev_some w1 w2 w3
  have hdv0 := fun hl => dv_some w5 w6 w8 w7 hl
  clear w1 w2 w3 w5 w6 w7 w8 w9 w10 w11 hbv hbx hx hy hz
  generalize bs.length = nd at *
  have hW := below2 w (.cells #[.int .u64 a1, .int .u32 a2, .slice a3 len3 cap3] 26) (.cells #[.int .u64 a5, .int .u32 a6, .slice a7 nd cap7, .int .i64 a8] 30)
  have hgr := fun W => great_any a1 a2 a3 len3 cap3 a5 a6 a7 nd cap7 a8 a9 xs.length cap9 a10 ys.length cap10 W
  by_cases hg : 5000 < len3 ∨ 5000 < nd ∨ 100 < xs.length ∨ 100 < ys.length
  · rw [decide_eq_true hg] at hgr
    clear hg
    go_enter Try.func7, Try.ntmps7
    go_wp2_with (first | (go_at_call 9; refine (hgr _).mono ?_; rintro e w0 ⟨rfl, hb0⟩; have hbw0 := bthen hW hb0 hW.size) | (go_at_call 10; refine (knows_any _).mono ?_; rintro e w9 ⟨rfl, hb9⟩))
    go_ret
    exact ⟨rfl, bthen hbw0 hb9 hbw0.size⟩
  rw [decide_eq_false hg] at hgr
  have hxl : xs.length ≤ 100 := by omega
  have hyl : ys.length ≤ 100 := by omega
  have hdl : nd ≤ 5000 := by omega
  obtain ⟨d, hdv⟩ := hdv0 hdl
  clear hg hdv0 hdl
  by_cases hzl : 100 < zs.length
  · have hzl2 : (100 : Int) < (zs.length : Int) := by omega
    clear hzl
    generalize zs.length = nz at *
    go_enter Try.func7, Try.ntmps7
    go_wp2_with (first | (go_at_call 9; refine (hgr _).mono ?_; rintro e w0 ⟨rfl, hb0⟩; have hbw0 := bthen hW hb0 hW.size) | (go_at_call 10; refine (knows_any _).mono ?_; rintro e w9 ⟨rfl, hb9⟩))
    go_ret
    exact ⟨rfl, bthen hbw0 hb9 hbw0.size⟩
  have hzl2 : (zs.length : Int) ≤ 100 := by omega
  have hput1 := fun W h h1 h2 => gput_any a1 a2 a3 len3 cap3 E a9 xs.length cap9 xs a10 ys.length cap10 ys true rfl rfl W h h1 h2
  have hput2 := fun W h h1 h2 => gput_any a1 a2 a3 len3 cap3 E a9 xs.length cap9 xs a11 zs.length cap11 zs true rfl rfl W h h1 h2
  rw [(gp_alone E xs zs ys).1, (gp_alone E xs zs ys).2] at hput2
  have htk7 := fun W h h2 => gtake_any a5 a6 a7 nd cap7 a8 d a10 ys.length cap10 ys true rfl W h h2 rfl
  have htk8 := fun W h h2 => gtake_any a5 a6 a7 nd cap7 a8 d a11 zs.length cap11 zs true rfl W h h2 rfl
  rw [vk_alone d zs ys] at htk8
  have hFok := gpE_ok hev.1 xs ys true
  have hDok := dK_ok hdv.1 true 5
  have hVl : (vK true d ys 5).length ≤ 100 := by rw [vK_len]; decide
  generalize gpE E xs ys true = F at *
  generalize gpF E xs ys true = er at *
  generalize dK true d 5 = D at *
  generalize vK true d ys 5 = V at *
  have hsm := fun v1 v2 W h1 h2 => same_yes v1 v2 V W h1 h2 hVl
  have hsd := fun a1 a2 c1 c2 W r1 r2 => sameDec_true a1 a2 c1 c2 D W hDok r1 r2
  have hse := fun a c R2 a2 n2 c2 W h h2 => sameEnc_true F.low F.R a F.m c R2 a2 n2 c2 F W h hFok.encB h2
  have has := fun a c W h => asEnc_ev F.low F.R a F.m c F W h
  have had := fun a c W W0 hr => asDec_any D.C D.R a D.B.length c D.A D W0 W (hDok.dv hr)
  have hF := ev_row hFok
  unfold PutP at hput1 hput2
  unfold TakeP at htk7 htk8
  unfold decV decW at hsd
  unfold decW at had
  have HEV := hid hev
  have HDV := hid hdv
  have HV := hid hv
  have HU := hid hu
  have HT := hid ht
  clear hxl hyl hzl hFok hDok hVl hev hdv hv hu ht
  generalize xs.length = nx at *
  generalize ys.length = ny at *
  generalize zs.length = nz at *
  go_enter Try.func7, Try.ntmps7
  go_wp2_with (first
    | (go_at_call 9; refine (hgr _).mono ?_; rintro e w0 ⟨rfl, hb0⟩; have hbw0 := bthen hW hb0 hW.size; have hB0 := ((B3.new w (.int .u64 a1) (.int .u32 a2) (.slice a3 len3 cap3) 26).below (below1 _ (.cells #[.int .u64 a5, .int .u32 a6, .slice a7 nd cap7, .int .i64 a8] 30))).below hb0; have hK0 := (B4.new2 w (.cells #[.int .u64 a1, .int .u32 a2, .slice a3 len3 cap3] 26) (.int .u64 a5) (.int .u32 a6) (.slice a7 nd cap7) (.int .i64 a8) 30).below hb0; obtain ⟨z0, c0, c1, c2, f0, f1, f2⟩ := id hB0)
    | (go_at_call_of 11 (Value.slice a10 ny cap10); refine (hput1 _ (HEV.out.below hbw0) (HV.out.below hbw0) (HU.out.below hbw0)).mono ?_; rintro e w1 ⟨aF1, cF1, rfl, hrF1, hb1⟩; have hbw1' := bthen hbw0 hb1 hbw0.size; have hbw1 := hbw1'.alloc hbw1'.size (.cells #[.int .u64 F.low, .int .u32 F.R, .slice aF1 F.m cF1] 26); have hB1 := (hB0.below hb1).below (below1 w1 (.cells #[.int .u64 F.low, .int .u32 F.R, .slice aF1 F.m cF1] 26)); have hK1 := (hK0.below hb1).below (below1 w1 (.cells #[.int .u64 F.low, .int .u32 F.R, .slice aF1 F.m cF1] 26)); obtain ⟨z1, x0, x1, x2, g0, g1, g2⟩ := id hB1; have hN1 := B3.new w1 (.int .u64 F.low) (.int .u32 F.R) (.slice aF1 F.m cF1) 26; have hev1 := hF _ _ _ (hrF1.below (below1 w1 (.cells #[.int .u64 F.low, .int .u32 F.R, .slice aF1 F.m cF1] 26))))
    | (go_at_call_of 11 (Value.slice a11 nz cap11); refine (hput2 _ (HEV.out.below hbw1) (HV.out.below hbw1) (HT.out.below hbw1)).mono ?_; rintro e w2 ⟨aF2, cF2, rfl, hrF2, hb2⟩; have hbw2' := bthen hbw1 hb2 hbw1.size; have hbw2 := hbw2'.alloc hbw2'.size (.cells #[.int .u64 F.low, .int .u32 F.R, .slice aF2 F.m cF2] 26); have hK2 := (hK1.below hb2).below (below1 w2 (.cells #[.int .u64 F.low, .int .u32 F.R, .slice aF2 F.m cF2] 26)); have hP2 := (hN1.below hb2).below (below1 w2 (.cells #[.int .u64 F.low, .int .u32 F.R, .slice aF2 F.m cF2] 26)); have hev1b := (hev1.below hb2).below (below1 w2 (.cells #[.int .u64 F.low, .int .u32 F.R, .slice aF2 F.m cF2] 26)); have hN2 := B3.new w2 (.int .u64 F.low) (.int .u32 F.R) (.slice aF2 F.m cF2) 26; have hev2 := hF _ _ _ (hrF2.below (below1 w2 (.cells #[.int .u64 F.low, .int .u32 F.R, .slice aF2 F.m cF2] 26)))))
  obtain ⟨zz1, x10, x11, x12, xf0, xf1, xf2⟩ := id hP2
  obtain ⟨zz2, x20, x21, x22, xf3, xf4, xf5⟩ := id hN2
  generalize (w2.alloc (.cells #[.int .u64 F.low, .int .u32 F.R, .slice aF2 F.m cF2] 26)) = W5 at *
  go_region_held3 (fun w' => w'.cell? ⟨w1.heap.size, 0, none⟩ = some (.int .u64 F.low) ∧ w'.cell? ⟨w1.heap.size, 1, none⟩ = some (.int .u32 F.R) ∧ w'.cell? ⟨w1.heap.size, 2, none⟩ = some (.slice aF1 F.m cF1) ∧ w'.cell? ⟨w2.heap.size, 0, none⟩ = some (.int .u64 F.low) ∧ w'.cell? ⟨w2.heap.size, 1, none⟩ = some (.int .u32 F.R) ∧ w'.cell? ⟨w2.heap.size, 2, none⟩ = some (.slice aF2 F.m cF2)) (exact E6.of hP2 hN2 (by first | exact (Below.refl _ _).drew | exact hy1 | exact hy2 | exact hy3 | exact hy4)) (first | (go_at_call 13; refine (has _ _ _ (hev2.below (by first | exact (Below.refl _ _).drew | exact hy1 | exact hy2 | exact hy3 | exact hy4))).mono ?_; rintro e y1 ⟨RE, aE, nE, cE, rfl, hre, hq1⟩; have hy1 := bthen (Below.refl W5.heap.size W5).drew hq1 (Nat.le_refl _)) | (go_at_call 14; refine (hse _ _ _ _ _ _ _ (hev1b.below hy1) hre).mono ?_; rintro e y2 ⟨rfl, hq2⟩; have hy2 := bthen hy1 hq2 hy1.size))
  have hK5 := hK2.below hy2
  have hbw5 := bthen hbw2 hy2 hbw2.size
  obtain ⟨kz, k0, k1, k2, k3, kf0, kf1, kf2, kf3⟩ := id hK5
  clear hy1 hy2
  go_wp2_with (first
    | (go_at_call_of 17 (Value.slice a10 ny cap10); refine (htk7 _ (HDV.out.below hbw5) (HU.out.below hbw5)).mono ?_; rintro e w7 ⟨aD7, cD7, gD7, rfl, hrG7, hqD7, hb7⟩; have hbw7' := bthen hbw5 hb7 hbw5.size; have hbw7 := hbw7'.alloc hbw7'.size (.cells #[.int .u64 D.C, .int .u32 D.R, .slice aD7 D.B.length cD7, .int .i64 D.A] 30); have hK7 := (hK5.below hb7).below (below1 w7 (.cells #[.int .u64 D.C, .int .u32 D.R, .slice aD7 D.B.length cD7, .int .i64 D.A] 30)); obtain ⟨kz7, j0, j1, j2, j3, jf0, jf1, jf2, jf3⟩ := id hK7; have hM7 := B4.new w7 (.int .u64 D.C) (.int .u32 D.R) (.slice aD7 D.B.length cD7) (.int .i64 D.A) 30; have hG7 := hrG7.rw.below (below1 w7 (.cells #[.int .u64 D.C, .int .u32 D.R, .slice aD7 D.B.length cD7, .int .i64 D.A] 30)))
    | (go_at_call_of 17 (Value.slice a11 nz cap11); refine (htk8 _ (HDV.out.below hbw7) (HT.out.below hbw7)).mono ?_; rintro e w8 ⟨aD8, cD8, gD8, rfl, hrG8, hqD8, hb8⟩; have hbw8' := bthen hbw7 hb8 hbw7.size; have hbw8 := hbw8'.alloc hbw8'.size (.cells #[.int .u64 D.C, .int .u32 D.R, .slice aD8 D.B.length cD8, .int .i64 D.A] 30); have hQ8 := (hM7.below hb8).below (below1 w8 (.cells #[.int .u64 D.C, .int .u32 D.R, .slice aD8 D.B.length cD8, .int .i64 D.A] 30)); have hG7b := (hG7.below hb8).below (below1 w8 (.cells #[.int .u64 D.C, .int .u32 D.R, .slice aD8 D.B.length cD8, .int .i64 D.A] 30)); have hM8 := B4.new w8 (.int .u64 D.C) (.int .u32 D.R) (.slice aD8 D.B.length cD8) (.int .i64 D.A) 30; have hG8 := hrG8.rw.below (below1 w8 (.cells #[.int .u64 D.C, .int .u32 D.R, .slice aD8 D.B.length cD8, .int .i64 D.A] 30))))
  have hrw7 := (hqD7 _ HDV.out).below hbw8
  have hrw8 := (hqD8 _ HDV.out).below hbw8
  obtain ⟨yz1, x10', x11', x12', x13', xf0', xf1', xf2', xf3'⟩ := id hQ8
  obtain ⟨yz2, x20', x21', x22', x23', xf4', xf5', xf6', xf7'⟩ := id hM8
  generalize (w8.alloc (.cells #[.int .u64 D.C, .int .u32 D.R, .slice aD8 D.B.length cD8, .int .i64 D.A] 30)) = W9 at *
  go_region_held3 (fun w' => w'.cell? ⟨w7.heap.size, 0, none⟩ = some (.int .u64 D.C) ∧ w'.cell? ⟨w7.heap.size, 1, none⟩ = some (.int .u32 D.R) ∧ w'.cell? ⟨w7.heap.size, 2, none⟩ = some (.slice aD7 D.B.length cD7) ∧ w'.cell? ⟨w7.heap.size, 3, none⟩ = some (.int .i64 D.A) ∧ w'.cell? ⟨w8.heap.size, 0, none⟩ = some (.int .u64 D.C) ∧ w'.cell? ⟨w8.heap.size, 1, none⟩ = some (.int .u32 D.R) ∧ w'.cell? ⟨w8.heap.size, 2, none⟩ = some (.slice aD8 D.B.length cD8) ∧ w'.cell? ⟨w8.heap.size, 3, none⟩ = some (.int .i64 D.A)) (exact E8.of hQ8 hM8 (by first | exact (Below.refl _ _).drew | exact hy1 | exact hy2 | exact hy3 | exact hy4)) (first | (go_at_call 21; refine (hsm _ _ _ (hG7b.below (by first | exact (Below.refl _ _).drew | exact hy1 | exact hy2 | exact hy3 | exact hy4)) (hG8.below (by first | exact (Below.refl _ _).drew | exact hy1 | exact hy2 | exact hy3 | exact hy4))).mono ?_; rintro e y1 ⟨rfl, hq1⟩; have hy1 := bthen (Below.refl W9.heap.size W9).drew hq1 (Nat.le_refl _)) | (go_at_call 19; refine (had _ _ _ W9 hrw8).mono ?_; rintro e y2 ⟨aK, cK, rfl, hrK, hq2⟩; have hy2 := bthen hy1 hq2 hy1.size) | (go_at_call 20; refine (hsd _ _ _ _ _ (hrw7.below hy2) (hrK.below hy2)).mono ?_; rintro e y3 ⟨rfl, hq3⟩; have hy3 := bthen hy2 hq3 hy2.size) | (go_at_call 10; refine (knows_any _).mono ?_; rintro e y4 ⟨rfl, hq4⟩; have hy4 := bthen hy3 hq4 hy3.size))
  go_wp2
  go_ret
  exact ⟨rfl, bthen hbw8 hy4 hbw8.size⟩


set_option maxRecDepth 100000 in
theorem lifted (os : Os) (started : os.Started) (H : Type) (enc : TypeId × Value → H) :
    ReturnsInHanded {} Try.checked os 7 .any (Rows.gainAloneSpec.pre6 enc Try.prog Try.f7 Rows.gainAloneRow.domain false) (Rows.gainAloneSpec.post enc Try.prog Try.f7 false true false false) := by
  refine returnsInHanded_of_change (C := Try.checked) own started (by kernel_rfl) Try.func7
    (ChangeSpec.witness6 (enc := enc) (C := Try.checked) false ⟨#[], #[.agg #[.int .u64 0, .int .u32 0, .slice none 0 0], .agg #[.int .u64 0, .int .u32 0, .slice none 0 0, .int .i64 0], .slice none 0 0, .slice none 0 0, .slice none 0 0], []⟩ 8 (by kernel_rfl) (by kernel_rfl) (by kernel_rfl) (by kernel_rfl)) ?_
  intro W base args ds gs before hval0 hW hcnd _
  have hval : ∀ (j : Nat) t v, Try.f7.params[j]? = some t → args[j]? = some v → Value.okWide Try.prog W .any base t v := hval0
  have hW' := hW
  obtain ⟨p, q, hA0, hV, rfl, hfz, hnd⟩ := hW
  have hA : DataW.TrodAll enc Try.prog W 0 (fun _ => true) true Try.f7.params.toList args.toList ds p := hA0
  rw [Try.params7] at hA hval
  obtain ⟨v0, vs0, d0, ds0, p0, q0, hargs, rfl, rfl, h0, r0⟩ := trodAll_cons hA
  obtain ⟨v1, vs1, d1, ds1, p1, q1, rfl, rfl, rfl, h1, r1⟩ := trodAll_cons r0
  obtain ⟨v2, vs2, d2, ds2, p2, q2, rfl, rfl, rfl, h2, r2⟩ := trodAll_cons r1
  obtain ⟨v3, vs3, d3, ds3, p3, q3, rfl, rfl, rfl, h3, r3⟩ := trodAll_cons r2
  obtain ⟨v4, vs4, d4, ds4, p4, q4, rfl, rfl, rfl, h4, r4⟩ := trodAll_cons r3
  obtain ⟨rfl, rfl, rfl⟩ := trodAll_nil r4
  obtain rfl : args = #[v0, v1, v2, v3, v4] := by cases args; simp_all
  obtain ⟨rfl, rfl⟩ := trodVars_none hV
  have k0 := h0
  have lt0 : ∀ x ∈ p0, x.block < W.heap.size := by obtain ⟨m, hm⟩ := k0; exact DataW.trod_lt m _ _ _ hm
  obtain ⟨c00, c01, c02, y00, y01, y02, m0, rfl, hd0, hp0, hy00, hy01, hy02⟩ := open_agg3 Try.underlying26 (by kernel_rfl) (by kernel_rfl) (hval 0 26 v0 rfl rfl) h0
  clear hd0 hp0
  obtain ⟨a1, e1, _, w1⟩ := DataW.trod_int Try.underlying22 hy00
  simp only [List.cons.injEq, and_true] at e1
  subst e1
  obtain ⟨a2, e2, _, w2⟩ := DataW.trod_int Try.underlying23 hy01
  simp only [List.cons.injEq, and_true] at e2
  subst e2
  obtain ⟨a3, len3, cap3, z3, e3, w3⟩ := ints_of_trod Try.underlying24 Try.underlying5 (by kernel_rfl) hy02
  subst e3
  have k1 := h1
  have lt1 : ∀ x ∈ p1, x.block < W.heap.size := by obtain ⟨m, hm⟩ := k1; exact DataW.trod_lt m _ _ _ hm
  obtain ⟨c10, c11, c12, c13, y10, y11, y12, y13, m1, rfl, hd1, hp1, hy10, hy11, hy12, hy13⟩ := open_agg4 Try.underlying30 (by kernel_rfl) (by kernel_rfl) (hval 1 30 v1 rfl rfl) h1
  clear hd1 hp1
  obtain ⟨a5, e5, _, w5⟩ := DataW.trod_int Try.underlying22 hy10
  simp only [List.cons.injEq, and_true] at e5
  subst e5
  obtain ⟨a6, e6, _, w6⟩ := DataW.trod_int Try.underlying23 hy11
  simp only [List.cons.injEq, and_true] at e6
  subst e6
  obtain ⟨a7, len7, cap7, z7, e7, w7⟩ := ints_of_trod Try.underlying24 Try.underlying5 (by kernel_rfl) hy12
  subst e7
  obtain ⟨a8, e8, _, w8⟩ := DataW.trod_int Try.underlying3 hy13
  simp only [List.cons.injEq, and_true] at e8
  subst e8
  have k2 := h2
  have lt2 : ∀ x ∈ p2, x.block < W.heap.size := by obtain ⟨m, hm⟩ := k2; exact DataW.trod_lt m _ _ _ hm
  obtain ⟨a9, len9, cap9, rfl⟩ := okWide_slice Try.underlying27 (hval 2 27 v2 rfl rfl)
  obtain ⟨z9, w9⟩ : ∃ zs, IsRow .i64 W a9 len9 cap9 zs := by
    obtain ⟨fuel, hf⟩ := h2
    obtain ⟨a', l', c', zs, he, hr⟩ := ints_of_trod Try.underlying27 Try.underlying3 (by kernel_rfl) (show DataW.trod enc Try.prog W 0 (fun _ => true) true fuel 27 [.slice a9 len9 cap9] = _ from hf)
    simp only [Value.slice.injEq] at he
    obtain ⟨rfl, rfl, rfl⟩ := he
    exact ⟨zs, hr⟩
  have k3 := h3
  have lt3 : ∀ x ∈ p3, x.block < W.heap.size := by obtain ⟨m, hm⟩ := k3; exact DataW.trod_lt m _ _ _ hm
  obtain ⟨a10, len10, cap10, rfl⟩ := okWide_slice Try.underlying27 (hval 3 27 v3 rfl rfl)
  obtain ⟨z10, w10⟩ : ∃ zs, IsRow .i64 W a10 len10 cap10 zs := by
    obtain ⟨fuel, hf⟩ := h3
    obtain ⟨a', l', c', zs, he, hr⟩ := ints_of_trod Try.underlying27 Try.underlying3 (by kernel_rfl) (show DataW.trod enc Try.prog W 0 (fun _ => true) true fuel 27 [.slice a10 len10 cap10] = _ from hf)
    simp only [Value.slice.injEq] at he
    obtain ⟨rfl, rfl, rfl⟩ := he
    exact ⟨zs, hr⟩
  have k4 := h4
  have lt4 : ∀ x ∈ p4, x.block < W.heap.size := by obtain ⟨m, hm⟩ := k4; exact DataW.trod_lt m _ _ _ hm
  obtain ⟨a11, len11, cap11, rfl⟩ := okWide_slice Try.underlying27 (hval 4 27 v4 rfl rfl)
  obtain ⟨z11, w11⟩ : ∃ zs, IsRow .i64 W a11 len11 cap11 zs := by
    obtain ⟨fuel, hf⟩ := h4
    obtain ⟨a', l', c', zs, he, hr⟩ := ints_of_trod Try.underlying27 Try.underlying3 (by kernel_rfl) (show DataW.trod enc Try.prog W 0 (fun _ => true) true fuel 27 [.slice a11 len11 cap11] = _ from hf)
    simp only [Value.slice.injEq] at he
    obtain ⟨rfl, rfl, rfl⟩ := he
    exact ⟨zs, hr⟩
  clear hA0 hval0
  refine (walk a1 a2 a3 len3 cap3 z3 a5 a6 a7 len7 cap7 z7 a8 a9 len9 cap9 z9 a10 len10 cap10 z10 a11 len11 cap11 z11 W w1 w2 w3 w5 w6 w7 w8 w9 w10 w11).mono fun e W' ⟨he, bel⟩ => ?_
  subst he
  exact ⟨_, rfl, _, _, _, [], _, [], hW', trodAll_mk1 (shut_bool Try.underlying4 _), (trodAll_cons_mk (Below.trod laidOut (by kernel_rfl) (of_decide_eq_true (by kernel_rfl)) k0 bel lt0) (trodAll_cons_mk (Below.trod laidOut (by kernel_rfl) (of_decide_eq_true (by kernel_rfl)) k1 bel lt1) (trodAll_cons_mk (Below.trod laidOut (by kernel_rfl) (of_decide_eq_true (by kernel_rfl)) k2 bel lt2) (trodAll_cons_mk (Below.trod laidOut (by kernel_rfl) (of_decide_eq_true (by kernel_rfl)) k3 bel lt3) (trodAll_cons_mk (Below.trod laidOut (by kernel_rfl) (of_decide_eq_true (by kernel_rfl)) k4 bel lt4) trodAll_mk0))))), rfl, bel.frame _, fun h => by cases h⟩

theorem over : Rows.gainAloneRow.holds Try.pinned (OpenSpec.ofChange Rows.gainAloneSpec) :=
  OpenClaim.holds_of_wide 7 Try.f7 rfl rfl rfl rfl rfl rfl rfl ⟨rfl, rfl, rfl, rfl, rfl⟩ rfl rfl rfl rfl rfl (by kernel_rfl) Try.func7 (by kernel_rfl)
    (of_decide_eq_true (by kernel_rfl)) (by unfold Func.isWrapper; first | (rw [if_pos (by decide +kernel)]; kernel_rfl) | (rw [if_neg (by decide +kernel)]; exact ⟨rfl, rfl⟩))
    (fun os started H enc _ => lifted os started H enc)

theorem proved : Rows.GainAloneSaid := over
#print axioms proved
end Go.Proofs.Ytkfpphccpkfenaa.gainAlone
