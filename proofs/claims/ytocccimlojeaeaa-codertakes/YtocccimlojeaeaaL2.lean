/- The Go function of the statement CoderTakes returns true at every input, and leaves each argument as it read. No condition. -/
import Derived.Test.YtocccimlojeaeaaCp
import Derived.Deep.RegionHeld3
import Derived.ProofKit
import Derived.OpenShut
import Derived.ShutString
import Derived.ChangeOld
import Derived.Lib.SmallJoins
namespace Go.Proofs.Ytocccimlojeaeaa.coderTakes
open Go.ChangeShapes Go.WideShapes Go.ChangeAt Go.RowKit Go.Joins
set_option linter.unusedVariables false
set_option linter.unusedSimpArgs false

theorem own : ownKnob Try.prog.godebug = none := by kernel_rfl
theorem laidOut : laidOutB Try.prog = true := by kernel_rfl

/-- Two structs of four cells each, in memory. -/
def E8 (w : World) (b c : Nat) (x0 x1 x2 x3 y0 y1 y2 y3 : Value) : Prop := w.cell? ⟨b, 0, none⟩ = some x0 ∧ w.cell? ⟨b, 1, none⟩ = some x1 ∧ w.cell? ⟨b, 2, none⟩ = some x2 ∧ w.cell? ⟨b, 3, none⟩ = some x3 ∧ w.cell? ⟨c, 0, none⟩ = some y0 ∧ w.cell? ⟨c, 1, none⟩ = some y1 ∧ w.cell? ⟨c, 2, none⟩ = some y2 ∧ w.cell? ⟨c, 3, none⟩ = some y3
theorem E8.of {w w' : World} {b c : Nat} {x0 x1 x2 x3 y0 y1 y2 y3 : Value} (h1 : B4 w b x0 x1 x2 x3) (h2 : B4 w c y0 y1 y2 y3) (hb : Below w.heap.size w w') : E8 w' b c x0 x1 x2 x3 y0 y1 y2 y3 :=
  ⟨(h1.below hb).c0, (h1.below hb).c1, (h1.below hb).c2, (h1.below hb).c3, (h2.below hb).c0, (h2.below hb).c1, (h2.below hb).c2, (h2.below hb).c3⟩
theorem fair_tot {lo hi tot : Int} (h : tot < 1 ∨ 65536 < tot) : fairB lo hi tot = false := by
  unfold fairB; rw [decide_eq_false_iff_not]; omega

set_option maxRecDepth 10000 in
set_option maxHeartbeats 4000000 in
theorem walk (a1 : Int) (a2 : Int) (a3 : Option Addr) (len3 cap3 : Nat) (z3 : List Int) (a4 : Int) (a5 : Int) (a6 : Int) (a7 : Int) (w : World) (w1 : (Lit.int .u64 a1).wf = true) (w2 : (Lit.int .u32 a2).wf = true) (w3 : IsRow .u8 w a3 len3 cap3 z3) (w4 : (Lit.int .i64 a4).wf = true) (w5 : (Lit.int .i64 a5).wf = true) (w6 : (Lit.int .i64 a6).wf = true) (w7 : (Lit.int .i64 a7).wf = true) :
    Calls Try.prog 4 #[.agg #[.int .u64 a1, .int .u32 a2, .slice a3 len3 cap3, .int .i64 a4], .int .i64 a5, .int .i64 a6, .int .i64 a7] w fun e w' => e = .returned (.bool true) ∧ Below w.heap.size w w' := by
  have hlen := (row_rw w3)
  obtain ⟨xs, hxl, hv, hx⟩ := hlen
  subst hxl
  by_cases hg : 5000 < xs.length
  · have hg2 : (5000 : Int) < xs.length := by omega
    have hW := below1 w (.cells #[.int .u64 a1, .int .u32 a2, .slice a3 xs.length cap3, .int .i64 a4] 42)
    go_enter Try.func4, Try.ntmps4
    go_wp2_with (go_at_call 11; refine (knows_any _).mono ?_; rintro e w9 ⟨rfl, hb9⟩)
    go_ret
    exact ⟨rfl, bthen hW hb9 hW.size⟩
  have hg2 : (xs.length : Int) ≤ 5000 := by omega
  obtain ⟨d, hd⟩ := dv_some w1 w2 w4 w3 (by omega)
  clear w1 w2 w3 w4 w5 w6 w7 hg hv hx
  by_cases htot : a7 < 1 ∨ 65536 < a7
  · have hf := fair_tot (lo := a5) (hi := a6) htot
    have htk := fun w h => take_arg a1 a2 a3 xs.length cap3 a4 d a5 a6 a7 w h hf
    by_cases h1 : a7 < 1
    · go_enter Try.func4, Try.ntmps4
      go_wp2_with (first | (go_at_call 19; refine (asDec_any _ _ _ _ _ _ d w _ hd).mono ?_; rintro e w1 ⟨ak, capk, rfl, hrk, hb1⟩; unfold decW; have hW1 := bthen (below1 w (.cells #[.int .u64 a1, .int .u32 a2, .slice a3 xs.length cap3, .int .i64 a4] 42)) hb1 (by simp); have hBd := ((B4.new w (.int .u64 a1) (.int .u32 a2) (.slice a3 xs.length cap3) (.int .i64 a4) 42).below hb1).below (below1 w1 (.cells #[.int .u64 d.C, .int .u64 d.R, .slice ak d.B.length capk, .int .i64 d.A] 44)); have hBk := B4.new w1 (.int .u64 d.C) (.int .u64 d.R) (.slice ak d.B.length capk) (.int .i64 d.A) 44; have hX1 := hW1.alloc hW1.size (.cells #[.int .u64 d.C, .int .u64 d.R, .slice ak d.B.length capk, .int .i64 d.A] 44); obtain ⟨zd, d0, d1, d2, d3, fd0, fd1, fd2, fd3⟩ := id hBd) | (go_at_call 20; refine (get_arg _ _ _ _ _ _ _ _ (.inl h1)).mono ?_; rintro e w2 ⟨rfl, hb2⟩; have hX2 := bthen hX1 hb2 hX1.size; have hBd2 := hBd.below hb2; have hBk2 := hBk.below hb2; obtain ⟨zd2, g0, g1, g2, g3, fg0, fg1, fg2, fg3⟩ := id hBd2; obtain ⟨zk2, m0, m1, m2, m3, fm0, fm1, fm2, fm3⟩ := id hBk2) | (go_at_call 22; refine (htk _ (hd.below hX2)).mono ?_; rintro e w4 ⟨ax, capx, rfl, hrx, hb4⟩; unfold decV; have hX4 := bthen hX2 hb4 hX2.size; have hBx := B4.new w4 (.int .u64 d.C) (.int .u32 d.R) (.slice ax d.B.length capx) (.int .i64 d.A) 42; have hX5 := hX4.alloc hX4.size (.cells #[.int .u64 d.C, .int .u32 d.R, .slice ax d.B.length capx, .int .i64 d.A] 42); have hBk5 := (hBk2.below hb4).below (below1 w4 (.cells #[.int .u64 d.C, .int .u32 d.R, .slice ax d.B.length capx, .int .i64 d.A] 42)); have hrx0 := (hrx _ hd).below hX5; have hrk5 := hrk.below hX5; obtain ⟨zk5, q0, q1, q2, q3, fq0, fq1, fq2, fq3⟩ := id hBk5) | (go_at_call 23; refine (rfair_any _ _ _ _).mono ?_; rw [hf]; rintro e w5 ⟨rfl, rfl⟩) | (go_at_call 24; refine (sameDec_true ax ak capx capk d _ hd.1 hrx0 hrk5).mono ?_; rintro e w6 ⟨rfl, hb6⟩; have hX6 := bthen hX5 hb6 hX5.size) | (go_at_call 11; refine (knows_any _).mono ?_; rintro e w9 ⟨rfl, hb9⟩))
      go_ret
      exact ⟨rfl, bthen hX6 hb9 hX6.size⟩
    · have h2 : 65536 < a7 := by omega
      clear htot
      go_enter Try.func4, Try.ntmps4
      go_wp2_with (first | (go_at_call 19; refine (asDec_any _ _ _ _ _ _ d w _ hd).mono ?_; rintro e w1 ⟨ak, capk, rfl, hrk, hb1⟩; unfold decW; have hW1 := bthen (below1 w (.cells #[.int .u64 a1, .int .u32 a2, .slice a3 xs.length cap3, .int .i64 a4] 42)) hb1 (by simp); have hBd := ((B4.new w (.int .u64 a1) (.int .u32 a2) (.slice a3 xs.length cap3) (.int .i64 a4) 42).below hb1).below (below1 w1 (.cells #[.int .u64 d.C, .int .u64 d.R, .slice ak d.B.length capk, .int .i64 d.A] 44)); have hBk := B4.new w1 (.int .u64 d.C) (.int .u64 d.R) (.slice ak d.B.length capk) (.int .i64 d.A) 44; have hX1 := hW1.alloc hW1.size (.cells #[.int .u64 d.C, .int .u64 d.R, .slice ak d.B.length capk, .int .i64 d.A] 44); obtain ⟨zd, d0, d1, d2, d3, fd0, fd1, fd2, fd3⟩ := id hBd) | (go_at_call 20; refine (get_arg _ _ _ _ _ _ _ _ (.inr h2)).mono ?_; rintro e w2 ⟨rfl, hb2⟩; have hX2 := bthen hX1 hb2 hX1.size; have hBd2 := hBd.below hb2; have hBk2 := hBk.below hb2; obtain ⟨zd2, g0, g1, g2, g3, fg0, fg1, fg2, fg3⟩ := id hBd2; obtain ⟨zk2, m0, m1, m2, m3, fm0, fm1, fm2, fm3⟩ := id hBk2) | (go_at_call 22; refine (htk _ (hd.below hX2)).mono ?_; rintro e w4 ⟨ax, capx, rfl, hrx, hb4⟩; unfold decV; have hX4 := bthen hX2 hb4 hX2.size; have hBx := B4.new w4 (.int .u64 d.C) (.int .u32 d.R) (.slice ax d.B.length capx) (.int .i64 d.A) 42; have hX5 := hX4.alloc hX4.size (.cells #[.int .u64 d.C, .int .u32 d.R, .slice ax d.B.length capx, .int .i64 d.A] 42); have hBk5 := (hBk2.below hb4).below (below1 w4 (.cells #[.int .u64 d.C, .int .u32 d.R, .slice ax d.B.length capx, .int .i64 d.A] 42)); have hrx0 := (hrx _ hd).below hX5; have hrk5 := hrk.below hX5; obtain ⟨zk5, q0, q1, q2, q3, fq0, fq1, fq2, fq3⟩ := id hBk5) | (go_at_call 23; refine (rfair_any _ _ _ _).mono ?_; rw [hf]; rintro e w5 ⟨rfl, rfl⟩) | (go_at_call 24; refine (sameDec_true ax ak capx capk d _ hd.1 hrx0 hrk5).mono ?_; rintro e w6 ⟨rfl, hb6⟩; have hX6 := bthen hX5 hb6 hX5.size) | (go_at_call 11; refine (knows_any _).mono ?_; rintro e w9 ⟨rfl, hb9⟩))
      go_ret
      exact ⟨rfl, bthen hX6 hb9 hX6.size⟩
  obtain ⟨t, rfl⟩ := Int.eq_ofNat_of_zero_le (show 0 ≤ a7 by omega)
  have ht1 : 1 ≤ t := by omega
  have ht2 : t ≤ 65536 := by omega
  have hn1 : ¬ ((t : Int) < 1) := by omega
  have hn2 : ¬ ((65536 : Int) < t) := by omega
  clear htot
  have hget := fun w h => get_any a1 a2 a3 xs.length cap3 a4 d t w h ht1 ht2
  have hrg := fun a c w => rget_any a c d t w hd.1 ht1 ht2
  generalize d.get t = V at hget hrg
  cases hf : fairB a5 a6 (t : Int)
  · have htk := fun w h => take_arg a1 a2 a3 xs.length cap3 a4 d a5 a6 t w h hf
    go_enter Try.func4, Try.ntmps4
    go_wp2_with (first | (go_at_call 19; refine (asDec_any _ _ _ _ _ _ d w _ hd).mono ?_; rintro e w1 ⟨ak, capk, rfl, hrk, hb1⟩; unfold decW; have hW1 := bthen (below1 w (.cells #[.int .u64 a1, .int .u32 a2, .slice a3 xs.length cap3, .int .i64 a4] 42)) hb1 (by simp); have hBd := ((B4.new w (.int .u64 a1) (.int .u32 a2) (.slice a3 xs.length cap3) (.int .i64 a4) 42).below hb1).below (below1 w1 (.cells #[.int .u64 d.C, .int .u64 d.R, .slice ak d.B.length capk, .int .i64 d.A] 44)); have hBk := B4.new w1 (.int .u64 d.C) (.int .u64 d.R) (.slice ak d.B.length capk) (.int .i64 d.A) 44; have hX1 := hW1.alloc hW1.size (.cells #[.int .u64 d.C, .int .u64 d.R, .slice ak d.B.length capk, .int .i64 d.A] 44); obtain ⟨zd, d0, d1, d2, d3, fd0, fd1, fd2, fd3⟩ := id hBd) | (go_at_call 20; refine (hget _ (hd.below hX1)).mono ?_; rintro e w2 ⟨rfl, hb2⟩; have hX2 := bthen hX1 hb2 hX1.size; have hBd2 := hBd.below hb2; have hBk2 := hBk.below hb2; obtain ⟨zd2, g0, g1, g2, g3, fg0, fg1, fg2, fg3⟩ := id hBd2; obtain ⟨zk2, m0, m1, m2, m3, fm0, fm1, fm2, fm3⟩ := id hBk2) | (go_at_call 21; refine (hrg _ _ _).mono ?_; rintro e w3 ⟨rfl, hb3⟩; have hX3 := bthen hX2 hb3 hX2.size; have hBd3 := hBd2.below hb3; have hBk3 := hBk2.below hb3; obtain ⟨zd3, s0, s1, s2, s3, fs0, fs1, fs2, fs3⟩ := id hBd3) | (go_at_call 22; refine (htk _ (hd.below hX3)).mono ?_; rintro e w4 ⟨ax, capx, rfl, hrx, hb4⟩; unfold decV; have hX4 := bthen hX3 hb4 hX3.size; have hBx := B4.new w4 (.int .u64 d.C) (.int .u32 d.R) (.slice ax d.B.length capx) (.int .i64 d.A) 42; have hX5 := hX4.alloc hX4.size (.cells #[.int .u64 d.C, .int .u32 d.R, .slice ax d.B.length capx, .int .i64 d.A] 42); have hBk5 := (hBk3.below hb4).below (below1 w4 (.cells #[.int .u64 d.C, .int .u32 d.R, .slice ax d.B.length capx, .int .i64 d.A] 42)); have hrx0 := (hrx _ hd).below hX5; have hrk5 := hrk.below hX5; obtain ⟨zk5, q0, q1, q2, q3, fq0, fq1, fq2, fq3⟩ := id hBk5) | (go_at_call 23; refine (rfair_any _ _ _ _).mono ?_; rw [hf]; rintro e w5 ⟨rfl, rfl⟩) | (go_at_call 24; refine (sameDec_true ax ak capx capk d _ hd.1 hrx0 hrk5).mono ?_; rintro e w6 ⟨rfl, hb6⟩; have hX6 := bthen hX5 hb6 hX5.size) | (go_at_call 11; refine (knows_any _).mono ?_; rintro e w9 ⟨rfl, hb9⟩))
    go_ret
    exact ⟨rfl, bthen hX6 hb9 hX6.size⟩
  · obtain ⟨lo, hi, t', rfl, rfl, ht', hfair⟩ := fair_of hf
    have htt : t' = t := by omega
    subst htt
    clear ht'
    have hDB := De.take_B d lo hi t'
    have hDok := hd.1.take hfair
    have htk0 := fun w h => take_any a1 a2 a3 xs.length cap3 a4 d lo hi t' w h hfair
    have hrt0 := fun a c w hr => rtake_any a c d lo hi t' w hd.1 hr hfair
    generalize d.take lo hi t' = D at hDB hDok htk0 hrt0
    have htk1 : ∀ w, DvOf w a1 a2 a3 xs.length cap3 a4 d → Calls Try.prog 22 #[.agg #[.int .u64 a1, .int .u32 a2, .slice a3 xs.length cap3, .int .i64 a4], .int .i64 lo, .int .i64 hi, .int .i64 t'] w fun e w' => ∃ a' cap', e = .returned (.tuple #[decV a' cap' D, .int .i64 0]) ∧ (∀ w1, DvOf w1 a1 a2 a3 xs.length cap3 a4 d → Rw .u8 w1 (.slice a' D.B.length cap') D.B) ∧ Below w.heap.size w w' := fun w h => by rw [hDB]; exact htk0 w h
    have HDB : Hid (D.B = d.B) := hDB
    clear hDB hfair htk0
    go_enter Try.func4, Try.ntmps4
    go_wp2_with (first | (go_at_call 19; refine (asDec_any _ _ _ _ _ _ d w _ hd).mono ?_; rintro e w1 ⟨ak, capk, rfl, hrk, hb1⟩; unfold decW; have hW1 := bthen (below1 w (.cells #[.int .u64 a1, .int .u32 a2, .slice a3 xs.length cap3, .int .i64 a4] 42)) hb1 (by simp); have hBd := ((B4.new w (.int .u64 a1) (.int .u32 a2) (.slice a3 xs.length cap3) (.int .i64 a4) 42).below hb1).below (below1 w1 (.cells #[.int .u64 d.C, .int .u64 d.R, .slice ak d.B.length capk, .int .i64 d.A] 44)); have hBk := B4.new w1 (.int .u64 d.C) (.int .u64 d.R) (.slice ak d.B.length capk) (.int .i64 d.A) 44; have hX1 := hW1.alloc hW1.size (.cells #[.int .u64 d.C, .int .u64 d.R, .slice ak d.B.length capk, .int .i64 d.A] 44); obtain ⟨zd, d0, d1, d2, d3, fd0, fd1, fd2, fd3⟩ := id hBd) | (go_at_call 20; refine (hget _ (hd.below hX1)).mono ?_; rintro e w2 ⟨rfl, hb2⟩; have hX2 := bthen hX1 hb2 hX1.size; have hBd2 := hBd.below hb2; have hBk2 := hBk.below hb2; obtain ⟨zd2, g0, g1, g2, g3, fg0, fg1, fg2, fg3⟩ := id hBd2; obtain ⟨zk2, m0, m1, m2, m3, fm0, fm1, fm2, fm3⟩ := id hBk2) | (go_at_call 21; refine (hrg _ _ _).mono ?_; rintro e w3 ⟨rfl, hb3⟩; have hX3 := bthen hX2 hb3 hX2.size; have hBd3 := hBd2.below hb3; have hBk3 := hBk2.below hb3; obtain ⟨zd3, s0, s1, s2, s3, fs0, fs1, fs2, fs3⟩ := id hBd3) | (go_at_call 22; refine (htk1 _ (hd.below hX3)).mono ?_; rintro e w4 ⟨ax, capx, rfl, hrx, hb4⟩; unfold decV; have hX4 := bthen hX3 hb4 hX3.size; have hBx := B4.new w4 (.int .u64 D.C) (.int .u32 D.R) (.slice ax D.B.length capx) (.int .i64 D.A) 42; have hX5 := hX4.alloc hX4.size (.cells #[.int .u64 D.C, .int .u32 D.R, .slice ax D.B.length capx, .int .i64 D.A] 42); have hBk5 := (hBk3.below hb4).below (below1 w4 (.cells #[.int .u64 D.C, .int .u32 D.R, .slice ax D.B.length capx, .int .i64 D.A] 42)); have hrx0 := (hrx _ hd).below hX5; have hrk5 := hrk.below hX5; obtain ⟨zk5, q0, q1, q2, q3, fq0, fq1, fq2, fq3⟩ := id hBk5) | (go_at_call 23; refine (rfair_any _ _ _ _).mono ?_; rw [hf]; rintro e w5 ⟨rfl, rfl⟩))
    have hrkD := (fun (Z : World) (h : Rw .u8 Z (.slice ak d.B.length capk) d.B) => (by rw [HDB.out]; exact h : Rw .u8 Z (.slice ak D.B.length capk) D.B)) _ hrk5
    have hrt := fun a c W hr => hrt0 a c W hr
    unfold decW at hrt
    have hrdD := fun W => rightDec_ok ax capx D W hDok
    have hsdD := fun W h1 h2 => sameDec_true ax ak capx capk D W hDok h1 h2
    unfold decV at hrdD hsdD
    unfold decW at hsdD
    generalize (w4.alloc (.cells #[.int .u64 D.C, .int .u32 D.R, .slice ax D.B.length capx, .int .i64 D.A] 42)) = W at *
    go_region_held3 (fun w' => w'.cell? ⟨w4.heap.size, 0, none⟩ = some (.int .u64 D.C) ∧ w'.cell? ⟨w4.heap.size, 1, none⟩ = some (.int .u32 D.R) ∧ w'.cell? ⟨w4.heap.size, 2, none⟩ = some (.slice ax D.B.length capx) ∧ w'.cell? ⟨w4.heap.size, 3, none⟩ = some (.int .i64 D.A) ∧ w'.cell? ⟨w1.heap.size, 0, none⟩ = some (.int .u64 d.C) ∧ w'.cell? ⟨w1.heap.size, 1, none⟩ = some (.int .u64 d.R) ∧ w'.cell? ⟨w1.heap.size, 2, none⟩ = some (.slice ak d.B.length capk) ∧ w'.cell? ⟨w1.heap.size, 3, none⟩ = some (.int .i64 d.A)) (exact E8.of hBx hBk5 (by first | exact (Below.refl _ _).drew | exact hy1 | exact hy2 | exact hy3 | exact hy4)) (first | (go_at_call 25; refine (hrt ak capk _ (hrk5.below (by first | exact (Below.refl _ _).drew | exact hy1 | exact hy2 | exact hy3 | exact hy4))).mono ?_; rintro e y1 ⟨rfl, hz1⟩; have hy1 := bthen (Below.refl W.heap.size W).drew hz1 (Nat.le_refl _)) | (go_at_call 24; refine (hsdD _ (hrx0.below hy1) (hrkD.below hy1)).mono ?_; rintro e y2 ⟨rfl, hz2⟩; have hy2 := bthen hy1 hz2 hy1.size) | (go_at_call 26; refine (hrdD _).mono ?_; rintro e y3 ⟨rfl, hz3⟩; have hy3 := bthen hy2 hz3 hy2.size) | (go_at_call 11; refine (knows_any _).mono ?_; rintro e y4 ⟨rfl, hz4⟩; have hy4 := bthen hy3 hz4 hy3.size))
    go_wp2
    go_ret
    exact ⟨rfl, bthen hX5 hy4 hX5.size⟩


set_option maxRecDepth 100000 in
theorem lifted (os : Os) (started : os.Started) (H : Type) (enc : TypeId × Value → H) :
    ReturnsInHanded {} Try.checked os 4 .any (Rows.coderTakesSpec.pre6 enc Try.prog Try.f4 Rows.coderTakesRow.domain false) (Rows.coderTakesSpec.post enc Try.prog Try.f4 false true false false) := by
  refine returnsInHanded_of_change (C := Try.checked) own started (by kernel_rfl) Try.func4
    (ChangeSpec.witness6 (enc := enc) (C := Try.checked) false ⟨#[], #[.agg #[.int .u64 0, .int .u32 0, .slice none 0 0, .int .i64 0], .int .i64 0, .int .i64 0, .int .i64 0], []⟩ 8 (by kernel_rfl) (by kernel_rfl) (by kernel_rfl) (by kernel_rfl)) ?_
  intro W base args ds gs before hval0 hW hcnd _
  have hval : ∀ (j : Nat) t v, Try.f4.params[j]? = some t → args[j]? = some v → Value.okWide Try.prog W .any base t v := hval0
  have hW' := hW
  obtain ⟨p, q, hA0, hV, rfl, hfz, hnd⟩ := hW
  have hA : DataW.TrodAll enc Try.prog W 0 (fun _ => true) true Try.f4.params.toList args.toList ds p := hA0
  rw [Try.params4] at hA hval
  obtain ⟨v0, vs0, d0, ds0, p0, q0, hargs, rfl, rfl, h0, r0⟩ := trodAll_cons hA
  obtain ⟨v1, vs1, d1, ds1, p1, q1, rfl, rfl, rfl, h1, r1⟩ := trodAll_cons r0
  obtain ⟨v2, vs2, d2, ds2, p2, q2, rfl, rfl, rfl, h2, r2⟩ := trodAll_cons r1
  obtain ⟨v3, vs3, d3, ds3, p3, q3, rfl, rfl, rfl, h3, r3⟩ := trodAll_cons r2
  obtain ⟨rfl, rfl, rfl⟩ := trodAll_nil r3
  obtain rfl : args = #[v0, v1, v2, v3] := by cases args; simp_all
  obtain ⟨rfl, rfl⟩ := trodVars_none hV
  have k0 := h0
  have lt0 : ∀ x ∈ p0, x.block < W.heap.size := by obtain ⟨m, hm⟩ := k0; exact DataW.trod_lt m _ _ _ hm
  obtain ⟨c00, c01, c02, c03, y00, y01, y02, y03, m0, rfl, hd0, hp0, hy00, hy01, hy02, hy03⟩ := open_agg4 Try.underlying42 (by kernel_rfl) (by kernel_rfl) (hval 0 42 v0 rfl rfl) h0
  clear hd0 hp0
  obtain ⟨a1, e1, _, w1⟩ := DataW.trod_int Try.underlying22 hy00
  simp only [List.cons.injEq, and_true] at e1
  subst e1
  obtain ⟨a2, e2, _, w2⟩ := DataW.trod_int Try.underlying23 hy01
  simp only [List.cons.injEq, and_true] at e2
  subst e2
  obtain ⟨a3, len3, cap3, z3, e3, w3⟩ := ints_of_trod Try.underlying24 Try.underlying5 (by kernel_rfl) hy02
  subst e3
  obtain ⟨a4, e4, _, w4⟩ := DataW.trod_int Try.underlying3 hy03
  simp only [List.cons.injEq, and_true] at e4
  subst e4
  obtain ⟨a5, rfl, rfl, rfl, w5⟩ := open_int Try.underlying3 (hval 1 3 v1 rfl rfl) h1
  obtain ⟨a6, rfl, rfl, rfl, w6⟩ := open_int Try.underlying3 (hval 2 3 v2 rfl rfl) h2
  obtain ⟨a7, rfl, rfl, rfl, w7⟩ := open_int Try.underlying3 (hval 3 3 v3 rfl rfl) h3
  clear hA0 hval0
  refine (walk a1 a2 a3 len3 cap3 z3 a4 a5 a6 a7 W w1 w2 w3 w4 w5 w6 w7).mono fun e W' ⟨he, bel⟩ => ?_
  subst he
  exact ⟨_, rfl, _, _, _, [], _, [], hW', trodAll_mk1 (shut_bool Try.underlying4 _), (trodAll_cons_mk (Below.trod laidOut (by kernel_rfl) (of_decide_eq_true (by kernel_rfl)) k0 bel lt0) (trodAll_cons_mk (shut_int Try.underlying3 w5) (trodAll_cons_mk (shut_int Try.underlying3 w6) (trodAll_cons_mk (shut_int Try.underlying3 w7) trodAll_mk0)))), rfl, bel.frame _, fun h => by cases h⟩

theorem over : Rows.coderTakesRow.holds Try.pinned (OpenSpec.ofChange Rows.coderTakesSpec) :=
  OpenClaim.holds_of_wide 4 Try.f4 rfl rfl rfl rfl rfl rfl rfl ⟨rfl, rfl, rfl, rfl, rfl⟩ rfl rfl rfl rfl rfl (by kernel_rfl) Try.func4 (by kernel_rfl)
    (of_decide_eq_true (by kernel_rfl)) (by unfold Func.isWrapper; first | (rw [if_pos (by decide +kernel)]; kernel_rfl) | (rw [if_neg (by decide +kernel)]; exact ⟨rfl, rfl⟩))
    (fun os started H enc _ => lifted os started H enc)

theorem proved : Rows.CoderTakesSaid := over
#print axioms proved
end Go.Proofs.Ytocccimlojeaeaa.coderTakes
