/- The Go function of the statement CoderNums returns true at every input, and leaves each argument as it read. No condition. -/
import Derived.Test.YtocccimlojeaeaaDd
import Derived.Deep.RegionHeld3
import Derived.Deep.CutRange
import Derived.Deep.DeepCutAuto
import Derived.ProofKit
import Derived.OpenShut
import Derived.ShutString
import Derived.ChangeOld
import Derived.Lib.SmallJoins
namespace Go.Proofs.Ytocccimlojeaeaa.coderNums
open Go.ChangeShapes Go.WideShapes Go.ChangeAt Go.RowKit Go.Joins
set_option linter.unusedVariables false
set_option linter.unusedSimpArgs false

theorem own : ownKnob Try.prog.godebug = none := by kernel_rfl
theorem laidOut : laidOutB Try.prog = true := by kernel_rfl

def E8 (w : World) (b c : Nat) (x0 x1 x2 x3 y0 y1 y2 y3 : Value) : Prop := w.cell? ⟨b, 0, none⟩ = some x0 ∧ w.cell? ⟨b, 1, none⟩ = some x1 ∧ w.cell? ⟨b, 2, none⟩ = some x2 ∧ w.cell? ⟨b, 3, none⟩ = some x3 ∧ w.cell? ⟨c, 0, none⟩ = some y0 ∧ w.cell? ⟨c, 1, none⟩ = some y1 ∧ w.cell? ⟨c, 2, none⟩ = some y2 ∧ w.cell? ⟨c, 3, none⟩ = some y3
theorem E8.of {w w' : World} {b c : Nat} {x0 x1 x2 x3 y0 y1 y2 y3 : Value} (h1 : B4 w b x0 x1 x2 x3) (h2 : B4 w c y0 y1 y2 y3) (hb : Below w.heap.size w w') : E8 w' b c x0 x1 x2 x3 y0 y1 y2 y3 :=
  ⟨(h1.below hb).c0, (h1.below hb).c1, (h1.below hb).c2, (h1.below hb).c3, (h2.below hb).c0, (h2.below hb).c1, (h2.below hb).c2, (h2.below hb).c3⟩

set_option maxRecDepth 10000 in
set_option maxHeartbeats 4000000 in
theorem walk (a1 : Int) (a2 : Int) (a3 : Option Addr) (len3 cap3 : Nat) (z3 : List Int) (a5 : Int) (a6 : Int) (a7 : Option Addr) (len7 cap7 : Nat) (z7 : List Int) (a8 : Int) (a9 : Int) (a10 : Int) (w : World) (w1 : (Lit.int .u64 a1).wf = true) (w2 : (Lit.int .u32 a2).wf = true) (w3 : IsRow .u8 w a3 len3 cap3 z3) (w5 : (Lit.int .u64 a5).wf = true) (w6 : (Lit.int .u32 a6).wf = true) (w7 : IsRow .u8 w a7 len7 cap7 z7) (w8 : (Lit.int .i64 a8).wf = true) (w9 : (Lit.int .u64 a9).wf = true) (w10 : (Lit.int .u64 a10).wf = true) :
    Calls Try.prog 6 #[.agg #[.int .u64 a1, .int .u32 a2, .slice a3 len3 cap3], .agg #[.int .u64 a5, .int .u32 a6, .slice a7 len7 cap7, .int .i64 a8], .int .u64 a9, .int .u64 a10] w fun e w' => e = .returned (.bool true) ∧ Below w.heap.size w w' := by
  obtain ⟨xs, hxl, hv, hx⟩ := row_rw w7
  subst hxl
  have hW := below2 w (.cells #[.int .u64 a1, .int .u32 a2, .slice a3 len3 cap3] 26) (.cells #[.int .u64 a5, .int .u32 a6, .slice a7 xs.length cap7, .int .i64 a8] 42)
  have hgr : (5000 : Int) < len3 ∨ (¬ (5000 : Int) < len3 ∧ (5000 : Int) < xs.length) ∨ (¬ (5000 : Int) < len3 ∧ ¬ (5000 : Int) < xs.length) := by omega
  rcases hgr with hg | ⟨hg, hg2⟩ | ⟨hg, hg2⟩
  · go_enter Try.func6, Try.ntmps6
    go_wp2_with (go_at_call 11; refine (knows_any _).mono ?_; rintro e w9 ⟨rfl, hb9⟩)
    go_ret
    exact ⟨rfl, bthen hW hb9 hW.size⟩
  · go_enter Try.func6, Try.ntmps6
    go_wp2_with (go_at_call 11; refine (knows_any _).mono ?_; rintro e w9 ⟨rfl, hb9⟩)
    go_ret
    exact ⟨rfl, bthen hW hb9 hW.size⟩
  obtain ⟨e, h⟩ := ev_some w1 w2 w3
  obtain ⟨d, hd⟩ := dv_some w5 w6 w8 w7 (by omega)
  obtain ⟨V, rfl, hV⟩ := u64_nat w9
  obtain ⟨N, rfl, hN⟩ := u64_nat w10
  clear w1 w2 w3 w5 w6 w7 w8 w9 w10 hv hx hV hN
  have hFok := putNE_ok h.1 V N
  have hput := fun W h => putNum_any a1 a2 a3 len3 cap3 e V N W h
  have hrput := fun R a n c W h => rputNum_any R a n c e V N W h
  generalize putNE e V N = F at hFok hput hrput
  generalize putNF e V N = er at hput hrput
  have hdv : ∀ (W : World) (a : Option Addr) (cap : Nat), Rw .u8 W (.slice a F.m cap) F.out → EvOf W F.low F.R a F.m cap F := fun W a cap hr => hFok.ev hr
  have hdb : encB F.low F.R F.m = true := hFok.encB
  have hsame := fun a cap R2 a2 n2 cap2 W h h2 => sameEnc_true F.low F.R a F.m cap R2 a2 n2 cap2 F W h hdb h2
  have hBe0 := (B3.new w (.int .u64 a1) (.int .u32 a2) (.slice a3 len3 cap3) 26).below (below1 _ (.cells #[.int .u64 a5, .int .u32 a6, .slice a7 xs.length cap7, .int .i64 a8] 42))
  have hBd0 := B4.new2 w (.cells #[.int .u64 a1, .int .u32 a2, .slice a3 len3 cap3] 26) (.int .u64 a5) (.int .u32 a6) (.slice a7 xs.length cap7) (.int .i64 a8) 42
  clear hdb
  have hnn : ((N : Int) == 0) = true ∨ (((N : Int) == 0) = false ∧ (4294967296 : Int) < N) ∨ (((N : Int) == 0) = false ∧ ¬ (4294967296 : Int) < N) := by
    have e1 : ((N : Int) == 0) = decide (N = 0) := by by_cases h : N = 0 <;> simp [h]
    rw [e1]
    by_cases h : N = 0
    · simp [h]
    · simp [h]; omega
  by_cases hbad : N < 1 ∨ 4294967296 < N
  · have htn := fun W h => takeNum_arg a5 a6 a7 xs.length cap7 a8 d N hbad W h
    have hnb : ((N : Int) == 0) = true ∨ (((N : Int) == 0) = false ∧ (4294967296 : Int) < N) := by
      rcases hnn with h | h | ⟨h, h'⟩
      · exact .inl h
      · exact .inr h
      · exact absurd hbad (by simp at h; omega)
    have hsdD := fun a1 a2 c1 c2 W r1 r2 => sameDec_true a1 a2 c1 c2 d W hd.1 r1 r2
    unfold decV decW at hsdD
    clear hbad hnn
    rcases hnb with k1 | ⟨k1, k2⟩
    all_goals
      go_enter Try.func6, Try.ntmps6
      go_wp2_with (first | (go_at_call 29; refine (hput _ (h.below hW)).mono ?_; rintro x w2 ⟨ax, capx, rfl, hqx, hb2⟩; have hX2 := bthen hW hb2 hW.size; have hX3 := hX2.alloc hX2.size (.cells #[.int .u64 F.low, .int .u32 F.R, .slice ax F.m capx] 26); have hBx := B3.new w2 (.int .u64 F.low) (.int .u32 F.R) (.slice ax F.m capx) 26; have hBe := (hBe0.below hb2).below (below1 w2 (.cells #[.int .u64 F.low, .int .u32 F.R, .slice ax F.m capx] 26)); have hBd := (hBd0.below hb2).below (below1 w2 (.cells #[.int .u64 F.low, .int .u32 F.R, .slice ax F.m capx] 26)); have hrx := hqx.rw.below (below1 w2 (.cells #[.int .u64 F.low, .int .u32 F.R, .slice ax F.m capx] 26)); obtain ⟨ze, e0, e1, e2, _, _, _⟩ := id hBe) | (go_at_call 14; refine (asEnc_ev _ _ _ _ _ e _ (h.below hX3)).mono ?_; rintro x w4 ⟨Rk, aK, nk, capK, rfl, hk, hb4⟩; have hX4 := bthen hX3 hb4 hX3.size; have hBx4 := hBx.below hb4; have hBd4 := hBd.below hb4; have hrx4 := hrx.below hb4) | (go_at_call 30; refine (hrput _ _ _ _ _ hk).mono ?_; rintro x w5 ⟨Ry, ay, ny, capy, rfl, hy, hb5⟩; have hX5 := bthen hX4 hb5 hX4.size; have hX6 := hX5.alloc hX5.size (.cells #[.int .u64 Ry, .slice ay ny capy] 33); have hBx5 := (hBx4.below hb5).below (below1 w5 (.cells #[.int .u64 Ry, .slice ay ny capy] 33)); have hBd5 := (hBd4.below hb5).below (below1 w5 (.cells #[.int .u64 Ry, .slice ay ny capy] 33)); have hrx5 := (hrx4.below hb5).below (below1 w5 (.cells #[.int .u64 Ry, .slice ay ny capy] 33)); have hBy5 := B2.new w5 (.int .u64 Ry) (.slice ay ny capy) 33; have hy5 := hy.below (below1 w5 (.cells #[.int .u64 Ry, .slice ay ny capy] 33)); obtain ⟨zx, x0, x1, x2, _, _, _⟩ := id hBx5) | (go_at_call 17; refine (hsame _ _ _ _ _ _ _ (hdv _ _ _ hrx5) hy5).mono ?_; rintro x w7 ⟨rfl, hb7⟩; have hX7 := bthen hX6 hb7 hX6.size; have hBd7 := hBd5.below hb7; obtain ⟨zd, d0, d1, d2, d3, _, _, _, _⟩ := id hBd7) | (go_at_call 31; refine (htn _ (hd.below hX7)).mono ?_; rintro x w8 ⟨az, capz, rfl, hqz, hb8⟩; have hX8 := bthen hX7 hb8 hX7.size; have hX9 := hX8.alloc hX8.size (.cells #[.int .u64 d.C, .int .u32 d.R, .slice az d.B.length capz, .int .i64 d.A] 42); have hBz := B4.new w8 (.int .u64 d.C) (.int .u32 d.R) (.slice az d.B.length capz) (.int .i64 d.A) 42; have hBd9 := (hBd7.below hb8).below (below1 w8 (.cells #[.int .u64 d.C, .int .u32 d.R, .slice az d.B.length capz, .int .i64 d.A] 42)); have hrz := (hqz _ hd).below hX9; obtain ⟨zd9, m0, m1, m2, m3, _, _, _, _⟩ := id hBd9))
      generalize (w8.alloc (.cells #[.int .u64 d.C, .int .u32 d.R, .slice az d.B.length capz, .int .i64 d.A] 42)) = W at *
      have hy := (Below.refl W.heap.size W).drew
      go_region_held3 (fun w' => w'.cell? ⟨w8.heap.size, 0, none⟩ = some (.int .u64 d.C) ∧ w'.cell? ⟨w8.heap.size, 1, none⟩ = some (.int .u32 d.R) ∧ w'.cell? ⟨w8.heap.size, 2, none⟩ = some (.slice az d.B.length capz) ∧ w'.cell? ⟨w8.heap.size, 3, none⟩ = some (.int .i64 d.A) ∧ w'.cell? ⟨w.heap.size + 1, 0, none⟩ = some (.int .u64 a5) ∧ w'.cell? ⟨w.heap.size + 1, 1, none⟩ = some (.int .u32 a6) ∧ w'.cell? ⟨w.heap.size + 1, 2, none⟩ = some (.slice a7 xs.length cap7) ∧ w'.cell? ⟨w.heap.size + 1, 3, none⟩ = some (.int .i64 a8)) (exact E8.of hBz hBd9 hy) (first | (go_at_call 19; refine (asDec_any _ _ _ _ _ _ d w _ hd).mono ?_; rintro x wA ⟨ak, capk, rfl, hrk, hz⟩; unfold decW; have hy := bthen hy hz hy.size) | (go_at_call 24; refine (hsdD _ _ _ _ _ (hrz.below hy) ((hrk.below hX9).below hy)).mono ?_; rintro x wB ⟨rfl, hz⟩; have hy := bthen hy hz hy.size) | (go_at_call 11; refine (knows_any _).mono ?_; rintro x wC ⟨rfl, hz⟩; have hy := bthen hy hz hy.size))
      all_goals go_wp2
      all_goals go_ret
      all_goals exact ⟨rfl, bthen hX9 hy hX9.size⟩
  · have h1 : 1 ≤ N := by omega
    have h2 : N ≤ 4294967296 := by omega
    have htn := fun W h => takeNum_any a5 a6 a7 xs.length cap7 a8 d N h1 h2 W h
    have hrtn := fun a c W hr => rtakeNum_any a c d N h1 h2 W hd.1 hr
    have hDok := hd.1.numD h1 h2
    have hDB := De.numD_B d N
    generalize d.numD N = D at *
    generalize d.numV N = Uv at *
    have k1 : ((N : Int) == 0) = false := by simp; omega
    have k2 : ¬ (4294967296 : Int) < N := by omega
    have hsdD := fun a1 a2 c1 c2 W r1 r2 => sameDec_true a1 a2 c1 c2 D W hDok r1 r2
    unfold decV decW at hsdD
    have hRD : ∀ (W : World) (a : Option Addr) (c : Nat), Rw .u8 W (.slice a d.B.length c) d.B → Rw .u8 W (.slice a D.B.length c) D.B := fun W a c hh => by rw [hDB]; exact hh
    clear hnn hbad h1 h2 hDB
    go_enter Try.func6, Try.ntmps6
    go_wp2_with (first | (go_at_call 29; refine (hput _ (h.below hW)).mono ?_; rintro x w2 ⟨ax, capx, rfl, hqx, hb2⟩; have hX2 := bthen hW hb2 hW.size; have hX3 := hX2.alloc hX2.size (.cells #[.int .u64 F.low, .int .u32 F.R, .slice ax F.m capx] 26); have hBx := B3.new w2 (.int .u64 F.low) (.int .u32 F.R) (.slice ax F.m capx) 26; have hBe := (hBe0.below hb2).below (below1 w2 (.cells #[.int .u64 F.low, .int .u32 F.R, .slice ax F.m capx] 26)); have hBd := (hBd0.below hb2).below (below1 w2 (.cells #[.int .u64 F.low, .int .u32 F.R, .slice ax F.m capx] 26)); have hrx := hqx.rw.below (below1 w2 (.cells #[.int .u64 F.low, .int .u32 F.R, .slice ax F.m capx] 26)); obtain ⟨ze, e0, e1, e2, _, _, _⟩ := id hBe) | (go_at_call 14; refine (asEnc_ev _ _ _ _ _ e _ (h.below hX3)).mono ?_; rintro x w4 ⟨Rk, aK, nk, capK, rfl, hk, hb4⟩; have hX4 := bthen hX3 hb4 hX3.size; have hBx4 := hBx.below hb4; have hBd4 := hBd.below hb4; have hrx4 := hrx.below hb4) | (go_at_call 30; refine (hrput _ _ _ _ _ hk).mono ?_; rintro x w5 ⟨Ry, ay, ny, capy, rfl, hy, hb5⟩; have hX5 := bthen hX4 hb5 hX4.size; have hX6 := hX5.alloc hX5.size (.cells #[.int .u64 Ry, .slice ay ny capy] 33); have hBx5 := (hBx4.below hb5).below (below1 w5 (.cells #[.int .u64 Ry, .slice ay ny capy] 33)); have hBd5 := (hBd4.below hb5).below (below1 w5 (.cells #[.int .u64 Ry, .slice ay ny capy] 33)); have hrx5 := (hrx4.below hb5).below (below1 w5 (.cells #[.int .u64 Ry, .slice ay ny capy] 33)); have hBy5 := B2.new w5 (.int .u64 Ry) (.slice ay ny capy) 33; have hy5 := hy.below (below1 w5 (.cells #[.int .u64 Ry, .slice ay ny capy] 33)); obtain ⟨zx, x0, x1, x2, _, _, _⟩ := id hBx5) | (go_at_call 17; refine (hsame _ _ _ _ _ _ _ (hdv _ _ _ hrx5) hy5).mono ?_; rintro x w7 ⟨rfl, hb7⟩; have hX7 := bthen hX6 hb7 hX6.size; have hBd7 := hBd5.below hb7; obtain ⟨zd, d0, d1, d2, d3, _, _, _, _⟩ := id hBd7) | (go_at_call 31; refine (htn _ (hd.below hX7)).mono ?_; rintro x w8 ⟨az, capz, rfl, hqz, hb8⟩; have hX8 := bthen hX7 hb8 hX7.size; have hX9 := hX8.alloc hX8.size (.cells #[.int .u64 D.C, .int .u32 D.R, .slice az D.B.length capz, .int .i64 D.A] 42); have hBz := B4.new w8 (.int .u64 D.C) (.int .u32 D.R) (.slice az D.B.length capz) (.int .i64 D.A) 42; have hBd9 := (hBd7.below hb8).below (below1 w8 (.cells #[.int .u64 D.C, .int .u32 D.R, .slice az D.B.length capz, .int .i64 D.A] 42)); have hrz := (hqz _ hd).below hX9; obtain ⟨zd9, m0, m1, m2, m3, _, _, _, _⟩ := id hBd9) | (go_at_call 19; refine (asDec_any _ _ _ _ _ _ d w _ hd).mono ?_; rintro x wA ⟨ak, capk, rfl, hrk, hbA⟩; unfold decW; have hXA := bthen hX9 hbA hX9.size; have hBzA := hBz.below hbA) | (go_at_call 32; refine (hrtn _ _ _ (hrk.below hXA)).mono ?_; rintro x wB ⟨rfl, hbB⟩; unfold decW; have hXB := bthen hXA hbB hXA.size; have hXC := hXB.alloc hXB.size (.cells #[.int .u64 D.C, .int .u64 D.R, .slice ak D.B.length capk, .int .i64 D.A] 44); have hBzC := (hBzA.below hbB).below (below1 wB (.cells #[.int .u64 D.C, .int .u64 D.R, .slice ak D.B.length capk, .int .i64 D.A] 44)); have hrzC := (hqz _ hd).below hXC; have hrkC := (hRD _ _ _ hrk).below hXC; obtain ⟨zz, y0, y1, y2, y3, _, _, _, _⟩ := id hBzC) | (go_at_call 24; refine (hsdD _ _ _ _ _ hrzC hrkC).mono ?_; rintro x wD ⟨rfl, hbD⟩; have hXD := bthen hXC hbD hXC.size) | (go_at_call 11; refine (knows_any _).mono ?_; rintro e w9 ⟨rfl, hb9⟩))
    go_ret
    exact ⟨rfl, bthen hXD hb9 hXD.size⟩


set_option maxRecDepth 100000 in
theorem lifted (os : Os) (started : os.Started) (H : Type) (enc : TypeId × Value → H) :
    ReturnsInHanded {} Try.checked os 6 .any (Rows.coderNumsSpec.pre6 enc Try.prog Try.f6 Rows.coderNumsRow.domain false) (Rows.coderNumsSpec.post enc Try.prog Try.f6 false true false false) := by
  refine returnsInHanded_of_change (C := Try.checked) own started (by kernel_rfl) Try.func6
    (ChangeSpec.witness6 (enc := enc) (C := Try.checked) false ⟨#[], #[.agg #[.int .u64 0, .int .u32 0, .slice none 0 0], .agg #[.int .u64 0, .int .u32 0, .slice none 0 0, .int .i64 0], .int .u64 0, .int .u64 0], []⟩ 8 (by kernel_rfl) (by kernel_rfl) (by kernel_rfl) (by kernel_rfl)) ?_
  intro W base args ds gs before hval0 hW hcnd _
  have hval : ∀ (j : Nat) t v, Try.f6.params[j]? = some t → args[j]? = some v → Value.okWide Try.prog W .any base t v := hval0
  have hW' := hW
  obtain ⟨p, q, hA0, hV, rfl, hfz, hnd⟩ := hW
  have hA : DataW.TrodAll enc Try.prog W 0 (fun _ => true) true Try.f6.params.toList args.toList ds p := hA0
  rw [Try.params6] at hA hval
  obtain ⟨v0, vs0, d0, ds0, p0, q0, hargs, rfl, rfl, h0, r0⟩ := trodAll_cons hA
  obtain ⟨v1, vs1, d1, ds1, p1, q1, rfl, rfl, rfl, h1, r1⟩ := trodAll_cons r0
  obtain ⟨v2, vs2, d2, ds2, p2, q2, rfl, rfl, rfl, h2, r2⟩ := trodAll_cons r1
  obtain ⟨v3, vs3, d3, ds3, p3, q3, rfl, rfl, rfl, h3, r3⟩ := trodAll_cons r2
  obtain ⟨rfl, rfl, rfl⟩ := trodAll_nil r3
  obtain rfl : args = #[v0, v1, v2, v3] := by cases args; simp_all
  obtain ⟨rfl, rfl⟩ := trodVars_none hV
  have k0 := h0
  have lt0 : ∀ x ∈ p0, x.block < W.heap.size := by obtain ⟨m, hm⟩ := k0; exact DataW.trod_lt m _ _ _ hm
  obtain ⟨c00, c01, c02, y00, y01, y02, m0, rfl, hd0, hp0, hy00, hy01, hy02⟩ := open_agg3 Try.underlying26 (by kernel_rfl) (by kernel_rfl) (hval 0 26 v0 rfl rfl) h0
  clear hd0 hp0
  obtain ⟨a1, e1, _, w1⟩ := DataW.trod_int Try.underlying22 hy00
  simp only [List.cons.injEq, and_true] at e1
  subst e1
  obtain ⟨a2, e2, _, w2⟩ := DataW.trod_int Try.underlying23 hy01
  simp only [List.cons.injEq, and_true] at e2
  subst e2
  obtain ⟨a3, len3, cap3, z3, e3, w3⟩ := ints_of_trod Try.underlying24 Try.underlying5 (by kernel_rfl) hy02
  subst e3
  have k1 := h1
  have lt1 : ∀ x ∈ p1, x.block < W.heap.size := by obtain ⟨m, hm⟩ := k1; exact DataW.trod_lt m _ _ _ hm
  obtain ⟨c10, c11, c12, c13, y10, y11, y12, y13, m1, rfl, hd1, hp1, hy10, hy11, hy12, hy13⟩ := open_agg4 Try.underlying42 (by kernel_rfl) (by kernel_rfl) (hval 1 42 v1 rfl rfl) h1
  clear hd1 hp1
  obtain ⟨a5, e5, _, w5⟩ := DataW.trod_int Try.underlying22 hy10
  simp only [List.cons.injEq, and_true] at e5
  subst e5
  obtain ⟨a6, e6, _, w6⟩ := DataW.trod_int Try.underlying23 hy11
  simp only [List.cons.injEq, and_true] at e6
  subst e6
  obtain ⟨a7, len7, cap7, z7, e7, w7⟩ := ints_of_trod Try.underlying24 Try.underlying5 (by kernel_rfl) hy12
  subst e7
  obtain ⟨a8, e8, _, w8⟩ := DataW.trod_int Try.underlying3 hy13
  simp only [List.cons.injEq, and_true] at e8
  subst e8
  obtain ⟨a9, rfl, rfl, rfl, w9⟩ := open_int Try.underlying22 (hval 2 22 v2 rfl rfl) h2
  obtain ⟨a10, rfl, rfl, rfl, w10⟩ := open_int Try.underlying22 (hval 3 22 v3 rfl rfl) h3
  clear hA0 hval0
  refine (walk a1 a2 a3 len3 cap3 z3 a5 a6 a7 len7 cap7 z7 a8 a9 a10 W w1 w2 w3 w5 w6 w7 w8 w9 w10).mono fun e W' ⟨he, bel⟩ => ?_
  subst he
  exact ⟨_, rfl, _, _, _, [], _, [], hW', trodAll_mk1 (shut_bool Try.underlying4 _), (trodAll_cons_mk (Below.trod laidOut (by kernel_rfl) (of_decide_eq_true (by kernel_rfl)) k0 bel lt0) (trodAll_cons_mk (Below.trod laidOut (by kernel_rfl) (of_decide_eq_true (by kernel_rfl)) k1 bel lt1) (trodAll_cons_mk (shut_int Try.underlying22 w9) (trodAll_cons_mk (shut_int Try.underlying22 w10) trodAll_mk0)))), rfl, bel.frame _, fun h => by cases h⟩

theorem over : Rows.coderNumsRow.holds Try.pinned (OpenSpec.ofChange Rows.coderNumsSpec) :=
  OpenClaim.holds_of_wide 6 Try.f6 rfl rfl rfl rfl rfl rfl rfl ⟨rfl, rfl, rfl, rfl, rfl⟩ rfl rfl rfl rfl rfl (by kernel_rfl) Try.func6 (by kernel_rfl)
    (of_decide_eq_true (by kernel_rfl)) (by unfold Func.isWrapper; first | (rw [if_pos (by decide +kernel)]; kernel_rfl) | (rw [if_neg (by decide +kernel)]; exact ⟨rfl, rfl⟩))
    (fun os started H enc _ => lifted os started H enc)

theorem proved : Rows.CoderNumsSaid := over
#print axioms proved
end Go.Proofs.Ytocccimlojeaeaa.coderNums
