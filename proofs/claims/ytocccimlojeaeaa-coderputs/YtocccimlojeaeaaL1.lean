/- The Go function of the statement CoderPuts returns true at every input, and leaves each argument as it read. No condition. -/
import Derived.Test.YtocccimlojeaeaaCt
import Derived.Deep.RegionHeld3
import Derived.Deep.CutRange
import Derived.Deep.DeepCutAuto
import Derived.ProofKit
import Derived.OpenShut
import Derived.ShutString
import Derived.ChangeOld
import Derived.Lib.SmallJoins
namespace Go.Proofs.Ytocccimlojeaeaa.coderPuts
open Go.ChangeShapes Go.WideShapes Go.ChangeAt Go.RowKit Go.Joins
set_option linter.unusedVariables false
set_option linter.unusedSimpArgs false

theorem own : ownKnob Try.prog.godebug = none := by kernel_rfl
theorem laidOut : laidOutB Try.prog = true := by kernel_rfl

def E8 (w : World) (b c d : Nat) (x0 x1 x2 y0 y1 y2 z0 z1 : Value) : Prop := w.cell? ⟨b, 0, none⟩ = some x0 ∧ w.cell? ⟨b, 1, none⟩ = some x1 ∧ w.cell? ⟨b, 2, none⟩ = some x2 ∧ w.cell? ⟨c, 0, none⟩ = some y0 ∧ w.cell? ⟨c, 1, none⟩ = some y1 ∧ w.cell? ⟨c, 2, none⟩ = some y2 ∧ w.cell? ⟨d, 0, none⟩ = some z0 ∧ w.cell? ⟨d, 1, none⟩ = some z1
theorem E8.of {w w' : World} {b c d : Nat} {x0 x1 x2 y0 y1 y2 z0 z1 : Value} (h1 : B3 w b x0 x1 x2) (h2 : B3 w c y0 y1 y2) (h3 : B2 w d z0 z1) (hb : Below w.heap.size w w') : E8 w' b c d x0 x1 x2 y0 y1 y2 z0 z1 :=
  ⟨(h1.below hb).c0, (h1.below hb).c1, (h1.below hb).c2, (h2.below hb).c0, (h2.below hb).c1, (h2.below hb).c2, (h3.below hb).c0, (h3.below hb).c1⟩

set_option maxRecDepth 10000 in
set_option maxHeartbeats 4000000 in
theorem walk (a1 : Int) (a2 : Int) (a3 : Option Addr) (len3 cap3 : Nat) (z3 : List Int) (a4 : Int) (a5 : Int) (a6 : Int) (w : World) (w1 : (Lit.int .u64 a1).wf = true) (w2 : (Lit.int .u32 a2).wf = true) (w3 : IsRow .u8 w a3 len3 cap3 z3) (w4 : (Lit.int .i64 a4).wf = true) (w5 : (Lit.int .i64 a5).wf = true) (w6 : (Lit.int .i64 a6).wf = true) :
    Calls Try.prog 3 #[.agg #[.int .u64 a1, .int .u32 a2, .slice a3 len3 cap3], .int .i64 a4, .int .i64 a5, .int .i64 a6] w fun e w' => e = .returned (.bool true) ∧ Below w.heap.size w w' := by
  have hW := below1 w (.cells #[.int .u64 a1, .int .u32 a2, .slice a3 len3 cap3] 26)
  by_cases hg : 5000 < len3
  · have hg2 : (5000 : Int) < len3 := by omega
    go_enter Try.func3, Try.ntmps3
    go_wp2_with (go_at_call 11; refine (knows_any _).mono ?_; rintro e w9 ⟨rfl, hb9⟩)
    go_ret
    exact ⟨rfl, bthen hW hb9 hW.size⟩
  have hg2 : (len3 : Int) ≤ 5000 := by omega
  obtain ⟨e, h⟩ := ev_some w1 w2 w3
  clear w1 w2 w3 w4 w5 w6 hg
  have hFok := putE_ok h.1 a4 a5 a6
  have hput := fun w h => put_all a1 a2 a3 len3 cap3 e a4 a5 a6 w h
  have hrput := fun R a n cap w h => rput_all R a n cap e a4 a5 a6 w h
  generalize putE e a4 a5 a6 = F at hFok hput hrput
  generalize putF e a4 a5 a6 = er at hput hrput
  have hdv : ∀ (W : World) (a : Option Addr) (cap : Nat), Rw .u8 W (.slice a F.m cap) F.out → EvOf W F.low F.R a F.m cap F := fun W a cap hr => hFok.ev hr
  have hdb : encB F.low F.R F.m = true := hFok.encB
  have hfin := fun a cap W h => finish_ev F.low F.R a F.m cap F (F.m + 4) rfl W h
  have hsame := fun a cap R2 a2 n2 cap2 W h h2 => sameEnc_true F.low F.R a F.m cap R2 a2 n2 cap2 F W h hdb h2
  have hm4 := hFok.le
  have hbyts := F.all_byts
  obtain ⟨Fl, hFl⟩ : ∃ x : Int, (F.low : Int) = x := ⟨_, rfl⟩
  obtain ⟨FR, hFR⟩ : ∃ x : Int, (F.R : Int) = x := ⟨_, rfl⟩
  rw [hFl, hFR] at hput hdv hfin hsame
  clear hFl hFR hdb
  obtain ⟨Fm, hFm⟩ : ∃ x : Nat, F.m = x := ⟨_, rfl⟩
  rw [hFm] at hput hdv hfin hsame hm4
  have HFm : Hid (F.m = Fm) := hFm
  clear hFm
  obtain ⟨K, hK⟩ : ∃ K : Nat, Fm + 4 = K := ⟨_, rfl⟩
  rw [hK] at hfin
  have HK : Hid (Fm + 4 = K) := hK
  have HK5 : Hid (K ≤ 5000) := by unfold Hid; omega
  have hAl : Hid (F.all.length = K) := by unfold Hid; rw [En.all_length, HFm.out, hK]
  clear hK hm4
  cases hB : encB a1 a2 len3
  all_goals
    go_enter Try.func3, Try.ntmps3
    go_wp2_with (first | (go_at_call 12; refine (hput _ (h.below hW)).mono ?_; rintro x w2 ⟨ax, capx, rfl, hown, hb2⟩; have hX2 := bthen hW hb2 hW.size; have hBx := B3.new w2 (.int .u64 Fl) (.int .u32 FR) (.slice ax Fm capx) 26; have hX3 := hX2.alloc hX2.size (.cells #[.int .u64 Fl, .int .u32 FR, .slice ax Fm capx] 26); have hBe := ((B3.new w (.int .u64 a1) (.int .u32 a2) (.slice a3 len3 cap3) 26).below hb2).below (below1 w2 (.cells #[.int .u64 Fl, .int .u32 FR, .slice ax Fm capx] 26)); have hrx := (Rw.of_owns hown).below (below1 w2 (.cells #[.int .u64 Fl, .int .u32 FR, .slice ax Fm capx] 26)); obtain ⟨ze, e0, e1, e2, _, _, _⟩ := id hBe) | (go_at_call 14; refine (asEnc_ev _ _ _ _ _ e _ (h.below hX3)).mono ?_; rintro x w4 ⟨Rk, ak, nk, capk, rfl, hk, hb4⟩; have hX4 := bthen hX3 hb4 hX3.size; have hBe4 := hBe.below hb4; have hBx4 := hBx.below hb4; have hrx4 := hrx.below hb4) | (go_at_call 13; refine (hrput _ _ _ _ _ hk).mono ?_; rintro x w5 ⟨Ry, ay, ny, capy, rfl, hy, hb5⟩; have hX5 := bthen hX4 hb5 hX4.size; have hBe5 := (hBe4.below hb5).below (below1 w5 (.cells #[.int .u64 Ry, .slice ay ny capy] 33)); have hBx5 := (hBx4.below hb5).below (below1 w5 (.cells #[.int .u64 Ry, .slice ay ny capy] 33)); have hrx5 := (hrx4.below hb5).below (below1 w5 (.cells #[.int .u64 Ry, .slice ay ny capy] 33)); have hBy5 := B2.new w5 (.int .u64 Ry) (.slice ay ny capy) 33; have hX6 := hX5.alloc hX5.size (.cells #[.int .u64 Ry, .slice ay ny capy] 33); have hy5 := hy.below (below1 w5 (.cells #[.int .u64 Ry, .slice ay ny capy] 33))))
    have hwev := hdv _ _ _ hrx5
    generalize (w5.alloc (.cells #[.int .u64 Ry, .slice ay ny capy] 33)) = W at *
    have hy := (Below.refl W.heap.size W).drew
    go_cut [52] (fun v wz => v = .bool false ∧ Below W.heap.size W wz)
    case first =>
      go_region_held3 (fun w' => w'.cell? ⟨w.heap.size, 0, none⟩ = some (.int .u64 a1) ∧ w'.cell? ⟨w.heap.size, 1, none⟩ = some (.int .u32 a2) ∧ w'.cell? ⟨w.heap.size, 2, none⟩ = some (.slice a3 len3 cap3) ∧ w'.cell? ⟨w2.heap.size, 0, none⟩ = some (.int .u64 Fl) ∧ w'.cell? ⟨w2.heap.size, 1, none⟩ = some (.int .u32 FR) ∧ w'.cell? ⟨w2.heap.size, 2, none⟩ = some (.slice ax Fm capx) ∧ w'.cell? ⟨w5.heap.size, 0, none⟩ = some (.int .u64 Ry) ∧ w'.cell? ⟨w5.heap.size, 1, none⟩ = some (.slice ay ny capy)) (exact E8.of hBe5 hBx5 hBy5 hy) (first | (go_at_call 15; refine (rightEnc_any _ _ _ _ _ _).mono ?_; rw [hB]; rintro x y1 ⟨rfl, hz⟩; have hy := bthen hy hz hy.size) | (go_at_call 16; refine (lright_any _ _ _ _ _ _).mono ?_; rw [hB]; rintro x y2 ⟨rfl, hz⟩; have hy := bthen hy hz hy.size) | (go_at_call 17; refine (hsame _ _ _ _ _ _ _ (hwev.below hy) (hy5.below hy)).mono ?_; rintro x y3 ⟨rfl, hz⟩; have hy := bthen hy hz hy.size))
      all_goals go_wp2
      all_goals go_meet
      all_goals exact ⟨rfl, hy⟩
    case rest =>
      obtain ⟨rfl, hz⟩ := hcut
      have hKn : K = ny := by rw [hy5.2.2.1, HFm.out, HK.out]
      subst hKn
      have hbz := bthen hX6 hz hX6.size
      have hev7 := hwev.below hz
      have hBy7 := hBy5.below hz
      have hrwy := hy5.2.2.2.below hz
      obtain ⟨zx, x0, x1, x2, _, _, _⟩ := hBx5.below hz
      clear hy5 hwev hBe5 hy
      go_wp2_with (go_at_call 18; refine (hfin _ _ _ hev7).mono ?_; rintro x w7 ⟨ab, capb, rfl, hrb, hb7⟩; obtain ⟨zy, y0, y1, _, _⟩ := hBy7.below hb7)
      have hBy8 := hBy7.below hb7
      have hr1 := hrb
      have hr2 := hrwy.below hb7
      rw [← hAl.out] at hr1 hr2
      have hbz7 := bthen hbz hb7 hbz.size
      clear y0 y1 zy x0 x1 x2 hev7 hrb hrwy
      go_loopw [14] (fun i wr => ∃ k : Nat, k ≤ K ∧ i = .int .i64 k ∧ Below w7.heap.size w7 wr) (fun i _ => K - (intOf i).toNat)
      case atStart => exact ⟨0, by omega, rfl, Below.refl _ _⟩
      case round =>
        obtain ⟨k, hk, rfl, hbr⟩ := hrel
        obtain ⟨zf, p0, p1, _, _⟩ := hBy8.below hbr
        by_cases hlt : k < K
        · obtain ⟨b1, o1, rfl, hb1', hc1⟩ := (hr1.below hbr).at k (by rw [hAl.out]; exact hlt)
          obtain ⟨b2, o2, rfl, hb2', hc2⟩ := (hr2.below hbr).at k (by rw [hAl.out]; exact hlt)
          obtain ⟨y, hy1, hy2⟩ := byts_nat hbyts k
          rw [hy1] at hc1 hc2
          clear hy1
          have i1 : (0 : Int) ≤ (k : Int) := by omega
          have i2 : (k : Int) < (K : Int) := by omega
          have i3 : IntKind.i64.wrap (k : Int) = k := wraps_i64 _ (by omega) (by have := HK5.out; omega)
          have i4 : IntKind.i64.wrap (y : Int) = y := wraps_i64 _ (by omega) (by omega)
          have hk5 : (k : Int) < 5000 := by have := HK5.out; omega
          go_wp2
          go_quiet (fail)
          go_wp2
          exact ⟨⟨k + 1, by omega, by go_num, drewN_below hbr _⟩, by simp [intOf]; omega⟩
        · go_wp2_with (go_at_call 11; refine (knows_any _).mono ?_; rintro e w9 ⟨rfl, hb9⟩)
          go_ret
          exact ⟨rfl, bthen (bthen hbz7 hbr hbz7.size) hb9 (bthen hbz7 hbr hbz7.size).size⟩


set_option maxRecDepth 100000 in
theorem lifted (os : Os) (started : os.Started) (H : Type) (enc : TypeId × Value → H) :
    ReturnsInHanded {} Try.checked os 3 .any (Rows.coderPutsSpec.pre6 enc Try.prog Try.f3 Rows.coderPutsRow.domain false) (Rows.coderPutsSpec.post enc Try.prog Try.f3 false true false false) := by
  refine returnsInHanded_of_change (C := Try.checked) own started (by kernel_rfl) Try.func3
    (ChangeSpec.witness6 (enc := enc) (C := Try.checked) false ⟨#[], #[.agg #[.int .u64 0, .int .u32 0, .slice none 0 0], .int .i64 0, .int .i64 0, .int .i64 0], []⟩ 8 (by kernel_rfl) (by kernel_rfl) (by kernel_rfl) (by kernel_rfl)) ?_
  intro W base args ds gs before hval0 hW hcnd _
  have hval : ∀ (j : Nat) t v, Try.f3.params[j]? = some t → args[j]? = some v → Value.okWide Try.prog W .any base t v := hval0
  have hW' := hW
  obtain ⟨p, q, hA0, hV, rfl, hfz, hnd⟩ := hW
  have hA : DataW.TrodAll enc Try.prog W 0 (fun _ => true) true Try.f3.params.toList args.toList ds p := hA0
  rw [Try.params3] at hA hval
  obtain ⟨v0, vs0, d0, ds0, p0, q0, hargs, rfl, rfl, h0, r0⟩ := trodAll_cons hA
  obtain ⟨v1, vs1, d1, ds1, p1, q1, rfl, rfl, rfl, h1, r1⟩ := trodAll_cons r0
  obtain ⟨v2, vs2, d2, ds2, p2, q2, rfl, rfl, rfl, h2, r2⟩ := trodAll_cons r1
  obtain ⟨v3, vs3, d3, ds3, p3, q3, rfl, rfl, rfl, h3, r3⟩ := trodAll_cons r2
  obtain ⟨rfl, rfl, rfl⟩ := trodAll_nil r3
  obtain rfl : args = #[v0, v1, v2, v3] := by cases args; simp_all
  obtain ⟨rfl, rfl⟩ := trodVars_none hV
  have k0 := h0
  have lt0 : ∀ x ∈ p0, x.block < W.heap.size := by obtain ⟨m, hm⟩ := k0; exact DataW.trod_lt m _ _ _ hm
  obtain ⟨c00, c01, c02, y00, y01, y02, m0, rfl, hd0, hp0, hy00, hy01, hy02⟩ := open_agg3 Try.underlying26 (by kernel_rfl) (by kernel_rfl) (hval 0 26 v0 rfl rfl) h0
  clear hd0 hp0
  obtain ⟨a1, e1, _, w1⟩ := DataW.trod_int Try.underlying22 hy00
  simp only [List.cons.injEq, and_true] at e1
  subst e1
  obtain ⟨a2, e2, _, w2⟩ := DataW.trod_int Try.underlying23 hy01
  simp only [List.cons.injEq, and_true] at e2
  subst e2
  obtain ⟨a3, len3, cap3, z3, e3, w3⟩ := ints_of_trod Try.underlying24 Try.underlying5 (by kernel_rfl) hy02
  subst e3
  obtain ⟨a4, rfl, rfl, rfl, w4⟩ := open_int Try.underlying3 (hval 1 3 v1 rfl rfl) h1
  obtain ⟨a5, rfl, rfl, rfl, w5⟩ := open_int Try.underlying3 (hval 2 3 v2 rfl rfl) h2
  obtain ⟨a6, rfl, rfl, rfl, w6⟩ := open_int Try.underlying3 (hval 3 3 v3 rfl rfl) h3
  clear hA0 hval0
  refine (walk a1 a2 a3 len3 cap3 z3 a4 a5 a6 W w1 w2 w3 w4 w5 w6).mono fun e W' ⟨he, bel⟩ => ?_
  subst he
  exact ⟨_, rfl, _, _, _, [], _, [], hW', trodAll_mk1 (shut_bool Try.underlying4 _), (trodAll_cons_mk (Below.trod laidOut (by kernel_rfl) (of_decide_eq_true (by kernel_rfl)) k0 bel lt0) (trodAll_cons_mk (shut_int Try.underlying3 w4) (trodAll_cons_mk (shut_int Try.underlying3 w5) (trodAll_cons_mk (shut_int Try.underlying3 w6) trodAll_mk0)))), rfl, bel.frame _, fun h => by cases h⟩

theorem over : Rows.coderPutsRow.holds Try.pinned (OpenSpec.ofChange Rows.coderPutsSpec) :=
  OpenClaim.holds_of_wide 3 Try.f3 rfl rfl rfl rfl rfl rfl rfl ⟨rfl, rfl, rfl, rfl, rfl⟩ rfl rfl rfl rfl rfl (by kernel_rfl) Try.func3 (by kernel_rfl)
    (of_decide_eq_true (by kernel_rfl)) (by unfold Func.isWrapper; first | (rw [if_pos (by decide +kernel)]; kernel_rfl) | (rw [if_neg (by decide +kernel)]; exact ⟨rfl, rfl⟩))
    (fun os started H enc _ => lifted os started H enc)

theorem proved : Rows.CoderPutsSaid := over
#print axioms proved
end Go.Proofs.Ytocccimlojeaeaa.coderPuts
