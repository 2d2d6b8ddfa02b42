/- The Go function of the statement AllocApart returns true at every input, and leaves each argument as it read. No condition. -/
import Derived.Test.YtlpjkahppogkiaaKl
import Derived.ProofKit
import Derived.OpenShut
import Derived.ShutString
import Derived.ChangeOld
import Derived.Lib.SmallJoins
namespace Go.Proofs.Ytlpjkahppogkiaa.allocApart
open Go.ChangeShapes Go.WideShapes Go.ChangeAt Go.RowKit Go.Joins
set_option linter.unusedVariables false
set_option linter.unusedSimpArgs false

theorem own : ownKnob Try.prog.godebug = none := by kernel_rfl
theorem laidOut : laidOutB Try.prog = true := by kernel_rfl

set_option maxRecDepth 10000 in
set_option maxHeartbeats 4000000 in
theorem walk (a0 : Int) (a1 : Option Addr) (len1 cap1 : Nat) (z1 : List Int) (a2 : Option Addr) (len2 cap2 : Nat) (z2 : List Int) (a3 : Option Addr) (len3 cap3 : Nat) (z3 : List Int) (w : World) (w0 : (Lit.int .i64 a0).wf = true) (w1 : IsRow .i64 w a1 len1 cap1 z1) (w2 : IsRow .i64 w a2 len2 cap2 z2) (w3 : IsRow .i64 w a3 len3 cap3 z3) :
    Calls Try.prog 7 #[.int .i64 a0, .slice a1 len1 cap1, .slice a2 len2 cap2, .slice a3 len3 cap3] w fun e w' => e = .returned (.bool true) ∧ Below w.heap.size w w' := by
  obtain ⟨x, hx1, hvx, -⟩ := row_rw_any w1
  obtain ⟨y, hy1, hvy, -⟩ := row_rw_any w2
  obtain ⟨z, hz1, hvz, -⟩ := row_rw_any w3
  clear w0 w1 w2 w3
  by_cases g1 : (100 : Int) < (len1 : Int)
  · have k1 : decide ((100 : Int) < (len1 : Int)) = true := decide_eq_true g1
    go_enter Try.func7, Try.ntmps7
    go_wp2_with (go_at_call 13; refine (knows_any _).mono ?_; rintro e wk ⟨rfl, hbk⟩)
    go_ret
    exact ⟨rfl, hbk⟩
  have k1 : decide ((100 : Int) < (len1 : Int)) = false := decide_eq_false g1
  by_cases g2 : (100 : Int) < (len2 : Int)
  · have k2 : decide ((100 : Int) < (len2 : Int)) = true := decide_eq_true g2
    go_enter Try.func7, Try.ntmps7
    go_wp2_with (go_at_call 13; refine (knows_any _).mono ?_; rintro e wk ⟨rfl, hbk⟩)
    go_ret
    exact ⟨rfl, hbk⟩
  have k2 : decide ((100 : Int) < (len2 : Int)) = false := decide_eq_false g2
  by_cases g3 : (100 : Int) < (len3 : Int)
  · have k3 : decide ((100 : Int) < (len3 : Int)) = true := decide_eq_true g3
    go_enter Try.func7, Try.ntmps7
    go_wp2_with (go_at_call 13; refine (knows_any _).mono ?_; rintro e wk ⟨rfl, hbk⟩)
    go_ret
    exact ⟨rfl, hbk⟩
  have k3 : decide ((100 : Int) < (len3 : Int)) = false := decide_eq_false g3
  clear g1 g2 g3 hx1 hy1 hz1
  have HX := hid hvx
  have HY := hid hvy
  have HZ := hid hvz
  clear hvx hvy hvz
  by_cases hbad : (rtB a0 2 && (gokB x && gokB y)) = true
  · have hbad' := hbad
    rw [Bool.and_eq_true, Bool.and_eq_true] at hbad'
    obtain ⟨hrt, hgx, hgy⟩ := hbad'
    have hc1 := p2_ok a0 _ _ x y w hrt hgx hgy HX.out HY.out
    by_cases hgz : gokB z = true
    · have hc2 := fun (w' : World) (h : Below w.heap.size w w') => p2_ok a0 _ _ x z w' hrt hgx hgz (HX.out.below h) (HZ.out.below h)
      have hc3 := fun (w' : World) (h : Below w.heap.size w w') => p2_ok a0 _ _ y x w' hrt hgy hgx (HY.out.below h) (HX.out.below h)
      have HLX := hid (pls_len (chan x (rmI a0 2)))
      have HLY := hid (pls_len (chan y (rmI a0 2)))
      clear hrt hgx hgy hgz hbad
      generalize pls (chan x (rmI a0 2)) = X at *
      generalize pls (chan y (rmI a0 2)) = Y at *
      generalize pls (chan z (rmI a0 2)) = Z at *
      go_enter Try.func7, Try.ntmps7
      go_upto_region 4 with (go_at_call 15; refine hc1.mono ?_; rintro e y1 ⟨G1, ra1, rb1, rc1, rd1, rfl, hz1, p1, q1, r1, s1, hb1⟩)
      have hd2 := hc2 y1 hb1
      clear hc1 hc2
      go_upto_region 5 with (go_at_call 15; refine hd2.mono ?_; rintro e y2 ⟨G2, ra2, rb2, rc2, rd2, rfl, hz2, p2, q2, r2, s2, hb2⟩)
      have hd3 := hc3 y2 (bthen' hb1 hb2)
      clear hd2 hc3
      go_upto_region 6 with (go_at_call 15; refine hd3.mono ?_; rintro e y3 ⟨G3, ra3, rb3, rc3, rd3, rfl, hz3, p3, q3, r3, s3, hb3⟩)
      clear hd3
      have hb23 := bthen' hb2 hb3
      have e1 := cellQ (((bcell hb23).1 _ _ hz1).trans p1)
      have e2 := cellQ (((bcell hb23).1 _ _ hz1).trans q1)
      have e3 := cellQ (((bcell hb3).1 _ _ hz2).trans p2)
      have e4 := cellQ p3
      have e5 := cellQ q3
      have H1 := callQ (fun w' h => same_yes (.slice ra1 5 rc1) (.slice ra2 5 rc2) X w' ((r1.below hb23).below h) ((r2.below hb3).below h) (by rw [HLX.out]; omega))
      have H2 := callQ (fun w' h => same_yes (.slice ra1 5 rc1) (.slice rb3 5 rd3) X w' ((r1.below hb23).below h) (s3.below h) (by rw [HLX.out]; omega))
      have H3 := callQ (fun w' h => same_yes (.slice rb1 5 rd1) (.slice ra3 5 rc3) Y w' ((s1.below hb23).below h) (r3.below h) (by rw [HLY.out]; omega))
      have H4 := callQ (w := y3) (fun w' _ => knows_any w')
      have HB3 := hid (bthen' hb1 hb23)
      clear r1 s1 r2 s2 r3 s3 p1 q1 p2 q2 p3 q3 hb1 hb2 hb3 hb23 hz1 hz2 hz3
      go_wp2
      refine wp_region_quiet_below (by kernel_rfl) (by kernel_rfl) ?_
      repeat (go_big_quiet_step (first | (go_at_call_of 22 (Value.slice ra2 5 rc2); exact H1 _ _) | (go_at_call_of 22 (Value.slice rb3 5 rd3); exact H2 _ _) | (go_at_call_of 22 (Value.slice ra3 5 rc3); exact H3 _ _) | (go_at_call 13; exact H4 _ _)))
      refine wpQuiet_nil ?_
      intro _ hw'
      obtain ⟨⟨dq, osq⟩, hw''⟩ := hw'
      subst hw''
      go_wp2
      go_ret
      exact ⟨rfl, bthen' HB3.out (below_regrown y3 dq osq)⟩
    · have hc2 := fun (w' : World) (h : Below w.heap.size w w') => p2_no a0 _ _ x z w' (by simp [hgz]) (HX.out.below h) (HZ.out.below h)
      have hc3 := fun (w' : World) (h : Below w.heap.size w w') => p2_any a0 _ _ y x w' (HY.out.below h) (HX.out.below h)
      clear hrt hgx hgy hgz hbad
      go_enter Try.func7, Try.ntmps7
      go_upto_region 4 with (go_at_call 15; refine hc1.mono ?_; rintro e y1 ⟨G1, ra1, rb1, rc1, rd1, rfl, -, -, -, -, -, hb1⟩)
      have hd2 := hc2 y1 hb1
      clear hc1 hc2
      go_upto_region 5 with (go_at_call 15; refine hd2.mono ?_; rintro e y2 ⟨rfl, hb2⟩)
      have hd3 := hc3 y2 (bthen' hb1 hb2)
      clear hd2 hc3
      go_upto_region 6 with (go_at_call 15; refine hd3.mono ?_; rintro e y3 ⟨ra3, rb3, rc3, er3, rfl, hb3⟩)
      clear hd3
      go_wp2_with (go_at_call 13; refine (knows_any _).mono ?_; rintro e wk ⟨rfl, hbk⟩)
      go_ret
      exact ⟨rfl, bthen' (bthen' (bthen' hb1 hb2) hb3) hbk⟩
  · have hbad : (rtB a0 2 && (gokB x && gokB y)) = false := by simpa using hbad
    have hc1 := p2_no a0 _ _ x y w hbad HX.out HY.out
    have hc2 := fun (w' : World) (h : Below w.heap.size w w') => p2_any a0 _ _ x z w' (HX.out.below h) (HZ.out.below h)
    have hc3 := fun (w' : World) (h : Below w.heap.size w w') => p2_any a0 _ _ y x w' (HY.out.below h) (HX.out.below h)
    clear hbad
    go_enter Try.func7, Try.ntmps7
    go_upto_region 4 with (go_at_call 15; refine hc1.mono ?_; rintro e y1 ⟨rfl, hb1⟩)
    have hd2 := hc2 y1 hb1
    clear hc1 hc2
    go_upto_region 5 with (go_at_call 15; refine hd2.mono ?_; rintro e y2 ⟨ra2, rb2, rc2, er2, rfl, hb2⟩)
    have hd3 := hc3 y2 (bthen' hb1 hb2)
    clear hd2 hc3
    go_upto_region 6 with (go_at_call 15; refine hd3.mono ?_; rintro e y3 ⟨ra3, rb3, rc3, er3, rfl, hb3⟩)
    clear hd3
    go_wp2_with (go_at_call 13; refine (knows_any _).mono ?_; rintro e wk ⟨rfl, hbk⟩)
    go_ret
    exact ⟨rfl, bthen' (bthen' (bthen' hb1 hb2) hb3) hbk⟩


set_option maxRecDepth 100000 in
theorem lifted (os : Os) (started : os.Started) (H : Type) (enc : TypeId × Value → H) :
    ReturnsInHanded {} Try.checked os 7 .any (Rows.allocApartSpec.pre6 enc Try.prog Try.f7 Rows.allocApartRow.domain false) (Rows.allocApartSpec.post enc Try.prog Try.f7 false true false false) := by
  refine returnsInHanded_of_change (C := Try.checked) own started (by kernel_rfl) Try.func7
    (ChangeSpec.witness6 (enc := enc) (C := Try.checked) false ⟨#[], #[.int .i64 0, .slice none 0 0, .slice none 0 0, .slice none 0 0], []⟩ 8 (by kernel_rfl) (by kernel_rfl) (by kernel_rfl) (by kernel_rfl)) ?_
  intro W base args ds gs before hval0 hW hcnd _
  have hval : ∀ (j : Nat) t v, Try.f7.params[j]? = some t → args[j]? = some v → Value.okWide Try.prog W .any base t v := hval0
  have hW' := hW
  obtain ⟨p, q, hA0, hV, rfl, hfz, hnd⟩ := hW
  have hA : DataW.TrodAll enc Try.prog W 0 (fun _ => true) true Try.f7.params.toList args.toList ds p := hA0
  rw [Try.params7] at hA hval
  obtain ⟨v0, vs0, d0, ds0, p0, q0, hargs, rfl, rfl, h0, r0⟩ := trodAll_cons hA
  obtain ⟨v1, vs1, d1, ds1, p1, q1, rfl, rfl, rfl, h1, r1⟩ := trodAll_cons r0
  obtain ⟨v2, vs2, d2, ds2, p2, q2, rfl, rfl, rfl, h2, r2⟩ := trodAll_cons r1
  obtain ⟨v3, vs3, d3, ds3, p3, q3, rfl, rfl, rfl, h3, r3⟩ := trodAll_cons r2
  obtain ⟨rfl, rfl, rfl⟩ := trodAll_nil r3
  obtain rfl : args = #[v0, v1, v2, v3] := by cases args; simp_all
  obtain ⟨rfl, rfl⟩ := trodVars_none hV
  obtain ⟨a0, rfl, rfl, rfl, w0⟩ := open_int Try.underlying3 (hval 0 3 v0 rfl rfl) h0
  have k1 := h1
  have lt1 : ∀ x ∈ p1, x.block < W.heap.size := by obtain ⟨m, hm⟩ := k1; exact DataW.trod_lt m _ _ _ hm
  obtain ⟨a1, len1, cap1, rfl⟩ := okWide_slice Try.underlying34 (hval 1 34 v1 rfl rfl)
  obtain ⟨z1, w1⟩ : ∃ zs, IsRow .i64 W a1 len1 cap1 zs := by
    obtain ⟨fuel, hf⟩ := h1
    obtain ⟨a', l', c', zs, he, hr⟩ := ints_of_trod Try.underlying34 Try.underlying3 (by kernel_rfl) (show DataW.trod enc Try.prog W 0 (fun _ => true) true fuel 34 [.slice a1 len1 cap1] = _ from hf)
    simp only [Value.slice.injEq] at he
    obtain ⟨rfl, rfl, rfl⟩ := he
    exact ⟨zs, hr⟩
  have k2 := h2
  have lt2 : ∀ x ∈ p2, x.block < W.heap.size := by obtain ⟨m, hm⟩ := k2; exact DataW.trod_lt m _ _ _ hm
  obtain ⟨a2, len2, cap2, rfl⟩ := okWide_slice Try.underlying34 (hval 2 34 v2 rfl rfl)
  obtain ⟨z2, w2⟩ : ∃ zs, IsRow .i64 W a2 len2 cap2 zs := by
    obtain ⟨fuel, hf⟩ := h2
    obtain ⟨a', l', c', zs, he, hr⟩ := ints_of_trod Try.underlying34 Try.underlying3 (by kernel_rfl) (show DataW.trod enc Try.prog W 0 (fun _ => true) true fuel 34 [.slice a2 len2 cap2] = _ from hf)
    simp only [Value.slice.injEq] at he
    obtain ⟨rfl, rfl, rfl⟩ := he
    exact ⟨zs, hr⟩
  have k3 := h3
  have lt3 : ∀ x ∈ p3, x.block < W.heap.size := by obtain ⟨m, hm⟩ := k3; exact DataW.trod_lt m _ _ _ hm
  obtain ⟨a3, len3, cap3, rfl⟩ := okWide_slice Try.underlying34 (hval 3 34 v3 rfl rfl)
  obtain ⟨z3, w3⟩ : ∃ zs, IsRow .i64 W a3 len3 cap3 zs := by
    obtain ⟨fuel, hf⟩ := h3
    obtain ⟨a', l', c', zs, he, hr⟩ := ints_of_trod Try.underlying34 Try.underlying3 (by kernel_rfl) (show DataW.trod enc Try.prog W 0 (fun _ => true) true fuel 34 [.slice a3 len3 cap3] = _ from hf)
    simp only [Value.slice.injEq] at he
    obtain ⟨rfl, rfl, rfl⟩ := he
    exact ⟨zs, hr⟩
  clear hA0 hval0
  refine (walk a0 a1 len1 cap1 z1 a2 len2 cap2 z2 a3 len3 cap3 z3 W w0 w1 w2 w3).mono fun e W' ⟨he, bel⟩ => ?_
  subst he
  exact ⟨_, rfl, _, _, _, [], _, [], hW', trodAll_mk1 (shut_bool Try.underlying4 _), (trodAll_cons_mk (shut_int Try.underlying3 w0) (trodAll_cons_mk (Below.trod laidOut (by kernel_rfl) (of_decide_eq_true (by kernel_rfl)) k1 bel lt1) (trodAll_cons_mk (Below.trod laidOut (by kernel_rfl) (of_decide_eq_true (by kernel_rfl)) k2 bel lt2) (trodAll_cons_mk (Below.trod laidOut (by kernel_rfl) (of_decide_eq_true (by kernel_rfl)) k3 bel lt3) trodAll_mk0)))), rfl, bel.frame _, fun h => by cases h⟩

theorem over : Rows.allocApartRow.holds Try.pinned (OpenSpec.ofChange Rows.allocApartSpec) :=
  OpenClaim.holds_of_wide 7 Try.f7 rfl rfl rfl rfl rfl rfl rfl ⟨rfl, rfl, rfl, rfl, rfl⟩ rfl rfl rfl rfl rfl (by kernel_rfl) Try.func7 (by kernel_rfl)
    (of_decide_eq_true (by kernel_rfl)) (by unfold Func.isWrapper; first | (rw [if_pos (by decide +kernel)]; kernel_rfl) | (rw [if_neg (by decide +kernel)]; exact ⟨rfl, rfl⟩))
    (fun os started H enc _ => lifted os started H enc)

theorem proved : Rows.AllocApartSaid := over
#print axioms proved
end Go.Proofs.Ytlpjkahppogkiaa.allocApart
