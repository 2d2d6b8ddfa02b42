/- The Go function of the statement HeadRights returns true at every input, and leaves each argument as it read. No condition. -/
import Derived.Test.YtdgacbelpenmmaaVm
import Derived.BigQuiet
import Derived.ProofKit
import Derived.OpenShut
import Derived.ShutString
import Derived.ChangeOld
import Derived.Lib.SmallJoins
namespace Go.Proofs.Ytdgacbelpenmmaa.headRights
open Go.ChangeShapes Go.WideShapes Go.ChangeAt Go.RowKit Go.Joins
set_option linter.unusedVariables false
set_option linter.unusedSimpArgs false

theorem own : ownKnob Try.prog.godebug = none := by kernel_rfl
theorem laidOut : laidOutB Try.prog = true := by kernel_rfl

set_option maxRecDepth 10000 in
set_option maxHeartbeats 8000000 in
theorem walk (a1 : Int) (a2 : Int) (a3 : Option Addr) (len3 cap3 : Nat) (z3 : List Int) (a4 : Option Addr) (len4 cap4 : Nat) (z4 : List Int) (a5 : Int) (a6 : Int) (w : World) (w1 : (Lit.int .i64 a1).wf = true) (w2 : (Lit.int .i64 a2).wf = true) (w3 : IsRow .i64 w a3 len3 cap3 z3) (w4 : IsRow .i64 w a4 len4 cap4 z4) (w5 : (Lit.int .i64 a5).wf = true) (w6 : (Lit.int .i64 a6).wf = true) :
    Calls Try.prog 3 #[.agg #[.int .i64 a1, .int .i64 a2, .slice a3 len3 cap3, .slice a4 len4 cap4], .int .i64 a5, .int .i64 a6] w fun e w' => e = .returned (.bool true) ∧ Below w.heap.size w w' := by
  obtain ⟨F, hlf, hvf, _⟩ := row_rw_any w3
  obtain ⟨R, hlr, hvr, _⟩ := row_rw_any w4
  have hbk : Bks w a3 len3 cap3 F a4 len4 cap4 R := ⟨hlf, hvf, hlr, hvr⟩
  have hacc := below1 w (.cells #[.int .i64 a1, .int .i64 a2, .slice a3 len3 cap3, .slice a4 len4 cap4] 24)
  have hB0 := B4.new w (.int .i64 a1) (.int .i64 a2) (.slice a3 len3 cap3) (.slice a4 len4 cap4) 24
  obtain ⟨ez, e0, e1, e2, e3, f0, f1, f2, f3⟩ := id hB0
  clear w1 w2 w3 w4 w5 w6 hlf hvf hlr hvr
  by_cases hg : 200 < len3 ∨ 200 < len4
  · have hgd : decide (200 < len3 ∨ 200 < len4) = true := decide_eq_true hg
    clear hg hbk hB0
    go_enter Try.func3, Try.ntmps3
    go_wp2_with (first | (go_at_call 9; refine (great16_any _ _ _ _ _ _ _ _ _).mono ?_; rintro e w1 ⟨rfl, hb1⟩; rw [hgd]; replace hacc := bthen' hacc hb1) | (go_at_call 10; refine (knows_any _).mono ?_; rintro e w9 ⟨rfl, hb9⟩; replace hacc := bthen hacc hb9 hacc.size))
    go_ret
    exact ⟨rfl, hacc⟩
  have hgd : decide (200 < len3 ∨ 200 < len4) = false := decide_eq_false hg
  have hl3 : len3 ≤ 200 := by omega
  have hl4 : len4 ≤ 200 := by omega
  clear hg
  have hr := fun W (h : Below w.heap.size w W) => vright_any a1 a2 a3 len3 cap3 F a4 len4 cap4 R W (hbk.below h)
  have hrr := fun W (h : Below w.heap.size w W) => rvright_any a1 a2 a3 len3 cap3 F a4 len4 cap4 R W (hbk.below h)
  generalize vhRight a1 a2 F R = RR at *
  have hRR : (RR == RR) = true := by cases RR <;> rfl
  clear hbk
  go_enter Try.func3, Try.ntmps3
  go_upto_region 3 with (go_at_call 9; refine (great16_any _ _ _ _ _ _ _ _ _).mono ?_; rintro e w1 ⟨rfl, hb1⟩; rw [hgd]; replace hacc := bthen' hacc hb1)
  have hB1 := hB0.below hb1
  have HBW := hid hacc
  clear hacc hB0 hb1 ez e0 e1 e2 e3 f0 f1 f2 f3
  have hacc : Below w1.heap.size w1 w1.drew := (Below.refl _ _).drew
  obtain ⟨ez, e0, e1, e2, e3, f0, f1, f2, f3⟩ := id hB1
  go_region_held3 (fun w' => w'.cell? ⟨w.heap.size, 0, none⟩ = some (.int .i64 a1) ∧ w'.cell? ⟨w.heap.size, 1, none⟩ = some (.int .i64 a2) ∧ w'.cell? ⟨w.heap.size, 2, none⟩ = some (.slice a3 len3 cap3) ∧ w'.cell? ⟨w.heap.size, 3, none⟩ = some (.slice a4 len4 cap4)) (exact ⟨(hB1.below hacc).c0, (hB1.below hacc).c1, (hB1.below hacc).c2, (hB1.below hacc).c3⟩) (first
    | (go_at_call 11; refine (hr _ (HBW.out.trans (hacc.mono HBW.out.size))).mono ?_; rintro e x1 ⟨rfl, hx1⟩; replace hacc := bthen hacc hx1 hacc.size; try replace hq1 := hq1.below hx1; try replace hq2 := hq2.below hx1; try replace hs1 := hs1.below hx1; try replace hs2 := hs2.below hx1)
    | (go_at_call 13; refine (as16_any _ _ _ _ _ _ _ _ _).mono ?_; rintro e x2 ⟨rfl, hx2⟩; replace hacc := bthen hacc hx2 hacc.size; try replace hq1 := hq1.below hx2; try replace hq2 := hq2.below hx2; try replace hs1 := hs1.below hx2; try replace hs2 := hs2.below hx2)
    | (go_at_call 12; refine (hrr _ (HBW.out.trans (hacc.mono HBW.out.size))).mono ?_; rintro e x3 ⟨rfl, hx3⟩; replace hacc := bthen hacc hx3 hacc.size; try replace hq1 := hq1.below hx3; try replace hq2 := hq2.below hx3; try replace hs1 := hs1.below hx3; try replace hs2 := hs2.below hx3)
    | (go_at_call 15; refine (plain_any _ _ _).mono ?_; rintro e x4 ⟨g1, g2, rfl, hq1, hq2, _, _, hx4⟩; replace hacc := bthen hacc hx4 hacc.size; try replace hs1 := hs1.below hx4; try replace hs2 := hs2.below hx4)
    | (go_at_call 16; refine (rplain_any _ _ _).mono ?_; rintro e x5 ⟨a7, c7, a8, c8, rfl, hs1, hs2, hx5⟩; replace hacc := bthen hacc hx5 hacc.size; try replace hq1 := hq1.below hx5; try replace hq2 := hq2.below hx5)
    | (go_at_call 14; refine (same16_yes _ _ _ _ _ _ _ _ _ _ _ _ _ _ plF plR _ (by decide) (by decide) hq1 hq2 hs1 hs2).mono ?_; rintro e x6 ⟨rfl, hx6⟩; replace hacc := bthen hacc hx6 hacc.size)
    | (go_at_call 10; refine (knows_any _).mono ?_; rintro e w9 ⟨rfl, hb9⟩; replace hacc := bthen hacc hb9 hacc.size))
  all_goals go_wp2
  all_goals go_ret
  all_goals exact ⟨rfl, bthen HBW.out hacc HBW.out.size⟩

set_option maxRecDepth 100000 in
theorem lifted (os : Os) (started : os.Started) (H : Type) (enc : TypeId × Value → H) :
    ReturnsInHanded {} Try.checked os 3 .any (Rows.headRightsSpec.pre6 enc Try.prog Try.f3 Rows.headRightsRow.domain false) (Rows.headRightsSpec.post enc Try.prog Try.f3 false true false false) := by
  refine returnsInHanded_of_change (C := Try.checked) own started (by kernel_rfl) Try.func3
    (ChangeSpec.witness6 (enc := enc) (C := Try.checked) false ⟨#[], #[.agg #[.int .i64 0, .int .i64 0, .slice none 0 0, .slice none 0 0], .int .i64 0, .int .i64 0], []⟩ 8 (by kernel_rfl) (by kernel_rfl) (by kernel_rfl) (by kernel_rfl)) ?_
  intro W base args ds gs before hval0 hW hcnd _
  have hval : ∀ (j : Nat) t v, Try.f3.params[j]? = some t → args[j]? = some v → Value.okWide Try.prog W .any base t v := hval0
  have hW' := hW
  obtain ⟨p, q, hA0, hV, rfl, hfz, hnd⟩ := hW
  have hA : DataW.TrodAll enc Try.prog W 0 (fun _ => true) true Try.f3.params.toList args.toList ds p := hA0
  rw [Try.params3] at hA hval
  obtain ⟨v0, vs0, d0, ds0, p0, q0, hargs, rfl, rfl, h0, r0⟩ := trodAll_cons hA
  obtain ⟨v1, vs1, d1, ds1, p1, q1, rfl, rfl, rfl, h1, r1⟩ := trodAll_cons r0
  obtain ⟨v2, vs2, d2, ds2, p2, q2, rfl, rfl, rfl, h2, r2⟩ := trodAll_cons r1
  obtain ⟨rfl, rfl, rfl⟩ := trodAll_nil r2
  obtain rfl : args = #[v0, v1, v2] := by cases args; simp_all
  obtain ⟨rfl, rfl⟩ := trodVars_none hV
  have k0 := h0
  have lt0 : ∀ x ∈ p0, x.block < W.heap.size := by obtain ⟨m, hm⟩ := k0; exact DataW.trod_lt m _ _ _ hm
  obtain ⟨c00, c01, c02, c03, y00, y01, y02, y03, m0, rfl, hd0, hp0, hy00, hy01, hy02, hy03⟩ := open_agg4 Try.underlying24 (by kernel_rfl) (by kernel_rfl) (hval 0 24 v0 rfl rfl) h0
  clear hd0 hp0
  obtain ⟨a1, e1, _, w1⟩ := DataW.trod_int Try.underlying3 hy00
  simp only [List.cons.injEq, and_true] at e1
  subst e1
  obtain ⟨a2, e2, _, w2⟩ := DataW.trod_int Try.underlying3 hy01
  simp only [List.cons.injEq, and_true] at e2
  subst e2
  obtain ⟨a3, len3, cap3, z3, e3, w3⟩ := ints_of_trod Try.underlying22 Try.underlying3 (by kernel_rfl) hy02
  subst e3
  obtain ⟨a4, len4, cap4, z4, e4, w4⟩ := ints_of_trod Try.underlying22 Try.underlying3 (by kernel_rfl) hy03
  subst e4
  obtain ⟨a5, rfl, rfl, rfl, w5⟩ := open_int Try.underlying3 (hval 1 3 v1 rfl rfl) h1
  obtain ⟨a6, rfl, rfl, rfl, w6⟩ := open_int Try.underlying3 (hval 2 3 v2 rfl rfl) h2
  clear hA0 hval0
  refine (walk a1 a2 a3 len3 cap3 z3 a4 len4 cap4 z4 a5 a6 W w1 w2 w3 w4 w5 w6).mono fun e W' ⟨he, bel⟩ => ?_
  subst he
  exact ⟨_, rfl, _, _, _, [], _, [], hW', trodAll_mk1 (shut_bool Try.underlying4 _), (trodAll_cons_mk (Below.trod laidOut (by kernel_rfl) (of_decide_eq_true (by kernel_rfl)) k0 bel lt0) (trodAll_cons_mk (shut_int Try.underlying3 w5) (trodAll_cons_mk (shut_int Try.underlying3 w6) trodAll_mk0))), rfl, bel.frame _, fun h => by cases h⟩

theorem over : Rows.headRightsRow.holds Try.pinned (OpenSpec.ofChange Rows.headRightsSpec) :=
  OpenClaim.holds_of_wide 3 Try.f3 rfl rfl rfl rfl rfl rfl rfl ⟨rfl, rfl, rfl, rfl, rfl⟩ rfl rfl rfl rfl rfl (by kernel_rfl) Try.func3 (by kernel_rfl)
    (of_decide_eq_true (by kernel_rfl)) (by unfold Func.isWrapper; first | (rw [if_pos (by decide +kernel)]; kernel_rfl) | (rw [if_neg (by decide +kernel)]; exact ⟨rfl, rfl⟩))
    (fun os started H enc _ => lifted os started H enc)

theorem proved : Rows.HeadRightsSaid := over
#print axioms proved
end Go.Proofs.Ytdgacbelpenmmaa.headRights
