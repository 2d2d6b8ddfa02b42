/- The Go function of the statement HeadBack returns true at every input, and leaves each argument as it read. No condition. -/
import Derived.Test.YtdgacbelpenmmaaVm
import Derived.BigQuiet
import Derived.ProofKit
import Derived.OpenShut
import Derived.ShutString
import Derived.ChangeOld
import Derived.Lib.SmallJoins
namespace Go.Proofs.Ytdgacbelpenmmaa.headBack
open Go.ChangeShapes Go.WideShapes Go.ChangeAt Go.RowKit Go.Joins
set_option linter.unusedVariables false
set_option linter.unusedSimpArgs false

theorem own : ownKnob Try.prog.godebug = none := by kernel_rfl
theorem laidOut : laidOutB Try.prog = true := by kernel_rfl

set_option maxRecDepth 10000 in
set_option maxHeartbeats 8000000 in
theorem walk (a1 : Int) (a2 : Int) (a3 : Option Addr) (len3 cap3 : Nat) (z3 : List Int) (a4 : Option Addr) (len4 cap4 : Nat) (z4 : List Int) (w : World) (w1 : (Lit.int .i64 a1).wf = true) (w2 : (Lit.int .i64 a2).wf = true) (w3 : IsRow .i64 w a3 len3 cap3 z3) (w4 : IsRow .i64 w a4 len4 cap4 z4) :
    Calls Try.prog 6 #[.agg #[.int .i64 a1, .int .i64 a2, .slice a3 len3 cap3, .slice a4 len4 cap4]] w fun e w' => e = .returned (.bool true) ∧ Below w.heap.size w w' := by
  obtain ⟨F, hlf, hvf, _⟩ := row_rw_any w3
  obtain ⟨R, hlr, hvr, _⟩ := row_rw_any w4
  have hbk : Bks w a3 len3 cap3 F a4 len4 cap4 R := ⟨hlf, hvf, hlr, hvr⟩
  have hacc := below1 w (.cells #[.int .i64 a1, .int .i64 a2, .slice a3 len3 cap3, .slice a4 len4 cap4] 24)
  have hB0 := B4.new w (.int .i64 a1) (.int .i64 a2) (.slice a3 len3 cap3) (.slice a4 len4 cap4) 24
  obtain ⟨ez, e0, e1, e2, e3, f0, f1, f2, f3⟩ := id hB0
  clear w1 w2 w3 w4 hlf hvf hlr hvr
  by_cases hg : 200 < len3 ∨ 200 < len4
  · have hgd : decide (200 < len3 ∨ 200 < len4) = true := decide_eq_true hg
    clear hg hbk hB0
    go_enter Try.func6, Try.ntmps6
    go_wp2_with (first | (go_at_call 9; refine (great16_any _ _ _ _ _ _ _ _ _).mono ?_; rintro e w1 ⟨rfl, hb1⟩; rw [hgd]; replace hacc := bthen' hacc hb1) | (go_at_call 10; refine (knows_any _).mono ?_; rintro e w9 ⟨rfl, hb9⟩; replace hacc := bthen hacc hb9 hacc.size))
    go_ret
    exact ⟨rfl, hacc⟩
  have hgd : decide (200 < len3 ∨ 200 < len4) = false := decide_eq_false hg
  have hl3 : len3 ≤ 200 := by omega
  have hl4 : len4 ≤ 200 := by omega
  clear hg
  have p2 := fun W (h : Below w.heap.size w W) => vwrite_any a1 a2 a3 len3 cap3 F a4 len4 cap4 R W (hbk.below h)
  have p3 := fun W (h : Below w.heap.size w W) => rvright_any a1 a2 a3 len3 cap3 F a4 len4 cap4 R W (hbk.below h)
  cases hR : vhRight a1 a2 F R
  · obtain ⟨hE, hX⟩ := wr_no hR
    have hlen : ([] : List Int).length = 0 := rfl
    rw [hE, hX] at p2
    clear hR hE hX hbk p3
    go_enter Try.func6, Try.ntmps6
    go_wp2_with (first | (go_at_call 9; refine (great16_any _ _ _ _ _ _ _ _ _).mono ?_; rintro e w1 ⟨rfl, hb1⟩; rw [hgd]; replace hacc := bthen hacc hb1 hacc.size; replace hB0 := hB0.below hb1; clear ez e0 e1 e2 e3 f0 f1 f2 f3; obtain ⟨ez, e0, e1, e2, e3, f0, f1, f2, f3⟩ := id hB0) | (go_at_call 17; refine (p2 _ hacc).mono ?_; rintro e w2 ⟨v, rfl, hv, hb2⟩; obtain ⟨va, vc, hve⟩ := rw_slice hv; rw [hlen] at hve; subst hve; replace hacc := bthen hacc hb2 hacc.size; replace hB0 := hB0.below hb2; clear ez e0 e1 e2 e3 f0 f1 f2 f3; obtain ⟨ez, e0, e1, e2, e3, f0, f1, f2, f3⟩ := id hB0) | (go_at_call 10; refine (knows_any _).mono ?_; rintro e w9 ⟨rfl, hb9⟩; replace hacc := bthen hacc hb9 hacc.size))
    go_ret
    exact ⟨rfl, hacc⟩
  · obtain ⟨hE, hX⟩ := wr_ok hR
    have hlen : (byL (hV a1 a2 F R) 41).length = 41 := byL_length _ _
    have p6 := fun w a cap hv => vread_any a 41 cap _ w hlen hv (byL_byts (hV a1 a2 F R) 41) (by omega)
    obtain ⟨o1, o2, o3, o4, o5⟩ := out_back hR
    rw [o1, o2, o3, o4, o5] at p6
    rw [hE, hX] at p2
    have hF100 : F.length ≤ 100 := by have := (vhRight_parts hR).2.2.2.2.1; omega
    have hR100 : R.length ≤ 100 := by have := (vhRight_parts hR).2.2.2.2.2.1; omega
    clear hR hE hX p3 o1 o2 o3 o4 o5
    generalize byL (hV a1 a2 F R) 41 = Y at *
    have HBK := hid hbk
    clear hbk
    go_enter Try.func6, Try.ntmps6
    go_upto_region 7 with (first | (go_at_call 9; refine (great16_any _ _ _ _ _ _ _ _ _).mono ?_; rintro e w1 ⟨rfl, hb1⟩; rw [hgd]; replace hacc := bthen hacc hb1 hacc.size; replace hB0 := hB0.below hb1; clear ez e0 e1 e2 e3 f0 f1 f2 f3; obtain ⟨ez, e0, e1, e2, e3, f0, f1, f2, f3⟩ := id hB0) | (go_at_call 17; refine (p2 _ hacc).mono ?_; rintro e w2 ⟨v, rfl, hv, hb2⟩; obtain ⟨va, vc, hve⟩ := rw_slice hv; rw [hlen] at hve; subst hve; replace hacc := bthen hacc hb2 hacc.size; replace hB0 := hB0.below hb2; clear ez e0 e1 e2 e3 f0 f1 f2 f3; obtain ⟨ez, e0, e1, e2, e3, f0, f1, f2, f3⟩ := id hB0) | (go_at_call 19; refine (p6 _ va vc hv.rw).mono ?_; rintro e w5 ⟨s1, n1, k1, s2, n2, k2, rfl, hr5, hr6, hb5⟩; replace hacc := bthen hacc hb5 hacc.size; replace hB0 := hB0.below hb5; clear ez e0 e1 e2 e3 f0 f1 f2 f3; obtain ⟨ez, e0, e1, e2, e3, f0, f1, f2, f3⟩ := id hB0))
    have hbx := below1 w5 (.cells #[.int .i64 a1, .int .i64 a2, .slice s1 n1 k1, .slice s2 n2 k2] 24)
    have hBq := B4.new w5 (.int .i64 a1) (.int .i64 a2) (.slice s1 n1 k1) (.slice s2 n2 k2) 24
    have hB1 := hB0.below hbx
    have HBW := hid (bthen hacc hbx hacc.size)
    have hr7 := hr5.rw.below hbx
    have hr8 := hr6.rw.below hbx
    have hbk2 := HBK.out.below HBW.out
    clear hacc hB0 ez e0 e1 e2 e3 f0 f1 f2 f3 hbx hr5 hr6 hv hb1 hb2 hb5 p2 p6
    generalize w5.alloc (.cells #[.int .i64 a1, .int .i64 a2, .slice s1 n1 k1, .slice s2 n2 k2] 24) = W6 at *
    generalize w5.heap.size = bq at *
    have hacc : Below W6.heap.size W6 W6.drew := (Below.refl _ _).drew
    obtain ⟨ez, e0, e1, e2, e3, f0, f1, f2, f3⟩ := id hB1
    obtain ⟨dz, d0, d1, d2, d3, j0, j1, j2, j3⟩ := id hBq
    go_region_held3 (fun w' => w'.cell? ⟨w.heap.size, 0, none⟩ = some (.int .i64 a1) ∧ w'.cell? ⟨w.heap.size, 1, none⟩ = some (.int .i64 a2) ∧ w'.cell? ⟨w.heap.size, 2, none⟩ = some (.slice a3 len3 cap3) ∧ w'.cell? ⟨w.heap.size, 3, none⟩ = some (.slice a4 len4 cap4) ∧ w'.cell? ⟨bq, 0, none⟩ = some (.int .i64 a1) ∧ w'.cell? ⟨bq, 1, none⟩ = some (.int .i64 a2) ∧ w'.cell? ⟨bq, 2, none⟩ = some (.slice s1 n1 k1) ∧ w'.cell? ⟨bq, 3, none⟩ = some (.slice s2 n2 k2)) (exact ⟨(hB1.below hacc).c0, (hB1.below hacc).c1, (hB1.below hacc).c2, (hB1.below hacc).c3, (hBq.below hacc).c0, (hBq.below hacc).c1, (hBq.below hacc).c2, (hBq.below hacc).c3⟩) (first
      | (go_at_call 13; refine (as16_any _ _ _ _ _ _ _ _ _).mono ?_; rintro e x2 ⟨rfl, hx2⟩; replace hacc := bthen hacc hx2 hacc.size)
      | (go_at_call 14; refine (same16_yes _ _ _ _ _ _ _ _ _ _ _ _ _ _ F R _ hF100 hR100 (hbk2.vf.below hacc) (hbk2.vr.below hacc) (hr7.below hacc) (hr8.below hacc)).mono ?_; rintro e x6 ⟨rfl, hx6⟩; replace hacc := bthen hacc hx6 hacc.size)
      | (go_at_call 10; refine (knows_any _).mono ?_; rintro e w9 ⟨rfl, hb9⟩; replace hacc := bthen hacc hb9 hacc.size))
    all_goals go_wp2
    all_goals go_ret
    all_goals exact ⟨rfl, bthen HBW.out hacc HBW.out.size⟩

set_option maxRecDepth 100000 in
theorem lifted (os : Os) (started : os.Started) (H : Type) (enc : TypeId × Value → H) :
    ReturnsInHanded {} Try.checked os 6 .any (Rows.headBackSpec.pre6 enc Try.prog Try.f6 Rows.headBackRow.domain false) (Rows.headBackSpec.post enc Try.prog Try.f6 false true false false) := by
  refine returnsInHanded_of_change (C := Try.checked) own started (by kernel_rfl) Try.func6
    (ChangeSpec.witness6 (enc := enc) (C := Try.checked) false ⟨#[], #[.agg #[.int .i64 0, .int .i64 0, .slice none 0 0, .slice none 0 0]], []⟩ 8 (by kernel_rfl) (by kernel_rfl) (by kernel_rfl) (by kernel_rfl)) ?_
  intro W base args ds gs before hval0 hW hcnd _
  have hval : ∀ (j : Nat) t v, Try.f6.params[j]? = some t → args[j]? = some v → Value.okWide Try.prog W .any base t v := hval0
  have hW' := hW
  obtain ⟨p, q, hA0, hV, rfl, hfz, hnd⟩ := hW
  have hA : DataW.TrodAll enc Try.prog W 0 (fun _ => true) true Try.f6.params.toList args.toList ds p := hA0
  rw [Try.params6] at hA hval
  obtain ⟨v0, vs0, d0, ds0, p0, q0, hargs, rfl, rfl, h0, r0⟩ := trodAll_cons hA
  obtain ⟨rfl, rfl, rfl⟩ := trodAll_nil r0
  obtain rfl : args = #[v0] := by cases args; simp_all
  obtain ⟨rfl, rfl⟩ := trodVars_none hV
  have k0 := h0
  have lt0 : ∀ x ∈ p0, x.block < W.heap.size := by obtain ⟨m, hm⟩ := k0; exact DataW.trod_lt m _ _ _ hm
  obtain ⟨c00, c01, c02, c03, y00, y01, y02, y03, m0, rfl, hd0, hp0, hy00, hy01, hy02, hy03⟩ := open_agg4 Try.underlying24 (by kernel_rfl) (by kernel_rfl) (hval 0 24 v0 rfl rfl) h0
  clear hd0 hp0
  obtain ⟨a1, e1, _, w1⟩ := DataW.trod_int Try.underlying3 hy00
  simp only [List.cons.injEq, and_true] at e1
  subst e1
  obtain ⟨a2, e2, _, w2⟩ := DataW.trod_int Try.underlying3 hy01
  simp only [List.cons.injEq, and_true] at e2
  subst e2
  obtain ⟨a3, len3, cap3, z3, e3, w3⟩ := ints_of_trod Try.underlying22 Try.underlying3 (by kernel_rfl) hy02
  subst e3
  obtain ⟨a4, len4, cap4, z4, e4, w4⟩ := ints_of_trod Try.underlying22 Try.underlying3 (by kernel_rfl) hy03
  subst e4
  clear hA0 hval0
  refine (walk a1 a2 a3 len3 cap3 z3 a4 len4 cap4 z4 W w1 w2 w3 w4).mono fun e W' ⟨he, bel⟩ => ?_
  subst he
  exact ⟨_, rfl, _, _, _, [], _, [], hW', trodAll_mk1 (shut_bool Try.underlying4 _), (trodAll_cons_mk (Below.trod laidOut (by kernel_rfl) (of_decide_eq_true (by kernel_rfl)) k0 bel lt0) trodAll_mk0), rfl, bel.frame _, fun h => by cases h⟩

theorem over : Rows.headBackRow.holds Try.pinned (OpenSpec.ofChange Rows.headBackSpec) :=
  OpenClaim.holds_of_wide 6 Try.f6 rfl rfl rfl rfl rfl rfl rfl ⟨rfl, rfl, rfl, rfl, rfl⟩ rfl rfl rfl rfl rfl (by kernel_rfl) Try.func6 (by kernel_rfl)
    (of_decide_eq_true (by kernel_rfl)) (by unfold Func.isWrapper; first | (rw [if_pos (by decide +kernel)]; kernel_rfl) | (rw [if_neg (by decide +kernel)]; exact ⟨rfl, rfl⟩))
    (fun os started H enc _ => lifted os started H enc)

theorem proved : Rows.HeadBackSaid := over
#print axioms proved
end Go.Proofs.Ytdgacbelpenmmaa.headBack
