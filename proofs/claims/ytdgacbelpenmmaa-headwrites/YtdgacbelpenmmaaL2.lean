/- The Go function of the statement HeadWrites returns true at every input, and leaves each argument as it read. No condition. -/
import Derived.Test.YtdgacbelpenmmaaVm
import Derived.Deep.RegionWith
import Derived.ProofKit
import Derived.OpenShut
import Derived.ShutString
import Derived.ChangeOld
import Derived.Lib.SmallJoins
namespace Go.Proofs.Ytdgacbelpenmmaa.headWrites
open Go.ChangeShapes Go.WideShapes Go.ChangeAt Go.RowKit Go.Joins
set_option linter.unusedVariables false
set_option linter.unusedSimpArgs false

theorem own : ownKnob Try.prog.godebug = none := by kernel_rfl
theorem laidOut : laidOutB Try.prog = true := by kernel_rfl

set_option maxRecDepth 10000 in
set_option maxHeartbeats 8000000 in
theorem walk (a1 : Int) (a2 : Int) (a3 : Option Addr) (len3 cap3 : Nat) (z3 : List Int) (a4 : Option Addr) (len4 cap4 : Nat) (z4 : List Int) (w : World) (w1 : (Lit.int .i64 a1).wf = true) (w2 : (Lit.int .i64 a2).wf = true) (w3 : IsRow .i64 w a3 len3 cap3 z3) (w4 : IsRow .i64 w a4 len4 cap4 z4) :
    Calls Try.prog 4 #[.agg #[.int .i64 a1, .int .i64 a2, .slice a3 len3 cap3, .slice a4 len4 cap4]] w fun e w' => e = .returned (.bool true) ∧ Below w.heap.size w w' := by
  obtain ⟨F, hlf, hvf, _⟩ := row_rw_any w3
  obtain ⟨R, hlr, hvr, _⟩ := row_rw_any w4
  have hbk : Bks w a3 len3 cap3 F a4 len4 cap4 R := ⟨hlf, hvf, hlr, hvr⟩
  have hacc := below1 w (.cells #[.int .i64 a1, .int .i64 a2, .slice a3 len3 cap3, .slice a4 len4 cap4] 24)
  have hB0 := B4.new w (.int .i64 a1) (.int .i64 a2) (.slice a3 len3 cap3) (.slice a4 len4 cap4) 24
  obtain ⟨ez, e0, e1, e2, e3, f0, f1, f2, f3⟩ := id hB0
  clear w1 w2 w3 w4 hlf hvf hlr hvr
  by_cases hg : 200 < len3 ∨ 200 < len4
  · have hgd : decide (200 < len3 ∨ 200 < len4) = true := decide_eq_true hg
    clear hg hbk hB0
    go_enter Try.func4, Try.ntmps4
    go_wp2_with (first | (go_at_call 9; refine (great16_any _ _ _ _ _ _ _ _ _).mono ?_; rintro e w1 ⟨rfl, hb1⟩; rw [hgd]; replace hacc := bthen' hacc hb1) | (go_at_call 10; refine (knows_any _).mono ?_; rintro e w9 ⟨rfl, hb9⟩; replace hacc := bthen hacc hb9 hacc.size))
    go_ret
    exact ⟨rfl, hacc⟩
  have hgd : decide (200 < len3 ∨ 200 < len4) = false := decide_eq_false hg
  have hl3 : len3 ≤ 200 := by omega
  have hl4 : len4 ≤ 200 := by omega
  clear hg
  have p2 := fun W (h : Below w.heap.size w W) => vwrite_any a1 a2 a3 len3 cap3 F a4 len4 cap4 R W (hbk.below h)
  have p3 := fun W (h : Below w.heap.size w W) => rvright_any a1 a2 a3 len3 cap3 F a4 len4 cap4 R W (hbk.below h)
  cases hR : vhRight a1 a2 F R
  · obtain ⟨hE, hX⟩ := wr_no hR
    have hlen : ([] : List Int).length = 0 := rfl
    rw [hE, hX] at p2
    rw [hR] at p3
    clear hR hE hX hbk
    go_enter Try.func4, Try.ntmps4
    go_wp2_with (first | (go_at_call 9; refine (great16_any _ _ _ _ _ _ _ _ _).mono ?_; rintro e w1 ⟨rfl, hb1⟩; rw [hgd]; replace hacc := bthen hacc hb1 hacc.size; replace hB0 := hB0.below hb1; clear ez e0 e1 e2 e3 f0 f1 f2 f3; obtain ⟨ez, e0, e1, e2, e3, f0, f1, f2, f3⟩ := id hB0) | (go_at_call 17; refine (p2 _ hacc).mono ?_; rintro e w2 ⟨v, rfl, hv, hb2⟩; obtain ⟨va, vc, hve⟩ := rw_slice hv; rw [hlen] at hve; subst hve; replace hacc := bthen hacc hb2 hacc.size; replace hB0 := hB0.below hb2; clear ez e0 e1 e2 e3 f0 f1 f2 f3; obtain ⟨ez, e0, e1, e2, e3, f0, f1, f2, f3⟩ := id hB0) | (go_at_call 13; refine (as16_any _ _ _ _ _ _ _ _ _).mono ?_; rintro e w3 ⟨rfl, hb3⟩; replace hacc := bthen hacc hb3 hacc.size; replace hB0 := hB0.below hb3; clear ez e0 e1 e2 e3 f0 f1 f2 f3; obtain ⟨ez, e0, e1, e2, e3, f0, f1, f2, f3⟩ := id hB0; try replace hv := hv.below hb3) | (go_at_call 12; refine (p3 _ hacc).mono ?_; rintro e w4 ⟨rfl, hb4⟩; replace hacc := bthen hacc hb4 hacc.size; replace hB0 := hB0.below hb4; clear ez e0 e1 e2 e3 f0 f1 f2 f3; obtain ⟨ez, e0, e1, e2, e3, f0, f1, f2, f3⟩ := id hB0; try replace hv := hv.below hb4) | (go_at_call 10; refine (knows_any _).mono ?_; rintro e w9 ⟨rfl, hb9⟩; replace hacc := bthen hacc hb9 hacc.size))
    go_ret
    exact ⟨rfl, hacc⟩
  · obtain ⟨hE, hX⟩ := wr_ok hR
    have hlen : (byL (hV a1 a2 F R) 41).length = 41 := byL_length _ _
    have p5 := fun W (h : Below w.heap.size w W) => rvwrite_any a1 a2 a3 len3 cap3 F a4 len4 cap4 R W (hbk.below h) hR
    rw [hE, hX] at p2
    rw [hR] at p3
    clear hR hE hX hbk
    generalize byL (hV a1 a2 F R) 41 = Y at *
    have hs : ((strOfNums Y).toList == (strOfNums Y).toList) = true := by simp
    go_enter Try.func4, Try.ntmps4
    go_upto_region 6 with (first | (go_at_call 9; refine (great16_any _ _ _ _ _ _ _ _ _).mono ?_; rintro e w1 ⟨rfl, hb1⟩; rw [hgd]; replace hacc := bthen hacc hb1 hacc.size; replace hB0 := hB0.below hb1; clear ez e0 e1 e2 e3 f0 f1 f2 f3; obtain ⟨ez, e0, e1, e2, e3, f0, f1, f2, f3⟩ := id hB0) | (go_at_call 17; refine (p2 _ hacc).mono ?_; rintro e w2 ⟨v, rfl, hv, hb2⟩; obtain ⟨va, vc, hve⟩ := rw_slice hv; rw [hlen] at hve; subst hve; replace hacc := bthen hacc hb2 hacc.size; replace hB0 := hB0.below hb2; clear ez e0 e1 e2 e3 f0 f1 f2 f3; obtain ⟨ez, e0, e1, e2, e3, f0, f1, f2, f3⟩ := id hB0) | (go_at_call 13; refine (as16_any _ _ _ _ _ _ _ _ _).mono ?_; rintro e w3 ⟨rfl, hb3⟩; replace hacc := bthen hacc hb3 hacc.size; replace hB0 := hB0.below hb3; clear ez e0 e1 e2 e3 f0 f1 f2 f3; obtain ⟨ez, e0, e1, e2, e3, f0, f1, f2, f3⟩ := id hB0; try replace hv := hv.below hb3) | (go_at_call 12; refine (p3 _ hacc).mono ?_; rintro e w4 ⟨rfl, hb4⟩; replace hacc := bthen hacc hb4 hacc.size; replace hB0 := hB0.below hb4; clear ez e0 e1 e2 e3 f0 f1 f2 f3; obtain ⟨ez, e0, e1, e2, e3, f0, f1, f2, f3⟩ := id hB0; try replace hv := hv.below hb4))
    replace hacc := hacc.drew
    have r4 := hv.rw.below (Below.refl _ _).drew
    have c4 := conv_rw (P := Try.prog) (r4) 34 9 5 Try.underlying34 Try.underlying5 Try.underlying9
    go_region_with (first | (go_at_call 13; refine (as16_any _ _ _ _ _ _ _ _ _).mono ?_; rintro e w5 ⟨rfl, hb5⟩; replace hacc := bthen hacc hb5 hacc.size; have r5 := r4.below hb5; have c5 := conv_rw (P := Try.prog) (r5) 34 9 5 Try.underlying34 Try.underlying5 Try.underlying9) | (go_at_call 18; refine (p5 _ hacc).mono ?_; rintro e w6 ⟨v6, rfl, hr6, hb6⟩; replace hacc := bthen hacc hb6 hacc.size; have c6 := conv_rw (P := Try.prog) (hr6.rw) 34 9 5 Try.underlying34 Try.underlying5 Try.underlying9; have c7 := conv_rw (P := Try.prog) (r5.below hb6) 34 9 5 Try.underlying34 Try.underlying5 Try.underlying9) | (go_at_call 10; refine (knows_any _).mono ?_; rintro e w9 ⟨rfl, hb9⟩; replace hacc := bthen hacc hb9 hacc.size))
    all_goals go_wp2
    all_goals go_ret
    all_goals exact ⟨rfl, hacc⟩

set_option maxRecDepth 100000 in
theorem lifted (os : Os) (started : os.Started) (H : Type) (enc : TypeId × Value → H) :
    ReturnsInHanded {} Try.checked os 4 .any (Rows.headWritesSpec.pre6 enc Try.prog Try.f4 Rows.headWritesRow.domain false) (Rows.headWritesSpec.post enc Try.prog Try.f4 false true false false) := by
  refine returnsInHanded_of_change (C := Try.checked) own started (by kernel_rfl) Try.func4
    (ChangeSpec.witness6 (enc := enc) (C := Try.checked) false ⟨#[], #[.agg #[.int .i64 0, .int .i64 0, .slice none 0 0, .slice none 0 0]], []⟩ 8 (by kernel_rfl) (by kernel_rfl) (by kernel_rfl) (by kernel_rfl)) ?_
  intro W base args ds gs before hval0 hW hcnd _
  have hval : ∀ (j : Nat) t v, Try.f4.params[j]? = some t → args[j]? = some v → Value.okWide Try.prog W .any base t v := hval0
  have hW' := hW
  obtain ⟨p, q, hA0, hV, rfl, hfz, hnd⟩ := hW
  have hA : DataW.TrodAll enc Try.prog W 0 (fun _ => true) true Try.f4.params.toList args.toList ds p := hA0
  rw [Try.params4] at hA hval
  obtain ⟨v0, vs0, d0, ds0, p0, q0, hargs, rfl, rfl, h0, r0⟩ := trodAll_cons hA
  obtain ⟨rfl, rfl, rfl⟩ := trodAll_nil r0
  obtain rfl : args = #[v0] := by cases args; simp_all
  obtain ⟨rfl, rfl⟩ := trodVars_none hV
  have k0 := h0
  have lt0 : ∀ x ∈ p0, x.block < W.heap.size := by obtain ⟨m, hm⟩ := k0; exact DataW.trod_lt m _ _ _ hm
  obtain ⟨c00, c01, c02, c03, y00, y01, y02, y03, m0, rfl, hd0, hp0, hy00, hy01, hy02, hy03⟩ := open_agg4 Try.underlying24 (by kernel_rfl) (by kernel_rfl) (hval 0 24 v0 rfl rfl) h0
  clear hd0 hp0
  obtain ⟨a1, e1, _, w1⟩ := DataW.trod_int Try.underlying3 hy00
  simp only [List.cons.injEq, and_true] at e1
  subst e1
  obtain ⟨a2, e2, _, w2⟩ := DataW.trod_int Try.underlying3 hy01
  simp only [List.cons.injEq, and_true] at e2
  subst e2
  obtain ⟨a3, len3, cap3, z3, e3, w3⟩ := ints_of_trod Try.underlying22 Try.underlying3 (by kernel_rfl) hy02
  subst e3
  obtain ⟨a4, len4, cap4, z4, e4, w4⟩ := ints_of_trod Try.underlying22 Try.underlying3 (by kernel_rfl) hy03
  subst e4
  clear hA0 hval0
  refine (walk a1 a2 a3 len3 cap3 z3 a4 len4 cap4 z4 W w1 w2 w3 w4).mono fun e W' ⟨he, bel⟩ => ?_
  subst he
  exact ⟨_, rfl, _, _, _, [], _, [], hW', trodAll_mk1 (shut_bool Try.underlying4 _), (trodAll_cons_mk (Below.trod laidOut (by kernel_rfl) (of_decide_eq_true (by kernel_rfl)) k0 bel lt0) trodAll_mk0), rfl, bel.frame _, fun h => by cases h⟩

theorem over : Rows.headWritesRow.holds Try.pinned (OpenSpec.ofChange Rows.headWritesSpec) :=
  OpenClaim.holds_of_wide 4 Try.f4 rfl rfl rfl rfl rfl rfl rfl ⟨rfl, rfl, rfl, rfl, rfl⟩ rfl rfl rfl rfl rfl (by kernel_rfl) Try.func4 (by kernel_rfl)
    (of_decide_eq_true (by kernel_rfl)) (by unfold Func.isWrapper; first | (rw [if_pos (by decide +kernel)]; kernel_rfl) | (rw [if_neg (by decide +kernel)]; exact ⟨rfl, rfl⟩))
    (fun os started H enc _ => lifted os started H enc)

theorem proved : Rows.HeadWritesSaid := over
#print axioms proved
end Go.Proofs.Ytdgacbelpenmmaa.headWrites
