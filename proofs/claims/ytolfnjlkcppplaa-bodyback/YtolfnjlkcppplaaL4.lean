/- The Go function of the statement BodyBack returns true at every input, and leaves each argument as it read. No condition. -/
import Derived.Test.YtolfnjlkcppplaaZe
import Derived.BigQuiet
import Derived.ProofKit
import Derived.OpenShut
import Derived.ShutString
import Derived.ChangeOld
import Derived.Lib.SmallJoins
namespace Go.Proofs.Ytolfnjlkcppplaa.bodyBack
open Go.ChangeShapes Go.WideShapes Go.ChangeAt Go.RowKit Go.Joins
set_option linter.unusedVariables false
set_option linter.unusedSimpArgs false

theorem own : ownKnob Try.prog.godebug = none := by kernel_rfl
theorem laidOut : laidOutB Try.prog = true := by kernel_rfl

set_option maxRecDepth 10000 in
set_option maxHeartbeats 8000000 in
theorem walk (a1 : Int) (a2 : Int) (a3 : Option Addr) (len3 cap3 : Nat) (z3 : List Int) (a4 : Option Addr) (len4 cap4 : Nat) (z4 : List Int) (a6 : Option Addr) (len6 cap6 : Nat) (z6 : List (List Int)) (a7 : Option Addr) (len7 cap7 : Nat) (z7 : List (List Int)) (w : World) (w1 : (Lit.int .i64 a1).wf = true) (w2 : (Lit.int .i64 a2).wf = true) (w3 : IsRow .i64 w a3 len3 cap3 z3) (w4 : IsRow .i64 w a4 len4 cap4 z4) (w6 : IsGrid w a6 len6 cap6 z6) (w7 : IsGrid w a7 len7 cap7 z7) :
    Calls Try.prog 6 #[.agg #[.int .i64 a1, .int .i64 a2, .slice a3 len3 cap3, .slice a4 len4 cap4], .agg #[.slice a6 len6 cap6, .slice a7 len7 cap7]] w fun e w' => e = .returned (.bool true) ∧ Below w.heap.size w w' := by
  obtain ⟨F, hlf, hvf, _⟩ := row_rw_any w3
  obtain ⟨R, hlr, hvr, _⟩ := row_rw_any w4
  have hbk : Bks w a3 len3 cap3 F a4 len4 cap4 R := ⟨hlf, hvf, hlr, hvr⟩
  have hlp := w6.len
  have hlz := w7.len
  have hvp := w6.1.weak
  have hvz := w7.1.weak
  have hacc := below2 w (.cells #[.int .i64 a1, .int .i64 a2, .slice a3 len3 cap3, .slice a4 len4 cap4] 24) (.cells #[.slice a6 len6 cap6, .slice a7 len7 cap7] 28)
  have hB0 := (B4.new w (.int .i64 a1) (.int .i64 a2) (.slice a3 len3 cap3) (.slice a4 len4 cap4) 24).below (below1 _ (.cells #[.slice a6 len6 cap6, .slice a7 len7 cap7] 28))
  have hC0 := B2.new2 w (.cells #[.int .i64 a1, .int .i64 a2, .slice a3 len3 cap3, .slice a4 len4 cap4] 24) (.slice a6 len6 cap6) (.slice a7 len7 cap7) 28
  have hgr := great17_any a1 a2 a3 len3 cap3 a4 len4 cap4 a6 len6 cap6 z6 a7 len7 cap7 z7 _ hlp hlz (hvp.below hacc) (hvz.below hacc)
  obtain ⟨ez, e0, e1, e2, e3, f0, f1, f2, f3⟩ := id hB0
  obtain ⟨cz, m0, m1, n0, n1⟩ := id hC0
  clear w1 w2 w3 w4 w6 w7 hlf hvf hlr hvr
  cases hG : grS len3 len4 z6 z7
  · rw [hG, Bool.not_false] at hgr
    clear hG hbk hlp hlz hvp hvz
    go_enter Try.func6, Try.ntmps6
    go_wp2_with (first | (go_at_call 9; refine hgr.mono ?_; rintro e w1 ⟨rfl, hb1⟩; replace hacc := bthen hacc hb1 hacc.size; replace hB0 := hB0.below hb1; replace hC0 := hC0.below hb1; clear ez e0 e1 e2 e3 f0 f1 f2 f3; clear cz m0 m1 n0 n1; obtain ⟨ez, e0, e1, e2, e3, f0, f1, f2, f3⟩ := id hB0; obtain ⟨cz, m0, m1, n0, n1⟩ := id hC0) | (go_at_call 10; refine (knows_any _).mono ?_; rintro e w9 ⟨rfl, hb9⟩; replace hacc := bthen hacc hb9 hacc.size))
    go_ret
    exact ⟨rfl, hacc⟩
  obtain ⟨_, _, g3, g4, g5, g6⟩ := grS_small hG
  have mp := rows_le (m := 100) g5 (by omega)
  have mz := rows_le (m := 100) g6 (by omega)
  have hbo : BoAt w a6 len6 cap6 z6 a7 len7 cap7 z7 := bo_small hlp hvp hlz hvz mp mz
  rw [hG, Bool.not_true] at hgr
  clear hG g5 g6
  have p2 := fun W (h : Below w.heap.size w W) => bwrite_any a1 a2 a3 len3 cap3 F a4 len4 cap4 R a6 len6 cap6 z6 a7 len7 cap7 z7 W (hbk.below h) (hbo.below h) mp mz
  cases hR : boB a1 a2 F R z6 z7
  · obtain ⟨hE, hX⟩ := wb_no hR
    have hlen : ([] : List Int).length = 0 := rfl
    rw [hE, hX] at p2
    clear hR hE hX hbk hbo mp mz hlp hlz hvp hvz
    go_enter Try.func6, Try.ntmps6
    go_wp2_with (first | (go_at_call 9; refine hgr.mono ?_; rintro e w1 ⟨rfl, hb1⟩; replace hacc := bthen hacc hb1 hacc.size; replace hB0 := hB0.below hb1; replace hC0 := hC0.below hb1; clear ez e0 e1 e2 e3 f0 f1 f2 f3; clear cz m0 m1 n0 n1; obtain ⟨ez, e0, e1, e2, e3, f0, f1, f2, f3⟩ := id hB0; obtain ⟨cz, m0, m1, n0, n1⟩ := id hC0) | (go_at_call 15; refine (p2 _ hacc).mono ?_; rintro e w2 ⟨v, rfl, hv, hb2⟩; obtain ⟨va, vc, hve⟩ := rw_slice hv; rw [hlen] at hve; subst hve; replace hacc := bthen hacc hb2 hacc.size; replace hB0 := hB0.below hb2; replace hC0 := hC0.below hb2; clear ez e0 e1 e2 e3 f0 f1 f2 f3; clear cz m0 m1 n0 n1; obtain ⟨ez, e0, e1, e2, e3, f0, f1, f2, f3⟩ := id hB0; obtain ⟨cz, m0, m1, n0, n1⟩ := id hC0) | (go_at_call 10; refine (knows_any _).mono ?_; rintro e w9 ⟨rfl, hb9⟩; replace hacc := bthen hacc hb9 hacc.size))
    go_ret
    exact ⟨rfl, hacc⟩
  · obtain ⟨hE, hX⟩ := wb_ok hR
    obtain ⟨o1, o2, o3⟩ := rb_back hR
    have hsh := (bo_short hR).2
    have p6 := fun W a c (h : Below w.heap.size w W) (hv : Rw .u8 W (.slice a (boX F R z6 z7).length c) (boX F R z6 z7)) => bread_any a1 a2 a3 len3 cap3 F a4 len4 cap4 R a (boX F R z6 z7).length c (boX F R z6 z7) W (hbk.below h) rfl hv (byL_byts _ _) (by omega)
    unfold RbPost at p6
    rw [o1, o2, o3, hlp, hlz] at p6
    rw [hE, hX] at p2
    have HVP := hid hvp
    have HVZ := hid hvz
    clear hR hE hX hbk hbo o1 o2 o3 hsh hvp hvz
    generalize boX F R z6 z7 = Y at *
    obtain ⟨n, hlen⟩ : ∃ n, Y.length = n := ⟨_, rfl⟩
    rw [hlen] at p6
    have HLN := hid hlen
    have g7 : len6 ≤ 1000 := by omega
    have g8 : len7 ≤ 1000 := by omega
    have HLP := hid hlp
    have HLZ := hid hlz
    have HMP := hid mp
    have HMZ := hid mz
    clear hlen hlp hlz mp mz
    go_enter Try.func6, Try.ntmps6
    go_upto_region 7 with (first | (go_at_call 9; refine hgr.mono ?_; rintro e w1 ⟨rfl, hb1⟩; replace hacc := bthen hacc hb1 hacc.size; replace hB0 := hB0.below hb1; replace hC0 := hC0.below hb1; clear ez e0 e1 e2 e3 f0 f1 f2 f3; clear cz m0 m1 n0 n1; obtain ⟨ez, e0, e1, e2, e3, f0, f1, f2, f3⟩ := id hB0; obtain ⟨cz, m0, m1, n0, n1⟩ := id hC0) | (go_at_call 15; refine (p2 _ hacc).mono ?_; rintro e w2 ⟨v, rfl, hv, hb2⟩; obtain ⟨va, vc, hve⟩ := rw_slice hv; rw [HLN.out] at hve; subst hve; replace hacc := bthen hacc hb2 hacc.size; replace hB0 := hB0.below hb2; replace hC0 := hC0.below hb2; clear ez e0 e1 e2 e3 f0 f1 f2 f3; clear cz m0 m1 n0 n1; obtain ⟨ez, e0, e1, e2, e3, f0, f1, f2, f3⟩ := id hB0; obtain ⟨cz, m0, m1, n0, n1⟩ := id hC0) | (go_at_call 18; refine (p6 _ va vc hacc hv.rw).mono ?_; rintro e w5 ⟨s1, k1, s2, k2, rfl, hp5, hz5, hb5⟩; replace hacc := bthen hacc hb5 hacc.size; replace hB0 := hB0.below hb5; replace hC0 := hC0.below hb5; clear ez e0 e1 e2 e3 f0 f1 f2 f3; clear cz m0 m1 n0 n1; obtain ⟨ez, e0, e1, e2, e3, f0, f1, f2, f3⟩ := id hB0; obtain ⟨cz, m0, m1, n0, n1⟩ := id hC0))
    have hbx := below1 w5 (.cells #[.slice s1 len6 k1, .slice s2 len7 k2] 28)
    have hBq := B2.new w5 (.slice s1 len6 k1) (.slice s2 len7 k2) 28
    have hC1 := hC0.below hbx
    have HBW := hid (bthen hacc hbx hacc.size)
    have hr7 := (Gp.fr hp5).below hbx
    have hr8 := (Gp.fr hz5).below hbx
    have hr5 := HVP.out.below HBW.out
    have hr6 := HVZ.out.below HBW.out
    clear hacc hB0 hC0 hbx hp5 hz5 hv hb1 hb2 hb5 p2 p6
    clear ez e0 e1 e2 e3 f0 f1 f2 f3
    clear cz m0 m1 n0 n1
    generalize w5.alloc (.cells #[.slice s1 len6 k1, .slice s2 len7 k2] 28) = W6 at *
    generalize w5.heap.size = bq at *
    have hacc : Below W6.heap.size W6 W6.drew := (Below.refl _ _).drew
    obtain ⟨cz, m0, m1, n0, n1⟩ := id hC1
    obtain ⟨dz, d0, d1, j0, j1⟩ := id hBq
    go_region_held3 (fun w' => w'.cell? ⟨w.heap.size + 1, 0, none⟩ = some (.slice a6 len6 cap6) ∧ w'.cell? ⟨w.heap.size + 1, 1, none⟩ = some (.slice a7 len7 cap7) ∧ w'.cell? ⟨bq, 0, none⟩ = some (.slice s1 len6 k1) ∧ w'.cell? ⟨bq, 1, none⟩ = some (.slice s2 len7 k2)) (exact ⟨(hC1.below hacc).c0, (hC1.below hacc).c1, (hBq.below hacc).c0, (hBq.below hacc).c1⟩) (first
      | (go_at_call_of 14 (Value.agg #[.slice a6 len6 cap6, .slice a7 len7 cap7]); refine (as17_any a6 len6 cap6 a7 len7 cap7 _).mono ?_; rintro e x2 ⟨rfl, hx2⟩; replace hacc := bthen hacc hx2 hacc.size)
      | (go_at_call_of 14 (Value.agg #[.slice s1 len6 k1, .slice s2 len7 k2]); refine (as17_any s1 len6 k1 s2 len7 k2 _).mono ?_; rintro e x2 ⟨rfl, hx2⟩; replace hacc := bthen hacc hx2 hacc.size)
      | (go_at_call 20; refine (same17_yes _ _ _ _ _ _ _ _ _ _ z6 z7 _ HLP.out HLZ.out (fun i _ => HMP.out i) (fun i _ => HMZ.out i) (hr5.below hacc) (hr6.below hacc) (hr7.below hacc) (hr8.below hacc) g7 g8).mono ?_; rintro e x6 ⟨rfl, hx6⟩; replace hacc := bthen hacc hx6 hacc.size)
      | (go_at_call 10; refine (knows_any _).mono ?_; rintro e w9 ⟨rfl, hb9⟩; replace hacc := bthen hacc hb9 hacc.size))
    all_goals go_wp2
    all_goals go_ret
    all_goals exact ⟨rfl, bthen HBW.out hacc HBW.out.size⟩

set_option maxRecDepth 100000 in
theorem lifted (os : Os) (started : os.Started) (H : Type) (enc : TypeId × Value → H) :
    ReturnsInHanded {} Try.checked os 6 .any (Rows.bodyBackSpec.pre6 enc Try.prog Try.f6 Rows.bodyBackRow.domain false) (Rows.bodyBackSpec.post enc Try.prog Try.f6 false true false false) := by
  refine returnsInHanded_of_change (C := Try.checked) own started (by kernel_rfl) Try.func6
    (ChangeSpec.witness6 (enc := enc) (C := Try.checked) false ⟨#[], #[.agg #[.int .i64 0, .int .i64 0, .slice none 0 0, .slice none 0 0], .agg #[.slice none 0 0, .slice none 0 0]], []⟩ 8 (by kernel_rfl) (by kernel_rfl) (by kernel_rfl) (by kernel_rfl)) ?_
  intro W base args ds gs before hval0 hW hcnd _
  have hval : ∀ (j : Nat) t v, Try.f6.params[j]? = some t → args[j]? = some v → Value.okWide Try.prog W .any base t v := hval0
  have hW' := hW
  obtain ⟨p, q, hA0, hV, rfl, hfz, hnd⟩ := hW
  have hA : DataW.TrodAll enc Try.prog W 0 (fun _ => true) true Try.f6.params.toList args.toList ds p := hA0
  rw [Try.params6] at hA hval
  obtain ⟨v0, vs0, d0, ds0, p0, q0, hargs, rfl, rfl, h0, r0⟩ := trodAll_cons hA
  obtain ⟨v1, vs1, d1, ds1, p1, q1, rfl, rfl, rfl, h1, r1⟩ := trodAll_cons r0
  obtain ⟨rfl, rfl, rfl⟩ := trodAll_nil r1
  obtain rfl : args = #[v0, v1] := by cases args; simp_all
  obtain ⟨rfl, rfl⟩ := trodVars_none hV
  have k0 := h0
  have lt0 : ∀ x ∈ p0, x.block < W.heap.size := by obtain ⟨m, hm⟩ := k0; exact DataW.trod_lt m _ _ _ hm
  obtain ⟨c00, c01, c02, c03, y00, y01, y02, y03, m0, rfl, hd0, hp0, hy00, hy01, hy02, hy03⟩ := open_agg4 Try.underlying24 (by kernel_rfl) (by kernel_rfl) (hval 0 24 v0 rfl rfl) h0
  clear hd0 hp0
  obtain ⟨a1, e1, _, w1⟩ := DataW.trod_int Try.underlying3 hy00
  simp only [List.cons.injEq, and_true] at e1
  subst e1
  obtain ⟨a2, e2, _, w2⟩ := DataW.trod_int Try.underlying3 hy01
  simp only [List.cons.injEq, and_true] at e2
  subst e2
  obtain ⟨a3, len3, cap3, z3, e3, w3⟩ := ints_of_trod Try.underlying22 Try.underlying3 (by kernel_rfl) hy02
  subst e3
  obtain ⟨a4, len4, cap4, z4, e4, w4⟩ := ints_of_trod Try.underlying22 Try.underlying3 (by kernel_rfl) hy03
  subst e4
  have k1 := h1
  have lt1 : ∀ x ∈ p1, x.block < W.heap.size := by obtain ⟨m, hm⟩ := k1; exact DataW.trod_lt m _ _ _ hm
  obtain ⟨c10, c11, y10, y11, m1, rfl, hd1, hp1, hy10, hy11⟩ := open_agg2 Try.underlying28 (by kernel_rfl) (by kernel_rfl) (hval 1 28 v1 rfl rfl) h1
  clear hd1 hp1
  obtain ⟨a6, len6, cap6, z6, e6, w6⟩ := grid_cell_of_trod Try.underlying25 Try.underlying22 Try.underlying3 (by kernel_rfl) (by kernel_rfl) hy10
  subst e6
  obtain ⟨a7, len7, cap7, z7, e7, w7⟩ := grid_cell_of_trod Try.underlying26 Try.underlying48 Try.underlying2 (by kernel_rfl) (by kernel_rfl) hy11
  subst e7
  clear hA0 hval0
  refine (walk a1 a2 a3 len3 cap3 z3 a4 len4 cap4 z4 a6 len6 cap6 z6 a7 len7 cap7 z7 W w1 w2 w3 w4 w6 w7).mono fun e W' ⟨he, bel⟩ => ?_
  subst he
  exact ⟨_, rfl, _, _, _, [], _, [], hW', trodAll_mk1 (shut_bool Try.underlying4 _), (trodAll_cons_mk (Below.trod laidOut (by kernel_rfl) (of_decide_eq_true (by kernel_rfl)) k0 bel lt0) (trodAll_cons_mk (Below.trod laidOut (by kernel_rfl) (of_decide_eq_true (by kernel_rfl)) k1 bel lt1) trodAll_mk0)), rfl, bel.frame _, fun h => by cases h⟩

theorem over : Rows.bodyBackRow.holds Try.pinned (OpenSpec.ofChange Rows.bodyBackSpec) :=
  OpenClaim.holds_of_wide 6 Try.f6 rfl rfl rfl rfl rfl rfl rfl ⟨rfl, rfl, rfl, rfl, rfl⟩ rfl rfl rfl rfl rfl (by kernel_rfl) Try.func6 (by kernel_rfl)
    (of_decide_eq_true (by kernel_rfl)) (by unfold Func.isWrapper; first | (rw [if_pos (by decide +kernel)]; kernel_rfl) | (rw [if_neg (by decide +kernel)]; exact ⟨rfl, rfl⟩))
    (fun os started H enc _ => lifted os started H enc)

theorem proved : Rows.BodyBackSaid := over
#print axioms proved
end Go.Proofs.Ytolfnjlkcppplaa.bodyBack
