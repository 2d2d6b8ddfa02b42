/- The Go function of the statement BodyRights returns true at every input, and leaves each argument as it read. No condition. -/
import Derived.Test.YtolfnjlkcppplaaZe
import Derived.BigQuiet
import Derived.ProofKit
import Derived.OpenShut
import Derived.ShutString
import Derived.ChangeOld
import Derived.Lib.SmallJoins
namespace Go.Proofs.Ytolfnjlkcppplaa.bodyRights
open Go.ChangeShapes Go.WideShapes Go.ChangeAt Go.RowKit Go.Joins
set_option linter.unusedVariables false
set_option linter.unusedSimpArgs false

theorem own : ownKnob Try.prog.godebug = none := by kernel_rfl
theorem laidOut : laidOutB Try.prog = true := by kernel_rfl

set_option maxRecDepth 10000 in
set_option maxHeartbeats 8000000 in
theorem walk (a1 : Int) (a2 : Int) (a3 : Option Addr) (len3 cap3 : Nat) (z3 : List Int) (a4 : Option Addr) (len4 cap4 : Nat) (z4 : List Int) (a6 : Option Addr) (len6 cap6 : Nat) (z6 : List (List Int)) (a7 : Option Addr) (len7 cap7 : Nat) (z7 : List (List Int)) (w : World) (w1 : (Lit.int .i64 a1).wf = true) (w2 : (Lit.int .i64 a2).wf = true) (w3 : IsRow .i64 w a3 len3 cap3 z3) (w4 : IsRow .i64 w a4 len4 cap4 z4) (w6 : IsGrid w a6 len6 cap6 z6) (w7 : IsGrid w a7 len7 cap7 z7) :
    Calls Try.prog 3 #[.agg #[.int .i64 a1, .int .i64 a2, .slice a3 len3 cap3, .slice a4 len4 cap4], .agg #[.slice a6 len6 cap6, .slice a7 len7 cap7]] w fun e w' => e = .returned (.bool true) ∧ Below w.heap.size w w' := by
  obtain ⟨F, hlf, hvf, _⟩ := row_rw_any w3
  obtain ⟨R, hlr, hvr, _⟩ := row_rw_any w4
  have hbk : Bks w a3 len3 cap3 F a4 len4 cap4 R := ⟨hlf, hvf, hlr, hvr⟩
  have hlp := w6.len
  have hlz := w7.len
  have hvp := w6.1.weak
  have hvz := w7.1.weak
  have hacc := below2 w (.cells #[.int .i64 a1, .int .i64 a2, .slice a3 len3 cap3, .slice a4 len4 cap4] 24) (.cells #[.slice a6 len6 cap6, .slice a7 len7 cap7] 28)
  have hB0 := (B4.new w (.int .i64 a1) (.int .i64 a2) (.slice a3 len3 cap3) (.slice a4 len4 cap4) 24).below (below1 _ (.cells #[.slice a6 len6 cap6, .slice a7 len7 cap7] 28))
  have hC0 := B2.new2 w (.cells #[.int .i64 a1, .int .i64 a2, .slice a3 len3 cap3, .slice a4 len4 cap4] 24) (.slice a6 len6 cap6) (.slice a7 len7 cap7) 28
  have hgr := great17_any a1 a2 a3 len3 cap3 a4 len4 cap4 a6 len6 cap6 z6 a7 len7 cap7 z7 _ hlp hlz (hvp.below hacc) (hvz.below hacc)
  obtain ⟨ez, e0, e1, e2, e3, f0, f1, f2, f3⟩ := id hB0
  obtain ⟨cz, m0, m1, n0, n1⟩ := id hC0
  clear w1 w2 w3 w4 w6 w7 hlf hvf hlr hvr
  cases hG : grS len3 len4 z6 z7
  · rw [hG, Bool.not_false] at hgr
    clear hG hbk hlp hlz hvp hvz
    go_enter Try.func3, Try.ntmps3
    go_wp2_with (first | (go_at_call 9; refine hgr.mono ?_; rintro e w1 ⟨rfl, hb1⟩; replace hacc := bthen hacc hb1 hacc.size; replace hB0 := hB0.below hb1; replace hC0 := hC0.below hb1; clear ez e0 e1 e2 e3 f0 f1 f2 f3; clear cz m0 m1 n0 n1; obtain ⟨ez, e0, e1, e2, e3, f0, f1, f2, f3⟩ := id hB0; obtain ⟨cz, m0, m1, n0, n1⟩ := id hC0) | (go_at_call 10; refine (knows_any _).mono ?_; rintro e w9 ⟨rfl, hb9⟩; replace hacc := bthen hacc hb9 hacc.size))
    go_ret
    exact ⟨rfl, hacc⟩
  obtain ⟨_, _, g3, g4, g5, g6⟩ := grS_small hG
  have mp := rows_le (m := 100) g5 (by omega)
  have mz := rows_le (m := 100) g6 (by omega)
  have hbo : BoAt w a6 len6 cap6 z6 a7 len7 cap7 z7 := bo_small hlp hvp hlz hvz mp mz
  rw [hG, Bool.not_true] at hgr
  clear hG g5 g6
  have hr := fun W (h : Below w.heap.size w W) => bright_any a1 a2 a3 len3 cap3 F a4 len4 cap4 R a6 len6 cap6 z6 a7 len7 cap7 z7 W (hbk.below h) (hbo.below h) mp mz
  have hrr := fun W (h : Below w.heap.size w W) => rbright_any a1 a2 a3 len3 cap3 F a4 len4 cap4 R a6 len6 cap6 z6 a7 len7 cap7 z7 W (hbk.below h) (hbo.below h)
  generalize boB a1 a2 F R z6 z7 = RR at *
  have hRR : (RR == RR) = true := by cases RR <;> rfl
  clear hbk hbo mp mz hlp hlz hvp hvz
  go_enter Try.func3, Try.ntmps3
  go_upto_region 3 with (go_at_call 9; refine hgr.mono ?_; rintro e w1 ⟨rfl, hb1⟩; replace hacc := bthen hacc hb1 hacc.size; replace hB0 := hB0.below hb1; replace hC0 := hC0.below hb1; clear ez e0 e1 e2 e3 f0 f1 f2 f3; clear cz m0 m1 n0 n1; obtain ⟨ez, e0, e1, e2, e3, f0, f1, f2, f3⟩ := id hB0; obtain ⟨cz, m0, m1, n0, n1⟩ := id hC0)
  have hB1 := hB0
  have hC1 := hC0
  have HBW := hid hacc
  clear hacc hB0 hC0
  clear ez e0 e1 e2 e3 f0 f1 f2 f3
  clear cz m0 m1 n0 n1
  have hacc : Below w1.heap.size w1 w1.drew := (Below.refl _ _).drew
  obtain ⟨ez, e0, e1, e2, e3, f0, f1, f2, f3⟩ := id hB1
  obtain ⟨cz, m0, m1, n0, n1⟩ := id hC1
  go_region_held3 (fun w' => w'.cell? ⟨w.heap.size, 0, none⟩ = some (.int .i64 a1) ∧ w'.cell? ⟨w.heap.size, 1, none⟩ = some (.int .i64 a2) ∧ w'.cell? ⟨w.heap.size, 2, none⟩ = some (.slice a3 len3 cap3) ∧ w'.cell? ⟨w.heap.size, 3, none⟩ = some (.slice a4 len4 cap4) ∧ w'.cell? ⟨w.heap.size + 1, 0, none⟩ = some (.slice a6 len6 cap6) ∧ w'.cell? ⟨w.heap.size + 1, 1, none⟩ = some (.slice a7 len7 cap7)) (exact ⟨(hB1.below hacc).c0, (hB1.below hacc).c1, (hB1.below hacc).c2, (hB1.below hacc).c3, (hC1.below hacc).c0, (hC1.below hacc).c1⟩) (first
    | (go_at_call 11; refine (hr _ (HBW.out.trans (hacc.mono HBW.out.size))).mono ?_; rintro e x1 ⟨rfl, hx1⟩; replace hacc := bthen hacc hx1 hacc.size)
    | (go_at_call 13; refine (as16_any _ _ _ _ _ _ _ _ _).mono ?_; rintro e x2 ⟨rfl, hx2⟩; replace hacc := bthen hacc hx2 hacc.size) | (go_at_call 14; refine (as17_any _ _ _ _ _ _ _).mono ?_; rintro e x3 ⟨rfl, hx3⟩; replace hacc := bthen hacc hx3 hacc.size)
    | (go_at_call 12; refine (hrr _ (HBW.out.trans (hacc.mono HBW.out.size))).mono ?_; rintro e x4 ⟨rfl, hx4⟩; replace hacc := bthen hacc hx4 hacc.size)
    | (go_at_call 10; refine (knows_any _).mono ?_; rintro e w9 ⟨rfl, hb9⟩; replace hacc := bthen hacc hb9 hacc.size))
  all_goals go_wp2
  all_goals go_ret
  all_goals exact ⟨rfl, bthen HBW.out hacc HBW.out.size⟩

set_option maxRecDepth 100000 in
theorem lifted (os : Os) (started : os.Started) (H : Type) (enc : TypeId × Value → H) :
    ReturnsInHanded {} Try.checked os 3 .any (Rows.bodyRightsSpec.pre6 enc Try.prog Try.f3 Rows.bodyRightsRow.domain false) (Rows.bodyRightsSpec.post enc Try.prog Try.f3 false true false false) := by
  refine returnsInHanded_of_change (C := Try.checked) own started (by kernel_rfl) Try.func3
    (ChangeSpec.witness6 (enc := enc) (C := Try.checked) false ⟨#[], #[.agg #[.int .i64 0, .int .i64 0, .slice none 0 0, .slice none 0 0], .agg #[.slice none 0 0, .slice none 0 0]], []⟩ 8 (by kernel_rfl) (by kernel_rfl) (by kernel_rfl) (by kernel_rfl)) ?_
  intro W base args ds gs before hval0 hW hcnd _
  have hval : ∀ (j : Nat) t v, Try.f3.params[j]? = some t → args[j]? = some v → Value.okWide Try.prog W .any base t v := hval0
  have hW' := hW
  obtain ⟨p, q, hA0, hV, rfl, hfz, hnd⟩ := hW
  have hA : DataW.TrodAll enc Try.prog W 0 (fun _ => true) true Try.f3.params.toList args.toList ds p := hA0
  rw [Try.params3] at hA hval
  obtain ⟨v0, vs0, d0, ds0, p0, q0, hargs, rfl, rfl, h0, r0⟩ := trodAll_cons hA
  obtain ⟨v1, vs1, d1, ds1, p1, q1, rfl, rfl, rfl, h1, r1⟩ := trodAll_cons r0
  obtain ⟨rfl, rfl, rfl⟩ := trodAll_nil r1
  obtain rfl : args = #[v0, v1] := by cases args; simp_all
  obtain ⟨rfl, rfl⟩ := trodVars_none hV
  have k0 := h0
  have lt0 : ∀ x ∈ p0, x.block < W.heap.size := by obtain ⟨m, hm⟩ := k0; exact DataW.trod_lt m _ _ _ hm
  obtain ⟨c00, c01, c02, c03, y00, y01, y02, y03, m0, rfl, hd0, hp0, hy00, hy01, hy02, hy03⟩ := open_agg4 Try.underlying24 (by kernel_rfl) (by kernel_rfl) (hval 0 24 v0 rfl rfl) h0
  clear hd0 hp0
  obtain ⟨a1, e1, _, w1⟩ := DataW.trod_int Try.underlying3 hy00
  simp only [List.cons.injEq, and_true] at e1
  subst e1
  obtain ⟨a2, e2, _, w2⟩ := DataW.trod_int Try.underlying3 hy01
  simp only [List.cons.injEq, and_true] at e2
  subst e2
  obtain ⟨a3, len3, cap3, z3, e3, w3⟩ := ints_of_trod Try.underlying22 Try.underlying3 (by kernel_rfl) hy02
  subst e3
  obtain ⟨a4, len4, cap4, z4, e4, w4⟩ := ints_of_trod Try.underlying22 Try.underlying3 (by kernel_rfl) hy03
  subst e4
  have k1 := h1
  have lt1 : ∀ x ∈ p1, x.block < W.heap.size := by obtain ⟨m, hm⟩ := k1; exact DataW.trod_lt m _ _ _ hm
  obtain ⟨c10, c11, y10, y11, m1, rfl, hd1, hp1, hy10, hy11⟩ := open_agg2 Try.underlying28 (by kernel_rfl) (by kernel_rfl) (hval 1 28 v1 rfl rfl) h1
  clear hd1 hp1
  obtain ⟨a6, len6, cap6, z6, e6, w6⟩ := grid_cell_of_trod Try.underlying25 Try.underlying22 Try.underlying3 (by kernel_rfl) (by kernel_rfl) hy10
  subst e6
  obtain ⟨a7, len7, cap7, z7, e7, w7⟩ := grid_cell_of_trod Try.underlying26 Try.underlying48 Try.underlying2 (by kernel_rfl) (by kernel_rfl) hy11
  subst e7
  clear hA0 hval0
  refine (walk a1 a2 a3 len3 cap3 z3 a4 len4 cap4 z4 a6 len6 cap6 z6 a7 len7 cap7 z7 W w1 w2 w3 w4 w6 w7).mono fun e W' ⟨he, bel⟩ => ?_
  subst he
  exact ⟨_, rfl, _, _, _, [], _, [], hW', trodAll_mk1 (shut_bool Try.underlying4 _), (trodAll_cons_mk (Below.trod laidOut (by kernel_rfl) (of_decide_eq_true (by kernel_rfl)) k0 bel lt0) (trodAll_cons_mk (Below.trod laidOut (by kernel_rfl) (of_decide_eq_true (by kernel_rfl)) k1 bel lt1) trodAll_mk0)), rfl, bel.frame _, fun h => by cases h⟩

theorem over : Rows.bodyRightsRow.holds Try.pinned (OpenSpec.ofChange Rows.bodyRightsSpec) :=
  OpenClaim.holds_of_wide 3 Try.f3 rfl rfl rfl rfl rfl rfl rfl ⟨rfl, rfl, rfl, rfl, rfl⟩ rfl rfl rfl rfl rfl (by kernel_rfl) Try.func3 (by kernel_rfl)
    (of_decide_eq_true (by kernel_rfl)) (by unfold Func.isWrapper; first | (rw [if_pos (by decide +kernel)]; kernel_rfl) | (rw [if_neg (by decide +kernel)]; exact ⟨rfl, rfl⟩))
    (fun os started H enc _ => lifted os started H enc)

theorem proved : Rows.BodyRightsSaid := over
#print axioms proved
end Go.Proofs.Ytolfnjlkcppplaa.bodyRights
