/- The Go function of the statement BodyShort returns true at every input, and leaves each argument as it read. No condition. -/
import Derived.Test.YtolfnjlkcppplaaZe
import Derived.ProofKit
import Derived.OpenShut
import Derived.ShutString
import Derived.ChangeOld
import Derived.Lib.SmallJoins
namespace Go.Proofs.Ytolfnjlkcppplaa.bodyShort
open Go.ChangeShapes Go.WideShapes Go.ChangeAt Go.RowKit Go.Joins
set_option linter.unusedVariables false
set_option linter.unusedSimpArgs false

theorem own : ownKnob Try.prog.godebug = none := by kernel_rfl
theorem laidOut : laidOutB Try.prog = true := by kernel_rfl

set_option maxRecDepth 10000 in
set_option maxHeartbeats 8000000 in
theorem walk (a1 : Int) (a2 : Int) (a3 : Option Addr) (len3 cap3 : Nat) (z3 : List Int) (a4 : Option Addr) (len4 cap4 : Nat) (z4 : List Int) (a6 : Option Addr) (len6 cap6 : Nat) (z6 : List (List Int)) (a7 : Option Addr) (len7 cap7 : Nat) (z7 : List (List Int)) (w : World) (w1 : (Lit.int .i64 a1).wf = true) (w2 : (Lit.int .i64 a2).wf = true) (w3 : IsRow .i64 w a3 len3 cap3 z3) (w4 : IsRow .i64 w a4 len4 cap4 z4) (w6 : IsGrid w a6 len6 cap6 z6) (w7 : IsGrid w a7 len7 cap7 z7) :
    Calls Try.prog 8 #[.agg #[.int .i64 a1, .int .i64 a2, .slice a3 len3 cap3, .slice a4 len4 cap4], .agg #[.slice a6 len6 cap6, .slice a7 len7 cap7]] w fun e w' => e = .returned (.bool true) ∧ Below w.heap.size w w' := by
  obtain ⟨F, hlf, hvf, _⟩ := row_rw_any w3
  obtain ⟨R, hlr, hvr, _⟩ := row_rw_any w4
  have hbk : Bks w a3 len3 cap3 F a4 len4 cap4 R := ⟨hlf, hvf, hlr, hvr⟩
  have hlp := w6.len
  have hlz := w7.len
  have hvp := w6.1.weak
  have hvz := w7.1.weak
  have hacc := below2 w (.cells #[.int .i64 a1, .int .i64 a2, .slice a3 len3 cap3, .slice a4 len4 cap4] 24) (.cells #[.slice a6 len6 cap6, .slice a7 len7 cap7] 28)
  have hB0 := (B4.new w (.int .i64 a1) (.int .i64 a2) (.slice a3 len3 cap3) (.slice a4 len4 cap4) 24).below (below1 _ (.cells #[.slice a6 len6 cap6, .slice a7 len7 cap7] 28))
  have hC0 := B2.new2 w (.cells #[.int .i64 a1, .int .i64 a2, .slice a3 len3 cap3, .slice a4 len4 cap4] 24) (.slice a6 len6 cap6) (.slice a7 len7 cap7) 28
  have hgr := great17_any a1 a2 a3 len3 cap3 a4 len4 cap4 a6 len6 cap6 z6 a7 len7 cap7 z7 _ hlp hlz (hvp.below hacc) (hvz.below hacc)
  obtain ⟨ez, e0, e1, e2, e3, f0, f1, f2, f3⟩ := id hB0
  obtain ⟨cz, m0, m1, n0, n1⟩ := id hC0
  clear w1 w2 w3 w4 w6 w7 hlf hvf hlr hvr
  cases hG : grS len3 len4 z6 z7
  · rw [hG, Bool.not_false] at hgr
    clear hG hbk hlp hlz hvp hvz
    go_enter Try.func8, Try.ntmps8
    go_wp2_with (first | (go_at_call 9; refine hgr.mono ?_; rintro e w1 ⟨rfl, hb1⟩; replace hacc := bthen hacc hb1 hacc.size; replace hB0 := hB0.below hb1; replace hC0 := hC0.below hb1; clear ez e0 e1 e2 e3 f0 f1 f2 f3; clear cz m0 m1 n0 n1; obtain ⟨ez, e0, e1, e2, e3, f0, f1, f2, f3⟩ := id hB0; obtain ⟨cz, m0, m1, n0, n1⟩ := id hC0) | (go_at_call 10; refine (knows_any _).mono ?_; rintro e w9 ⟨rfl, hb9⟩; replace hacc := bthen hacc hb9 hacc.size))
    go_ret
    exact ⟨rfl, hacc⟩
  obtain ⟨_, _, g3, g4, g5, g6⟩ := grS_small hG
  have mp := rows_le (m := 100) g5 (by omega)
  have mz := rows_le (m := 100) g6 (by omega)
  have hbo : BoAt w a6 len6 cap6 z6 a7 len7 cap7 z7 := bo_small hlp hvp hlz hvz mp mz
  rw [hG, Bool.not_true] at hgr
  clear hG g5 g6
  have p2 := fun W (h : Below w.heap.size w W) => bwrite_any a1 a2 a3 len3 cap3 F a4 len4 cap4 R a6 len6 cap6 z6 a7 len7 cap7 z7 W (hbk.below h) (hbo.below h) mp mz
  cases hR : boB a1 a2 F R z6 z7
  · obtain ⟨hE, hX⟩ := wb_no hR
    have hlen : ([] : List Int).length = 0 := rfl
    rw [hE, hX] at p2
    clear hR hE hX hbk hbo mp mz hlp hlz hvp hvz
    go_enter Try.func8, Try.ntmps8
    go_wp2_with (first | (go_at_call 9; refine hgr.mono ?_; rintro e w1 ⟨rfl, hb1⟩; replace hacc := bthen hacc hb1 hacc.size; replace hB0 := hB0.below hb1; replace hC0 := hC0.below hb1; clear ez e0 e1 e2 e3 f0 f1 f2 f3; clear cz m0 m1 n0 n1; obtain ⟨ez, e0, e1, e2, e3, f0, f1, f2, f3⟩ := id hB0; obtain ⟨cz, m0, m1, n0, n1⟩ := id hC0) | (go_at_call 15; refine (p2 _ hacc).mono ?_; rintro e w2 ⟨v, rfl, hv, hb2⟩; obtain ⟨va, vc, hve⟩ := rw_slice hv; rw [hlen] at hve; subst hve; replace hacc := bthen hacc hb2 hacc.size; replace hB0 := hB0.below hb2; replace hC0 := hC0.below hb2; clear ez e0 e1 e2 e3 f0 f1 f2 f3; clear cz m0 m1 n0 n1; obtain ⟨ez, e0, e1, e2, e3, f0, f1, f2, f3⟩ := id hB0; obtain ⟨cz, m0, m1, n0, n1⟩ := id hC0) | (go_at_call 10; refine (knows_any _).mono ?_; rintro e w9 ⟨rfl, hb9⟩; replace hacc := bthen hacc hb9 hacc.size))
    go_ret
    exact ⟨rfl, hacc⟩
  · obtain ⟨hE, hX⟩ := wb_ok hR
    obtain ⟨s1, s2⟩ := bo_short hR
    rw [hE, hX] at p2
    clear hR hE hX hbk hbo mp mz hlp hlz hvp hvz
    generalize boX F R z6 z7 = Y at *
    obtain ⟨n, hlen⟩ : ∃ n, Y.length = n := ⟨_, rfl⟩
    rw [hlen] at s1 s2
    have s3 : (1 : Int) ≤ (n : Int) := by omega
    have s4 : (n : Int) ≤ 400 := by omega
    have HLN := hid hlen
    clear hlen s1 s2
    go_enter Try.func8, Try.ntmps8
    go_wp2_with (first | (go_at_call 9; refine hgr.mono ?_; rintro e w1 ⟨rfl, hb1⟩; replace hacc := bthen hacc hb1 hacc.size; replace hB0 := hB0.below hb1; replace hC0 := hC0.below hb1; clear ez e0 e1 e2 e3 f0 f1 f2 f3; clear cz m0 m1 n0 n1; obtain ⟨ez, e0, e1, e2, e3, f0, f1, f2, f3⟩ := id hB0; obtain ⟨cz, m0, m1, n0, n1⟩ := id hC0) | (go_at_call 15; refine (p2 _ hacc).mono ?_; rintro e w2 ⟨v, rfl, hv, hb2⟩; obtain ⟨va, vc, hve⟩ := rw_slice hv; rw [HLN.out] at hve; subst hve; replace hacc := bthen hacc hb2 hacc.size; replace hB0 := hB0.below hb2; replace hC0 := hC0.below hb2; clear ez e0 e1 e2 e3 f0 f1 f2 f3; clear cz m0 m1 n0 n1; obtain ⟨ez, e0, e1, e2, e3, f0, f1, f2, f3⟩ := id hB0; obtain ⟨cz, m0, m1, n0, n1⟩ := id hC0) | (go_at_call 10; refine (knows_any _).mono ?_; rintro e w9 ⟨rfl, hb9⟩; replace hacc := bthen hacc hb9 hacc.size))
    go_ret
    exact ⟨rfl, hacc⟩

set_option maxRecDepth 100000 in
theorem lifted (os : Os) (started : os.Started) (H : Type) (enc : TypeId × Value → H) :
    ReturnsInHanded {} Try.checked os 8 .any (Rows.bodyShortSpec.pre6 enc Try.prog Try.f8 Rows.bodyShortRow.domain false) (Rows.bodyShortSpec.post enc Try.prog Try.f8 false true false false) := by
  refine returnsInHanded_of_change (C := Try.checked) own started (by kernel_rfl) Try.func8
    (ChangeSpec.witness6 (enc := enc) (C := Try.checked) false ⟨#[], #[.agg #[.int .i64 0, .int .i64 0, .slice none 0 0, .slice none 0 0], .agg #[.slice none 0 0, .slice none 0 0]], []⟩ 8 (by kernel_rfl) (by kernel_rfl) (by kernel_rfl) (by kernel_rfl)) ?_
  intro W base args ds gs before hval0 hW hcnd _
  have hval : ∀ (j : Nat) t v, Try.f8.params[j]? = some t → args[j]? = some v → Value.okWide Try.prog W .any base t v := hval0
  have hW' := hW
  obtain ⟨p, q, hA0, hV, rfl, hfz, hnd⟩ := hW
  have hA : DataW.TrodAll enc Try.prog W 0 (fun _ => true) true Try.f8.params.toList args.toList ds p := hA0
  rw [Try.params8] at hA hval
  obtain ⟨v0, vs0, d0, ds0, p0, q0, hargs, rfl, rfl, h0, r0⟩ := trodAll_cons hA
  obtain ⟨v1, vs1, d1, ds1, p1, q1, rfl, rfl, rfl, h1, r1⟩ := trodAll_cons r0
  obtain ⟨rfl, rfl, rfl⟩ := trodAll_nil r1
  obtain rfl : args = #[v0, v1] := by cases args; simp_all
  obtain ⟨rfl, rfl⟩ := trodVars_none hV
  have k0 := h0
  have lt0 : ∀ x ∈ p0, x.block < W.heap.size := by obtain ⟨m, hm⟩ := k0; exact DataW.trod_lt m _ _ _ hm
  obtain ⟨c00, c01, c02, c03, y00, y01, y02, y03, m0, rfl, hd0, hp0, hy00, hy01, hy02, hy03⟩ := open_agg4 Try.underlying24 (by kernel_rfl) (by kernel_rfl) (hval 0 24 v0 rfl rfl) h0
  clear hd0 hp0
  obtain ⟨a1, e1, _, w1⟩ := DataW.trod_int Try.underlying3 hy00
  simp only [List.cons.injEq, and_true] at e1
  subst e1
  obtain ⟨a2, e2, _, w2⟩ := DataW.trod_int Try.underlying3 hy01
  simp only [List.cons.injEq, and_true] at e2
  subst e2
  obtain ⟨a3, len3, cap3, z3, e3, w3⟩ := ints_of_trod Try.underlying22 Try.underlying3 (by kernel_rfl) hy02
  subst e3
  obtain ⟨a4, len4, cap4, z4, e4, w4⟩ := ints_of_trod Try.underlying22 Try.underlying3 (by kernel_rfl) hy03
  subst e4
  have k1 := h1
  have lt1 : ∀ x ∈ p1, x.block < W.heap.size := by obtain ⟨m, hm⟩ := k1; exact DataW.trod_lt m _ _ _ hm
  obtain ⟨c10, c11, y10, y11, m1, rfl, hd1, hp1, hy10, hy11⟩ := open_agg2 Try.underlying28 (by kernel_rfl) (by kernel_rfl) (hval 1 28 v1 rfl rfl) h1
  clear hd1 hp1
  obtain ⟨a6, len6, cap6, z6, e6, w6⟩ := grid_cell_of_trod Try.underlying25 Try.underlying22 Try.underlying3 (by kernel_rfl) (by kernel_rfl) hy10
  subst e6
  obtain ⟨a7, len7, cap7, z7, e7, w7⟩ := grid_cell_of_trod Try.underlying26 Try.underlying48 Try.underlying2 (by kernel_rfl) (by kernel_rfl) hy11
  subst e7
  clear hA0 hval0
  refine (walk a1 a2 a3 len3 cap3 z3 a4 len4 cap4 z4 a6 len6 cap6 z6 a7 len7 cap7 z7 W w1 w2 w3 w4 w6 w7).mono fun e W' ⟨he, bel⟩ => ?_
  subst he
  exact ⟨_, rfl, _, _, _, [], _, [], hW', trodAll_mk1 (shut_bool Try.underlying4 _), (trodAll_cons_mk (Below.trod laidOut (by kernel_rfl) (of_decide_eq_true (by kernel_rfl)) k0 bel lt0) (trodAll_cons_mk (Below.trod laidOut (by kernel_rfl) (of_decide_eq_true (by kernel_rfl)) k1 bel lt1) trodAll_mk0)), rfl, bel.frame _, fun h => by cases h⟩

theorem over : Rows.bodyShortRow.holds Try.pinned (OpenSpec.ofChange Rows.bodyShortSpec) :=
  OpenClaim.holds_of_wide 8 Try.f8 rfl rfl rfl rfl rfl rfl rfl ⟨rfl, rfl, rfl, rfl, rfl⟩ rfl rfl rfl rfl rfl (by kernel_rfl) Try.func8 (by kernel_rfl)
    (of_decide_eq_true (by kernel_rfl)) (by unfold Func.isWrapper; first | (rw [if_pos (by decide +kernel)]; kernel_rfl) | (rw [if_neg (by decide +kernel)]; exact ⟨rfl, rfl⟩))
    (fun os started H enc _ => lifted os started H enc)

theorem proved : Rows.BodyShortSaid := over
#print axioms proved
end Go.Proofs.Ytolfnjlkcppplaa.bodyShort
