/- The Go function of the statement HeadPlain returns true at every input, and leaves each argument as it read. No condition. -/
import Derived.Test.YtdgacbelpenmmaaVm
import Derived.ProofKit
import Derived.OpenShut
import Derived.ShutString
import Derived.ChangeOld
import Derived.Lib.SmallJoins
namespace Go.Proofs.Ytdgacbelpenmmaa.headPlain
open Go.ChangeShapes Go.WideShapes Go.ChangeAt Go.RowKit Go.Joins
set_option linter.unusedVariables false
set_option linter.unusedSimpArgs false

theorem own : ownKnob Try.prog.godebug = none := by kernel_rfl
theorem laidOut : laidOutB Try.prog = true := by kernel_rfl

set_option maxRecDepth 10000 in
set_option maxHeartbeats 8000000 in
theorem walk (a0 : Int) (a1 : Int) (w : World) (w0 : (Lit.int .i64 a0).wf = true) (w1 : (Lit.int .i64 a1).wf = true) :
    Calls Try.prog 8 #[.int .i64 a0, .int .i64 a1] w fun e w' => e = .returned (.bool true) ∧ Below w.heap.size w w' := by
  clear w0 w1
  have p2 := fun w g1 g2 h => vwrite_any a0 a1 (some ⟨g1, 0, none⟩) 45 45 plF (some ⟨g2, 0, none⟩) 16 16 plR w h
  have p4 := fun w af nf cf ar nr cr h => vright_any a0 a1 af nf cf plF ar nr cr plR w h
  by_cases c1 : 1 ≤ a0
  case neg =>
    have d1 : decide (1 ≤ a0) = false := decide_eq_false c1
    have hR : vhRight a0 a1 plF plR = false := by rw [pl_right]; exact decide_eq_false (by omega)
    obtain ⟨hE, hX⟩ := wr_no hR
    have hlen : ([] : List Int).length = 0 := rfl
    rw [hE, hX] at p2
    rw [hR] at p4
    clear hR hE hX
    go_enter Try.func8, Try.ntmps8
    go_wp2_with (first | (go_at_call 15; refine (plain_any _ _ _).mono ?_; rintro e y1 ⟨g1, g2, rfl, hq1, hq2, _, _, hy1⟩; have hacc := hy1.alloc hy1.size (.cells #[.int .i64 a0, .int .i64 a1, .slice (some ⟨g1, 0, none⟩) 45 45, .slice (some ⟨g2, 0, none⟩) 16 16] 24); have hbk := pl_bks (hq1.below (below1 y1 (.cells #[.int .i64 a0, .int .i64 a1, .slice (some ⟨g1, 0, none⟩) 45 45, .slice (some ⟨g2, 0, none⟩) 16 16] 24))) (hq2.below (below1 y1 (.cells #[.int .i64 a0, .int .i64 a1, .slice (some ⟨g1, 0, none⟩) 45 45, .slice (some ⟨g2, 0, none⟩) 16 16] 24))); have hB0 := B4.new y1 (.int .i64 a0) (.int .i64 a1) (.slice (some ⟨g1, 0, none⟩) 45 45) (.slice (some ⟨g2, 0, none⟩) 16 16) 24; obtain ⟨ez, e0, e1, e2, e3, f0, f1, f2, f3⟩ := id hB0) | (go_at_call 17; refine (p2 _ g1 g2 hbk).mono ?_; rintro e y2 ⟨v, rfl, hv, hy2⟩; replace hacc := bthen hacc hy2 hacc.size; obtain ⟨va, vc, hve⟩ := rw_slice hv; rw [hlen] at hve; subst hve; replace hbk := hbk.below hy2; replace hB0 := hB0.below hy2; clear ez e0 e1 e2 e3 f0 f1 f2 f3; obtain ⟨ez, e0, e1, e2, e3, f0, f1, f2, f3⟩ := id hB0) | (go_at_call 11; refine (p4 _ _ _ _ _ _ _ hbk).mono ?_; rintro e y3 ⟨rfl, hy3⟩; replace hacc := bthen hacc hy3 hacc.size) | (go_at_call 10; refine (knows_any _).mono ?_; rintro e w9 ⟨rfl, hb9⟩; replace hacc := bthen hacc hb9 hacc.size))
    go_ret
    exact ⟨rfl, hacc⟩
  have d1 : decide (1 ≤ a0) = true := decide_eq_true c1
  by_cases c2 : a0 ≤ 2
  case neg =>
    have d2 : decide (a0 ≤ 2) = false := decide_eq_false c2
    have hR : vhRight a0 a1 plF plR = false := by rw [pl_right]; exact decide_eq_false (by omega)
    obtain ⟨hE, hX⟩ := wr_no hR
    have hlen : ([] : List Int).length = 0 := rfl
    rw [hE, hX] at p2
    rw [hR] at p4
    clear hR hE hX
    go_enter Try.func8, Try.ntmps8
    go_wp2_with (first | (go_at_call 15; refine (plain_any _ _ _).mono ?_; rintro e y1 ⟨g1, g2, rfl, hq1, hq2, _, _, hy1⟩; have hacc := hy1.alloc hy1.size (.cells #[.int .i64 a0, .int .i64 a1, .slice (some ⟨g1, 0, none⟩) 45 45, .slice (some ⟨g2, 0, none⟩) 16 16] 24); have hbk := pl_bks (hq1.below (below1 y1 (.cells #[.int .i64 a0, .int .i64 a1, .slice (some ⟨g1, 0, none⟩) 45 45, .slice (some ⟨g2, 0, none⟩) 16 16] 24))) (hq2.below (below1 y1 (.cells #[.int .i64 a0, .int .i64 a1, .slice (some ⟨g1, 0, none⟩) 45 45, .slice (some ⟨g2, 0, none⟩) 16 16] 24))); have hB0 := B4.new y1 (.int .i64 a0) (.int .i64 a1) (.slice (some ⟨g1, 0, none⟩) 45 45) (.slice (some ⟨g2, 0, none⟩) 16 16) 24; obtain ⟨ez, e0, e1, e2, e3, f0, f1, f2, f3⟩ := id hB0) | (go_at_call 17; refine (p2 _ g1 g2 hbk).mono ?_; rintro e y2 ⟨v, rfl, hv, hy2⟩; replace hacc := bthen hacc hy2 hacc.size; obtain ⟨va, vc, hve⟩ := rw_slice hv; rw [hlen] at hve; subst hve; replace hbk := hbk.below hy2; replace hB0 := hB0.below hy2; clear ez e0 e1 e2 e3 f0 f1 f2 f3; obtain ⟨ez, e0, e1, e2, e3, f0, f1, f2, f3⟩ := id hB0) | (go_at_call 11; refine (p4 _ _ _ _ _ _ _ hbk).mono ?_; rintro e y3 ⟨rfl, hy3⟩; replace hacc := bthen hacc hy3 hacc.size) | (go_at_call 10; refine (knows_any _).mono ?_; rintro e w9 ⟨rfl, hb9⟩; replace hacc := bthen hacc hb9 hacc.size))
    go_ret
    exact ⟨rfl, hacc⟩
  have d2 : decide (a0 ≤ 2) = true := decide_eq_true c2
  by_cases c3 : 0 ≤ a1
  case neg =>
    have d3 : decide (0 ≤ a1) = false := decide_eq_false c3
    have hR : vhRight a0 a1 plF plR = false := by rw [pl_right]; exact decide_eq_false (by omega)
    obtain ⟨hE, hX⟩ := wr_no hR
    have hlen : ([] : List Int).length = 0 := rfl
    rw [hE, hX] at p2
    rw [hR] at p4
    clear hR hE hX
    go_enter Try.func8, Try.ntmps8
    go_wp2_with (first | (go_at_call 15; refine (plain_any _ _ _).mono ?_; rintro e y1 ⟨g1, g2, rfl, hq1, hq2, _, _, hy1⟩; have hacc := hy1.alloc hy1.size (.cells #[.int .i64 a0, .int .i64 a1, .slice (some ⟨g1, 0, none⟩) 45 45, .slice (some ⟨g2, 0, none⟩) 16 16] 24); have hbk := pl_bks (hq1.below (below1 y1 (.cells #[.int .i64 a0, .int .i64 a1, .slice (some ⟨g1, 0, none⟩) 45 45, .slice (some ⟨g2, 0, none⟩) 16 16] 24))) (hq2.below (below1 y1 (.cells #[.int .i64 a0, .int .i64 a1, .slice (some ⟨g1, 0, none⟩) 45 45, .slice (some ⟨g2, 0, none⟩) 16 16] 24))); have hB0 := B4.new y1 (.int .i64 a0) (.int .i64 a1) (.slice (some ⟨g1, 0, none⟩) 45 45) (.slice (some ⟨g2, 0, none⟩) 16 16) 24; obtain ⟨ez, e0, e1, e2, e3, f0, f1, f2, f3⟩ := id hB0) | (go_at_call 17; refine (p2 _ g1 g2 hbk).mono ?_; rintro e y2 ⟨v, rfl, hv, hy2⟩; replace hacc := bthen hacc hy2 hacc.size; obtain ⟨va, vc, hve⟩ := rw_slice hv; rw [hlen] at hve; subst hve; replace hbk := hbk.below hy2; replace hB0 := hB0.below hy2; clear ez e0 e1 e2 e3 f0 f1 f2 f3; obtain ⟨ez, e0, e1, e2, e3, f0, f1, f2, f3⟩ := id hB0) | (go_at_call 11; refine (p4 _ _ _ _ _ _ _ hbk).mono ?_; rintro e y3 ⟨rfl, hy3⟩; replace hacc := bthen hacc hy3 hacc.size) | (go_at_call 10; refine (knows_any _).mono ?_; rintro e w9 ⟨rfl, hb9⟩; replace hacc := bthen hacc hb9 hacc.size))
    go_ret
    exact ⟨rfl, hacc⟩
  have d3 : decide (0 ≤ a1) = true := decide_eq_true c3
  by_cases c4 : a1 ≤ 12
  case neg =>
    have d4 : decide (a1 ≤ 12) = false := decide_eq_false c4
    have hR : vhRight a0 a1 plF plR = false := by rw [pl_right]; exact decide_eq_false (by omega)
    obtain ⟨hE, hX⟩ := wr_no hR
    have hlen : ([] : List Int).length = 0 := rfl
    rw [hE, hX] at p2
    rw [hR] at p4
    clear hR hE hX
    go_enter Try.func8, Try.ntmps8
    go_wp2_with (first | (go_at_call 15; refine (plain_any _ _ _).mono ?_; rintro e y1 ⟨g1, g2, rfl, hq1, hq2, _, _, hy1⟩; have hacc := hy1.alloc hy1.size (.cells #[.int .i64 a0, .int .i64 a1, .slice (some ⟨g1, 0, none⟩) 45 45, .slice (some ⟨g2, 0, none⟩) 16 16] 24); have hbk := pl_bks (hq1.below (below1 y1 (.cells #[.int .i64 a0, .int .i64 a1, .slice (some ⟨g1, 0, none⟩) 45 45, .slice (some ⟨g2, 0, none⟩) 16 16] 24))) (hq2.below (below1 y1 (.cells #[.int .i64 a0, .int .i64 a1, .slice (some ⟨g1, 0, none⟩) 45 45, .slice (some ⟨g2, 0, none⟩) 16 16] 24))); have hB0 := B4.new y1 (.int .i64 a0) (.int .i64 a1) (.slice (some ⟨g1, 0, none⟩) 45 45) (.slice (some ⟨g2, 0, none⟩) 16 16) 24; obtain ⟨ez, e0, e1, e2, e3, f0, f1, f2, f3⟩ := id hB0) | (go_at_call 17; refine (p2 _ g1 g2 hbk).mono ?_; rintro e y2 ⟨v, rfl, hv, hy2⟩; replace hacc := bthen hacc hy2 hacc.size; obtain ⟨va, vc, hve⟩ := rw_slice hv; rw [hlen] at hve; subst hve; replace hbk := hbk.below hy2; replace hB0 := hB0.below hy2; clear ez e0 e1 e2 e3 f0 f1 f2 f3; obtain ⟨ez, e0, e1, e2, e3, f0, f1, f2, f3⟩ := id hB0) | (go_at_call 11; refine (p4 _ _ _ _ _ _ _ hbk).mono ?_; rintro e y3 ⟨rfl, hy3⟩; replace hacc := bthen hacc hy3 hacc.size) | (go_at_call 10; refine (knows_any _).mono ?_; rintro e w9 ⟨rfl, hb9⟩; replace hacc := bthen hacc hb9 hacc.size))
    go_ret
    exact ⟨rfl, hacc⟩
  have d4 : decide (a1 ≤ 12) = true := decide_eq_true c4
  have hR : vhRight a0 a1 plF plR = true := by rw [pl_right]; exact decide_eq_true (by omega)
  obtain ⟨hE, hX⟩ := wr_ok hR
  have hlen : (byL (hV a0 a1 plF plR) 41).length = 41 := byL_length _ _
  rw [hE, hX] at p2
  rw [hR] at p4
  clear hR hE hX
  generalize byL (hV a0 a1 plF plR) 41 = Y at *
  go_enter Try.func8, Try.ntmps8
  go_wp2_with (first | (go_at_call 15; refine (plain_any _ _ _).mono ?_; rintro e y1 ⟨g1, g2, rfl, hq1, hq2, _, _, hy1⟩; have hacc := hy1.alloc hy1.size (.cells #[.int .i64 a0, .int .i64 a1, .slice (some ⟨g1, 0, none⟩) 45 45, .slice (some ⟨g2, 0, none⟩) 16 16] 24); have hbk := pl_bks (hq1.below (below1 y1 (.cells #[.int .i64 a0, .int .i64 a1, .slice (some ⟨g1, 0, none⟩) 45 45, .slice (some ⟨g2, 0, none⟩) 16 16] 24))) (hq2.below (below1 y1 (.cells #[.int .i64 a0, .int .i64 a1, .slice (some ⟨g1, 0, none⟩) 45 45, .slice (some ⟨g2, 0, none⟩) 16 16] 24))); have hB0 := B4.new y1 (.int .i64 a0) (.int .i64 a1) (.slice (some ⟨g1, 0, none⟩) 45 45) (.slice (some ⟨g2, 0, none⟩) 16 16) 24; obtain ⟨ez, e0, e1, e2, e3, f0, f1, f2, f3⟩ := id hB0) | (go_at_call 17; refine (p2 _ g1 g2 hbk).mono ?_; rintro e y2 ⟨v, rfl, hv, hy2⟩; replace hacc := bthen hacc hy2 hacc.size; obtain ⟨va, vc, hve⟩ := rw_slice hv; rw [hlen] at hve; subst hve; replace hbk := hbk.below hy2; replace hB0 := hB0.below hy2; clear ez e0 e1 e2 e3 f0 f1 f2 f3; obtain ⟨ez, e0, e1, e2, e3, f0, f1, f2, f3⟩ := id hB0) | (go_at_call 11; refine (p4 _ _ _ _ _ _ _ hbk).mono ?_; rintro e y3 ⟨rfl, hy3⟩; replace hacc := bthen hacc hy3 hacc.size) | (go_at_call 10; refine (knows_any _).mono ?_; rintro e w9 ⟨rfl, hb9⟩; replace hacc := bthen hacc hb9 hacc.size))
  go_ret
  exact ⟨rfl, hacc⟩

set_option maxRecDepth 100000 in
theorem lifted (os : Os) (started : os.Started) (H : Type) (enc : TypeId × Value → H) :
    ReturnsInHanded {} Try.checked os 8 .any (Rows.headPlainSpec.pre6 enc Try.prog Try.f8 Rows.headPlainRow.domain false) (Rows.headPlainSpec.post enc Try.prog Try.f8 false true false false) := by
  refine returnsInHanded_of_change (C := Try.checked) own started (by kernel_rfl) Try.func8
    (ChangeSpec.witness6 (enc := enc) (C := Try.checked) false ⟨#[], #[.int .i64 0, .int .i64 0], []⟩ 8 (by kernel_rfl) (by kernel_rfl) (by kernel_rfl) (by kernel_rfl)) ?_
  intro W base args ds gs before hval0 hW hcnd _
  have hval : ∀ (j : Nat) t v, Try.f8.params[j]? = some t → args[j]? = some v → Value.okWide Try.prog W .any base t v := hval0
  have hW' := hW
  obtain ⟨p, q, hA0, hV, rfl, hfz, hnd⟩ := hW
  have hA : DataW.TrodAll enc Try.prog W 0 (fun _ => true) true Try.f8.params.toList args.toList ds p := hA0
  rw [Try.params8] at hA hval
  obtain ⟨v0, vs0, d0, ds0, p0, q0, hargs, rfl, rfl, h0, r0⟩ := trodAll_cons hA
  obtain ⟨v1, vs1, d1, ds1, p1, q1, rfl, rfl, rfl, h1, r1⟩ := trodAll_cons r0
  obtain ⟨rfl, rfl, rfl⟩ := trodAll_nil r1
  obtain rfl : args = #[v0, v1] := by cases args; simp_all
  obtain ⟨rfl, rfl⟩ := trodVars_none hV
  obtain ⟨a0, rfl, rfl, rfl, w0⟩ := open_int Try.underlying3 (hval 0 3 v0 rfl rfl) h0
  obtain ⟨a1, rfl, rfl, rfl, w1⟩ := open_int Try.underlying3 (hval 1 3 v1 rfl rfl) h1
  clear hA0 hval0
  refine (walk a0 a1 W w0 w1).mono fun e W' ⟨he, bel⟩ => ?_
  subst he
  exact ⟨_, rfl, _, _, _, [], _, [], hW', trodAll_mk1 (shut_bool Try.underlying4 _), (trodAll_cons_mk (shut_int Try.underlying3 w0) (trodAll_cons_mk (shut_int Try.underlying3 w1) trodAll_mk0)), rfl, bel.frame _, fun h => by cases h⟩

theorem over : Rows.headPlainRow.holds Try.pinned (OpenSpec.ofChange Rows.headPlainSpec) :=
  OpenClaim.holds_of_wide 8 Try.f8 rfl rfl rfl rfl rfl rfl rfl ⟨rfl, rfl, rfl, rfl, rfl⟩ rfl rfl rfl rfl rfl (by kernel_rfl) Try.func8 (by kernel_rfl)
    (of_decide_eq_true (by kernel_rfl)) (by unfold Func.isWrapper; first | (rw [if_pos (by decide +kernel)]; kernel_rfl) | (rw [if_neg (by decide +kernel)]; exact ⟨rfl, rfl⟩))
    (fun os started H enc _ => lifted os started H enc)

theorem proved : Rows.HeadPlainSaid := over
#print axioms proved
end Go.Proofs.Ytdgacbelpenmmaa.headPlain
