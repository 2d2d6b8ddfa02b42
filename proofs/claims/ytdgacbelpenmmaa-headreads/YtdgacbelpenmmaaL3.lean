/- The Go function of the statement HeadReads returns true at every input, and leaves each argument as it read. No condition. -/
import Derived.Test.YtdgacbelpenmmaaVm
import Derived.BigQuiet
import Derived.ProofKit
import Derived.OpenShut
import Derived.ShutString
import Derived.ChangeOld
import Derived.Lib.SmallJoins
namespace Go.Proofs.Ytdgacbelpenmmaa.headReads
open Go.ChangeShapes Go.WideShapes Go.ChangeAt Go.RowKit Go.Joins
set_option linter.unusedVariables false
set_option linter.unusedSimpArgs false

theorem own : ownKnob Try.prog.godebug = none := by kernel_rfl
theorem laidOut : laidOutB Try.prog = true := by kernel_rfl

set_option maxRecDepth 10000 in
set_option maxHeartbeats 8000000 in
theorem walk (a0 : Option Addr) (len0 cap0 : Nat) (z0 : List Int) (w : World) (w0 : IsRow .u8 w a0 len0 cap0 z0) :
    Calls Try.prog 5 #[.slice a0 len0 cap0] w fun e w' => e = .returned (.bool true) ∧ Below w.heap.size w w' := by
  have hcn := row_cap w0
  obtain ⟨xs, hxl, hv, hx⟩ := row_rw w0
  have hacc : Below w.heap.size w w := Below.refl _ _
  clear w0
  by_cases hg : 1000 < len0
  · have hg2 : (1000 : Int) < len0 := by omega
    clear hv hx hcn hxl
    go_enter Try.func5, Try.ntmps5
    go_wp2_with (go_at_call 10; refine (knows_any _).mono ?_; rintro e w9 ⟨rfl, hb9⟩; replace hacc := bthen hacc hb9 hacc.size)
    go_ret
    exact ⟨rfl, hacc⟩
  have hg2 : ¬ (1000 : Int) < (len0 : Int) := by omega
  have hl : len0 ≤ 1000 := by omega
  clear hg
  have p6 := fun w a cap hv => vread_any a len0 cap xs w hxl hv hx (by omega)
  obtain ⟨i0, hi, hz0, hz1, hz2⟩ := info_parts info5
  have p7 := fun W (h : Below w.heap.size w W) => rread_any a0 len0 cap0 xs W hxl (hv.below h) hx
  have hF := oF_len xs
  have hR := oR_len xs
  have hEE : (vhE xs == vhE xs) = true := by simp
  unfold RdPost at p7
  generalize oC xs = C at *
  generalize oQ xs = Q at *
  generalize oF xs = F at *
  generalize oR xs = R at *
  generalize vhE xs = E at *
  clear hx
  go_enter Try.func5, Try.ntmps5
  have HBL := hid hxl
  have HV := hid hv
  clear hxl hv
  go_wp2_with (at_builtin; refine wpList_append_rw rfl _ _ _ rfl w.heap.size 5 i0 (.int .u8 0) 1 Try.underlying34 hi hz0 hz1 hz2 rfl .u8 _ 0 [] rfl (own_empty (Nat.le_refl _)) a0 cap0 xs ?h1 ?h2 hcn ?h3 ?h4 (by simp) ?_)
  case h1 => rw [HBL.out]
  case h2 => rw [HBL.out]; exact HV.out.below (below1 _ _)
  case h3 => rw [HBL.out]; unfold maxLen; omega
  case h4 => rw [HBL.out]; omega
  intro v5 w5 hown5 hgrow5
  replace hacc : Below w.heap.size w w5 := (below1 w (.cells #[] 5)).grown hgrow5 (by simp) (fun k hk => by simp [Value.ownBlock] at hk; omega)
  obtain ⟨a5, c5, rfl, hr5⟩ := copied (w := w5) (base := w.heap.size) (n := len0) (e := 5) (v := v5) (B := xs) (by rw [HBL.out] at hown5; simpa using hown5)
  clear hown5 hgrow5
  go_upto_region 4 with (go_at_call 19; refine (p6 _ a5 c5 hr5).mono ?_; rintro e w6 ⟨s1, n1, k1, s2, n2, k2, rfl, hq1, hq2, hb6⟩; replace hacc := bthen hacc hb6 hacc.size)
  have hbx := below1 w6 (.cells #[.int .i64 C, .int .i64 Q, .slice s1 n1 k1, .slice s2 n2 k2] 24)
  have hB0 := B4.new w6 (.int .i64 C) (.int .i64 Q) (.slice s1 n1 k1) (.slice s2 n2 k2) 24
  replace hacc := bthen hacc hbx hacc.size
  have hr1 := hq1.rw.below hbx
  have hr2 := hq2.rw.below hbx
  clear hq1 hq2 hbx hr5 hb6
  generalize w6.alloc (.cells #[.int .i64 C, .int .i64 Q, .slice s1 n1 k1, .slice s2 n2 k2] 24) = W6 at *
  generalize w6.heap.size = bh at *
  go_upto_region 5 with (go_at_call 20; refine (p7 _ hacc).mono ?_; rintro e w7 ⟨s3, n3, k3, s4, n4, k4, rfl, hq3, hq4, hb7⟩)
  have hbx := below1 w7 (.cells #[.int .i64 C, .int .i64 Q, .slice s3 n3 k3, .slice s4 n4 k4] 28)
  have hBk := B4.new w7 (.int .i64 C) (.int .i64 Q) (.slice s3 n3 k3) (.slice s4 n4 k4) 28
  have hB1 := (hB0.below hb7).below hbx
  have HBW := hid (bthen (bthen hacc hb7 hacc.size) hbx (Nat.le_trans hacc.size hb7.size))
  have hr3 := hq3.rw.below hbx
  have hr4 := hq4.rw.below hbx
  have hr5 := (hr1.below hb7).below hbx
  have hr6 := (hr2.below hb7).below hbx
  clear hacc hB0 hbx hq3 hq4 hr1 hr2 hb7 p6 p7
  generalize w7.alloc (.cells #[.int .i64 C, .int .i64 Q, .slice s3 n3 k3, .slice s4 n4 k4] 28) = W7 at *
  generalize w7.heap.size = bk at *
  have hacc : Below W7.heap.size W7 W7.drew := (Below.refl _ _).drew
  obtain ⟨ez, e0, e1, e2, e3, f0, f1, f2, f3⟩ := id hB1
  obtain ⟨dz, d0, d1, d2, d3, j0, j1, j2, j3⟩ := id hBk
  go_region_held3 (fun w' => w'.cell? ⟨bh, 0, none⟩ = some (.int .i64 C) ∧ w'.cell? ⟨bh, 1, none⟩ = some (.int .i64 Q) ∧ w'.cell? ⟨bh, 2, none⟩ = some (.slice s1 n1 k1) ∧ w'.cell? ⟨bh, 3, none⟩ = some (.slice s2 n2 k2) ∧ w'.cell? ⟨bk, 0, none⟩ = some (.int .i64 C) ∧ w'.cell? ⟨bk, 1, none⟩ = some (.int .i64 Q) ∧ w'.cell? ⟨bk, 2, none⟩ = some (.slice s3 n3 k3) ∧ w'.cell? ⟨bk, 3, none⟩ = some (.slice s4 n4 k4)) (exact ⟨(hB1.below hacc).c0, (hB1.below hacc).c1, (hB1.below hacc).c2, (hB1.below hacc).c3, (hBk.below hacc).c0, (hBk.below hacc).c1, (hBk.below hacc).c2, (hBk.below hacc).c3⟩) (first
    | (go_at_call 13; refine (as16_any _ _ _ _ _ _ _ _ _).mono ?_; rintro e x2 ⟨rfl, hx2⟩; replace hacc := bthen hacc hx2 hacc.size)
    | (go_at_call 14; refine (same16_yes _ _ _ _ _ _ _ _ _ _ _ _ _ _ F R _ hF hR (hr5.below hacc) (hr6.below hacc) (hr3.below hacc) (hr4.below hacc)).mono ?_; rintro e x6 ⟨rfl, hx6⟩; replace hacc := bthen hacc hx6 hacc.size)
    | (go_at_call 10; refine (knows_any _).mono ?_; rintro e w9 ⟨rfl, hb9⟩; replace hacc := bthen hacc hb9 hacc.size))
  all_goals go_wp2
  all_goals go_ret
  all_goals exact ⟨rfl, bthen HBW.out hacc HBW.out.size⟩

set_option maxRecDepth 100000 in
theorem lifted (os : Os) (started : os.Started) (H : Type) (enc : TypeId × Value → H) :
    ReturnsInHanded {} Try.checked os 5 .any (Rows.headReadsSpec.pre6 enc Try.prog Try.f5 Rows.headReadsRow.domain false) (Rows.headReadsSpec.post enc Try.prog Try.f5 false true false false) := by
  refine returnsInHanded_of_change (C := Try.checked) own started (by kernel_rfl) Try.func5
    (ChangeSpec.witness6 (enc := enc) (C := Try.checked) false ⟨#[], #[.slice none 0 0], []⟩ 8 (by kernel_rfl) (by kernel_rfl) (by kernel_rfl) (by kernel_rfl)) ?_
  intro W base args ds gs before hval0 hW hcnd _
  have hval : ∀ (j : Nat) t v, Try.f5.params[j]? = some t → args[j]? = some v → Value.okWide Try.prog W .any base t v := hval0
  have hW' := hW
  obtain ⟨p, q, hA0, hV, rfl, hfz, hnd⟩ := hW
  have hA : DataW.TrodAll enc Try.prog W 0 (fun _ => true) true Try.f5.params.toList args.toList ds p := hA0
  rw [Try.params5] at hA hval
  obtain ⟨v0, vs0, d0, ds0, p0, q0, hargs, rfl, rfl, h0, r0⟩ := trodAll_cons hA
  obtain ⟨rfl, rfl, rfl⟩ := trodAll_nil r0
  obtain rfl : args = #[v0] := by cases args; simp_all
  obtain ⟨rfl, rfl⟩ := trodVars_none hV
  have k0 := h0
  have lt0 : ∀ x ∈ p0, x.block < W.heap.size := by obtain ⟨m, hm⟩ := k0; exact DataW.trod_lt m _ _ _ hm
  obtain ⟨a0, len0, cap0, rfl⟩ := okWide_slice Try.underlying34 (hval 0 34 v0 rfl rfl)
  obtain ⟨z0, w0⟩ : ∃ zs, IsRow .u8 W a0 len0 cap0 zs := by
    obtain ⟨fuel, hf⟩ := h0
    obtain ⟨a', l', c', zs, he, hr⟩ := ints_of_trod Try.underlying34 Try.underlying5 (by kernel_rfl) (show DataW.trod enc Try.prog W 0 (fun _ => true) true fuel 34 [.slice a0 len0 cap0] = _ from hf)
    simp only [Value.slice.injEq] at he
    obtain ⟨rfl, rfl, rfl⟩ := he
    exact ⟨zs, hr⟩
  clear hA0 hval0
  refine (walk a0 len0 cap0 z0 W w0).mono fun e W' ⟨he, bel⟩ => ?_
  subst he
  exact ⟨_, rfl, _, _, _, [], _, [], hW', trodAll_mk1 (shut_bool Try.underlying4 _), (trodAll_cons_mk (Below.trod laidOut (by kernel_rfl) (of_decide_eq_true (by kernel_rfl)) k0 bel lt0) trodAll_mk0), rfl, bel.frame _, fun h => by cases h⟩

theorem over : Rows.headReadsRow.holds Try.pinned (OpenSpec.ofChange Rows.headReadsSpec) :=
  OpenClaim.holds_of_wide 5 Try.f5 rfl rfl rfl rfl rfl rfl rfl ⟨rfl, rfl, rfl, rfl, rfl⟩ rfl rfl rfl rfl rfl (by kernel_rfl) Try.func5 (by kernel_rfl)
    (of_decide_eq_true (by kernel_rfl)) (by unfold Func.isWrapper; first | (rw [if_pos (by decide +kernel)]; kernel_rfl) | (rw [if_neg (by decide +kernel)]; exact ⟨rfl, rfl⟩))
    (fun os started H enc _ => lifted os started H enc)

theorem proved : Rows.HeadReadsSaid := over
#print axioms proved
end Go.Proofs.Ytdgacbelpenmmaa.headReads
