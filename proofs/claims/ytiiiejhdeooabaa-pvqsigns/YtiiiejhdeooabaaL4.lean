/- The Go function of the statement PvqSigns returns true at every input, and leaves each argument as it read. No condition. -/
import Derived.Test.YtiiiejhdeooabaaFl
import Derived.Test.YtiiiejhdeooabaaFn
import Derived.ProofKit
import Derived.OpenShut
import Derived.ShutString
import Derived.ChangeOld
import Derived.Lib.SmallJoins
namespace Go.Proofs.Ytiiiejhdeooabaa.pvqSigns
open Go.ChangeShapes Go.WideShapes Go.ChangeAt Go.RowKit Go.Joins
set_option linter.unusedVariables false
set_option linter.unusedSimpArgs false

theorem own : ownKnob Try.prog.godebug = none := by kernel_rfl
theorem laidOut : laidOutB Try.prog = true := by kernel_rfl

set_option maxRecDepth 10000 in
set_option maxHeartbeats 2000000 in
theorem walk (a0 : Option Addr) (len0 cap0 : Nat) (z0 : List Int) (a1 : Int) (w : World) (w0 : IsRow .i64 w a0 len0 cap0 z0) (w1 : (Lit.int .i64 a1).wf = true) :
    Calls Try.prog 6 #[.slice a0 len0 cap0, .int .i64 a1] w fun e w' => e = .returned (.bool true) ∧ Below w.heap.size w w' := by
  obtain ⟨x, rfl, hv, hwf⟩ := row_rw_any w0
  have hf := fits_of hwf
  clear hwf w0
  by_cases hg : 100 < x.length
  · have hg2 : (100 : Int) < x.length := by omega
    go_enter Try.func6, Try.ntmps6
    go_wp2_with (go_at_call 9; refine (knows_any _).mono ?_; rintro e w9 ⟨rfl, hb9⟩)
    go_ret
    exact ⟨rfl, hb9⟩
  have hg2 : (x.length : Int) ≤ 100 := by omega
  have hk64 := i64_of w1
  unfold I64 at hk64
  obtain ⟨hk1, hk2⟩ := hk64
  clear w1
  by_cases hbad : fairX x = false ∨ a1 < 0 ∨ 12 < a1
  · have hno := fun w hv => search_no (.slice a0 x.length cap0) x a1 w hv hf hbad
    clear hbad
    go_enter Try.func6, Try.ntmps6
    go_wp2_with (first | (go_at_call 13; refine (hno _ hv).mono ?_; rintro e w2 ⟨rfl, h2⟩; have h2 := h2.symm; subst h2) | (go_at_call 9; refine (knows_any _).mono ?_; rintro e w9 ⟨rfl, hb9⟩))
    go_ret
    exact ⟨rfl, hb9⟩
  have hx : fairX x = true := by
    cases h : fairX x
    · exact absurd (.inl h) hbad
    · rfl
  obtain ⟨i0, hi, hz0, hz1, hz2⟩ := info_parts info_i64
  obtain ⟨k, rfl⟩ := Int.eq_ofNat_of_zero_le (show 0 ≤ a1 by omega)
  have hk : k ≤ 12 := by omega
  obtain ⟨x1, x2, x3⟩ := fairX_parts hx
  have hC1 := fun w hv => search_ok (.slice a0 x.length cap0) x k w hv hf hx hk
  have hC2 := fun v w hv => search_ok v (ngs x) k w hv (fits_fair (ngs_fair hx)) (ngs_fair hx) hk
  simp only [ngs_len] at hC2
  have hl1 : Hid ((fnd x k).length = x.length) := tab_len _ _
  have hl2 : Hid ((fnd (ngs x) k).length = x.length) := (tab_len _ _).trans (ngs_len x)
  have hpul := fun v w hv => rpulses_any v (fnd x k) w hv (fits_fnd hx k hk) (by have := hl1.out; omega)
  rw [rps_ok _ (by rw [ps_fnd hx k]; exact hk), ps_fnd hx k] at hpul
  have HS : Hid (∀ j, j < x.length → ∃ v : Int, 0 ≤ v ∧ v ≤ 12 ∧ (fnd x k).getD j 0 = (if x.getD j 0 < 0 then -v else v) ∧ (fnd (ngs x) k).getD j 0 = (if 0 < x.getD j 0 then -v else v)) := fun j hj => fnd_signs hx k hk j hj
  generalize fnd x k = Y at *
  generalize fnd (ngs x) k = Z at *
  have hv0 := hv
  obtain ⟨a, cap, he, ha⟩ := hv
  simp only [Value.slice.injEq] at he
  obtain ⟨rfl, _, rfl⟩ := he
  obtain ⟨b, off, rfl, hlt, hc⟩ := ha.resolve_left (by intro h; subst h; simp at x1)
  clear ha hbad hx hf hk1 hk2 hg hg2
  have H3 := hid x3
  clear x3
  have n1 : (x.length : Int) ≤ 16 := by omega
  go_enter Try.func6, Try.ntmps6
  go_wp2_with (go_at_call 13; refine (hC1 _ hv0).mono ?_; rintro e w2 ⟨g2, rfl, hg2, hr2, hb2⟩; have HR2 := hid hr2; clear hr2)
  have hlt2 : b < w2.heap.size := by have := hb2.size; omega
  have HC2 : Hid (∀ i, i < x.length → w2.cell? ⟨b, off + i, none⟩ = some (.int .i64 (x.getD i 0))) := fun i hi => (hb2.cell (p := ⟨b, off + i, none⟩) hlt).trans (hc i hi)
  clear hc hC1 hv0
  go_loopw [7, 8] (fun r i wr => ∃ j : Nat, j ≤ x.length ∧ i = .int .i64 j ∧ wr.ownsRow w2.heap.size 2 1 r j ((tab j fun i => -(x.getD i 0)).map (Value.int .i64)) ∧ Below w2.heap.size w2 wr) (fun _ i _ => x.length - (intOf i).toNat)
  case atStart => exact ⟨0, by omega, rfl, World.ownsRow_nil _ _ _ _, Below.refl _ _⟩
  case round =>
    obtain ⟨j, hj, rfl, hown, hbr⟩ := hrel
    have hsz := hbr.size
    by_cases hl : j < x.length
    · have g := (hbr.cell (p := ⟨b, off + j, none⟩) hlt2).trans (HC2.out j hl)
      obtain ⟨b1, b2⟩ := H3.out j
      have HS1 : Hid ((tab (j + 1) fun i => -(x.getD i 0)).map (Value.int .i64) = (tab j fun i => -(x.getD i 0)).map (Value.int .i64) ++ [.int .i64 (-(x.getD j 0))]) := by
        unfold Hid; rw [tab_push]; simp
      generalize hu : x.getD j 0 = u at g b1 b2 HS1
      clear hu
      go_wp2_with (at_builtin; refine wpList_append_own _ rfl _ _ 22 rfl w2.heap.size 2 i0 (.int .i64 0) 1 8 Try.underlying22 hi hz0 hz1 hz2 rfl (by decide) _ _ _ rfl (hown.alloc _) ⟨wr.heap.size, 0, none⟩ 1 1 [.int .i64 (-u)] rfl rfl (cell_one_at rfl _ _) (one_cell _ _) ?c3 ?c4 ?c5 ?_)
      case c3 => unfold maxLen; omega
      case c4 => omega
      case c5 => first | omega | (simp; omega)
      intro v' w3 hown' hgrow _
      have hb3 := bgrow hbr hown (Nat.le_refl _) hgrow
      go_wp2
      exact ⟨⟨j + 1, by omega, by go_num, by rw [HS1.out]; exact hown', hb3⟩, by simp [intOf]; omega⟩
    · have hje : j = x.length := by omega
      rw [hje] at hown
      clear hje
      obtain ⟨q, cap2, rfl, hq1, hq2, -⟩ := own_ints hown (by omega)
      have HO : Hid (Rw .i64 wr (.slice (some ⟨q, 0, none⟩) x.length cap2) (ngs x)) := Rw.of_owns hown
      clear hown
      obtain ⟨W1, rfl⟩ : ∃ x, x = wr := ⟨wr, rfl⟩
      have hlenY := hl1.out
      go_wp2_with (first | (go_at_call 13; refine (hC2 _ _ HO.out).mono ?_; rintro e w3 ⟨g3, rfl, _, hr3, hb3⟩; have HR3 := hid hr3; clear hr3; have HY := hid (HR2.out.below (bthen' hbr hb3))) | (go_at_call 17; refine (hpul _ _ (HY.out.rw hl1.out)).mono ?_; rintro e w4 ⟨rfl, h4⟩; have h4 := h4.symm; subst h4))
      have hb23 := bthen' hbr hb3
      clear hC2 hpul HO
      go_loopw [11] (fun i wr => ∃ j : Nat, j ≤ x.length ∧ i = .int .i64 j ∧ Below w3.heap.size w3 wr) (fun i _ => x.length - (intOf i).toNat)
      case atStart => exact ⟨0, by omega, rfl, Below.refl _ _⟩
      case round =>
        obtain ⟨j, hj, rfl, hbr2⟩ := hrel
        by_cases hl3 : j < x.length
        · have g := ((bthen' hb23 hbr2).cell (p := ⟨b, off + j, none⟩) hlt2).trans (HC2.out j hl3)
          have g4 := (HY.out.below hbr2).cell j (by rw [hl1.out]; exact hl3)
          have g5 := (HR3.out.below hbr2).cell j (by rw [hl2.out]; exact hl3)
          obtain ⟨v, v1, v2, e1, e2⟩ := HS.out j hl3
          rw [e1] at g4
          rw [e2] at g5
          clear e1 e2
          obtain ⟨b1, b2⟩ := H3.out j
          generalize hu : x.getD j 0 = u at g g4 g5 b1 b2
          clear hu
          have i1 : (0 : Int) ≤ (j : Int) := by omega
          have i2 : (j : Int) < (x.length : Int) := by omega
          have i3 : IntKind.i64.wrap (j : Int) = j := wraps_i64 _ (by omega) (by omega)
          have i4 : IntKind.i64.wrap (-v) = -v := wraps_i64 _ (by omega) (by omega)
          have i5 : IntKind.i64.wrap v = v := wraps_i64 _ (by omega) (by omega)
          rcases Int.lt_trichotomy u 0 with hu | hu | hu
          · rw [if_pos hu] at g4
            rw [if_neg (by omega)] at g5
            obtain ⟨m, hm⟩ : ∃ m, -v = m := ⟨_, rfl⟩
            rw [hm] at g4
            have j1 : IntKind.i64.wrap (-m) = v := by rw [wraps_i64 _ (by omega) (by omega)]; omega
            have d1 : decide (0 < u) = false := decide_eq_false (by omega)
            have d2 : decide (u < 0) = true := decide_eq_true hu
            have d3 : decide (0 < m) = false := decide_eq_false (by omega)
            have t2 : (u == 0) = false := by simp; omega
            have t3 : (u != 0) = true := by simp; omega
            clear hu i4 i5 hm b1 b2 v1 v2
            go_wp2
            go_quiet (fail)
            go_wp2
            exact ⟨⟨j + 1, by omega, by go_num, drewN_below hbr2 _⟩, by simp [intOf]; omega⟩
          · subst hu
            rw [if_neg (by omega)] at g4 g5
            go_wp2
            go_quiet (fail)
            go_wp2
            exact ⟨⟨j + 1, by omega, by go_num, drewN_below hbr2 _⟩, by simp [intOf]; omega⟩
          · rw [if_neg (by omega)] at g4
            rw [if_pos hu] at g5
            obtain ⟨m, hm⟩ : ∃ m, -v = m := ⟨_, rfl⟩
            rw [hm] at g5
            have j1 : IntKind.i64.wrap (-v) = m := by rw [wraps_i64 _ (by omega) (by omega)]; omega
            have d1 : decide (0 < u) = true := decide_eq_true hu
            have d2 : decide (u < 0) = false := decide_eq_false (by omega)
            have d3 : decide (v < 0) = false := decide_eq_false (by omega)
            have t2 : (u == 0) = false := by simp; omega
            have t3 : (u != 0) = true := by simp; omega
            clear hu i4 i5 hm b1 b2 v1 v2
            go_wp2
            go_quiet (fail)
            go_wp2
            exact ⟨⟨j + 1, by omega, by go_num, drewN_below hbr2 _⟩, by simp [intOf]; omega⟩
        · go_wp2_with (go_at_call 9; refine (knows_any _).mono ?_; rintro e w9 ⟨rfl, hb9⟩)
          go_ret
          exact ⟨rfl, bthen' (bthen' hb2 hb23) (bthen' hbr2 hb9)⟩


set_option maxRecDepth 100000 in
theorem lifted (os : Os) (started : os.Started) (H : Type) (enc : TypeId × Value → H) :
    ReturnsInHanded {} Try.checked os 6 .any (Rows.pvqSignsSpec.pre6 enc Try.prog Try.f6 Rows.pvqSignsRow.domain false) (Rows.pvqSignsSpec.post enc Try.prog Try.f6 false true false false) := by
  refine returnsInHanded_of_change (C := Try.checked) own started (by kernel_rfl) Try.func6
    (ChangeSpec.witness6 (enc := enc) (C := Try.checked) false ⟨#[], #[.slice none 0 0, .int .i64 0], []⟩ 8 (by kernel_rfl) (by kernel_rfl) (by kernel_rfl) (by kernel_rfl)) ?_
  intro W base args ds gs before hval0 hW hcnd _
  have hval : ∀ (j : Nat) t v, Try.f6.params[j]? = some t → args[j]? = some v → Value.okWide Try.prog W .any base t v := hval0
  have hW' := hW
  obtain ⟨p, q, hA0, hV, rfl, hfz, hnd⟩ := hW
  have hA : DataW.TrodAll enc Try.prog W 0 (fun _ => true) true Try.f6.params.toList args.toList ds p := hA0
  rw [Try.params6] at hA hval
  obtain ⟨v0, vs0, d0, ds0, p0, q0, hargs, rfl, rfl, h0, r0⟩ := trodAll_cons hA
  obtain ⟨v1, vs1, d1, ds1, p1, q1, rfl, rfl, rfl, h1, r1⟩ := trodAll_cons r0
  obtain ⟨rfl, rfl, rfl⟩ := trodAll_nil r1
  obtain rfl : args = #[v0, v1] := by cases args; simp_all
  obtain ⟨rfl, rfl⟩ := trodVars_none hV
  have k0 := h0
  have lt0 : ∀ x ∈ p0, x.block < W.heap.size := by obtain ⟨m, hm⟩ := k0; exact DataW.trod_lt m _ _ _ hm
  obtain ⟨a0, len0, cap0, rfl⟩ := okWide_slice Try.underlying22 (hval 0 22 v0 rfl rfl)
  obtain ⟨z0, w0⟩ : ∃ zs, IsRow .i64 W a0 len0 cap0 zs := by
    obtain ⟨fuel, hf⟩ := h0
    obtain ⟨a', l', c', zs, he, hr⟩ := ints_of_trod Try.underlying22 Try.underlying2 (by kernel_rfl) (show DataW.trod enc Try.prog W 0 (fun _ => true) true fuel 22 [.slice a0 len0 cap0] = _ from hf)
    simp only [Value.slice.injEq] at he
    obtain ⟨rfl, rfl, rfl⟩ := he
    exact ⟨zs, hr⟩
  obtain ⟨a1, rfl, rfl, rfl, w1⟩ := open_int Try.underlying3 (hval 1 3 v1 rfl rfl) h1
  clear hA0 hval0
  refine (walk a0 len0 cap0 z0 a1 W w0 w1).mono fun e W' ⟨he, bel⟩ => ?_
  subst he
  exact ⟨_, rfl, _, _, _, [], _, [], hW', trodAll_mk1 (shut_bool Try.underlying4 _), (trodAll_cons_mk (Below.trod laidOut (by kernel_rfl) (of_decide_eq_true (by kernel_rfl)) k0 bel lt0) (trodAll_cons_mk (shut_int Try.underlying3 w1) trodAll_mk0)), rfl, bel.frame _, fun h => by cases h⟩

theorem over : Rows.pvqSignsRow.holds Try.pinned (OpenSpec.ofChange Rows.pvqSignsSpec) :=
  OpenClaim.holds_of_wide 6 Try.f6 rfl rfl rfl rfl rfl rfl rfl ⟨rfl, rfl, rfl, rfl, rfl⟩ rfl rfl rfl rfl rfl (by kernel_rfl) Try.func6 (by kernel_rfl)
    (of_decide_eq_true (by kernel_rfl)) (by unfold Func.isWrapper; first | (rw [if_pos (by decide +kernel)]; kernel_rfl) | (rw [if_neg (by decide +kernel)]; exact ⟨rfl, rfl⟩))
    (fun os started H enc _ => lifted os started H enc)

theorem proved : Rows.PvqSignsSaid := over
#print axioms proved
end Go.Proofs.Ytiiiejhdeooabaa.pvqSigns
