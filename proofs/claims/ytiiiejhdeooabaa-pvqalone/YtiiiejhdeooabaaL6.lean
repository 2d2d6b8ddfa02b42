/- The Go function of the statement PvqAlone returns true at every input, and leaves each argument as it read. No condition. -/
import Derived.Test.YtiiiejhdeooabaaFl
import Derived.Test.YtiiiejhdeooabaaFn
import Derived.ProofKit
import Derived.OpenShut
import Derived.ShutString
import Derived.ChangeOld
import Derived.Lib.SmallJoins
namespace Go.Proofs.Ytiiiejhdeooabaa.pvqAlone
open Go.ChangeShapes Go.WideShapes Go.ChangeAt Go.RowKit Go.Joins
set_option linter.unusedVariables false
set_option linter.unusedSimpArgs false

theorem own : ownKnob Try.prog.godebug = none := by kernel_rfl
theorem laidOut : laidOutB Try.prog = true := by kernel_rfl

set_option maxRecDepth 10000 in
set_option maxHeartbeats 2000000 in
theorem walk (a0 : Int) (a1 : Int) (a2 : Int) (a3 : Int) (w : World) (w0 : (Lit.int .i64 a0).wf = true) (w1 : (Lit.int .i64 a1).wf = true) (w2 : (Lit.int .i64 a2).wf = true) (w3 : (Lit.int .i64 a3).wf = true) :
    Calls Try.prog 8 #[.int .i64 a0, .int .i64 a1, .int .i64 a2, .int .i64 a3] w fun e w' => e = .returned (.bool true) ∧ Below w.heap.size w w' := by
  have h0 := i64_of w0
  have h1 := i64_of w1
  have h2 := i64_of w2
  have h3 := i64_of w3
  unfold I64 at h0 h1 h2 h3
  clear w0 w1 w2 w3
  by_cases c1 : a0 < 1
  · go_enter Try.func8, Try.ntmps8
    go_wp2_with (go_at_call 9; refine (knows_any _).mono ?_; rintro e w9 ⟨rfl, hb9⟩)
    go_ret
    exact ⟨rfl, hb9⟩
  by_cases c2 : 16 < a0
  · go_enter Try.func8, Try.ntmps8
    go_wp2_with (go_at_call 9; refine (knows_any _).mono ?_; rintro e w9 ⟨rfl, hb9⟩)
    go_ret
    exact ⟨rfl, hb9⟩
  by_cases c3 : a1 < 0
  · go_enter Try.func8, Try.ntmps8
    go_wp2_with (go_at_call 9; refine (knows_any _).mono ?_; rintro e w9 ⟨rfl, hb9⟩)
    go_ret
    exact ⟨rfl, hb9⟩
  by_cases c4 : a0 ≤ a1
  · go_enter Try.func8, Try.ntmps8
    go_wp2_with (go_at_call 9; refine (knows_any _).mono ?_; rintro e w9 ⟨rfl, hb9⟩)
    go_ret
    exact ⟨rfl, hb9⟩
  by_cases c5 : a2 = 0
  · subst c5
    go_enter Try.func8, Try.ntmps8
    go_wp2_with (go_at_call 9; refine (knows_any _).mono ?_; rintro e w9 ⟨rfl, hb9⟩)
    go_ret
    exact ⟨rfl, hb9⟩
  have c5' : (a2 == 0) = false := by simp; exact c5
  by_cases c6 : a2 < -1048576
  · go_enter Try.func8, Try.ntmps8
    go_wp2_with (go_at_call 9; refine (knows_any _).mono ?_; rintro e w9 ⟨rfl, hb9⟩)
    go_ret
    exact ⟨rfl, hb9⟩
  by_cases c7 : 1048576 < a2
  · go_enter Try.func8, Try.ntmps8
    go_wp2_with (go_at_call 9; refine (knows_any _).mono ?_; rintro e w9 ⟨rfl, hb9⟩)
    go_ret
    exact ⟨rfl, hb9⟩
  by_cases c8 : a3 < 1
  · go_enter Try.func8, Try.ntmps8
    go_wp2_with (go_at_call 9; refine (knows_any _).mono ?_; rintro e w9 ⟨rfl, hb9⟩)
    go_ret
    exact ⟨rfl, hb9⟩
  by_cases c9 : 12 < a3
  · go_enter Try.func8, Try.ntmps8
    go_wp2_with (go_at_call 9; refine (knows_any _).mono ?_; rintro e w9 ⟨rfl, hb9⟩)
    go_ret
    exact ⟨rfl, hb9⟩
  obtain ⟨i0, hi, hz0, hz1, hz2⟩ := info_parts info_i64
  obtain ⟨n, rfl⟩ := Int.eq_ofNat_of_zero_le (show 0 ≤ a0 by omega)
  obtain ⟨p, rfl⟩ := Int.eq_ofNat_of_zero_le (show 0 ≤ a1 by omega)
  obtain ⟨k, rfl⟩ := Int.eq_ofNat_of_zero_le (show 0 ≤ a3 by omega)
  have hp : p < n := by omega
  have hn : n ≤ 16 := by omega
  have hk : k ≤ 12 := by omega
  have hk1 : 1 ≤ k := by omega
  have hx := one_fair n p a2 hp hn (by omega) (by omega)
  have hF := fnd_one n p a2 k hp c5 (by omega) (by omega)
  have hps := ps_fnd hx k
  have hft := fits_fnd hx k hk
  rw [hF] at hps hft
  have hok : okB (one n p (sk a2 k)) = true := by unfold okB; rw [decide_eq_true_eq, one_len, hps]; omega
  have hsa : (sk a2 k).natAbs = k := by unfold sk; split <;> omega
  have hrt : Root (65536 * sq (one n p (sk a2 k)) (one n p (sk a2 k)).length) (256 * k) := by
    rw [one_len, sq_one n p n _ hp, if_pos hp, hsa]
    exact root_one k
  have hC1 := fun v w hv => search_ok v (one n p a2) k w hv (fits_fair hx) hx hk
  have hC2 := fun v w hv => shape_ok v (one n p (sk a2 k)) (if a2 < 0 then -a2 else a2) (256 * k) w hv hft hok (by split <;> omega) (by split <;> omega) hrt
  have HY1 := hid hsa
  simp only [hF, one_len] at hC1
  simp only [one_len, shape_one n p a2 k hp hk1] at hC2
  clear hx hF hps hft hok hsa hrt
  by_cases hneg : a2 < 0
  · have hsk : sk a2 k = -(k : Int) := by unfold sk; rw [if_pos hneg]
    have hrr : (if a2 < 0 then -a2 else a2) = -a2 := if_pos hneg
    rw [hrr] at hC2
    have cW := hid hsk
    rw [hsk] at hC1 hC2 HY1
    obtain ⟨Q, hQ⟩ : ∃ Q, (-a2).tdiv 255 = Q := ⟨_, rfl⟩
    have Q0 : 0 ≤ Q := by rw [← hQ, Int.tdiv_eq_ediv_of_nonneg (by omega)]; omega
    have Q1 : Q ≤ 16449 := by rw [← hQ, Int.tdiv_eq_ediv_of_nonneg (by omega)]; omega
    clear hsk hrr cW
    go_enter Try.func8, Try.ntmps8
    go_wp2_with (at_make; refine wpList_make_full _ rfl _ _ 22 rfl w.heap.size 2 i0 (.int .i64 0) 1 Try.underlying22 hi hz0 hz1 .i64 .i64 _ _ n rfl rfl (by omega) (by omega) (by rw [hz2]; omega) (by unfold maxLen; omega) (by simp) ?_)
    intro w5 hown5 hgrow5
    have hb5 := grown_of_none hgrow5
    have HB5 := hid (Blk.made hown5)
    clear hown5 hgrow5
    have c1 := HB5.out.cell p (by rw [tab_len]; exact hp)
    have c2 := HB5.out.free p (by rw [tab_len]; exact hp)
    rw [tab_at _ _ _ hp] at c1
    have HB6 := hid (HB5.out.set p a2)
    rw [one_set n p a2 hp] at HB6
    have hb6 := hb5.setCell (p := ⟨w.heap.size, p, none⟩) (Nat.le_refl _) (.int .i64 a2)
    clear HB5
    go_wp2_with (first | (go_at_call 13; refine (hC1 _ _ (HB6.out.rw (one_len n p a2))).mono ?_; rintro e w6 ⟨g6, rfl, _, hr6, hb7⟩; have HR6 := hid hr6; clear hr6) | (go_at_call 16; refine (hC2 _ _ (HR6.out.rw (one_len _ _ _))).mono ?_; rintro e w7 ⟨g7, rfl, _, hr7, hb8⟩; have HR7 := hid hr7; clear hr7))
    go_loop [16] (fun i => ∃ j : Nat, j ≤ n ∧ i = .int .i64 j) (fun i => n - (intOf i).toNat)
    case atStart => exact ⟨0, by omega, rfl⟩
    case round =>
      obtain ⟨j, hj, rfl⟩ := hrel
      by_cases hl : j < n
      · have g1 := (HR6.out.below hb8).cell j (by rw [one_len]; exact hl)
        have g2 := HR7.out.cell j (by rw [one_len]; exact hl)
        by_cases e : j = p
        · subst e
          go_wp2
          exact ⟨⟨j + 1, by omega, by go_num⟩, by simp [intOf]; omega⟩
        · have e2 : ((j : Int) == (p : Int)) = false := by simp; omega
          rw [one_off _ _ _ _ e] at g1 g2
          go_wp2
          exact ⟨⟨j + 1, by omega, by go_num⟩, by simp [intOf]; omega⟩
      · have g1 := (HR6.out.below hb8).cell p (by rw [one_len]; exact hp)
        have g2 := HR7.out.cell p (by rw [one_len]; exact hp)
        rw [one_at _ _ _ hp] at g1 g2
        go_wp2_with (go_at_call 9; refine (knows_any _).mono ?_; rintro e w9 ⟨rfl, hb9⟩)
        go_ret
        exact ⟨rfl, bthen' (bthen' (bthen' hb6 hb7) hb8) hb9⟩
  · have hsk : sk a2 k = (k : Int) := by unfold sk; rw [if_neg hneg]
    have hrr : (if a2 < 0 then -a2 else a2) = a2 := if_neg hneg
    rw [hrr] at hC2
    have cW := hid hsk
    rw [hsk] at hC1 hC2 HY1
    obtain ⟨Q, hQ⟩ : ∃ Q, (a2).tdiv 255 = Q := ⟨_, rfl⟩
    have Q0 : 0 ≤ Q := by rw [← hQ, Int.tdiv_eq_ediv_of_nonneg (by omega)]; omega
    have Q1 : Q ≤ 16449 := by rw [← hQ, Int.tdiv_eq_ediv_of_nonneg (by omega)]; omega
    clear hsk hrr cW
    go_enter Try.func8, Try.ntmps8
    go_wp2_with (at_make; refine wpList_make_full _ rfl _ _ 22 rfl w.heap.size 2 i0 (.int .i64 0) 1 Try.underlying22 hi hz0 hz1 .i64 .i64 _ _ n rfl rfl (by omega) (by omega) (by rw [hz2]; omega) (by unfold maxLen; omega) (by simp) ?_)
    intro w5 hown5 hgrow5
    have hb5 := grown_of_none hgrow5
    have HB5 := hid (Blk.made hown5)
    clear hown5 hgrow5
    have c1 := HB5.out.cell p (by rw [tab_len]; exact hp)
    have c2 := HB5.out.free p (by rw [tab_len]; exact hp)
    rw [tab_at _ _ _ hp] at c1
    have HB6 := hid (HB5.out.set p a2)
    rw [one_set n p a2 hp] at HB6
    have hb6 := hb5.setCell (p := ⟨w.heap.size, p, none⟩) (Nat.le_refl _) (.int .i64 a2)
    clear HB5
    go_wp2_with (first | (go_at_call 13; refine (hC1 _ _ (HB6.out.rw (one_len n p a2))).mono ?_; rintro e w6 ⟨g6, rfl, _, hr6, hb7⟩; have HR6 := hid hr6; clear hr6) | (go_at_call 16; refine (hC2 _ _ (HR6.out.rw (one_len _ _ _))).mono ?_; rintro e w7 ⟨g7, rfl, _, hr7, hb8⟩; have HR7 := hid hr7; clear hr7))
    go_loop [16] (fun i => ∃ j : Nat, j ≤ n ∧ i = .int .i64 j) (fun i => n - (intOf i).toNat)
    case atStart => exact ⟨0, by omega, rfl⟩
    case round =>
      obtain ⟨j, hj, rfl⟩ := hrel
      by_cases hl : j < n
      · have g1 := (HR6.out.below hb8).cell j (by rw [one_len]; exact hl)
        have g2 := HR7.out.cell j (by rw [one_len]; exact hl)
        by_cases e : j = p
        · subst e
          go_wp2
          exact ⟨⟨j + 1, by omega, by go_num⟩, by simp [intOf]; omega⟩
        · have e2 : ((j : Int) == (p : Int)) = false := by simp; omega
          rw [one_off _ _ _ _ e] at g1 g2
          go_wp2
          exact ⟨⟨j + 1, by omega, by go_num⟩, by simp [intOf]; omega⟩
      · have g1 := (HR6.out.below hb8).cell p (by rw [one_len]; exact hp)
        have g2 := HR7.out.cell p (by rw [one_len]; exact hp)
        rw [one_at _ _ _ hp] at g1 g2
        go_wp2_with (go_at_call 9; refine (knows_any _).mono ?_; rintro e w9 ⟨rfl, hb9⟩)
        go_ret
        exact ⟨rfl, bthen' (bthen' (bthen' hb6 hb7) hb8) hb9⟩


set_option maxRecDepth 100000 in
theorem lifted (os : Os) (started : os.Started) (H : Type) (enc : TypeId × Value → H) :
    ReturnsInHanded {} Try.checked os 8 .any (Rows.pvqAloneSpec.pre6 enc Try.prog Try.f8 Rows.pvqAloneRow.domain false) (Rows.pvqAloneSpec.post enc Try.prog Try.f8 false true false false) := by
  refine returnsInHanded_of_change (C := Try.checked) own started (by kernel_rfl) Try.func8
    (ChangeSpec.witness6 (enc := enc) (C := Try.checked) false ⟨#[], #[.int .i64 0, .int .i64 0, .int .i64 0, .int .i64 0], []⟩ 8 (by kernel_rfl) (by kernel_rfl) (by kernel_rfl) (by kernel_rfl)) ?_
  intro W base args ds gs before hval0 hW hcnd _
  have hval : ∀ (j : Nat) t v, Try.f8.params[j]? = some t → args[j]? = some v → Value.okWide Try.prog W .any base t v := hval0
  have hW' := hW
  obtain ⟨p, q, hA0, hV, rfl, hfz, hnd⟩ := hW
  have hA : DataW.TrodAll enc Try.prog W 0 (fun _ => true) true Try.f8.params.toList args.toList ds p := hA0
  rw [Try.params8] at hA hval
  obtain ⟨v0, vs0, d0, ds0, p0, q0, hargs, rfl, rfl, h0, r0⟩ := trodAll_cons hA
  obtain ⟨v1, vs1, d1, ds1, p1, q1, rfl, rfl, rfl, h1, r1⟩ := trodAll_cons r0
  obtain ⟨v2, vs2, d2, ds2, p2, q2, rfl, rfl, rfl, h2, r2⟩ := trodAll_cons r1
  obtain ⟨v3, vs3, d3, ds3, p3, q3, rfl, rfl, rfl, h3, r3⟩ := trodAll_cons r2
  obtain ⟨rfl, rfl, rfl⟩ := trodAll_nil r3
  obtain rfl : args = #[v0, v1, v2, v3] := by cases args; simp_all
  obtain ⟨rfl, rfl⟩ := trodVars_none hV
  obtain ⟨a0, rfl, rfl, rfl, w0⟩ := open_int Try.underlying3 (hval 0 3 v0 rfl rfl) h0
  obtain ⟨a1, rfl, rfl, rfl, w1⟩ := open_int Try.underlying3 (hval 1 3 v1 rfl rfl) h1
  obtain ⟨a2, rfl, rfl, rfl, w2⟩ := open_int Try.underlying2 (hval 2 2 v2 rfl rfl) h2
  obtain ⟨a3, rfl, rfl, rfl, w3⟩ := open_int Try.underlying3 (hval 3 3 v3 rfl rfl) h3
  clear hA0 hval0
  refine (walk a0 a1 a2 a3 W w0 w1 w2 w3).mono fun e W' ⟨he, bel⟩ => ?_
  subst he
  exact ⟨_, rfl, _, _, _, [], _, [], hW', trodAll_mk1 (shut_bool Try.underlying4 _), (trodAll_cons_mk (shut_int Try.underlying3 w0) (trodAll_cons_mk (shut_int Try.underlying3 w1) (trodAll_cons_mk (shut_int Try.underlying2 w2) (trodAll_cons_mk (shut_int Try.underlying3 w3) trodAll_mk0)))), rfl, bel.frame _, fun h => by cases h⟩

theorem over : Rows.pvqAloneRow.holds Try.pinned (OpenSpec.ofChange Rows.pvqAloneSpec) :=
  OpenClaim.holds_of_wide 8 Try.f8 rfl rfl rfl rfl rfl rfl rfl ⟨rfl, rfl, rfl, rfl, rfl⟩ rfl rfl rfl rfl rfl (by kernel_rfl) Try.func8 (by kernel_rfl)
    (of_decide_eq_true (by kernel_rfl)) (by unfold Func.isWrapper; first | (rw [if_pos (by decide +kernel)]; kernel_rfl) | (rw [if_neg (by decide +kernel)]; exact ⟨rfl, rfl⟩))
    (fun os started H enc _ => lifted os started H enc)

theorem proved : Rows.PvqAloneSaid := over
#print axioms proved
end Go.Proofs.Ytiiiejhdeooabaa.pvqAlone
