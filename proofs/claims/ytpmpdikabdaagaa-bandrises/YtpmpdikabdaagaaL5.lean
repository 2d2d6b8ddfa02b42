/- The Go function of the statement BandRises returns true at every input, and leaves each argument as it read. No condition. -/
import Derived.Test.YtpmpdikabdaagaaIh
import Derived.Deep.QuietTactic
import Derived.ProofKit
import Derived.OpenShut
import Derived.ShutString
import Derived.ChangeOld
import Derived.Lib.SmallJoins
namespace Go.Proofs.Ytpmpdikabdaagaa.bandRises
open Go.ChangeShapes Go.WideShapes Go.ChangeAt Go.RowKit Go.Joins
set_option linter.unusedVariables false
set_option linter.unusedSimpArgs false

theorem own : ownKnob Try.prog.godebug = none := by kernel_rfl
theorem laidOut : laidOutB Try.prog = true := by kernel_rfl

set_option maxRecDepth 10000 in
set_option maxHeartbeats 2000000 in
theorem walk (a0 : Option Addr) (len0 cap0 : Nat) (z0 : List Int) (a1 : Option Addr) (len1 cap1 : Nat) (z1 : List Int) (w : World) (w0 : IsRow .i64 w a0 len0 cap0 z0) (w1 : IsRow .i64 w a1 len1 cap1 z1) :
    Calls Try.prog 7 #[.slice a0 len0 cap0, .slice a1 len1 cap1] w fun e w' => e = .returned (.bool true) ∧ Below w.heap.size w w' := by
  obtain ⟨l, rfl, hv2, hwf2⟩ := row_rw_any w1
  have hf2 := fits_of hwf2
  clear hwf2 w1
  obtain ⟨x, rfl, hv, hwf⟩ := row_rw_any w0
  have hf := fits_of hwf
  clear hwf w0
  have hgr := fun w => great_any a0 x.length cap0 w
  have hgr2 := fun w => great_any a1 l.length cap1 w
  by_cases hg : 100 < x.length
  · rw [decide_eq_true hg] at hgr
    generalize x.length = n at *
    generalize l.length = m at *
    go_enter Try.func7, Try.ntmps7
    go_wp2_with (first | (go_at_call_of 16 (Value.slice a0 n cap0); refine (hgr _).mono ?_; rintro e w9 ⟨rfl, h9⟩; have h9 := h9.symm; subst h9) | (go_at_call 15; refine (knows_any _).mono ?_; rintro e wk ⟨rfl, hbk⟩))
    go_ret
    exact ⟨rfl, hbk⟩
  rw [decide_eq_false hg] at hgr
  by_cases hg2 : 100 < l.length
  · rw [decide_eq_true hg2] at hgr2
    generalize x.length = n at *
    generalize l.length = m at *
    go_enter Try.func7, Try.ntmps7
    go_wp2_with (first | (go_at_call_of 16 (Value.slice a0 n cap0); refine (hgr _).mono ?_; rintro e w9 ⟨rfl, h9⟩; have h9 := h9.symm; subst h9) | (go_at_call_of 16 (Value.slice a1 m cap1); refine (hgr2 _).mono ?_; rintro e w9 ⟨rfl, h9⟩; have h9 := h9.symm; subst h9) | (go_at_call 15; refine (knows_any _).mono ?_; rintro e wk ⟨rfl, hbk⟩))
    go_ret
    exact ⟨rfl, hbk⟩
  rw [decide_eq_false hg2] at hgr2
  by_cases hl : 8 < x.length
  · have hg1 := fun w => gain_long a0 cap0 x w hl
    generalize x.length = n at *
    generalize l.length = m at *
    go_enter Try.func7, Try.ntmps7
    go_wp2_with (first | (go_at_call_of 16 (Value.slice a0 n cap0); refine (hgr _).mono ?_; rintro e w9 ⟨rfl, h9⟩; have h9 := h9.symm; subst h9) | (go_at_call_of 16 (Value.slice a1 m cap1); refine (hgr2 _).mono ?_; rintro e w9 ⟨rfl, h9⟩; have h9 := h9.symm; subst h9) | (go_at_call 17; refine (hg1 _).mono ?_; rintro e w9 ⟨rfl, h9⟩; have h9 := h9.symm; subst h9) | (go_at_call 15; refine (knows_any _).mono ?_; rintro e wk ⟨rfl, hbk⟩))
    go_ret
    exact ⟨rfl, hbk⟩
  cases hx : fairX x
  · have hg1 := fun w hv => gain_wrong a0 cap0 x w hv hf hx hl
    generalize x.length = n at *
    generalize l.length = m at *
    go_enter Try.func7, Try.ntmps7
    go_wp2_with (first | (go_at_call_of 16 (Value.slice a0 n cap0); refine (hgr _).mono ?_; rintro e w9 ⟨rfl, h9⟩; have h9 := h9.symm; subst h9) | (go_at_call_of 16 (Value.slice a1 m cap1); refine (hgr2 _).mono ?_; rintro e w9 ⟨rfl, h9⟩; have h9 := h9.symm; subst h9) | (go_at_call 17; refine (hg1 _ hv).mono ?_; rintro e w9 ⟨rfl, h9⟩; have h9 := h9.symm; subst h9) | (go_at_call 15; refine (knows_any _).mono ?_; rintro e wk ⟨rfl, hbk⟩))
    go_ret
    exact ⟨rfl, hbk⟩
  have hg1 := fun w hv => gain_ok a0 cap0 x w hv hf hx (by omega)
  obtain ⟨rs1, rs2⟩ := rs_gain l hx
  obtain ⟨x1, x2, x3⟩ := fairX_parts hx
  obtain ⟨i0, hi, hz0, hz1, hz2⟩ := info_parts info_i64
  have HG2 : Hid (∀ a cap w, Rw .i64 w (.slice a x.length cap) (tab x.length (rsf x l)) → Calls Try.prog 17 #[.slice a x.length cap] w fun e w' => e = .returned (.tuple #[.int .i64 (gn (tab x.length (rsf x l)) : Nat), .int .i64 0]) ∧ w' = w) := fun a cap w hv => by
    have := gain_ok a cap (tab x.length (rsf x l)) w (by rw [tab_len]; exact hv) (fits_fair rs1) rs1 (by rw [tab_len]; omega)
    rw [tab_len] at this
    exact this
  have HSN : Hid (∀ j v, rsf x l j = v → (tab (j + 1) (rsf x l)).map (Value.int .i64) = (tab j (rsf x l)).map (Value.int .i64) ++ [.int .i64 v]) := fun j v h => by
    rw [tab_push, h]; simp
  obtain ⟨a', cap', he, ha⟩ := hv
  simp only [Value.slice.injEq, true_and] at he
  obtain ⟨rfl, rfl⟩ := he
  obtain ⟨b1, o1, rfl, hlt1, hc1⟩ := ha.resolve_left (by intro h; subst h; simp at x1)
  clear ha
  have hv : Rw .i64 w (.slice (some ⟨b1, o1, none⟩) x.length cap0) x := ⟨_, _, rfl, .inr ⟨b1, o1, rfl, hlt1, hc1⟩⟩
  have HV := hid hv
  have HC1 := hid hc1
  obtain ⟨a', cap', he, ha⟩ := hv2
  simp only [Value.slice.injEq, true_and] at he
  obtain ⟨rfl, rfl⟩ := he
  have HC2 : Hid (0 < l.length → ∃ b off, a1 = some ⟨b, off, none⟩ ∧ b < w.heap.size ∧ ∀ i, i < l.length → w.cell? ⟨b, off + i, none⟩ = some (.int .i64 (l.getD i 0))) := fun h => ha.resolve_left (by intro h2; subst h2; simp at h)
  clear ha hc1 hv
  have HX3 := hid x3
  have HF2 := hid hf2
  have hle := rs2
  obtain ⟨n, hn⟩ : ∃ n, x.length = n := ⟨_, rfl⟩
  obtain ⟨m, hm⟩ : ∃ m, l.length = m := ⟨_, rfl⟩
  have HM := hid hm
  rw [hn] at hgr hg1 hg hl rs1 rs2 x1 x2 HG2 HV HC1 hle ⊢
  rw [hm] at hgr2 hg2 HC2 ⊢
  generalize gn (tab n (rsf x l)) = K at *
  generalize gn x = G at *
  have hle2 : (K : Int) ≤ (G : Int) := by omega
  clear hn hm hf hf2 x3 rs1 rs2 hx
  go_enter Try.func7, Try.ntmps7
  go_wp2_with (first | (go_at_call_of 16 (Value.slice (some ⟨b1, o1, none⟩) n cap0); refine (hgr _).mono ?_; rintro e w9 ⟨rfl, h9⟩; have h9 := h9.symm; subst h9) | (go_at_call_of 16 (Value.slice a1 m cap1); refine (hgr2 _).mono ?_; rintro e w9 ⟨rfl, h9⟩; have h9 := h9.symm; subst h9) | (go_at_call 17; refine (hg1 _ HV.out).mono ?_; rintro e w9 ⟨rfl, h9⟩; have h9 := h9.symm; subst h9))
  go_loopw [7, 8] (fun o i wr => ∃ j : Nat, j ≤ n ∧ i = .int .i64 j ∧ wr.ownsRow w.heap.size 2 1 o j ((tab j (rsf x l)).map (Value.int .i64)) ∧ Below w.heap.size w wr) (fun _ i _ => n - (intOf i).toNat)
  case atStart => exact ⟨0, by omega, rfl, World.ownsRow_nil _ _ _ _, Below.refl _ _⟩
  case round =>
    obtain ⟨j, hj, rfl, hown, hbr⟩ := hrel
    have hsz := hbr.size
    by_cases hjn : j < n
    · have g1 := (hbr.cell (p := ⟨b1, o1 + j, none⟩) hlt1).trans (HC1.out j hjn)
      have hx3 := HX3.out j
      obtain ⟨X, hxe⟩ : ∃ X, x.getD j 0 = X := ⟨_, rfl⟩
      rw [hxe] at g1 hx3
      by_cases hneg : X < 0
      · have hU : (X.natAbs : Int) = -X := by omega
        by_cases h2 : j < m
        · obtain ⟨b2, o2, rfl, hlt2, hc2⟩ := HC2.out (by omega)
          have g2 := (hbr.cell (p := ⟨b2, o2 + j, none⟩) hlt2).trans (hc2 j h2)
          have hfl := HF2.out j
          clear hc2
          by_cases h3 : X ≤ l.getD j 0 ∧ l.getD j 0 ≤ -X
          · have HS := hid (HSN.out j (l.getD j 0) (rsf_yes (by rw [HM.out]; exact h2) (by rw [← hxe] at h3; omega) (by rw [← hxe] at h3; omega)))
            generalize l.getD j 0 = L at *
            obtain ⟨d1, d2⟩ := h3
            clear hU
            go_wp2_with (at_builtin; refine wpList_append_own _ rfl _ _ 26 rfl w.heap.size 2 i0 (.int .i64 0) 1 8 Try.underlying26 hi hz0 hz1 hz2 rfl (by decide) _ _ _ rfl (hown.alloc _) ⟨wr.heap.size, 0, none⟩ 1 1 [.int .i64 (L)] rfl rfl (cell_one_at rfl _ _) (one_cell _ _) ?c3 ?c4 ?c5 ?_)
            case c3 => unfold maxLen; omega
            case c4 => omega
            case c5 => first | omega | (simp; omega)
            intro v' w2 hown' hgrow _
            have hb2 := bgrow hbr hown (Nat.le_refl _) hgrow
            go_wp2
            exact ⟨⟨j + 1, by omega, by go_num, by rw [HS.out]; exact hown', hb2⟩, by simp [intOf]; omega⟩
          · have HS := hid (HSN.out j (-X) ((rsf_no (by rintro ⟨_, q1, q2⟩; apply h3; rw [← hxe]; rw [← hxe] at hU; omega)).trans (by rw [hxe]; omega)))
            generalize l.getD j 0 = L at *
            by_cases d1 : X ≤ L
            · have d2 : -X < L := by omega
              clear h3
              clear hU
              go_wp2_with (at_builtin; refine wpList_append_own _ rfl _ _ 26 rfl w.heap.size 2 i0 (.int .i64 0) 1 8 Try.underlying26 hi hz0 hz1 hz2 rfl (by decide) _ _ _ rfl (hown.alloc _) ⟨wr.heap.size, 0, none⟩ 1 1 [.int .i64 (-X)] rfl rfl (cell_one_at rfl _ _) (one_cell _ _) ?c3 ?c4 ?c5 ?_)
              case c3 => unfold maxLen; omega
              case c4 => omega
              case c5 => first | omega | (simp; omega)
              intro v' w2 hown' hgrow _
              have hb2 := bgrow hbr hown (Nat.le_refl _) hgrow
              go_wp2
              exact ⟨⟨j + 1, by omega, by go_num, by rw [HS.out]; exact hown', hb2⟩, by simp [intOf]; omega⟩
            · have d2 : L < X := by omega
              clear h3
              clear hU
              go_wp2_with (at_builtin; refine wpList_append_own _ rfl _ _ 26 rfl w.heap.size 2 i0 (.int .i64 0) 1 8 Try.underlying26 hi hz0 hz1 hz2 rfl (by decide) _ _ _ rfl (hown.alloc _) ⟨wr.heap.size, 0, none⟩ 1 1 [.int .i64 (-X)] rfl rfl (cell_one_at rfl _ _) (one_cell _ _) ?c3 ?c4 ?c5 ?_)
              case c3 => unfold maxLen; omega
              case c4 => omega
              case c5 => first | omega | (simp; omega)
              intro v' w2 hown' hgrow _
              have hb2 := bgrow hbr hown (Nat.le_refl _) hgrow
              go_wp2
              exact ⟨⟨j + 1, by omega, by go_num, by rw [HS.out]; exact hown', hb2⟩, by simp [intOf]; omega⟩
        · have HS := hid (HSN.out j (-X) ((rsf_no (by rintro ⟨q0, _⟩; rw [HM.out] at q0; exact h2 q0)).trans (by rw [hxe]; omega)))
          have h4 : ¬ (j : Int) < (m : Int) := by omega
          clear hU
          go_wp2_with (at_builtin; refine wpList_append_own _ rfl _ _ 26 rfl w.heap.size 2 i0 (.int .i64 0) 1 8 Try.underlying26 hi hz0 hz1 hz2 rfl (by decide) _ _ _ rfl (hown.alloc _) ⟨wr.heap.size, 0, none⟩ 1 1 [.int .i64 (-X)] rfl rfl (cell_one_at rfl _ _) (one_cell _ _) ?c3 ?c4 ?c5 ?_)
          case c3 => unfold maxLen; omega
          case c4 => omega
          case c5 => first | omega | (simp; omega)
          intro v' w2 hown' hgrow _
          have hb2 := bgrow hbr hown (Nat.le_refl _) hgrow
          go_wp2
          exact ⟨⟨j + 1, by omega, by go_num, by rw [HS.out]; exact hown', hb2⟩, by simp [intOf]; omega⟩
      · have hU : (X.natAbs : Int) = X := by omega
        by_cases h2 : j < m
        · obtain ⟨b2, o2, rfl, hlt2, hc2⟩ := HC2.out (by omega)
          have g2 := (hbr.cell (p := ⟨b2, o2 + j, none⟩) hlt2).trans (hc2 j h2)
          have hfl := HF2.out j
          clear hc2
          by_cases h3 : -X ≤ l.getD j 0 ∧ l.getD j 0 ≤ X
          · have HS := hid (HSN.out j (l.getD j 0) (rsf_yes (by rw [HM.out]; exact h2) (by rw [← hxe] at h3; omega) (by rw [← hxe] at h3; omega)))
            generalize l.getD j 0 = L at *
            obtain ⟨d1, d2⟩ := h3
            clear hU
            go_wp2_with (at_builtin; refine wpList_append_own _ rfl _ _ 26 rfl w.heap.size 2 i0 (.int .i64 0) 1 8 Try.underlying26 hi hz0 hz1 hz2 rfl (by decide) _ _ _ rfl (hown.alloc _) ⟨wr.heap.size, 0, none⟩ 1 1 [.int .i64 (L)] rfl rfl (cell_one_at rfl _ _) (one_cell _ _) ?c3 ?c4 ?c5 ?_)
            case c3 => unfold maxLen; omega
            case c4 => omega
            case c5 => first | omega | (simp; omega)
            intro v' w2 hown' hgrow _
            have hb2 := bgrow hbr hown (Nat.le_refl _) hgrow
            go_wp2
            exact ⟨⟨j + 1, by omega, by go_num, by rw [HS.out]; exact hown', hb2⟩, by simp [intOf]; omega⟩
          · have HS := hid (HSN.out j (X) ((rsf_no (by rintro ⟨_, q1, q2⟩; apply h3; rw [← hxe]; rw [← hxe] at hU; omega)).trans (by rw [hxe]; omega)))
            generalize l.getD j 0 = L at *
            by_cases d1 : -X ≤ L
            · have d2 : X < L := by omega
              clear h3
              clear hU
              go_wp2_with (at_builtin; refine wpList_append_own _ rfl _ _ 26 rfl w.heap.size 2 i0 (.int .i64 0) 1 8 Try.underlying26 hi hz0 hz1 hz2 rfl (by decide) _ _ _ rfl (hown.alloc _) ⟨wr.heap.size, 0, none⟩ 1 1 [.int .i64 (X)] rfl rfl (cell_one_at rfl _ _) (one_cell _ _) ?c3 ?c4 ?c5 ?_)
              case c3 => unfold maxLen; omega
              case c4 => omega
              case c5 => first | omega | (simp; omega)
              intro v' w2 hown' hgrow _
              have hb2 := bgrow hbr hown (Nat.le_refl _) hgrow
              go_wp2
              exact ⟨⟨j + 1, by omega, by go_num, by rw [HS.out]; exact hown', hb2⟩, by simp [intOf]; omega⟩
            · have d2 : L < -X := by omega
              clear h3
              clear hU
              go_wp2_with (at_builtin; refine wpList_append_own _ rfl _ _ 26 rfl w.heap.size 2 i0 (.int .i64 0) 1 8 Try.underlying26 hi hz0 hz1 hz2 rfl (by decide) _ _ _ rfl (hown.alloc _) ⟨wr.heap.size, 0, none⟩ 1 1 [.int .i64 (X)] rfl rfl (cell_one_at rfl _ _) (one_cell _ _) ?c3 ?c4 ?c5 ?_)
              case c3 => unfold maxLen; omega
              case c4 => omega
              case c5 => first | omega | (simp; omega)
              intro v' w2 hown' hgrow _
              have hb2 := bgrow hbr hown (Nat.le_refl _) hgrow
              go_wp2
              exact ⟨⟨j + 1, by omega, by go_num, by rw [HS.out]; exact hown', hb2⟩, by simp [intOf]; omega⟩
        · have HS := hid (HSN.out j (X) ((rsf_no (by rintro ⟨q0, _⟩; rw [HM.out] at q0; exact h2 q0)).trans (by rw [hxe]; omega)))
          have h4 : ¬ (j : Int) < (m : Int) := by omega
          clear hU
          go_wp2_with (at_builtin; refine wpList_append_own _ rfl _ _ 26 rfl w.heap.size 2 i0 (.int .i64 0) 1 8 Try.underlying26 hi hz0 hz1 hz2 rfl (by decide) _ _ _ rfl (hown.alloc _) ⟨wr.heap.size, 0, none⟩ 1 1 [.int .i64 (X)] rfl rfl (cell_one_at rfl _ _) (one_cell _ _) ?c3 ?c4 ?c5 ?_)
          case c3 => unfold maxLen; omega
          case c4 => omega
          case c5 => first | omega | (simp; omega)
          intro v' w2 hown' hgrow _
          have hb2 := bgrow hbr hown (Nat.le_refl _) hgrow
          go_wp2
          exact ⟨⟨j + 1, by omega, by go_num, by rw [HS.out]; exact hown', hb2⟩, by simp [intOf]; omega⟩
    · have hje : j = n := by omega
      rw [hje] at hown
      obtain ⟨a2, c2, rfl, _⟩ := owns_open hown
      have hy := Rw.of_owns hown
      have HB := hid hbr
      clear hown hje hsz hbr
      go_wp2_with (first | (go_at_call 17; refine (HG2.out a2 c2 _ hy).mono ?_; rintro e w9 ⟨rfl, h9⟩; have h9 := h9.symm; subst h9) | (go_at_call 15; refine (knows_any _).mono ?_; rintro e wk ⟨rfl, hbk⟩))
      go_ret
      exact ⟨rfl, bthen' HB.out hbk⟩


set_option maxRecDepth 100000 in
theorem lifted (os : Os) (started : os.Started) (H : Type) (enc : TypeId × Value → H) :
    ReturnsInHanded {} Try.checked os 7 .any (Rows.bandRisesSpec.pre6 enc Try.prog Try.f7 Rows.bandRisesRow.domain false) (Rows.bandRisesSpec.post enc Try.prog Try.f7 false true false false) := by
  refine returnsInHanded_of_change (C := Try.checked) own started (by kernel_rfl) Try.func7
    (ChangeSpec.witness6 (enc := enc) (C := Try.checked) false ⟨#[], #[.slice none 0 0, .slice none 0 0], []⟩ 8 (by kernel_rfl) (by kernel_rfl) (by kernel_rfl) (by kernel_rfl)) ?_
  intro W base args ds gs before hval0 hW hcnd _
  have hval : ∀ (j : Nat) t v, Try.f7.params[j]? = some t → args[j]? = some v → Value.okWide Try.prog W .any base t v := hval0
  have hW' := hW
  obtain ⟨p, q, hA0, hV, rfl, hfz, hnd⟩ := hW
  have hA : DataW.TrodAll enc Try.prog W 0 (fun _ => true) true Try.f7.params.toList args.toList ds p := hA0
  rw [Try.params7] at hA hval
  obtain ⟨v0, vs0, d0, ds0, p0, q0, hargs, rfl, rfl, h0, r0⟩ := trodAll_cons hA
  obtain ⟨v1, vs1, d1, ds1, p1, q1, rfl, rfl, rfl, h1, r1⟩ := trodAll_cons r0
  obtain ⟨rfl, rfl, rfl⟩ := trodAll_nil r1
  obtain rfl : args = #[v0, v1] := by cases args; simp_all
  obtain ⟨rfl, rfl⟩ := trodVars_none hV
  have k0 := h0
  have lt0 : ∀ x ∈ p0, x.block < W.heap.size := by obtain ⟨m, hm⟩ := k0; exact DataW.trod_lt m _ _ _ hm
  obtain ⟨a0, len0, cap0, rfl⟩ := okWide_slice Try.underlying26 (hval 0 26 v0 rfl rfl)
  obtain ⟨z0, w0⟩ : ∃ zs, IsRow .i64 W a0 len0 cap0 zs := by
    obtain ⟨fuel, hf⟩ := h0
    obtain ⟨a', l', c', zs, he, hr⟩ := ints_of_trod Try.underlying26 Try.underlying2 (by kernel_rfl) (show DataW.trod enc Try.prog W 0 (fun _ => true) true fuel 26 [.slice a0 len0 cap0] = _ from hf)
    simp only [Value.slice.injEq] at he
    obtain ⟨rfl, rfl, rfl⟩ := he
    exact ⟨zs, hr⟩
  have k1 := h1
  have lt1 : ∀ x ∈ p1, x.block < W.heap.size := by obtain ⟨m, hm⟩ := k1; exact DataW.trod_lt m _ _ _ hm
  obtain ⟨a1, len1, cap1, rfl⟩ := okWide_slice Try.underlying26 (hval 1 26 v1 rfl rfl)
  obtain ⟨z1, w1⟩ : ∃ zs, IsRow .i64 W a1 len1 cap1 zs := by
    obtain ⟨fuel, hf⟩ := h1
    obtain ⟨a', l', c', zs, he, hr⟩ := ints_of_trod Try.underlying26 Try.underlying2 (by kernel_rfl) (show DataW.trod enc Try.prog W 0 (fun _ => true) true fuel 26 [.slice a1 len1 cap1] = _ from hf)
    simp only [Value.slice.injEq] at he
    obtain ⟨rfl, rfl, rfl⟩ := he
    exact ⟨zs, hr⟩
  clear hA0 hval0
  refine (walk a0 len0 cap0 z0 a1 len1 cap1 z1 W w0 w1).mono fun e W' ⟨he, bel⟩ => ?_
  subst he
  exact ⟨_, rfl, _, _, _, [], _, [], hW', trodAll_mk1 (shut_bool Try.underlying4 _), (trodAll_cons_mk (Below.trod laidOut (by kernel_rfl) (of_decide_eq_true (by kernel_rfl)) k0 bel lt0) (trodAll_cons_mk (Below.trod laidOut (by kernel_rfl) (of_decide_eq_true (by kernel_rfl)) k1 bel lt1) trodAll_mk0)), rfl, bel.frame _, fun h => by cases h⟩

theorem over : Rows.bandRisesRow.holds Try.pinned (OpenSpec.ofChange Rows.bandRisesSpec) :=
  OpenClaim.holds_of_wide 7 Try.f7 rfl rfl rfl rfl rfl rfl rfl ⟨rfl, rfl, rfl, rfl, rfl⟩ rfl rfl rfl rfl rfl (by kernel_rfl) Try.func7 (by kernel_rfl)
    (of_decide_eq_true (by kernel_rfl)) (by unfold Func.isWrapper; first | (rw [if_pos (by decide +kernel)]; kernel_rfl) | (rw [if_neg (by decide +kernel)]; exact ⟨rfl, rfl⟩))
    (fun os started H enc _ => lifted os started H enc)

theorem proved : Rows.BandRisesSaid := over
#print axioms proved
end Go.Proofs.Ytpmpdikabdaagaa.bandRises
