/- The Go function of the statement WaveLevel returns true at every input, and leaves each argument as it read. No condition. -/
import Derived.Test.YteboljbflcmglaaGh
import Derived.ProofKit
import Derived.OpenShut
import Derived.ShutString
import Derived.ChangeOld
import Derived.Lib.SmallJoins
namespace Go.Proofs.Yteboljbflcmglaa.waveLevel
open Go.ChangeShapes Go.WideShapes Go.ChangeAt Go.RowKit Go.Joins
set_option linter.unusedVariables false
set_option linter.unusedSimpArgs false

theorem own : ownKnob Try.prog.godebug = none := by kernel_rfl
theorem laidOut : laidOutB Try.prog = true := by kernel_rfl

set_option maxRecDepth 10000 in
set_option maxHeartbeats 2000000 in
theorem walk (a0 : Int) (a1 : Int) (w : World) (w0 : (Lit.int .i64 a0).wf = true) (w1 : (Lit.int .i64 a1).wf = true) :
    Calls Try.prog 7 #[.int .i64 a0, .int .i64 a1] w fun e w' => e = .returned (.bool true) ∧ Below w.heap.size w w' := by
  have hv64 := i64_of w0
  have hn64 := i64_of w1
  unfold I64 at hv64 hn64
  obtain ⟨hv1, hv2⟩ := hv64
  obtain ⟨hn1, hn2⟩ := hn64
  clear w0 w1
  by_cases c1 : a0 < -16777216
  · go_enter Try.func7, Try.ntmps7
    go_wp2_with (first | (go_at_call 10; refine (knows_any _).mono ?_; rintro e w9 ⟨rfl, hb9⟩))
    go_ret
    exact ⟨rfl, hb9⟩
  by_cases c2 : 16777216 < a0
  · go_enter Try.func7, Try.ntmps7
    go_wp2_with (first | (go_at_call 10; refine (knows_any _).mono ?_; rintro e w9 ⟨rfl, hb9⟩))
    go_ret
    exact ⟨rfl, hb9⟩
  by_cases c3 : a1 < 1
  · go_enter Try.func7, Try.ntmps7
    go_wp2_with (first | (go_at_call 10; refine (knows_any _).mono ?_; rintro e w9 ⟨rfl, hb9⟩))
    go_ret
    exact ⟨rfl, hb9⟩
  by_cases c4 : 5 < a1
  · go_enter Try.func7, Try.ntmps7
    go_wp2_with (first | (go_at_call 10; refine (knows_any _).mono ?_; rintro e w9 ⟨rfl, hb9⟩))
    go_ret
    exact ⟨rfl, hb9⟩
  obtain ⟨n, rfl⟩ := Int.eq_ofNat_of_zero_le (show 0 ≤ a1 by omega)
  obtain ⟨k, rfl⟩ : ∃ k, n = k + 1 := ⟨n - 1, by omega⟩
  obtain ⟨i0, hi, hz0, hz1, hz2⟩ := info_parts info_i64
  have hk : k + 1 ≤ 5 := by omega
  have HPW : Hid (∀ j, j ≤ k + 1 → 0 < 2 ^ j ∧ 2 ^ j ≤ 32) := fun j hj => ⟨Nat.pow_pos (by decide), Nat.pow_le_pow_right (n := 2) (j := 5) (by decide) (by omega)⟩
  have HBD : Hid (∀ N, Bd (-16777216) 16777216 (tab N fun _ => a0)) := fun N j hj => by rw [tab_len] at hj; rw [tab_at _ _ _ hj]; omega
  have HC1 : Hid (∀ (v : Value) (w : World), Rw .i64 w v (tab (2 ^ (k + 1)) fun _ => a0) → Calls Try.prog 11 #[v] w fun e w' => ∃ g : Nat, e = .returned (.tuple #[.slice (some ⟨g, 0, none⟩) (2 ^ (k + 1)) (2 ^ (k + 1)), .int .i64 0]) ∧ w.heap.size ≤ g ∧ Blk .i64 2 w' g (tab (2 ^ (k + 1)) fun i => if i = 0 then a0 else 0) ∧ Below w.heap.size w w') := fun v w hv => by
    have h := forward_ok v (tab (2 ^ (k + 1)) fun _ => a0) k w hv hk (tab_len _ _) (HBD.out _) (fits_bd (HBD.out _) (by omega) (by omega))
    rw [tab_len, fw_level] at h
    exact h
  obtain ⟨n, hn⟩ : ∃ n, n = k + 1 := ⟨_, rfl⟩
  rw [← hn] at HC1 HPW hn1 hn2 hk c3 c4 ⊢
  clear hn
  have b1 : -16777216 ≤ a0 := by omega
  have b2 : a0 ≤ 16777216 := by omega
  have b3 : (1 : Int) ≤ (n : Int) := by omega
  have b4 : (n : Int) ≤ 5 := by omega
  clear hv1 hv2 hn1 hn2 c1 c2 c3 c4 HBD
  go_enter Try.func7, Try.ntmps7
  go_wp2
  go_loop [5, 6] (fun m i => ∃ j M : Nat, j ≤ n ∧ M = 2 ^ j ∧ i = .int .i64 j ∧ m = .int .i64 M) (fun _ i => n - (intOf i).toNat)
  case atStart => exact ⟨0, 1, by omega, rfl, rfl, rfl⟩
  case round =>
    obtain ⟨j, M, hj, hM, rfl, rfl⟩ := hrel
    have HM := hid hM
    obtain ⟨m1, m2⟩ := HPW.out j hj
    rw [← hM] at m1 m2
    clear hM
    by_cases hl : j < n
    · have m3 : (M : Int) ≤ 32 := by omega
      have m4 : (0 : Int) < (M : Int) := by omega
      go_wp2
      refine ⟨⟨j + 1, M * 2, by omega, by rw [HM.out, Nat.pow_succ], by go_num, by go_num⟩, by simp [intOf]; omega⟩
    · have hje : j = n := by omega
      have HN : Hid (2 ^ n = M) := by unfold Hid; rw [← hje]; exact HM.out.symm
      have HC2 := hid HC1.out
      rw [HN.out] at HC2
      clear hje HC1 HM HPW
      go_wp2
      go_loopw [7, 8] (fun o i wr => ∃ j : Nat, j ≤ M ∧ i = .int .i64 j ∧ wr.ownsRow w.heap.size 2 1 o j ((tab j fun _ => a0).map (Value.int .i64)) ∧ Below w.heap.size w wr) (fun _ i _ => M - (intOf i).toNat)
      case atStart => exact ⟨0, by omega, rfl, World.ownsRow_nil _ _ _ _, Below.refl _ _⟩
      case round =>
        obtain ⟨q, hq, rfl, hown, hbr⟩ := hrel
        have hsz := hbr.size
        by_cases hl2 : q < M
        · have HS : Hid ((tab (q + 1) fun _ => a0).map (Value.int .i64) = (tab q fun _ => a0).map (Value.int .i64) ++ [.int .i64 a0]) := by unfold Hid; rw [tab_push]; simp
          go_wp2_with (at_builtin; refine wpList_append_own _ rfl _ _ 22 rfl w.heap.size 2 i0 (.int .i64 0) 1 8 Try.underlying22 hi hz0 hz1 hz2 rfl (by decide) _ _ _ rfl (hown.alloc _) ⟨wr.heap.size, 0, none⟩ 1 1 [.int .i64 a0] rfl rfl (cell_one_at rfl _ _) (one_cell _ _) ?c3 ?c4 ?c5 ?_)
          case c3 => unfold maxLen; omega
          case c4 => omega
          case c5 => first | omega | (simp; omega)
          intro v' w2 hown' hgrow _
          have hb2 := bgrow hbr hown (Nat.le_refl _) hgrow
          go_wp2
          exact ⟨⟨q + 1, by omega, by go_num, by rw [HS.out]; exact hown', hb2⟩, by simp [intOf]; omega⟩
        · have hqe : q = M := by omega
          rw [hqe] at hown
          have R := hid (Rw.of_owns hown)
          have HBR := hid hbr
          clear hown hqe hbr
          go_wp2_with (first | (go_at_call 11; refine (HC2.out _ _ R.out).mono ?_; rintro e w3 ⟨g3, rfl, _, hk3, hb3⟩; have g0 := hk3.cell 0 (by rw [tab_len]; omega); rw [tab_at _ _ _ (by omega), if_pos rfl] at g0) | fail)
          have HK3 := hid hk3
          have HB3 := hid (bthen' HBR.out hb3)
          clear hk3 hb3 g0 R
          go_loop [11] (fun i => ∃ p : Nat, 1 ≤ p ∧ p ≤ M ∧ i = .int .i64 p) (fun i => M - (intOf i).toNat)
          case atStart => exact ⟨1, by omega, by omega, rfl⟩
          case round =>
            obtain ⟨p, hp1, hp2, rfl⟩ := hrel
            by_cases hl3 : p < M
            · have g1 := HK3.out.cell p (by rw [tab_len]; exact hl3)
              rw [tab_at _ _ _ hl3, if_neg (by omega)] at g1
              go_wp2
              exact ⟨⟨p + 1, by omega, by omega, by go_num⟩, by simp [intOf]; omega⟩
            · go_wp2_with (first | (go_at_call 10; refine (knows_any _).mono ?_; rintro e w9 ⟨rfl, hb9⟩))
              go_ret
              exact ⟨rfl, bthen' HB3.out hb9⟩


set_option maxRecDepth 100000 in
theorem lifted (os : Os) (started : os.Started) (H : Type) (enc : TypeId × Value → H) :
    ReturnsInHanded {} Try.checked os 7 .any (Rows.waveLevelSpec.pre6 enc Try.prog Try.f7 Rows.waveLevelRow.domain false) (Rows.waveLevelSpec.post enc Try.prog Try.f7 false true false false) := by
  refine returnsInHanded_of_change (C := Try.checked) own started (by kernel_rfl) Try.func7
    (ChangeSpec.witness6 (enc := enc) (C := Try.checked) false ⟨#[], #[.int .i64 0, .int .i64 0], []⟩ 8 (by kernel_rfl) (by kernel_rfl) (by kernel_rfl) (by kernel_rfl)) ?_
  intro W base args ds gs before hval0 hW hcnd _
  have hval : ∀ (j : Nat) t v, Try.f7.params[j]? = some t → args[j]? = some v → Value.okWide Try.prog W .any base t v := hval0
  have hW' := hW
  obtain ⟨p, q, hA0, hV, rfl, hfz, hnd⟩ := hW
  have hA : DataW.TrodAll enc Try.prog W 0 (fun _ => true) true Try.f7.params.toList args.toList ds p := hA0
  rw [Try.params7] at hA hval
  obtain ⟨v0, vs0, d0, ds0, p0, q0, hargs, rfl, rfl, h0, r0⟩ := trodAll_cons hA
  obtain ⟨v1, vs1, d1, ds1, p1, q1, rfl, rfl, rfl, h1, r1⟩ := trodAll_cons r0
  obtain ⟨rfl, rfl, rfl⟩ := trodAll_nil r1
  obtain rfl : args = #[v0, v1] := by cases args; simp_all
  obtain ⟨rfl, rfl⟩ := trodVars_none hV
  obtain ⟨a0, rfl, rfl, rfl, w0⟩ := open_int Try.underlying2 (hval 0 2 v0 rfl rfl) h0
  obtain ⟨a1, rfl, rfl, rfl, w1⟩ := open_int Try.underlying3 (hval 1 3 v1 rfl rfl) h1
  clear hA0 hval0
  refine (walk a0 a1 W w0 w1).mono fun e W' ⟨he, bel⟩ => ?_
  subst he
  exact ⟨_, rfl, _, _, _, [], _, [], hW', trodAll_mk1 (shut_bool Try.underlying4 _), (trodAll_cons_mk (shut_int Try.underlying2 w0) (trodAll_cons_mk (shut_int Try.underlying3 w1) trodAll_mk0)), rfl, bel.frame _, fun h => by cases h⟩

theorem over : Rows.waveLevelRow.holds Try.pinned (OpenSpec.ofChange Rows.waveLevelSpec) :=
  OpenClaim.holds_of_wide 7 Try.f7 rfl rfl rfl rfl rfl rfl rfl ⟨rfl, rfl, rfl, rfl, rfl⟩ rfl rfl rfl rfl rfl (by kernel_rfl) Try.func7 (by kernel_rfl)
    (of_decide_eq_true (by kernel_rfl)) (by unfold Func.isWrapper; first | (rw [if_pos (by decide +kernel)]; kernel_rfl) | (rw [if_neg (by decide +kernel)]; exact ⟨rfl, rfl⟩))
    (fun os started H enc _ => lifted os started H enc)

theorem proved : Rows.WaveLevelSaid := over
#print axioms proved
end Go.Proofs.Yteboljbflcmglaa.waveLevel
