/- The Go function of the statement CombOrders returns true at every input, and leaves each argument as it read. No condition. -/
import Derived.Test.YtfaoiophphofjaaEm
import Derived.Deep.RegionWith
import Derived.Deep.CutRange
import Derived.Deep.DeepCutAuto
import Derived.BigQuiet
import Derived.ProofKit
import Derived.OpenShut
import Derived.ShutString
import Derived.ChangeOld
import Derived.Lib.SmallJoins
namespace Go.Proofs.Ytfaoiophphofjaa.combOrders
open Go.ChangeShapes Go.WideShapes Go.ChangeAt Go.RowKit Go.Joins
set_option linter.unusedVariables false
set_option linter.unusedSimpArgs false

theorem own : ownKnob Try.prog.godebug = none := by kernel_rfl
theorem laidOut : laidOutB Try.prog = true := by kernel_rfl

set_option maxRecDepth 10000 in
set_option maxHeartbeats 4000000 in
theorem walk (a0 : Int) (a1 : Int) (a2 : Int) (a3 : Int) (w : World) (w0 : (Lit.int .i64 a0).wf = true) (w1 : (Lit.int .i64 a1).wf = true) (w2 : (Lit.int .u64 a2).wf = true) (w3 : (Lit.int .u64 a3).wf = true) :
    Calls Try.prog 9 #[.int .i64 a0, .int .i64 a1, .int .u64 a2, .int .u64 a3] w fun e w' => e = .returned (.bool true) ∧ Below w.heap.size w w' := by
  obtain ⟨i, rfl, hi64⟩ := u64_nat w2
  obtain ⟨m, rfl, hm64⟩ := u64_nat w3
  clear w2 w3
  cases hfair : fairB a0 a1
  · go_enter Try.func9, Try.ntmps9
    go_wp2_with (first | (go_at_call 12; refine (fair_any _ _ _).mono ?_; rw [hfair]; rintro e wf ⟨rfl, hwf⟩; have hwf := hwf.symm; subst hwf) | (go_at_call 13; refine (knows_any _).mono ?_; rintro e w9 ⟨rfl, hb9⟩))
    go_ret
    exact ⟨rfl, hb9⟩
  obtain ⟨f1, f2, f3, f4⟩ : 1 ≤ a0 ∧ a0 ≤ 16 ∧ 0 ≤ a1 ∧ a1 ≤ 12 := of_decide_eq_true hfair
  obtain ⟨n, rfl⟩ := Int.eq_ofNat_of_zero_le (show 0 ≤ a0 by omega)
  obtain ⟨k, rfl⟩ := Int.eq_ofNat_of_zero_le f3
  have n1 : 1 ≤ n := by omega
  have n2 : n ≤ 16 := by omega
  have n3 : k ≤ 12 := by omega
  clear f1 f2 f3 f4 w0 w1
  by_cases him : m ≤ i
  · have i1 : (m : Int) ≤ (i : Int) := by omega
    go_enter Try.func9, Try.ntmps9
    go_wp2_with (first | (go_at_call 12; refine (fair_any _ _ _).mono ?_; rw [hfair]; rintro e wf ⟨rfl, hwf⟩; have hwf := hwf.symm; subst hwf) | (go_at_call 13; refine (knows_any _).mono ?_; rintro e w9 ⟨rfl, hb9⟩))
    go_ret
    exact ⟨rfl, hb9⟩
  have i1 : ¬ ((m : Int) ≤ (i : Int)) := by omega
  have hC2 := fun w => rcount_any n k w n2 n3
  by_cases hmV : V n k ≤ m
  · generalize V n k = Y at *
    have i2 : (Y : Int) ≤ (m : Int) := by omega
    go_enter Try.func9, Try.ntmps9
    go_wp2_with (first | (go_at_call 12; refine (fair_any _ _ _).mono ?_; rw [hfair]; rintro e wf ⟨rfl, hwf⟩; have hwf := hwf.symm; subst hwf) | (go_at_call 14; refine (hC2 _).mono ?_; rintro e w4 ⟨rfl, hb4⟩) | (go_at_call 13; refine (knows_any _).mono ?_; rintro e w9 ⟨rfl, hb9⟩))
    go_ret
    exact ⟨rfl, bthen' hb4 hb9⟩
  have hVi := fun w => vector_ok n k i w n1 n2 n3 (by omega)
  have hVm := fun w => vector_ok n k m w n1 n2 n3 (by omega)
  have HIM : Hid (i < m) := by unfold Hid; omega
  generalize V n k = Y at *
  have i2 : ¬ ((Y : Int) ≤ (m : Int)) := by omega
  go_enter Try.func9, Try.ntmps9
  go_wp2_with (first | (go_at_call 12; refine (fair_any _ _ _).mono ?_; rw [hfair]; rintro e wf ⟨rfl, hwf⟩; have hwf := hwf.symm; subst hwf) | (go_at_call 14; refine (hC2 _).mono ?_; rintro e w4 ⟨rfl, hb4⟩) | (go_at_call_of 19 (Value.int .u64 (i : Int)); refine (hVi _).mono ?_; rintro e w5 ⟨g, ys, rfl, hrow, y1, y2, y3, hb5⟩; have HY : Hid (ys.length = n ∧ ps ys = k ∧ ix n k ys = i) := ⟨y1, y2, y3⟩; have hry := hrow.rw; clear y1 y2 y3 hrow) | (go_at_call_of 19 (Value.int .u64 (m : Int)); refine (hVm _).mono ?_; rintro e w6 ⟨h, zs, rfl, hrow, y1, y2, y3, hb6⟩; have HZ : Hid (zs.length = n ∧ ps zs = k ∧ ix n k zs = m) := ⟨y1, y2, y3⟩; have hrz := hrow.rw; clear y1 y2 y3 hrow))
  obtain ⟨J, hJn, hJe, hJl⟩ := ix_order (n := n) (k := k) HY.out.1 HZ.out.1 HY.out.2.1 HZ.out.2.1 (by rw [HY.out.2.2, HZ.out.2.2]; exact HIM.out)
  obtain ⟨g1, gc⟩ := rw_cells (hry.below hb6) (by omega)
  obtain ⟨z1, zc⟩ := rw_cells hrz (by omega)
  have HE : Hid (∀ i, i < J → ys.getD i 0 = zs.getD i 0) := hJe
  have HG : Hid (∀ j, j < n → w6.cell? ⟨g, j, none⟩ = some (.int .i64 (ys.getD j 0))) := gc
  have HH : Hid (∀ j, j < n → w6.cell? ⟨h, j, none⟩ = some (.int .i64 (zs.getD j 0))) := zc
  have hbA := bthen' hb4 (bthen' hb5 hb6)
  have hyb : (ys.getD J 0).natAbs ≤ 12 := by have := ps_at ys J (by rw [HY.out.1]; exact hJn); have := HY.out.2.1; omega
  have hzb : (zs.getD J 0).natAbs ≤ 12 := by have := ps_at zs J (by rw [HZ.out.1]; exact hJn); have := HZ.out.2.1; omega
  clear hJe gc zc hVi hVm hC2 hry hrz HIM him hmV i1 i2 hi64 hm64 hfair hwf
  go_loopw [13] (fun c wr => ∃ j : Nat, j ≤ J ∧ c = .int .i64 j ∧ Below w6.heap.size w6 wr) (fun c _ => J + 1 - (intOf c).toNat)
  case atStart => exact ⟨0, by omega, rfl, Below.refl _ _⟩
  case round =>
    obtain ⟨j, hj, rfl, hbr⟩ := hrel
    have gy := (hbr.cell (p := ⟨g, j, none⟩) g1).trans (HG.out j (by omega))
    have gz := (hbr.cell (p := ⟨h, j, none⟩) z1).trans (HH.out j (by omega))
    have c1 : (0 : Int) ≤ (j : Int) := by omega
    have c2 : (j : Int) < (n : Int) := by omega
    have c3 : IntKind.i64.wrap (j : Int) = j := wraps_i64 _ (by omega) (by omega)
    by_cases hlt : j < J
    · rw [HE.out j hlt] at gy
      generalize zs.getD j 0 = x at *
      clear HE HG HH
      go_wp2
      go_quiet (fail)
      go_wp2
      exact ⟨⟨j + 1, by omega, by go_num, drewN_below hbr _⟩, by simp [intOf]; omega⟩
    · have hje : j = J := by omega
      subst hje
      generalize ys.getD j 0 = x at *
      generalize zs.getD j 0 = z at *
      have hne : (x != z) = true := by
        simp only [bne_iff_ne, ne_eq]
        intro e
        rw [e] at hJl
        omega
      have hd : decide ((plc x : Int) < (plc z : Int)) = true := by simp; omega
      have hd2 : (plc x : Int) < (plc z : Int) := by omega
      clear HE HG HH hlt HY HZ
      go_wp2
      go_quiet (fail)
      go_wp2
      have hbq := drewN_below hbr nq
      have gy2 : (wr.drewN nq).cell? ⟨g, j, none⟩ = some (.int .i64 x) := by simpa using gy
      have gz2 : (wr.drewN nq).cell? ⟨h, j, none⟩ = some (.int .i64 z) := by simpa using gz
      generalize wr.drewN nq = W at *
      clear gy gz hbr
      first | (go_region_with (first | (go_at_call 22; refine (place_any _ _ (by omega) (by omega)).mono ?_; rintro e y1 ⟨rfl, hy1⟩; have hy1 := hy1.symm; subst hy1) | (go_at_call 13; refine (knows_any _).mono ?_; rintro e w9 ⟨rfl, hb9⟩))) | fail
      all_goals go_wp2
      all_goals go_ret
      all_goals exact ⟨rfl, bthen' (bthen' hbA hbq) (drew_below hb9)⟩


set_option maxRecDepth 100000 in
theorem lifted (os : Os) (started : os.Started) (H : Type) (enc : TypeId × Value → H) :
    ReturnsInHanded {} Try.checked os 9 .any (Rows.combOrdersSpec.pre6 enc Try.prog Try.f9 Rows.combOrdersRow.domain false) (Rows.combOrdersSpec.post enc Try.prog Try.f9 false true false false) := by
  refine returnsInHanded_of_change (C := Try.checked) own started (by kernel_rfl) Try.func9
    (ChangeSpec.witness6 (enc := enc) (C := Try.checked) false ⟨#[], #[.int .i64 0, .int .i64 0, .int .u64 0, .int .u64 0], []⟩ 8 (by kernel_rfl) (by kernel_rfl) (by kernel_rfl) (by kernel_rfl)) ?_
  intro W base args ds gs before hval0 hW hcnd _
  have hval : ∀ (j : Nat) t v, Try.f9.params[j]? = some t → args[j]? = some v → Value.okWide Try.prog W .any base t v := hval0
  have hW' := hW
  obtain ⟨p, q, hA0, hV, rfl, hfz, hnd⟩ := hW
  have hA : DataW.TrodAll enc Try.prog W 0 (fun _ => true) true Try.f9.params.toList args.toList ds p := hA0
  rw [Try.params9] at hA hval
  obtain ⟨v0, vs0, d0, ds0, p0, q0, hargs, rfl, rfl, h0, r0⟩ := trodAll_cons hA
  obtain ⟨v1, vs1, d1, ds1, p1, q1, rfl, rfl, rfl, h1, r1⟩ := trodAll_cons r0
  obtain ⟨v2, vs2, d2, ds2, p2, q2, rfl, rfl, rfl, h2, r2⟩ := trodAll_cons r1
  obtain ⟨v3, vs3, d3, ds3, p3, q3, rfl, rfl, rfl, h3, r3⟩ := trodAll_cons r2
  obtain ⟨rfl, rfl, rfl⟩ := trodAll_nil r3
  obtain rfl : args = #[v0, v1, v2, v3] := by cases args; simp_all
  obtain ⟨rfl, rfl⟩ := trodVars_none hV
  obtain ⟨a0, rfl, rfl, rfl, w0⟩ := open_int Try.underlying3 (hval 0 3 v0 rfl rfl) h0
  obtain ⟨a1, rfl, rfl, rfl, w1⟩ := open_int Try.underlying3 (hval 1 3 v1 rfl rfl) h1
  obtain ⟨a2, rfl, rfl, rfl, w2⟩ := open_int Try.underlying22 (hval 2 22 v2 rfl rfl) h2
  obtain ⟨a3, rfl, rfl, rfl, w3⟩ := open_int Try.underlying22 (hval 3 22 v3 rfl rfl) h3
  clear hA0 hval0
  refine (walk a0 a1 a2 a3 W w0 w1 w2 w3).mono fun e W' ⟨he, bel⟩ => ?_
  subst he
  exact ⟨_, rfl, _, _, _, [], _, [], hW', trodAll_mk1 (shut_bool Try.underlying4 _), (trodAll_cons_mk (shut_int Try.underlying3 w0) (trodAll_cons_mk (shut_int Try.underlying3 w1) (trodAll_cons_mk (shut_int Try.underlying22 w2) (trodAll_cons_mk (shut_int Try.underlying22 w3) trodAll_mk0)))), rfl, bel.frame _, fun h => by cases h⟩

theorem over : Rows.combOrdersRow.holds Try.pinned (OpenSpec.ofChange Rows.combOrdersSpec) :=
  OpenClaim.holds_of_wide 9 Try.f9 rfl rfl rfl rfl rfl rfl rfl ⟨rfl, rfl, rfl, rfl, rfl⟩ rfl rfl rfl rfl rfl (by kernel_rfl) Try.func9 (by kernel_rfl)
    (of_decide_eq_true (by kernel_rfl)) (by unfold Func.isWrapper; first | (rw [if_pos (by decide +kernel)]; kernel_rfl) | (rw [if_neg (by decide +kernel)]; exact ⟨rfl, rfl⟩))
    (fun os started H enc _ => lifted os started H enc)

theorem proved : Rows.CombOrdersSaid := over
#print axioms proved
end Go.Proofs.Ytfaoiophphofjaa.combOrders
