/- The Go function of the statement AllocSilent returns true at every input, and leaves each argument as it read. No condition. -/
import Derived.Test.YtlpjkahppogkiaaKl
import Derived.ProofKit
import Derived.OpenShut
import Derived.ShutString
import Derived.ChangeOld
import Derived.Lib.SmallJoins
namespace Go.Proofs.Ytlpjkahppogkiaa.allocSilent
open Go.ChangeShapes Go.WideShapes Go.ChangeAt Go.RowKit Go.Joins
set_option linter.unusedVariables false
set_option linter.unusedSimpArgs false

theorem own : ownKnob Try.prog.godebug = none := by kernel_rfl
theorem laidOut : laidOutB Try.prog = true := by kernel_rfl

/-- No gains, and no pulses. -/
def zz : List Int := [0, 0, 0, 0, 0]
theorem zz_len : zz.length = 5 := rfl
theorem zz_gok : gokB zz = true := by decide
theorem zz_row (m : Nat) (i : Nat) (hi : i < m) : ((List.range m).map fun _ => zz).getD i [] = zz := by rw [List.getD_eq_getElem?_getD]; simp [hi]
theorem zz_pul (room : Int) (m : Nat) : (List.range m).map (pul room ((List.range m).map fun _ => zz)) = (List.range m).map fun _ => zz := by
  apply List.map_congr_left
  intro i hi
  have hi : i < m := List.mem_range.1 hi
  unfold pul
  rw [zz_row m i hi, chan_silent (g := zz) (fun b hb => by
    have : b = 0 ∨ b = 1 ∨ b = 2 ∨ b = 3 ∨ b = 4 := by omega
    rcases this with rfl | rfl | rfl | rfl | rfl <;> rfl)]
  rfl
theorem zz_fair (c : Int) (m : Nat) (h : (m : Int) = c) : fairG c ((List.range m).map fun _ => zz) = true := by
  refine fair_iff.2 ⟨by simp; exact h, fun i hi => ?_⟩
  rw [zz_row m i (by simpa using hi)]
  exact zz_gok
set_option maxRecDepth 10000 in
set_option maxHeartbeats 4000000 in
theorem walk (a0 : Int) (a1 : Int) (w : World) (w0 : (Lit.int .i64 a0).wf = true) (w1 : (Lit.int .i64 a1).wf = true) :
    Calls Try.prog 8 #[.int .i64 a0, .int .i64 a1] w fun e w' => e = .returned (.bool true) ∧ Below w.heap.size w w' := by
  obtain ⟨i0, hi, hz0, hz1, hz2⟩ := info_parts info_row
  have hr := fun w => rsright_any a0 a1 w
  obtain ⟨m, hm⟩ : ∃ m : Nat, m = (if a1 ≤ 0 then 0 else if a1 = 1 then 1 else 2) := ⟨_, rfl⟩
  have hm2 : m ≤ 2 := by rw [hm]; split; omega; split <;> omega
  have HLT : Hid (∀ i : Nat, i < m → (i : Int) < a1 ∧ (i : Int) < 2) := fun i hi => by
    rw [hm] at hi
    split at hi
    · omega
    · split at hi <;> omega
  have HGE : Hid ((decide ((m : Int) < a1) && decide ((m : Int) < 2)) = false) := by
    unfold Hid
    rw [Bool.and_eq_false_iff, decide_eq_false_iff_not, decide_eq_false_iff_not]
    rw [hm]
    split
    · left; simp; omega
    · split
      · left; simp; omega
      · right; simp
  have HEQ : Hid (rtB a0 a1 = true → (m : Int) = a1) := fun h => by
    rcases rt_parts h with h | h
    · rw [hm, h.1]; simp
    · rw [hm, h.1]; simp
  clear hm w0 w1
  go_enter Try.func8, Try.ntmps8
  go_wp2
  go_loopw [5, 6] (fun u p wr => ∃ (i : Nat) (vs : List Value) (oa : Option Addr) (oc : Nat), i ≤ m ∧ p = .int .i64 i ∧ u = .slice oa i oc ∧ Hid (Fo 34 w.heap.size wr (.slice oa i oc) i vs fun _ => zz) ∧ Hid (Below w.heap.size w wr)) (fun _ p _ => m - (intOf p).toNat)
  case atStart => exact ⟨0, [], none, 0, by omega, rfl, rfl, Fo.nil _ _ _, Below.refl _ _⟩
  case round =>
    obtain ⟨i, vs, oa, oc, hi2, rfl, rfl, HFO, HBW⟩ := hrel
    by_cases hlt : i < m
    · obtain ⟨q1, q2⟩ := HLT.out i hlt
      have k1 : decide ((i : Int) < a1) = true := decide_eq_true q1
      have k2 : decide ((i : Int) < 2) = true := decide_eq_true q2
      have m1 : i + 1 ≤ maxLen := by unfold maxLen; omega
      have m2 : (i + 1) * 24 ≤ 140737488355328 := by omega
      have z1 := HBW.out.size
      have hy1 := below1 wr (.cells #[.int .i64 0, .int .i64 0, .int .i64 0, .int .i64 0, .int .i64 0] 3)
      have hfoN := owns_below HFO.out.1 hy1
      have HR : Hid (RwF wr.heap.size .i64 (wr.alloc (.cells #[.int .i64 0, .int .i64 0, .int .i64 0, .int .i64 0, .int .i64 0] 3)) (.slice (some ⟨wr.heap.size, 0, none⟩) 5 5) zz) := by
        have h := lit5 wr 0 0 0 0 0 3
        exact ⟨_, 5, rfl, .inr ⟨wr.heap.size, 0, rfl, Nat.le_refl _, h.lt, fun q hq => by rw [Nat.zero_add]; exact h.cell q hq⟩⟩
      clear q1 q2
      go_wp2_with (at_builtin; refine wpList_append_lies _ rfl _ _ 25 rfl w.heap.size 34 i0 (.slice none 0 0) 1 24 Try.underlying25 hi hz0 hz1 hz2 rfl (by decide) _ _ _ rfl (hfoN.alloc _) ⟨wr.heap.size + 1, 0, none⟩ 1 1 [.slice (some ⟨wr.heap.size, 0, none⟩) 5 5] rfl rfl (cell_one_at (by simp) _ _) (one_slice _ _ _) (by decide) m1 m2 (by simp; omega) (wr.heap.size + 1 + 1) (by simp) ?_)
      intro g3 c3 w3 hown3 hgrow3 hat3 hlt3
      have HF3 := hid (HFO.out.push hy1 HR.out hown3 hgrow3 (by simpa using hat3))
      have HB3 : Hid (Below w.heap.size w w3) := ((bthen' HBW.out hy1).alloc (by simp; omega) _).grown hgrow3 (by simp; omega) (fun q hq => (hfoN.lt q hq).1)
      clear hown3 hgrow3 hat3 hlt3 hfoN
      go_wp2
      exact ⟨⟨i + 1, _, _, _, by omega, by go_num, rfl, HF3, HB3⟩, by simp [intOf]; omega⟩
    · obtain rfl : i = m := by omega
      have hfr := HFO.out.fr
      have hlenL : ((List.range i).map fun _ => zz).length = i := by simp
      have hge := HGE.out
      by_cases hrt : rtB a0 a1 = true
      · obtain rfl := HEQ.out hrt
        have hp := pulses_ok a0 i oa oc _ wr hfr hrt (zz_fair _ i rfl)
        rw [zz_pul] at hp
        have HSR : Hid (∀ j, j < ((List.range i).map fun _ => zz).length → (((List.range i).map fun _ => zz).getD j []).length ≤ 100) := fun j hj => by
          rw [zz_row i j (by simpa using hj), zz_len]; omega
        have HLL : Hid (((List.range i).map fun _ => zz).length ≤ 500) := by unfold Hid; rw [hlenL]; omega
        generalize (List.range i).map (fun _ => zz) = K at *
        rw [hrt] at hr
        have HFR := hid hfr
        clear hrt hlt HLT HFO hfr hlenL HEQ HGE
        have k1 : decide ((i : Int) < (i : Int)) = false := decide_eq_false (by omega)
        clear hge
        go_wp2_with (first | (go_at_call 15; refine hp.mono ?_; rintro e y1 ⟨G, rfl, hfr1, hb1⟩) | (go_at_call 10; refine (hr _).mono ?_; rintro e w9 ⟨rfl, h9⟩; have h9 := h9.symm; subst h9) | (go_at_call 17; refine (sameG_yes _ _ _ _ _ y1 hfr1 (HFR.out.below hb1) HLL.out HSR.out).mono ?_; rintro e y2 ⟨rfl, hb2⟩) | (go_at_call 13; refine (knows_any _).mono ?_; rintro e wk ⟨rfl, hbk⟩))
        go_ret
        exact ⟨rfl, bthen' (bthen' HBW.out hb1) (bthen' hb2 hbk)⟩
      · have hrt : rtB a0 a1 = false := by simpa using hrt
        have hp := pulses_no a0 a1 oa i oc _ wr hlenL (by omega) hfr (by rw [hrt]; rfl)
        rw [hrt] at hr
        clear hrt hlt HLT HFO hfr hlenL HEQ HGE
        by_cases h1 : (i : Int) < a1
        · have h2 : ¬ ((i : Int) < 2) := fun h => by rw [decide_eq_true h1, decide_eq_true h] at hge; cases hge
          have k1 : decide ((i : Int) < a1) = true := decide_eq_true h1
          have k2 : decide ((i : Int) < 2) = false := decide_eq_false h2
          clear hge h2
          go_wp2_with (first | (go_at_call 15; refine (hp).mono ?_; rintro e w9 ⟨rfl, h9⟩; have h9 := h9.symm; subst h9) | (go_at_call 10; refine (hr _).mono ?_; rintro e w9 ⟨rfl, h9⟩; have h9 := h9.symm; subst h9) | (go_at_call 13; refine (knows_any _).mono ?_; rintro e wk ⟨rfl, hbk⟩))
          go_ret
          exact ⟨rfl, bthen' HBW.out hbk⟩
        · have k1 : decide ((i : Int) < a1) = false := decide_eq_false h1
          clear hge h1
          go_wp2_with (first | (go_at_call 15; refine (hp).mono ?_; rintro e w9 ⟨rfl, h9⟩; have h9 := h9.symm; subst h9) | (go_at_call 10; refine (hr _).mono ?_; rintro e w9 ⟨rfl, h9⟩; have h9 := h9.symm; subst h9) | (go_at_call 13; refine (knows_any _).mono ?_; rintro e wk ⟨rfl, hbk⟩))
          go_ret
          exact ⟨rfl, bthen' HBW.out hbk⟩


set_option maxRecDepth 100000 in
theorem lifted (os : Os) (started : os.Started) (H : Type) (enc : TypeId × Value → H) :
    ReturnsInHanded {} Try.checked os 8 .any (Rows.allocSilentSpec.pre6 enc Try.prog Try.f8 Rows.allocSilentRow.domain false) (Rows.allocSilentSpec.post enc Try.prog Try.f8 false true false false) := by
  refine returnsInHanded_of_change (C := Try.checked) own started (by kernel_rfl) Try.func8
    (ChangeSpec.witness6 (enc := enc) (C := Try.checked) false ⟨#[], #[.int .i64 0, .int .i64 0], []⟩ 8 (by kernel_rfl) (by kernel_rfl) (by kernel_rfl) (by kernel_rfl)) ?_
  intro W base args ds gs before hval0 hW hcnd _
  have hval : ∀ (j : Nat) t v, Try.f8.params[j]? = some t → args[j]? = some v → Value.okWide Try.prog W .any base t v := hval0
  have hW' := hW
  obtain ⟨p, q, hA0, hV, rfl, hfz, hnd⟩ := hW
  have hA : DataW.TrodAll enc Try.prog W 0 (fun _ => true) true Try.f8.params.toList args.toList ds p := hA0
  rw [Try.params8] at hA hval
  obtain ⟨v0, vs0, d0, ds0, p0, q0, hargs, rfl, rfl, h0, r0⟩ := trodAll_cons hA
  obtain ⟨v1, vs1, d1, ds1, p1, q1, rfl, rfl, rfl, h1, r1⟩ := trodAll_cons r0
  obtain ⟨rfl, rfl, rfl⟩ := trodAll_nil r1
  obtain rfl : args = #[v0, v1] := by cases args; simp_all
  obtain ⟨rfl, rfl⟩ := trodVars_none hV
  obtain ⟨a0, rfl, rfl, rfl, w0⟩ := open_int Try.underlying3 (hval 0 3 v0 rfl rfl) h0
  obtain ⟨a1, rfl, rfl, rfl, w1⟩ := open_int Try.underlying3 (hval 1 3 v1 rfl rfl) h1
  clear hA0 hval0
  refine (walk a0 a1 W w0 w1).mono fun e W' ⟨he, bel⟩ => ?_
  subst he
  exact ⟨_, rfl, _, _, _, [], _, [], hW', trodAll_mk1 (shut_bool Try.underlying4 _), (trodAll_cons_mk (shut_int Try.underlying3 w0) (trodAll_cons_mk (shut_int Try.underlying3 w1) trodAll_mk0)), rfl, bel.frame _, fun h => by cases h⟩

theorem over : Rows.allocSilentRow.holds Try.pinned (OpenSpec.ofChange Rows.allocSilentSpec) :=
  OpenClaim.holds_of_wide 8 Try.f8 rfl rfl rfl rfl rfl rfl rfl ⟨rfl, rfl, rfl, rfl, rfl⟩ rfl rfl rfl rfl rfl (by kernel_rfl) Try.func8 (by kernel_rfl)
    (of_decide_eq_true (by kernel_rfl)) (by unfold Func.isWrapper; first | (rw [if_pos (by decide +kernel)]; kernel_rfl) | (rw [if_neg (by decide +kernel)]; exact ⟨rfl, rfl⟩))
    (fun os started H enc _ => lifted os started H enc)

theorem proved : Rows.AllocSilentSaid := over
#print axioms proved
end Go.Proofs.Ytlpjkahppogkiaa.allocSilent
