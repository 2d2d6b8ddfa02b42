/- Contracts of the pulses of a vector, by the program and by the document; Index by the program. -/
import Derived.Test.YtiiiejhdeooabaaEd
namespace Go.Proofs.Ytiiiejhdeooabaa
open Go.RowKit
set_option linter.unusedVariables false
set_option linter.unusedSimpArgs false

theorem okB_false_at {y : List Int} {j : Nat} (hj : j < y.length) (h : 12 < (y.getD j 0).natAbs) : okB y = false := by
  unfold okB
  rw [decide_eq_false_iff_not]
  have := ps_at y j hj
  omega
theorem okB_len {y : List Int} (h1 : 1 ≤ y.length) (h2 : y.length ≤ 16) : okB y = decide ((ps y : Int) ≤ 12) := by
  unfold okB
  rw [Bool.eq_iff_iff, decide_eq_true_eq, decide_eq_true_eq]
  omega
theorem okB_parts {y : List Int} (h : okB y = true) : 1 ≤ y.length ∧ y.length ≤ 16 ∧ ps y ≤ 12 := of_decide_eq_true h
theorem ret_pair {a b : Int} {c d : Bool} (h : a = b) (h' : c = d) : Ending.returned (.tuple #[.int .i64 a, .bool c]) = .returned (.tuple #[.int .i64 b, .bool d]) := by rw [h, h']
/-- What pulses tells. -/
def PsPost (y : List Int) (e : Ending) : Prop := ∃ s : Int, e = .returned (.tuple #[.int .i64 s, .bool (okB y)]) ∧ (okB y = true → s = (ps y : Int))

set_option maxHeartbeats 1000000 in
theorem pulses_any (v : Value) (y : List Int) (w : World) (hv : Rw .i64 w v y) (hf : Fits y) : Calls Try.prog 37 #[v] w fun e w' => PsPost y e ∧ w' = w := by
  obtain ⟨a, cap, rfl, ha⟩ := hv
  by_cases h1 : y.length < 1
  · have HO : Hid (okB y = false) := by unfold Hid okB; rw [decide_eq_false_iff_not]; omega
    go_enter Try.func37, Try.ntmps37
    go_wp2
    go_ret2
    exact ⟨⟨0, ret_pair rfl HO.out.symm, fun h => by rw [HO.out] at h; cases h⟩, rfl⟩
  by_cases h2 : 16 < y.length
  · have HO : Hid (okB y = false) := by unfold Hid okB; rw [decide_eq_false_iff_not]; omega
    have i1 : (16 : Int) < (y.length : Int) := by omega
    go_enter Try.func37, Try.ntmps37
    go_wp2
    go_ret2
    exact ⟨⟨0, ret_pair rfl HO.out.symm, fun h => by rw [HO.out] at h; cases h⟩, rfl⟩
  have i1 : (y.length : Int) ≤ 16 := by omega
  obtain ⟨b, off, rfl, hlt, hc⟩ := ha.resolve_left (by intro h; subst h; simp at h1)
  clear ha
  have HC : Hid (∀ i, i < y.length → w.cell? ⟨b, off + i, none⟩ = some (.int .i64 (y.getD i 0))) := hc
  clear hc
  go_enter Try.func37, Try.ntmps37
  go_wp2
  go_loop [4, 17] (fun s i => ∃ j : Nat, j ≤ y.length ∧ i = .int .i64 j ∧ s = .int .i64 (ps (y.take j) : Nat) ∧ ps (y.take j) ≤ 12 * j) (fun _ i => y.length - (intOf i).toNat)
  case atStart => exact ⟨0, by omega, rfl, rfl, by simp [ps]⟩
  case round =>
    obtain ⟨j, hj, rfl, rfl, hps⟩ := hrel
    by_cases hl : j < y.length
    · have g := HC.out j hl
      have hx := hf j
      have HN : Hid _ := ps_next y j hl
      by_cases hx12 : (y.getD j 0).natAbs ≤ 12
      · generalize y.getD j 0 = x at *
        have hx1 : -12 ≤ x := by omega
        have hx2 : x ≤ 12 := by omega
        have hsz := fun w => size_any x w (by omega) (by omega)
        have HA : Hid (x.natAbs ≤ 12) := hx12
        obtain ⟨z, hz⟩ : ∃ z : Nat, x.natAbs = z := ⟨_, rfl⟩
        rw [hz] at hsz HN HA
        have hz12 := HA.out
        clear hx12 hz
        generalize ps (y.take j) = s at *
        go_wp2_with (go_at_call 40; refine (hsz _).mono ?_; rintro e w' ⟨rfl, rfl⟩)
        exact ⟨⟨j + 1, by omega, by go_num, by rw [HN.out]; go_num, by rw [HN.out]; omega⟩, by simp [intOf]; omega⟩
      · have HO : Hid (okB y = false) := okB_false_at hl (by omega)
        generalize y.getD j 0 = x at *
        clear HN
        by_cases hneg : x < -12
        · clear hx12
          go_wp2_with fail
          go_ret2
          exact ⟨⟨0, ret_pair rfl HO.out.symm, fun h => by rw [HO.out] at h; cases h⟩, rfl⟩
        · have hpos : 12 < x := by omega
          clear hx12
          go_wp2_with fail
          go_ret2
          exact ⟨⟨0, ret_pair rfl HO.out.symm, fun h => by rw [HO.out] at h; cases h⟩, rfl⟩
    · have hje : j = y.length := by omega
      have HO : Hid (okB y = decide ((ps (y.take j) : Int) ≤ 12)) := by
        unfold Hid
        rw [hje, List.take_length, okB_len (by omega) (by omega)]
      have HP : Hid (ps y = ps (y.take j)) := by unfold Hid; rw [hje, List.take_length]
      generalize ps (y.take j) = s at *
      clear hje
      by_cases h12 : (s : Int) ≤ 12
      · go_wp2_with fail
        go_ret2
        exact ⟨⟨s, ret_pair rfl (by rw [HO.out]; simpa using h12), fun _ => by rw [HP.out]⟩, rfl⟩
      · go_wp2_with fail
        go_ret2
        exact ⟨⟨s, ret_pair rfl (by rw [HO.out]; simpa using h12), fun _ => by rw [HP.out]⟩, rfl⟩
end Go.Proofs.Ytiiiejhdeooabaa
