/- Contract of the document's sizes. -/
import Derived.Test.YtiiiejhdeooabaaFc
namespace Go.Proofs.Ytiiiejhdeooabaa
open Go.RowKit
set_option linter.unusedVariables false
set_option linter.unusedSimpArgs false

/-- A row of the call's own, in a block g of its own. -/
def Own (t : TypeId) (base : Nat) (w : World) (g n cap : Nat) (xs : List Int) : Prop := w.ownsRow base t 1 (.slice (some ⟨g, 0, none⟩) n cap) n (xs.map (Value.int .i64))
theorem Own.cell {t : TypeId} {base g n cap : Nat} {w : World} {xs : List Int} (h : Own t base w g n cap xs) (i : Nat) (hi : i < n) : w.cell? ⟨g, i, none⟩ = some (.int .i64 (xs.getD i 0)) ∧ w.frozen? ⟨g, i, none⟩ = false ∧ base ≤ g ∧ g < w.heap.size := by
  obtain ⟨g', e, h1, h2, h3, h4⟩ := owns_at h i hi
  simp only [Option.some.injEq, Addr.mk.injEq] at e
  obtain ⟨rfl, _⟩ := e
  exact ⟨h3, h4, h1, h2⟩
theorem Own.set {t : TypeId} {base g n cap : Nat} {w : World} {xs : List Int} (h : Own t base w g n cap xs) (i : Nat) (y : Int) : Own t base (w.setCell ⟨g, i, none⟩ (.int .i64 y)) g n cap (xs.set i y) := owns_set h i y
theorem Own.rw {t : TypeId} {base g n cap : Nat} {w : World} {xs : List Int} (h : Own t base w g n cap xs) : Rw .i64 w (.slice (some ⟨g, 0, none⟩) n cap) xs := Rw.of_owns h

theorem top_next (x : List Int) (d j : Nat) : decide (262144 ≤ mx x (j + 1) / 2 ^ d) = (decide (262144 ≤ mx x j / 2 ^ d) || decide (262144 ≤ szf x d j)) := by
  have e : mx x (j + 1) = max (mx x j) (x.getD j 0).natAbs := rfl
  rw [e]
  unfold szf
  generalize mx x j = A
  generalize (x.getD j 0).natAbs = B
  rw [Bool.eq_iff_iff]
  simp only [Bool.or_eq_true, decide_eq_true_eq]
  rcases Nat.le_total A B with h | h
  · rw [Nat.max_eq_right h]
    have := Nat.div_le_div_right (c := 2 ^ d) h
    generalize A / 2 ^ d = P at *
    generalize B / 2 ^ d = Q at *
    omega
  · rw [Nat.max_eq_left h]
    have := Nat.div_le_div_right (c := 2 ^ d) h
    generalize A / 2 ^ d = P at *
    generalize B / 2 ^ d = Q at *
    omega

set_option maxHeartbeats 2000000 in
theorem rsizes_any (v : Value) (x : List Int) (w : World) (hv : Rw .i64 w v x) (h : fairX x = true) : Calls Try.prog 28 #[v] w fun e w' => ∃ g cap : Nat, e = .returned (.slice (some ⟨g, 0, none⟩) x.length cap) ∧ w.heap.size ≤ g ∧ g < w'.heap.size ∧ Rw .i64 w' (.slice (some ⟨g, 0, none⟩) x.length cap) (szs x) ∧ Below w.heap.size w w' := by
  obtain ⟨i0, hi, hz0, hz1, hz2⟩ := info_parts info_i64
  obtain ⟨h1, h2, h3⟩ := fairX_parts h
  obtain ⟨a, cap, rfl, ha⟩ := hv
  obtain ⟨b, off, rfl, hlt, hc⟩ := ha.resolve_left (by intro h; subst h; simp at h1)
  clear ha
  have HC : Hid (∀ i, i < x.length → w.cell? ⟨b, off + i, none⟩ = some (.int .i64 (x.getD i 0))) := hc
  clear hc
  have i1 : (x.length : Int) ≤ 16 := by omega
  have H3 : Hid (∀ i, -1048576 ≤ x.getD i 0 ∧ x.getD i 0 ≤ 1048576) := h3
  have HM : Hid (∀ j, mx x j ≤ 1048576) := mx_le x 1048576 (fun j => by have := h3 j; omega)
  clear h3
  go_enter Try.func28, Try.ntmps28
  go_wp2
  go_loopw [3, 4] (fun r i wr => ∃ j : Nat, j ≤ x.length ∧ i = .int .i64 j ∧ wr.ownsRow w.heap.size 2 1 r j ((tab j (szf x 0)).map (Value.int .i64)) ∧ Below w.heap.size w wr) (fun _ i _ => x.length - (intOf i).toNat)
  case atStart => exact ⟨0, by omega, rfl, World.ownsRow_nil _ _ _ _, Below.refl _ _⟩
  case round =>
    obtain ⟨j, hj, rfl, hown, hbr⟩ := hrel
    have hsz := hbr.size
    by_cases hl : j < x.length
    · have g := (hbr.cell (p := ⟨b, off + j, none⟩) hlt).trans (HC.out j hl)
      obtain ⟨b1, b2⟩ := H3.out j
      have hs := fun w => sz_any (x.getD j 0) w (by omega) (by omega)
      have HS : Hid ((tab (j + 1) (szf x 0)).map (Value.int .i64) = (tab j (szf x 0)).map (Value.int .i64) ++ [.int .i64 ((x.getD j 0).natAbs : Nat)]) := by
        unfold Hid; rw [tab_push, szf_zero]; simp
      generalize (x.getD j 0).natAbs = N at *
      generalize x.getD j 0 = u at *
      go_wp2_with (first | (go_at_call 22; refine (hs _).mono ?_; rintro e w9 ⟨rfl, h9⟩; have h9 := h9.symm; subst h9) | (at_builtin; refine wpList_append_own _ rfl _ _ 22 rfl w.heap.size 2 i0 (.int .i64 0) 1 8 Try.underlying22 hi hz0 hz1 hz2 rfl (by decide) _ _ _ rfl (hown.alloc _) ⟨wr.heap.size, 0, none⟩ 1 1 [.int .i64 (N : Nat)] rfl rfl (cell_one_at rfl _ _) (one_cell _ _) ?c3 ?c4 ?c5 ?_))
      case c3 => unfold maxLen; omega
      case c4 => omega
      case c5 => simp; omega
      intro v' w2 hown' hgrow _
      have hb2 := bgrow hbr hown (Nat.le_refl _) hgrow
      go_wp2
      exact ⟨⟨j + 1, by omega, by go_num, by rw [HS.out]; exact hown', hb2⟩, by simp [intOf]; omega⟩
    · have hje : j = x.length := by omega
      rw [hje] at hown
      clear hje
      obtain ⟨q, cap2, rfl, hq1, hq2, -⟩ := own_ints hown (by omega)
      have HO : Hid (Own 2 w.heap.size wr q x.length cap2 (tab x.length (szf x 0))) := hown
      clear hown
      have hD3 := dn_le (mx x x.length)
      obtain ⟨D, hD⟩ : ∃ D, dn (mx x x.length) = D := ⟨_, rfl⟩
      have HS : Hid (szs x = tab x.length (szf x D)) := by unfold Hid szs; rw [hD]
      have HT : Hid (∀ d, d ≤ 3 → (262144 ≤ mx x x.length / 2 ^ d ↔ d < D)) := fun d hd => by rw [dn_bits _ d (HM.out _) hd, hD]
      rw [hD] at hD3
      clear hD
      obtain ⟨W1, rfl⟩ : ∃ x, x = wr := ⟨wr, rfl⟩
      go_wp2
      go_loopg [5] D (fun k t wr => ∃ d : Nat, d + k = D ∧ Hid (Own 2 w.heap.size wr q x.length cap2 (tab x.length (szf x d))) ∧ Below w.heap.size w wr)
      case atStart => exact ⟨0, by omega, HO, hbr⟩
      case round =>
        obtain ⟨d, hd, HR, hbr2⟩ := hrel
        clear HO hbr hsz
        have HDD : Hid _ := hd
        have hd3 : d ≤ 3 := by omega
        have hdD : d ≤ D := by omega
        clear hd
        go_wp2
        go_loop [5, 6] (fun t i => ∃ j : Nat, j ≤ x.length ∧ i = .int .i64 j ∧ t = .bool (decide (262144 ≤ mx x j / 2 ^ d))) (fun _ i => x.length - (intOf i).toNat)
        case atStart => exact ⟨0, by omega, rfl, by simp [mx]⟩
        case round =>
          obtain ⟨j, hj, rfl, rfl⟩ := hrel
          by_cases hl : j < x.length
          · obtain ⟨g, _⟩ := HR.out.cell j hl
            rw [tab_at _ _ _ hl] at g
            have HN : Hid _ := top_next x d j
            generalize szf x d j = u at *
            cases hB : decide (262144 ≤ mx x j / 2 ^ d)
            · rw [hB] at HN
              clear hB
              by_cases hu : 262144 ≤ u
              · go_wp2
                exact ⟨⟨j + 1, by omega, by go_num, by rw [HN.out]; simp [hu]⟩, by simp [intOf]; omega⟩
              · go_wp2
                exact ⟨⟨j + 1, by omega, by go_num, by rw [HN.out]; simp [hu]⟩, by simp [intOf]; omega⟩
            · rw [hB] at HN
              clear hB
              go_wp2
              exact ⟨⟨j + 1, by omega, by go_num, by rw [HN.out]; rfl⟩, by simp [intOf]; omega⟩
          · have hje : j = x.length := by omega
            have hbit := HT.out d hd3
            rw [← hje] at hbit
            by_cases hlow : d < D
            · rw [decide_eq_true (hbit.2 hlow)]
              clear hbit hje
              go_wp2
              obtain ⟨W2, rfl⟩ : ∃ x, x = wr := ⟨wr, rfl⟩
              go_loopw [7] (fun i wr => ∃ j : Nat, j ≤ x.length ∧ i = .int .i64 j ∧ Hid (Own 2 w.heap.size wr q x.length cap2 (tab x.length fun i => if i < j then szf x (d + 1) i else szf x d i)) ∧ Below w.heap.size w wr) (fun i _ => x.length - (intOf i).toNat)
              case atStart => exact ⟨0, by omega, rfl, by simp; exact HR, hbr2⟩
              case round =>
                clear HR hbr2
                obtain ⟨j, hj, rfl, HR, hbr2⟩ := hrel
                by_cases hl : j < x.length
                · obtain ⟨g, gf, _⟩ := HR.out.cell j hl
                  rw [tab_at _ _ _ hl, if_neg (by omega)] at g
                  have R : Hid _ := HR.out.set j (szf x d j / 2)
                  rw [tab_set _ _ _ _ hl] at R
                  have HE : Hid ((tab x.length fun i => if i < j + 1 then szf x (d + 1) i else szf x d i) = tab x.length fun i => if i = j then szf x d j / 2 else if i < j then szf x (d + 1) i else szf x d i) := tab_congr fun i hi => by
                    by_cases e : i = j
                    · subst e; rw [if_pos (by omega), if_pos rfl, szf_next]
                    · rw [if_neg e]
                      by_cases e2 : i < j
                      · rw [if_pos (by omega), if_pos e2]
                      · rw [if_neg (by omega), if_neg e2]
                  have p1 := szf_pos x d j
                  have p2 := szf_le x d j
                  have p3 := H3.out j
                  have p4 : szf x d j ≤ 1048576 := by omega
                  clear p2 p3
                  have ht : (szf x d j).tdiv 2 = szf x d j / 2 := by rw [Int.tdiv_eq_ediv_of_nonneg p1]
                  generalize hu : szf x d j = u at g p1 p4 ht R HE
                  clear hu HR
                  go_wp2
                  refine ⟨⟨j + 1, by omega, by go_num, ?_, hbr2.setCell (p := ⟨q, j, none⟩) hq1 _⟩, by simp [intOf]; omega⟩
                  rw [HE.out]
                  exact R
                · have HR2 : Hid (Own 2 w.heap.size wr q x.length cap2 (tab x.length (szf x (d + 1)))) := by
                    unfold Hid
                    rw [show tab x.length (szf x (d + 1)) = tab x.length fun i => if i < j then szf x (d + 1) i else szf x d i from tab_congr fun i hi => by rw [if_pos (by omega)]]
                    exact HR.out
                  clear HR
                  go_wp2
                  go_roundg (gk - 1)
                  case measure => have := HDD.out; omega
                  case rel => exact ⟨d + 1, by have := HDD.out; omega, HR2, hbr2⟩
            · have hDe : d = D := by omega
              rw [decide_eq_false (fun e => hlow (hbit.1 e))]
              obtain ⟨_, _, _, hq3⟩ := HR.out.cell 0 (by omega)
              have HF : Hid (Rw .i64 wr (.slice (some ⟨q, 0, none⟩) x.length cap2) (szs x)) := by
                unfold Hid; rw [HS.out, ← hDe]; exact HR.out.rw
              clear hbit hje hDe
              go_wp2
              go_ret
              exact ⟨q, cap2, rfl, hq1, hq3, HF.out, hbr2⟩
end Go.Proofs.Ytiiiejhdeooabaa
