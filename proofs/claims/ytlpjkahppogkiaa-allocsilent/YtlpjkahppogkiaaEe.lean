/- Contracts of the document's row of counts, and of its count. -/
import Derived.Test.YtlpjkahppogkiaaEd
namespace Go.Proofs.Ytlpjkahppogkiaa
open Go.RowKit
set_option linter.unusedVariables false
set_option linter.unusedSimpArgs false

theorem info_u64 : (Try.prog.info? 51).map (fun i => (i.zero, i.size, i.bytes)) = some (some (.int .u64 0), 1, 8) := by kernel_rfl
theorem info_int : (Try.prog.info? 3).map (fun i => (i.zero, i.size, i.bytes)) = some (some (.int .i64 0), 1, 8) := by kernel_rfl

/-- The first k counts of n places. -/
def rowP (n k : Nat) : List Int := (List.range k).map fun j => (V n j : Int)
theorem rowP_len (n k : Nat) : (rowP n k).length = k := by simp [rowP]
theorem rowP_succ (n k : Nat) : rowP n (k + 1) = rowP n k ++ [(V n k : Int)] := by simp [rowP, List.range_succ]
theorem rowP_at (n k j : Nat) (h : j < k) : (rowP n k).getD j 0 = (V n j : Int) := by simp [rowP, h]

theorem own13 {w : World} {base n : Nat} {v : Value} {e : TypeId} (h : w.ownsRow base e 1 v 13 ((rowP n 13).map (Value.int .u64))) : ∃ b cap, v = .slice (some ⟨b, 0, none⟩) 13 cap ∧ base ≤ b ∧ b < w.heap.size ∧ ∀ k, k < 13 → w.cell? ⟨b, k, none⟩ = some (.int .u64 (V n k : Nat)) := by
  obtain ⟨a, cap, hv, hr⟩ := RwF.of_owns h
  rw [rowP_len] at hv hr
  obtain ⟨b, off, rfl, hb, hlt, hc⟩ := hr.resolve_left (by intro h0; have := rowP_len n 13; rw [h0] at this; simp at this)
  obtain ⟨_, h2⟩ := h
  rcases h2 with ⟨h2, _⟩ | ⟨g, cap', cur, h2, _⟩
  · rw [hv] at h2; cases h2
  · rw [hv] at h2
    simp only [Value.slice.injEq, Option.some.injEq, Addr.mk.injEq] at h2
    obtain ⟨⟨rfl, rfl, _⟩, _, rfl⟩ := h2
    refine ⟨b, cap, hv, hb, hlt, fun k hk => ?_⟩
    have := hc k hk
    rw [Nat.zero_add, rowP_at n 13 k hk] at this
    exact this

set_option maxHeartbeats 4000000 in
theorem row_any (n : Nat) (w : World) (hn : n ≤ 16) : Calls Try.prog 43 #[.int .i64 n] w fun e w' => ∃ b cap, e = .returned (.slice (some ⟨b, 0, none⟩) 13 cap) ∧ w.heap.size ≤ b ∧ b < w'.heap.size ∧ (∀ k, k < 13 → w'.cell? ⟨b, k, none⟩ = some (.int .u64 (V n k : Nat))) ∧ Below w.heap.size w w' := by
  obtain ⟨i0, hi, hz0, hz1, hz2⟩ := info_parts info_u64
  go_enter Try.func43, Try.ntmps43
  go_wp2
  go_loopw [3, 4] (fun r i wr => ∃ k : Nat, k ≤ 13 ∧ i = .int .i64 k ∧ wr.ownsRow w.heap.size 51 1 r k ((rowP 0 k).map (Value.int .u64)) ∧ Below w.heap.size w wr) (fun _ i _ => 13 - (intOf i).toNat)
  case atStart => exact ⟨0, by omega, rfl, World.ownsRow_nil _ _ _ _, Below.refl _ _⟩
  case round =>
    obtain ⟨k, hk, rfl, hown, hbr⟩ := hrel
    by_cases h13 : k ≤ 12
    · have HS : Hid ((rowP 0 (k + 1)).map (Value.int .u64) = (rowP 0 k).map (Value.int .u64) ++ [.int .u64 (V 0 k : Nat)]) := by unfold Hid; rw [rowP_succ]; simp
      have hsz := hbr.size
      by_cases h0 : k = 0
      · subst h0
        go_wp2_with (at_builtin; refine wpList_append_own _ rfl _ _ 55 rfl w.heap.size 51 i0 (.int .u64 0) 1 8 Try.underlying55 hi hz0 hz1 hz2 rfl (by decide) _ _ _ rfl (hown.alloc _) ⟨wr.heap.size, 0, none⟩ 1 1 [.int .u64 1] rfl rfl (cell_one_at rfl _ _) (one_cell _ _) ?c3 ?c4 ?c5 ?_)
        case c3 => unfold maxLen; omega
        case c4 => omega
        case c5 => simp; omega
        intro v' w2 hown' hgrow _
        have hb2 := bgrow hbr hown (Nat.le_refl _) hgrow
        go_wp2
        exact ⟨⟨1, by omega, by go_num, by have e := HS.out; rw [e]; exact hown', hb2⟩, by simp [intOf]⟩
      · have h0' : ((k : Int) == 0) = false := by simp; omega
        have HV : Hid (V 0 k = 0) := by unfold Hid; rw [V_zero, if_neg h0]
        go_wp2_with (at_builtin; refine wpList_append_own _ rfl _ _ 55 rfl w.heap.size 51 i0 (.int .u64 0) 1 8 Try.underlying55 hi hz0 hz1 hz2 rfl (by decide) _ _ _ rfl (hown.alloc _) ⟨wr.heap.size, 0, none⟩ 1 1 [.int .u64 0] rfl rfl (cell_one_at rfl _ _) (one_cell _ _) ?c3 ?c4 ?c5 ?_)
        case c3 => unfold maxLen; omega
        case c4 => omega
        case c5 => simp; omega
        intro v' w2 hown' hgrow _
        have hb2 := bgrow hbr hown (Nat.le_refl _) hgrow
        go_wp2
        exact ⟨⟨k + 1, by omega, by go_num, by have e := HS.out; rw [HV.out] at e; rw [e]; exact hown', hb2⟩, by simp [intOf]; omega⟩
    · have hk13 : k = 13 := by omega
      rw [hk13] at hown
      clear hk13
      obtain ⟨W0, rfl⟩ : ∃ x, x = wr := ⟨wr, rfl⟩
      go_wp2
      go_loopw [3, 5] (fun r i wr => ∃ m : Nat, m ≤ n ∧ i = .int .i64 m ∧ wr.ownsRow w.heap.size 51 1 r 13 ((rowP m 13).map (Value.int .u64)) ∧ Below w.heap.size w wr) (fun _ i _ => n - (intOf i).toNat)
      case atStart => exact ⟨0, by omega, rfl, hown, hbr⟩
      case round =>
        clear hown hbr
        obtain ⟨m, hm, rfl, hown, hbr⟩ := hrel
        obtain ⟨b, cap, rfl, hb1, hb2, hcells⟩ := own13 hown
        by_cases hlt : m < n
        · clear hown
          go_wp2
          obtain ⟨W1, rfl⟩ : ∃ x, x = wr := ⟨wr, rfl⟩
          go_loopw [6, 7] (fun r i wr => ∃ k : Nat, k ≤ 13 ∧ i = .int .i64 k ∧ wr.ownsRow W1.heap.size 51 1 r k ((rowP (m + 1) k).map (Value.int .u64)) ∧ Below W1.heap.size W1 wr) (fun _ i _ => 13 - (intOf i).toNat)
          case atStart => exact ⟨0, by omega, rfl, World.ownsRow_nil _ _ _ _, Below.refl _ _⟩
          case round =>
            obtain ⟨k, hk, rfl, hown2, hbr2⟩ := hrel
            by_cases h13 : k ≤ 12
            · have HC : Hid (∀ j, j < 13 → wr.cell? ⟨b, j, none⟩ = some (.int .u64 (V m j : Nat))) := fun j hj => (hbr2.cell (p := ⟨b, j, none⟩) hb2).trans (hcells j hj)
              have g := HC.out k (by omega)
              have HS : Hid ((rowP (m + 1) (k + 1)).map (Value.int .u64) = (rowP (m + 1) k).map (Value.int .u64) ++ [.int .u64 (V (m + 1) k : Nat)]) := by unfold Hid; rw [rowP_succ]; simp
              have HE : Hid (V m k + 2 * S (V m) (k - 0) = V (m + 1) k) := rfl
              have HB : Hid (V (m + 1) k ≤ 104485552128) := V_small (m + 1) k (by omega) (by omega)
              have hsz := hbr2.size
              generalize V m k = X at *
              go_wp2
              go_loop [8, 9] (fun v i => ∃ q Y : Nat, q ≤ k ∧ i = .int .i64 ((q : Int) + 1) ∧ v = .int .u64 Y ∧ Hid (Y + 2 * S (V m) (k - q) = V (m + 1) k)) (fun _ i => k + 1 - (intOf i).toNat)
              case atStart => exact ⟨0, X, by omega, by go_num, rfl, HE⟩
              case round =>
                obtain ⟨q, Y, hq, rfl, rfl, HY⟩ := hrel
                clear g HE
                by_cases hqk : q < k
                · have HN : Hid ((Y + 2 * V m (k - (q + 1))) + 2 * S (V m) (k - (q + 1)) = V (m + 1) k) := by
                    unfold Hid
                    have e := HY.out
                    rw [show k - q = (k - (q + 1)) + 1 by omega] at e
                    simp only [S] at e
                    omega
                  have g := HC.out (k - (q + 1)) (by omega)
                  have hbY : Y + 2 * V m (k - (q + 1)) ≤ 104485552128 := by have := HN.out; have := HB.out; omega
                  generalize V m (k - (q + 1)) = Z at *
                  have eo : ((k : Int) - ((q : Int) + 1)).toNat = k - (q + 1) := by omega
                  have i1 : (0 : Int) ≤ (k : Int) - ((q : Int) + 1) := by omega
                  have i2 : (k : Int) - ((q : Int) + 1) < 13 := by omega
                  clear HY HC
                  go_wp2
                  exact ⟨⟨q + 1, Y + 2 * Z, by omega, by go_num, by go_num, HN⟩, by simp [intOf]; omega⟩
                · have hqe : q = k := by omega
                  subst hqe
                  have HY2 : Hid (V (m + 1) q = Y) := by
                    unfold Hid
                    have e := HY.out
                    rw [Nat.sub_self] at e
                    simp only [S] at e
                    omega
                  clear hqk HY HC hcells
                  go_wp2_with (at_builtin; refine wpList_append_own _ rfl _ _ 55 rfl W1.heap.size 51 i0 (.int .u64 0) 1 8 Try.underlying55 hi hz0 hz1 hz2 rfl (by decide) _ _ _ rfl (hown2.alloc _) ⟨wr.heap.size, 0, none⟩ 1 1 [.int .u64 Y] rfl rfl (cell_one_at rfl _ _) (one_cell _ _) ?c3 ?c4 ?c5 ?_)
                  case c3 => unfold maxLen; omega
                  case c4 => omega
                  case c5 => first | (simp; omega) | omega
                  intro v' w2 hown' hgrow _
                  have hb3 := bgrow hbr2 hown2 (Nat.le_refl _) hgrow
                  go_wp2
                  go_roundw
                  case rel => exact ⟨q + 1, by omega, by go_num, by have e := HS.out; rw [HY2.out] at e; rw [e]; exact hown', hb3⟩
                  case measure => simp [intOf]; omega
            · have hk13 : k = 13 := by omega
              rw [hk13] at hown2
              clear hk13 hcells
              go_wp2
              exact ⟨⟨m + 1, by omega, by go_num, owns_base hown2 hbr.size, bthen hbr hbr2 hbr.size⟩, by simp [intOf]; omega⟩
        · have hme : m = n := by omega
          subst hme
          clear hlt hown
          have HC : Hid (∀ j, j < 13 → wr.cell? ⟨b, j, none⟩ = some (.int .u64 (V m j : Nat))) := hcells
          clear hcells
          go_wp2
          go_ret
          exact ⟨b, cap, rfl, hb1, hb2, HC.out, hbr⟩

set_option maxHeartbeats 400000 in
theorem rcount_any (n k : Nat) (w : World) (h2 : n ≤ 16) (h3 : k ≤ 12) : Calls Try.prog 35 #[.int .i64 n, .int .i64 k] w fun e w' => e = .returned (.int .u64 (V n k : Nat)) ∧ Below w.heap.size w w' := by
  have i1 : (k : Int) < 13 := by omega
  go_enter Try.func35, Try.ntmps35
  go_wp2_with (go_at_call 43; refine (row_any n _ h2).mono ?_; rintro e w1 ⟨b, cap, rfl, _, _, hc, hb1⟩; have g := hc k (by omega); clear hc)
  go_ret
  exact ⟨rfl, hb1⟩
end Go.Proofs.Ytlpjkahppogkiaa
