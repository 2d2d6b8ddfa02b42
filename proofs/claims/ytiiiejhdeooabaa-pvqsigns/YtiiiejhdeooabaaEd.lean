/- Contracts of the table of all counts, and of Count. -/
import Derived.Test.YtiiiejhdeooabaaEc
namespace Go.Proofs.Ytiiiejhdeooabaa
open Go.RowKit
set_option linter.unusedVariables false
set_option linter.unusedSimpArgs false

theorem info_counts : (Try.prog.info? 72).map (fun i => (i.zero, i.size)) = some (some (.agg zer), 221) := by kernel_rfl
theorem size_counts : (Try.prog.info? 72).map (·.size) = some 221 := by kernel_rfl
theorem size_row : (Try.prog.info? 70).map (·.size) = some 13 := by kernel_rfl
theorem size_u64 : (Try.prog.info? 24).map (·.size) = some 1 := by kernel_rfl

set_option maxHeartbeats 2000000 in
theorem all_any (w : World) : Calls Try.prog 38 #[] w fun e w' => e = .returned (.agg tabC) ∧ Below w.heap.size w w' := by
  go_enter Try.func38, Try.ntmps38
  go_wp2_with (first | (refine wpList_alloc_zero rfl 72 rfl (some 0) rfl (.agg zer) 221 info_counts ?_; intro w1 h1 b1 s1) | (refine wpList_alloc_zero rfl 72 rfl (some 1) rfl (.agg zer) 221 info_counts ?_; intro w2 h2 b2 s2; rw [s1] at h2 ⊢; have c0 := (cell_of_row h2 0 (by simp [tabL])).1; have f0 := (cell_of_row h2 0 (by simp [tabL])).2; have B2 : Below w.heap.size w w2 := bthen b1 b2 b1.size; have H0 : Hid (w2.heap[w.heap.size]? = some (.cells zer 72 (0, 0))) := (b2.block _ (by omega)).trans h1; have H1 : Hid (w2.heap[w.heap.size + 1]? = some (.cells zer 72 (0, 0))) := h2; clear h1 h2 b1 b2 s1 s2))
  go_loopw [8] (fun i wr => ∃ n : Nat, n ≤ 16 ∧ i = .int .i64 n ∧ Hid (wr.heap[w.heap.size + 1]? = some (.cells (cel (tabL (13 * (n + 1)))) 72 (0, 0))) ∧ Hid (wr.heap[w.heap.size]? = some (.cells zer 72 (0, 0))) ∧ Below w.heap.size w wr) (fun i _ => 16 - (intOf i).toNat)
  case atStart =>
    refine ⟨0, by omega, rfl, ?_, (heap_setCell_other _ _ _ _ (by show w.heap.size ≠ w.heap.size + 1; omega)).trans H0.out, B2.setCell (p := ⟨w.heap.size + 1, 0, none⟩) (by show w.heap.size ≤ w.heap.size + 1; omega) _⟩
    have := row_set (cur := tabL 0) H1.out 0 1
    rw [tabL_start] at this
    exact this
  case round =>
    obtain ⟨n, hn, rfl, HT, HZ, hB⟩ := hrel
    clear H0 H1 c0 f0 B2
    by_cases h16 : n < 16
    · have hrange := tab_range (n := n) HT.out (by omega) (by omega)
      have hrange2 : wr.rangeAt (w.heap.size + 1) (n * 13) ((rowL n).map (Value.int .u64)) := by rw [Nat.mul_comm]; exact hrange
      go_wp2_with (refine wpList_load_part rfl 70 (.tmp 12) rfl (w.heap.size + 1) _ rfl ((rowL n).map (Value.int .u64)) (rowC n) rfl 13 24 hrange2 Try.underlying70 (by rw [size_row]; simp [rowL]) ?_)
      obtain ⟨W1, rfl⟩ : ∃ x, x = wr := ⟨wr, rfl⟩
      go_loopw [3, 14] (fun f i wr => ∃ k : Nat, k ≤ 13 ∧ i = .int .i64 k ∧ f = .int .u64 (S (V n) k : Nat) ∧ Hid (wr.heap[w.heap.size + 1]? = some (.cells (cel (tabL (13 * (n + 1) + k))) 72 (0, 0))) ∧ Hid (wr.heap[w.heap.size]? = some (.cells zer 72 (0, 0))) ∧ Below w.heap.size w wr) (fun _ i _ => 13 - (intOf i).toNat)
      case atStart => exact ⟨0, by omega, rfl, rfl, HT, HZ, hB⟩
      case round =>
        obtain ⟨k, hk, rfl, rfl, HT2, HZ2, hB2⟩ := hrel
        clear HT HZ hB hrange hrange2
        by_cases h13 : k < 13
        · obtain ⟨c1, c2⟩ := cell_of_row HT2.out (13 * (n + 1) + k) (by rw [tabL_len]; omega)
          have R1 : Hid _ := row_set HT2.out (13 * (n + 1) + k) (V (n + 1) k : Nat)
          rw [tabL_next (n + 1) k (by omega) h13] at R1
          have R2 : Hid (S (V n) (k + 1) = S (V n) k + V n k) := rfl
          have R3 : Hid (V (n + 1) k = V n k + 2 * S (V n) k) := V_succ n k
          have hx := rowC_at n k h13
          have b1 := V_small n k (by omega) (by omega)
          have b2 := S_small n k (by omega) (by omega)
          rw [show 13 * (n + 1) + k = (n + 1) * 13 + k by omega] at c1 c2
          generalize (tabL ((n + 1) * 13 + k)).getD ((n + 1) * 13 + k) 0 = z at c1
          generalize V n k = X at *
          generalize S (V n) k = F at *
          obtain ⟨x, hx1⟩ : ∃ x : Int, (X : Int) = x := ⟨_, rfl⟩
          obtain ⟨f, hf1⟩ : ∃ f : Int, (F : Int) = f := ⟨_, rfl⟩
          rw [hx1] at hx
          rw [hf1]
          have d1 : 0 ≤ x := by omega
          have d2 : x ≤ 104485552128 := by omega
          have d3 : 0 ≤ f := by omega
          have d4 : f ≤ 1358312177664 := by omega
          have HX : Hid _ := hx1
          have HF : Hid _ := hf1
          clear hx1 hf1 b1 b2
          go_wp2_with (refine wpList_index_one rfl 70 (.tmp 13) (.tmp 14) rfl 13 24 .u64 (rowC n) .i64 k (.int .u64 x) rfl rfl (by omega) (by omega) Try.underlying70 Try.underlying24 size_u64 hx ?_)
          refine ⟨⟨k + 1, by omega, by go_num, ?_, ?_, (heap_setCell_other _ _ _ _ (by show w.heap.size ≠ w.heap.size + 1; omega)).trans HZ2.out, hB2.setCell (p := ⟨w.heap.size + 1, (n + 1) * 13 + k, none⟩) (by show w.heap.size ≤ w.heap.size + 1; omega) _⟩, by simp [intOf]; omega⟩
          · rw [R2.out, ← HX.out, ← HF.out]; simp
          · have := R1.out
            rw [R3.out, show 13 * (n + 1) + k = (n + 1) * 13 + k by omega] at this
            rw [← HX.out, ← HF.out, show ((X : Int) + 2 * (F : Int)) = ((X + 2 * F : Nat) : Int) by omega, show 13 * (n + 1) + (k + 1) = (n + 1) * 13 + k + 1 by omega]
            exact this
        · have hk13 : k = 13 := by omega
          subst hk13
          clear h13
          go_wp2
          exact ⟨⟨n + 1, by omega, by go_num, HT2, HZ2, hB2⟩, by simp [intOf]; omega⟩
    · have hn16 : n = 16 := by omega
      subst hn16
      clear h16
      go_wp2_with (first | (refine wpList_load_row rfl 72 (.tmp 1) rfl (w.heap.size + 1) rfl 72 tabC (0, 0) _ HT.out Try.underlying72 rfl (by rw [size_counts, tabC_size]) ?_) | (refine wpList_store_whole rfl 72 (.tmp 0) (.tmp 32) rfl w.heap.size w.heap.size tabC rfl rfl 72 zer HZ.out (by rw [size_counts, tabC_size]) (by rw [zer_size, tabC_size]) (cel_one _) (Nat.le_refl _) ?_; intro w3 h3 b3 s3 o3))
      exact bodyPost_ret (v := .agg tabC) (results_cell_row (fn := Try.f38) (p := 0) rfl _ _ w.heap.size 72 tabC (0, 0) _ rfl h3 Try.underlying72 rfl (by rw [size_counts, tabC_size])) rfl ⟨rfl, hB.trans b3⟩

end Go.Proofs.Ytiiiejhdeooabaa
