/- Contracts of the table of all counts, and of Count. -/
import Derived.Test.YtlpjkahppogkiaaEc
namespace Go.Proofs.Ytlpjkahppogkiaa
open Go.RowKit
set_option linter.unusedVariables false
set_option linter.unusedSimpArgs false

theorem info_counts : (Try.prog.info? 65).map (fun i => (i.zero, i.size)) = some (some (.agg zer), 221) := by kernel_rfl
theorem size_counts : (Try.prog.info? 65).map (·.size) = some 221 := by kernel_rfl
theorem size_row : (Try.prog.info? 63).map (·.size) = some 13 := by kernel_rfl
theorem size_u64 : (Try.prog.info? 51).map (·.size) = some 1 := by kernel_rfl

set_option maxHeartbeats 2000000 in
theorem all_any (w : World) : Calls Try.prog 51 #[] w fun e w' => e = .returned (.agg tabC) ∧ Below w.heap.size w w' := by
  go_enter Try.func51, Try.ntmps51
  go_wp2_with (first | (refine wpList_alloc_zero rfl 65 rfl (some 0) rfl (.agg zer) 221 info_counts ?_; intro w1 h1 b1 s1) | (refine wpList_alloc_zero rfl 65 rfl (some 1) rfl (.agg zer) 221 info_counts ?_; intro w2 h2 b2 s2; rw [s1] at h2 ⊢; have c0 := (cell_of_row h2 0 (by simp [tabL])).1; have f0 := (cell_of_row h2 0 (by simp [tabL])).2; have B2 : Below w.heap.size w w2 := bthen b1 b2 b1.size; have H0 : Hid (w2.heap[w.heap.size]? = some (.cells zer 65 (0, 0))) := (b2.block _ (by omega)).trans h1; have H1 : Hid (w2.heap[w.heap.size + 1]? = some (.cells zer 65 (0, 0))) := h2; clear h1 h2 b1 b2 s1 s2))
  go_loopw [8] (fun i wr => ∃ n : Nat, n ≤ 16 ∧ i = .int .i64 n ∧ Hid (wr.heap[w.heap.size + 1]? = some (.cells (cel (tabL (13 * (n + 1)))) 65 (0, 0))) ∧ Hid (wr.heap[w.heap.size]? = some (.cells zer 65 (0, 0))) ∧ Below w.heap.size w wr) (fun i _ => 16 - (intOf i).toNat)
  case atStart =>
    refine ⟨0, by omega, rfl, ?_, (heap_setCell_other _ _ _ _ (by show w.heap.size ≠ w.heap.size + 1; omega)).trans H0.out, B2.setCell (p := ⟨w.heap.size + 1, 0, none⟩) (by show w.heap.size ≤ w.heap.size + 1; omega) _⟩
    have := row_set (cur := tabL 0) H1.out 0 1
    rw [tabL_start] at this
    exact this
  case round =>
    obtain ⟨n, hn, rfl, HT, HZ, hB⟩ := hrel
    clear H0 H1 c0 f0 B2
    by_cases h16 : n < 16
    · have hrange := tab_range (n := n) HT.out (by omega) (by omega)
      have hrange2 : wr.rangeAt (w.heap.size + 1) (n * 13) ((rowL n).map (Value.int .u64)) := by rw [Nat.mul_comm]; exact hrange
      go_wp2_with (refine wpList_load_part rfl 63 (.tmp 12) rfl (w.heap.size + 1) _ rfl ((rowL n).map (Value.int .u64)) (rowC n) rfl 13 51 hrange2 Try.underlying63 (by rw [size_row]; simp [rowL]) ?_)
      obtain ⟨W1, rfl⟩ : ∃ x, x = wr := ⟨wr, rfl⟩
      go_loopw [3, 14] (fun f i wr => ∃ k : Nat, k ≤ 13 ∧ i = .int .i64 k ∧ f = .int .u64 (S (V n) k : Nat) ∧ Hid (wr.heap[w.heap.size + 1]? = some (.cells (cel (tabL (13 * (n + 1) + k))) 65 (0, 0))) ∧ Hid (wr.heap[w.heap.size]? = some (.cells zer 65 (0, 0))) ∧ Below w.heap.size w wr) (fun _ i _ => 13 - (intOf i).toNat)
      case atStart => exact ⟨0, by omega, rfl, rfl, HT, HZ, hB⟩
      case round =>
        obtain ⟨k, hk, rfl, rfl, HT2, HZ2, hB2⟩ := hrel
        clear HT HZ hB hrange hrange2
        by_cases h13 : k < 13
        · obtain ⟨c1, c2⟩ := cell_of_row HT2.out (13 * (n + 1) + k) (by rw [tabL_len]; omega)
          have R1 : Hid _ := row_set HT2.out (13 * (n + 1) + k) (V (n + 1) k : Nat)
          rw [tabL_next (n + 1) k (by omega) h13] at R1
          have R2 : Hid (S (V n) (k + 1) = S (V n) k + V n k) := rfl
          have R3 : Hid (V (n + 1) k = V n k + 2 * S (V n) k) := V_succ n k
          have hx := rowC_at n k h13
          have b1 := V_small n k (by omega) (by omega)
          have b2 := S_small n k (by omega) (by omega)
          rw [show 13 * (n + 1) + k = (n + 1) * 13 + k by omega] at c1 c2
          generalize (tabL ((n + 1) * 13 + k)).getD ((n + 1) * 13 + k) 0 = z at c1
          generalize V n k = X at *
          generalize S (V n) k = F at *
          obtain ⟨x, hx1⟩ : ∃ x : Int, (X : Int) = x := ⟨_, rfl⟩
          obtain ⟨f, hf1⟩ : ∃ f : Int, (F : Int) = f := ⟨_, rfl⟩
          rw [hx1] at hx
          rw [hf1]
          have d1 : 0 ≤ x := by omega
          have d2 : x ≤ 104485552128 := by omega
          have d3 : 0 ≤ f := by omega
          have d4 : f ≤ 1358312177664 := by omega
          have HX : Hid _ := hx1
          have HF : Hid _ := hf1
          clear hx1 hf1 b1 b2
          go_wp2_with (refine wpList_index_one rfl 63 (.tmp 13) (.tmp 14) rfl 13 51 .u64 (rowC n) .i64 k (.int .u64 x) rfl rfl (by omega) (by omega) Try.underlying63 Try.underlying51 size_u64 hx ?_)
          refine ⟨⟨k + 1, by omega, by go_num, ?_, ?_, (heap_setCell_other _ _ _ _ (by show w.heap.size ≠ w.heap.size + 1; omega)).trans HZ2.out, hB2.setCell (p := ⟨w.heap.size + 1, (n + 1) * 13 + k, none⟩) (by show w.heap.size ≤ w.heap.size + 1; omega) _⟩, by simp [intOf]; omega⟩
          · rw [R2.out, ← HX.out, ← HF.out]; simp
          · have := R1.out
            rw [R3.out, show 13 * (n + 1) + k = (n + 1) * 13 + k by omega] at this
            rw [← HX.out, ← HF.out, show ((X : Int) + 2 * (F : Int)) = ((X + 2 * F : Nat) : Int) by omega, show 13 * (n + 1) + (k + 1) = (n + 1) * 13 + k + 1 by omega]
            exact this
        · have hk13 : k = 13 := by omega
          subst hk13
          clear h13
          go_wp2
          exact ⟨⟨n + 1, by omega, by go_num, HT2, HZ2, hB2⟩, by simp [intOf]; omega⟩
    · have hn16 : n = 16 := by omega
      subst hn16
      clear h16
      go_wp2_with (first | (refine wpList_load_row rfl 65 (.tmp 1) rfl (w.heap.size + 1) rfl 65 tabC (0, 0) _ HT.out Try.underlying65 rfl (by rw [size_counts, tabC_size]) ?_) | (refine wpList_store_whole rfl 65 (.tmp 0) (.tmp 32) rfl w.heap.size w.heap.size tabC rfl rfl 65 zer HZ.out (by rw [size_counts, tabC_size]) (by rw [zer_size, tabC_size]) (cel_one _) (Nat.le_refl _) ?_; intro w3 h3 b3 s3 o3))
      exact bodyPost_ret (v := .agg tabC) (results_cell_row (fn := Try.f51) (p := 0) rfl _ _ w.heap.size 65 tabC (0, 0) _ rfl h3 Try.underlying65 rfl (by rw [size_counts, tabC_size])) rfl ⟨rfl, hB.trans b3⟩

set_option maxHeartbeats 400000 in
theorem count_any (n k : Nat) (w : World) (h1 : 1 ≤ n) (h2 : n ≤ 16) (h3 : k ≤ 12) : Calls Try.prog 49 #[.int .i64 n, .int .i64 k] w fun e w' => e = .returned (.tuple #[.int .u64 (V n k : Nat), .int .i64 0]) ∧ Below w.heap.size w w' := by
  have hp := tab_part n (by omega)
  have hx := rowC_at n k (by omega)
  generalize V n k = X at *
  go_enter Try.func49, Try.ntmps49
  go_wp2_with (first | (go_at_call 51; refine (all_any _).mono ?_; rintro e w1 ⟨rfl, hb1⟩) | (refine wpList_index_part rfl 65 (.tmp 20) (.tmp 21) rfl 17 13 63 51 13 tabC (rowC n) .i64 n rfl rfl (by omega) (by omega) Try.underlying65 Try.underlying63 size_row hp ?_) | (refine wpList_index_one rfl 63 (.tmp 22) (.tmp 23) rfl 13 51 .u64 (rowC n) .i64 k (.int .u64 X) rfl rfl (by omega) (by omega) Try.underlying63 Try.underlying51 size_u64 hx ?_))
  go_ret2
  exact ⟨rfl, hb1⟩
theorem count_no (n k : Int) (w : World) (h : fairB n k = false) : Calls Try.prog 49 #[.int .i64 n, .int .i64 k] w fun e w' => e = .returned (.tuple #[.int .u64 0, .int .i64 1]) ∧ w' = w := by
  have h' : ¬ (1 ≤ n ∧ n ≤ 16 ∧ 0 ≤ k ∧ k ≤ 12) := of_decide_eq_false h
  clear h
  by_cases h1 : 1 ≤ n
  · by_cases h2 : n ≤ 16
    · by_cases h3 : 0 ≤ k
      · have h4 : 12 < k := by omega
        clear h'
        go_enter Try.func49, Try.ntmps49
        go_wp2_with fail
        go_ret2; exact ⟨rfl, rfl⟩
      · clear h'
        go_enter Try.func49, Try.ntmps49
        go_wp2_with fail
        go_ret2; exact ⟨rfl, rfl⟩
    · clear h'
      go_enter Try.func49, Try.ntmps49
      go_wp2_with fail
      go_ret2; exact ⟨rfl, rfl⟩
  · clear h'
    go_enter Try.func49, Try.ntmps49
    go_wp2_with fail
    go_ret2; exact ⟨rfl, rfl⟩
end Go.Proofs.Ytlpjkahppogkiaa
