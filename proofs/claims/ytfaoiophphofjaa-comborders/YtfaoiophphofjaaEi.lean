/- Contracts of Vector, by the program. -/
import Derived.Test.YtfaoiophphofjaaEh
namespace Go.Proofs.Ytfaoiophphofjaa
open Go.RowKit
set_option linter.unusedVariables false
set_option linter.unusedSimpArgs false

theorem vector_no (n k : Int) (i : Int) (w : World) (h : fairB n k = false) : Calls Try.prog 19 #[.int .i64 n, .int .i64 k, .int .u64 i] w fun e w' => e = .returned (.tuple #[.slice none 0 0, .int .i64 1]) ∧ w' = w := by
  go_enter Try.func19, Try.ntmps19
  go_wp2_with (go_at_call 10; refine (count_no n k _ h).mono ?_; rintro e w1 ⟨rfl, rfl⟩)
  go_ret2
  exact ⟨rfl, rfl⟩
theorem vector_none (n k i : Nat) (w : World) (h1 : 1 ≤ n) (h2 : n ≤ 16) (h3 : k ≤ 12) (h : V n k ≤ i) : Calls Try.prog 19 #[.int .i64 n, .int .i64 k, .int .u64 i] w fun e w' => e = .returned (.tuple #[.slice none 0 0, .int .i64 5]) ∧ Below w.heap.size w w' := by
  have hcnt := fun w => count_any n k w h1 h2 h3
  generalize V n k = X at *
  have i1 : (X : Int) ≤ (i : Int) := by omega
  go_enter Try.func19, Try.ntmps19
  go_wp2_with (go_at_call 10; refine (hcnt _).mono ?_; rintro e w1 ⟨rfl, hb1⟩)
  go_ret2
  exact ⟨rfl, hb1⟩

/-- The row of a vector whose beginning t is found: noughts behind it. -/
def fil (n : Nat) (t : List Int) : List Int := t ++ List.replicate (n - t.length) 0
theorem fil_len (n : Nat) (t : List Int) (h : t.length ≤ n) : (fil n t).length = n := by unfold fil; simp; omega
theorem fil_nil (n : Nat) : fil n [] = List.replicate n 0 := by simp [fil]
theorem fil_full (n : Nat) (t : List Int) (h : t.length = n) : fil n t = t := by unfold fil; rw [h]; simp
theorem fil_set (n : Nat) (t : List Int) (v : Int) (h : t.length < n) : (fil n t).set t.length v = fil n (t ++ [v]) := by
  unfold fil
  rw [List.set_append, if_neg (by omega), Nat.sub_self, show n - t.length = (n - t.length - 1) + 1 by omega, List.replicate_succ, List.set_cons_zero]
  simp [Nat.sub_sub]

set_option maxHeartbeats 4000000 in
theorem vector_ok (n k i : Nat) (w : World) (h1 : 1 ≤ n) (h2 : n ≤ 16) (h3 : k ≤ 12) (h : i < V n k) : Calls Try.prog 19 #[.int .i64 n, .int .i64 k, .int .u64 i] w fun e w' => ∃ (g : Nat) (ys : List Int), e = .returned (.tuple #[.slice (some ⟨g, 0, none⟩) n n, .int .i64 0]) ∧ RwF w.heap.size .i64 w' (.slice (some ⟨g, 0, none⟩) n n) ys ∧ ys.length = n ∧ ps ys = k ∧ ix n k ys = i ∧ Below w.heap.size w w' := by
  obtain ⟨i0, hi, hz0, hz1, hz2⟩ := info_parts info_int
  have hcnt := fun w => count_any n k w h1 h2 h3
  have HV : Hid _ := h
  have hiV : i < V n k := h
  clear h
  obtain ⟨X, hX⟩ : ∃ X, V n k = X := ⟨_, rfl⟩
  rw [hX] at hcnt hiV
  clear hX
  have i1 : (i : Int) < (X : Int) := by omega
  go_enter Try.func19, Try.ntmps19
  go_wp2_with (first | (go_at_call 10; refine (hcnt _).mono ?_; rintro e w1 ⟨rfl, hb1⟩) | (go_at_call 23; refine (all_any _).mono ?_; rintro e w2 ⟨rfl, hb2⟩) | (refine wpList_alloc_zero rfl 47 rfl (some 10) rfl (.agg zer) 221 info_counts ?_; intro w3 h3' b3 s3) | (refine wpList_store_whole rfl 47 (.tmp 10) (.tmp 27) rfl w2.heap.size w2.heap.size tabC rfl rfl 47 zer h3' (by rw [size_counts, tabC_size]) (by rw [zer_size, tabC_size]) (cel_one _) (Nat.le_refl _) ?_; intro w4 h4 b4 s4 o4; have hbw := bthen' (bthen' hb1 hb2) ((Below.trans b3 b4)); have HT4 : Hid (w4.heap[w2.heap.size]? = some (.cells tabC 47 (0, 0))) := h4; have hsz4 : w2.heap.size < w4.heap.size := block_in h4; clear h4 b4 s4 o4 h3' b3 s3) | (at_make; refine wpList_make_full _ rfl _ _ 32 rfl w4.heap.size 3 i0 (.int .i64 0) 1 Try.underlying32 hi hz0 hz1 .i64 .i64 _ _ n rfl rfl (by omega) (by omega) (by rw [hz2]; omega) (by unfold maxLen; omega) (by simp) ?_))
  intro w5 hown5 hgrow5
  have hb5 := grown_of_none hgrow5
  have hfull := owns_full hown5
  rw [made_one] at hfull
  have HT5 : Hid (w5.heap[w2.heap.size]? = some (.cells tabC 47 (0, 0))) := (hb5.block _ hsz4).trans HT4.out
  have HY5 : Hid (w5.heap[w4.heap.size]? = some (.cells ((fil n []).map (Value.int .i64)).toArray 3 (0, 0))) := by
    unfold Hid; rw [fil_nil, List.map_replicate]; exact hfull.1
  have hB5 := bthen' hbw hb5
  have hsz5 : w4.heap.size < w5.heap.size := block_in HY5.out
  have hws := hbw.size
  clear hown5 hgrow5 hfull HT4 hb5
  go_wp2
  have hw2 : w.heap.size ≤ w2.heap.size := (bthen' hb1 hb2).size
  go_loopw [1, 2, 32] (fun kv iv c wr => ∃ (t : List Int) (kl il : Nat), t.length ≤ n ∧ c = .int .i64 t.length ∧ kv = .int .i64 kl ∧ iv = .int .u64 il ∧ Hid (Beg n k i t kl il) ∧ Hid (wr.heap[w2.heap.size]? = some (.cells tabC 47 (0, 0))) ∧ Hid (wr.heap[w4.heap.size]? = some (.cells ((fil n t).map (Value.int .i64)).toArray 3 (0, 0))) ∧ Below w.heap.size w wr ∧ w4.heap.size < wr.heap.size) (fun _ _ c _ => n - (intOf c).toNat)
  case atStart => exact ⟨[], k, i, by simp, rfl, rfl, rfl, Beg.start HV.out, HT5, HY5, hB5, hsz5⟩
  case round =>
    clear HT5 HY5 hB5 hsz5 HV hcnt i1 hiV
    obtain ⟨t, kl, il, htn, rfl, rfl, rfl, HB, HT, HY, hbr, hsz⟩ := hrel
    by_cases hl : t.length < n
    · obtain ⟨m, hm⟩ : ∃ m, n - t.length - 1 = m := ⟨_, rfl⟩
      have hrange := tab_range (n := m) HT.out (by omega) (by omega)
      rw [Nat.mul_comm] at hrange
      have hkl : kl ≤ 12 := by have := HB.out.pulses; omega
      have em : ((n : Int) - (t.length : Int) - 1) = (m : Int) := by omega
      have HM : Hid _ := hm
      have HA0 : Hid _ := HB.out.at_ hl
      clear hm HB
      go_wp2_with (first | (refine wpList_load_part rfl 45 (.tmp 39) rfl w2.heap.size _ rfl ((rowL m).map (Value.int .u64)) (rowC m) rfl 13 22 hrange Try.underlying45 (by rw [size_row]; simp [rowL]) ?_) | (refine wpList_alloc_zero rfl 45 rfl (some 13) rfl (.agg zer13) 13 info_row ?_; intro w7 h7 b7 s7) | (refine wpList_store_whole rfl 45 (.tmp 13) (.tmp 40) rfl wr.heap.size wr.heap.size (rowC m) rfl rfl 45 zer13 h7 (by rw [size_row, rowC_size]) (by rw [zer13_size, rowC_size]) (cel_one _) (Nat.le_refl _) ?_; intro w6 h6 b6 s6 o6; have hb6 := Below.trans b7 b6; obtain ⟨hg6, hcells⟩ := row_cells h6; have HC6 : Hid (∀ k, k < 13 → w6.cell? ⟨wr.heap.size, k, none⟩ = some (.int .u64 (V m k : Nat))) := hcells; clear h6 b6 s6 o6 b7 h7 s7 hcells))
      go_loop [2, 14] (fun iv v => ∃ p ir : Nat, p ≤ 2 * kl ∧ v = .int .i64 (pl p) ∧ iv = .int .u64 ir ∧ Hid (At n k i t kl p ir)) (fun _ v => 2 * kl + 1 - plc (intOf v))
      case atStart => exact ⟨0, il, by omega, rfl, rfl, HA0⟩
      case round =>
        clear HA0
        obtain ⟨p, ir, hp, rfl, rfl, HA⟩ := hrel
        have hp24 : p ≤ 24 := by omega
        have gk := HC6.out (kl - (p + 1) / 2) (by omega)
        have hsz2 := fun w => size_any (pl p) w (by have := pl_small p 12 hp24; omega) (by have := pl_small p 12 hp24; omega)
        rw [pl_abs] at hsz2
        have hhalf : (p + 1) / 2 ≤ kl := by omega
        have ez : ((kl : Int) - (((p + 1) / 2 : Nat) : Int)).toNat = kl - (p + 1) / 2 := by omega
        have e0 : (0 : Int) ≤ (kl : Int) - (((p + 1) / 2 : Nat) : Int) := by omega
        have e1 : (kl : Int) - (((p + 1) / 2 : Nat) : Int) < 13 := by omega
        have HPl : Hid (plc (pl p) = p ∧ plc (pl (p + 1)) = p + 1) := ⟨plc_pl _, plc_pl _⟩
        by_cases hpass : V m (kl - (p + 1) / 2) ≤ ir
        · have HA2 : Hid (At n k i t kl (p + 1) (ir - V m (kl - (p + 1) / 2))) := by
            have := HA.out.pass (by rw [HM.out]; exact hpass)
            rw [HM.out] at this
            exact this
          have hp2 : p + 1 ≤ 2 * kl := HA2.out.top
          have hnx := fun w => next_any p w (by omega)
          generalize pl p = P at *
          generalize pl (p + 1) = P2 at *
          generalize V m (kl - (p + 1) / 2) = X2 at *
          generalize (p + 1) / 2 = q at *
          have j1 : (X2 : Int) ≤ (ir : Int) := by omega
          clear HC6 HA
          go_wp2_with (first | (go_at_call 29; refine (hsz2 _).mono ?_; rintro e w' ⟨rfl, rfl⟩) | (go_at_call 28; refine (hnx _).mono ?_; rintro e w' ⟨rfl, rfl⟩))
          have hb64 : ir - X2 < 2 ^ 64 := by
            have h1 := HA2.out.room
            have h2 := V_small (n - t.length) kl (by omega) (by omega)
            omega
          refine ⟨⟨p + 1, ir - X2, hp2, by rw [← HPl.out.2, pl_plc], ?_, HA2⟩, ?_⟩
          · rw [show ((ir : Int) - (X2 : Int)) = ((ir - X2 : Nat) : Int) by omega, nat_u64 _ hb64]
          · show 2 * kl + 1 - plc P2 < 2 * kl + 1 - plc P
            rw [HPl.out.1, HPl.out.2]
            omega
        · have HB2 : Hid (Beg n k i (t ++ [pl p]) (kl - (p + 1) / 2) ir) := HA.out.take (by rw [HM.out]; omega)
          have HY2 : Hid (w6.heap[w4.heap.size]? = some (.cells ((fil n t).map (Value.int .i64)).toArray 3 (0, 0))) := (hb6.block _ hsz).trans HY.out
          have HT2 : Hid (w6.heap[w2.heap.size]? = some (.cells tabC 47 (0, 0))) := (hb6.block _ (by omega)).trans HT.out
          obtain ⟨y1, y2⟩ := cell_of_row HY2.out t.length (by rw [fil_len n t htn]; exact hl)
          have HS : Hid _ := row_set HY2.out t.length (pl p)
          rw [fil_set n t _ hl] at HS
          have hb7 := bthen hbr hb6 hbr.size
          have hz7 : w4.heap.size < w6.heap.size := Nat.lt_of_lt_of_le hsz hb6.size
          generalize (fil n t).getD t.length 0 = z at y1
          generalize pl p = P at *
          generalize V m (kl - (p + 1) / 2) = X2 at *
          generalize (p + 1) / 2 = q at *
          have j1 : ¬ ((X2 : Int) ≤ (ir : Int)) := by omega
          clear HC6 HA HPl
          go_wp2_with (go_at_call 29; refine (hsz2 _).mono ?_; rintro e w' ⟨rfl, rfl⟩)
          refine ⟨⟨t ++ [P], kl - q, ir, by simp; omega, by simp, by go_num, rfl, HB2, (heap_setCell_other _ _ _ _ (by show w2.heap.size ≠ w4.heap.size; omega)).trans HT2.out, HS, hb7.setCell (p := ⟨w4.heap.size, t.length, none⟩) hws _, by simpa [World.setCell] using hz7⟩, by simp [intOf]; omega⟩
    · have hte : t.length = n := by omega
      have HE : Hid _ := HB.out.end_ hte
      have HY2 : Hid (wr.heap[w4.heap.size]? = some (.cells (t.map (Value.int .i64)).toArray 3 (0, 0))) := by
        have := HY.out
        rw [fil_full n t hte] at this
        exact this
      clear HB HT HY hte
      go_wp2
      go_ret2
      exact ⟨w4.heap.size, t, rfl, RwF.of_row HY2.out HE.out.1 hws, HE.out.1, HE.out.2.1, HE.out.2.2, hbr⟩
end Go.Proofs.Ytfaoiophphofjaa
