/- Contracts of the document's Pulses, and of Index by the program. -/
import Derived.Test.YtiiiejhdeooabaaEg
namespace Go.Proofs.Ytiiiejhdeooabaa
open Go.RowKit
set_option linter.unusedVariables false
set_option linter.unusedSimpArgs false

/-- The document's pulses: more than there may be are too many. -/
def rps : List Int → Nat
  | [] => 0
  | v :: t => rsz v + rps t
theorem rps_append (a b : List Int) : rps (a ++ b) = rps a + rps b := by
  induction a with
  | nil => simp [rps]
  | cons v t ih => simp only [List.cons_append, rps, ih]; omega
theorem rps_next (y : List Int) (j : Nat) (h : j < y.length) : rps (y.take (j + 1)) = rps (y.take j) + rsz (y.getD j 0) := by
  rw [take_next y j h, rps_append]; simp [rps]
theorem rps_ok (y : List Int) (h : ps y ≤ 12) : rps y = ps y := by
  induction y with
  | nil => rfl
  | cons v t ih =>
    simp only [ps] at h
    simp only [rps, ps]
    rw [ih (by omega), rsz_ok v (by omega)]
theorem rps_no (y : List Int) (h : 12 < ps y) : 12 < rps y := by
  induction y with
  | nil => simp [ps] at h
  | cons v t ih =>
    simp only [ps] at h
    simp only [rps]
    by_cases hv : v.natAbs ≤ 12
    · rw [rsz_ok v hv]
      by_cases ht : ps t ≤ 12
      · rw [rps_ok t ht]; omega
      · have := ih (by omega); omega
    · have : rsz v = 13 := by unfold rsz; rw [if_neg hv]
      omega

set_option maxHeartbeats 1000000 in
theorem rpulses_any (v : Value) (y : List Int) (w : World) (hv : Rw .i64 w v y) (hf : Fits y) (hl : y.length ≤ 100) : Calls Try.prog 17 #[v] w fun e w' => e = .returned (.int .i64 (rps y : Nat)) ∧ w' = w := by
  obtain ⟨a, cap, rfl, ha⟩ := hv
  have i1 : (y.length : Int) ≤ 100 := by omega
  go_enter Try.func17, Try.ntmps17
  go_wp2
  go_loop [3, 4] (fun s i => ∃ j : Nat, j ≤ y.length ∧ i = .int .i64 j ∧ s = .int .i64 (rps (y.take j) : Nat) ∧ rps (y.take j) ≤ 13 * j) (fun _ i => y.length - (intOf i).toNat)
  case atStart => exact ⟨0, by omega, rfl, rfl, by simp [rps]⟩
  case round =>
    obtain ⟨j, hj, rfl, rfl, hps⟩ := hrel
    by_cases hlt : j < y.length
    · obtain ⟨b, off, rfl, hbl, hc⟩ := ha.resolve_left (by intro h; subst h; simp at hlt)
      have g := hc j hlt
      clear hc ha
      have hx := hf j
      have HN : Hid _ := rps_next y j hlt
      have hsz := fun w => rsize_any (y.getD j 0) w hx.1 hx.2
      have h13 := rsz_le (y.getD j 0)
      generalize y.getD j 0 = x at *
      generalize rsz x = z at *
      generalize rps (y.take j) = s at *
      go_wp2_with (go_at_call 33; refine (hsz _).mono ?_; rintro e w' ⟨rfl, rfl⟩)
      exact ⟨⟨j + 1, by omega, by go_num, by rw [HN.out]; go_num, by rw [HN.out]; omega⟩, by simp [intOf]; omega⟩
    · have hje : j = y.length := by omega
      have HP : Hid (rps y = rps (y.take j)) := by unfold Hid; rw [hje, List.take_length]
      generalize rps (y.take j) = s at *
      clear hje ha
      go_wp2
      go_ret
      exact ⟨ret_int (by rw [HP.out]), rfl⟩

def zer13 : Array Value := cel (List.replicate 13 0)
theorem info_row : (Try.prog.info? 70).map (fun i => (i.zero, i.size)) = some (some (.agg zer13), 13) := by kernel_rfl
theorem zer13_size : zer13.size = 13 := by unfold zer13; rw [cel_size]; simp
theorem row_cells {w : World} {g m : Nat} {t : TypeId} (h : w.heap[g]? = some (.cells (rowC m) t (0, 0))) : g < w.heap.size ∧ ∀ k, k < 13 → w.cell? ⟨g, k, none⟩ = some (.int .u64 (V m k : Nat)) := by
  refine ⟨block_in h, fun k hk => ?_⟩
  rw [Go.cell_of_row w g k (rowC m) t (0, 0) h]
  exact rowC_at m k hk

/-- What a round of the number's loop wants. -/
theorem idx_round (y : List Int) (j : Nat) (hj : j < y.length) (hK : ps y ≤ 12) (hn : y.length ≤ 16) :
    ∃ m kl I : Nat, y.length - j - 1 = m ∧ ps y - ps (y.take j) = kl ∧ ix y.length (ps y) (y.take j) = I ∧ m ≤ 15 ∧ kl ≤ 12 ∧ (y.getD j 0).natAbs ≤ kl ∧
      (∀ p, p ≤ plc (y.getD j 0) → I + A m kl p ≤ 104485552128) ∧ ix y.length (ps y) (y.take (j + 1)) = I + A m kl (plc (y.getD j 0)) ∧ ps y - ps (y.take (j + 1)) = kl - (y.getD j 0).natAbs := by
  have h1 := ps_at y j hj
  have h2 := ix_next y y.length (ps y) j hj
  have h3 := ps_next y j hj
  have h4 := ix_le (y.take (j + 1)) y.length (ps y) (by rw [List.length_take]; omega) (ps_take y _)
  have h5 := V_small y.length (ps y) hn (by omega)
  refine ⟨_, _, _, rfl, rfl, rfl, by omega, by omega, by omega, fun p hp => ?_, h2, by omega⟩
  have := A_mono (y.length - j - 1) (ps y - ps (y.take j)) hp
  omega
theorem pass_half (p : Nat) (x : Int) (kl : Nat) (h : p < plc x) (hx : x.natAbs ≤ kl) : (p + 1) / 2 ≤ kl := by
  have := plc_le x
  omega

theorem index_no (v : Value) (y : List Int) (w : World) (hv : Rw .i64 w v y) (hf : Fits y) (h : okB y = false) : Calls Try.prog 30 #[v] w fun e w' => e = .returned (.tuple #[.int .u64 0, .int .i64 1]) ∧ w' = w := by
  go_enter Try.func30, Try.ntmps30
  go_wp2_with (go_at_call 37; refine (pulses_any _ y _ hv hf).mono ?_; rintro e w1 ⟨⟨s, rfl, _⟩, rfl⟩; rw [h])
  go_ret2
  exact ⟨rfl, rfl⟩

set_option maxHeartbeats 4000000 in
theorem index_ok (v : Value) (y : List Int) (w : World) (hv : Rw .i64 w v y) (hf : Fits y) (h : okB y = true) : Calls Try.prog 30 #[v] w fun e w' => e = .returned (.tuple #[.int .u64 (ix y.length (ps y) y : Nat), .int .i64 0]) ∧ Below w.heap.size w w' := by
  obtain ⟨h1, h2, h3⟩ := okB_parts h
  have hv0 := hv
  obtain ⟨a, cap, rfl, ha⟩ := hv
  obtain ⟨b, off, rfl, hlt, hc⟩ := ha.resolve_left (by intro h; subst h; simp at h1)
  clear ha
  have HC : Hid (∀ i, i < y.length → w.cell? ⟨b, off + i, none⟩ = some (.int .i64 (y.getD i 0))) := hc
  clear hc
  have i1 : (y.length : Int) ≤ 16 := by omega
  go_enter Try.func30, Try.ntmps30
  go_wp2_with (first | (go_at_call 37; refine (pulses_any _ y _ hv0 hf).mono ?_; rintro e w1 ⟨⟨s, rfl, hs⟩, rfl⟩; have := hs h; subst this; rw [h]; clear hs) | (go_at_call 38; refine (all_any _).mono ?_; rintro e w2 ⟨rfl, hb2⟩) | (refine wpList_alloc_zero rfl 72 rfl (some 6) rfl (.agg zer) 221 info_counts ?_; intro w3 h3' b3 s3) | (refine wpList_store_whole rfl 72 (.tmp 6) (.tmp 19) rfl w2.heap.size w2.heap.size tabC rfl rfl 72 zer h3' (by rw [size_counts, tabC_size]) (by rw [zer_size, tabC_size]) (cel_one _) (Nat.le_refl _) ?_; intro w4 h4 b4 s4 o4; have hbw := bthen' hb2 ((Below.trans b3 b4)); have HT4 : Hid (w4.heap[w2.heap.size]? = some (.cells tabC 72 (0, 0))) := h4; have hsz4 : w2.heap.size < w4.heap.size := block_in h4; clear h4 b4 s4 o4 h3' b3 s3))
  go_loopw [4, 7, 22] (fun l i c wr => ∃ j : Nat, j ≤ y.length ∧ c = .int .i64 j ∧ l = .int .i64 (ps y - ps (y.take j) : Nat) ∧ i = .int .u64 (ix y.length (ps y) (y.take j) : Nat) ∧ Hid (wr.heap[w2.heap.size]? = some (.cells tabC 72 (0, 0))) ∧ Below w1.heap.size w1 wr ∧ w2.heap.size < wr.heap.size) (fun _ _ c _ => y.length - (intOf c).toNat)
  case atStart => exact ⟨0, by omega, rfl, by simp [ps], by simp [ix], HT4, hbw, hsz4⟩
  case round =>
    clear HT4 hbw hsz4
    obtain ⟨j, hj, rfl, rfl, rfl, HT, hbr, hsz⟩ := hrel
    by_cases hl : j < y.length
    · have g := (hbr.cell (p := ⟨b, off + j, none⟩) hlt).trans (HC.out j hl)
      obtain ⟨m, kl, I, hm, hkl, hI, hm15, hk12, hxk, hroom, hnext, hleft⟩ := idx_round y j hl h3 h2
      have hrange := tab_range (n := m) HT.out (by omega) (by omega)
      rw [Nat.mul_comm] at hrange
      have HNx : Hid _ := hnext
      have HLf : Hid _ := hleft
      clear hnext hleft
      rw [hkl, hI]
      generalize y.getD j 0 = x at *
      have em : ((y.length : Int) - (j : Int) - 1) = (m : Int) := by omega
      have hx1 : -12 ≤ x := by omega
      have hx2 : x ≤ 12 := by omega
      have HR : Hid _ := hroom
      have HM : Hid _ := hm
      have HKL : Hid _ := hkl
      have HI : Hid _ := hI
      clear hroom hm hkl hI
      go_wp2_with (first | (refine wpList_load_part rfl 70 (.tmp 32) rfl w2.heap.size _ rfl ((rowL m).map (Value.int .u64)) (rowC m) rfl 13 24 hrange Try.underlying70 (by rw [size_row]; simp [rowL]) ?_) | (refine wpList_alloc_zero rfl 70 rfl (some 10) rfl (.agg zer13) 13 info_row ?_; intro w5 h5 b5 s5) | (refine wpList_store_whole rfl 70 (.tmp 10) (.tmp 33) rfl wr.heap.size wr.heap.size (rowC m) rfl rfl 70 zer13 h5 (by rw [size_row, rowC_size]) (by rw [zer13_size, rowC_size]) (cel_one _) (Nat.le_refl _) ?_; intro w6 h6 b6 s6 o6; have hb6 := Below.trans b5 b6; obtain ⟨hg6, hcells⟩ := row_cells h6; have HC6 : Hid (∀ k, k < 13 → w6.cell? ⟨wr.heap.size, k, none⟩ = some (.int .u64 (V m k : Nat))) := hcells; clear h6 b6 s6 o6 b5 h5 s5 hcells))
      go_loop [7, 11] (fun i v => ∃ p : Nat, p ≤ plc x ∧ v = .int .i64 (pl p) ∧ i = .int .u64 (I + A m kl p : Nat)) (fun _ v => plc x - plc (intOf v))
      case atStart => exact ⟨0, by omega, rfl, rfl⟩
      case round =>
        obtain ⟨p, hp, rfl, rfl⟩ := hrel
        by_cases hpx : p < plc x
        · have hhalf := pass_half p x kl hpx hxk
          have hle := plc_le x
          have hp24 : p ≤ 24 := by omega
          have gk := HC6.out (kl - (p + 1) / 2) (by omega)
          have HA : Hid _ := A_succ m kl p
          have hr := HR.out (p + 1) hpx
          rw [HA.out] at hr
          have hnx := fun w => next_any p w (by omega)
          have hsz2 := fun w => size_any (pl p) w (by have := pl_small p 12 hp24; omega) (by have := pl_small p 12 hp24; omega)
          rw [pl_abs] at hsz2
          have hne : (pl p != x) = true := by
            simp only [bne_iff_ne, ne_eq]
            intro e
            rw [← e, plc_pl] at hpx
            omega
          have HPl : Hid (plc (pl p) = p ∧ plc (pl (p + 1)) = p + 1) := ⟨plc_pl _, plc_pl _⟩
          generalize pl p = P at *
          generalize pl (p + 1) = P2 at *
          generalize A m kl p = a0 at *
          generalize V m (kl - (p + 1) / 2) = X at *
          have ez : ((kl : Int) - (((p + 1) / 2 : Nat) : Int)).toNat = kl - (p + 1) / 2 := by omega
          have e0 : (0 : Int) ≤ (kl : Int) - (((p + 1) / 2 : Nat) : Int) := by omega
          have e1 : (kl : Int) - (((p + 1) / 2 : Nat) : Int) < 13 := by omega
          generalize (p + 1) / 2 = q at *
          clear HC6 HR
          go_wp2_with (first | (go_at_call 40; refine (hsz2 _).mono ?_; rintro e w' ⟨rfl, rfl⟩) | (go_at_call 39; refine (hnx _).mono ?_; rintro e w' ⟨rfl, rfl⟩))
          refine ⟨⟨p + 1, hpx, by rw [← HPl.out.2, pl_plc], by rw [HA.out]; go_num⟩, ?_⟩
          show plc x - plc P2 < plc x - plc P
          rw [HPl.out.1, HPl.out.2]
          omega
        · have hpe : p = plc x := by omega
          subst hpe
          rw [pl_plc] at *
          have hsz2 := fun w => size_any x w (by omega) (by omega)
          have HI2 : Hid (ix y.length (ps y) (y.take (j + 1)) = I + A m kl (plc x)) := HNx
          have HL2 : Hid (ps y - ps (y.take (j + 1)) = kl - x.natAbs) := HLf
          have HT2 : Hid (w6.heap[w2.heap.size]? = some (.cells tabC 72 (0, 0))) := (hb6.block _ hsz).trans HT.out
          have hb7 := bthen hbr hb6 hbr.size
          have hz7 : w2.heap.size < w6.heap.size := Nat.lt_of_lt_of_le hsz hb6.size
          generalize A m kl (plc x) = a0 at *
          obtain ⟨z, hz⟩ : ∃ z : Nat, x.natAbs = z := ⟨_, rfl⟩
          rw [hz] at hsz2 hxk HL2
          clear HR HC6 hz hpx hp HLf HNx
          go_wp2_with (go_at_call 40; refine (hsz2 _).mono ?_; rintro e w' ⟨rfl, rfl⟩)
          exact ⟨⟨j + 1, by omega, by go_num, by rw [HL2.out]; go_num, by rw [HI2.out]; go_num, HT2, hb7, hz7⟩, by simp [intOf]; omega⟩
    · have hje : j = y.length := by omega
      have HI : Hid (ix y.length (ps y) y = ix y.length (ps y) (y.take j)) := by unfold Hid; rw [hje, List.take_length]
      generalize ix y.length (ps y) (y.take j) = I at *
      generalize ps y - ps (y.take j) = kl at *
      clear hje HT
      go_wp2
      go_ret2
      exact ⟨by rw [HI.out]; rfl, hbr⟩
end Go.Proofs.Ytiiiejhdeooabaa
