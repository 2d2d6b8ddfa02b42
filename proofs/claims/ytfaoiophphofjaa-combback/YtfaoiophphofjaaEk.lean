/- Contract of the document's Index. -/
import Derived.Test.YtfaoiophphofjaaEj
namespace Go.Proofs.Ytfaoiophphofjaa
open Go.RowKit
set_option linter.unusedVariables false
set_option linter.unusedSimpArgs false

theorem rsz_pl (p : Nat) (h : p ≤ 24) : rsz (pl p) = (p + 1) / 2 := by
  rw [rsz_ok _ (by rw [pl_abs]; omega), pl_abs]

set_option maxHeartbeats 4000000 in
theorem rindex_ok (v : Value) (y : List Int) (w : World) (hv : Rw .i64 w v y) (hf : Fits y) (h : okB y = true) : Calls Try.prog 18 #[v] w fun e w' => e = .returned (.int .u64 (ix y.length (ps y) y : Nat)) ∧ Below w.heap.size w w' := by
  obtain ⟨h1, h2, h3⟩ := okB_parts h
  have hv0 := hv
  have hpul := fun w hv => rpulses_any v y w hv hf (by omega)
  rw [rps_ok y h3] at hpul
  obtain ⟨a, cap, rfl, ha⟩ := hv
  obtain ⟨b, off, rfl, hlt, hc⟩ := ha.resolve_left (by intro h; subst h; simp at h1)
  clear ha
  have HC : Hid (∀ i, i < y.length → w.cell? ⟨b, off + i, none⟩ = some (.int .i64 (y.getD i 0))) := hc
  clear hc
  have i1 : (y.length : Int) ≤ 16 := by omega
  go_enter Try.func18, Try.ntmps18
  go_wp2_with (go_at_call 17; refine (hpul _ hv0).mono ?_; rintro e w1 ⟨rfl, rfl⟩)
  go_loopw [3, 4, 5] (fun l i c wr => ∃ j : Nat, j ≤ y.length ∧ c = .int .i64 j ∧ l = .int .i64 (ps y - ps (y.take j) : Nat) ∧ i = .int .u64 (ix y.length (ps y) (y.take j) : Nat) ∧ Below w1.heap.size w1 wr) (fun _ _ c _ => y.length - (intOf c).toNat)
  case atStart => exact ⟨0, by omega, rfl, by simp [ps], by simp [ix], Below.refl _ _⟩
  case round =>
    obtain ⟨j, hj, rfl, rfl, rfl, hbr⟩ := hrel
    by_cases hl : j < y.length
    · have HG : Hid (∀ W, Below w1.heap.size w1 W → W.cell? ⟨b, off + j, none⟩ = some (.int .i64 (y.getD j 0))) := fun W hW => (hW.cell (p := ⟨b, off + j, none⟩) hlt).trans (HC.out j hl)
      obtain ⟨m, kl, I, hm, hkl, hI, hm15, hk12, hxk, hroom, hnext, hleft⟩ := idx_round y j hl h3 h2
      have HNx : Hid _ := hnext
      have HLf : Hid _ := hleft
      clear hnext hleft
      rw [hkl, hI]
      generalize y.getD j 0 = x at *
      have em : ((y.length : Int) - (j : Int) - 1) = (m : Int) := by omega
      have hx1 : -12 ≤ x := by omega
      have hx2 : x ≤ 12 := by omega
      have HR : Hid _ := hroom
      clear hroom hm hkl hI hpul
      have hrow := fun w => row_any m w (by omega)
      have hord := fun w => order_any kl w hk12
      obtain ⟨M, hM⟩ : ∃ M, 2 * kl + 1 = M := ⟨_, rfl⟩
      simp only [hM] at hord
      have HM : Hid (2 * kl + 1 = M) := hM
      have hM25 : M ≤ 25 := by omega
      clear hM
      go_wp2_with (first | (go_at_call 25; refine (hrow _).mono ?_; rintro e wa ⟨rb, rcap, rfl, rb1, rb2, rcells, hba⟩) | (go_at_call 31; refine (hord _).mono ?_; rintro e wb ⟨ob, ocap, rfl, ob1, ob2, ocells, hbb⟩; have HRC : Hid (∀ W, Below wb.heap.size wb W → ∀ k, k < 13 → W.cell? ⟨rb, k, none⟩ = some (.int .u64 (V m k : Nat))) := (fun W hW k hk => ((bthen' hbb hW).cell (p := ⟨rb, k, none⟩) rb2).trans (rcells k hk)); have HOC : Hid (∀ W, Below wb.heap.size wb W → ∀ p, p < M → W.cell? ⟨ob, p, none⟩ = some (.int .i64 (pl p))) := (fun W hW p hp => (hW.cell (p := ⟨ob, p, none⟩) ob2).trans (ocells p hp)); have hwb := bthen hbr (bthen' hba hbb) hbr.size; clear rcells ocells))
      obtain ⟨W1, rfl⟩ : ∃ x, x = wr := ⟨wr, rfl⟩
      go_loopw [4, 8] (fun i c wr => ∃ p : Nat, p ≤ plc x ∧ c = .int .i64 p ∧ i = .int .u64 (I + A m kl p : Nat) ∧ Below wb.heap.size wb wr) (fun _ c _ => plc x - (intOf c).toNat)
      case atStart => exact ⟨0, by omega, rfl, rfl, Below.refl _ _⟩
      case round =>
        obtain ⟨p, hp, rfl, rfl, hbr2⟩ := hrel
        have hle := plc_le x
        have hpM : p < M := by have := HM.out; omega
        have hp24 : p ≤ 24 := by omega
        have hbw2 := bthen hwb hbr2 hwb.size
        have gy := HG.out _ hbw2
        have go := HOC.out _ hbr2 p hpM
        have c1 : (0 : Int) ≤ (p : Int) := by omega
        have c2 : (p : Int) < (M : Int) := by omega
        have c3 : IntKind.i64.wrap (p : Int) = p := wraps_i64 _ (by omega) (by omega)
        have c4 : (0 : Int) ≤ (j : Int) := by omega
        have c5 : (j : Int) < (y.length : Int) := by omega
        have c6 : IntKind.i64.wrap (j : Int) = j := wraps_i64 _ (by omega) (by omega)
        by_cases hpx : p < plc x
        · have hhalf := pass_half p x kl hpx hxk
          have gk := fun n => HRC.out _ (drewN_below hbr2 n) (kl - (p + 1) / 2) (by omega)
          have HA : Hid _ := A_succ m kl p
          have hr := HR.out (p + 1) hpx
          rw [HA.out] at hr
          have hsz2 := fun w => rsize_any (pl p) w (by have := pl_small p 12 hp24; omega) (by have := pl_small p 12 hp24; omega)
          rw [rsz_pl p hp24] at hsz2
          have hne : (pl p != x) = true := by
            simp only [bne_iff_ne, ne_eq]
            intro e
            rw [← e, plc_pl] at hpx
            omega
          generalize pl p = P at *
          generalize A m kl p = a0 at *
          generalize V m (kl - (p + 1) / 2) = X at *
          have ez : ((kl : Int) - (((p + 1) / 2 : Nat) : Int)).toNat = kl - (p + 1) / 2 := by omega
          have e0 : (0 : Int) ≤ (kl : Int) - (((p + 1) / 2 : Nat) : Int) := by omega
          have e1 : (kl : Int) - (((p + 1) / 2 : Nat) : Int) < 13 := by omega
          generalize (p + 1) / 2 = q at *
          clear HR HRC HOC HG HC
          go_wp2
          go_quiet (fail)
          go_wp2_with (go_at_call 30; refine (hsz2 _).mono ?_; rintro e w' ⟨rfl, rfl⟩)
          exact ⟨⟨p + 1, hpx, by go_num, by rw [HA.out]; go_num, drewN_below hbr2 _⟩, by simp [intOf]; omega⟩
        · have hpe : p = plc x := by omega
          rw [hpe, pl_plc] at go
          rw [← hpe] at go
          have hsz2 := fun w => rsize_any x w (by omega) (by omega)
          rw [rsz_ok x (by omega)] at hsz2
          have HI2 : Hid (ix y.length (ps y) (y.take (j + 1)) = I + A m kl p) := by rw [hpe]; exact HNx
          have HL2 : Hid (ps y - ps (y.take (j + 1)) = kl - x.natAbs) := HLf
          generalize A m kl p = a0 at *
          obtain ⟨z, hz⟩ : ∃ z : Nat, x.natAbs = z := ⟨_, rfl⟩
          rw [hz] at hsz2 hxk HL2
          clear HR HRC HOC HG HC hz hpx hp hpe HLf HNx hle
          go_wp2
          go_quiet (fail)
          go_wp2_with (go_at_call 30; refine (hsz2 _).mono ?_; rintro e w' ⟨rfl, rfl⟩)
          exact ⟨⟨j + 1, by omega, by go_num, by rw [HL2.out]; go_num, by rw [HI2.out]; go_num, drewN_below hbw2 _⟩, by simp [intOf]; omega⟩
    · have hje : j = y.length := by omega
      have HI : Hid (ix y.length (ps y) y = ix y.length (ps y) (y.take j)) := by unfold Hid; rw [hje, List.take_length]
      generalize ix y.length (ps y) (y.take j) = I at *
      generalize ps y - ps (y.take j) = kl at *
      clear hje
      go_wp2
      go_ret
      exact ⟨ret_int (by rw [HI.out]), hbr⟩
end Go.Proofs.Ytfaoiophphofjaa
