/- Contracts of the document's Shape and Same. -/
import Derived.Test.YtiiiejhdeooabaaFj
namespace Go.Proofs.Ytiiiejhdeooabaa
open Go.RowKit
set_option linter.unusedVariables false
set_option linter.unusedSimpArgs false

set_option maxHeartbeats 2000000 in
theorem same64_yes (v1 v2 : Value) (xs : List Int) (w : World) (h1 : Rw .i64 w v1 xs) (h2 : Rw .i64 w v2 xs) (hl : xs.length ≤ 100) : Calls Try.prog 18 #[v1, v2] w fun e w' => e = .returned (.bool true) ∧ Below w.heap.size w w' := by
  obtain ⟨a1, c1, rfl, ha1⟩ := h1
  obtain ⟨a2, c2, rfl, ha2⟩ := h2
  obtain ⟨n, hn⟩ : ∃ n, xs.length = n := ⟨_, rfl⟩
  rw [hn] at ha1 ha2 hl ⊢
  have hnil : 0 < n → xs ≠ [] := fun h e => by rw [e] at hn; simp at hn; omega
  clear hn
  go_enter Try.func18, Try.ntmps18
  go_wp2
  go_loopw [5] (fun i wr => ∃ k : Nat, k ≤ n ∧ i = .int .i64 k ∧ Below w.heap.size w wr) (fun i _ => n - (intOf i).toNat)
  case atStart => exact ⟨0, by omega, rfl, Below.refl _ _⟩
  case round =>
    obtain ⟨k, hk, rfl, hnx⟩ := hrel
    by_cases hlt : k < n
    · obtain ⟨b1, o1, rfl, hb1, hc1⟩ := ha1.resolve_left (hnil (by omega))
      obtain ⟨b2, o2, rfl, hb2, hc2⟩ := ha2.resolve_left (hnil (by omega))
      have g1 := (hnx.cell (p := ⟨b1, o1 + k, none⟩) hb1).trans (hc1 k hlt)
      have g2 := (hnx.cell (p := ⟨b2, o2 + k, none⟩) hb2).trans (hc2 k hlt)
      clear ha1 ha2 hc1 hc2 hnil
      generalize xs.getD k 0 = x at *
      have i1 : (0 : Int) ≤ (k : Int) := by omega
      have i2 : (k : Int) < (n : Int) := by omega
      have i3 : IntKind.i64.wrap (k : Int) = k := wraps_i64 _ (by omega) (by omega)
      go_wp2
      go_quiet (fail)
      go_wp2
      exact ⟨⟨k + 1, by omega, by go_num, drewN_below hnx _⟩, by simp [intOf]; omega⟩
    · clear ha1 ha2 hnil
      go_wp2
      go_ret
      exact ⟨rfl, hnx⟩

set_option maxHeartbeats 4000000 in
theorem rshape_any (v : Value) (y : List Int) (r : Int) (s : Nat) (w : World) (hv : Rw .i64 w v y) (h : okB y = true) (r1 : 0 ≤ r) (r2 : r ≤ 4194304) (hs : Root (65536 * sq y y.length) s) : Calls Try.prog 19 #[v, .int .i64 r] w fun e w' => ∃ v', e = .returned v' ∧ Rw .i64 w' v' (tab y.length (shf y r s)) ∧ Below w.heap.size w w' := by
  obtain ⟨i0, hi, hz0, hz1, hz2⟩ := info_parts info_i64
  obtain ⟨h1, h2, h3⟩ := okB_parts h
  obtain ⟨a, cap, rfl, ha⟩ := hv
  obtain ⟨b, off, rfl, hlt, hc⟩ := ha.resolve_left (by intro h; subst h; simp at h1)
  clear ha
  have HC : Hid (∀ i, i < y.length → w.cell? ⟨b, off + i, none⟩ = some (.int .i64 (y.getD i 0))) := hc
  clear hc
  have i1 : (y.length : Int) ≤ 16 := by omega
  have HP : Hid (∀ i, (y.getD i 0).natAbs ≤ 12) := fun i => by have := ps_getD y i; omega
  have HQ : Hid (∀ j, j ≤ y.length → sq y j ≤ 144) := fun j hj => sq_144 y h3 j hj
  have HZ : Hid (∀ i w, Calls Try.prog 33 #[.int .i64 (y.getD i 0)] w fun e w' => e = .returned (.int .i64 ((y.getD i 0).natAbs : Nat)) ∧ w' = w) := fun i w => by
    have h := rsize_any (y.getD i 0) w (by have := HP.out i; omega) (by have := HP.out i; omega)
    rw [rsz_ok _ (HP.out i)] at h
    exact h
  have HR := hid hs
  clear hs h
  go_enter Try.func19, Try.ntmps19
  go_wp2
  go_loop [5, 6] (fun s i => ∃ j : Nat, j ≤ y.length ∧ i = .int .i64 j ∧ s = .int .u64 (sq y j : Nat)) (fun _ i => y.length - (intOf i).toNat)
  case atStart => exact ⟨0, by omega, rfl, rfl⟩
  case round =>
    obtain ⟨j, hj, rfl, rfl⟩ := hrel
    have hq := HQ.out j hj
    by_cases hl : j < y.length
    · have g := HC.out j hl
      have hb := HP.out j
      have hcc : (y.getD j 0).natAbs * (y.getD j 0).natAbs ≤ 12 * 12 := Nat.mul_le_mul hb hb
      have HN : Hid (sq y (j + 1) = sq y j + (y.getD j 0).natAbs * (y.getD j 0).natAbs) := rfl
      have hsz := HZ.out j
      generalize (y.getD j 0).natAbs = u at *
      obtain ⟨A, hA⟩ : ∃ A, u * u = A := ⟨_, rfl⟩
      have hm : (u : Int) * (u : Int) = (A : Int) := by rw [← hA]; simp
      rw [hA] at hcc HN
      clear hA
      generalize y.getD j 0 = z at *
      generalize sq y j = q at *
      go_wp2_with (go_at_call 33; refine (hsz _).mono ?_; rintro e w9 ⟨rfl, h9⟩; have h9 := h9.symm; subst h9)
      exact ⟨⟨j + 1, by omega, by go_num, by rw [HN.out]; go_num⟩, by simp [intOf]; omega⟩
    · have hje : j = y.length := by omega
      have HN : Hid (sq y y.length = sq y j) := by unfold Hid; rw [hje]
      rw [HN.out] at HR
      clear hje
      obtain ⟨N, hN⟩ : ∃ N, sq y j = N := ⟨_, rfl⟩
      rw [hN] at HR hq HN ⊢
      clear hN
      go_wp2
      go_loopw [8, 9] (fun o i wr => ∃ j : Nat, j ≤ y.length ∧ i = .int .i64 j ∧ wr.ownsRow w.heap.size 2 1 o j ((tab j (shf y r s)).map (Value.int .i64)) ∧ Below w.heap.size w wr) (fun _ i _ => y.length - (intOf i).toNat)
      case atStart => exact ⟨0, by omega, rfl, World.ownsRow_nil _ _ _ _, Below.refl _ _⟩
      case round =>
        obtain ⟨j, hj, rfl, hown, hbr⟩ := hrel
        have hsz := hbr.size
        by_cases hl2 : j < y.length
        · have g := (hbr.cell (p := ⟨b, off + j, none⟩) hlt).trans (HC.out j hl2)
          have HS : Hid ((tab (j + 1) (shf y r s)).map (Value.int .i64) = (tab j (shf y r s)).map (Value.int .i64) ++ [.int .i64 (shf y r s j)]) := by
            unfold Hid; rw [tab_push]; simp
          by_cases h0 : N = 0
          · have hN0 : ¬ (0 : Int) < (N : Int) := by omega
            have hy0 := sq_zero y y.length (HN.out.trans h0) j hl2
            have HF : Hid (shf y r s j = 0) := by unfold Hid shf; rw [hy0]; simp [near_zero]
            rw [HF.out] at HS
            rw [hy0] at g
            clear h0 hy0
            go_wp2_with (at_builtin; refine wpList_append_own _ rfl _ _ 22 rfl w.heap.size 2 i0 (.int .i64 0) 1 8 Try.underlying22 hi hz0 hz1 hz2 rfl (by decide) _ _ _ rfl (hown.alloc _) ⟨wr.heap.size, 0, none⟩ 1 1 [.int .i64 0] rfl rfl (cell_one_at rfl _ _) (one_cell _ _) ?c3 ?c4 ?c5 ?_)
            case c3 => unfold maxLen; omega
            case c4 => omega
            case c5 => first | omega | (simp; omega)
            intro v' w2 hown' hgrow _
            have hb2 := bgrow hbr hown (Nat.le_refl _) hgrow
            go_wp2
            exact ⟨⟨j + 1, by omega, by go_num, by rw [HS.out]; exact hown', hb2⟩, by simp [intOf]; omega⟩
          · have hN1 : 1 ≤ N := by omega
            have hs1 := root_pos HR.out hN1
            have hs2 := root_small HR.out hq
            have hrt := fun w => rootR (65536 * N) s (by omega) HR.out w
            have eN : ((65536 * N : Nat) : Int) = (N : Int) * 65536 := by omega
            rw [eN] at hrt
            have hsz2 := HZ.out j
            have hbp := HP.out j
            have hsq := sq_at y j y.length hl2
            rw [HN.out] at hsq
            have heach := root_each HR.out _ hsq
            obtain ⟨z1, z2⟩ := near_le ((y.getD j 0).natAbs : Nat) r s (by omega) r1 (by omega) (by omega)
            obtain ⟨p1, p2⟩ := prod_small ((y.getD j 0).natAbs : Nat) r (by omega) (by omega) r1 r2
            have hdv := fun w => divR_any (((y.getD j 0).natAbs : Nat) * r * 256) s (by unfold I64; omega) (by omega) (by unfold I64; omega) w
            have HF : Hid (shf y r s j = if y.getD j 0 < 0 then -near (((y.getD j 0).natAbs : Nat) * r * 256) s else near (((y.getD j 0).natAbs : Nat) * r * 256) s) := by
              unfold Hid shf
              by_cases hneg : y.getD j 0 < 0
              · rw [if_pos hneg, show (((y.getD j 0).natAbs : Nat) : Int) = -(y.getD j 0) by omega, ← near_neg]
                congr 1
                grind
              · rw [if_neg hneg, show (((y.getD j 0).natAbs : Nat) : Int) = y.getD j 0 by omega]
            clear h0 eN hsq heach
            by_cases hneg : y.getD j 0 < 0
            · rw [if_pos hneg] at HF
              rw [HF.out] at HS
              clear HF
              generalize near (((y.getD j 0).natAbs : Nat) * r * 256) s = z at *
              generalize (y.getD j 0).natAbs = u at *
              obtain ⟨M, hM⟩ : ∃ M, (u : Int) * r = M := ⟨_, rfl⟩
              rw [hM] at p1 p2 hdv
              generalize y.getD j 0 = x at *
              go_wp2_with (first | (go_at_call 33; refine (hsz2 _).mono ?_; rintro e w9 ⟨rfl, h9⟩; have h9 := h9.symm; subst h9) | (go_at_call 20; refine (hrt _).mono ?_; rintro e w9 ⟨rfl, h9⟩; have h9 := h9.symm; subst h9) | (go_at_call 34; refine (hdv _).mono ?_; rintro e w9 ⟨rfl, h9⟩; have h9 := h9.symm; subst h9) | (at_builtin; refine wpList_append_own _ rfl _ _ 22 rfl w.heap.size 2 i0 (.int .i64 0) 1 8 Try.underlying22 hi hz0 hz1 hz2 rfl (by decide) _ _ _ rfl (hown.alloc _) ⟨wr.heap.size, 0, none⟩ 1 1 [.int .i64 (-z)] rfl rfl (cell_one_at rfl _ _) (one_cell _ _) ?d3 ?d4 ?d5 ?_))
              case d3 => unfold maxLen; omega
              case d4 => omega
              case d5 => first | omega | (simp; omega)
              intro v' w2 hown' hgrow _
              have hb2 := bgrow hbr hown (Nat.le_refl _) hgrow
              go_wp2
              exact ⟨⟨j + 1, by omega, by go_num, by rw [HS.out]; exact hown', hb2⟩, by simp [intOf]; omega⟩
            · rw [if_neg hneg] at HF
              rw [HF.out] at HS
              clear HF
              generalize near (((y.getD j 0).natAbs : Nat) * r * 256) s = z at *
              generalize (y.getD j 0).natAbs = u at *
              obtain ⟨M, hM⟩ : ∃ M, (u : Int) * r = M := ⟨_, rfl⟩
              rw [hM] at p1 p2 hdv
              generalize y.getD j 0 = x at *
              go_wp2_with (first | (go_at_call 33; refine (hsz2 _).mono ?_; rintro e w9 ⟨rfl, h9⟩; have h9 := h9.symm; subst h9) | (go_at_call 20; refine (hrt _).mono ?_; rintro e w9 ⟨rfl, h9⟩; have h9 := h9.symm; subst h9) | (go_at_call 34; refine (hdv _).mono ?_; rintro e w9 ⟨rfl, h9⟩; have h9 := h9.symm; subst h9) | (at_builtin; refine wpList_append_own _ rfl _ _ 22 rfl w.heap.size 2 i0 (.int .i64 0) 1 8 Try.underlying22 hi hz0 hz1 hz2 rfl (by decide) _ _ _ rfl (hown.alloc _) ⟨wr.heap.size, 0, none⟩ 1 1 [.int .i64 z] rfl rfl (cell_one_at rfl _ _) (one_cell _ _) ?e3 ?e4 ?e5 ?_))
              case e3 => unfold maxLen; omega
              case e4 => omega
              case e5 => first | omega | (simp; omega)
              intro v' w2 hown' hgrow _
              have hb2 := bgrow hbr hown (Nat.le_refl _) hgrow
              go_wp2
              exact ⟨⟨j + 1, by omega, by go_num, by rw [HS.out]; exact hown', hb2⟩, by simp [intOf]; omega⟩
        · have hje : j = y.length := by omega
          rw [hje] at hown
          have R := hid (Rw.of_owns hown)
          clear hown hje
          go_wp2
          go_ret
          exact ⟨_, rfl, R.out, hbr⟩
end Go.Proofs.Ytiiiejhdeooabaa
