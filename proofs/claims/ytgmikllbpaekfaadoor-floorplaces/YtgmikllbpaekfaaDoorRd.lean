/- Contracts: a piece of the line drawn in place; the program's posts for gains. -/
import Derived.Test.YtgmikllbpaekfaaDoorRc
import Derived.Deep.RegionWith
import Derived.Deep.DeepCutAuto
import Derived.Deep.CutRange
namespace Go.Proofs.YtgmikllbpaekfaaDoor
open Go.RowKit
set_option linter.unusedVariables false
set_option linter.unusedSimpArgs false

set_option maxHeartbeats 2000000 in
theorem fdraw_any (g o n c : Nat) (y z : Int) (x : List Int) (w : World) (h : Blk .i64 3 w g x) (hl : o + n ≤ x.length) (hn : 1 ≤ n) (hn2 : n ≤ 16) (ho : o ≤ 100) (y0 : 0 ≤ y) (y1 : y ≤ 44) (z0 : 0 ≤ z) (z1 : z ≤ 44) :
    Calls Tryd.prog 25 #[.slice (some ⟨g, o, none⟩) n c, .int .i64 y, .int .i64 z] w fun e w' => e = .returned (.tuple #[]) ∧ Blk .i64 3 w' g (drK x o n y z n) ∧ w.grownBy w' (some g) := by
  have HH := hid h
  have HL := hid hl
  have HS : Hid (∀ k, k ≤ n → 0 ≤ stp y z k n ∧ stp y z k n ≤ 44) := fun k hk => by
    have := stp_bd y z hk (by omega)
    by_cases c : y ≤ z
    · have := this.1 c; omega
    · have := this.2 (by omega); omega
  clear h hl
  obtain ⟨D, hD⟩ : ∃ D, z - y = D := ⟨_, rfl⟩
  have d1 : -44 ≤ D := by omega
  have d2 : D ≤ 44 := by omega
  have N1 : (1 : Int) ≤ (n : Int) := by omega
  have N2 : (n : Int) ≤ 16 := by omega
  go_enter Tryd.func25, Tryd.ntmps25
  go_wp2
  go_loopw [9] (fun i wr => ∃ k : Nat, k ≤ n ∧ i = .int .i64 k ∧ Blk .i64 3 wr g (drK x o n y z k) ∧ w.grownBy wr (some g)) (fun i _ => n - (intOf i).toNat)
  case atStart => exact ⟨0, by omega, rfl, by rw [drK_zero]; exact HH.out, World.grownBy.refl _ _⟩
  case round =>
    obtain ⟨k, hk, rfl, hbl, hgr⟩ := hrel
    have HR := hid hbl
    have HG := hid hgr
    clear hbl hgr
    by_cases hlt : k < n
    · have hin : o + k < (drK x o n y z k).length := by rw [drK_len]; have := HL.out; omega
      have q1 := HR.out.cell (o + k) hin
      have q2 := HR.out.free (o + k) hin
      have HN := hid (drK_next x o n y z k (by have := HL.out; omega))
      have hs := HS.out k hk
      have hsd : stp y z k n = y + (D * (k : Int)).tdiv (n : Int) := by unfold stp; rw [hD]
      obtain ⟨M, hM⟩ : ∃ M : Int, D * (k : Int) = M := ⟨_, rfl⟩
      have m1 : -704 ≤ M := by
        have : (-44) * (k : Int) ≤ D * (k : Int) := Int.mul_le_mul_of_nonneg_right d1 (by omega)
        omega
      have m2 : M ≤ 704 := by
        have : D * (k : Int) ≤ 44 * (k : Int) := Int.mul_le_mul_of_nonneg_right d2 (by omega)
        omega
      rw [hM] at hsd
      obtain ⟨Q, hQ⟩ : ∃ Q : Int, M.tdiv (n : Int) = Q := ⟨_, rfl⟩
      rw [hQ] at hsd
      have q3 : -44 ≤ Q := by omega
      have q4 : Q ≤ 44 := by omega
      obtain ⟨S, hS⟩ : ∃ S, y + Q = S := ⟨_, rfl⟩
      have hSd : stp y z k n = S := by rw [hsd, hS]
      rw [hSd] at HN
      have k1 : (k : Int) < (n : Int) := by omega
      have k0 : (0 : Int) ≤ (k : Int) := by omega
      generalize (drK x o n y z k).getD (o + k) 0 = U at *
      clear hin hs hsd hSd
      go_wp2
      exact ⟨⟨k + 1, by omega, by go_num, by rw [← HN.out]; exact HR.out.set (o + k) S, grown_set HG.out g (o + k) (.inr rfl) _⟩, by simp [intOf]; omega⟩
    · have hke : k = n := by omega
      have R1 : Hid (Blk .i64 3 wr g (drK x o n y z n)) := by
        have := HR.out
        rw [hke] at this
        exact this
      have k1 : ¬ (k : Int) < (n : Int) := by omega
      clear hke HR
      go_wp2
      go_end0
      exact ⟨rfl, R1.out, HG.out⟩

theorem info_fint : (Tryd.prog.info? 3).map (fun i => (i.zero, i.size, i.bytes)) = some (some (.int .i64 0), 1, 8) := by kernel_rfl
theorem info_fi64 : (Tryd.prog.info? 2).map (fun i => (i.zero, i.size, i.bytes)) = some (some (.int .i64 0), 1, 8) := by kernel_rfl
/-- What Fit refuses. -/
theorem ffit_no (a : Option Addr) (cap : Nat) (x : List Int) (q : Int) (w : World) (hv : Rw .i64 w (.slice a x.length cap) x) (hn : x.length ≤ 100) (h : ¬ (gokB x = true ∧ 0 ≤ q ∧ q ≤ 12)) : Calls Tryd.prog 18 #[.slice a x.length cap, .int .i64 q] w fun e w' => e = .returned (.tuple #[.slice none 0 0, .int .i64 1]) ∧ w' = w := by
  have ha := fun w hv => far_any (.slice a x.length cap) x w hv hn
  by_cases h5 : x.length = 5
  · rw [h5] at hv ha ⊢
    cases hg : arB x
    · rw [hg] at ha
      clear h h5 hn hg
      go_enter Tryd.func18, Tryd.ntmps18
      go_wp2_with (go_at_call 24; refine (ha _ hv).mono ?_; rintro e w9 ⟨rfl, h9⟩; have h9 := h9.symm; subst h9)
      go_ret2
      exact ⟨rfl, rfl⟩
    · rw [hg] at ha
      have hgok : gokB x = true := by rw [gok_ar, hg, decide_eq_true h5]; rfl
      by_cases q0 : q < 0
      · clear h h5 hn hg hgok
        go_enter Tryd.func18, Tryd.ntmps18
        go_wp2_with (go_at_call 24; refine (ha _ hv).mono ?_; rintro e w9 ⟨rfl, h9⟩; have h9 := h9.symm; subst h9)
        go_ret2
        exact ⟨rfl, rfl⟩
      · have q1 : 12 < q := by
          by_cases c : 12 < q
          · exact c
          · exact absurd ⟨hgok, by omega, by omega⟩ h
        have q2 : 0 ≤ q := by omega
        clear h h5 hn hg hgok q0
        go_enter Tryd.func18, Tryd.ntmps18
        go_wp2_with (go_at_call 24; refine (ha _ hv).mono ?_; rintro e w9 ⟨rfl, h9⟩; have h9 := h9.symm; subst h9)
        go_ret2
        exact ⟨rfl, rfl⟩
  · have e : ((x.length : Int) != 5) = true := by simpa using fun e => h5 (by omega)
    clear ha h h5 hn hv
    generalize x.length = n at *
    go_enter Tryd.func18, Tryd.ntmps18
    go_wp2
    go_ret2
    exact ⟨rfl, rfl⟩

def fitK (x : List Int) (q : Int) (k : Nat) : List Int := tab 6 fun i => if i < k then flFit x q i else 0
theorem fitK_zero (x : List Int) (q : Int) : (tab 6 fun _ => 0) = fitK x q 0 := tab_congr fun j hj => by rw [if_neg (by omega)]
theorem fitK_all (x : List Int) (q : Int) : fitK x q 6 = fitL x q := tab_congr fun j hj => by rw [if_pos (by omega)]
theorem fitK_next (x : List Int) (q : Int) (k : Nat) (h : k < 6) : (fitK x q k).set k (flFit x q k) = fitK x q (k + 1) := by
  unfold fitK
  rw [tab_set _ _ _ _ h]
  refine tab_congr fun j hj => ?_
  by_cases e : j = k
  · subst e; rw [if_pos rfl, if_pos (by omega)]
  · rw [if_neg e]
    by_cases c : j < k
    · rw [if_pos c, if_pos (by omega)]
    · rw [if_neg c, if_neg (by omega)]
theorem fitL_zero (x : List Int) : (tab 6 fun _ => 0) = fitL x 0 := tab_congr fun j hj => (fit_zero x j).symm

set_option maxHeartbeats 4000000 in
theorem ffit_ok (a : Option Addr) (cap : Nat) (x : List Int) (q : Int) (w : World) (hv : Rw .i64 w (.slice a x.length cap) x) (hg : gokB x = true) (q0 : 0 ≤ q) (q1 : q ≤ 12) : Calls Tryd.prog 18 #[.slice a x.length cap, .int .i64 q] w fun e w' => ∃ g, e = .returned (.tuple #[.slice (some ⟨g, 0, none⟩) 6 6, .int .i64 0]) ∧ Blk .i64 3 w' g (fitL x q) ∧ w.heap.size ≤ g ∧ Below w.heap.size w w' := by
  obtain ⟨i1, hi1, hy0, hy1, hy2⟩ := info_parts info_fint
  have ha := fun w hv => far_any (.slice a x.length cap) x w hv (by rw [gok_len hg]; omega)
  rw [arB_of (fun j hj => gok_bd hg j (by have := gok_len hg; omega))] at ha
  have h5 := gok_len hg
  rw [h5] at hv ha ⊢
  by_cases hq : q = 0
  · subst hq
    have HZ := hid (fitL_zero x)
    clear h5 hg
    go_enter Tryd.func18, Tryd.ntmps18
    go_wp2_with (first | (go_at_call 24; refine (ha _ hv).mono ?_; rintro e w9 ⟨rfl, h9⟩; have h9 := h9.symm; subst h9) | (at_make; refine wpList_make_full _ rfl _ _ 22 rfl w.heap.size 3 i1 (.int .i64 0) 1 Tryd.underlying22 hi1 hy0 hy1 .i64 .i64 _ _ 6 rfl rfl (by omega) (by omega) (by rw [hy2]; omega) (by unfold maxLen; omega) (by simp) ?_))
    intro w7 hown7 hgrow7
    have hb7 := hid (grown_of_none hgrow7)
    have HB : Hid (Blk .i64 3 w7 w.heap.size (fitL x 0)) := by rw [← HZ.out]; exact Blk.made hown7
    clear hown7 hgrow7
    go_wp2
    go_ret2
    exact ⟨_, rfl, HB.out, Nat.le_refl _, hb7.out⟩
  have e0 : (q == 0) = false := neq_of hq
  rw [show (5 : Nat) = x.length from h5.symm] at hv
  obtain ⟨b, off, rfl, hlt, _⟩ := hv.at 0 (by omega)
  have HC : Hid (∀ i, i < 5 → w.cell? ⟨b, off + i, none⟩ = some (.int .i64 (x.getD i 0))) := fun i hi => by
    obtain ⟨b', off', he, _, h⟩ := hv.at i (by omega)
    simp only [Option.some.injEq, Addr.mk.injEq, and_true] at he
    obtain ⟨rfl, rfl⟩ := he
    exact h
  have HF : Hid (∀ p, flFit x q p = if x.getD (min p 4) 0 - 13 + q < 0 then 0 else if 44 < x.getD (min p 4) 0 - 13 + q then 44 else x.getD (min p 4) 0 - 13 + q) := fun p => by unfold flFit; rw [if_neg hq]
  have HG := hid hg
  have HX := hid (fitK_next x q)
  have HZ := hid (fitK_zero x q)
  have HL := hid (fitK_all x q)
  rw [h5] at hv
  clear h5 hg hq
  go_enter Tryd.func18, Tryd.ntmps18
  go_wp2_with (first | (go_at_call 24; refine (ha _ hv).mono ?_; rintro e w9 ⟨rfl, h9⟩; have h9 := h9.symm; subst h9) | (at_make; refine wpList_make_full _ rfl _ _ 22 rfl w.heap.size 3 i1 (.int .i64 0) 1 Tryd.underlying22 hi1 hy0 hy1 .i64 .i64 _ _ 6 rfl rfl (by omega) (by omega) (by rw [hy2]; omega) (by unfold maxLen; omega) (by simp) ?_))
  intro w7 hown7 hgrow7
  have HB7 := hid (grown_of_none hgrow7)
  have HG7 : Hid (Blk .i64 3 w7 w.heap.size (fitK x q 0)) := by rw [← HZ.out]; exact Blk.made hown7
  clear hown7 hgrow7 ha hv
  go_wp2
  go_loopw [29] (fun p wr => ∃ k : Nat, k ≤ 6 ∧ p = .int .i64 k ∧ Blk .i64 3 wr w.heap.size (fitK x q k) ∧ Below w.heap.size w wr) (fun p _ => 6 - (intOf p).toNat)
  case atStart => exact ⟨0, by omega, rfl, HG7.out, HB7.out⟩
  case round =>
    obtain ⟨k, hk, rfl, hbk, hbw⟩ := hrel
    have HBK := hid hbk
    have HBW := hid hbw
    clear hbk hbw HB7 HG7
    by_cases hl : k < 6
    · have hln : k < (fitK x q k).length := by rw [fitK, tab_len]; exact hl
      have q1' := HBK.out.cell k hln
      have q2' := HBK.out.free k hln
      obtain ⟨m, hm⟩ : ∃ m, min k 4 = m := ⟨_, rfl⟩
      have c1 := ((bcell HBW.out).1 b (off + m) hlt).trans (HC.out m (by omega))
      have hb := gok_bd HG.out m (by omega)
      have HFk := hid (HF.out k)
      have HXk := hid (HX.out k hl)
      rw [hm] at HFk
      have hmi : min (k : Int) 4 = (m : Int) := by omega
      have m1 : (m : Int) < 5 := by omega
      have m0 : (0 : Int) ≤ (m : Int) := by omega
      have b1 := hb.1
      have b2 := hb.2
      generalize x.getD m 0 = X at *
      obtain ⟨S, hS⟩ : ∃ S, X - 13 + q = S := ⟨_, rfl⟩
      rw [hS] at HFk
      have s1 : -13 ≤ S := by omega
      have s2 : S ≤ 43 := by omega
      have k1 : (k : Int) < 6 := by omega
      have HP : Hid (∀ T, flFit x q k = T → Blk .i64 3 (wr.setCell ⟨w.heap.size, k, none⟩ (.int .i64 T)) w.heap.size (fitK x q (k + 1))) := fun T hT => by
        rw [← HXk.out, hT]
        exact HBK.out.set k T
      generalize (fitK x q k).getD k 0 = v0 at *
      clear hln hb HXk hmi
      by_cases n0 : S < 0
      · have HP2 := hid (HP.out 0 (by rw [HFk.out, if_pos n0]))
        clear HFk HP
        by_cases k4 : 4 < k
        · obtain rfl : m = 4 := by omega
          have k5 : (4 : Int) < (k : Int) := by omega
          clear hm
          go_wp2
          exact ⟨⟨k + 1, by omega, by go_num, HP2.out, bset1 HBW.out _ _ _ (Nat.le_refl _)⟩, by simp [intOf]; omega⟩
        · obtain rfl : k = m := by omega
          have k5 : ¬ (4 : Int) < (k : Int) := by omega
          clear hm
          go_wp2
          exact ⟨⟨k + 1, by omega, by go_num, HP2.out, bset1 HBW.out _ _ _ (Nat.le_refl _)⟩, by simp [intOf]; omega⟩
      · have HP2 := hid (HP.out S (by rw [HFk.out, if_neg n0, if_neg (by omega)]))
        clear HFk HP
        by_cases k4 : 4 < k
        · obtain rfl : m = 4 := by omega
          have k5 : (4 : Int) < (k : Int) := by omega
          clear hm
          go_wp2
          exact ⟨⟨k + 1, by omega, by go_num, HP2.out, bset1 HBW.out _ _ _ (Nat.le_refl _)⟩, by simp [intOf]; omega⟩
        · obtain rfl : k = m := by omega
          have k5 : ¬ (4 : Int) < (k : Int) := by omega
          clear hm
          go_wp2
          exact ⟨⟨k + 1, by omega, by go_num, HP2.out, bset1 HBW.out _ _ _ (Nat.le_refl _)⟩, by simp [intOf]; omega⟩
    · have hke : k = 6 := by omega
      have R : Hid (Blk .i64 3 wr w.heap.size (fitL x q)) := by
        have h := HBK.out
        rw [hke, HL.out] at h
        exact h
      have k1 : ¬ (k : Int) < 6 := by omega
      clear hke HBK
      go_wp2
      go_ret2
      exact ⟨_, rfl, R.out, Nat.le_refl _, HBW.out⟩
end Go.Proofs.YtgmikllbpaekfaaDoor
