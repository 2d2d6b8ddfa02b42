/- Contract: the border turned back in place. -/
import Derived.Test.YtdfihdkkidekjaaDoorHb
import Derived.Deep.RegionWith
import Derived.Deep.DeepCutAuto
import Derived.Deep.CutRange
namespace Go.Proofs.YtdfihdkkidekjaaDoor
open Go.RowKit
set_option linter.unusedVariables false
set_option linter.unusedSimpArgs false

set_option maxRecDepth 10000 in
set_option maxHeartbeats 8000000 in
theorem turnBack_any (g c n p : Nat) (x : List Int) (w : World) (hw : Wt w) (hg : g ≠ 0) (h : Hl .i64 2 w g x) (hxl : x.length = n) (hp : 4 ≤ p) (hl : p + 4 ≤ n) (hn : n ≤ 4000) (hB : In x (p - 4) (p + 4) 4294967296) :
    Calls Tryd.prog 33 #[.slice (some ⟨g, 0, none⟩) n c, .int .i64 p] w fun e w' => e = .returned (.tuple #[]) ∧ Hl .i64 2 w' g (bkL p x) ∧ w.grownBy w' (some g) := by
  have HX := hid hxl
  have HH := hid h
  have HW := hid hw
  have HIN := hid hB
  clear hxl h hw hB
  go_enter Tryd.func33, Tryd.ntmps33
  go_wp2
  go_loopw [5] (fun i wr => ∃ k : Nat, k ≤ 4 ∧ i = .int .i64 k ∧ Hl .i64 2 wr g (twL p k (bu x p) (bw x p) x) ∧ w.grownBy wr (some g)) (fun i _ => 4 - (intOf i).toNat)
  case atStart => exact ⟨0, by omega, rfl, by rw [twL_zero]; exact HH.out, World.grownBy.refl _ _⟩
  case round =>
    obtain ⟨k, hk, rfl, hhl, hgr⟩ := hrel
    have HR := hid hhl
    have HG := hid hgr
    clear hhl hgr
    by_cases hlt : k < 4
    · have q1 := HR.out.cell (p + k) (by rw [twL_len, HX.out]; omega)
      have q2 := HR.out.cell (p - 1 - k) (by rw [twL_len, HX.out]; omega)
      rw [twL_up _ _ _ _ _ (by rw [HX.out]; omega)] at q1
      rw [twL_dn _ _ _ _ _ (by omega) (by rw [HX.out]; omega)] at q2
      have q3 := (HW.out.grown HG.out hg) k hlt
      have q4 := HR.out.free (p + k)
      have q5 := HR.out.free (p - 1 - k)
      have b1 := HIN.out (p + k) (by omega) (by omega) (by rw [HX.out]; omega)
      have b2 := HIN.out (p - 1 - k) (by omega) (by omega) (by rw [HX.out]; omega)
      have b3 := bw_bd HIN.out hp (by rw [HX.out]; exact hl) k hlt
      have b4 := bu_bd HIN.out hp (by rw [HX.out]; exact hl) k hlt
      have HN := hid (twL_next' p k (bu x p) (bw x p) x (by omega) (by rw [HX.out]; omega))
      have HT := hid (show (twL p k (bu x p) (bw x p) x).length = n by rw [twL_len]; exact HX.out)
      have HC1 : Hid (((twL p k (bu x p) (bw x p) x).set (p - 1 - k) (bu x p k)).getD (p - 1 - k) 0 = bu x p k) := by unfold Hid; rw [getD_set_at _ _ _ _ (by rw [HT.out]; omega), if_pos rfl]
      have HC2 : Hid (((twL p k (bu x p) (bw x p) x).set (p - 1 - k) (bu x p k)).getD (p + k) 0 = x.getD (p + k) 0) := by unfold Hid; rw [getD_set_at _ _ _ _ (by rw [HT.out]; omega), if_neg (by omega), twL_up _ _ _ _ _ (by rw [HX.out]; omega)]
      have eu : x.getD (p - 1 - k) 0 - x.getD (p + k) 0 * (7 - 2 * (k : Int)) / 16 = bu x p k := rfl
      have ev : x.getD (p + k) 0 + bu x p k * (7 - 2 * (k : Int)) / 16 = bw x p k := rfl
      obtain ⟨W, hW⟩ : ∃ W : Int, 7 - 2 * (k : Int) = W := ⟨_, rfl⟩
      have HK : Hid (∀ w : World, Wt w → w.cell? ⟨0, k, none⟩ = some (.int .i64 W)) := fun w h => by rw [← hW]; exact h k hlt
      have w1 : 0 ≤ W := by omega
      have w2 : W ≤ 7 := by omega
      rw [hW] at q3 ev eu
      have hc1 := fun w => weighed_any (x.getD (p + k) 0) W w (by omega) (by omega) w1 w2
      have hc2 := fun w => weighed_any (bu x p k) W w (by omega) (by omega) w1 w2
      generalize bu x p k = zu at *
      generalize bw x p k = zv at *
      generalize x.getD (p + k) 0 = xv at *
      generalize x.getD (p - 1 - k) 0 = xu at *
      generalize xv * W / 16 = y1 at *
      generalize zu * W / 16 = y2 at *
      obtain ⟨P, hP⟩ : ∃ P : Nat, P = p + k := ⟨_, rfl⟩
      obtain ⟨Q, hQ⟩ : ∃ Q : Nat, Q = p - 1 - k := ⟨_, rfl⟩
      rw [← hP] at q1 q4 HN HC2
      rw [← hQ] at q2 q5 HN HC1 HC2
      have e1 : (p : Int) + (k : Int) = (P : Int) := by omega
      have e2 : (p : Int) - 1 - (k : Int) = (Q : Int) := by omega
      have r1 : IntKind.i64.wrap (P : Int) = P := wraps_i64 _ (by omega) (by omega)
      have r2 : IntKind.i64.wrap (Q : Int) = Q := wraps_i64 _ (by omega) (by omega)
      have r4 : IntKind.i64.wrap (k : Int) = k := wraps_i64 _ (by omega) (by omega)
      have p1 : (P : Int) < (n : Int) := by omega
      have p2 : (Q : Int) < (n : Int) := by omega
      have p3 : (k : Int) < 4 := by omega
      have p5 : (0 : Int) ≤ (P : Int) := by omega
      have p6 : (0 : Int) ≤ (Q : Int) := by omega
      have p8 : (0 : Int) ≤ (k : Int) := by omega
      have r5 : IntKind.i64.wrap ((p : Int) - 1) = (p : Int) - 1 := wraps_i64 _ (by omega) (by omega)
      have r6 : IntKind.i64.wrap zv = zv := wraps_i64 _ (by omega) (by omega)
      have r7 : IntKind.i64.wrap zu = zu := wraps_i64 _ (by omega) (by omega)
      have n1 : P ≠ Q := by omega
      have n2 : Q ≠ P := by omega
      have hPn : P < n := by omega
      have hQn : Q < n := by omega
      clear hP hQ hW b1 b2 b3 b4
      go_wp2
      go_cut [26] from 8 to 26 (fun v wz => Hid (Hl .i64 2 wz g ((twL p k (bu x p) (bw x p) x).set Q zu) ∧ w.grownBy wz (some g)))
      case first =>
        go_region_with (first | (go_at_call 40; refine (hc1 _).mono ?_; rintro e w9 ⟨rfl, h9⟩; have h9 := h9.symm; subst h9))
        all_goals go_wp2
        all_goals go_meet
        all_goals exact ⟨(HR.out.set Q zu).drew, grown_drew (grownBy_set HG.out Q (.int .i64 zu))⟩
      case rest =>
        have HR1 := hid hcut.out.1
        have HG1 := hid hcut.out.2
        clear hcut q1 q2 q3 q4 q5 hc1
        have q1 := HR1.out.cell Q (by rw [List.length_set, HT.out]; exact hQn)
        have q2 := HR1.out.cell P (by rw [List.length_set, HT.out]; exact hPn)
        rw [HC1.out] at q1
        rw [HC2.out] at q2
        have q3 := HK.out _ (HW.out.grown HG1.out hg)
        have q4 := HR1.out.free P
        clear HC1 HC2 HR HG
        go_wp2
        go_region_with (first | (go_at_call 40; refine (hc2 _).mono ?_; rintro e w9 ⟨rfl, h9⟩; have h9 := h9.symm; subst h9))
        all_goals go_wp2
        all_goals exact ⟨⟨k + 1, by omega, by go_num, by rw [HN.out]; exact (HR1.out.set P zv).drew, grown_drew (grownBy_set HG1.out P (.int .i64 zv))⟩, by simp [intOf]; omega⟩
    · have hke : k = 4 := by omega
      have R1 : Hid (Hl .i64 2 wr g (bkL p x)) := by
        have := HR.out
        rw [hke] at this
        exact this
      clear hke HR
      go_wp2
      go_end0
      exact ⟨rfl, R1.out, HG.out⟩
end Go.Proofs.YtdfihdkkidekjaaDoor
