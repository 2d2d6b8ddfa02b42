/- Contracts of the document's: the bits of a number, a number of bits, the plain header. -/
import Derived.Test.YtdgacbelpenmmaaVc
namespace Go.Proofs.Ytdgacbelpenmmaa
open Go.RowKit
set_option linter.unusedVariables false
set_option linter.unusedSimpArgs false

set_option maxHeartbeats 1000000 in
theorem bitsof_any (V m : Nat) (hV : V < 2 ^ 62) (hm : m ≤ 64) (w : World) : Calls Try.prog 28 #[.int .i64 V, .int .i64 m] w fun e w' => ∃ v, e = .returned v ∧ w'.ownsRow w.heap.size 3 1 v m ((bl V m).map (Value.int .i64)) ∧ Below w.heap.size w w' := by
  obtain ⟨i0, hi, hz0, hz1, hz2⟩ := info_parts info3
  go_enter Try.func28, Try.ntmps28
  go_wp2
  go_loopw [0, 5, 6] (fun n v i wr => ∃ (q : Nat) (y : Int), q ≤ m ∧ i = .int .i64 q ∧ n = .int .i64 y ∧ 0 ≤ y ∧ y < 4611686018427387904 ∧ Hid (y = ((V / 2 ^ q : Nat) : Int)) ∧ wr.ownsRow w.heap.size 3 1 v q ((bl V q).map (Value.int .i64)) ∧ Below w.heap.size w wr) (fun _ _ i _ => m - (intOf i).toNat)
  case atStart => exact ⟨0, V, by omega, rfl, rfl, by omega, by omega, by unfold Hid; simp, World.ownsRow_nil _ _ _ _, Below.refl _ _⟩
  case round =>
    obtain ⟨q, y, hq, rfl, rfl, hy0, hy1, HY, hown, hnx⟩ := hrel
    by_cases hlt : q < m
    · have HD : Hid (y % 2 = bitAt V q) := by
        unfold Hid bitAt; rw [HY.out]; omega
      have HN : Hid (y / 2 = ((V / 2 ^ (q + 1) : Nat) : Int)) := by
        unfold Hid; rw [HY.out, Nat.pow_succ, ← Nat.div_div_eq_div_mul]; omega
      go_wp2_with (at_builtin; refine wpList_append_own _ rfl _ _ 22 rfl w.heap.size 3 i0 (.int .i64 0) 1 8 Try.underlying22 hi hz0 hz1 hz2 rfl (by decide) _ _ _ rfl (hown.alloc _) ⟨wr.heap.size, 0, none⟩ 1 1 [.int .i64 (y % 2)] rfl rfl (cell_one_at rfl _ _) (one_cell _ _) ?c3 ?c4 ?c5 ?_)
      case c3 => unfold maxLen; omega
      case c4 => omega
      case c5 => have := hnx.size; simp; omega
      intro v' w2 hown' hgrow _
      have hb2 := bgrow hnx hown (Nat.le_refl _) hgrow
      have hown3 : w2.ownsRow w.heap.size 3 1 v' (q + 1) ((bl V (q + 1)).map (Value.int .i64)) := by
        rw [bl_succ, List.map_append]
        have e : List.map (Value.int .i64) [bitAt V q] = [Value.int .i64 (y % 2)] := by rw [← HD.out]; rfl
        rw [e]
        exact hown'
      clear hown' hown hgrow
      go_wp2
      exact ⟨⟨q + 1, y / 2, by omega, by go_num, rfl, by omega, by omega, HN, hown3, hb2⟩, by simp [intOf]; omega⟩
    · obtain rfl : q = m := by omega
      clear hlt
      go_wp2
      go_ret
      exact ⟨_, rfl, hown, hnx⟩
theorem getV_gv (xs : List Int) (p n : Nat) (hn : n ≤ 32) : getV xs p n = ((gv xs p n : Nat) : Int) := by
  unfold getV gv fld
  by_cases h : p + n ≤ 8 * xs.length
  · rw [if_pos ⟨by omega, by omega, by omega, by omega⟩, if_pos h]; simp
  · rw [if_neg (fun k => h (by omega)), if_neg h]; rfl
theorem number_any (v : Value) (xs : List Int) (p n : Nat) (w : World) (hv : Rw .u8 w v xs) (hx : Byts xs) (hl : xs.length ≤ 100000) (hn : n ≤ 32) :
    Calls Try.prog 33 #[v, .int .i64 p, .int .i64 n] w fun e w' => e = .returned (.int .i64 ((gv xs p n : Nat) : Int)) ∧ Below w.heap.size w w' := by
  have hg := fun w' hv => rget_any v xs p n w' hv hx hl
  rw [getV_gv xs p n hn] at hg
  have hlt : gv xs p n < 4294967296 := Nat.lt_of_lt_of_le (gv_lt xs p n) (Nat.pow_le_pow_right (n := 2) (by decide) hn)
  generalize getE xs p n = E at *
  obtain ⟨a, cap, rfl, _⟩ := id hv
  generalize gv xs p n = G at *
  obtain ⟨Z, hZ⟩ : ∃ Z : Int, (G : Int) = Z := ⟨_, rfl⟩
  rw [hZ] at hg ⊢
  have z0 : 0 ≤ Z := by omega
  have z1 : Z < 4294967296 := by omega
  clear hZ hlt
  go_enter Try.func33, Try.ntmps33
  go_wp2_with (go_at_call 39; refine (hg _ hv).mono ?_; rintro e y1 ⟨rfl, hy1⟩)
  go_ret
  exact ⟨rfl, hy1⟩

theorem plF_push (k : Nat) (x : Int) (hx : (if k < 19 then (5 : Int) else 6) = x) : (tab (k + 1) fun s => if s < 19 then (5 : Int) else 6) = (tab k fun s => if s < 19 then (5 : Int) else 6) ++ [x] := by
  rw [tab_push, hx]
set_option maxHeartbeats 2000000 in
theorem rplain_any (c q : Int) (w : World) : Calls Try.prog 16 #[.int .i64 c, .int .i64 q] w fun e w' => ∃ a1 c1 a2 c2, e = .returned (.agg #[.int .i64 c, .int .i64 q, .slice a1 45 c1, .slice a2 16 c2]) ∧ Rw .i64 w' (.slice a1 45 c1) plF ∧ Rw .i64 w' (.slice a2 16 c2) plR ∧ Below w.heap.size w w' := by
  obtain ⟨i0, hi, hz0, hz1, hz2⟩ := info_parts info3
  have hA := (B4.new w (.int .i64 0) (.int .i64 0) (.slice none 0 0) (.slice none 0 0) 28).below (below1 (w.alloc (.cells #[.int .i64 0, .int .i64 0, .slice none 0 0, .slice none 0 0] 28)) (.cells #[.int .i64 c, .int .i64 q, .slice none 0 0, .slice none 0 0] 28))
  have hB := B4.new2 w (.cells #[.int .i64 0, .int .i64 0, .slice none 0 0, .slice none 0 0] 28) (.int .i64 c) (.int .i64 q) (.slice none 0 0) (.slice none 0 0) 28
  have hW := below2 w (.cells #[.int .i64 0, .int .i64 0, .slice none 0 0, .slice none 0 0] 28) (.cells #[.int .i64 c, .int .i64 q, .slice none 0 0, .slice none 0 0] 28)
  go_enter Try.func16, Try.ntmps16
  go_wp2
  go_loopw [6] (fun p wr => ∃ (k : Nat) (v : Value), k ≤ 45 ∧ p = .int .i64 k ∧ Hid (B4 wr w.heap.size (.int .i64 0) (.int .i64 0) (.slice none 0 0) (.slice none 0 0)) ∧ Hid (B4 wr (w.heap.size + 1) (.int .i64 c) (.int .i64 q) v (.slice none 0 0)) ∧ Hid (wr.ownsRow (w.heap.size + 2) 3 1 v k ((tab k fun s => if s < 19 then (5 : Int) else 6).map (Value.int .i64))) ∧ Hid (Below w.heap.size w wr)) (fun p _ => 45 - (intOf p).toNat)
  case atStart => exact ⟨0, .slice none 0 0, by omega, rfl, hA, hB, World.ownsRow_nil _ _ _ _, hW⟩
  case round =>
    clear hA hB hW
    obtain ⟨k, v, hk, rfl, HA, HB, HO, HW⟩ := hrel
    obtain ⟨W1, rfl⟩ : ∃ x, x = wr := ⟨wr, rfl⟩
    obtain ⟨a, cap, rfl, hcap, hmx, h0⟩ := owns_open HO.out
    have i1 : (0 : Int) ≤ (k : Int) := by omega
    have hown := HO.out
    have hsz := HB.out.z
    obtain ⟨gz, g0, g1, g2, g3, j0, j1, j2, j3⟩ := id HB.out
    by_cases hlt : k < 45
    · by_cases h19 : k < 19
      · have h19' : (k : Int) ≤ 18 := by omega
        have hbx := HB.out.below (below1 W1 (.cells #[.int .i64 5] 3))
        have hax := HA.out.below (below1 W1 (.cells #[.int .i64 5] 3))
        have e := plF_push k 5 (if_pos h19)
        obtain ⟨gz', g0', g1', g2', g3', j0', j1', j2', j3'⟩ := id hbx
        go_wp2_with (at_builtin; refine wpList_append_own _ rfl _ _ 22 rfl (w.heap.size + 2) 3 i0 (.int .i64 0) 1 8 Try.underlying22 hi hz0 hz1 hz2 rfl (by decide) _ _ _ rfl (hown.alloc _) ⟨W1.heap.size, 0, none⟩ 1 1 [.int .i64 5] rfl rfl (cell_one_at rfl _ _) (one_cell _ _) ?c3 ?c4 ?c5 ?_)
        case c3 => unfold maxLen; omega
        case c4 => omega
        case c5 => first | (simp; omega) | omega
        intro v' w2 hown' hgrow _
        obtain ⟨a2, c2, rfl, hc2, hm2, h02⟩ := owns_open hown'
        have hne : ∀ p, p < w.heap.size + 2 → (Value.slice a k cap).ownBlock ≠ some p := fun p hp e => by have := (hown.lt _ e).1; omega
        have hb2 := hbx.grown hgrow (hne _ (by omega))
        have ha2 := hax.grown hgrow (hne _ (by omega))
        have HB2 := hid (B4.set2 hb2 (.slice a2 (k + 1) c2))
        have HA2 := hid (B4.other ha2 (w.heap.size + 1) 2 (.slice a2 (k + 1) c2) (by omega))
        have HO2 := hid (owns_other hown' (w.heap.size + 1) 2 (.slice a2 (k + 1) c2) (by omega))
        have hz1' := HW.out.size
        have HW2 := hid (bset1 ((HW.out.alloc hz1' (.cells #[.int .i64 5] 3)).grown hgrow (by simp; omega) (fun j hj => by have := (hown.lt j hj).1; omega)) (w.heap.size + 1) 2 (.slice a2 (k + 1) c2) (by omega))
        have e2 : (tab (k + 1) fun s => if s < 19 then (5 : Int) else 6).map (Value.int .i64) = (tab k fun s => if s < 19 then (5 : Int) else 6).map (Value.int .i64) ++ [.int .i64 5] := by rw [e, List.map_append]; rfl
        rw [← e2] at HO2
        clear hown hown' hgrow hbx hax ha2 HO HA HB HW hne e e2 g0 g1 g2 g3 j0 j1 j2 j3 g0' g1' g2' g3' j0' j1' j2' j3'
        obtain ⟨gz4, g0, g1, g2, g3, j0, j1, j2, j3⟩ := id hb2
        go_wp2
        exact ⟨⟨k + 1, _, by omega, by go_num, HA2, HB2, HO2, HW2⟩, by simp [intOf]; omega⟩
      · have h19' : ¬ (k : Int) ≤ 18 := by omega
        have hbx := HB.out.below (below1 W1 (.cells #[.int .i64 6] 3))
        have hax := HA.out.below (below1 W1 (.cells #[.int .i64 6] 3))
        have e := plF_push k 6 (if_neg h19)
        obtain ⟨gz', g0', g1', g2', g3', j0', j1', j2', j3'⟩ := id hbx
        go_wp2_with (at_builtin; refine wpList_append_own _ rfl _ _ 22 rfl (w.heap.size + 2) 3 i0 (.int .i64 0) 1 8 Try.underlying22 hi hz0 hz1 hz2 rfl (by decide) _ _ _ rfl (hown.alloc _) ⟨W1.heap.size, 0, none⟩ 1 1 [.int .i64 6] rfl rfl (cell_one_at rfl _ _) (one_cell _ _) ?c3 ?c4 ?c5 ?_)
        case c3 => unfold maxLen; omega
        case c4 => omega
        case c5 => first | (simp; omega) | omega
        intro v' w2 hown' hgrow _
        obtain ⟨a2, c2, rfl, hc2, hm2, h02⟩ := owns_open hown'
        have hne : ∀ p, p < w.heap.size + 2 → (Value.slice a k cap).ownBlock ≠ some p := fun p hp e => by have := (hown.lt _ e).1; omega
        have hb2 := hbx.grown hgrow (hne _ (by omega))
        have ha2 := hax.grown hgrow (hne _ (by omega))
        have HB2 := hid (B4.set2 hb2 (.slice a2 (k + 1) c2))
        have HA2 := hid (B4.other ha2 (w.heap.size + 1) 2 (.slice a2 (k + 1) c2) (by omega))
        have HO2 := hid (owns_other hown' (w.heap.size + 1) 2 (.slice a2 (k + 1) c2) (by omega))
        have hz1' := HW.out.size
        have HW2 := hid (bset1 ((HW.out.alloc hz1' (.cells #[.int .i64 6] 3)).grown hgrow (by simp; omega) (fun j hj => by have := (hown.lt j hj).1; omega)) (w.heap.size + 1) 2 (.slice a2 (k + 1) c2) (by omega))
        have e2 : (tab (k + 1) fun s => if s < 19 then (5 : Int) else 6).map (Value.int .i64) = (tab k fun s => if s < 19 then (5 : Int) else 6).map (Value.int .i64) ++ [.int .i64 6] := by rw [e, List.map_append]; rfl
        rw [← e2] at HO2
        clear hown hown' hgrow hbx hax ha2 HO HA HB HW hne e e2 g0 g1 g2 g3 j0 j1 j2 j3 g0' g1' g2' g3' j0' j1' j2' j3'
        obtain ⟨gz4, g0, g1, g2, g3, j0, j1, j2, j3⟩ := id hb2
        go_wp2
        exact ⟨⟨k + 1, _, by omega, by go_num, HA2, HB2, HO2, HW2⟩, by simp [intOf]; omega⟩
    · have hk45 : k = 45 := by omega
      have hrf : RwM (w.heap.size + 2) W1.heap.size .i64 W1 (.slice a k cap) plF := by
        have h := RwM.of_rwf (RwF.of_owns hown)
        rw [show (tab k fun s => if s < 19 then (5 : Int) else 6) = plF by rw [hk45]; rfl] at h
        exact h
      have HK := hid hk45
      have HRF := hid hrf
      clear hrf hown HO hcap hmx h0 hk45 hk
      go_wp2
      go_loopw [7] (fun p wr => ∃ (m : Nat) (v : Value), m ≤ 16 ∧ p = .int .i64 m ∧ Hid (B4 wr w.heap.size (.int .i64 0) (.int .i64 0) (.slice none 0 0) (.slice none 0 0)) ∧ Hid (B4 wr (w.heap.size + 1) (.int .i64 c) (.int .i64 q) (.slice a k cap) v) ∧ Hid (wr.ownsRow W1.heap.size 3 1 v m ((tab m fun _ => (4 : Int)).map (Value.int .i64))) ∧ Hid (RwM (w.heap.size + 2) W1.heap.size .i64 wr (.slice a k cap) plF) ∧ Hid (Below w.heap.size w wr) ∧ W1.heap.size ≤ wr.heap.size) (fun p _ => 16 - (intOf p).toNat)
      case atStart => exact ⟨0, .slice none 0 0, by omega, rfl, HA, HB, World.ownsRow_nil _ _ _ _, HRF, HW, Nat.le_refl _⟩
      case round =>
        clear HA HB HRF HW gz g0 g1 g2 g3 j0 j1 j2 j3
        clear hlt i1
        obtain ⟨m, v, hk, rfl, HA, HB, HO, HRF, HW, hzz⟩ := hrel
        obtain ⟨W2, rfl⟩ : ∃ x, x = wr := ⟨wr, rfl⟩
        obtain ⟨a3, cap3, rfl, hcap, hmx, h0⟩ := owns_open HO.out
        have i1 : (0 : Int) ≤ (m : Int) := by omega
        have hown := HO.out
        have hsz2 := HB.out.z
        obtain ⟨gz, g0, g1, g2, g3, j0, j1, j2, j3⟩ := id HB.out
        by_cases hlt : m < 16
        · have hbx := HB.out.below (below1 W2 (.cells #[.int .i64 4] 3))
          have hax := HA.out.below (below1 W2 (.cells #[.int .i64 4] 3))
          have hrx := HRF.out.below (below1 W2 (.cells #[.int .i64 4] 3))
          obtain ⟨gz', g0', g1', g2', g3', j0', j1', j2', j3'⟩ := id hbx
          go_wp2_with (at_builtin; refine wpList_append_own _ rfl _ _ 22 rfl W1.heap.size 3 i0 (.int .i64 0) 1 8 Try.underlying22 hi hz0 hz1 hz2 rfl (by decide) _ _ _ rfl (hown.alloc _) ⟨W2.heap.size, 0, none⟩ 1 1 [.int .i64 4] rfl rfl (cell_one_at rfl _ _) (one_cell _ _) ?c3 ?c4 ?c5 ?_)
          case c3 => unfold maxLen; omega
          case c4 => omega
          case c5 => first | (simp; omega) | omega
          intro v' w2 hown' hgrow _
          obtain ⟨a2, c2, rfl, hc2, hm2, h02⟩ := owns_open hown'
          have hne : ∀ p, p < W1.heap.size → (Value.slice a3 m cap3).ownBlock ≠ some p := fun p hp e => by have := (hown.lt _ e).1; omega
          have hb2 := hbx.grown hgrow (hne _ hsz)
          have ha2 := hax.grown hgrow (hne _ (by omega))
          have HRF2 := hid ((hrx.grown hgrow (fun i e => .inr (hown.lt _ e).1)).set (w.heap.size + 1) 3 (.slice a2 (m + 1) c2) (.inl (by omega)))
          have HB2 := hid (B4.set3 hb2 (.slice a2 (m + 1) c2))
          have HA2 := hid (B4.other ha2 (w.heap.size + 1) 3 (.slice a2 (m + 1) c2) (by omega))
          have HO2 := hid (owns_other hown' (w.heap.size + 1) 3 (.slice a2 (m + 1) c2) (by omega))
          have hz1' := HW.out.size
          have HW2 := hid (bset1 ((HW.out.alloc hz1' (.cells #[.int .i64 4] 3)).grown hgrow (by simp; omega) (fun j hj => by have := (hown.lt j hj).1; omega)) (w.heap.size + 1) 3 (.slice a2 (m + 1) c2) (by omega))
          have hzg : W1.heap.size ≤ (w2.setCell ⟨w.heap.size + 1, 3, none⟩ (.slice a2 (m + 1) c2)).heap.size := by
            have := hgrow.size
            simp only [World.size_alloc] at this
            simp [World.setCell]; omega
          have e : (tab (m + 1) fun _ => (4 : Int)).map (Value.int .i64) = (tab m fun _ => (4 : Int)).map (Value.int .i64) ++ [.int .i64 4] := by rw [tab_push, List.map_append]; rfl
          rw [← e] at HO2
          clear hown hown' hgrow hbx hax hrx ha2 HO HA HB HW HRF hne e g0 g1 g2 g3 j0 j1 j2 j3 g0' g1' g2' g3' j0' j1' j2' j3'
          obtain ⟨gz4, g0, g1, g2, g3, j0, j1, j2, j3⟩ := id hb2
          go_wp2
          exact ⟨⟨m + 1, _, by omega, by go_num, HA2, HB2, HO2, HRF2, HW2, hzg⟩, by simp [intOf]; omega⟩
        · have hm16 : m = 16 := by omega
          have HM := hid hm16
          have hr2m : RwM W1.heap.size W2.heap.size .i64 W2 (.slice a3 m cap3) plR := by
            have h := RwM.of_rwf (RwF.of_owns hown)
            rw [show (tab m fun _ => (4 : Int)) = plR by rw [hm16]; rfl] at h
            exact h
          have HH := hid (B4.set HA.out (.int .i64 c) (.int .i64 q) (.slice a k cap) (.slice a3 m cap3))
          have hA0 := HA.out
          clear hown HO hcap hmx h0 hm16
          obtain ⟨hz', k0, k1, k2, k3, l0, l1, l2, l3⟩ := id hA0
          go_wp2
          obtain ⟨gz', p0, p1, p2, p3, q0, q1', q2, q3⟩ := HH.out
          have ek := HK.out
          have em := HM.out
          subst ek em
          refine bodyPost_ret (v := .agg #[.int .i64 c, .int .i64 q, .slice a 45 cap, .slice a3 16 cap3]) (by simp [results, Try.results16, go_sem, p0, p1, p2, p3, q0, q1', q2, q3]) rfl ⟨a, cap, a3, cap3, rfl, ?_, ?_, bset4 HW.out w.heap.size _ _ _ _ (Nat.le_refl _)⟩
          · exact ((((HRF.out.set _ _ _ (.inl (by omega))).set _ _ _ (.inl (by omega))).set _ _ _ (.inl (by omega))).set _ _ _ (.inl (by omega))).rw
          · exact ((((hr2m.set _ _ _ (.inl (by omega))).set _ _ _ (.inl (by omega))).set _ _ _ (.inl (by omega))).set _ _ _ (.inl (by omega))).rw
end Go.Proofs.Ytdgacbelpenmmaa
