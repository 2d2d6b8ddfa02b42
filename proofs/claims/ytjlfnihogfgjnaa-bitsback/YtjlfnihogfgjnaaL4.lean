/- The Go function of the statement BitsBack returns true at every input, and leaves each argument as it read. No condition. -/
import Derived.Test.YtjlfnihogfgjnaaWp
import Derived.Deep.DeepCutAuto
import Derived.ProofKit
import Derived.OpenShut
import Derived.ShutString
import Derived.ChangeOld
import Derived.Lib.SmallJoins
namespace Go.Proofs.Ytjlfnihogfgjnaa.bitsBack
open Go.ChangeShapes Go.WideShapes Go.ChangeAt Go.RowKit Go.Joins
set_option linter.unusedVariables false
set_option linter.unusedSimpArgs false

theorem info50 : (Try.prog.info? 50).map (fun i => (i.zero, i.size, i.bytes)) = some (some (.agg #[.int .u64 0, .int .i64 0]), 2, 16) := by kernel_rfl
theorem own : ownKnob Try.prog.godebug = none := by kernel_rfl
theorem laidOut : laidOutB Try.prog = true := by kernel_rfl


theorem held4 {wr w' : World} {b c o o' : Nat} {x0 x1 y0 y1 : Value} (h : Below wr.heap.size wr w') (hb : b < wr.heap.size) (hc : c < wr.heap.size) (s0 : wr.cell? ⟨b, 0, none⟩ = some x0) (s1 : wr.cell? ⟨b, 1, none⟩ = some x1) (d0 : wr.cell? ⟨c, o, none⟩ = some y0) (d1 : wr.cell? ⟨c, o', none⟩ = some y1) :
    w'.cell? ⟨b, 0, none⟩ = some x0 ∧ w'.cell? ⟨b, 1, none⟩ = some x1 ∧ w'.cell? ⟨c, o, none⟩ = some y0 ∧ w'.cell? ⟨c, o', none⟩ = some y1 :=
  ⟨((bcell h).1 _ _ hb).trans s0, ((bcell h).1 _ _ hb).trans s1, ((bcell h).1 _ _ hc).trans d0, ((bcell h).1 _ _ hc).trans d1⟩
set_option maxRecDepth 100000 in
set_option maxHeartbeats 4000000 in
theorem walk (a0 : Option Addr) (len0 cap0 : Nat) (z0 y0 : Nat → Int) (w : World) (w0 : IsPairs .u64 .i64 w a0 len0 z0 y0) :
    Calls Try.prog 6 #[.slice a0 len0 cap0] w fun e w' => e = .returned (.bool true) ∧ Below w.heap.size w w' := by
  obtain ⟨hlen, hP⟩ := w0
  unfold maxLen at hlen
  obtain ⟨i0, hi, hz0, hz1, hz2⟩ := info_parts info50
  go_enter Try.func6, Try.ntmps6
  go_wp2
  go_loopw [4, 5] (fun kv i wr => ∃ (j : Nat) (K : List (Nat × Nat)) (X M : Nat) (a : Option Addr) (c : Nat), j ≤ 100 ∧ j ≤ len0 ∧ i = .int .i64 j ∧ K.length ≤ j ∧ M ≤ 32 * j ∧ Kept w wr kv K X M a c) (fun _ i _ => 100 - (intOf i).toNat)
  case atStart => exact ⟨0, [], 0, 0, none, 0, by omega, by omega, rfl, by simp, by omega, ⟨Enc.nil, by simp [go_sem], by simp [go_sem], by simp [go_sem], by simp [go_sem], ⟨none, 0, rfl, .inl rfl⟩, World.ownsRow_nil _ _ _ _, below1 _ _, by simp⟩⟩
  case round =>
    obtain ⟨j, K, X, M, a, c, hj, hjl, rfl, hK, hM, hk⟩ := hrel
    by_cases hlt : j < len0 ∧ j < 100
    · obtain ⟨hl1, hl2⟩ := hlt
      obtain ⟨b, off, rfl, hb, hc⟩ := hP.resolve_left (by omega)
      obtain ⟨c0, c1, v0, v1⟩ := hc j hl1
      obtain ⟨V, hV0, hV⟩ := u64_nat v0
      have hbr : b < wr.heap.size := Nat.lt_of_lt_of_le hb hk.bel.size
      have d0 := (hk.bel.cell (p := ⟨b, off + j * 2, none⟩) hb).trans c0
      have d1 := (hk.bel.cell (p := ⟨b, off + j * 2 + 1, none⟩) hb).trans c1
      rw [hV0] at d0
      generalize y0 j = z at d1 v1
      have s0 := hk.cell0
      have s1 := hk.cell1
      clear c0 c1 hc hV0 v0 hP
      have hcur := byL_byts X ((M + 7) / 8)
      have hrow := hk.row
      have hlo := hk.lt
      have S0 : Four wr w.heap.size b (.slice a ((M + 7) / 8) c) (.int .i64 M) (.int .u64 V) (.int .i64 z) ∨ True := .inr trivial
      clear S0
      generalize hcd : byL X ((M + 7) / 8) = cur at hcur hrow
      have HC : Hid _ := hcd
      clear hcd
      go_wp2
      go_cut [6, 7] (fun p6 p7 wz => ∃ x9 c9, p7 = .int .i64 (putE cur M V z) ∧ RwF wr.heap.size .u8 wz (.slice x9 (putX cur M V z).length c9) (putX cur M V z) ∧ Made wr wz p6 (.slice x9 (putX cur M V z).length c9) (.int .i64 (putN cur M V z)))
      case first =>
        go_region_held3 (fun w' => w'.cell? ⟨w.heap.size, 0, none⟩ = some (.slice a ((M + 7) / 8) c) ∧ w'.cell? ⟨w.heap.size, 1, none⟩ = some (.int .i64 M) ∧ w'.cell? ⟨b, off + j * 2, none⟩ = some (.int .u64 V) ∧ w'.cell? ⟨b, off + j * 2 + 1, none⟩ = some (.int .i64 z)) (exact held4 (by first | exact (Below.refl _ _).drew | exact ((Below.refl _ _).alloc (Nat.le_refl _) _).drew | exact hy1 | exact hy1.alloc hy1.size _ | exact bset2 hy1 _ _ _ _ _ _ (Nat.le_refl _) (Nat.le_refl _)) hlo hbr s0 s1 d0 d1) (first | (go_at_call 14; refine (put_any _ cur M V z _ (hrow.rw.below (by first | exact (Below.refl _ _).drew | exact ((Below.refl _ _).alloc (Nat.le_refl _) _).drew | exact hy1 | exact hy1.alloc hy1.size _ | exact bset2 hy1 _ _ _ _ _ _ (Nat.le_refl _) (Nat.le_refl _))) hcur hV).mono ?_; rintro e y1 ⟨v9, rfl, r9, e1⟩; obtain ⟨x9, c9, rfl, _⟩ := id r9; have hy1 : Below wr.heap.size wr y1 := bthen' (by first | exact (Below.refl _ _).drew | exact ((Below.refl _ _).alloc (Nat.le_refl _) _).drew | exact hy1 | exact hy1.alloc hy1.size _ | exact bset2 hy1 _ _ _ _ _ _ (Nat.le_refl _) (Nat.le_refl _)) e1; obtain ⟨hcA, hfA⟩ := bcell e1))
        all_goals go_wp2
        all_goals go_meet
        all_goals first | exact ⟨x9, c9, rfl, row_after r9 _, made_after hy1⟩ | exact ⟨x9, c9, rfl, row_before r9 _ _, made_before e1⟩
      case rest =>
        obtain ⟨x9, c9, rfl, r9, bx, rfl, m0, m1, mz, mlo, mbel⟩ := hcut
        have hput := put_byL X M V z hk.enc.lt (by omega)
        rw [HC.out] at hput
        have hbw : Below w.heap.size w wc := bthen hk.bel mbel hk.bel.size
        have u0 := ((bcell mbel).1 w.heap.size 0 hlo).trans s0
        have u1 := ((bcell mbel).1 w.heap.size 1 hlo).trans s1
        have g0 := ((bcell mbel).2 w.heap.size 0 hlo).trans hk.fr0
        have g1 := ((bcell mbel).2 w.heap.size 1 hlo).trans hk.fr1
        have e0 := ((bcell mbel).1 b (off + j * 2) hbr).trans d0
        have e1 := ((bcell mbel).1 b (off + j * 2 + 1) hbr).trans d1
        have hown := owns_below hk.own mbel
        have hzc : w.heap.size < wc.heap.size := by omega
        have hbc : b < wc.heap.size := by have := mbel.size; omega
        clear s0 s1 d0 d1 hrow
        rcases hput with ⟨m, rfl, hm, hVm, hE, hN, hX⟩ | ⟨hE, hN, hX⟩
        · rw [hE]
          rw [hN] at m1
          rw [hX] at m0 r9
          rw [byL_length] at m0 r9
          have hE0 : Hid _ := hE
          clear hE hN hX
          go_wp2_with (at_builtin; refine wpList_append_own _ rfl _ _ 48 rfl (w.heap.size + 1) 50 i0 (.agg #[.int .u64 0, .int .i64 0]) 2 16 Try.underlying48 hi hz0 hz1 hz2 rfl (by decide) _ _ _ rfl (hown.alloc _) ⟨_, 0, none⟩ 1 1 [.int .u64 V, .int .i64 m] rfl rfl (cell_two_new _ _ _ _) ?c2 ?c3 ?c4 ?c5 ?_)
          case c2 => intro u hu; simp at hu; rcases hu with rfl | rfl <;> rfl
          case c3 => unfold maxLen; omega
          case c4 => omega
          case c5 => simp; omega
          intro v' w1 hown' hgrow _
          have hlt := hk.own.lt
          have n0 : ∀ k, u4.ownBlock = some k → k ≠ w.heap.size := fun k hk' => by have := hlt k hk'; omega
          have n1 : ∀ k, u4.ownBlock = some k → k ≠ bx := fun k hk' => by have := hlt k hk'; omega
          have u0' := (grown_cell hgrow w.heap.size 0 hzc n0).1.trans u0
          have u1' := (grown_cell hgrow w.heap.size 1 hzc n0).1.trans u1
          have g0' := (grown_cell hgrow w.heap.size 0 hzc n0).2.trans g0
          have g1' := (grown_cell hgrow w.heap.size 1 hzc n0).2.trans g1
          have m0' := (grown_cell hgrow bx 0 mz n1).1.trans m0
          have m1' := (grown_cell hgrow bx 1 mz n1).1.trans m1
          have r9' := (r9.below (below1 _ (.cells #[.int .u64 V, .int .i64 m] 50))).grown hgrow (fun i e => (hlt i e).2)
          have hbw' := (hbw.alloc hbw.size (.cells #[.int .u64 V, .int .i64 m] 50)).grown hgrow (by simp; omega) (fun k e => by have := hlt k e; omega)
          have hz1' : w.heap.size < w1.heap.size := by have := hgrow.size; simp at this; omega
          have hown2 : w1.ownsRow (w.heap.size + 1) 50 2 v' (K ++ [(V, m)]).length (cellsK (K ++ [(V, m)])) := by
            rw [cellsK_snoc, List.length_append, List.length_singleton]; exact hown'
          have henc := hk.enc.snoc V m hVm hm
          clear hown' hgrow hown u0 u1 g0 g1 m0 m1 r9 hbw hlt n0 n1 e0 e1
          go_wp2
          go_roundw
          case rel => exact ⟨j + 1, K ++ [(V, m)], X + V * 2 ^ M, M + m, x9, c9, by omega, by omega, by go_num, by simp; omega, by omega, hk.back henc hbw' ⟨_, u0'⟩ ⟨_, u1'⟩ g0' g1' hz1' r9' hown2⟩
          case measure => simp [intOf]; omega
        · rw [hE]
          rw [hN] at m1
          rw [hX] at m0 r9
          rw [← HC.out, byL_length] at m0 r9
          have hE0 : Hid _ := hE
          clear hE hN hX
          go_wp2
          go_roundw
          case rel => exact ⟨j + 1, K, X, M, x9, c9, by omega, by omega, by go_num, by omega, by omega, hk.back hk.enc hbw ⟨_, u0⟩ ⟨_, u1⟩ g0 g1 hzc r9 hown⟩
          case measure => simp [intOf]; omega
    · by_cases hl : j < len0
      · have hl2 : 100 ≤ j := by omega
        clear hlt
        obtain ⟨W1, rfl⟩ : ∃ x, x = wr := ⟨wr, rfl⟩
        obtain ⟨ka, kc, rfl, hkp⟩ := own_pairs hk.own
        have hKl : K.length ≤ 100 := by omega
        have s0 := hk.cell0
        have s1 := hk.cell1
        have hlo := hk.lt
        have hbelw := hk.bel
        have hrow := hk.row.rw
        have henc := hk.enc
        have hM2 : M ≤ 3200 := by omega
        have HS : Hid (sumN K K.length = M) := hk.enc.n.symm
        clear hP hk
        go_wp2
        go_loopw [9] (fun i wr => ∃ q : Nat, q ≤ K.length ∧ i = .int .i64 q ∧ Red W1 wr K q a ((M + 7) / 8) c) (fun i _ => K.length - (intOf i).toNat)
        case atStart => exact ⟨0, by omega, rfl, ⟨by simp [go_sem], by simp [go_sem, sumN_zero], by simp [go_sem], by simp [go_sem], below1 _ _, by simp⟩⟩
        case round =>
          obtain ⟨q, hq, rfl, hr⟩ := hrel
          by_cases hqk : q < K.length
          · obtain ⟨b, off, rfl, hb, hc⟩ := hkp.resolve_left (by omega)
            obtain ⟨c0, c1⟩ := hc q hqk
            have hsum := get_kept henc (by omega) q hqk
            have hz2 := hr.bel.size
            have hrl := hr.lt
            have hb2 : b < wr.heap.size := by omega
            have d0 := ((bcell hr.bel).1 b (off + q * 2) hb).trans c0
            have d1 := ((bcell hr.bel).1 b (off + q * 2 + 1) hb).trans c1
            have t0 := hr.cell0
            have t1 := hr.cell1
            have hrow2 := hrow.below hr.bel
            have GK : Hid _ := hsum
            clear hsum hkp hc c0 c1
            generalize (K.getD q (0, 0)).1 = Vq at *
            generalize (K.getD q (0, 0)).2 = nq' at *
            go_wp2
            go_cut [10, 11, 12] (fun p10 p11 p12 wz => p11 = .int .u64 (Vq : Int) ∧ p12 = .int .i64 0 ∧ Made wr wz p10 (.slice a ((M + 7) / 8) c) (.int .i64 (sumN K (q + 1) : Int)))
            case first =>
              go_region_held3 (fun w' => w'.cell? ⟨W1.heap.size, 0, none⟩ = some (.slice a ((M + 7) / 8) c) ∧ w'.cell? ⟨W1.heap.size, 1, none⟩ = some (.int .i64 (sumN K q : Int)) ∧ w'.cell? ⟨b, off + q * 2, none⟩ = some (.int .u64 (Vq : Int)) ∧ w'.cell? ⟨b, off + q * 2 + 1, none⟩ = some (.int .i64 (nq' : Int))) (exact held4 (by first | exact (Below.refl _ _).drew | exact ((Below.refl _ _).alloc (Nat.le_refl _) _).drew | exact hy1 | exact hy1.alloc hy1.size _ | exact bset2 hy1 _ _ _ _ _ _ (Nat.le_refl _) (Nat.le_refl _)) hrl hb2 t0 t1 d0 d1) (first | (go_at_call 18; refine (GK.out _ _ (hrow2.below (by first | exact (Below.refl _ _).drew | exact ((Below.refl _ _).alloc (Nat.le_refl _) _).drew | exact hy1 | exact hy1.alloc hy1.size _ | exact bset2 hy1 _ _ _ _ _ _ (Nat.le_refl _) (Nat.le_refl _)))).mono ?_; rintro e y1 ⟨rfl, e1⟩; have hy1 : Below wr.heap.size wr y1 := bthen' (by first | exact (Below.refl _ _).drew | exact ((Below.refl _ _).alloc (Nat.le_refl _) _).drew | exact hy1 | exact hy1.alloc hy1.size _ | exact bset2 hy1 _ _ _ _ _ _ (Nat.le_refl _) (Nat.le_refl _)) e1; obtain ⟨hcA, hfA⟩ := bcell e1))
              all_goals go_wp2
              all_goals go_meet
              all_goals first | exact ⟨rfl, rfl, made_after hy1⟩ | exact ⟨rfl, rfl, made_before e1⟩
            case rest =>
              obtain ⟨rfl, rfl, bx, rfl, m0, m1, mz, mlo, mbel⟩ := hcut
              have f0 := ((bcell mbel).1 b (off + q * 2) hb2).trans d0
              have f1 := ((bcell mbel).1 b (off + q * 2 + 1) hb2).trans d1
              have v0 := ((bcell mbel).1 W1.heap.size 0 hrl).trans t0
              have v1 := ((bcell mbel).1 W1.heap.size 1 hrl).trans t1
              have x0 := ((bcell mbel).2 W1.heap.size 0 hrl).trans hr.fr0
              have x1 := ((bcell mbel).2 W1.heap.size 1 hrl).trans hr.fr1
              have hback := hr.back mbel
              clear t0 t1 d0 d1 hrow2 GK hr
              go_wp2
              go_roundw
              case rel => exact ⟨q + 1, by omega, by go_num, hback⟩
              case measure => simp [intOf]; omega
          · have hqe : q = K.length := by omega
            subst hqe
            have t0 := hr.cell0
            have t1 := hr.cell1
            have hrl := hr.lt
            rw [HS.out] at t1
            have z0 := ((bcell hr.bel).1 w.heap.size 0 hlo).trans s0
            have z1 := ((bcell hr.bel).1 w.heap.size 1 hlo).trans s1
            have hb2 := bthen hbelw hr.bel hbelw.size
            clear hkp hrow henc hqk hr s0 s1
            go_wp2_with (first | (go_at_call 13; refine (left_any _ _ _ _ _ (by omega)).mono ?_; rw [if_pos (by omega)]; rintro e y1 ⟨rfl, e1⟩) | (go_at_call 10; refine (knows_any _).mono ?_; rintro e y2 ⟨rfl, e2⟩))
            go_ret
            have h3 := bthen hb2 e1 hb2.size
            exact ⟨rfl, bthen h3 e2 h3.size⟩
      · have hl2 : len0 ≤ j := by omega
        clear hlt hl
        obtain ⟨W1, rfl⟩ : ∃ x, x = wr := ⟨wr, rfl⟩
        obtain ⟨ka, kc, rfl, hkp⟩ := own_pairs hk.own
        have hKl : K.length ≤ 100 := by omega
        have s0 := hk.cell0
        have s1 := hk.cell1
        have hlo := hk.lt
        have hbelw := hk.bel
        have hrow := hk.row.rw
        have henc := hk.enc
        have hM2 : M ≤ 3200 := by omega
        have HS : Hid (sumN K K.length = M) := hk.enc.n.symm
        clear hP hk
        go_wp2
        go_loopw [9] (fun i wr => ∃ q : Nat, q ≤ K.length ∧ i = .int .i64 q ∧ Red W1 wr K q a ((M + 7) / 8) c) (fun i _ => K.length - (intOf i).toNat)
        case atStart => exact ⟨0, by omega, rfl, ⟨by simp [go_sem], by simp [go_sem, sumN_zero], by simp [go_sem], by simp [go_sem], below1 _ _, by simp⟩⟩
        case round =>
          obtain ⟨q, hq, rfl, hr⟩ := hrel
          by_cases hqk : q < K.length
          · obtain ⟨b, off, rfl, hb, hc⟩ := hkp.resolve_left (by omega)
            obtain ⟨c0, c1⟩ := hc q hqk
            have hsum := get_kept henc (by omega) q hqk
            have hz2 := hr.bel.size
            have hrl := hr.lt
            have hb2 : b < wr.heap.size := by omega
            have d0 := ((bcell hr.bel).1 b (off + q * 2) hb).trans c0
            have d1 := ((bcell hr.bel).1 b (off + q * 2 + 1) hb).trans c1
            have t0 := hr.cell0
            have t1 := hr.cell1
            have hrow2 := hrow.below hr.bel
            have GK : Hid _ := hsum
            clear hsum hkp hc c0 c1
            generalize (K.getD q (0, 0)).1 = Vq at *
            generalize (K.getD q (0, 0)).2 = nq' at *
            go_wp2
            go_cut [10, 11, 12] (fun p10 p11 p12 wz => p11 = .int .u64 (Vq : Int) ∧ p12 = .int .i64 0 ∧ Made wr wz p10 (.slice a ((M + 7) / 8) c) (.int .i64 (sumN K (q + 1) : Int)))
            case first =>
              go_region_held3 (fun w' => w'.cell? ⟨W1.heap.size, 0, none⟩ = some (.slice a ((M + 7) / 8) c) ∧ w'.cell? ⟨W1.heap.size, 1, none⟩ = some (.int .i64 (sumN K q : Int)) ∧ w'.cell? ⟨b, off + q * 2, none⟩ = some (.int .u64 (Vq : Int)) ∧ w'.cell? ⟨b, off + q * 2 + 1, none⟩ = some (.int .i64 (nq' : Int))) (exact held4 (by first | exact (Below.refl _ _).drew | exact ((Below.refl _ _).alloc (Nat.le_refl _) _).drew | exact hy1 | exact hy1.alloc hy1.size _ | exact bset2 hy1 _ _ _ _ _ _ (Nat.le_refl _) (Nat.le_refl _)) hrl hb2 t0 t1 d0 d1) (first | (go_at_call 18; refine (GK.out _ _ (hrow2.below (by first | exact (Below.refl _ _).drew | exact ((Below.refl _ _).alloc (Nat.le_refl _) _).drew | exact hy1 | exact hy1.alloc hy1.size _ | exact bset2 hy1 _ _ _ _ _ _ (Nat.le_refl _) (Nat.le_refl _)))).mono ?_; rintro e y1 ⟨rfl, e1⟩; have hy1 : Below wr.heap.size wr y1 := bthen' (by first | exact (Below.refl _ _).drew | exact ((Below.refl _ _).alloc (Nat.le_refl _) _).drew | exact hy1 | exact hy1.alloc hy1.size _ | exact bset2 hy1 _ _ _ _ _ _ (Nat.le_refl _) (Nat.le_refl _)) e1; obtain ⟨hcA, hfA⟩ := bcell e1))
              all_goals go_wp2
              all_goals go_meet
              all_goals first | exact ⟨rfl, rfl, made_after hy1⟩ | exact ⟨rfl, rfl, made_before e1⟩
            case rest =>
              obtain ⟨rfl, rfl, bx, rfl, m0, m1, mz, mlo, mbel⟩ := hcut
              have f0 := ((bcell mbel).1 b (off + q * 2) hb2).trans d0
              have f1 := ((bcell mbel).1 b (off + q * 2 + 1) hb2).trans d1
              have v0 := ((bcell mbel).1 W1.heap.size 0 hrl).trans t0
              have v1 := ((bcell mbel).1 W1.heap.size 1 hrl).trans t1
              have x0 := ((bcell mbel).2 W1.heap.size 0 hrl).trans hr.fr0
              have x1 := ((bcell mbel).2 W1.heap.size 1 hrl).trans hr.fr1
              have hback := hr.back mbel
              clear t0 t1 d0 d1 hrow2 GK hr
              go_wp2
              go_roundw
              case rel => exact ⟨q + 1, by omega, by go_num, hback⟩
              case measure => simp [intOf]; omega
          · have hqe : q = K.length := by omega
            subst hqe
            have t0 := hr.cell0
            have t1 := hr.cell1
            have hrl := hr.lt
            rw [HS.out] at t1
            have z0 := ((bcell hr.bel).1 w.heap.size 0 hlo).trans s0
            have z1 := ((bcell hr.bel).1 w.heap.size 1 hlo).trans s1
            have hb2 := bthen hbelw hr.bel hbelw.size
            clear hkp hrow henc hqk hr s0 s1
            go_wp2_with (first | (go_at_call 13; refine (left_any _ _ _ _ _ (by omega)).mono ?_; rw [if_pos (by omega)]; rintro e y1 ⟨rfl, e1⟩) | (go_at_call 10; refine (knows_any _).mono ?_; rintro e y2 ⟨rfl, e2⟩))
            go_ret
            have h3 := bthen hb2 e1 hb2.size
            exact ⟨rfl, bthen h3 e2 h3.size⟩

set_option maxRecDepth 100000 in
theorem lifted (os : Os) (started : os.Started) (H : Type) (enc : TypeId × Value → H) :
    ReturnsInHanded {} Try.checked os 6 .any (Rows.bitsBackSpec.pre6 enc Try.prog Try.f6 Rows.bitsBackRow.domain false) (Rows.bitsBackSpec.post enc Try.prog Try.f6 false true false false) := by
  refine returnsInHanded_of_change (C := Try.checked) own started (by kernel_rfl) Try.func6
    (ChangeSpec.witness6 (enc := enc) (C := Try.checked) false ⟨#[], #[.slice none 0 0], []⟩ 8 (by kernel_rfl) (by kernel_rfl) (by kernel_rfl) (by kernel_rfl)) ?_
  intro W base args ds gs before hval0 hW hcnd _
  have hval : ∀ (j : Nat) t v, Try.f6.params[j]? = some t → args[j]? = some v → Value.okWide Try.prog W .any base t v := hval0
  have hW' := hW
  obtain ⟨p, q, hA0, hV, rfl, hfz, hnd⟩ := hW
  have hA : DataW.TrodAll enc Try.prog W 0 (fun _ => true) true Try.f6.params.toList args.toList ds p := hA0
  rw [Try.params6] at hA hval
  obtain ⟨v0, vs0, d0, ds0, p0, q0, hargs, rfl, rfl, h0, r0⟩ := trodAll_cons hA
  obtain ⟨rfl, rfl, rfl⟩ := trodAll_nil r0
  obtain rfl : args = #[v0] := by cases args; simp_all
  obtain ⟨rfl, rfl⟩ := trodVars_none hV
  have k0 := h0
  have lt0 : ∀ x ∈ p0, x.block < W.heap.size := by obtain ⟨m, hm⟩ := k0; exact DataW.trod_lt m _ _ _ hm
  obtain ⟨a0, len0, cap0, rfl⟩ := okWide_slice Try.underlying48 (hval 0 48 v0 rfl rfl)
  obtain ⟨z0, y0, w0⟩ : ∃ z0 z1, IsPairs .u64 .i64 W a0 len0 z0 z1 := by
    obtain ⟨fuel, hf⟩ := h0
    exact pairs_of_trod Try.underlying48 Try.underlying50 (by kernel_rfl) rfl rfl (by kernel_rfl) (by kernel_rfl) (by exact Try.underlying34) (by exact Try.underlying3) (show DataW.trod enc Try.prog W 0 (fun _ => true) true fuel 48 [.slice a0 len0 cap0] = _ from hf)
  clear hA0 hval0
  refine (walk a0 len0 cap0 z0 y0 W w0).mono fun e W' ⟨he, bel⟩ => ?_
  subst he
  exact ⟨_, rfl, _, _, _, [], _, [], hW', trodAll_mk1 (shut_bool Try.underlying4 _), (trodAll_cons_mk (Below.trod laidOut (by kernel_rfl) (of_decide_eq_true (by kernel_rfl)) k0 bel lt0) trodAll_mk0), rfl, bel.frame _, fun h => by cases h⟩

theorem over : Rows.bitsBackRow.holds Try.pinned (OpenSpec.ofChange Rows.bitsBackSpec) :=
  OpenClaim.holds_of_wide 6 Try.f6 rfl rfl rfl rfl rfl rfl rfl ⟨rfl, rfl, rfl, rfl, rfl⟩ rfl rfl rfl rfl rfl (by kernel_rfl) Try.func6 (by kernel_rfl)
    (of_decide_eq_true (by kernel_rfl)) (by unfold Func.isWrapper; first | (rw [if_pos (by decide +kernel)]; kernel_rfl) | (rw [if_neg (by decide +kernel)]; exact ⟨rfl, rfl⟩))
    (fun os started H enc _ => lifted os started H enc)

theorem proved : Rows.BitsBackSaid := over
#print axioms proved
end Go.Proofs.Ytjlfnihogfgjnaa.bitsBack
