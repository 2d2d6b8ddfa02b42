/- The contracts of both Puts, at every argument. -/
import Derived.Test.YtjlfnihogfgjnaaWl
namespace Go.Proofs.Ytjlfnihogfgjnaa
open Go.RowKit
set_option linter.unusedVariables false
set_option linter.unusedSimpArgs false

theorem owns_open {w : World} {base : Nat} {e : TypeId} {v : Value} {n : Nat} {xs : List Value} (h : w.ownsRow base e 1 v n xs) : ∃ a cap, v = .slice a n cap ∧ n ≤ cap ∧ cap ≤ maxLen ∧ (a = none → cap = 0) := by
  obtain ⟨h1, h2⟩ := h
  rcases h2 with ⟨rfl, rfl⟩ | ⟨g, cap, cur, rfl, hg, hh, hcap, hm, r⟩
  · exact ⟨none, 0, rfl, by omega, by omega, fun _ => rfl⟩
  · exact ⟨_, cap, rfl, hcap, hm, fun h => by cases h⟩

set_option maxHeartbeats 2000000 in
theorem rput_ok (v : Value) (xs : List Int) (M : Int) (V n N : Nat) (w : World) (hv : Rw .u8 w v xs) (hx : Byts xs) (hl : xs.length ≤ 100000) (hn : n ≤ 32) (h : (V : Int) < P2 n) (hgN : goodN xs M = N) (hf : N + n ≤ 32000) (hlen : Hid ((goodX xs M).length = (N + 7) / 8)) (HX : Hid (bv (goodX xs M) < 2 ^ N)) :
    Calls Try.prog 15 #[.agg #[v, .int .i64 M], .int .u64 V, .int .i64 n] w fun e w' => ∃ v', e = .returned (.tuple #[.agg #[v', .int .i64 ((N : Int) + n)], .int .i64 0]) ∧ Rw .u8 w' v' (byL (bv (goodX xs M) + V * 2 ^ N) ((N + n + 7) / 8)) ∧ Below w.heap.size w w' := by
  have hW := below2 w (.cells #[v, .int .i64 M] 29) (.cells #[.slice none 0 0, .int .i64 0] 29)
  have hv1 := hv.below hW
  have hg := good_rw hv M
  obtain ⟨a, cap, rfl, _⟩ := hv
  obtain ⟨a2, cap2, hgv, _⟩ := id hg
  rw [hgv] at hg
  have hgl := Nat.le_trans (good_le xs M) hl
  have hgb := good_byts hx M
  generalize goodX xs M = gx at *
  go_enter Try.func15, Try.ntmps15
  go_wp2_with (first | (go_at_call 25; refine (good_any _ M xs _ hv1 hx hl).mono ?_; rintro e w' ⟨rfl, hb1⟩; rw [hgv, hgN]; obtain ⟨q0, q1, q2, q3, f0, f1, f2, f3, hz⟩ := two_boxes hb1) | (go_at_call 20; refine (power_any n _ hn).mono ?_; rintro e w'' ⟨rfl, rfl⟩))
  have hB := bset2 (bthen hW hb1 hW.size) w.heap.size w.heap.size 0 1 (.slice a2 gx.length cap2) (.int .i64 N) (by omega) (by omega)
  have hgW := hg.below hB
  have r0 : ((w'.setCell ⟨w.heap.size, 0, none⟩ (.slice a2 gx.length cap2)).setCell ⟨w.heap.size, 1, none⟩ (.int .i64 N)).cell? ⟨w.heap.size, 0, none⟩ = some (.slice a2 gx.length cap2) := by simp [go_sem, q0, q1]
  have r1 : ((w'.setCell ⟨w.heap.size, 0, none⟩ (.slice a2 gx.length cap2)).setCell ⟨w.heap.size, 1, none⟩ (.int .i64 N)).cell? ⟨w.heap.size, 1, none⟩ = some (.int .i64 N) := by simp [go_sem, q0, q1]
  have r2 : ((w'.setCell ⟨w.heap.size, 0, none⟩ (.slice a2 gx.length cap2)).setCell ⟨w.heap.size, 1, none⟩ (.int .i64 N)).cell? ⟨w.heap.size + 1, 0, none⟩ = some (.slice none 0 0) := by simp [go_sem, q0, q1, q2]
  have r3 : ((w'.setCell ⟨w.heap.size, 0, none⟩ (.slice a2 gx.length cap2)).setCell ⟨w.heap.size, 1, none⟩ (.int .i64 N)).cell? ⟨w.heap.size + 1, 1, none⟩ = some (.int .i64 0) := by simp [go_sem, q0, q1, q3]
  have s2 : ((w'.setCell ⟨w.heap.size, 0, none⟩ (.slice a2 gx.length cap2)).setCell ⟨w.heap.size, 1, none⟩ (.int .i64 N)).frozen? ⟨w.heap.size + 1, 0, none⟩ = false := by simp [f2]
  have s3 : ((w'.setCell ⟨w.heap.size, 0, none⟩ (.slice a2 gx.length cap2)).setCell ⟨w.heap.size, 1, none⟩ (.int .i64 N)).frozen? ⟨w.heap.size + 1, 1, none⟩ = false := by simp [f3]
  have hzW : w.heap.size + 1 < ((w'.setCell ⟨w.heap.size, 0, none⟩ (.slice a2 gx.length cap2)).setCell ⟨w.heap.size, 1, none⟩ (.int .i64 N)).heap.size := by simp [World.setCell]; omega
  clear q0 q1 q2 q3 f0 f1 f2 f3 hb1 hg hv1 hW hz
  generalize ((w'.setCell ⟨w.heap.size, 0, none⟩ (.slice a2 gx.length cap2)).setCell ⟨w.heap.size, 1, none⟩ (.int .i64 N)) = W at *
  go_region_held3 (fun w' => w'.cell? ⟨w.heap.size, 0, none⟩ = some (.slice a2 gx.length cap2) ∧ w'.cell? ⟨w.heap.size, 1, none⟩ = some (.int .i64 N)) (first | exact ⟨r0, r1⟩ | exact ⟨t0, t1⟩) (first | (go_at_call 21; refine (bits_any _ gx _ (hgW.below ((Below.refl _ _).drew)) hgb hgl).mono ?_; rintro e w1 ⟨v1, rfl, hown, hb1⟩; have t0 := ((bcell hb1).1 w.heap.size 0 (by show w.heap.size < W.heap.size; omega)).trans r0; have t1 := ((bcell hb1).1 w.heap.size 1 (by show w.heap.size < W.heap.size; omega)).trans r1; obtain ⟨a1, c1, rfl, hc1, hm1, h01⟩ := owns_open hown; have hN1 : (N : Int) ≤ c1 := by have := hlen.out; omega))
  have hown2 : w1.ownsRow W.heap.size 3 1 (.slice a1 N c1) N ((bl (bv gx + V * 2 ^ N) N).map (Value.int .i64)) := by
    have := owns_cut (n := N) hown (by have := hlen.out; omega) (fun _ h => h01 h)
    rw [← List.map_take, bl_take _ _ _ (by have := hlen.out; omega)] at this
    rw [bl_put]; exact this
  have hBw1 : Below W.heap.size W w1 := ⟨hb1.os, hb1.tape, hb1.output, hb1.size, hb1.block⟩
  have HZ : Hid (∀ k, bitAt (bv gx + V * 2 ^ N) (N + k) = ((V / 2 ^ k % 2 : Nat) : Int)) := fun k => bl_put_new _ _ _ _ HX.out
  have HP : Hid (V < 2 ^ n) := by unfold Hid; unfold P2 at h; omega
  have HL : Hid (bv gx + V * 2 ^ N < 2 ^ (N + n)) := put_lt _ _ _ _ HX.out HP.out
  have hVb : V < 4294967296 := by
    have h1 := HP.out
    have h2 : (2 : Nat) ^ n ≤ 2 ^ 32 := Nat.pow_le_pow_right (by decide) hn
    omega
  obtain ⟨i0, hi, hz0, hz1, hz2⟩ := info_parts info3
  clear hown hb1 t0 t1 hgW
  generalize hZ : bv gx + V * 2 ^ N = Z at *
  have HZe : Hid _ := hZ
  clear hZ
  go_wp2
  go_loopw [1, 8, 9] (fun v l i wr => ∃ k : Nat, ∃ y : Int, k ≤ n ∧ i = .int .i64 k ∧ v = .int .u64 y ∧ 0 ≤ y ∧ y < 4294967296 ∧ Hid (y = ((V / 2 ^ k : Nat) : Int)) ∧ wr.ownsRow W.heap.size 3 1 l (N + k) ((bl Z (N + k)).map (Value.int .i64)) ∧ Below W.heap.size W wr) (fun _ _ i _ => n - (intOf i).toNat)
  case atStart => exact ⟨0, V, by omega, rfl, rfl, by omega, by omega, by unfold Hid; simp, hown2, hBw1⟩
  case round =>
    obtain ⟨k, y, hk, rfl, rfl, hy0, hy1, HY, hownk, hnx⟩ := hrel
    clear hown2 hBw1
    by_cases hlt : k < n
    · go_wp2_with (at_builtin; refine wpList_append_own _ rfl _ _ 54 rfl W.heap.size 3 i0 (.int .i64 0) 1 8 Try.underlying54 hi hz0 hz1 hz2 rfl (by decide) _ _ _ rfl (hownk.alloc _) ⟨_, 0, none⟩ 1 1 [_] rfl rfl (cell_one_new _ _ _) ?c2 ?c3 ?c4 ?c5 ?_)
      case c2 => intro u hu; simp at hu; subst hu; rfl
      case c3 => unfold maxLen; omega
      case c4 => omega
      case c5 => have := hnx.size; simp; omega
      intro v' w2 hown' hgrow _
      have hb2 := (hnx.alloc hnx.size (Obj.cells #[Value.int IntKind.i64 (y % 2)] 3)).grown hgrow (by have := hnx.size; simp; omega) (fun k hk => (hownk.lt k hk).1)
      have hown3 : w2.ownsRow W.heap.size 3 1 v' (N + (k + 1)) ((bl Z (N + (k + 1))).map (Value.int .i64)) := by
        rw [← Nat.add_assoc, bl_succ, List.map_append, HZ.out k, show ((V / 2 ^ k % 2 : Nat) : Int) = y % 2 by rw [HY.out]; omega]
        exact hown'
      clear hown' hgrow hownk hnx
      go_wp2
      go_roundw
      case rel => exact ⟨k + 1, _, by omega, by go_num, rfl, by omega, by omega, by unfold Hid; rw [HY.out, Nat.pow_succ, ← Nat.div_div_eq_div_mul]; omega, hown3, hb2⟩
      case measure => simp [intOf]; omega
    · have hge : n ≤ k := by omega
      clear hlt
      have hkn : k = n := by omega
      subst hkn
      have t1 := ((bcell hnx).1 w.heap.size 1 (by omega)).trans r1
      have t2 := ((bcell hnx).1 (w.heap.size + 1) 0 (by omega)).trans r2
      have t3 := ((bcell hnx).1 (w.heap.size + 1) 1 (by omega)).trans r3
      have u2 := ((bcell hnx).2 (w.heap.size + 1) 0 (by omega)).trans s2
      have u3 := ((bcell hnx).2 (w.heap.size + 1) 1 (by omega)).trans s3
      have hzr := hnx.size
      go_wp2
      go_region_held3 (fun w' => w'.cell? ⟨w.heap.size, 1, none⟩ = some (.int .i64 N)) (first | exact t1 | exact p1 | (rw [World.cell?_setCell_other _ _ _ _ (by simp), World.cell?_setCell_other _ _ _ _ (by simp)]; exact p1)) (first | (go_at_call 26; refine (bytes_any _ Z (N + k) _ ((Rw.of_owns hownk).below ((Below.refl _ _).drew)) HL.out (by omega)).mono ?_; rintro e w3 ⟨v3, rfl, hown3, hb3⟩; obtain ⟨a3, c3, rfl, hc3, hm3, h03⟩ := owns_open hown3; have p1 := ((bcell hb3).1 w.heap.size 1 (by show _ < wr.heap.size; omega)).trans t1; have p2 := ((bcell hb3).1 (w.heap.size + 1) 0 (by show _ < wr.heap.size; omega)).trans t2; have p3 := ((bcell hb3).1 (w.heap.size + 1) 1 (by show _ < wr.heap.size; omega)).trans t3; have g2 := ((bcell hb3).2 (w.heap.size + 1) 0 (by show _ < wr.heap.size; omega)).trans u2; have g3 := ((bcell hb3).2 (w.heap.size + 1) 1 (by show _ < wr.heap.size; omega)).trans u3))
      have hwr : IntKind.i64.wrap ((N : Int) + k) = (N : Int) + k := by rw [IntKind.wrap_i64]; omega
      rw [hwr]
      have hz3 := hb3.size
      have hz3' : wr.heap.size ≤ w3.heap.size := hz3
      have hBr : Below w.heap.size w wr := hB.trans (hnx.mono (by omega))
      have hB3 : Below w.heap.size w w3 := hBr.drew.trans (hb3.mono hBr.size)
      go_wp2
      refine bodyPost_ret (v := .tuple #[.agg #[.slice a3 ((N + k + 7) / 8) c3, .int .i64 ((N : Int) + k)], .int .i64 0]) (by simp [results, Try.results15, go_sem, p2, p3, g2, g3]) rfl ⟨_, rfl, ?_, bset2 hB3 _ _ _ _ _ _ (by omega) (by omega)⟩
      rw [HZe.out]
      exact (((RwF.of_owns hown3).set (w.heap.size + 1) 0 (.slice a3 ((N + k + 7) / 8) c3) (by show w.heap.size + 1 < wr.heap.size; omega)).set (w.heap.size + 1) 1 (.int .i64 ((N : Int) + k)) (by show w.heap.size + 1 < wr.heap.size; omega)).rw

/-! ### What is put, by the document -/
def putE (xs : List Int) (M : Int) (V : Nat) (n : Int) : Int := if 0 ≤ n ∧ n ≤ 32 ∧ V < 2 ^ n.toNat then (if goodN xs M + n ≤ 32000 then 0 else 3) else 1
def putN (xs : List Int) (M : Int) (V : Nat) (n : Int) : Int := if putE xs M V n = 0 then goodN xs M + n else goodN xs M
def putX (xs : List Int) (M : Int) (V : Nat) (n : Int) : List Int := if putE xs M V n = 0 then byL (bv (goodX xs M) + V * 2 ^ (goodN xs M).toNat) (((goodN xs M).toNat + n.toNat + 7) / 8) else goodX xs M

theorem putX_byts {xs : List Int} (h : Byts xs) (M : Int) (V : Nat) (n : Int) : Byts (putX xs M V n) := by
  unfold putX; split
  · exact byL_byts _ _
  · exact good_byts h M

theorem rput_any (v : Value) (xs : List Int) (M : Int) (V : Nat) (n : Int) (w : World) (hv : Rw .u8 w v xs) (hx : Byts xs) (hl : xs.length ≤ 100000) :
    Calls Try.prog 15 #[.agg #[v, .int .i64 M], .int .u64 V, .int .i64 n] w fun e w' => ∃ v', e = .returned (.tuple #[.agg #[v', .int .i64 (putN xs M V n)], .int .i64 (putE xs M V n)]) ∧ Rw .u8 w' v' (putX xs M V n) ∧ Below w.heap.size w w' := by
  obtain ⟨N, hN, hN1, hlen, hX⟩ := goodN_nat xs M
  by_cases h1 : 0 ≤ n ∧ n ≤ 32
  · obtain ⟨m, rfl⟩ := Int.eq_ofNat_of_zero_le h1.1
    by_cases h2 : V < 2 ^ m
    · by_cases h3 : (N : Int) + m ≤ 32000
      · have e : putE xs M V m = 0 := by unfold putE; rw [if_pos ⟨h1.1, h1.2, by simpa using h2⟩, hN, if_pos h3]
        unfold putN putX
        rw [e, if_pos rfl, if_pos rfl, hN]
        exact rput_ok v xs M V m N w hv hx hl (by omega) (by unfold P2; omega) hN (by omega) hlen hX
      · have e : putE xs M V m = 3 := by unfold putE; rw [if_pos ⟨h1.1, h1.2, by simpa using h2⟩, hN, if_neg h3]
        unfold putN putX
        rw [e, if_neg (by decide), if_neg (by decide)]
        exact rput_full v xs M V m w hv hx hl (by omega) (by unfold P2; omega) (by omega)
    · have e : putE xs M V m = 1 := by unfold putE; rw [if_neg (by rintro ⟨_, _, h⟩; exact h2 (by simpa using h))]
      unfold putN putX
      rw [e, if_neg (by decide), if_neg (by decide)]
      exact rput_big v xs M V m w hv hx hl (by omega) (by unfold P2; omega)
  · have e : putE xs M V n = 1 := by unfold putE; rw [if_neg (by omega)]
    unfold putN putX
    rw [e, if_neg (by decide), if_neg (by decide)]
    exact rput_arg v xs M V n w hv hx hl (by omega)

theorem shr_zero (V m : Nat) : (((V : Int) / 2 ^ m != 0) = false ↔ V < 2 ^ m) := by
  rw [nat_shr]
  have : V / 2 ^ m = 0 ↔ V < 2 ^ m := by rw [Nat.div_eq_zero_iff]; have := Nat.two_pow_pos m; omega
  simp only [bne_eq_false_iff_eq]
  rw [← this]
  omega

theorem put_any (v : Value) (xs : List Int) (M : Int) (V : Nat) (n : Int) (w : World) (hv : Rw .u8 w v xs) (hx : Byts xs) (hV : V < 2 ^ 64) :
    Calls Try.prog 14 #[.agg #[v, .int .i64 M], .int .u64 V, .int .i64 n] w fun e w' => ∃ v', e = .returned (.tuple #[.agg #[v', .int .i64 (putN xs M V n)], .int .i64 (putE xs M V n)]) ∧ RwF w.heap.size .u8 w' v' (putX xs M V n) ∧ Below w.heap.size w w' := by
  have hv0 := hv
  obtain ⟨a, cap, rfl, _⟩ := hv
  by_cases hr : rightB xs M = true
  · have hr' := hr
    unfold rightB at hr'
    rw [decide_eq_true_eq] at hr'
    obtain ⟨N, rfl⟩ := Int.eq_ofNat_of_zero_le hr'.1
    rw [Int.toNat_natCast] at hr'
    have gN : goodN xs N = N := by unfold goodN; rw [if_pos hr]
    have gX : goodX xs N = xs := by unfold goodX; rw [if_pos hr]
    by_cases h1 : 0 ≤ n ∧ n ≤ 32
    · obtain ⟨m, rfl⟩ := Int.eq_ofNat_of_zero_le h1.1
      by_cases h2 : V < 2 ^ m
      · have hs := (shr_zero V m).2 h2
        by_cases h3 : (N : Int) + m ≤ 32000
        · have e : putE xs N V m = 0 := by unfold putE; rw [if_pos ⟨h1.1, h1.2, by simpa using h2⟩, gN, if_pos h3]
          unfold putN putX
          rw [e, if_pos rfl, if_pos rfl, gN, gX]
          refine (put_right_ok a cap xs N w hv0 hx hr (by omega) hr'.2.2.1 V m hV (by omega) hs (by omega) hr'.2.2.2).mono ?_
          rintro e w' ⟨v', cur, rfl, hrw, hb, hcur, hlen, hbv⟩
          refine ⟨v', rfl, ?_, hb⟩
          have := byL_eq hcur hbv
          rw [Nat.mod_eq_of_lt h2, hlen] at this
          rw [this] at hrw
          exact hrw
        · have e : putE xs N V m = 3 := by unfold putE; rw [if_pos ⟨h1.1, h1.2, by simpa using h2⟩, gN, if_neg h3]
          unfold putN putX
          rw [e, if_neg (by decide), if_neg (by decide), gN, gX]
          exact put_right_full a cap xs N w hv0 hx hr (by omega) hr'.2.2.1 V m hV (by omega) hs (by omega)
      · have hs : (((V : Int) / 2 ^ m != 0) = true) := by
          cases hh : ((V : Int) / 2 ^ m != 0)
          · exact absurd ((shr_zero V m).1 hh) h2
          · rfl
        have e : putE xs N V m = 1 := by unfold putE; rw [if_neg (by rintro ⟨_, _, h⟩; exact h2 (by simpa using h))]
        unfold putN putX
        rw [e, if_neg (by decide), if_neg (by decide), gN, gX]
        exact put_right_big a cap xs N w hv0 hx hr (by omega) hr'.2.2.1 V m hV (by omega) hs
    · have e : putE xs N V n = 1 := by unfold putE; rw [if_neg (by omega)]
      unfold putN putX
      rw [e, if_neg (by decide), if_neg (by decide), gN, gX]
      exact put_right_arg a cap xs N w hv0 hx hr (by omega) hr'.2.2.1 V n hV h1
  · have hr : rightB xs M = false := by simpa using hr
    have gN : goodN xs M = 0 := by unfold goodN; rw [hr]; rfl
    have gX : goodX xs M = [] := by unfold goodX; rw [hr]; rfl
    by_cases h1 : 0 ≤ n ∧ n ≤ 32
    · obtain ⟨m, rfl⟩ := Int.eq_ofNat_of_zero_le h1.1
      by_cases h2 : V < 2 ^ m
      · have hs := (shr_zero V m).2 h2
        have e : putE xs M V m = 0 := by unfold putE; rw [if_pos ⟨h1.1, h1.2, by simpa using h2⟩, gN, if_pos (by omega)]
        unfold putN putX
        rw [e, if_pos rfl, if_pos rfl, gN, gX]
        refine (put_wrong_ok a cap xs M w hv0 hx hr V m hV (by omega) hs (by omega) (by unfold Hid; simp [bv])).mono ?_
        rintro e w' ⟨v', cur, rfl, hrw, hb, hcur, hlen, hbv⟩
        refine ⟨v', by simp, ?_, hb⟩
        have := byL_eq hcur hbv
        rw [Nat.mod_eq_of_lt h2, hlen] at this
        rw [this] at hrw
        simpa using hrw
      · have hs : (((V : Int) / 2 ^ m != 0) = true) := by
          cases hh : ((V : Int) / 2 ^ m != 0)
          · exact absurd ((shr_zero V m).1 hh) h2
          · rfl
        have e : putE xs M V m = 1 := by unfold putE; rw [if_neg (by rintro ⟨_, _, h⟩; exact h2 (by simpa using h))]
        unfold putN putX
        rw [e, if_neg (by decide), if_neg (by decide), gN, gX]
        exact put_wrong_big a cap xs M w hv0 hx hr V m hV (by omega) hs
    · have e : putE xs M V n = 1 := by unfold putE; rw [if_neg (by omega)]
      unfold putN putX
      rw [e, if_neg (by decide), if_neg (by decide), gN, gX]
      exact put_wrong_arg a cap xs M w hv0 hx hr V n hV h1
end Go.Proofs.Ytjlfnihogfgjnaa
