/- Contract: the document's Frames. -/
import Derived.Test.YtdfihdkkidekjaaDoorHf
namespace Go.Proofs.YtdfihdkkidekjaaDoor
open Go.RowKit
set_option linter.unusedVariables false
set_option linter.unusedSimpArgs false

theorem mul_next {j c s : Nat} (h : j + 1 < c) : (j + 1) * s + s ≤ c * s := by
  rw [← Nat.succ_mul]
  exact Nat.mul_le_mul_right s h
theorem mul_over {j c s : Nat} (hs : 0 < s) (h : ¬ (j + 1) * s < c * s) : c ≤ j + 1 := by
  rcases Nat.lt_or_ge (j + 1) c with q | q
  · exact absurd ((Nat.mul_lt_mul_right hs).2 q) h
  · exact q

theorem one_slice (a : Option Addr) (n c : Nat) : ∀ u ∈ [Value.slice a n c], u.oneCell' = true := by intro u hu; simp at hu; subst hu; rfl
set_option maxHeartbeats 4000000 in
theorem rframes_any (a : Option Addr) (cap s K : Nat) (x : List Int) (w : World) (hv : Rw .i64 w (.slice a x.length cap) x) (hn0 : a = none → cap = 0) (hS : Sz s K) (hn : x.length ≤ 200) (hb : Bd (-262144) 262144 x) :
    Calls Tryd.prog 22 #[.slice a x.length cap, .int .i64 s] w fun e w' => ∃ v, e = .returned v ∧ Fr false w' v (frames s K x) ∧ Below w.heap.size w w' := by
  obtain ⟨i0, hi, hz0, hz1, hz2⟩ := info_parts (show (Tryd.prog.info? 22).map (fun i => (i.zero, i.size, i.bytes)) = some (some (.slice none 0 0), 1, 24) by kernel_rfl)
  obtain ⟨q1, q2, _, _, q5⟩ := cnt_parts hS x.length
  have hfull := rfull_any a cap s K x w hv hn0 hS hn
  have s0 : 8 ≤ s := hS.le.1
  have s1 : s ≤ 32 := hS.le.2.1
  have HFL := hid (full_len hS x)
  have HFB := hid (full_bd (s := s) (by omega) hb)
  have HAL := hid (all_len hS x)
  have HAB := hid ((all_bd hS (by omega) hb).mono (lo' := -16777216) (hi' := 16777216) (by omega) (by omega))
  have HPW := hid hS.pow
  have HK5 := hid hS.le.2.2.1
  have HALL : Hid (all s x = tnN s (cnt s x.length - 1) (full s x)) := rfl
  have HFM : Hid (∀ i, frm s K x i = fw K (blk s (all s x) i)) := fun _ => rfl
  have HFRM : Hid (frames s K x = (List.range (cnt s x.length)).map (frm s K x)) := rfl
  have HBO := hid (borders hS (c := cnt s x.length))
  obtain ⟨n, hxn⟩ : ∃ n, x.length = n := ⟨_, rfl⟩
  rw [hxn] at q1 q2 q5 hn hfull HFL HAL HALL HFRM HBO ⊢
  obtain ⟨c, hc⟩ : ∃ c, cnt s n = c := ⟨_, rfl⟩
  rw [hc] at q1 q2 q5 hfull HFL HAL HALL HFRM HBO
  obtain ⟨N, hN⟩ : ∃ N, c * s = N := ⟨_, rfl⟩
  have HNN : Hid (c * s = N) := hN
  rw [hN] at q1 q2 hfull HFL HAL HBO
  generalize full s x = fx at *
  generalize all s x = ax at *
  generalize frm s K x = fr at *
  generalize frames s K x = FS at *
  clear hc hN hxn hv hb hn0
  go_enter Tryd.func22, Tryd.ntmps22
  go_wp2_with (go_at_call 27; refine hfull.mono ?_; rintro e w1 ⟨fa, fc, rfl, hfc, hfr, hfb⟩; have HR1 := hid hfr; have HB1 := hid hfb; clear hfr hfb)
  go_loopw [5, 6] (fun v p wr => ∃ (j P : Nat) (va : Option Addr) (vc : Nat), P = (j + 1) * s ∧ p = .int .i64 P ∧ (j = 0 ∨ j + 1 ≤ c) ∧ v = .slice va N vc ∧ N ≤ vc ∧ Rw .i64 wr v (tnN s j fx) ∧ Below w.heap.size w wr) (fun _ p _ => N - (intOf p).toNat)
  case atStart => exact ⟨0, s, fa, fc, by omega, rfl, .inl rfl, rfl, hfc, HR1.out, HB1.out⟩
  case round =>
    obtain ⟨j, P, va, vc, hP, rfl, hj, rfl, hvc, hrw, hbr⟩ := hrel
    have HP := hid hP
    have HRW := hid hrw
    have HBR := hid hbr
    have HJ := hid hj
    clear hP hrw hbr hj HR1 HB1
    by_cases hl : P < N
    · have hjc : j + 1 < c := by
        have h1 := hl
        rw [HP.out, ← HNN.out] at h1
        exact (Nat.mul_lt_mul_right (by omega)).1 h1
      have hle : P + s ≤ N := by rw [HP.out, ← HNN.out]; exact mul_next hjc
      have hlen : (tnN s j fx).length = N := by rw [tnN_len]; exact HFL.out
      have hbd := (tnN_bd s s0 262144 (by omega) fx HFB.out j (by
        rcases HJ.out with h | h
        · exact .inl h
        · have h2 := HP.out; rw [mul_s] at h2; exact .inr (by rw [HFL.out]; omega))).2
      have hP2 : P = j * s + s := by rw [HP.out, mul_s]
      have hIN : In (tnN s j fx) (P - 4) (P + 4) 4294967296 := hbd.mono (by omega) (by rw [HFL.out]; omega) (by omega)
      have hrt := rturn_any va vc (tnN s j fx) P wr (by rw [hlen]; exact HRW.out) (by omega) (by omega) (by omega) hIN
      have hst : Hid (tnL P (tnN s j fx) = tnN s (j + 1) fx) := by unfold Hid; rw [HP.out]; rfl
      rw [hlen, hst.out] at hrt
      clear hlen hbd hIN hP2
      go_wp2_with (go_at_call 17; refine hrt.mono ?_; rintro e w2 ⟨g2, c2, rfl, hc2, hg2, hh2, hb2⟩; have HH2 := hid hh2; have HB2 := hid hb2; clear hh2 hb2)
      refine ⟨⟨j + 1, P + s, some ⟨g2, 0, none⟩, c2, by rw [mul_s (j + 1) s, HP.out], by go_num, .inr (by omega), rfl, hc2, HH2.out.rw ?_, bthen' HBR.out HB2.out⟩, by simp [intOf]; omega⟩
      rw [tnN_len]; exact HFL.out
    · have hax : Hid (ax = tnN s j fx) := by
        unfold Hid
        have h1 := mul_over (j := j) (c := c) (s := s) (by omega) (by rw [← HP.out, HNN.out]; exact hl)
        rw [HALL.out, show c - 1 = j by rcases HJ.out with h | h <;> omega]
      rw [← hax.out] at HRW
      obtain ⟨W, hW⟩ : ∃ W, W = wr := ⟨_, rfl⟩
      rw [← hW] at HRW HBR ⊢
      clear hW hax HALL HJ HP
      go_wp2
      go_loopw [7, 8] (fun o p wr => ∃ (i P : Nat) (vs : List Value), P = i * s ∧ p = .int .i64 P ∧ i ≤ c ∧ Fo W.heap.size wr o i vs fr ∧ Below W.heap.size W wr) (fun _ p _ => N - (intOf p).toNat)
      case atStart => exact ⟨0, 0, [], by omega, rfl, by omega, Fo.nil _ _ _, Below.refl _ _⟩
      case round =>
        obtain ⟨i, P, vs, hP, rfl, hi2, hfo, hbr⟩ := hrel
        have HP := hid hP
        have HFO := hid hfo
        have HBW := hid hbr
        obtain ⟨oa, oc, rfl, _, _, _⟩ := owns_open hfo.1
        clear hP hfo hbr
        by_cases hl : P + s ≤ N
        · have hP2 : (i + 1) * s = P + s := by rw [mul_s, HP.out]
          have hic : i < c := by
            have h1 := hl
            rw [← hP2, ← HNN.out] at h1
            exact Nat.le_of_mul_le_mul_right h1 (by omega)
          obtain ⟨va2, vc2, hve, hva⟩ := HRW.out
          simp only [Value.slice.injEq] at hve
          obtain ⟨rfl, hve2, rfl⟩ := hve
          obtain ⟨vb, vo, rfl, hvlt, hvcell⟩ := hva.resolve_left (by intro h; rw [h] at hve2; simp at hve2; omega)
          have hrwp := fun c' => rw_part (HRW.out.below HBW.out) s i P c' HP.out (by rw [← hve2, hP2]; omega) (by omega)
          have hlb : (blk s ax i).length = 2 ^ K := by rw [HPW.out]; exact blk_len _ _ _ (by rw [← hve2, hP2]; omega)
          have hfw := fun c' => rforward_any (.slice (some ⟨vb, vo + P, none⟩) s c') (blk s ax i) K wr (hrwp c') HK5.out hlb (blk_bd HAB.out i)
          rw [← HFM.out] at hfw
          have t1 : (P : Int) + (s : Int) ≤ (N : Int) := by omega
          have t2 : (P : Int) + (s : Int) ≤ (vc : Int) := by omega
          have t3 : (P : Int) ≤ (P : Int) + (s : Int) := by omega
          have t4 : P + s - P = s := by omega
          have t5 : P < vc := by omega
          have HIC : Hid (i < c) := hic
          have HLL : Hid (P + s ≤ N) := hl
          have m1 : i + 1 ≤ maxLen := by unfold maxLen; omega
          have m2 : (i + 1) * 24 ≤ 140737488355328 := by omega
          have z1 := HBR.out.size
          have z2 := HBW.out.size
          clear hlb hrwp hvcell hve2 hva hP2
          go_wp2_with (first | (go_at_call 36; refine (hfw _).mono ?_; rintro e w2 ⟨v2, rfl, hr2, hb2⟩; obtain ⟨ra, rc, hv2, _⟩ := id hr2; subst hv2; have hsz2 := hb2.size; have HR2 := hid hr2; have HB2 := hid hb2; have hfoN := owns_below HFO.out.1 hb2; clear hr2 hb2) | (at_builtin; refine wpList_append_lies _ rfl _ _ 32 rfl W.heap.size 22 i0 (.slice none 0 0) 1 24 Tryd.underlying32 hi hz0 hz1 hz2 rfl (by decide) _ _ _ rfl (hfoN.alloc _) ⟨w2.heap.size, 0, none⟩ 1 1 [.slice ra (fr i).length rc] rfl rfl (cell_one_at rfl _ _) (one_slice _ _ _) (by decide) m1 m2 (by simp; omega) (w2.heap.size + 1) (by simp) ?_))
          intro g3 c3 w3 hown3 hgrow3 hat3 hlt3
          have HF3 := hid (HFO.out.push HB2.out HR2.out hown3 hgrow3 hat3)
          have HB3 : Hid (Below W.heap.size W w3) := ((bthen' HBW.out HB2.out).alloc (by omega) _).grown hgrow3 (by simp; omega) (fun q hq => (hfoN.lt q hq).1)
          clear hown3 hgrow3 hat3 hlt3 hfoN hfw
          go_wp2
          exact ⟨⟨i + 1, P + s, _, by rw [mul_s, HP.out], by go_num, HIC.out, HF3.out, HB3.out⟩, by simp [intOf]; have := HLL.out; omega⟩
        · have hie : i = c := by
            rcases Nat.lt_or_ge i c with q | q
            · have := room (s := s) q
              rw [mul_s, ← HP.out, HNN.out] at this
              exact absurd this hl
            · omega
          have R : Hid (Fr false wr (.slice oa i oc) FS) := by
            have := HFO.out.fr
            unfold Hid
            rw [HFRM.out, ← hie]
            exact this
          have HB := hid (bthen' HBR.out HBW.out)
          have t1 : ¬ (P : Int) + (s : Int) ≤ (N : Int) := by omega
          have t2 : (P : Int) ≤ (N : Int) := by
            have e1 := HP.out
            have e2 := HNN.out
            rw [hie] at e1
            omega
          clear hie HFO
          go_wp2
          go_ret
          exact ⟨_, rfl, R.out, HB.out⟩
end Go.Proofs.YtdfihdkkidekjaaDoor
