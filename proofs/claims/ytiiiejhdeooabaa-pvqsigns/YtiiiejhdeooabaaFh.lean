/- Contract of the program's first best place. -/
import Derived.Test.YtiiiejhdeooabaaFg
import Derived.Deep.RegionHeld3
namespace Go.Proofs.Ytiiiejhdeooabaa
open Go.RowKit
set_option linter.unusedVariables false
set_option linter.unusedSimpArgs false

theorem held2 {wr w' : World} {b : Nat} {x0 x1 : Value} (h : Below wr.heap.size wr w') (hb : B2 wr b x0 x1) : w'.cell? ⟨b, 0, none⟩ = some x0 ∧ w'.cell? ⟨b, 1, none⟩ = some x1 := ⟨(hb.below h).c0, (hb.below h).c1⟩
theorem bs_go (a y : List Int) (n j : Nat) : bs a y n (j + 1 - 1) = if bt a y n j (bs a y n (j - 1)) then j else bs a y n (j - 1) := by
  cases j with
  | zero => simp [bs]
  | succ j => exact bs_step a y n (j + 1) (by omega)

set_option maxHeartbeats 4000000 in
theorem first_any (b gs gp n m : Nat) (a y : List Int) (w : World) (H : Hunt w b gs gp n a y) (hS : St a y n m) (hm : m ≤ 11) (h1 : 1 ≤ n) (hn : n ≤ 16) : Calls Try.prog 25 #[.int .i64 n, .func (.func 26) #[.pointer (some ⟨b, 0, none⟩)] #[], .func (.func 27) #[] #[]] w fun e w' => e = .returned (.int .i64 (bs a y n (n - 1) : Nat)) ∧ Below w.heap.size w w' := by
  have HW : Hid (∀ i, i < n → ∀ W, Below w.heap.size w W → Calls Try.prog 26 #[.pointer (some ⟨b, 0, none⟩), .int .i64 i] W fun e w' => e = .returned (.agg #[.int .u64 (dI a y n i * dI a y n i), .int .u64 (nI y n i)]) ∧ Below W.heap.size W w') := fun i hi W hW => with_any b gs gp n m i a y W (H.below hW) hS hm hi hn
  have HS := hid hS
  have w0 := HW.out 0 (by omega) w (Below.refl _ _)
  have HQ : Hid (∀ p, p < bs a y n (n - 1) → ¬ (dI a y n p * dI a y n p = dI a y n (bs a y n (n - 1)) * dI a y n (bs a y n (n - 1)) ∧ nI y n p = nI y n (bs a y n (n - 1)))) := fun p hp => bs_first (fun i hi => (hS.small hm i hi).2.2.1) h1 p hp
  have HL := hid (bs_le a y n (n - 1))
  have i1 : (n : Int) ≤ 16 := by omega
  clear hS H
  have H0 : Hid (dI a y n 0 * dI a y n 0 = dI a y n (bs a y n (0 - 1)) * dI a y n (bs a y n (0 - 1)) ∧ nI y n 0 = nI y n (bs a y n (0 - 1))) := ⟨rfl, rfl⟩
  generalize dI a y n 0 * dI a y n 0 = X0 at w0 H0
  generalize nI y n 0 = Y0 at w0 H0
  go_enter Try.func25, Try.ntmps25
  go_wp2_with (go_at_call 26; refine w0.mono ?_; rintro e w1 ⟨rfl, hb1⟩)
  have HB1 : Hid (B2 (w1.alloc (.cells #[.int .u64 X0, .int .u64 Y0] 55)) w1.heap.size (.int .u64 (dI a y n 0 * dI a y n 0)) (.int .u64 (nI y n 0))) := by
    unfold Hid
    have e0 : bs a y n (0 - 1) = 0 := rfl
    rw [e0] at H0
    rw [← H0.out.1, ← H0.out.2]
    exact B2.new _ _ _ _
  have hbw := bthen' hb1 (below1 w1 (.cells #[.int .u64 X0, .int .u64 Y0] 55))
  generalize w1.alloc (.cells #[.int .u64 X0, .int .u64 Y0] 55) = W1 at *
  have hw1 := hb1.size
  clear w0 H0
  go_loopw [14] (fun c wr => ∃ j q : Nat, j ≤ n ∧ q < n ∧ c = .int .i64 j ∧ Hid (q = bs a y n (j - 1)) ∧ Hid (B2 wr w1.heap.size (.int .u64 (dI a y n q * dI a y n q)) (.int .u64 (nI y n q))) ∧ Below w.heap.size w wr) (fun c _ => n - (intOf c).toNat)
  case atStart => exact ⟨0, 0, by omega, by omega, rfl, rfl, HB1, hbw⟩
  case round =>
    clear HB1 hbw
    obtain ⟨j, q, hj, hq, rfl, HBS, HB, hbr⟩ := hrel
    by_cases hl : j < n
    · have t1 := HW.out j hl wr hbr
      obtain ⟨s1, s2, s3, s4⟩ := HS.out.scores hm j q hl hq
      obtain ⟨s5, s6, s7, s8⟩ := HS.out.scores hm q j hq hl
      have HGO := hid (bs_go a y n j)
      rw [← HBS.out] at HGO
      have hbt : bt a y n j q ↔ dI a y n q * dI a y n q * nI y n j < dI a y n j * dI a y n j * nI y n q := Iff.rfl
      have HE : Hid (∀ W, B2 W w1.heap.size (.int .u64 (dI a y n j * dI a y n j)) (.int .u64 (nI y n j)) → B2 W w1.heap.size (.int .u64 (dI a y n j * dI a y n j)) (.int .u64 (nI y n j))) := fun _ h => h
      generalize hF1 : dI a y n j * dI a y n j = F1 at *
      generalize hF2 : dI a y n q * dI a y n q = F2 at *
      generalize hN1 : nI y n j = N1 at *
      generalize hN2 : nI y n q = N2 at *
      have HE1 := hid hF1
      have HE2 := hid hF2
      have HE3 := hid hN1
      have HE4 := hid hN2
      obtain ⟨P, hP⟩ : ∃ P, F1 * N2 = P := ⟨_, rfl⟩
      obtain ⟨Q, hQ⟩ : ∃ Q, F2 * N1 = Q := ⟨_, rfl⟩
      rw [hP] at s3 s4 hbt
      rw [hQ] at s7 s8 hbt
      have hab := fun w => above_any F1 N1 F2 N2 P Q w hP hQ s3 s4 s7 s8
      by_cases hc : Q < P
      · rw [if_pos (hbt.2 hc)] at HGO
        rw [decide_eq_true hc] at hab
        clear hbt hF1 hF2 hN1 hN2 hP hQ HE
        go_wp2_with (first | (go_at_call 26; refine t1.mono ?_; rintro e w2 ⟨rfl, hb2⟩; have hB2 := (HB.out.below hb2).below (below1 w2 (.cells #[.int .u64 F1, .int .u64 N1] 55)); have hc0 := hB2.c0; have hc1 := hB2.c1) | (go_at_call 27; refine (hab _).mono ?_; rintro e w3 ⟨rfl, hb3⟩; have hB3 := hB2.below hb3; have hN3 := (B2.new w2 (.int .u64 F1) (.int .u64 N1) 55).below hb3; have x0 := hB3.c0; have x1 := hB3.c1; have x2 := hB3.f0; have x3 := hB3.f1; have x4 := hN3.c0; have x5 := hN3.c1; have hbb := bthen hbr (bthen' (bthen' hb2 (below1 w2 (.cells #[.int .u64 F1, .int .u64 N1] 55))) hb3) hbr.size))
        refine ⟨⟨j + 1, j, by omega, hl, by go_num, HGO.out.symm, ?_, bset2' hbb _ _ _ hw1⟩, by simp [intOf]; omega⟩
        rw [HE1.out, HE3.out]
        exact (hB3.set0 (.int .u64 F1)).set1 (.int .u64 N1)
      · rw [if_neg (fun e => hc (hbt.1 e))] at HGO
        rw [decide_eq_false hc] at hab
        clear hbt hF1 hF2 hN1 hN2 hP hQ HE
        go_wp2_with (first | (go_at_call 26; refine t1.mono ?_; rintro e w2 ⟨rfl, hb2⟩; have hB2 := (HB.out.below hb2).below (below1 w2 (.cells #[.int .u64 F1, .int .u64 N1] 55)); have hc0 := hB2.c0; have hc1 := hB2.c1) | (go_at_call 27; refine (hab _).mono ?_; rintro e w3 ⟨rfl, hb3⟩; have hB3 := hB2.below hb3; have hbb := bthen hbr (bthen' (bthen' hb2 (below1 w2 (.cells #[.int .u64 F1, .int .u64 N1] 55))) hb3) hbr.size))
        refine ⟨⟨j + 1, q, by omega, hq, by go_num, HGO.out.symm, ?_, hbb⟩, by simp [intOf]; omega⟩
        rw [HE2.out, HE4.out]
        exact hB3
    · have hje : j = n := by omega
      have HQ2 : Hid (∀ p, p < q → ¬ (dI a y n p * dI a y n p = dI a y n q * dI a y n q ∧ nI y n p = nI y n q)) := by
        have := HQ.out
        rw [show n - 1 = j - 1 by omega, ← HBS.out] at this
        exact this
      have HRES : Hid (bs a y n (n - 1) = q) := by unfold Hid; rw [show n - 1 = j - 1 by omega, ← HBS.out]
      clear hje HQ HL HBS
      generalize hF2 : dI a y n q * dI a y n q = F2 at *
      generalize hN2 : nI y n q = N2 at *
      have HE2 := hid hF2
      have HE4 := hid hN2
      clear hF2 hN2
      obtain ⟨W2, rfl⟩ : ∃ x, x = wr := ⟨wr, rfl⟩
      go_wp2
      go_loopw [10] (fun c wr => ∃ p : Nat, p ≤ q ∧ c = .int .i64 p ∧ Hid (B2 wr w1.heap.size (.int .u64 F2) (.int .u64 N2)) ∧ Below w.heap.size w wr) (fun c _ => q - (intOf c).toNat)
      case atStart => exact ⟨0, by omega, rfl, HB, hbr⟩
      case round =>
        clear HB hbr
        obtain ⟨p, hp, rfl, HB, hbr⟩ := hrel
        have t2 := HW.out p (by omega)
        have hB0 := HB.out
        by_cases hpq : p < q
        · have hne := HQ2.out p hpq
          generalize dI a y n p * dI a y n p = F1 at *
          generalize nI y n p = N1 at *
          by_cases hF : F1 = F2
          · have hN : (N1 == N2) = false := by simp; exact fun e => hne ⟨hF, e⟩
            subst hF
            clear hne
            go_wp2
            go_region_held3 (fun w' => w'.cell? ⟨w1.heap.size, 0, none⟩ = some (.int .u64 F1) ∧ w'.cell? ⟨w1.heap.size, 1, none⟩ = some (.int .u64 N2)) (exact held2 (by first | exact (Below.refl _ _).drew | exact hy1 | exact Below.refl _ _) hB0) (first | (go_at_call 26; refine (t2 _ (by first | exact hbr.drew | exact hbr)).mono ?_; rintro e y1 ⟨rfl, e1⟩; have hy1 : Below wr.heap.size wr y1 := (by first | exact drew_below e1 | exact e1)))
            go_wp2
            exact ⟨⟨p + 1, hpq, by go_num, hB0.below hy1, bthen hbr hy1 hbr.size⟩, by simp [intOf]; omega⟩
          · have hN : (F1 == F2) = false := by simp; exact hF
            clear hne hF
            go_wp2
            go_region_held3 (fun w' => w'.cell? ⟨w1.heap.size, 0, none⟩ = some (.int .u64 F2) ∧ w'.cell? ⟨w1.heap.size, 1, none⟩ = some (.int .u64 N2)) (exact held2 (by first | exact (Below.refl _ _).drew | exact hy1 | exact Below.refl _ _) hB0) (first | (go_at_call 26; refine (t2 _ (by first | exact hbr.drew | exact hbr)).mono ?_; rintro e y1 ⟨rfl, e1⟩; have hy1 : Below wr.heap.size wr y1 := (by first | exact drew_below e1 | exact e1)))
            go_wp2
            exact ⟨⟨p + 1, hpq, by go_num, hB0.below hy1, bthen hbr hy1 hbr.size⟩, by simp [intOf]; omega⟩
        · have hpe : p = q := by omega
          rw [hpe, HE2.out, HE4.out] at t2
          rw [← hpe] at t2
          have HPE := hid hpe
          clear hpe
          go_wp2
          go_region_held3 (fun w' => w'.cell? ⟨w1.heap.size, 0, none⟩ = some (.int .u64 F2) ∧ w'.cell? ⟨w1.heap.size, 1, none⟩ = some (.int .u64 N2)) (exact held2 (by first | exact (Below.refl _ _).drew | exact hy1 | exact Below.refl _ _) hB0) (first | (go_at_call 26; refine (t2 _ (by first | exact hbr.drew | exact hbr)).mono ?_; rintro e y1 ⟨rfl, e1⟩; have hy1 : Below wr.heap.size wr y1 := (by first | exact drew_below e1 | exact e1)))
          go_wp2
          go_ret
          exact ⟨ret_int (by rw [HRES.out, HPE.out]), bthen hbr hy1 hbr.size⟩
end Go.Proofs.Ytiiiejhdeooabaa
