/- Contract: the document's Signal. -/
import Derived.Test.YtdfihdkkidekjaaDoorHj
namespace Go.Proofs.YtdfihdkkidekjaaDoor
open Go.RowKit
set_option linter.unusedVariables false
set_option linter.unusedSimpArgs false

/-- What the document's Signal answers. -/
def SigR (s K : Nat) (L : List (List Int)) (w : World) (v : Value) (ok : Bool) : Prop :=
  (okL s L = true ∧ ok = true ∧ Rw .i64 w v (signal s K L)) ∨ (okL s L = false ∧ ok = false ∧ v = .slice none 0 0)

theorem rsignal_no (a : Option Addr) (m cap : Nat) (n : Int) (w : World) (h : isSz n = false) :
    Calls Tryd.prog 25 #[.slice a m cap, .int .i64 n] w fun e w' => e = .returned (.tuple #[.slice none 0 0, .bool false]) ∧ w' = w := by
  unfold isSz at h
  simp only [Bool.or_eq_false_iff] at h
  obtain ⟨⟨h1, h2⟩, h3⟩ := h
  have e1 : (n != 8) = true := by unfold bne; rw [h1]; rfl
  have e2 : (n != 16) = true := by unfold bne; rw [h2]; rfl
  have e3 : (n != 32) = true := by unfold bne; rw [h3]; rfl
  clear h1 h2 h3
  go_enter Tryd.func25, Tryd.ntmps25
  go_wp2
  go_ret2
  exact ⟨rfl, rfl⟩

set_option maxRecDepth 10000 in
set_option maxHeartbeats 4000000 in
theorem rsignal_any (a : Option Addr) (m cap s K : Nat) (L : List (List Int)) (w : World) (hv : Fr true w (.slice a m cap) L) (hS : Sz s K) (hm : m ≤ 30) (hfits : ∀ i, Fits (L.getD i [])) (hlen : ∀ i, (L.getD i []).length ≤ 200) :
    Calls Tryd.prog 25 #[.slice a m cap, .int .i64 s] w fun e w' => ∃ v ok, e = .returned (.tuple #[v, .bool ok]) ∧ SigR s K L w' v ok ∧ Below w.heap.size w w' := by
  obtain ⟨i0, hi, hz0, hz1, hz2⟩ := info_parts info_i64
  have hLm : L.length = m := by
    obtain ⟨_, _, he, _⟩ := hv
    simp only [Value.slice.injEq] at he
    exact he.2.1.symm
  have s0 : 8 ≤ s := hS.le.1
  have s1 : s ≤ 32 := hS.le.2.1
  obtain ⟨N, hN⟩ : ∃ N, m * s = N := ⟨_, rfl⟩
  have hN2 : N ≤ 960 := by rw [← hN]; exact Nat.le_trans (Nat.mul_le_mul hm s1) (by decide)
  have t2 : (m : Int) * (s : Int) = (N : Int) := by rw [← hN]; simp
  obtain ⟨S, hS8⟩ : ∃ S : Int, (s : Int) = S := ⟨_, rfl⟩
  have HSZ := hid hS
  have HV := hid hv
  have HFT := hid hfits
  have HLN := hid hlen
  have HNN : Hid (m * s = N) := hN
  have HLM := hid hLm
  have HOK : Hid ((∀ i, i < m → okF s (L.getD i []) = true) → okL s L = true) := fun h => okL_all (by rw [hLm]; exact h)
  have HNO : Hid (∀ i, i < m → okF s (L.getD i []) = false → okL s L = false) := fun i hi h => okL_at (by rw [hLm]; exact hi) h
  have hcase : s = 8 ∨ s = 16 ∨ s = 32 := by rcases hS with ⟨h, _⟩ | ⟨h, _⟩ | ⟨h, _⟩ <;> omega
  have HS8 := hid hS8
  clear hS hN hv hfits hlen hLm
  rw [hS8] at t2 ⊢
  have S0 : 8 ≤ S := by omega
  have S1 : S ≤ 32 := by omega
  have HSS : Hid (∀ k : Nat, (k : Int) = S → k = s) := fun k h => by omega
  clear hS8
  go_enter Tryd.func25, Tryd.ntmps25
  rcases hcase with h | h | h
  all_goals
    have HSE := hid h
    have hSE : S = (s : Int) := HS8.out.symm
    rw [h] at hSE
    clear h
    subst hSE
    go_wp2
    go_loopw [6, 7] (fun o p wr => ∃ (i M : Nat), i ≤ m ∧ M = i * s ∧ p = .int .i64 i ∧ (∀ j, j < i → okF s (L.getD j []) = true) ∧ wr.ownsRow w.heap.size 2 1 o M ((smp K L i).map (Value.int .i64)) ∧ Below w.heap.size w wr) (fun _ p _ => m - (intOf p).toNat)
    case atStart => exact ⟨0, 0, by omega, by omega, rfl, fun j hj => by omega, World.ownsRow_nil _ _ _ _, Below.refl _ _⟩
    case round =>
      obtain ⟨i, M, hi2, hM, rfl, hall, hown, hbr⟩ := hrel
      have HM := hid hM
      have HALL := hid hall
      have HOWN := hid hown
      have HBR := hid hbr
      obtain ⟨oa, oc, rfl, _, _, _⟩ := owns_open hown
      clear hM hall hown hbr
      by_cases hl : i < m
      · obtain ⟨b1, o1, rfl, hb1, ra, rc, g1, hrc, w1⟩ := HV.out.at i hl
        have g1 := ((bcell HBR.out).1 _ _ hb1).trans g1
        have HW1 := hid (w1.below HBR.out)
        have HRC := hid (hrc rfl)
        have hm2 := HLN.out i
        have HFI := hid (HFT.out i)
        have HIM : Hid (i < m) := hl
        have HNI := hid (HNO.out i hl)
        have HST : Hid (smp K L (i + 1) = smp K L i ++ iv K (L.getD i [])) := rfl
        have HAL2 : Hid (okF s (L.getD i []) = true → ∀ j, j < i + 1 → okF s (L.getD j []) = true) := fun h j hj => by
          by_cases e : j = i
          · subst e; exact h
          · exact HALL.out j (by omega)
        generalize L.getD i [] = f at *
        clear w1 hrc
        by_cases c1 : f.length = s
        · rw [c1] at g1 hm2
          have HF1 := hid c1
          have HWs : Hid (Rw .i64 wr (.slice ra s rc) f) := by have := HW1.out; rw [c1] at this; exact this
          have hrc2 : s ≤ rc := by have := HRC.out; omega
          have hszd := fun w hv => sized_any (.slice ra s rc) f 67108864 w hv HFI.out (by omega) (by omega) (by omega)
          cases c2 : okS 67108864 f
          · have HO := hid (HNI.out (okF_bd c2))
            rw [c2] at hszd
            rw [HSE.out] at g1 hszd HWs
            clear c1 c2
            go_wp2_with (go_at_call 38; refine (hszd _ HWs.out).mono ?_; rintro e w2 ⟨rfl, h2⟩; have h2 := h2.symm; subst h2)
            go_ret2
            exact ⟨_, _, rfl, .inr ⟨HO.out, rfl, rfl⟩, HBR.out⟩
          · rw [c2] at hszd
            obtain ⟨k9, hk9, hl9, hb9⟩ := okS_parts c2
            have hinv : Calls Tryd.prog 39 #[.slice ra s rc] wr fun e w' => ∃ v', e = .returned v' ∧ Rw .i64 w' v' (iv K f) ∧ Below wr.heap.size wr w' := by
              have h := rinverse_any ra rc f K wr (by rw [c1]; exact HWs.out) (by omega) (by have := HSZ.out.le; omega) (by rw [HSZ.out.pow]; exact c1) hb9
              rw [c1] at h
              exact h
            have HIL : Hid ((iv K f).length = s) := by unfold Hid; rw [iv_len K f (by rw [HSZ.out.pow]; exact c1), HSZ.out.pow]
            have HA3 := hid (HAL2.out (okF_of c1 c2))
            have zz := HBR.out.size
            have HMs : Hid (M + s ≤ 960) := by
              unfold Hid
              have h1 := room (s := s) hl
              rw [mul_s, ← HM.out, HNN.out] at h1
              omega
            have hx1 : M + s ≤ maxLen := by have := HMs.out; unfold maxLen; omega
            have hx2 : (M + s) * 8 ≤ 140737488355328 := by have := HMs.out; omega
            rw [HSE.out] at g1 hszd HWs hinv
            generalize iv K f = y at *
            clear c1 c2 hl9 hb9
            go_wp2_with (first | (go_at_call 38; refine (hszd _ HWs.out).mono ?_; rintro e w2 ⟨rfl, h2⟩; have h2 := h2.symm; subst h2) | (go_at_call 39; refine hinv.mono ?_; rintro e w2 ⟨v2, rfl, hr2, hb2⟩; obtain ⟨ya, yc, rfl, hya⟩ := id hr2; have hnn : ya = none → yc = 0 := (fun h => by subst h; rcases hya with h | ⟨_, _, h, _⟩; (· have h9 := HIL.out; rw [h] at h9; simp at h9; omega); (· cases h)); have hown2 := owns_below HOWN.out hb2; have z2 := hb2.size; have HB2 := hid hb2; clear hb2 hya) | (at_builtin; refine wpList_append_rw rfl _ _ _ rfl w.heap.size 2 i0 (.int .i64 0) 8 Tryd.underlying22 hi hz0 hz1 hz2 rfl .i64 _ M _ rfl hown2 ya yc y rfl hr2 hnn (by rw [HIL.out]; exact hx1) (by rw [HIL.out]; exact hx2) (by omega) ?_))
            intro v8 w8 hown8 hgrow8
            have HB8 : Hid (Below w.heap.size w w8) := (bthen' HBR.out HB2.out).grown hgrow8 (by omega) (fun k hk => (hown2.lt k hk).1)
            have HO8 : Hid (w8.ownsRow w.heap.size 2 1 v8 (M + s) ((smp K L (i + 1)).map (Value.int .i64))) := by
              unfold Hid
              rw [HST.out, List.map_append]
              have h := hown8
              rw [HIL.out] at h
              exact h
            clear hown8 hgrow8 hown2 hr2 hnn
            go_wp2
            exact ⟨⟨i + 1, M + s, by have := HIM.out; omega, by rw [mul_s, HM.out], by go_num, HA3.out, HO8.out, HB8.out⟩, by simp [intOf]; have := HIM.out; omega⟩
        · have HO := hid (HNI.out (okF_len c1))
          obtain ⟨fl, hfl⟩ : ∃ fl, f.length = fl := ⟨_, rfl⟩
          rw [hfl] at g1 c1 hm2
          rw [HSE.out] at c1
          obtain ⟨FL, hFL⟩ : ∃ FL : Int, (fl : Int) = FL := ⟨_, rfl⟩
          have c3 : ¬ FL = _ := fun h => c1 (by have h9 := hFL.trans h; exact Int.ofNat.inj h9)
          clear hfl c1
          go_wp2
          go_ret2
          exact ⟨_, _, rfl, .inr ⟨HO.out, rfl, rfl⟩, HBR.out⟩
      · have him : i = m := by omega
        have hMN : M = N := by rw [HM.out, him]; exact HNN.out
        have HOKL := hid (HOK.out (fun j hj => HALL.out j (by omega)))
        have HALL2 : Hid (∀ j, j < m → okF s (L.getD j []) = true) := fun j hj => HALL.out j (by omega)
        obtain ⟨W, hW⟩ : ∃ W, W = wr := ⟨_, rfl⟩
        rw [← hW] at HBR HOWN ⊢
        rw [him, hMN] at HOWN
        rw [hMN]
        have zW := HBR.out.size
        clear hW hMN HM HALL
        by_cases c0 : m = 0
        · have c1 : N = 0 := by rw [← HNN.out, c0]; simp
          have HR0 : Hid (Rw .i64 W (.slice oa N oc) (signal s K L)) := by
            have h := HOWN.out
            have hL : L = [] := List.eq_nil_of_length_eq_zero (by rw [HLM.out, c0])
            unfold Hid
            rw [c0, hL] at h
            rw [hL, signal_nil]
            exact Rw.of_owns h
          clear HOWN him
          subst c0
          go_wp2
          go_loopw [6, 8] (fun o p wr => o = .slice oa N oc ∧ p = .int .i64 (-1) ∧ wr = W) (fun _ _ _ => 0)
          case atStart => exact ⟨rfl, rfl, rfl⟩
          case round =>
            obtain ⟨rfl, rfl, hww⟩ := hrel
            subst hww
            go_wp2
            go_ret2
            exact ⟨_, _, rfl, .inl ⟨HOKL.out, rfl, HR0.out⟩, HBR.out⟩
        · obtain ⟨mm, hmm⟩ : ∃ mm, mm + 1 = m := ⟨m - 1, by omega⟩
          have e1 : (m : Int) - 1 = (mm : Int) := by omega
          obtain ⟨P, hP⟩ : ∃ P, P = mm * s := ⟨_, rfl⟩
          have hPN : P + s = N := by rw [hP, ← mul_s, hmm]; exact HNN.out
          have HR0 : Hid (Rw .i64 W (.slice oa N oc) (smp K L m)) := Rw.of_owns HOWN.out
          have HSL : Hid ((smp K L m).length = N) := by
            unfold Hid
            rw [← HLM.out, smp_len HSZ.out L (fun j hj => (okF_parts HSZ.out (HALL2.out j (by rw [← HLM.out]; exact hj))).1) _ (Nat.le_refl _), HLM.out]
            exact HNN.out
          have HSB : Hid (Bk s (mm * s) (smp K L m)) := by
            unfold Hid
            refine Bk.of ?_
            have h := smp_bd HSZ.out L (fun j hj => (okF_parts HSZ.out (HALL2.out j (by rw [← HLM.out]; exact hj))).1) (fun j hj => (okF_parts HSZ.out (HALL2.out j (by rw [← HLM.out]; exact hj))).2) L.length (Nat.le_refl _)
            rw [HLM.out] at h
            exact h
          have HSG : Hid (bkN s mm (smp K L m) = signal s K L) := by
            unfold Hid signal
            rw [HLM.out, show m - 1 = mm by omega]
          obtain ⟨SG, hSG⟩ : ∃ SG, signal s K L = SG := ⟨_, rfl⟩
          have HSGE := hid hSG
          rw [hSG] at HSG
          generalize smp K L m = y0 at *
          have HMM : Hid (mm + 1 = m) := hmm
          clear hP hmm HOWN c0 him hSG
          go_wp2
          go_loopw [6, 8] (fun o p wr => ∃ (j : Nat) (va : Option Addr) (vc : Nat) (y : List Int), p = .int .i64 j ∧ j + 1 ≤ m ∧ o = .slice va N vc ∧ y.length = N ∧ bkN s j y = SG ∧ Bk s (j * s) y ∧ Rw .i64 wr o y ∧ Below w.heap.size w wr) (fun _ p _ => (intOf p).toNat)
          case atStart => exact ⟨mm, oa, oc, y0, rfl, by rw [HMM.out]; exact Nat.le_refl _, rfl, HSL.out, HSG.out, HSB.out, HR0.out, HBR.out⟩
          case round =>
            obtain ⟨j, va, vc, y, rfl, hjm, rfl, hyl, hbk, hbb, hrw, hbr⟩ := hrel
            have HYL := hid hyl
            have HBK := hid hbk
            have HBB := hid hbb
            have HR := hid hrw
            have HB := hid hbr
            clear hyl hbk hbb hrw hbr
            by_cases c9 : 0 < j
            · obtain ⟨j2, hj2⟩ : ∃ j2, j2 + 1 = j := ⟨j - 1, by omega⟩
              obtain ⟨P2, hP2⟩ : ∃ P2, P2 = j * s := ⟨_, rfl⟩
              have hP3 : P2 = (j2 + 1) * s := by rw [hj2]; exact hP2
              have hP4 : P2 = j2 * s + s := by rw [hP3, mul_s]
              have hP5 : P2 + s ≤ N := by rw [hP2, ← mul_s, ← HNN.out]; exact Nat.mul_le_mul_right s hjm
              have hBB : Bk s P2 y := by rw [hP2]; exact HBB.out
              have htb := rback_any va vc y P2 wr (by rw [HYL.out]; exact HR.out) (by omega) (by rw [HYL.out]; omega) (by rw [HYL.out]; omega) (hBB.in s0)
              rw [HYL.out] at htb
              have HN2 : Hid (Bk s (j2 * s) (bkL P2 y)) := by
                have h := hBB.next s0 hP3 (by rw [HYL.out]; omega)
                unfold Hid
                rw [show j2 * s = P2 - s by omega]
                exact h
              have HK2 : Hid (bkN s j2 (bkL P2 y) = SG) := by
                unfold Hid
                rw [← HBK.out, ← hj2, hP3]
                rfl
              have HYL2 : Hid ((bkL P2 y).length = N) := by unfold Hid; rw [bkL_len]; exact HYL.out
              first | have e2 : (j : Int) * 8 = (P2 : Int) := by (rw [hP2, show s = 8 from HSE.out]; simp) | have e2 : (j : Int) * 16 = (P2 : Int) := by (rw [hP2, show s = 16 from HSE.out]; simp) | have e2 : (j : Int) * 32 = (P2 : Int) := by (rw [hP2, show s = 32 from HSE.out]; simp)
              have e3 : (P2 : Int) ≤ (N : Int) := by omega
              have e4 : (j : Int) - 1 = (j2 : Int) := by omega
              generalize bkL P2 y = y2 at *
              clear hP2 hP3 hP4 hBB
              go_wp2_with (go_at_call 19; refine htb.mono ?_; rintro e w2 ⟨g2, c2, rfl, _, _, hh2, hb2⟩; have HH2 := hid (hh2.rw (c := c2) HYL2.out); have HB2 := hid (bthen' HB.out hb2); clear hh2 hb2)
              exact ⟨⟨j2, _, _, y2, rfl, by omega, rfl, HYL2.out, HK2.out, HN2.out, HH2.out, HB2.out⟩, by simp [intOf]; omega⟩
            · have hj0 : j = 0 := by omega
              have HR1 : Hid (Rw .i64 wr (.slice va N vc) SG) := by
                unfold Hid
                rw [← HBK.out, hj0]
                exact HR.out
              clear hj0 HR
              go_wp2
              go_ret2
              exact ⟨_, _, rfl, .inl ⟨HOKL.out, rfl, by rw [HSGE.out]; exact HR1.out⟩, HB.out⟩
end Go.Proofs.YtdfihdkkidekjaaDoor
