/- Contract: the program's Signal. -/
import Derived.Test.YtdfihdkkidekjaaDoorHg
namespace Go.Proofs.YtdfihdkkidekjaaDoor
open Go.RowKit
set_option linter.unusedVariables false
set_option linter.unusedSimpArgs false

/-- Is it a frame of this size? Are all? -/
def okF (s : Nat) (f : List Int) : Bool := f.length == s && okS 67108864 f
def okL (s : Nat) (L : List (List Int)) : Bool := decide (∀ i, i < L.length → okF s (L.getD i []) = true)
theorem okL_all {s : Nat} {L : List (List Int)} (h : ∀ i, i < L.length → okF s (L.getD i []) = true) : okL s L = true := decide_eq_true h
theorem okL_at {s : Nat} {L : List (List Int)} {i : Nat} (hi : i < L.length) (h : okF s (L.getD i []) = false) : okL s L = false :=
  decide_eq_false fun hh => by have := hh i hi; rw [h] at this; cases this
theorem okF_len {s : Nat} {f : List Int} (h : f.length ≠ s) : okF s f = false := by simp [okF, h]
theorem okF_bd {s : Nat} {f : List Int} (h : okS 67108864 f = false) : okF s f = false := by simp [okF, h]
theorem okF_parts {s K : Nat} (hS : Sz s K) {f : List Int} (h : okF s f = true) : f.length = s ∧ Bd (-67108864) 67108864 f := by
  simp only [okF, Bool.and_eq_true, beq_iff_eq] at h
  obtain ⟨h1, h2⟩ := h
  obtain ⟨_, _, _, h3⟩ := okS_parts h2
  exact ⟨h1, h3⟩
theorem okF_of {s : Nat} {f : List Int} (h1 : f.length = s) (h2 : okS 67108864 f = true) : okF s f = true := by simp [okF, h1, h2]
/-- What Signal answers. -/
def SigP (s K : Nat) (L : List (List Int)) (w : World) (v : Value) (er : Int) : Prop :=
  (okL s L = true ∧ er = 0 ∧ Rw .i64 w v (signal s K L)) ∨ (okL s L = false ∧ er = 1 ∧ v = .slice none 0 0)
/-- What is known of samples of which the borders from P on are turned back. -/
def Bk (s P : Nat) (y : List Int) : Prop := Bd (-(3 * 1073741824)) (3 * 1073741824) y ∧ In y 0 (P + s - 4) 1073741824
theorem Bk.of {s P : Nat} {y : List Int} (h : Bd (-1073741824) 1073741824 y) : Bk s P y := ⟨h.mono (by omega) (by omega), In.of_bd h _ _⟩
theorem Bk.in {s P : Nat} {y : List Int} (h : Bk s P y) (hs : 8 ≤ s) : In y (P - 4) (P + 4) 4294967296 := h.2.mono (by omega) (by omega) (by omega)
theorem Bk.next {s P j : Nat} {y : List Int} (h : Bk s P y) (hs : 8 ≤ s) (hP : P = (j + 1) * s) (hl : P + 4 ≤ y.length) : Bk s (P - s) (bkL P y) := by
  have e := mul_s j s
  have h2 := h.2
  rw [hP] at h2
  have h3 := bk_bd s j hs 1073741824 (by omega) y (by omega) h.1 h2
  rw [← hP] at h3
  refine ⟨h3.1, ?_⟩
  rw [show P - s + s - 4 = j * s + s - 4 by omega]
  exact h3.2
theorem signal_nil (s K : Nat) : signal s K [] = [] := rfl

theorem lsignal_no (a : Option Addr) (m cap : Nat) (n : Int) (w : World) (h : isSz n = false) :
    Calls Tryd.prog 24 #[.slice a m cap, .int .i64 n] w fun e w' => e = .returned (.tuple #[.slice none 0 0, .int .i64 1]) ∧ w' = w := by
  have hb := fun w => isSize_any n w
  rw [h] at hb
  clear h
  go_enter Tryd.func24, Tryd.ntmps24
  go_wp2_with (first | (go_at_call 34; refine (hb _).mono ?_; rintro e w8 ⟨rfl, h8⟩; have h8 := h8.symm; subst h8))
  go_ret2
  exact ⟨rfl, rfl⟩

set_option maxRecDepth 10000 in
set_option maxHeartbeats 4000000 in
theorem lsignal_any (a : Option Addr) (m cap s K : Nat) (L : List (List Int)) (w : World) (hw : Wt w) (hv : Fr true w (.slice a m cap) L) (hS : Sz s K) (hm : m ≤ 30) (hfits : ∀ i, Fits (L.getD i [])) (hlen : ∀ i, (L.getD i []).length ≤ 200) :
    Calls Tryd.prog 24 #[.slice a m cap, .int .i64 s] w fun e w' => ∃ v er, e = .returned (.tuple #[v, .int .i64 er]) ∧ SigP s K L w' v er ∧ Below w.heap.size w w' := by
  obtain ⟨i0, hi, hz0, hz1, hz2⟩ := info_parts info_i64
  have hLm : L.length = m := by
    obtain ⟨_, _, he, _⟩ := hv
    simp only [Value.slice.injEq] at he
    exact he.2.1.symm
  have hsz := fun w => isSize_any s w
  rw [isSz_of hS] at hsz
  have s0 : 8 ≤ s := hS.le.1
  have s1 : s ≤ 32 := hS.le.2.1
  obtain ⟨q, hq, hq2, hq3⟩ : ∃ q : Int, (4000 : Int).tdiv (s : Int) = q ∧ 125 ≤ q ∧ q ≤ 500 := by
    rcases hS with ⟨rfl, _⟩ | ⟨rfl, _⟩ | ⟨rfl, _⟩
    · exact ⟨_, rfl, by decide, by decide⟩
    · exact ⟨_, rfl, by decide, by decide⟩
    · exact ⟨_, rfl, by decide, by decide⟩
  obtain ⟨N, hN⟩ : ∃ N, m * s = N := ⟨_, rfl⟩
  have hN2 : N ≤ 960 := by rw [← hN]; exact Nat.le_trans (Nat.mul_le_mul hm s1) (by decide)
  have t2 : (m : Int) * (s : Int) = (N : Int) := by rw [← hN]; simp
  have t3 : ((s : Int) == 0) = false := by simp; omega
  have HSZ := hid hS
  have HW := hid hw
  have HV := hid hv
  have HFT := hid hfits
  have HLN := hid hlen
  have HNN : Hid (m * s = N) := hN
  have HLM := hid hLm
  have HOK : Hid ((∀ i, i < m → okF s (L.getD i []) = true) → okL s L = true) := fun h => okL_all (by rw [hLm]; exact h)
  have HNO : Hid (∀ i, i < m → okF s (L.getD i []) = false → okL s L = false) := fun i hi h => okL_at (by rw [hLm]; exact hi) h
  clear hS hN hw hv hfits hlen hLm
  go_enter Tryd.func24, Tryd.ntmps24
  go_wp2_with (first | (go_at_call 34; refine (hsz _).mono ?_; rintro e w8 ⟨rfl, h8⟩; have h8 := h8.symm; subst h8) | (at_make; refine wpList_make_own _ rfl _ _ 22 rfl w.heap.size 2 i0 (.int .i64 0) 1 Tryd.underlying22 hi hz0 hz1 .i64 .i64 _ N rfl rfl (by omega) (by rw [hz2]; omega) (by unfold maxLen; omega) (by simp) ?_))
  intro w5 hown5 hgrow5
  have HB5 := hid (grown_of_none hgrow5)
  have HO5 := hid hown5
  clear hown5 hgrow5 hsz
  go_wp2
  go_loopw [6, 29] (fun o p wr => ∃ (i M : Nat), i ≤ m ∧ M = i * s ∧ p = .int .i64 i ∧ (∀ j, j < i → okF s (L.getD j []) = true) ∧ wr.ownsRow w.heap.size 2 1 o M ((smp K L i).map (Value.int .i64)) ∧ Below w.heap.size w wr) (fun _ p _ => m - (intOf p).toNat)
  case atStart => exact ⟨0, 0, by omega, by omega, rfl, fun j hj => by omega, HO5.out, HB5.out⟩
  case round =>
    obtain ⟨i, M, hi2, hM, rfl, hall, hown, hbr⟩ := hrel
    have HM := hid hM
    have HALL := hid hall
    have HOWN := hid hown
    have HBR := hid hbr
    obtain ⟨oa, oc, rfl, _, _, _⟩ := owns_open hown
    clear hM hall hown hbr HB5 HO5
    by_cases hl : i < m
    · obtain ⟨b1, o1, rfl, hb1, ra, rc, g1, hrc, w1⟩ := HV.out.at i hl
      have g1 := ((bcell HBR.out).1 _ _ hb1).trans g1
      have HW1 := hid (w1.below HBR.out)
      have HRC := hid (hrc rfl)
      have hm2 := HLN.out i
      have HFI := hid (HFT.out i)
      have HIM : Hid (i < m) := hl
      have HNI := hid (HNO.out i hl)
      have HST : Hid (smp K L (i + 1) = smp K L i ++ iv K (L.getD i [])) := rfl
      have HAL2 : Hid (okF s (L.getD i []) = true → ∀ j, j < i + 1 → okF s (L.getD j []) = true) := fun h j hj => by
        by_cases e : j = i
        · subst e; exact h
        · exact HALL.out j (by omega)
      generalize L.getD i [] = f at *
      clear w1 hrc
      by_cases c1 : f.length = s
      · rw [c1] at g1 hm2
        have HF1 := hid c1
        have HW2 : Hid (Rw .i64 wr (.slice ra f.length rc) f) := HW1.out
        have hrc2 : s ≤ rc := by have := HRC.out; omega
        cases c2 : okS 67108864 f
        · have hno := fun w hv => inverse_no (.slice ra s rc) f w hv HFI.out (by omega) c2
          have HO := hid (HNI.out (okF_bd c2))
          have HWs : Hid (Rw .i64 wr (.slice ra s rc) f) := by have := HW1.out; rw [c1] at this; exact this
          clear c1 c2
          go_wp2_with (go_at_call 37; refine (hno _ HWs.out).mono ?_; rintro e w2 ⟨rfl, h2⟩; have h2 := h2.symm; subst h2)
          go_ret2
          exact ⟨_, _, rfl, .inr ⟨HO.out, rfl, rfl⟩, HBR.out⟩
        · obtain ⟨k9, hk9, hl9, hb9⟩ := okS_parts c2
          have hKK : K - 1 + 1 = K := by have := HSZ.out.le; omega
          have hinv : Calls Tryd.prog 37 #[.slice ra s rc] wr fun e w' => ∃ g : Nat, e = .returned (.tuple #[.slice (some ⟨g, 0, none⟩) s s, .int .i64 0]) ∧ wr.heap.size ≤ g ∧ Blk .i64 2 w' g (iv K f) ∧ Below wr.heap.size wr w' := by
            have h := inverse_ok ra rc f (K - 1) wr HW2.out (by omega) (by have := HSZ.out.le; omega) (by rw [hKK, HSZ.out.pow]; exact c1) hb9 HFI.out
            rw [hKK, c1] at h
            exact h
          have HIL : Hid ((iv K f).length = s) := by unfold Hid; rw [iv_len K f (by rw [HSZ.out.pow]; exact c1), HSZ.out.pow]
          have HA3 := hid (HAL2.out (okF_of c1 c2))
          have zz := HBR.out.size
          have HMs : Hid (M + s ≤ 960) := by
            unfold Hid
            have h1 := room (s := s) hl
            rw [mul_s, ← HM.out, HNN.out] at h1
            omega
          have hx1 : M + s ≤ maxLen := by have := HMs.out; unfold maxLen; omega
          have hx2 : (M + s) * 8 ≤ 140737488355328 := by have := HMs.out; omega
          generalize iv K f = y at *
          clear c1 c2 hl9 hb9 hKK
          go_wp2_with (first | (go_at_call 37; refine hinv.mono ?_; rintro e w2 ⟨g2, rfl, hg2, hbk2, hb2⟩; have hown2 := owns_below HOWN.out hb2; have hrw2 := hbk2.rw (c := s) HIL.out; have z2 := hb2.size; have HB2 := hid hb2; clear hbk2 hb2) | (at_builtin; refine wpList_append_rw rfl _ _ _ rfl w.heap.size 2 i0 (.int .i64 0) 8 Tryd.underlying22 hi hz0 hz1 hz2 rfl .i64 _ M _ rfl hown2 (some ⟨g2, 0, none⟩) s y (by rw [HIL.out]; rfl) (by rw [HIL.out]; exact hrw2) (by intro h; cases h) (by rw [HIL.out]; exact hx1) (by rw [HIL.out]; exact hx2) (by omega) ?_))
          intro v8 w8 hown8 hgrow8
          have HB8 : Hid (Below w.heap.size w w8) := (bthen' HBR.out HB2.out).grown hgrow8 (by omega) (fun k hk => (hown2.lt k hk).1)
          have HO8 : Hid (w8.ownsRow w.heap.size 2 1 v8 (M + s) ((smp K L (i + 1)).map (Value.int .i64))) := by
            unfold Hid
            rw [HST.out, List.map_append]
            have h := hown8
            rw [HIL.out] at h
            exact h
          clear hown8 hgrow8 hown2 hrw2
          go_wp2
          exact ⟨⟨i + 1, M + s, by have := HIM.out; omega, by rw [mul_s, HM.out], by go_num, HA3.out, HO8.out, HB8.out⟩, by simp [intOf]; have := HIM.out; omega⟩
      · have HO := hid (HNI.out (okF_len c1))
        obtain ⟨fl, hfl⟩ : ∃ fl, f.length = fl := ⟨_, rfl⟩
        rw [hfl] at g1 c1 hm2
        have c3 : ((fl : Int) != (s : Int)) = true := by simp; omega
        clear hfl c1
        go_wp2
        go_ret2
        exact ⟨_, _, rfl, .inr ⟨HO.out, rfl, rfl⟩, HBR.out⟩
    · have him : i = m := by omega
      have hMN : M = N := by rw [HM.out, him]; exact HNN.out
      have HOKL := hid (HOK.out (fun j hj => HALL.out j (by omega)))
      have HALL2 : Hid (∀ j, j < m → okF s (L.getD j []) = true) := fun j hj => HALL.out j (by omega)
      obtain ⟨W, hW⟩ : ∃ W, W = wr := ⟨_, rfl⟩
      rw [← hW] at HBR HOWN ⊢
      rw [him, hMN] at HOWN
      rw [hMN]
      have zW := HBR.out.size
      clear hW hMN HM HALL
      by_cases c0 : m = 0
      · have c1 : N = 0 := by rw [← HNN.out, c0]; simp
        have HR0 : Hid (Rw .i64 W (.slice oa N oc) (signal s K L)) := by
          have h := HOWN.out
          have hL : L = [] := List.eq_nil_of_length_eq_zero (by rw [HLM.out, c0])
          unfold Hid
          rw [c0, hL] at h
          rw [hL, signal_nil]
          exact Rw.of_owns h
        rw [c1] at HR0 ⊢
        clear HOWN him
        go_wp2
        go_loopw [11] (fun p wr => p = .int .i64 (-(s : Int)) ∧ wr = W) (fun _ _ => 0)
        case atStart => exact ⟨rfl, rfl⟩
        case round =>
          obtain ⟨rfl, hww⟩ := hrel
          subst hww
          go_wp2
          go_ret2
          exact ⟨_, _, rfl, .inl ⟨HOKL.out, rfl, HR0.out⟩, HBR.out⟩
      · obtain ⟨mm, hmm⟩ : ∃ mm, mm + 1 = m := ⟨m - 1, by omega⟩
        obtain ⟨P, hP⟩ : ∃ P, P = mm * s := ⟨_, rfl⟩
        have hPN : P + s = N := by rw [hP, ← mul_s, hmm]; exact HNN.out
        have e1 : (N : Int) - (s : Int) = (P : Int) := by omega
        obtain ⟨g, c, hve, hg, hgc, hhl⟩ := Hl.of_owns HOWN.out (by omega)
        simp only [Value.slice.injEq, true_and] at hve
        obtain ⟨rfl, rfl⟩ := hve
        have HL := hid hhl
        have HSL : Hid ((smp K L m).length = N) := by
          unfold Hid
          rw [← HLM.out, smp_len HSZ.out L (fun j hj => (okF_parts HSZ.out (HALL2.out j (by rw [← HLM.out]; exact hj))).1) _ (Nat.le_refl _), HLM.out]
          exact HNN.out
        have HSB : Hid (Bk s P (smp K L m)) := by
          unfold Hid
          refine Bk.of ?_
          have h := smp_bd HSZ.out L (fun j hj => (okF_parts HSZ.out (HALL2.out j (by rw [← HLM.out]; exact hj))).1) (fun j hj => (okF_parts HSZ.out (HALL2.out j (by rw [← HLM.out]; exact hj))).2) L.length (Nat.le_refl _)
          rw [HLM.out] at h
          exact h
        have HSG : Hid (bkN s mm (smp K L m) = signal s K L) := by
          unfold Hid signal
          rw [HLM.out, show m - 1 = mm by omega]
        have HP := hid hP
        have hg0 : g ≠ 0 := by have := HW.out.lt; omega
        obtain ⟨SG, hSG⟩ : ∃ SG, signal s K L = SG := ⟨_, rfl⟩
        have HSGE := hid hSG
        rw [hSG] at HSG
        clear hSG
        generalize smp K L m = y0 at *
        clear hP hhl hmm HOWN c0 him
        go_wp2
        go_loopw [11] (fun p wr => ∃ (j P : Nat) (y : List Int), P = j * s ∧ p = .int .i64 P ∧ P + s ≤ N ∧ y.length = N ∧ bkN s j y = SG ∧ Bk s P y ∧ Hl .i64 2 wr g y ∧ Below w.heap.size w wr) (fun p _ => (intOf p).toNat)
        case atStart => exact ⟨mm, P, y0, HP.out, rfl, by omega, HSL.out, HSG.out, HSB.out, HL.out, HBR.out⟩
        case round =>
          obtain ⟨j, P2, y, hP2, rfl, hle, hyl, hbk, hbb, hhl, hbr⟩ := hrel
          have HP2 := hid hP2
          have HYL := hid hyl
          have HBK := hid hbk
          have HBB := hid hbb
          have HR := hid hhl
          have HB := hid hbr
          clear hP2 hyl hbk hbb hhl hbr
          by_cases c9 : 0 < P2
          · obtain ⟨j2, hj2⟩ : ∃ j2, j = j2 + 1 := ⟨j - 1, by
              have : j ≠ 0 := fun e => by have h := HP2.out; rw [e] at h; simp at h; omega
              omega⟩
            have hP3 : P2 = (j2 + 1) * s := by rw [← hj2]; exact HP2.out
            have hP4 : P2 = j2 * s + s := by rw [hP3, mul_s]
            have htb := turnBack_any g oc N P2 y wr (HW.out.below HB.out) hg0 HR.out HYL.out (by omega) (by omega) (by omega) (HBB.out.in s0)
            have HN2 := hid (HBB.out.next s0 hP3 (by rw [HYL.out]; omega))
            have HK2 : Hid (bkN s j2 (bkL P2 y) = SG) := by
              unfold Hid
              rw [← HBK.out, hj2, hP3]
              rfl
            have HP5 : Hid (P2 - s = j2 * s) := by unfold Hid; omega
            obtain ⟨P3, hP6⟩ : ∃ P3, P2 - s = P3 := ⟨_, rfl⟩
            rw [hP6] at HN2 HP5
            have e2 : (P2 : Int) - (s : Int) = (P3 : Int) := by omega
            have e3 : P3 + s ≤ N := by omega
            have e4 : P3 < P2 := by omega
            have HYL2 : Hid ((bkL P2 y).length = N) := by unfold Hid; rw [bkL_len]; exact HYL.out
            generalize bkL P2 y = y2 at *
            clear hP3 hP4 hP6 hj2
            go_wp2_with (go_at_call 33; refine htb.mono ?_; rintro e w2 ⟨rfl, hh2, hgr2⟩; have HH2 := hid hh2; have HB2 := hid (below_grown HB.out hgr2 hg); clear hh2 hgr2)
            exact ⟨⟨j2, P3, y2, HP5.out, by go_num, e3, HYL2.out, HK2.out, HN2.out, HH2.out, HB2.out⟩, by simp [intOf]; omega⟩
          · have hj0 : j = 0 := by
              rcases Nat.eq_zero_or_pos j with h | h
              · exact h
              · have h2 := HP2.out
                have h3 : 0 < j * s := Nat.mul_pos h (by omega)
                omega
            have HR1 : Hid (Rw .i64 wr (.slice (some ⟨g, 0, none⟩) N oc) SG) := by
              unfold Hid
              rw [← HBK.out, hj0]
              exact HR.out.rw HYL.out
            clear hj0 HR
            go_wp2
            go_ret2
            exact ⟨_, _, rfl, .inl ⟨HOKL.out, rfl, by rw [HSGE.out]; exact HR1.out⟩, HB.out⟩
end Go.Proofs.YtdfihdkkidekjaaDoor
