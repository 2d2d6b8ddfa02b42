/- Contracts: may a band have one more, the pulses of a channel, by the document. -/
import Derived.Test.YtlpjkahppogkiaaKh
namespace Go.Proofs.Ytlpjkahppogkiaa
open Go.RowKit
set_option linter.unusedVariables false
set_option linter.unusedSimpArgs false

theorem may_split {g : List Int} {f : Nat → Nat} {room : Int} {b : Nat} (h1 : 0 < g.getD b 0) (h2 : f b < mx b) : mayB g f room b = decide ((sp (up f b) : Int) ≤ room) := by
  unfold mayB
  exact decide_eq_decide.2 ⟨fun h => h.2.2, fun h => ⟨h1, h2, h⟩⟩
theorem row_at5 {w : World} {a : Option Addr} {c : Nat} {g : List Int} (hl : g.length = 5) (hv : Rw .i64 w (.slice a 5 c) g) : ∃ b off, a = some ⟨b, off, none⟩ ∧ b < w.heap.size ∧ ∀ i, i < 5 → w.cell? ⟨b, off + i, none⟩ = some (.int .i64 (g.getD i 0)) := by
  have hv2 := hv
  rw [← hl] at hv2
  obtain ⟨b, off, rfl, hb, -⟩ := hv2.at 0 (by omega)
  refine ⟨b, off, rfl, hb, fun i hi => ?_⟩
  obtain ⟨b', off', he, _, h⟩ := hv2.at i (by omega)
  simp only [Option.some.injEq, Addr.mk.injEq, and_true] at he
  obtain ⟨rfl, rfl⟩ := he
  exact h

set_option maxHeartbeats 2000000 in
theorem rmay_any (a : Option Addr) (c : Nat) (a2 : Option Addr) (c2 b : Nat) (g : List Int) (f : Nat → Nat) (room : Int) (w : World) (hl : g.length = 5) (hv : Rw .i64 w (.slice a 5 c) g) (hv2 : Rw .i64 w (.slice a2 5 c2) (pls f)) (hb : b < 5) (hf : ∀ b, b < 5 → f b ≤ 12) : Calls Try.prog 21 #[.slice a 5 c, .slice a2 5 c2, .int .i64 (b : Nat), .int .i64 room] w fun e w' => e = .returned (.bool (mayB g f room b)) ∧ Below w.heap.size w w' := by
  obtain ⟨b0, off, rfl, hb0, hc0⟩ := row_at5 hl hv
  obtain ⟨b1, off1, rfl, hb1, hc1⟩ := rw_pls hv2
  have d0 := hc0 b hb
  have d1 := hc1 b hb
  have hwd := fun w => rwidth_b b hb w
  have hw1 := wd_pos hb
  have hmx : wd b = 1 ∧ mx b = 1 ∨ wd b ≠ 1 ∧ mx b = 12 := by unfold mx; split <;> omega
  have hfb := hf b hb
  have i1 : (0 : Int) ≤ (b : Int) := by omega
  have i2 : (b : Int) < 5 := by omega
  have i3 : IntKind.i64.wrap (b : Int) = b := wraps_i64 _ (by omega) (by omega)
  by_cases h1 : 0 < g.getD b 0
  · by_cases h2 : f b < mx b
    · have hmo := rmore_any (some ⟨b1, off1, none⟩) c2 b f w hv2 hb (by omega)
      have hup : ∀ i, i < 5 → up f b i ≤ 12 := fun i hi => by
        by_cases e : i = b
        · subst e; rw [up_at]; omega
        · rw [up_no f e]; exact hf i hi
      have HSP : Hid (∀ w1 g1 c1, Hl .i64 3 w1 g1 (pls (up f b)) → Calls Try.prog 19 #[.slice (some ⟨g1, 0, none⟩) 5 c1] w1 fun e w' => e = .returned (.int .i64 (sp (up f b) : Nat)) ∧ Below w1.heap.size w1 w') := fun w1 g1 c1 h => rspent_any _ _ _ w1 (h.rw (pls_len _)) hup
      rw [may_split h1 h2]
      generalize sp (up f b) = P at *
      generalize pls (up f b) = y at *
      generalize g.getD b 0 = x at *
      rcases hmx with ⟨e1, e2⟩ | ⟨e1, e2⟩
      · have h0 : f b = 0 := by omega
        rw [h0] at d1
        rw [e1] at hwd
        clear hc0 hc1 hv hv2 hf hfb h2 h0 e1 e2 hw1 hup
        have k1 : decide (x < 1) = false := decide_eq_false (by omega)
        clear h1
        go_enter Try.func21, Try.ntmps21
        go_wp2_with (first | (go_at_call 20; refine (hwd _).mono ?_; rintro e w9 ⟨rfl, h9⟩; have h9 := h9.symm; subst h9) | (go_at_call 29; refine hmo.mono ?_; rintro e y1 ⟨g1, c3, rfl, hg1, hh1, hy1⟩; have hsp := HSP.out y1 g1 c3 hh1) | (go_at_call 19; refine hsp.mono ?_; rintro e y2 ⟨rfl, hy2⟩))
        go_ret
        exact ⟨rfl, bthen' hy1 hy2⟩
      · have k1 : decide (x < 1) = false := decide_eq_false (by omega)
        have k2 : decide ((12 : Int) ≤ (f b : Int)) = false := decide_eq_false (by omega)
        have k3 : (((wd b : Nat) : Int) == 1) = false := by simp; omega
        generalize ((wd b : Nat) : Int) = D at *
        generalize (f b : Int) = K at *
        clear hc0 hc1 hv hv2 hf hfb h2 e1 e2 hw1 hup h1
        go_enter Try.func21, Try.ntmps21
        go_wp2_with (first | (go_at_call 20; refine (hwd _).mono ?_; rintro e w9 ⟨rfl, h9⟩; have h9 := h9.symm; subst h9) | (go_at_call 29; refine hmo.mono ?_; rintro e y1 ⟨g1, c3, rfl, hg1, hh1, hy1⟩; have hsp := HSP.out y1 g1 c3 hh1) | (go_at_call 19; refine hsp.mono ?_; rintro e y2 ⟨rfl, hy2⟩))
        go_ret
        exact ⟨rfl, bthen' hy1 hy2⟩
    · rw [may_no (fun h => h2 h.2.1)]
      generalize g.getD b 0 = x at *
      have k1 : decide (x < 1) = false := decide_eq_false (by omega)
      by_cases h3 : 12 ≤ f b
      · have k2 : decide ((12 : Int) ≤ (f b : Int)) = true := decide_eq_true (by omega)
        generalize (f b : Int) = K at *
        clear hmx hc0 hc1 hv hv2 hf hfb h2 h3 hw1 h1
        go_enter Try.func21, Try.ntmps21
        go_wp2_with fail
        go_ret
        exact ⟨rfl, Below.refl _ _⟩
      · have k2 : decide ((12 : Int) ≤ (f b : Int)) = false := decide_eq_false (by omega)
        have e1 : wd b = 1 := by omega
        have k3 : decide ((0 : Int) < (f b : Int)) = true := decide_eq_true (by omega)
        rw [e1] at hwd
        generalize (f b : Int) = K at *
        clear hmx hc0 hc1 hv hv2 hf hfb h2 h3 hw1 h1 e1
        go_enter Try.func21, Try.ntmps21
        go_wp2_with (go_at_call 20; refine (hwd _).mono ?_; rintro e w9 ⟨rfl, h9⟩; have h9 := h9.symm; subst h9)
        go_ret
        exact ⟨rfl, Below.refl _ _⟩
  · rw [may_no (fun h => h1 h.1)]
    generalize g.getD b 0 = x at *
    have k1 : decide (x < 1) = true := decide_eq_true (by omega)
    generalize (f b : Int) = K at *
    clear hmx hc0 hc1 hv hv2 hf hfb hw1 h1
    go_enter Try.func21, Try.ntmps21
    go_wp2_with fail
    go_ret
    exact ⟨rfl, Below.refl _ _⟩

/-- The best band so far, as the document's walk has it. -/
def atI : Option Nat → Int
  | none => -1
  | some a => (a : Nat)
def beI (w : Nat → Int) : Option Nat → Int
  | none => 0
  | some a => w a
theorem lit5 (w : World) (x y z u v : Int) (t : TypeId) : Hl .i64 t (w.alloc (.cells #[.int .i64 x, .int .i64 y, .int .i64 z, .int .i64 u, .int .i64 v] t)) w.heap.size [x, y, z, u, v] := Hl.of_blk (heap_alloc_last w _)

set_option maxHeartbeats 4000000 in
theorem rchannel_any (a : Option Addr) (cap : Nat) (g : List Int) (room : Int) (w : World) (hg : gokB g = true) (hv : Rw .i64 w (.slice a 5 cap) g) (hr0 : 0 ≤ room) : Calls Try.prog 27 #[.slice a 5 cap, .int .i64 room] w fun e w' => ∃ p c, e = .returned (.slice (some ⟨p, 0, none⟩) 5 c) ∧ w.heap.size ≤ p ∧ Hl .i64 3 w' p (pls (chan g room)) ∧ Below w.heap.size w w' := by
  obtain ⟨b0, off, rfl, hb0, hc0⟩ := row_at5 (gok_len hg) hv
  have HC := hid hc0
  have HV := hid hv
  have HGL := hid (gok_len hg)
  clear hv hc0
  go_enter Try.func27, Try.ntmps27
  go_wp2
  have HL0 : Hid (Hl .i64 3 (w.alloc (.cells #[.int .i64 0, .int .i64 0, .int .i64 0, .int .i64 0, .int .i64 0] 3)) w.heap.size (pls fun _ => 0)) := lit5 w 0 0 0 0 0 _
  have HB0 := hid (below1 w (.cells #[.int .i64 0, .int .i64 0, .int .i64 0, .int .i64 0, .int .i64 0] 3))
  generalize w.alloc (.cells #[.int .i64 0, .int .i64 0, .int .i64 0, .int .i64 0, .int .i64 0] 3) = w0 at *
  have HOK := hid (Okf.start g hr0)
  have HE : Hid (chan g room = endF g room fun _ => 0) := rfl
  generalize (fun _ => 0 : Nat → Nat) = f0 at *
  go_loopg [5] (rem5 f0) (fun k u wr => ∃ (f : Nat → Nat) (p c : Nat), k = rem5 f ∧ u = .slice (some ⟨p, 0, none⟩) 5 c ∧ w.heap.size ≤ p ∧ Hid (Okf g room f) ∧ Hid (chan g room = endF g room f) ∧ Hid (Hl .i64 3 wr p (pls f)) ∧ Hid (Below w.heap.size w wr))
  case atStart => exact ⟨f0, w.heap.size, 5, rfl, rfl, Nat.le_refl _, HOK, HE, HL0, HB0⟩
  case round =>
    clear HOK HE HL0 HB0
    obtain ⟨f, p, c, rfl, rfl, hp, HOK, HE, HL, HBW⟩ := hrel
    obtain ⟨W1, rfl⟩ : ∃ x, x = wr := ⟨wr, rfl⟩
    have hf12 := fun b hb => HOK.out.le b hb
    have HMAY : Hid (∀ b, b < 5 → ∀ w1, Below W1.heap.size W1 w1 → Calls Try.prog 21 #[.slice (some ⟨b0, off, none⟩) 5 cap, .slice (some ⟨p, 0, none⟩) 5 c, .int .i64 (b : Nat), .int .i64 room] w1 fun e w' => e = .returned (.bool (mayB g f room b)) ∧ Below w1.heap.size w1 w') := fun b hb w1 h => rmay_any _ _ _ _ b g f room w1 HGL.out (HV.out.below (bthen' HBW.out h)) ((HL.out.below h).rw (pls_len _)) hb hf12
    have HGC : Hid (∀ b, b < 5 → ∀ w1, Below W1.heap.size W1 w1 → w1.cell? ⟨b0, off + b, none⟩ = some (.int .i64 (g.getD b 0))) := fun b hb w1 h => ((bcell (bthen' HBW.out h)).1 _ _ hb0).trans (HC.out b hb)
    have HKC : Hid (∀ b, b < 5 → ∀ w1, Below W1.heap.size W1 w1 → w1.cell? ⟨p, b, none⟩ = some (.int .i64 (f b : Nat))) := fun b hb w1 h => by
      have := (HL.out.below h).cell b (by rw [pls_len]; exact hb)
      rw [pls_at f b hb] at this
      exact this
    have HF := hid hf12
    have HGB : Hid (∀ b, b < 5 → 0 ≤ g.getD b 0 ∧ g.getD b 0 ≤ 44) := fun b hb => gok_bd hg b hb
    have HST : Hid (∀ j, bst (mayB g f room) (wor g f) (j + 1) = if mayB g f room j = true then bstep (wor g f) (bst (mayB g f room) (wor g f) j) j else bst (mayB g f room) (wor g f) j) := fun j => rfl
    have HS0 : Hid (bst (mayB g f room) (wor g f) 0 = none) := rfl
    clear hf12
    go_wp2
    go_loopw [6, 7, 8] (fun x y i wr => ∃ j : Nat, j ≤ 5 ∧ i = .int .i64 j ∧ x = .int .i64 (atI (bst (mayB g f room) (wor g f) j)) ∧ y = .int .i64 (beI (wor g f) (bst (mayB g f room) (wor g f) j)) ∧ Hid (Below W1.heap.size W1 wr)) (fun _ _ i _ => 5 - (intOf i).toNat)
    case atStart => exact ⟨0, by omega, rfl, by rw [HS0.out]; rfl, by rw [HS0.out]; rfl, Below.refl _ _⟩
    case round =>
      obtain ⟨j, hj, rfl, rfl, rfl, HBR⟩ := hrel
      by_cases hlt : j < 5
      · have d0 := HGC.out j hlt wr HBR.out
        have d1 := HKC.out j hlt wr HBR.out
        have hwd := fun w => rwidth_b j hlt w
        have hfj := HF.out j hlt
        obtain ⟨g1, g2⟩ := HGB.out j hlt
        obtain ⟨w1, w2⟩ := wd_pos hlt
        have hmay := fun n => HMAY.out j hlt (wr.drewN n) (drewN_below HBR.out n)
        have hstj := HST.out j
        have i1 : (0 : Int) ≤ (j : Int) := by omega
        have i2 : (j : Int) < 5 := by omega
        have i3 : IntKind.i64.wrap (j : Int) = j := wraps_i64 _ (by omega) (by omega)
        have hq : 16 * f j / wd j ≤ 192 := Nat.le_trans (Nat.div_le_self _ _) (by omega)
        have hR : 8 * g.getD j 0 - ((16 * f j / wd j : Nat) : Int) = wor g f j := rfl
        have t1 : (16 * (f j : Int)).tdiv (wd j : Nat) = ((16 * f j / wd j : Nat) : Int) := by
          rw [Int.tdiv_eq_ediv_of_nonneg (by omega)]; simp
        have t2 : (((wd j : Nat) : Int) == 0) = false := by simp; omega
        generalize hO2 : bst (mayB g f room) (wor g f) (j + 1) = o2 at *
        generalize bst (mayB g f room) (wor g f) j = o at *
        generalize mayB g f room j = mj at *
        generalize wor g f = wo at *
        generalize hRj : wo j = R at *
        have HRJ := hid hRj
        have HO2 := hid hO2
        clear hRj hO2
        generalize hA : atI o = A at *
        generalize hB : beI wo o = B at *
        have HA := hid hA
        have HB := hid hB
        clear hA hB
        generalize 16 * f j / wd j = q at *
        generalize g.getD j 0 = x at *
        generalize f j = k at *
        obtain ⟨d, hd⟩ : ∃ d : Int, ((wd j : Nat) : Int) = d := ⟨_, rfl⟩
        rw [hd] at hwd t1 t2
        have hd1 : 1 ≤ d := by omega
        have hd2 : d ≤ 16 := by omega
        have r1 : -200 ≤ R := by omega
        have r2 : R ≤ 400 := by omega
        clear hd w1 w2
        cases mj with
        | false =>
          have HO : Hid (o2 = o) := by unfold Hid; rw [hstj]; rfl
          clear hstj
          go_wp2
          go_quiet (first | (go_at_call 20; exact Calls.quiet_of_same (hwd _)))
          go_wp2_with (go_at_call 21; refine (hmay _).mono ?_; rintro e y1 ⟨rfl, hy1⟩)
          exact ⟨⟨j + 1, by omega, by go_num, by rw [HO2.out, HO.out, HA.out], by rw [HO2.out, HO.out, HB.out], bthen' (drewN_below HBR.out _) hy1⟩, by simp [intOf]; omega⟩
        | true =>
          cases o with
          | none =>
            have HO : Hid (o2 = some j) := by unfold Hid; rw [hstj]; rfl
            have hA1 : A = -1 := HA.out.symm
            have k1 : decide (A < 0) = true := decide_eq_true (by omega)
            clear hstj hA1
            go_wp2
            go_quiet (first | (go_at_call 20; exact Calls.quiet_of_same (hwd _)))
            go_wp2_with (go_at_call 21; refine (hmay _).mono ?_; rintro e y1 ⟨rfl, hy1⟩)
            exact ⟨⟨j + 1, by omega, by go_num, by rw [HO2.out, HO.out]; rfl, by rw [HO2.out, HO.out, ← HRJ.out]; rfl, bthen' (drewN_below HBR.out _) hy1⟩, by simp [intOf]; omega⟩
          | some a2 =>
            have hA1 : A = (a2 : Nat) := HA.out.symm
            have k1 : decide (A < 0) = false := decide_eq_false (by omega)
            have hB1 : wo a2 = B := HB.out
            by_cases hlt2 : B < R
            · have HO : Hid (o2 = some j) := by unfold Hid; rw [hstj, if_pos rfl]; simp only [bstep]; rw [if_pos (by rw [hB1, HRJ.out]; exact hlt2)]
              have k2 : decide (B < R) = true := decide_eq_true hlt2
              clear hstj hA1 hB1 hlt2
              go_wp2
              go_quiet (first | (go_at_call 20; exact Calls.quiet_of_same (hwd _)))
              go_wp2_with (go_at_call 21; refine (hmay _).mono ?_; rintro e y1 ⟨rfl, hy1⟩)
              exact ⟨⟨j + 1, by omega, by go_num, by rw [HO2.out, HO.out]; rfl, by rw [HO2.out, HO.out, ← HRJ.out]; rfl, bthen' (drewN_below HBR.out _) hy1⟩, by simp [intOf]; omega⟩
            · have HO : Hid (o2 = some a2) := by unfold Hid; rw [hstj, if_pos rfl]; simp only [bstep]; rw [if_neg (by rw [hB1, HRJ.out]; exact hlt2)]
              have k2 : decide (B < R) = false := decide_eq_false hlt2
              clear hstj hA1 hB1 hlt2
              go_wp2
              go_quiet (first | (go_at_call 20; exact Calls.quiet_of_same (hwd _)))
              go_wp2_with (go_at_call 21; refine (hmay _).mono ?_; rintro e y1 ⟨rfl, hy1⟩)
              exact ⟨⟨j + 1, by omega, by go_num, by rw [HO2.out, HO.out, HA.out], by rw [HO2.out, HO.out, HB.out], bthen' (drewN_below HBR.out _) hy1⟩, by simp [intOf]; omega⟩
      · obtain rfl : j = 5 := by omega
        cases ho : bst (mayB g f room) (wor g f) 5 with
        | none =>
          have HR : Hid (chan g room = f) := by unfold Hid; rw [HE.out]; exact endF_none ho
          have k1 : atI none = -1 := rfl
          clear ho HST HS0 HMAY
          go_wp2
          go_ret
          exact ⟨p, c, rfl, hp, by rw [HR.out]; exact HL.out.below HBR.out, bthen' HBW.out HBR.out⟩
        | some x =>
          obtain ⟨hx5, hxm⟩ := bst_some ho
          have hx12 := may_lt hxm
          have HOK2 := hid (HOK.out.up hxm)
          have HE2 : Hid (chan g room = endF g room (up f x)) := by unfold Hid; rw [HE.out]; exact endF_some ho
          have hrem := rem_up f x hx5 hx12
          have hmo := rmore_any (some ⟨p, 0, none⟩) c x f wr ((HL.out.below HBR.out).rw (pls_len _)) hx5 (by omega)
          have k1 : atI (some x) = (x : Nat) := rfl
          clear ho HST HS0 HMAY
          go_wp2_with (go_at_call 29; refine hmo.mono ?_; rintro e y1 ⟨p2, c2, rfl, hp2, hl2, hy2⟩)
          go_roundg (rem5 (up f x))
          case measure => omega
          case rel => exact ⟨up f x, p2, c2, rfl, rfl, by have := HBR.out.size; have := HBW.out.size; omega, HOK2, HE2, hl2, bthen' (bthen' HBW.out HBR.out) hy2⟩
end Go.Proofs.Ytlpjkahppogkiaa
