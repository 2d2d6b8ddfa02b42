/- Contract: a pack is written, by the document. -/
import Derived.Test.YtidppkbphkcmeaaGreatZg
namespace Go.Proofs.YtidppkbphkcmeaaGreat
open Go.RowKit
set_option linter.unusedVariables false
set_option linter.unusedSimpArgs false

theorem pkt_at {E : En} {N k : Nat} (hk : k < N) : (k < E.m + 4 → (pkt E N).getD k 0 = E.all.getD k 0) ∧ (¬ k < E.m + 4 → (pkt E N).getD k 0 = 0) := by
  unfold pkt
  constructor
  · intro h
    have h1 : k < E.all.length := by rw [En.all_length]; exact h
    rw [List.getD_eq_getElem?_getD, List.getElem?_append_left h1, ← List.getD_eq_getElem?_getD]
  · intro h
    rw [List.getD_eq_getElem?_getD, List.getElem?_append_right (by rw [En.all_length]; omega), List.getElem?_replicate]
    split <;> rfl
/-- The first bytes of a packet, as cells. -/
def tk8 (l : List Int) (k : Nat) : List Value := (l.take k).map (Value.int .u8)
theorem take_snoc8 {l : List Int} {k : Nat} (hk : k < l.length) : tk8 l (k + 1) = tk8 l k ++ [.int .u8 (l.getD k 0)] := by
  unfold tk8
  rw [List.take_succ_eq_append_getElem hk, List.map_append, List.getD_eq_getElem?_getD]
  simp [hk]

set_option maxRecDepth 10000 in
set_option maxHeartbeats 16000000 in
theorem rwrite_ok (N c : Nat) (intra : Bool) (ag : Option Addr) (cg : Nat) (G : List (List Int)) (ay : Option Addr) (cy : Nat) (Y : List (List (List Int))) (aa : Option Addr) (na ca : Nat) (A : List (List Int)) (w : World) (h : PkAt w ag c cg G ay c cy Y) (hok : PkOk N c G Y) (hA : A.length = na) (hma : na ≤ 9223372036854775807) (hva : Fr false w (.slice aa na ca) A) (has : ∀ i, (A.getD i []).length ≤ 100) (hah : ahB intra c A = true) :
    Calls Tryz.prog 11 #[.int .i64 (N : Nat), .int .i64 (c : Nat), .agg #[.bool intra, .slice ag c cg, .slice ay c cy], .slice aa na ca] w fun x w' => ∃ v, x = .returned v ∧ Rw .u8 w' v (pkt (EY intra G A c Y c) N) ∧ Below w.heap.size w w' := by
  obtain ⟨i0, hi, hz0, hz1, hz2⟩ := info_parts info_u8c
  have hW := below1 w (.cells #[.bool intra, .slice ag c cg, .slice ay c cy] 33)
  have hB0 := B3.new w (.bool intra) (.slice ag c cg) (.slice ay c cy) 33
  have HOKG : Hid (∀ k, k ≤ c → (EG intra G A k).Ok) := fun k hk => hok.okG intra A hk
  have HOKY : Hid (∀ k, k ≤ c → (EY intra G A c Y k).Ok) := fun k hk => hok.okY intra A hk
  have HSTG : Hid (∀ k, k < c → rm (EG intra G A k) (chK intra (G.getD k []) (A.getD k []) 5) = true) := fun k hk => hok.stepG intra A hk
  have HSTY : Hid (∀ k, k < c → rm (EY intra G A c Y k) (cB (Y.getD k []) 5) = true) := fun k hk => hok.stepY intra A hk
  have HGP : Hid (∀ k, k < c → gpB (G.getD k []) (A.getD k []) intra = true) := fun k hk => gp_at hok.gok hah k hk
  have HGO : Hid (∀ k, k < c → gokB (G.getD k []) = true) := fun k hk => hok.gok k hk
  have HVS : Hid (∀ k, k < c → VsOk (Y.getD k []) (chan (G.getD k []) (rmI N c)) ∧ (Y.getD k []).length = 5 ∧ ∀ b, b < 5 → chan (G.getD k []) (rmI N c) b ≤ 12) := fun k hk => ⟨hok.vs k hk, hok.l5 k hk, fun b hb => (hok.okf k).le b hb⟩
  have HPKT := hid (pkt_ok hok intra A)
  have hsh := hok.short intra A
  rw [← EY_all] at hsh
  have HSH : Hid ((EY intra G A c Y c).m + 4 ≤ N) := by unfold Hid; omega
  have hN := rt_parts hok.rt
  have hN1 : 11 ≤ N ∧ N ≤ 60 := by omega
  obtain ⟨c1, c2⟩ : 1 ≤ c ∧ c ≤ 2 := by omega
  have HH := hid h
  have HVA := hid hva
  have HMA := hid hma
  have HAL := hid hA
  have HAS := hid has
  clear h hva hah hA hok hma has hsh hN
  go_enter Tryz.func11, Tryz.ntmps11
  go_upto_region 2 with (go_at_call 30; refine (rnew_any _).mono ?_; rintro x w1 ⟨a1, k1, rfl, hr1, hb1⟩)
  have hbw1 := bthen' hW hb1
  have hEv0 : Hid (rEv (w1.alloc (.cells #[.int .u64 4294967295, .slice a1 4 k1] 65)) 4294967295 a1 4 k1 En.new) := ⟨En.new_ok, rfl, rfl, hr1.rw.below (below1 _ _)⟩
  have hBe := B2.new w1 (.int .u64 4294967295) (.slice a1 4 k1) 65
  have hBp := (hB0.below hb1).below (below1 w1 (.cells #[.int .u64 4294967295, .slice a1 4 k1] 65))
  have hbel := hbw1.alloc hbw1.size (.cells #[.int .u64 4294967295, .slice a1 4 k1] 65)
  have hbe : w.heap.size < w1.heap.size := Nat.lt_of_lt_of_le hB0.z hb1.size
  generalize w1.alloc (.cells #[.int .u64 4294967295, .slice a1 4 k1] 65) = W1 at *
  generalize w1.heap.size = be at *
  clear hW hB0 hb1 hbw1 hr1
  obtain ⟨z0, o0, o1, q0, q1⟩ := id hBe
  obtain ⟨gz, g0, g1, g2, k0, kk1, k2⟩ := id hBp
  have hput := fun lo hf => rput_ok 4294967295 a1 4 k1 En.new lo (lo + 1) 2 W1 hEv0.out hf (by decide)
  have HE0 : Hid (∀ lo, fN intra = lo → En.new.put lo (lo + 1) 2 = EG intra G A 0) := fun lo h => by subst h; rw [EG_zero]; rfl
  go_upto_if 19 with fail
  go_cut [] from 20 to 29 (fun wz => ∃ (R2 : Int) (a2 : Option Addr) (n2 c2 : Nat), Hid (rEv wz R2 a2 n2 c2 (EG intra G A 0)) ∧ B2 wz be (.int .u64 R2) (.slice a2 n2 c2) ∧ B3 wz w.heap.size (.bool intra) (.slice ag c cg) (.slice ay c cy) ∧ Below w.heap.size w wz)
  case first =>
    cases intra
    · have hp := hput 0 ⟨by decide, by decide, by decide⟩
      rw [HE0.out 0 rfl] at hp
      generalize EG false G A 0 = E0 at *
      go_wp2_with (go_at_call 31; refine hp.mono ?_; rintro x w2 ⟨R2, a2, n2, k2, rfl, hr2, hb2⟩; have hBe2 := hBe.below hb2; have hBp2 := hBp.below hb2; have hbel2 := bthen hbel hb2 hbel.size; clear z0 o0 o1 q0 q1; obtain ⟨z0, o0, o1, q0, q1⟩ := id hBe2)
      go_meet
      exact ⟨R2, a2, n2, k2, fin_put ⟨hr2, hBe2, hBp2, hbel2⟩ hbe⟩
    · have hp := hput 1 ⟨by decide, by decide, by decide⟩
      rw [HE0.out 1 rfl] at hp
      generalize EG true G A 0 = E0 at *
      go_wp2_with (go_at_call 31; refine hp.mono ?_; rintro x w2 ⟨R2, a2, n2, k2, rfl, hr2, hb2⟩; have hBe2 := hBe.below hb2; have hBp2 := hBp.below hb2; have hbel2 := bthen hbel hb2 hbel.size; clear z0 o0 o1 q0 q1; obtain ⟨z0, o0, o1, q0, q1⟩ := id hBe2)
      go_meet
      exact ⟨R2, a2, n2, k2, fin_put ⟨hr2, hBe2, hBp2, hbel2⟩ hbe⟩
  case rest =>
    obtain ⟨R2, a2, n2, k2, hEV, hBe3, hBp3, hbel3⟩ := hcut
    clear z0 o0 o1 q0 q1 gz g0 g1 g2 k0 kk1 hBe hBp hbel hput hEv0 HE0
    go_wp2
    go_loopw [10] (fun i wr => ∃ (k : Nat) (E : En) (R' : Int) (a' : Option Addr) (n' c' : Nat), k ≤ c ∧ i = .int .i64 (k : Nat) ∧ Hid (E = EG intra G A k) ∧ Hid (rEv wr R' a' n' c' E) ∧ B2 wr be (.int .u64 R') (.slice a' n' c') ∧ B3 wr w.heap.size (.bool intra) (.slice ag c cg) (.slice ay c cy) ∧ Below w.heap.size w wr) (fun i _ => c - (intOf i).toNat)
    case atStart => exact ⟨0, _, R2, a2, n2, k2, by omega, rfl, rfl, hEV, hBe3, hBp3, hbel3⟩
    case round =>
      clear hEV hBe3 hBp3 hbel3
      obtain ⟨k, E, R', a', n', c', hk, rfl, HE, HEV, hBe, hBp, hbel⟩ := hrel
      obtain ⟨W2, rfl⟩ : ∃ z, z = wr := ⟨wr, rfl⟩
      by_cases hlt : k < c
      · obtain ⟨b, off, hbo, hb, ra, rc, hc1, _, hrw⟩ := (HH.out.below hbel).vg.at k hlt
        have HBO := hid hbo
        clear hbo
        have hg5 := gok_len (HGO.out k hlt)
        have hat := fun W (h : Below W2.heap.size W2 W) => at_any k aa na ca A W HAL.out HMA.out (by omega) (HVA.out.below (bthen hbel h hbel.size))
        have hpg := fun ra2 rc2 W (hb : Below W2.heap.size W2 W) (h2 : Rw .i64 W (.slice ra2 (A.getD k []).length rc2) (A.getD k [])) => rgput_any R' a' n' c' E ra (G.getD k []).length rc (G.getD k []) ra2 (A.getD k []).length rc2 (A.getD k []) intra rfl rfl (by omega) (HAS.out k) W (HEV.out.below hb) (hrw.below hb) h2
        have hst := HSTG.out k hlt
        rw [← HE.out] at hst
        obtain ⟨g1, g2⟩ := gp_ok (e := E) (HGP.out k hlt) hst
        rw [g1, g2] at hpg
        have HS : Hid (EG intra G A (k + 1) = puts E (chK intra (G.getD k []) (A.getD k []) 5)) := by unfold Hid; rw [EG_succ, ← HE.out]
        generalize puts E (chK intra (G.getD k []) (A.getD k []) 5) = F at *
        unfold RPut at hpg
        clear hst g1 g2 hg5 hrw
        generalize A.getD k [] = yA at *
        generalize (G.getD k []).length = nx at *
        have i1 : (0 : Int) ≤ (k : Int) := by omega
        have i2 : (k : Int) < (c : Int) := by omega
        have i3 : IntKind.i64.wrap (k : Int) = k := wraps_i64 _ (by omega) (by omega)
        obtain ⟨z0, o0, o1, q0, q1⟩ := id hBe
        obtain ⟨gz, g0, g1, g2, k0, kk1, k2⟩ := id hBp
        rw [HBO.out] at g1
        go_wp2
        go_region_with (first | (go_at_call 33; refine (hat _ (Below.refl _ _).drew).mono ?_; rintro xx w9 ⟨⟨ra2, rc2, rfl, hra2⟩, h9⟩; have h9 := h9.symm; subst h9) | (go_at_call 32; refine (hpg _ _ _ (Below.refl _ _).drew (hra2 _ (Below.refl _ _))).mono ?_; rintro xx y1 ⟨R2, a2, n2, c2, rfl, hrw2, hb2'⟩; have hb2 := drew_below hb2'; have hBey := hBe.below hb2; have hBpy := hBp.below hb2; have hy1 := bthen hbel hb2 hbel.size; have HFIN := hid (And.intro hrw2 (And.intro hBey (And.intro hBpy hy1))); clear hrw2 hBpy hy1; obtain ⟨y10, yo0, yo1, yof0, yof1⟩ := id hBey; clear hBey))
        all_goals go_wp2
        all_goals exact ⟨⟨k + 1, F, R2, a2, n2, c2, by omega, by go_num, HS.out.symm, fin_put HFIN.out hbe⟩, by simp [intOf]; omega⟩
      · obtain rfl : k = c := by omega
        have HE0 : Hid (E = EY intra G A k Y 0) := by unfold Hid; rw [EY_zero]; exact HE.out
        clear hlt HE HSTG HOKG HGP HGO HAS HAL HVA HMA
        go_wp2
        go_loopw [11] (fun i wr => ∃ (j : Nat) (E : En) (R' : Int) (a' : Option Addr) (n' c' : Nat), j ≤ k ∧ i = .int .i64 (j : Nat) ∧ Hid (E = EY intra G A k Y j) ∧ Hid (rEv wr R' a' n' c' E) ∧ B2 wr be (.int .u64 R') (.slice a' n' c') ∧ B3 wr w.heap.size (.bool intra) (.slice ag k cg) (.slice ay k cy) ∧ Below w.heap.size w wr) (fun i _ => k - (intOf i).toNat)
        case atStart => exact ⟨0, E, R', a', n', c', by omega, rfl, HE0, HEV, hBe, hBp, hbel⟩
        case round =>
          clear hBe hBp hbel HEV HE0
          obtain ⟨j, F, R', a', n', c', hj, rfl, HF0, HEV2, hBe2, hBp2, hbel2⟩ := hrel
          by_cases hltj : j < k
          · obtain ⟨W3, rfl⟩ : ∃ z, z = wr := ⟨wr, rfl⟩
            obtain ⟨v1, v2, v3⟩ := HVS.out j hltj
            have HV1 := hid v1
            have HV3 := hid v3
            have HV2 := hid v2
            have HST2 : Hid (rm F (cB (Y.getD j []) 5) = true) := by unfold Hid; rw [HF0.out]; exact HSTY.out j hltj
            clear v1 v2 v3
            go_wp2
            go_loopw [12] (fun i wr => ∃ (q : Nat) (D : En) (R' : Int) (a' : Option Addr) (n' c' : Nat), q ≤ 5 ∧ i = .int .i64 (q : Nat) ∧ Hid (D = puts F (cB (Y.getD j []) q)) ∧ Hid (rEv wr R' a' n' c' D) ∧ B2 wr be (.int .u64 R') (.slice a' n' c') ∧ B3 wr w.heap.size (.bool intra) (.slice ag k cg) (.slice ay k cy) ∧ Below w.heap.size w wr) (fun i _ => 5 - (intOf i).toNat)
            case atStart => exact ⟨0, F, R', a', n', c', by omega, rfl, rfl, HEV2, hBe2, hBp2, hbel2⟩
            case round =>
              clear hBe2 hBp2 hbel2 HEV2
              obtain ⟨q, D, R', a', n', c', hq5, rfl, HD, HEV, hBe, hBp, hbel⟩ := hrel
              obtain ⟨W4, rfl⟩ : ∃ z, z = wr := ⟨wr, rfl⟩
              by_cases hlt5 : q < 5
              · obtain ⟨b, off, hbo, hb, ra, rc, hc1, hyr⟩ := (HH.out.below hbel).vy.at j hltj
                have HBO2 := hid hbo
                clear hbo
                rw [HV2.out] at hc1 hyr
                obtain ⟨b2, off2, hbo2, hb2, sa, sc, hc2, _, hrw⟩ := hyr.at q hlt5
                have hbo2' := hbo2.symm
                subst hbo2'
                obtain ⟨v1, v2⟩ := HV1.out q hlt5
                have hfk := HV3.out q hlt5
                have hokv := ok_of_vec hlt5 hfk v1 v2
                have hnum := vec_num hlt5 hfk v1 v2
                have hft := HH.out.fit j q
                have hps12 : ps ((Y.getD j []).getD q []) ≤ 12 := by omega
                have hrps := rps_ok _ hps12
                have hl1 := wd_pos hlt5
                rw [← v1] at hl1
                have hrk := rm_vec HST2.out hlt5
                rw [← HD.out] at hrk
                have HS : Hid (puts F (cB (Y.getD j []) (q + 1)) = puts D (cV ((Y.getD j []).getD q []))) := by unfold Hid; rw [cB_succ, puts_append, ← HD.out]
                have hrp := fun W (h : Below W4.heap.size W4 W) => rpulses_any (.slice sa ((Y.getD j []).getD q []).length sc) _ W (hrw.below h) hft (by omega)
                rw [hrps] at hrp
                have hix := fun W (h : Below W4.heap.size W4 W) => rindex_ok (.slice sa ((Y.getD j []).getD q []).length sc) _ W (hrw.below h) hft hokv
                have hcn := fun W => rcount_any ((Y.getD j []).getD q []).length (ps ((Y.getD j []).getD q [])) W hl1.2 hps12
                have hpn := fun W (h : Below W4.heap.size W4 W) => rputNum_any R' a' n' c' D (ix ((Y.getD j []).getD q []).length (ps ((Y.getD j []).getD q [])) ((Y.getD j []).getD q [])) (V ((Y.getD j []).getD q []).length (ps ((Y.getD j []).getD q []))) W (HEV.out.below h)
                have HVN : Hid (ps ((Y.getD j []).getD q []) = 0 → cV ((Y.getD j []).getD q []) = []) := cV_none
                have HVT : Hid (¬ ps ((Y.getD j []).getD q []) = 0 → cV ((Y.getD j []).getD q []) = chs (ix ((Y.getD j []).getD q []).length (ps ((Y.getD j []).getD q [])) ((Y.getD j []).getD q [])) (V ((Y.getD j []).getD q []).length (ps ((Y.getD j []).getD q [])))) := cV_some
                have i1 : (0 : Int) ≤ (j : Int) := by omega
                have i2 : (j : Int) < (k : Int) := by omega
                have i3 : IntKind.i64.wrap (j : Int) = j := wraps_i64 _ (by omega) (by omega)
                have j1 : (0 : Int) ≤ (q : Int) := by omega
                have j2 : (q : Int) < 5 := by omega
                have j3 : IntKind.i64.wrap (q : Int) = q := wraps_i64 _ (by omega) (by omega)
                obtain ⟨z0, o0, o1, q0, q1⟩ := id hBe
                obtain ⟨gz, g0, g1, g2, k0, kk1, k2⟩ := id hBp
                rw [HBO2.out] at g2
                clear v1 v2 hfk hrps hyr hrw
                generalize (Y.getD j []).getD q [] = v at *
                by_cases hp : ps v = 0
                · have HN := hid (HVN.out hp)
                  rw [hp] at hrp
                  clear hp hnum hft hl1 hps12 hokv hrk HVN HVT hix hcn hpn
                  generalize v.length = Z at *
                  go_wp2_with (go_at_call 28; refine (hrp _ (Below.refl _ _)).mono ?_; rintro x w9 ⟨rfl, h9⟩; have h9 := h9.symm; subst h9)
                  exact ⟨⟨q + 1, D, R', a', n', c', by omega, by go_num, by unfold Hid; rw [HS.out, HN.out]; rfl, HEV, hBe, hBp, hbel⟩, by simp [intOf]; omega⟩
                · have HN := hid (HVT.out hp)
                  have hp' : 0 < ps v := by omega
                  rw [HN.out] at hrk
                  obtain ⟨u1, u2⟩ := num_rm hnum hrk
                  rw [u1, u2, ← HN.out, ← HS.out] at hpn
                  generalize hG2 : puts F (cB (Y.getD j []) (q + 1)) = D2 at *
                  have HD2 := hid hG2
                  unfold RPut at hpn
                  clear u1 u2 hrk hp hnum hft hl1 hps12 hokv HVN HVT hG2 HN HS
                  generalize ix v.length (ps v) v = I at *
                  generalize V v.length (ps v) = V1 at *
                  generalize ps v = p at *
                  generalize v.length = Z at *
                  go_wp2_with (go_at_call 28; refine (hrp _ (Below.refl _ _)).mono ?_; rintro x w9 ⟨rfl, h9⟩; have h9 := h9.symm; subst h9)
                  go_region_with (first | (go_at_call 35; refine (hix _ (by first | exact hx1 | exact (Below.refl _ _).drew)).mono ?_; rintro x y1 ⟨rfl, e1⟩; have hx1 : Below W4.heap.size W4 y1 := bthen' (by first | exact hx1 | exact (Below.refl _ _).drew) e1; obtain ⟨y10, yo0, yo1, yof0, yof1⟩ := id (hBe.below hx1)) | (go_at_call 36; refine (hcn _).mono ?_; rintro x y2 ⟨rfl, e2⟩; have hx1 : Below W4.heap.size W4 y2 := bthen' (by first | exact hx1 | exact (Below.refl _ _).drew) e2; obtain ⟨y20, yp0, yp1, ypf0, ypf1⟩ := id (hBe.below hx1)) | (go_at_call 34; refine (hpn _ hx1).mono ?_; rintro xx y3 ⟨R2, a2, n2, c2, rfl, hrw2, e3⟩; have hx1 : Below W4.heap.size W4 y3 := bthen' hx1 e3; have hBey := hBe.below hx1; have HFIN := hid (And.intro hrw2 (And.intro hBey (And.intro (hBp.below hx1) (bthen hbel hx1 hbel.size)))); clear hrw2; obtain ⟨y30, yr0, yr1, yrf0, yrf1⟩ := id hBey; clear hBey))
                  all_goals go_wp2
                  all_goals exact ⟨⟨q + 1, D2, R2, a2, n2, c2, by omega, by go_num, HD2.out.symm, fin_put HFIN.out hbe⟩, by simp [intOf]; omega⟩
              · obtain rfl : q = 5 := by omega
                have HES : Hid (D = EY intra G A k Y (j + 1)) := by unfold Hid; rw [EY_succ, ← HF0.out]; exact HD.out
                clear hlt5 HD
                go_wp2
                exact ⟨⟨j + 1, D, R', a', n', c', by omega, by go_num, HES, HEV, hBe, hBp, hbel⟩, by simp [intOf]; omega⟩
          · obtain rfl : j = k := by omega
            obtain ⟨W5, rfl⟩ : ∃ z, z = wr := ⟨wr, rfl⟩
            have hpl := HPKT.out.1
            have hsh := HSH.out
            rw [← HF0.out] at hpl hsh
            have hall := fun q (hq : q < N) => pkt_at (E := F) (N := N) (k := q) hq
            have HAT := hid hall
            have HPL := hid hpl
            have hn' := HEV2.out.2.2.1
            have HROW := hid HEV2.out.2.2.2
            have HBY := hid (En.all_byts F)
            have HALN := hid (En.all_length F)
            have HTK : Hid (∀ q, q < N → tk8 (pkt F N) (q + 1) = tk8 (pkt F N) q ++ [.int .u8 ((pkt F N).getD q 0)]) := fun q hq => take_snoc8 (by rw [hpl]; exact hq)
            have HFE := hid HF0.out
            have HF1 : Hid (tk8 (pkt F N) N = (pkt F N).map (Value.int .u8)) := by unfold Hid tk8; rw [List.take_of_length_le (by omega)]
            rw [← hn'] at hsh HAT
            have HN' := hid hn'
            generalize hPF : pkt F N = P at *
            have HPF := hid hPF.symm
            clear hPF
            clear hltj HVS HSTY HOKY HSH hall hpl hn' HF0
            go_wp2
            go_loopw [15, 16] (fun o i wr => ∃ q : Nat, q ≤ N ∧ i = .int .i64 (q : Nat) ∧ wr.ownsRow W5.heap.size 5 1 o q (tk8 P q) ∧ Below W5.heap.size W5 wr) (fun _ i _ => N - (intOf i).toNat)
            case atStart => exact ⟨0, by omega, rfl, World.ownsRow_nil _ _ _ _, Below.refl _ _⟩
            case round =>
              obtain ⟨q, hq, rfl, hown, hbr⟩ := hrel
              obtain ⟨z0, o0, o1, q0, q1⟩ := id (hBe2.below hbr)
              have hsz := hbr.size
              by_cases hltN : q < N
              · have HS := hid (HTK.out q hltN)
                have j1 : (0 : Int) ≤ (q : Int) := by omega
                have j2 : (q : Int) < (N : Int) := by omega
                have j3 : IntKind.i64.wrap (q : Int) = q := wraps_i64 _ (by omega) (by omega)
                by_cases hin : q < n'
                · have hx := (HAT.out q hltN).1 hin
                  obtain ⟨b, off, ho, hb, hcc⟩ := (HROW.out.below hbr).atn q hin
                  have ho' := ho.symm
                  subst ho'
                  have hb256 : 0 ≤ F.all.getD q 0 ∧ F.all.getD q 0 < 256 := by
                    have hql : q < F.all.length := by rw [HALN.out, ← HN'.out]; exact hin
                    have := HBY.out (F.all.getD q 0) (by rw [List.getD_eq_getElem?_getD]; simp [hql])
                    omega
                  have i2 : (q : Int) < (n' : Int) := by omega
                  rw [hx] at HS
                  generalize F.all.getD q 0 = x at *
                  have hwx : IntKind.u8.wrap x = x := wraps_u8 _ hb256.1 hb256.2
                  clear hx hin
                  go_wp2_with (at_builtin; refine wpList_append_own _ rfl _ _ 28 rfl W5.heap.size 5 i0 (.int .u8 0) 1 1 Tryz.underlying28 hi hz0 hz1 hz2 rfl (by decide) _ _ _ rfl (hown.alloc _) ⟨wr.heap.size, 0, none⟩ 1 1 [.int .u8 x] rfl rfl (cell_one_at rfl _ _) (one_cell _ _) ?c3 ?c4 ?c5 ?_)
                  case c3 => unfold maxLen; omega
                  case c4 => omega
                  case c5 => first | (simp; omega) | omega
                  intro v' w2 hown' hgrow _
                  have hb2 := bgrow hbr hown (Nat.le_refl _) hgrow
                  go_wp2
                  exact ⟨⟨q + 1, by omega, by go_num, by have e := HS.out; rw [e]; exact hown', hb2⟩, by simp [intOf]; omega⟩
                · have hx := (HAT.out q hltN).2 hin
                  have i2 : (n' : Int) ≤ (q : Int) := by omega
                  rw [hx] at HS
                  clear hx hin
                  go_wp2_with (at_builtin; refine wpList_append_own _ rfl _ _ 28 rfl W5.heap.size 5 i0 (.int .u8 0) 1 1 Tryz.underlying28 hi hz0 hz1 hz2 rfl (by decide) _ _ _ rfl (hown.alloc _) ⟨wr.heap.size, 0, none⟩ 1 1 [.int .u8 0] rfl rfl (cell_one_at rfl _ _) (one_cell _ _) ?c3 ?c4 ?c5 ?_)
                  case c3 => unfold maxLen; omega
                  case c4 => omega
                  case c5 => first | (simp; omega) | omega
                  intro v' w2 hown' hgrow _
                  have hb2 := bgrow hbr hown (Nat.le_refl _) hgrow
                  go_wp2
                  exact ⟨⟨q + 1, by omega, by go_num, by have e := HS.out; rw [e]; exact hown', hb2⟩, by simp [intOf]; omega⟩
              · obtain rfl : q = N := by omega
                obtain ⟨oa, oc, rfl, -, -, -⟩ := owns_open hown
                rw [HF1.out] at hown
                have HRW := hid (RwF.of_owns (k := .u8) hown).rw
                have HPE : Hid (P = pkt (EY intra G A j Y j) q) := by unfold Hid; rw [← HFE.out]; exact HPF.out
                clear hltN hown
                go_wp2
                go_ret
                refine ⟨_, rfl, ?_, bthen' hbel2 hbr⟩
                rw [← HPE.out]
                exact HRW.out
end Go.Proofs.YtidppkbphkcmeaaGreat
