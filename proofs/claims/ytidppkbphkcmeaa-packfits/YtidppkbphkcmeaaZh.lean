/- Contract: how long the coder's bytes are, by the document. -/
import Derived.Test.YtidppkbphkcmeaaZg
namespace Go.Proofs.Ytidppkbphkcmeaa
open Go.RowKit
set_option linter.unusedVariables false
set_option linter.unusedSimpArgs false

def EL (intra : Bool) (G A : List (List Int)) (Y : List (List (List Int))) (k : Nat) : En := puts En.new (cL intra G A Y k)
theorem EL_succ (intra : Bool) (G A : List (List Int)) (Y : List (List (List Int))) (k : Nat) : EL intra G A Y (k + 1) = puts (puts (EL intra G A Y k) (chK intra (G.getD k []) (A.getD k []) 5)) (cB (Y.getD k []) 5) := by unfold EL; rw [cL_succ, puts_append, puts_append]
theorem cL_more (intra : Bool) (G A : List (List Int)) (Y : List (List (List Int))) (n d : Nat) : ∃ m, cL intra G A Y (n + d) = cL intra G A Y n ++ m := by
  induction d with
  | zero => exact ⟨[], by simp⟩
  | succ d ih =>
    obtain ⟨m, hm⟩ := ih
    exact ⟨m ++ chK intra (G.getD (n + d) []) (A.getD (n + d) []) 5 ++ cB (Y.getD (n + d) []) 5, by rw [← Nat.add_assoc, cL_succ, hm]; simp [List.append_assoc]⟩
theorem pk_rmL {n : Int} {c : Nat} {G : List (List Int)} {Y : List (List (List Int))} (h : PkOk n c G Y) (intra : Bool) (A : List (List Int)) {k : Nat} (hk : k ≤ c) : rm En.new (cL intra G A Y k) = true := by
  have h1 := h.rmL intra A
  obtain ⟨m, hm⟩ := cL_more intra G A Y k (c - k)
  rw [show k + (c - k) = c by omega] at hm
  rw [hm] at h1
  exact (rm_left h1).1
theorem pk_stepL {n : Int} {c : Nat} {G : List (List Int)} {Y : List (List (List Int))} (h : PkOk n c G Y) (intra : Bool) (A : List (List Int)) {k : Nat} (hk : k < c) : rm (EL intra G A Y k) (chK intra (G.getD k []) (A.getD k []) 5) = true ∧ rm (puts (EL intra G A Y k) (chK intra (G.getD k []) (A.getD k []) 5)) (cB (Y.getD k []) 5) = true := by
  have h1 := pk_rmL h intra A (k := k + 1) hk
  rw [cL_succ, List.append_assoc] at h1
  exact rm_left (rm_left h1).2
theorem pk_okL {n : Int} {c : Nat} {G : List (List Int)} {Y : List (List (List Int))} (h : PkOk n c G Y) (intra : Bool) (A : List (List Int)) {k : Nat} (hk : k ≤ c) : (EL intra G A Y k).Ok :=
  puts_ok En.new_ok (cL_fair h intra A k hk) (pk_rmL h intra A hk)
set_option maxRecDepth 10000 in
set_option maxHeartbeats 16000000 in
theorem rlong_ok (N c : Nat) (intra : Bool) (ag : Option Addr) (cg : Nat) (G : List (List Int)) (ay : Option Addr) (cy : Nat) (Y : List (List (List Int))) (aa : Option Addr) (na ca : Nat) (A : List (List Int)) (w : World) (h : PkAt w ag c cg G ay c cy Y) (hok : PkOk N c G Y) (hA : A.length = na) (hma : na ≤ 9223372036854775807) (hva : Fr false w (.slice aa na ca) A) (has : ∀ i, (A.getD i []).length ≤ 100) (hah : ahB intra c A = true) :
    Calls Try.prog 19 #[.int .i64 (c : Nat), .agg #[.bool intra, .slice ag c cg, .slice ay c cy], .slice aa na ca] w fun x w' => x = .returned (.int .i64 (((EL intra G A Y c).m + 4 : Nat) : Int)) ∧ Below w.heap.size w w' := by
  have hW := below1 w (.cells #[.bool intra, .slice ag c cg, .slice ay c cy] 30)
  have hB0 := B3.new w (.bool intra) (.slice ag c cg) (.slice ay c cy) 30
  have HST : Hid (∀ k, k < c → rm (EL intra G A Y k) (chK intra (G.getD k []) (A.getD k []) 5) = true ∧ rm (puts (EL intra G A Y k) (chK intra (G.getD k []) (A.getD k []) 5)) (cB (Y.getD k []) 5) = true) := fun k hk => pk_stepL hok intra A hk
  have HOK : Hid (∀ k, k ≤ c → (EL intra G A Y k).Ok) := fun k hk => pk_okL hok intra A hk
  have HGP : Hid (∀ k, k < c → gpB (G.getD k []) (A.getD k []) intra = true) := fun k hk => gp_at hok.gok hah k hk
  have HGO : Hid (∀ k, k < c → gokB (G.getD k []) = true) := fun k hk => hok.gok k hk
  have HVS : Hid (∀ k, k < c → VsOk (Y.getD k []) (chan (G.getD k []) (rmI N c)) ∧ (Y.getD k []).length = 5 ∧ ∀ b, b < 5 → chan (G.getD k []) (rmI N c) b ≤ 12) := fun k hk => ⟨hok.vs k hk, hok.l5 k hk, fun b hb => (hok.okf k).le b hb⟩
  obtain ⟨c1, c2⟩ : 1 ≤ c ∧ c ≤ 2 := by have := rt_parts hok.rt; omega
  have HH := hid h
  have HVA := hid hva
  have HMA := hid hma
  have HAL := hid hA
  have HAS := hid has
  clear h hva hah hA hok hma has
  go_enter Try.func19, Try.ntmps19
  go_upto_region 2 with (go_at_call 39; refine (rnew_any _).mono ?_; rintro x w1 ⟨a1, k1, rfl, hr1, hb1⟩)
  have hbw1 := bthen' hW hb1
  have hEv0 : Hid (rEv (w1.alloc (.cells #[.int .u64 4294967295, .slice a1 4 k1] 76)) 4294967295 a1 4 k1 En.new) := ⟨En.new_ok, rfl, rfl, hr1.rw.below (below1 _ _)⟩
  have hBe := B2.new w1 (.int .u64 4294967295) (.slice a1 4 k1) 76
  have hBp := (hB0.below hb1).below (below1 w1 (.cells #[.int .u64 4294967295, .slice a1 4 k1] 76))
  have hbel := hbw1.alloc hbw1.size (.cells #[.int .u64 4294967295, .slice a1 4 k1] 76)
  have hbe : w.heap.size < w1.heap.size := Nat.lt_of_lt_of_le hB0.z hb1.size
  generalize w1.alloc (.cells #[.int .u64 4294967295, .slice a1 4 k1] 76) = W1 at *
  generalize w1.heap.size = be at *
  clear hW hB0 hb1 hbw1 hr1
  obtain ⟨z0, o0, o1, q0, q1⟩ := id hBe
  have hput := rput_ok 4294967295 a1 4 k1 En.new 0 1 2 W1 hEv0.out ⟨by decide, by decide, by decide⟩ (by decide)
  have HE0 : Hid (En.new.put 0 1 2 = EL intra G A Y 0) := rfl
  rw [HE0.out] at hput
  go_wp2_with (go_at_call 40; refine hput.mono ?_; rintro x w2 ⟨R2, a2, n2, k2, rfl, hr2, hb2⟩; have hBe2 := hBe.below hb2; have hBp2 := hBp.below hb2; have hbel2 := bthen hbel hb2 hbel.size; clear z0 o0 o1 q0 q1; obtain ⟨z0, o0, o1, q0, q1⟩ := id hBe2)
  have hEV := hid (hr2.set2 hBe2 (fun z => by simp) (.int .u64 R2) (.slice a2 n2 k2))
  have hBe3 := hBe2.set (.int .u64 R2) (.slice a2 n2 k2)
  have hBp3 := (hBp2.other be 0 (.int .u64 R2) (by omega)).other be 1 (.slice a2 n2 k2) (by omega)
  have hbel3 := bset2x hbel2 be (.int .u64 R2) (.slice a2 n2 k2) (by omega)
  clear z0 o0 o1 q0 q1 hBe hBp hbel hBe2 hBp2 hbel2 hr2 hb2 hput hEv0 HE0
  go_loopw [8] (fun i wr => ∃ (k : Nat) (E : En) (R' : Int) (a' : Option Addr) (n' c' : Nat), k ≤ c ∧ i = .int .i64 (k : Nat) ∧ Hid (E = EL intra G A Y k) ∧ Hid (rEv wr R' a' n' c' E) ∧ B2 wr be (.int .u64 R') (.slice a' n' c') ∧ B3 wr w.heap.size (.bool intra) (.slice ag c cg) (.slice ay c cy) ∧ Below w.heap.size w wr) (fun i _ => c - (intOf i).toNat)
  case atStart => exact ⟨0, _, R2, a2, n2, k2, by omega, rfl, rfl, hEV, hBe3, hBp3, hbel3⟩
  case round =>
    clear hEV hBe3 hBp3 hbel3
    obtain ⟨k, E, R', a', n', c', hk, rfl, HE, HEV, hBe, hBp, hbel⟩ := hrel
    obtain ⟨W2, rfl⟩ : ∃ z, z = wr := ⟨wr, rfl⟩
    by_cases hlt : k < c
    · obtain ⟨b, off, hbo, hb, ra, rc, hcw, _, hrw0⟩ := HH.out.vg.at k hlt
      have HBO := hid hbo
      have hrw := hrw0.below hbel
      have hc1 := (hbel.cell (p := ⟨b, off + k, none⟩) hb).trans hcw
      have HCW := hid hcw
      clear hbo hrw0 hcw
      have hg5 := gok_len (HGO.out k hlt)
      have hat := fun W (h : Below W2.heap.size W2 W) => at_any k aa na ca A W HAL.out HMA.out (by omega) (HVA.out.below (bthen hbel h hbel.size))
      have hpg := fun ra2 rc2 W (hb : Below W2.heap.size W2 W) (h2 : Rw .i64 W (.slice ra2 (A.getD k []).length rc2) (A.getD k [])) => rgput_any R' a' n' c' E ra (G.getD k []).length rc (G.getD k []) ra2 (A.getD k []).length rc2 (A.getD k []) intra rfl rfl (by omega) (HAS.out k) W (HEV.out.below hb) (hrw.below hb) h2
      have hst := HST.out k hlt
      rw [← HE.out] at hst
      obtain ⟨g1, g2⟩ := gp_ok (e := E) (HGP.out k hlt) hst.1
      rw [g1, g2] at hpg
      have HST2 := hid hst.2
      have HF0 : Hid (puts E (chK intra (G.getD k []) (A.getD k []) 5) = puts (EL intra G A Y k) (chK intra (G.getD k []) (A.getD k []) 5)) := by unfold Hid; rw [HE.out]
      generalize puts E (chK intra (G.getD k []) (A.getD k []) 5) = F at *
      unfold RPut at hpg
      clear hst g1 g2 hg5 hrw
      generalize hay : A.getD k [] = yA at *
      generalize (G.getD k []).length = nx at *
      have HAY := hid hay
      clear hay
      have i1 : (0 : Int) ≤ (k : Int) := by omega
      have i2 : (k : Int) < (c : Int) := by omega
      have i3 : IntKind.i64.wrap (k : Int) = k := wraps_i64 _ (by omega) (by omega)
      obtain ⟨z0, o0, o1, q0, q1⟩ := id hBe
      obtain ⟨gz, g0, g1, g2, k0, k1, k2⟩ := id hBp
      rw [HBO.out] at g1
      go_wp2
      go_cut [] (fun wz => ∃ (R2 : Int) (a2 : Option Addr) (n2 c2 : Nat), Hid (rEv wz R2 a2 n2 c2 F) ∧ B2 wz be (.int .u64 R2) (.slice a2 n2 c2) ∧ B3 wz w.heap.size (.bool intra) (.slice ag c cg) (.slice ay c cy) ∧ Below w.heap.size w wz)
      case first =>
        go_region_with (first | (go_at_call 42; refine (hat _ (Below.refl _ _).drew).mono ?_; rintro xx w9 ⟨⟨ra2, rc2, rfl, hra2⟩, h9⟩; have h9 := h9.symm; subst h9) | (go_at_call 41; refine (hpg _ _ _ (Below.refl _ _).drew (hra2 _ (Below.refl _ _))).mono ?_; rintro xx y1 ⟨R2, a2, n2, c2, rfl, hrw2, hb2'⟩; have hb2 := drew_below hb2'; have hBey := hBe.below hb2; have hBpy := hBp.below hb2; have hy1 := bthen hbel hb2 hbel.size; have HFIN := hid (And.intro hrw2 (And.intro hBey (And.intro hBpy hy1))); clear hrw2 hBpy hy1; obtain ⟨y10, yo0, yo1, yof0, yof1⟩ := id hBey; clear hBey))
        all_goals go_wp2
        all_goals go_meet
        all_goals exact ⟨R2, a2, n2, c2, fin_put HFIN.out hbe⟩
      case rest =>
        obtain ⟨R2, a2, n2, c2, HEV2, hBe2, hBp2, hbel2⟩ := hcut
        obtain ⟨W3, rfl⟩ : ∃ z, z = wc := ⟨wc, rfl⟩
        clear z0 o0 o1 q0 q1 gz g0 g1 g2 k0 k1 k2 hBe hBp hbel HEV hat hpg hc1 hb
        obtain ⟨v1, v2, v3⟩ := HVS.out k hlt
        have HV1 := hid v1
        have HV3 := hid v3
        have HV2 := hid v2
        clear v1 v2 v3
        go_wp2
        go_loopw [9] (fun i wr => ∃ (j : Nat) (D : En) (R' : Int) (a' : Option Addr) (n' c' : Nat), j ≤ 5 ∧ i = .int .i64 (j : Nat) ∧ Hid (D = puts F (cB (Y.getD k []) j)) ∧ Hid (rEv wr R' a' n' c' D) ∧ B2 wr be (.int .u64 R') (.slice a' n' c') ∧ B3 wr w.heap.size (.bool intra) (.slice ag c cg) (.slice ay c cy) ∧ Below w.heap.size w wr) (fun i _ => 5 - (intOf i).toNat)
        case atStart => exact ⟨0, F, R2, a2, n2, c2, by omega, rfl, rfl, HEV2, hBe2, hBp2, hbel2⟩
        case round =>
          clear hBe2 hBp2 hbel2 HEV2
          obtain ⟨j, D, R', a', n', c', hj, rfl, HD, HEV, hBe, hBp, hbel⟩ := hrel
          obtain ⟨W4, rfl⟩ : ∃ z, z = wr := ⟨wr, rfl⟩
          by_cases hlt5 : j < 5
          · obtain ⟨b, off, hbo, hb, ra, rc, hc1, hyr⟩ := (HH.out.below hbel).vy.at k hlt
            have HBO2 := hid hbo
            clear hbo
            rw [HV2.out] at hc1 hyr
            obtain ⟨b2, off2, hbo2, hb2, sa, sc, hc2, _, hrw⟩ := hyr.at j hlt5
            have hbo2' := hbo2.symm
            subst hbo2'
            obtain ⟨v1, v2⟩ := HV1.out j hlt5
            have hfk := HV3.out j hlt5
            have hokv := ok_of_vec hlt5 hfk v1 v2
            have hnum := vec_num hlt5 hfk v1 v2
            have hft := HH.out.fit k j
            have hps12 : ps ((Y.getD k []).getD j []) ≤ 12 := by omega
            have hrps := rps_ok _ hps12
            have hl1 := wd_pos hlt5
            rw [← v1] at hl1
            have hrk := rm_vec HST2.out hlt5
            rw [← HD.out] at hrk
            have HS : Hid (puts F (cB (Y.getD k []) (j + 1)) = puts D (cV ((Y.getD k []).getD j []))) := by unfold Hid; rw [cB_succ, puts_append, ← HD.out]
            have hrp := fun W (h : Below W4.heap.size W4 W) => rpulses_any (.slice sa ((Y.getD k []).getD j []).length sc) _ W (hrw.below h) hft (by omega)
            rw [hrps] at hrp
            have hix := fun W (h : Below W4.heap.size W4 W) => rindex_ok (.slice sa ((Y.getD k []).getD j []).length sc) _ W (hrw.below h) hft hokv
            have hcn := fun W => rcount_any ((Y.getD k []).getD j []).length (ps ((Y.getD k []).getD j [])) W hl1.2 hps12
            have hpn := fun W (h : Below W4.heap.size W4 W) => rputNum_any R' a' n' c' D (ix ((Y.getD k []).getD j []).length (ps ((Y.getD k []).getD j [])) ((Y.getD k []).getD j [])) (V ((Y.getD k []).getD j []).length (ps ((Y.getD k []).getD j []))) W (HEV.out.below h)
            have HVN : Hid (ps ((Y.getD k []).getD j []) = 0 → cV ((Y.getD k []).getD j []) = []) := cV_none
            have HVT : Hid (¬ ps ((Y.getD k []).getD j []) = 0 → cV ((Y.getD k []).getD j []) = chs (ix ((Y.getD k []).getD j []).length (ps ((Y.getD k []).getD j [])) ((Y.getD k []).getD j [])) (V ((Y.getD k []).getD j []).length (ps ((Y.getD k []).getD j [])))) := cV_some
            have i1 : (0 : Int) ≤ (k : Int) := by omega
            have i2 : (k : Int) < (c : Int) := by omega
            have i3 : IntKind.i64.wrap (k : Int) = k := wraps_i64 _ (by omega) (by omega)
            have j1 : (0 : Int) ≤ (j : Int) := by omega
            have j2 : (j : Int) < 5 := by omega
            have j3 : IntKind.i64.wrap (j : Int) = j := wraps_i64 _ (by omega) (by omega)
            obtain ⟨z0, o0, o1, q0, q1⟩ := id hBe
            obtain ⟨gz, g0, g1, g2, k0, k1, k2⟩ := id hBp
            rw [HBO2.out] at g2
            clear v1 v2 hfk hrps hyr hrw
            generalize (Y.getD k []).getD j [] = v at *
            by_cases hp : ps v = 0
            · have HN := hid (HVN.out hp)
              rw [hp] at hrp
              clear hp hnum hft hl1 hps12 hokv hrk HVN HVT hix hcn hpn
              generalize v.length = Z at *
              go_wp2_with (go_at_call 25; refine (hrp _ (Below.refl _ _)).mono ?_; rintro x w9 ⟨rfl, h9⟩; have h9 := h9.symm; subst h9)
              exact ⟨⟨j + 1, D, R', a', n', c', by omega, by go_num, by unfold Hid; rw [HS.out, HN.out]; rfl, HEV, hBe, hBp, hbel⟩, by simp [intOf]; omega⟩
            · have HN := hid (HVT.out hp)
              have hp' : 0 < ps v := by omega
              rw [HN.out] at hrk
              obtain ⟨u1, u2⟩ := num_rm hnum hrk
              rw [u1, u2, ← HN.out, ← HS.out] at hpn
              generalize hG2 : puts F (cB (Y.getD k []) (j + 1)) = D2 at *
              have HD2 := hid hG2
              unfold RPut at hpn
              clear u1 u2 hrk hp hnum hft hl1 hps12 hokv HVN HVT hG2 HN HS
              generalize ix v.length (ps v) v = I at *
              generalize V v.length (ps v) = V1 at *
              generalize ps v = p at *
              generalize v.length = Z at *
              go_wp2_with (go_at_call 25; refine (hrp _ (Below.refl _ _)).mono ?_; rintro x w9 ⟨rfl, h9⟩; have h9 := h9.symm; subst h9)
              go_region_with (first | (go_at_call 25; refine (hrp _ (by first | exact hx1 | exact (Below.refl _ _).drew)).mono ?_; rintro x w9 ⟨rfl, h9⟩; have h9 := h9.symm; subst h9) | (go_at_call 44; refine (hix _ (by first | exact hx1 | exact (Below.refl _ _).drew)).mono ?_; rintro x y1 ⟨rfl, e1⟩; have hx1 : Below W4.heap.size W4 y1 := bthen' (by first | exact hx1 | exact (Below.refl _ _).drew) e1; obtain ⟨y10, yo0, yo1, yof0, yof1⟩ := id (hBe.below hx1)) | (go_at_call 45; refine (hcn _).mono ?_; rintro x y2 ⟨rfl, e2⟩; have hx1 : Below W4.heap.size W4 y2 := bthen' (by first | exact hx1 | exact (Below.refl _ _).drew) e2; obtain ⟨y20, yp0, yp1, ypf0, ypf1⟩ := id (hBe.below hx1)) | (go_at_call 43; refine (hpn _ hx1).mono ?_; rintro xx y3 ⟨R2, a2, n2, c2, rfl, hrw2, e3⟩; have hx1 : Below W4.heap.size W4 y3 := bthen' hx1 e3; have hBey := hBe.below hx1; have hBpy := hBp.below hx1; have hy1 := bthen hbel hx1 hbel.size; have HRW2 := hid hrw2; clear hrw2; obtain ⟨y30, yr0, yr1, yrf0, yrf1⟩ := id hBey))
              all_goals go_wp2
              all_goals exact ⟨⟨j + 1, D2, R2, a2, n2, c2, by omega, by go_num, HD2.out.symm, HRW2.out.set2 hBey (fun z => by simp) _ _, hBey.set _ _, (hBpy.other _ _ _ (by omega)).other _ _ _ (by omega), bset2x hy1 _ _ _ (by omega)⟩, by simp [intOf]; omega⟩
          · obtain rfl : j = 5 := by omega
            have HES : Hid (D = EL intra G A Y (k + 1)) := by unfold Hid; rw [EL_succ, HAY.out, ← HF0.out]; exact HD.out
            clear hlt5 HD
            go_wp2
            exact ⟨⟨k + 1, D, R', a', n', c', by omega, by go_num, HES, HEV, hBe, hBp, hbel⟩, by simp [intOf]; omega⟩
    · obtain rfl : k = c := by omega
      obtain ⟨z0, o0, o1, q0, q1⟩ := id hBe
      have hn := HEV.out.2.2.1
      have HN : Hid ((EL intra G A Y k).m + 4 = n') := by unfold Hid; rw [← HE.out]; exact hn.symm
      clear hlt hn
      go_wp2
      go_ret
      exact ⟨ret_int (by rw [HN.out]), hbel⟩
end Go.Proofs.Ytidppkbphkcmeaa
