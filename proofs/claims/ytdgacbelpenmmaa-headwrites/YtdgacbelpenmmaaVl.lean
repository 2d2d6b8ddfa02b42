/- Contract of the document's Read, of bytes that begin as a header does. -/
import Derived.Test.YtdgacbelpenmmaaVk
import Derived.Deep.RegionLaw
namespace Go.Proofs.Ytdgacbelpenmmaa
open Go.RowKit
set_option linter.unusedVariables false
set_option linter.unusedSimpArgs false

/-- The document's loop over the second book. -/
structure RkG (w wr : World) (s S1 : Nat) (c q : Int) (u v : Value) (k : Nat) (xs F : List Int) : Prop where
  res : B4 wr w.heap.size (.int .i64 0) (.int .i64 0) (.slice none 0 0) (.slice none 0 0)
  box : B4 wr s (.int .i64 c) (.int .i64 q) u v
  own : wr.ownsRow S1 3 1 v k ((tab k fun j => ((gv xs (246 + 5 * j) 5 : Nat) : Int)).map (Value.int .i64))
  row : RwM (s + 1) S1 .i64 wr u F
  bl : Below w.heap.size w wr
  z : w.heap.size < s
  z2 : s < S1
theorem RkG.push {w wr y1 w2 : World} {s S1 : Nat} {c q x : Int} {u : Value} {a a2 : Option Addr} {k cap c2 : Nat} {xs F : List Int} {t : TypeId} (h : RkG w wr s S1 c q u (.slice a k cap) k xs F) (hy : Below wr.heap.size wr y1) (hg : (y1.alloc (.cells #[.int .i64 x] t)).grownBy w2 (Value.slice a k cap).ownBlock) (hown : w2.ownsRow S1 3 1 (.slice a2 (k + 1) c2) (k + 1) ((tab k fun j => ((gv xs (246 + 5 * j) 5 : Nat) : Int)).map (Value.int .i64) ++ [.int .i64 x])) (hx : ((gv xs (246 + 5 * k) 5 : Nat) : Int) = x) :
    RkG w (w2.setCell ⟨s, 3, none⟩ (.slice a2 (k + 1) c2)) s S1 c q u (.slice a2 (k + 1) c2) (k + 1) xs F := by
  have hy2 := hy.alloc hy.size (.cells #[.int .i64 x] t)
  have hlt := h.own.lt
  have hz := h.z
  have hz2 := h.z2
  have hne : ∀ p, p < S1 → (Value.slice a k cap).ownBlock ≠ some p := fun p hp e => by have := (hlt _ e).1; omega
  have hb2 := B4.grown (h.box.below hy2) hg (hne _ (by omega))
  have ha2 := B4.grown (h.res.below hy2) hg (hne _ (by omega))
  refine ⟨B4.other ha2 _ _ _ (by omega), B4.set3 hb2 _, ?_, ((h.row.below hy2).grown hg (fun i e => .inr (hlt i e).1)).set s 3 _ (.inl (by omega)), ?_, hz, hz2⟩
  · rw [gv_push, hx]; exact owns_other hown s 3 _ (by omega)
  · exact bset1 ((bthen h.bl hy2 h.bl.size).grown hg (Nat.le_trans h.bl.size hy2.size) (fun j hj => by have := (hlt j hj).1; omega)) s 3 _ (by omega)

set_option maxHeartbeats 8000000 in
theorem rread_in (a : Option Addr) (cap : Nat) (xs : List Int) (w : World) (hn : xs.length = 41) (hv : Rw .u8 w (.slice a 41 cap) xs) (hx : Byts xs) (hm : gv xs 0 16 = 22099) :
    Calls Try.prog 20 #[.slice a 41 cap] w (RdPost xs w) := by
  have hB := B4.new w (.int .i64 0) (.int .i64 0) (.slice none 0 0) (.slice none 0 0) 28
  have hW := below1 w (.cells #[.int .i64 0, .int .i64 0, .slice none 0 0, .slice none 0 0] 28)
  have hv0 := hv.below hW
  obtain ⟨m0, m1⟩ := (magic_bytes hx (by omega)).1 hm
  have HMG := hid hm
  rw [← hn] at hv0
  obtain ⟨b, off, ha, hb, hc0⟩ := hv0.at 0 (by omega)
  obtain ⟨b', off', ha', _, hc1⟩ := hv0.at 1 (by omega)
  subst ha
  simp only [Option.some.injEq, Addr.mk.injEq, and_true] at ha'
  obtain ⟨rfl, rfl⟩ := ha'
  rw [hn] at hv0
  rw [Nat.add_zero, m0] at hc0
  rw [m1] at hc1
  obtain ⟨b4z, c0, c1, c2, c3, f0, f1, f2, f3⟩ := id hB
  have hnum := fun (p n : Nat) w' (hb : Below w.heap.size w w') (hn32 : n ≤ 32) => number_any (.slice (some ⟨b, off, none⟩) 41 cap) xs p n w' (hv.below hb) hx (by omega) hn32
  have g16 := gv_lt xs 16 1
  have HC : Hid (vhC xs = 1 + ((gv xs 16 1 : Nat) : Int)) := rfl
  have HQ : Hid (vhQ xs = ((gv xs 17 4 : Nat) : Int)) := rfl
  have p1 := fun w' hb => hnum 16 1 w' hb (by omega)
  have p2 := fun w' hb => hnum 17 4 w' hb (by omega)
  generalize hG1 : ((gv xs 16 1 : Nat) : Int) = G1 at *
  have g10 : 0 ≤ G1 := by omega
  have g11 : G1 < 2 := by omega
  clear hG1 g16
  generalize ((gv xs 17 4 : Nat) : Int) = G2 at *
  have HW := hid hW
  obtain ⟨i0, hi, hz0, hz1, hz2⟩ := info_parts info3
  clear hv0 m0 m1 hm hv
  go_enter Try.func20, Try.ntmps20
  go_upto_region 6 with (first | (go_at_call_of 33 (Value.int .i64 16); refine (p1 _ HW.out).mono ?_; rintro e y1 ⟨rfl, hy1⟩; have hW1 := bthen' HW.out hy1) | (go_at_call_of 33 (Value.int .i64 17); refine (p2 _ hW1).mono ?_; rintro e y2 ⟨rfl, hy2⟩; have hW2 := bthen hW1 hy2 hW1.size; have hA2 := hB.below (bthen' hy1 hy2)))
  have hs : w.heap.size < y2.heap.size := hA2.z
  have H0 : Hid (RkF w (y2.alloc (.cells #[.int .i64 (1 + G1), .int .i64 G2, .slice none 0 0, .slice none 0 0] 28)) y2.heap.size (1 + G1) G2 (.slice none 0 0) 0 21 xs) :=
    ⟨hA2.below (below1 _ _), B4.new y2 _ _ _ _ _, World.ownsRow_nil _ _ _ _, hW2.alloc (Nat.le_of_lt hs) _, hs⟩
  generalize y2.alloc (.cells #[.int .i64 (1 + G1), .int .i64 G2, .slice none 0 0, .slice none 0 0] 28) = y3 at *
  generalize y2.heap.size = s at *
  clear hW1 hW2 hA2 hy1 hy2 p1 p2
  go_wp2
  go_loopw [5] (fun p wr => ∃ (k : Nat) (v : Value), k ≤ 45 ∧ p = .int .i64 k ∧ Hid (RkF w wr s (1 + G1) G2 v k 21 xs)) (fun p _ => 45 - (intOf p).toNat)
  case atStart => exact ⟨0, _, by omega, rfl, H0⟩
  case round =>
    clear H0
    obtain ⟨k, v, hk, rfl, HR⟩ := hrel
    obtain ⟨W1, rfl⟩ : ∃ x, x = wr := ⟨wr, rfl⟩
    obtain ⟨ac, cc, rfl, hcc, hmc, h0c⟩ := owns_open HR.out.own
    by_cases hlt : k < 45
    · obtain ⟨K5, hK5⟩ : ∃ K5 : Nat, 5 * k = K5 := ⟨_, rfl⟩
      obtain ⟨P, hP⟩ : ∃ P : Nat, 21 + 5 * k = P := ⟨_, rfl⟩
      have e5 : IntKind.i64.wrap (5 * (k : Int)) = (K5 : Int) := by rw [wraps_i64 _ (by omega) (by omega)]; omega
      have e6 : IntKind.i64.wrap (21 + (K5 : Int)) = (P : Int) := by rw [wraps_i64 _ (by omega) (by omega)]; omega
      have hp := fun w' hb => hnum P 5 w' hb (by omega)
      have HX : Hid (((gv xs (21 + 5 * k) 5 : Nat) : Int) = ((gv xs P 5 : Nat) : Int)) := by rw [hP]; rfl
      generalize ((gv xs P 5 : Nat) : Int) = x at *
      clear hP hK5
      have hown := HR.out.own
      have hbx := HR.out.box
      have hbl := HR.out.bl
      have hcl := hbx.c2
      have hfl := hbx.f2
      have i1 : (0 : Int) ≤ (k : Int) := by omega
      have i2 : (k : Int) < 45 := by omega
      have hss := hbx.z
      go_wp2
      go_region_law (first | (go_simp; go_at_call 33; refine (hp _ (by first | exact hbl.drew | exact hbl)).mono ?_; rintro e y1 ⟨rfl, hy1⟩; have hb1 := hbx.below (drew_below hy1); have hb2 := hb1.below (below1 y1 (.cells #[.int .i64 x] 3)); have hc1 := hb1.c2; have hc2 := hb2.c2; have hownN := owns_new (owns_below hown (drew_below hy1)) (.cells #[.int .i64 x] 3)) | (refine step_append_own (by rfl) (.tmp 38) (.tmp 44) 22 (by rfl) (s + 1) 3 i0 (.int .i64 0) 8 Try.underlying22 hi hz0 hz1 hz2 rfl (.slice ac k cc) k _ (by rfl) hownN ⟨y1.heap.size, 0, none⟩ 1 1 [.int .i64 x] (by rfl) rfl (cell_one_drew y1 _ _) (one_cell _ _) (by unfold maxLen; omega) (by omega) (by have := hb1.z; simp; omega) ?_; intro v' w2 hown' hgrow; have hb3 := B4.grown hb2 hgrow (by intro e; have := (hown.lt _ e).1; omega); obtain ⟨a2, c2x, rfl, hcx, hmx, h0x⟩ := owns_open hown'; have hc3 := hb3.c2; have hf3 := hb3.f2; have hz3 := hb3.z))
      all_goals go_wp2
      all_goals exact ⟨⟨k + 1, _, by omega, by go_num, RkF.push HR.out (drew_below hy1) hgrow hown' HX.out⟩, by simp [intOf]; omega⟩
    · have hk45 : k = 45 := by omega
      have HK := hid hk45
      have hG0 : RkG w W1 s W1.heap.size (1 + G1) G2 (.slice ac k cc) (.slice none 0 0) 0 xs (vhF xs) := by
        refine ⟨HR.out.res, HR.out.box, World.ownsRow_nil _ _ _ _, ?_, HR.out.bl, HR.out.z, HR.out.box.z⟩
        have h := RwM.of_rwf (RwF.of_owns HR.out.own)
        rw [show (tab k fun j => ((gv xs (21 + 5 * j) 5 : Nat) : Int)) = vhF xs by rw [hk45]; rfl] at h
        exact h
      have HG0 := hid hG0
      have hz0' : W1.heap.size ≤ W1.heap.size := Nat.le_refl _
      clear hG0 HR hcc hmc h0c hk45 hk
      go_wp2
      generalize hS1e : W1.heap.size = S1 at HG0 hz0'
      go_loopw [6] (fun p wr => ∃ (m : Nat) (v : Value), m ≤ 16 ∧ p = .int .i64 m ∧ Hid (RkG w wr s S1 (1 + G1) G2 (.slice ac k cc) v m xs (vhF xs)) ∧ S1 ≤ wr.heap.size) (fun p _ => 16 - (intOf p).toNat)
      case atStart => exact ⟨0, _, by omega, rfl, HG0, by rw [hS1e]; exact Nat.le_refl _⟩
      case round =>
        clear HG0 hz0' hlt hS1e
        obtain ⟨m, v, hm, rfl, HG, hzz⟩ := hrel
        obtain ⟨W2, rfl⟩ : ∃ x, x = wr := ⟨wr, rfl⟩
        obtain ⟨a3, cc3, rfl, hcc, hmc, h0c⟩ := owns_open HG.out.own
        by_cases hlt : m < 16
        · obtain ⟨K5, hK5⟩ : ∃ K5 : Nat, 5 * m = K5 := ⟨_, rfl⟩
          obtain ⟨P, hP⟩ : ∃ P : Nat, 246 + 5 * m = P := ⟨_, rfl⟩
          have e5 : IntKind.i64.wrap (5 * (m : Int)) = (K5 : Int) := by rw [wraps_i64 _ (by omega) (by omega)]; omega
          have e6 : IntKind.i64.wrap (246 + (K5 : Int)) = (P : Int) := by rw [wraps_i64 _ (by omega) (by omega)]; omega
          have hp := fun w' hb => hnum P 5 w' hb (by omega)
          have HX : Hid (((gv xs (246 + 5 * m) 5 : Nat) : Int) = ((gv xs P 5 : Nat) : Int)) := by rw [hP]; rfl
          generalize ((gv xs P 5 : Nat) : Int) = x at *
          clear hP hK5
          have hown := HG.out.own
          have hbx := HG.out.box
          have hbl := HG.out.bl
          have hcl := hbx.c3
          have hfl := hbx.f3
          have i1 : (0 : Int) ≤ (m : Int) := by omega
          have i2 : (m : Int) < 16 := by omega
          have hss := hbx.z
          have hS1 : S1 ≤ W2.heap.size := hzz
          go_wp2
          go_region_law (first | (go_simp; go_at_call 33; refine (hp _ (by first | exact hbl.drew | exact hbl)).mono ?_; rintro e y1 ⟨rfl, hy1⟩; have hb1 := hbx.below (drew_below hy1); have hb2 := hb1.below (below1 y1 (.cells #[.int .i64 x] 3)); have hc1 := hb1.c3; have hc2 := hb2.c3; have hownN := owns_new (owns_below hown (drew_below hy1)) (.cells #[.int .i64 x] 3)) | (refine step_append_own (by rfl) (.tmp 52) (.tmp 58) 22 (by rfl) S1 3 i0 (.int .i64 0) 8 Try.underlying22 hi hz0 hz1 hz2 rfl (.slice a3 m cc3) m _ (by rfl) hownN ⟨y1.heap.size, 0, none⟩ 1 1 [.int .i64 x] (by rfl) rfl (cell_one_drew y1 _ _) (one_cell _ _) (by unfold maxLen; omega) (by omega) (by have := hy1.size; simp at this; simp; omega) ?_; intro v' w2 hown' hgrow; have hb3 := B4.grown hb2 hgrow (by intro e; have := (hown.lt _ e).1; have := HG.out.z2; omega); obtain ⟨a2, c2x, rfl, hcx, hmx, h0x⟩ := owns_open hown'; have hc3 := hb3.c3; have hf3 := hb3.f3; have hz3 := hb3.z))
          all_goals go_wp2
          all_goals exact ⟨⟨m + 1, _, by omega, by go_num, RkG.push HG.out (drew_below hy1) hgrow hown' HX.out, by (have e1 := hgrow.size; have e2 := hy1.size; simp at e1 e2; simp [World.setCell]; omega)⟩, by simp [intOf]; omega⟩
        · have hm16 : m = 16 := by omega
          have HM := hid hm16
          have HRF := hid HG.out.row
          have HRR : Hid (RwM S1 W2.heap.size .i64 W2 (.slice a3 m cc3) (vhR xs)) := by
            have h := RwM.of_rwf (RwF.of_owns HG.out.own)
            rw [show (tab m fun j => ((gv xs (246 + 5 * j) 5 : Nat) : Int)) = vhR xs by rw [hm16]; rfl] at h
            exact h
          have HLF : Hid ((vhF xs).length = k) := by unfold Hid; rw [HK.out]; exact tab_len _ _
          have HLR : Hid ((vhR xs).length = m) := by unfold Hid; rw [HM.out]; exact tab_len _ _
          have p3 := fun w' hb => hnum 326 2 w' hb (by omega)
          have pr := fun w' h => rvright_any (1 + G1) G2 ac k cc (vhF xs) a3 m cc3 (vhR xs) w' h
          rw [show vhRight (1 + G1) G2 (vhF xs) (vhR xs) = vhIn xs by unfold vhIn; rw [HC.out, HQ.out]] at pr
          have HBAD : Hid (vhOk xs = false → ∀ w', Below w.heap.size w w' → RdPost xs w (.returned (.tuple #[.agg #[.int .i64 0, .int .i64 0, .slice none 0 0, .slice none 0 0], .int .i64 2])) w') := fun hok w' h => rd_bad 2 hok (by unfold vhE; rw [if_neg (by omega), hok]; rfl) h
          clear hcc hmc h0c hm16 hm
          by_cases hg3 : gv xs 326 2 = 0
          case neg =>
            have hne : (((gv xs 326 2 : Nat) : Int) != 0) = true := by simp; omega
            have HBD := hid (HBAD.out (vhOk_not xs (fun h => hg3 h.2.2.1)))
            generalize ((gv xs 326 2 : Nat) : Int) = G3 at *
            clear HBAD hg3 pr
            go_wp2_with (first | (go_at_call 33; refine (p3 _ HG.out.bl).mono ?_; rintro e z1 ⟨rfl, hz1⟩; have hbx1 := HG.out.box.below hz1; have hax1 := HG.out.res.below hz1; have hbl1 := bthen HG.out.bl hz1 HG.out.bl.size; have hrf1 := HRF.out.below hz1; have hrr1 := HRR.out.below hz1; obtain ⟨x4z, x0, x1, x2, x3, y0, y1', y2', y3'⟩ := id hbx1; obtain ⟨c4z, c0, c1, c2, c3, f0, f1, f2, f3⟩ := id hax1))
            obtain ⟨gz', k0, k1, k2, k3, q0, q1', q2, q3⟩ := hax1.set (.int .i64 0) (.int .i64 0) (.slice none 0 0) (.slice none 0 0)
            refine bodyPost_ret (v := .tuple #[.agg #[.int .i64 0, .int .i64 0, .slice none 0 0, .slice none 0 0], .int .i64 2]) (by simp [results, Try.results20, go_sem, k0, k1, k2, k3, q0, q1', q2, q3]) rfl ?_
            exact HBD.out _ (bset4 hbl1 w.heap.size _ _ _ _ (Nat.le_refl _))
          have hne : (((gv xs 326 2 : Nat) : Int) != 0) = false := by simp; omega
          cases hin : vhIn xs
          · have HBD := hid (HBAD.out (vhOk_not xs (fun h => by rw [hin] at h; exact absurd h.2.2.2 (by decide))))
            rw [hin] at pr
            generalize ((gv xs 326 2 : Nat) : Int) = G3 at *
            clear HBAD hg3 hin
            go_wp2_with (first | (go_at_call 33; refine (p3 _ HG.out.bl).mono ?_; rintro e z1 ⟨rfl, hz1⟩; have hbx1 := HG.out.box.below hz1; have hax1 := HG.out.res.below hz1; have hbl1 := bthen HG.out.bl hz1 HG.out.bl.size; have hrf1 := HRF.out.below hz1; have hrr1 := HRR.out.below hz1; obtain ⟨x4z, x0, x1, x2, x3, y0, y1', y2', y3'⟩ := id hbx1; obtain ⟨c4z, c0, c1, c2, c3, f0, f1, f2, f3⟩ := id hax1) | (go_at_call 12; refine (pr _ ⟨HLF.out, hrf1.rw, HLR.out, hrr1.rw⟩).mono ?_; rintro e z2 ⟨rfl, hz2⟩; have hbx2 := hbx1.below hz2; have hax2 := hax1.below hz2; have hbl2 := bthen hbl1 hz2 hbl1.size; have hrf2 := hrf1.below hz2; have hrr2 := hrr1.below hz2; clear x0 x1 x2 x3 y0 y1' y2' y3' c0 c1 c2 c3 f0 f1 f2 f3; obtain ⟨x4z, x0, x1, x2, x3, y0, y1', y2', y3'⟩ := id hbx2; obtain ⟨c4z, c0, c1, c2, c3, f0, f1, f2, f3⟩ := id hax2))
            obtain ⟨gz', k0, k1, k2, k3, q0, q1', q2, q3⟩ := hax2.set (.int .i64 0) (.int .i64 0) (.slice none 0 0) (.slice none 0 0)
            refine bodyPost_ret (v := .tuple #[.agg #[.int .i64 0, .int .i64 0, .slice none 0 0, .slice none 0 0], .int .i64 2]) (by simp [results, Try.results20, go_sem, k0, k1, k2, k3, q0, q1', q2, q3]) rfl ?_
            exact HBD.out _ (bset4 hbl2 w.heap.size _ _ _ _ (Nat.le_refl _))
          · have hok : vhOk xs = true := decide_eq_true ⟨hn, HMG.out, hg3, hin⟩
            have HO : Hid (oC xs = 1 + G1 ∧ oQ xs = G2 ∧ oF xs = vhF xs ∧ oR xs = vhR xs ∧ vhE xs = 0) := by
              unfold Hid oC oQ oF oR
              rw [if_pos hok, if_pos hok, if_pos hok, if_pos hok]
              exact ⟨HC.out, HQ.out, rfl, rfl, by unfold vhE; rw [if_neg (by omega), if_pos hok]⟩
            rw [hin] at pr
            generalize ((gv xs 326 2 : Nat) : Int) = G3 at *
            clear HBAD hg3 hin hok
            go_wp2_with (first | (go_at_call 33; refine (p3 _ HG.out.bl).mono ?_; rintro e z1 ⟨rfl, hz1⟩; have hbx1 := HG.out.box.below hz1; have hax1 := HG.out.res.below hz1; have hbl1 := bthen HG.out.bl hz1 HG.out.bl.size; have hrf1 := HRF.out.below hz1; have hrr1 := HRR.out.below hz1; obtain ⟨x4z, x0, x1, x2, x3, y0, y1', y2', y3'⟩ := id hbx1; obtain ⟨c4z, c0, c1, c2, c3, f0, f1, f2, f3⟩ := id hax1) | (go_at_call 12; refine (pr _ ⟨HLF.out, hrf1.rw, HLR.out, hrr1.rw⟩).mono ?_; rintro e z2 ⟨rfl, hz2⟩; have hbx2 := hbx1.below hz2; have hax2 := hax1.below hz2; have hbl2 := bthen hbl1 hz2 hbl1.size; have hrf2 := hrf1.below hz2; have hrr2 := hrr1.below hz2; clear x0 x1 x2 x3 y0 y1' y2' y3' c0 c1 c2 c3 f0 f1 f2 f3; obtain ⟨x4z, x0, x1, x2, x3, y0, y1', y2', y3'⟩ := id hbx2; obtain ⟨c4z, c0, c1, c2, c3, f0, f1, f2, f3⟩ := id hax2))
            obtain ⟨gz', k0, k1, k2, k3, q0, q1', q2, q3⟩ := hax2.set (.int .i64 (1 + G1)) (.int .i64 G2) (.slice ac k cc) (.slice a3 m cc3)
            refine bodyPost_ret (v := .tuple #[.agg #[.int .i64 (1 + G1), .int .i64 G2, .slice ac k cc, .slice a3 m cc3], .int .i64 0]) (by simp [results, Try.results20, go_sem, k0, k1, k2, k3, q0, q1', q2, q3]) rfl ?_
            obtain ⟨o1, o2, o3, o4, o5⟩ := HO.out
            unfold RdPost
            rw [o1, o2, o3, o4, o5]
            have hzs := HG.out.z
            have hzs2 := HG.out.z2
            refine ⟨ac, k, cc, a3, m, cc3, rfl, ?_, ?_, bset4 hbl2 w.heap.size _ _ _ _ (Nat.le_refl _)⟩
            · exact ((((hrf2.set _ _ _ (.inl (by omega))).set _ _ _ (.inl (by omega))).set _ _ _ (.inl (by omega))).set _ _ _ (.inl (by omega))).rwf (by omega)
            · exact ((((hrr2.set _ _ _ (.inl (by omega))).set _ _ _ (.inl (by omega))).set _ _ _ (.inl (by omega))).set _ _ _ (.inl (by omega))).rwf (by omega)
theorem rread_any (a : Option Addr) (n cap : Nat) (xs : List Int) (w : World) (hn : xs.length = n) (hv : Rw .u8 w (.slice a n cap) xs) (hx : Byts xs) : Calls Try.prog 20 #[.slice a n cap] w (RdPost xs w) := by
  by_cases h1 : n ≤ 40
  · exact rread_short a n cap xs w hn h1
  · by_cases h2 : n ≠ 41 ∨ gv xs 0 16 ≠ 22099
    · exact rread_bad a n cap xs w hn hv hx (by omega) h2
    · have h3 : n = 41 := by omega
      subst h3
      exact rread_in a cap xs w hn hv hx (by omega)
end Go.Proofs.Ytdgacbelpenmmaa
