/- The Go function of the statement PackAlone returns true at every input, and leaves each argument as it read. No condition. -/
import Derived.Test.YtidppkbphkcmeaaZg
import Derived.ProofKit
import Derived.OpenShut
import Derived.ShutString
import Derived.ChangeOld
import Derived.Lib.SmallJoins
namespace Go.Proofs.Ytidppkbphkcmeaa.packAlone
open Go.ChangeShapes Go.WideShapes Go.ChangeAt Go.RowKit Go.Joins
set_option linter.unusedVariables false
set_option linter.unusedSimpArgs false

theorem own : ownKnob Try.prog.godebug = none := by kernel_rfl
theorem laidOut : laidOutB Try.prog = true := by kernel_rfl

theorem EY_alone (G A A' : List (List Int)) (c : Nat) (Y : List (List (List Int))) (k : Nat) : EY true G A c Y k = EY true G A' c Y k := by unfold EY; rw [cG_alone G A A']
set_option maxRecDepth 10000 in
set_option maxHeartbeats 8000000 in
theorem walk (a0 : Int) (a1 : Int) (a3 : Bool) (a4 : Option Addr) (len4 cap4 : Nat) (z4 : List (List Int)) (a5 : Option Addr) (len5 cap5 : Nat) (z5 : List (List (List Int))) (a6 : Option Addr) (len6 cap6 : Nat) (z6 : List (List Int)) (a7 : Option Addr) (len7 cap7 : Nat) (z7 : List (List Int)) (w : World) (w0 : (Lit.int .i64 a0).wf = true) (w1 : (Lit.int .i64 a1).wf = true) (w4 : IsGrid w a4 len4 cap4 z4) (w5 : IsCube w a5 len5 cap5 z5) (w6 : IsGrid w a6 len6 cap6 z6) (w7 : IsGrid w a7 len7 cap7 z7) :
    Calls Try.prog 6 #[.int .i64 a0, .int .i64 a1, .agg #[.bool a3, .slice a4 len4 cap4, .slice a5 len5 cap5], .slice a6 len6 cap6, .slice a7 len7 cap7] w fun e w' => e = .returned (.bool true) ∧ Below w.heap.size w w' := by
  have hpk : PkAt w a4 len4 cap4 z4 a5 len5 cap5 z5 := ⟨w4.len, w4.2.2, w4.1.weak, w5.len, w5.2.1, w5.1.weak, w5.2.2.2, w5.2.2.1⟩
  have hW := below1 w (.cells #[.bool a3, .slice a4 len4 cap4, .slice a5 len5 cap5] 25)
  have hB0 := B3.new w (.bool a3) (.slice a4 len4 cap4) (.slice a5 len5 cap5) 25
  obtain ⟨ez, e0, e1, e2, f0, f1, f2⟩ := id hB0
  have hA := w6.len
  have hma := w6.2.2
  have hva := w6.1.weak
  have hA7 := w7.len
  have hma7 := w7.2.2
  have hva7 := w7.1.weak
  have hgr := great_any a3 a4 len4 cap4 z4 a5 len5 cap5 z5 a6 len6 cap6 z6 _ (hpk.below hW) hA hma (hva.below hW)
  have hwd := fun W (h : Below w.heap.size w W) => wide_any a7 len7 cap7 z7 W hA7 hma7 (hva7.below h)
  clear w0 w1 w4 w5 w6 w7
  cases hg : greatP z4 z6 z5
  · rw [hg] at hgr
    clear hg
    cases hw7 : wideB z7
    · rw [hw7] at hwd
      clear hw7
      have hB1 := hB0
      cases hp : pkB a0 a1 z4 z5
      · have hwr1 := fun W (h : Below w.heap.size w W) => cwrite_no a0 a1 true a4 len4 cap4 z4 a5 len5 cap5 z5 a6 len6 cap6 z6 W (hpk.below h) hA hma (hva.below h) (by rw [hp]; rfl)
        have hwr2 := fun W (h : Below w.heap.size w W) => cwrite_no a0 a1 true a4 len4 cap4 z4 a5 len5 cap5 z5 a7 len7 cap7 z7 W (hpk.below h) hA7 hma7 (hva7.below h) (by rw [hp]; rfl)
        have hs : ((strOfNums []).toList == (strOfNums []).toList) = true := by simp
        clear hp hpk
        go_enter Try.func6, Try.ntmps6
        go_upto_region 6 with (first | (go_at_call 8; refine hgr.mono ?_; rintro e w1 ⟨rfl, hb1⟩; have hbw1 := bthen' hW hb1; have hB2 := hB1.below hb1; clear ez e0 e1 e2 f0 f1 f2; obtain ⟨ez, e0, e1, e2, f0, f1, f2⟩ := id hB2; have hbs := bset1 hbw1 w.heap.size 0 (.bool true) (Nat.le_refl _); have hB3 := hB2.set0 (.bool true)) | (go_at_call 16; refine (hwd _ hbw1).mono ?_; rintro e w9 ⟨rfl, h9⟩; have h9 := h9.symm; subst h9) | (go_at_call_of 13 (Value.slice a6 len6 cap6); refine (hwr1 _ hbs).mono ?_; rintro e w2 ⟨rfl, hb2⟩; have hbw2 := bthen' hbs hb2; clear ez e0 e1 e2 f0 f1 f2; obtain ⟨ez, e0, e1, e2, f0, f1, f2⟩ := id (hB3.below hb2)) | (go_at_call_of 13 (Value.slice a7 len7 cap7); refine (hwr2 _ hbw2).mono ?_; rintro e w3 ⟨rfl, hb3⟩; have hbw3 := bthen' hbw2 hb3))
        have c1 := conv_rw (P := Try.prog) (show Rw .u8 w3 (.slice none 0 0) [] from ⟨none, 0, rfl, .inl rfl⟩) 32 9 5 Try.underlying32 Try.underlying5 Try.underlying9
        go_wp2_with (go_at_call 9; refine (knows_any _).mono ?_; rintro e wk ⟨rfl, hbk⟩)
        go_ret
        exact ⟨rfl, bthen' hbw3 hbk⟩
      · obtain ⟨m, hm, hok⟩ := pk_iff.1 hp
        subst hm
        obtain ⟨N, hN⟩ : ∃ N : Nat, (N : Int) = a0 := ⟨a0.toNat, by have := rt_parts hok.rt; omega⟩
        subst hN
        have hl4 := hpk.lg
        have hl5 := hpk.ly
        have h4 := hok.lg
        have h5 := hok.ly
        obtain rfl : len4 = m := by omega
        obtain rfl : len5 = len4 := by omega
        have hwr1 := fun W (h : Below w.heap.size w W) => cwrite_ok N len5 true a4 cap4 z4 a5 cap5 z5 a6 len6 cap6 z6 W (hpk.below h) hok hA hma (hva.below h) rfl
        have hwr2 := fun W (h : Below w.heap.size w W) => cwrite_ok N len5 true a4 cap4 z4 a5 cap5 z5 a7 len7 cap7 z7 W (hpk.below h) hok hA7 hma7 (hva7.below h) rfl
        rw [EY_alone z4 z7 z6] at hwr2
        have hrd1 := fun g W (h : Below w.heap.size w W) (hr : Rw .u8 W (.slice (some ⟨g, 0, none⟩) N N) (pkt (EY true z4 z6 len5 z5 len5) N)) => cread_back N len5 (some ⟨g, 0, none⟩) N true z4 z5 z6 z6 a6 len6 cap6 W hok rfl rfl hr hA hma (hva.below h)
        have hrd2 := fun g W (h : Below w.heap.size w W) (hr : Rw .u8 W (.slice (some ⟨g, 0, none⟩) N N) (pkt (EY true z4 z6 len5 z5 len5) N)) => cread_back N len5 (some ⟨g, 0, none⟩) N true z4 z5 z7 z6 a7 len7 cap7 W hok rfl (EY_alone _ _ _ _ _ _) hr hA7 hma7 (hva7.below h)
        have HFEW := hid (few_of hok)
        have hNN := rt_parts hok.rt
        have hN1 : 11 ≤ N ∧ N ≤ 60 := by omega
        clear hp hok hpk hl4 hl5 h4 h5 hNN
        generalize pkt (EY true z4 z6 len5 z5 len5) N = pk at *
        have hs : ((strOfNums pk).toList == (strOfNums pk).toList) = true := by simp
        go_enter Try.func6, Try.ntmps6
        go_upto_region 6 with (first | (go_at_call 8; refine hgr.mono ?_; rintro e w1 ⟨rfl, hb1⟩; have hbw1 := bthen' hW hb1; have hB2 := hB1.below hb1; clear ez e0 e1 e2 f0 f1 f2; obtain ⟨ez, e0, e1, e2, f0, f1, f2⟩ := id hB2; have hbs := bset1 hbw1 w.heap.size 0 (.bool true) (Nat.le_refl _); have hB3 := hB2.set0 (.bool true)) | (go_at_call 16; refine (hwd _ hbw1).mono ?_; rintro e w9 ⟨rfl, h9⟩; have h9 := h9.symm; subst h9) | (go_at_call_of 13 (Value.slice a6 len6 cap6); refine (hwr1 _ hbs).mono ?_; rintro e w2 ⟨g1, rfl, hr1, hb2⟩; have hbw2 := bthen' hbs hb2; clear ez e0 e1 e2 f0 f1 f2; obtain ⟨ez, e0, e1, e2, f0, f1, f2⟩ := id (hB3.below hb2)) | (go_at_call_of 13 (Value.slice a7 len7 cap7); refine (hwr2 _ hbw2).mono ?_; rintro e w3 ⟨g2, rfl, hr2, hb3⟩; have hbw3 := bthen' hbw2 hb3; have hr1' := hr1.rw.below hb3))
        have c1 := conv_rw (P := Try.prog) hr1' 32 9 5 Try.underlying32 Try.underlying5 Try.underlying9
        have c2 := conv_rw (P := Try.prog) hr2.rw 32 9 5 Try.underlying32 Try.underlying5 Try.underlying9
        have hq1 := hrd1 g1 w3 hbw3 hr1'
        have HR1 := hid hr1'
        clear hr1' hr2 hr1
        go_upto_region 11 with (go_at_call 14; refine hq1.mono ?_; rintro e w4 ⟨gG, gY, rfl, hgg, hyy, hb4⟩)
        have hx4 := below1 w4 (.cells #[.bool true, .slice (some ⟨gG, 0, none⟩) len5 len5, .slice (some ⟨gY, 0, none⟩) len5 len5] 25)
        have hBu := B3.new w4 (.bool true) (.slice (some ⟨gG, 0, none⟩) len5 len5) (.slice (some ⟨gY, 0, none⟩) len5 len5) 25
        have hg5 := hgg.below hx4
        have hy5 := hyy.below hx4
        have hr5 := (HR1.out.below hb4).below hx4
        have hbw5 := bthen' (bthen' hbw3 hb4) hx4
        generalize w4.alloc (.cells #[.bool true, .slice (some ⟨gG, 0, none⟩) len5 len5, .slice (some ⟨gY, 0, none⟩) len5 len5] 25) = W5 at *
        generalize w4.heap.size = bu at *
        have hq2 := hrd2 g1 W5 hbw5 hr5
        clear c1 c2
        go_upto_region 12 with (go_at_call 14; refine hq2.mono ?_; rintro e w6 ⟨gG2, gY2, rfl, hgg2, hyy2, hb6⟩)
        have hx6 := below1 w6 (.cells #[.bool true, .slice (some ⟨gG2, 0, none⟩) len5 len5, .slice (some ⟨gY2, 0, none⟩) len5 len5] 25)
        have hBv := B3.new w6 (.bool true) (.slice (some ⟨gG2, 0, none⟩) len5 len5) (.slice (some ⟨gY2, 0, none⟩) len5 len5) 25
        have hg7 := (hg5.below hb6).below hx6
        have hy7 := (hy5.below hb6).below hx6
        have hg8 := hgg2.below hx6
        have hy8 := hyy2.below hx6
        have hBu7 := (hBu.below hb6).below hx6
        have hbw7 := bthen' (bthen' hbw5 hb6) hx6
        generalize w6.alloc (.cells #[.bool true, .slice (some ⟨gG2, 0, none⟩) len5 len5, .slice (some ⟨gY2, 0, none⟩) len5 len5] 25) = W7 at *
        generalize w6.heap.size = bv at *
        have E0 := cellQ hBu7.c0
        have E1 := cellQ hBu7.c1
        have E2 := cellQ hBu7.c2
        have D0 := cellQ hBv.c0
        have D1 := cellQ hBv.c1
        have D2 := cellQ hBv.c2
        have H1 := callQ (w := W7) (fun w' _ => as_any true (.slice (some ⟨gG, 0, none⟩) len5 len5) (.slice (some ⟨gY, 0, none⟩) len5 len5) ⟨_, _, _, rfl⟩ ⟨_, _, _, rfl⟩ w')
        have H2 := callQ (w := W7) (fun w' _ => as_any true (.slice (some ⟨gG2, 0, none⟩) len5 len5) (.slice (some ⟨gY2, 0, none⟩) len5 len5) ⟨_, _, _, rfl⟩ ⟨_, _, _, rfl⟩ w')
        have H3 := callQ (w := W7) (fun w' h => sameP_yes true _ _ _ _ z4 z5 w' (hg7.below h) (hg8.below h) (hy7.below h) (hy8.below h) HFEW.out)
        have H4 := callQ (w := W7) (fun w' _ => knows_any w')
        have HB4 := hid hbw7
        clear hgg hyy hx4 hg5 hy5 hr5 hbw5 hq1 hq2 hrd1 hrd2 hwr1 hwr2 hgg2 hyy2 hx6 hg7 hy7 hg8 hy8 hBu7 hbw7 hBu hBv hb1 hb2 hb3 hb4 hb6 hbw1 hbw2 hbw3 hbs hB2 hB3 ez e0 e1 e2 f0 f1 f2 hB1 hB0 hgr hwd hva hma hA hva7 hma7 hA7 HR1 HFEW hs
        go_wp2
        refine wp_region_quiet_below (by kernel_rfl) (by kernel_rfl) ?_
        repeat (go_big_quiet_step (first | (go_at_call_of 12 (Value.agg #[.bool true, .slice (some ⟨gG, 0, none⟩) len5 len5, .slice (some ⟨gY, 0, none⟩) len5 len5]); exact H1 _ _) | (go_at_call_of 12 (Value.agg #[.bool true, .slice (some ⟨gG2, 0, none⟩) len5 len5, .slice (some ⟨gY2, 0, none⟩) len5 len5]); exact H2 _ _) | (go_at_call 15; exact H3 _ _) | (go_at_call 9; exact H4 _ _)))
        refine wpQuiet_nil ?_
        intro _ hw'
        obtain ⟨⟨dq, osq⟩, hw''⟩ := hw'
        subst hw''
        go_wp2
        go_ret
        exact ⟨rfl, bthen' HB4.out (below_regrown W7 dq osq)⟩
    · rw [hw7] at hwd
      clear hw7 hpk hB0 hva hma hA hva7 hma7 hA7
      go_enter Try.func6, Try.ntmps6
      go_wp2_with (first | (go_at_call 8; refine hgr.mono ?_; rintro e w1 ⟨rfl, hb1⟩; have hbw1 := bthen' hW hb1) | (go_at_call 16; refine (hwd _ hbw1).mono ?_; rintro e w9 ⟨rfl, h9⟩; have h9 := h9.symm; subst h9) | (go_at_call 9; refine (knows_any _).mono ?_; rintro e wk ⟨rfl, hbk⟩))
      go_ret
      exact ⟨rfl, bthen' hbw1 hbk⟩
  · rw [hg] at hgr
    clear hg hpk hB0
    go_enter Try.func6, Try.ntmps6
    go_wp2_with (first | (go_at_call 8; refine hgr.mono ?_; rintro e w1 ⟨rfl, hb1⟩) | (go_at_call 9; refine (knows_any _).mono ?_; rintro e wk ⟨rfl, hbk⟩))
    go_ret
    exact ⟨rfl, bthen' (bthen' hW hb1) hbk⟩


set_option maxRecDepth 100000 in
theorem lifted (os : Os) (started : os.Started) (H : Type) (enc : TypeId × Value → H) :
    ReturnsInHanded {} Try.checked os 6 .any (Rows.packAloneSpec.pre6 enc Try.prog Try.f6 Rows.packAloneRow.domain false) (Rows.packAloneSpec.post enc Try.prog Try.f6 false true false false) := by
  refine returnsInHanded_of_change (C := Try.checked) own started (by kernel_rfl) Try.func6
    (ChangeSpec.witness6 (enc := enc) (C := Try.checked) false ⟨#[], #[.int .i64 0, .int .i64 0, .agg #[.bool false, .slice none 0 0, .slice none 0 0], .slice none 0 0, .slice none 0 0], []⟩ 8 (by kernel_rfl) (by kernel_rfl) (by kernel_rfl) (by kernel_rfl)) ?_
  intro W base args ds gs before hval0 hW hcnd _
  have hval : ∀ (j : Nat) t v, Try.f6.params[j]? = some t → args[j]? = some v → Value.okWide Try.prog W .any base t v := hval0
  have hW' := hW
  obtain ⟨p, q, hA0, hV, rfl, hfz, hnd⟩ := hW
  have hA : DataW.TrodAll enc Try.prog W 0 (fun _ => true) true Try.f6.params.toList args.toList ds p := hA0
  rw [Try.params6] at hA hval
  obtain ⟨v0, vs0, d0, ds0, p0, q0, hargs, rfl, rfl, h0, r0⟩ := trodAll_cons hA
  obtain ⟨v1, vs1, d1, ds1, p1, q1, rfl, rfl, rfl, h1, r1⟩ := trodAll_cons r0
  obtain ⟨v2, vs2, d2, ds2, p2, q2, rfl, rfl, rfl, h2, r2⟩ := trodAll_cons r1
  obtain ⟨v3, vs3, d3, ds3, p3, q3, rfl, rfl, rfl, h3, r3⟩ := trodAll_cons r2
  obtain ⟨v4, vs4, d4, ds4, p4, q4, rfl, rfl, rfl, h4, r4⟩ := trodAll_cons r3
  obtain ⟨rfl, rfl, rfl⟩ := trodAll_nil r4
  obtain rfl : args = #[v0, v1, v2, v3, v4] := by cases args; simp_all
  obtain ⟨rfl, rfl⟩ := trodVars_none hV
  obtain ⟨a0, rfl, rfl, rfl, w0⟩ := open_int Try.underlying3 (hval 0 3 v0 rfl rfl) h0
  obtain ⟨a1, rfl, rfl, rfl, w1⟩ := open_int Try.underlying3 (hval 1 3 v1 rfl rfl) h1
  have k2 := h2
  have lt2 : ∀ x ∈ p2, x.block < W.heap.size := by obtain ⟨m, hm⟩ := k2; exact DataW.trod_lt m _ _ _ hm
  obtain ⟨c20, c21, c22, y20, y21, y22, m2, rfl, hd2, hp2, hy20, hy21, hy22⟩ := open_agg3 Try.underlying25 (by kernel_rfl) (by kernel_rfl) (hval 2 25 v2 rfl rfl) h2
  clear hd2 hp2
  obtain ⟨a3, e3, _⟩ := DataW.trod_bool Try.underlying4 hy20
  simp only [List.cons.injEq, and_true] at e3
  subst e3
  obtain ⟨a4, len4, cap4, z4, e4, w4⟩ := grid_cell_of_trod Try.underlying22 Try.underlying46 Try.underlying3 (by kernel_rfl) (by kernel_rfl) hy21
  subst e4
  obtain ⟨a5, len5, cap5, z5, e5, w5⟩ := cube_cell_of_trod Try.underlying23 Try.underlying22 Try.underlying46 Try.underlying3 (by kernel_rfl) (by kernel_rfl) (by kernel_rfl) hy22
  subst e5
  have k3 := h3
  have lt3 : ∀ x ∈ p3, x.block < W.heap.size := by obtain ⟨m, hm⟩ := k3; exact DataW.trod_lt m _ _ _ hm
  obtain ⟨a6, len6, cap6, rfl⟩ := okWide_slice Try.underlying22 (hval 3 22 v3 rfl rfl)
  obtain ⟨z6, w6⟩ : ∃ zs, IsGrid W a6 len6 cap6 zs := by
    obtain ⟨fuel, hf⟩ := h3
    exact grid_of_trod Try.underlying22 Try.underlying46 Try.underlying3 (by kernel_rfl) (by kernel_rfl) (show DataW.trod enc Try.prog W 0 (fun _ => true) true fuel 22 [.slice a6 len6 cap6] = _ from hf)
  have k4 := h4
  have lt4 : ∀ x ∈ p4, x.block < W.heap.size := by obtain ⟨m, hm⟩ := k4; exact DataW.trod_lt m _ _ _ hm
  obtain ⟨a7, len7, cap7, rfl⟩ := okWide_slice Try.underlying22 (hval 4 22 v4 rfl rfl)
  obtain ⟨z7, w7⟩ : ∃ zs, IsGrid W a7 len7 cap7 zs := by
    obtain ⟨fuel, hf⟩ := h4
    exact grid_of_trod Try.underlying22 Try.underlying46 Try.underlying3 (by kernel_rfl) (by kernel_rfl) (show DataW.trod enc Try.prog W 0 (fun _ => true) true fuel 22 [.slice a7 len7 cap7] = _ from hf)
  clear hA0 hval0
  refine (walk a0 a1 a3 a4 len4 cap4 z4 a5 len5 cap5 z5 a6 len6 cap6 z6 a7 len7 cap7 z7 W w0 w1 w4 w5 w6 w7).mono fun e W' ⟨he, bel⟩ => ?_
  subst he
  exact ⟨_, rfl, _, _, _, [], _, [], hW', trodAll_mk1 (shut_bool Try.underlying4 _), (trodAll_cons_mk (shut_int Try.underlying3 w0) (trodAll_cons_mk (shut_int Try.underlying3 w1) (trodAll_cons_mk (Below.trod laidOut (by kernel_rfl) (of_decide_eq_true (by kernel_rfl)) k2 bel lt2) (trodAll_cons_mk (Below.trod laidOut (by kernel_rfl) (of_decide_eq_true (by kernel_rfl)) k3 bel lt3) (trodAll_cons_mk (Below.trod laidOut (by kernel_rfl) (of_decide_eq_true (by kernel_rfl)) k4 bel lt4) trodAll_mk0))))), rfl, bel.frame _, fun h => by cases h⟩

theorem over : Rows.packAloneRow.holds Try.pinned (OpenSpec.ofChange Rows.packAloneSpec) :=
  OpenClaim.holds_of_wide 6 Try.f6 rfl rfl rfl rfl rfl rfl rfl ⟨rfl, rfl, rfl, rfl, rfl⟩ rfl rfl rfl rfl rfl (by kernel_rfl) Try.func6 (by kernel_rfl)
    (of_decide_eq_true (by kernel_rfl)) (by unfold Func.isWrapper; first | (rw [if_pos (by decide +kernel)]; kernel_rfl) | (rw [if_neg (by decide +kernel)]; exact ⟨rfl, rfl⟩))
    (fun os started H enc _ => lifted os started H enc)

theorem proved : Rows.PackAloneSaid := over
#print axioms proved
end Go.Proofs.Ytidppkbphkcmeaa.packAlone
