/- The Go function of the statement PackWrites returns true at every input, and leaves each argument as it read. No condition. -/
import Derived.Test.YtidppkbphkcmeaaGreatZg
import Derived.Test.YtidppkbphkcmeaaGreatZh
import Derived.ProofKit
import Derived.OpenShut
import Derived.ShutString
import Derived.ChangeOld
import Derived.Lib.SmallJoins
namespace Go.Proofs.YtidppkbphkcmeaaGreat.packWrites
open Go.ChangeShapes Go.WideShapes Go.ChangeAt Go.RowKit Go.Joins
set_option linter.unusedVariables false
set_option linter.unusedSimpArgs false

theorem own : ownKnob Tryz.prog.godebug = none := by kernel_rfl
theorem laidOut : laidOutB Tryz.prog = true := by kernel_rfl

set_option maxRecDepth 10000 in
set_option maxHeartbeats 8000000 in
theorem walk (a0 : Int) (a1 : Int) (a3 : Bool) (a4 : Option Addr) (len4 cap4 : Nat) (z4 : List (List Int)) (a5 : Option Addr) (len5 cap5 : Nat) (z5 : List (List (List Int))) (a6 : Option Addr) (len6 cap6 : Nat) (z6 : List (List Int)) (w : World) (w0 : (Lit.int .i64 a0).wf = true) (w1 : (Lit.int .i64 a1).wf = true) (w4 : IsGrid w a4 len4 cap4 z4) (w5 : IsCube w a5 len5 cap5 z5) (w6 : IsGrid w a6 len6 cap6 z6) :
    Calls Tryz.prog 3 #[.int .i64 a0, .int .i64 a1, .agg #[.bool a3, .slice a4 len4 cap4, .slice a5 len5 cap5], .slice a6 len6 cap6] w fun e w' => e = .returned (.bool true) ∧ Below w.heap.size w w' := by
  have hpk : PkAt w a4 len4 cap4 z4 a5 len5 cap5 z5 := ⟨w4.len, w4.2.2, w4.1.weak, w5.len, w5.2.1, w5.1.weak, w5.2.2.2, w5.2.2.1⟩
  have hW := below1 w (.cells #[.bool a3, .slice a4 len4 cap4, .slice a5 len5 cap5] 25)
  have hB0 := B3.new w (.bool a3) (.slice a4 len4 cap4) (.slice a5 len5 cap5) 25
  obtain ⟨ez, e0, e1, e2, f0, f1, f2⟩ := id hB0
  have hA := w6.len
  have hma := w6.2.2
  have hva := w6.1.weak
  have hgr := great_any a3 a4 len4 cap4 z4 a5 len5 cap5 z5 a6 len6 cap6 z6 _ (hpk.below hW) hA hma (hva.below hW)
  clear w0 w1 w4 w5 w6
  cases hg : greatP z4 z6 z5
  · rw [hg] at hgr
    have hsm := great_small hg
    clear hg
    have hlg := hpk.lg
    have hly := hpk.ly
    have hrr := fun W (h : Below w.heap.size w W) => rrightP_any a0 a1 a3 a4 len4 cap4 z4 a5 len5 cap5 z5 W (hpk.below h) (by have := (wide_no hsm.g).1; omega) (fun i hi => by have := (wide_no hsm.g).2 i (by omega); omega) (fun i j hi hj => by have := (wide_no (hsm.ys i (by omega))).2 j hj; omega)
    have hfa := fun W (h : Below w.heap.size w W) => rfair12_any a1 a6 len6 cap6 z6 W hA (by have := (wide_no hsm.a).1; omega) (fun i hi => by have := (wide_no hsm.a).2 i (by omega); omega) (hva.below h)
    have has : ∀ i, (z6.getD i []).length ≤ 100 := fun i => by
      by_cases hi : i < z6.length
      · have := (wide_no hsm.a).2 i hi; omega
      · rw [List.getD_eq_getElem?_getD, List.getElem?_eq_none (by omega)]; simp
    clear hsm hlg hly
    cases hp : pkB a0 a1 z4 z5
    · have hwr := fun W (h : Below w.heap.size w W) => cwrite_no a0 a1 a3 a4 len4 cap4 z4 a5 len5 cap5 z5 a6 len6 cap6 z6 W (hpk.below h) hA hma (hva.below h) (by rw [hp]; rfl)
      rw [hp] at hrr
      clear hp has hfa
      have hfa : ∀ W, Below w.heap.size w W → True := fun _ _ => trivial
      clear hpk hva hma hA
      have hB1 := hB0
      go_enter Tryz.func3, Tryz.ntmps3
      go_wp2_with (first | (go_at_call 5; refine hgr.mono ?_; rintro e w1 ⟨rfl, hb1⟩; have hbw1 := bthen' hW hb1; clear ez e0 e1 e2 f0 f1 f2; obtain ⟨ez, e0, e1, e2, f0, f1, f2⟩ := id (hB1.below hb1)) | (go_at_call 7; refine (hwr _ hbw1).mono ?_; rintro e w2 ⟨rfl, hb2⟩; have hbw2 := bthen' hbw1 hb2; clear ez e0 e1 e2 f0 f1 f2; obtain ⟨ez, e0, e1, e2, f0, f1, f2⟩ := id ((hB1.below hb1).below hb2)) | (go_at_call 9; refine (as_any a3 (.slice a4 len4 cap4) (.slice a5 len5 cap5) ⟨_, _, _, rfl⟩ ⟨_, _, _, rfl⟩ _).mono ?_; rintro e w3 ⟨rfl, hb3⟩; first | (have hbw5 := bthen' hbw4 hb3) | (have hbw3 := bthen' hbw2 hb3; have hbx := hb3)) | (go_at_call 8; refine (hrr _ hbw3).mono ?_; rintro e w4 ⟨rfl, hb4⟩; have hbw4 := bthen' hbw3 hb4; clear ez e0 e1 e2 f0 f1 f2; obtain ⟨ez, e0, e1, e2, f0, f1, f2⟩ := id ((((hB1.below hb1).below hb2).below hb3).below hb4)) | (go_at_call 10; refine (hfa _ hbw4).mono ?_; rintro e w9 ⟨rfl, h9⟩; have h9 := h9.symm; subst h9) | (go_at_call 6; refine (knows_any _).mono ?_; rintro e wk ⟨rfl, hbk⟩))
      go_ret
      exact ⟨rfl, bthen' hbw4 hbk⟩
    · rw [hp] at hrr
      cases hah : ahB a3 a1 z6
      · have hwr := fun W (h : Below w.heap.size w W) => cwrite_no a0 a1 a3 a4 len4 cap4 z4 a5 len5 cap5 z5 a6 len6 cap6 z6 W (hpk.below h) hA hma (hva.below h) (by rw [hp, hah]; rfl)
        obtain ⟨h3, hf⟩ : a3 = false ∧ fairG a1 z6 = false := by unfold ahB at hah; rw [Bool.or_eq_false_iff] at hah; exact hah
        subst h3
        rw [hf] at hfa
        clear hp hah hf has
        clear hpk hva hma hA
        have hB1 := hB0
        go_enter Tryz.func3, Tryz.ntmps3
        go_wp2_with (first | (go_at_call 5; refine hgr.mono ?_; rintro e w1 ⟨rfl, hb1⟩; have hbw1 := bthen' hW hb1; clear ez e0 e1 e2 f0 f1 f2; obtain ⟨ez, e0, e1, e2, f0, f1, f2⟩ := id (hB1.below hb1)) | (go_at_call 7; refine (hwr _ hbw1).mono ?_; rintro e w2 ⟨rfl, hb2⟩; have hbw2 := bthen' hbw1 hb2; clear ez e0 e1 e2 f0 f1 f2; obtain ⟨ez, e0, e1, e2, f0, f1, f2⟩ := id ((hB1.below hb1).below hb2)) | (go_at_call 9; refine (as_any false (.slice a4 len4 cap4) (.slice a5 len5 cap5) ⟨_, _, _, rfl⟩ ⟨_, _, _, rfl⟩ _).mono ?_; rintro e w3 ⟨rfl, hb3⟩; first | (have hbw5 := bthen' hbw4 hb3) | (have hbw3 := bthen' hbw2 hb3; have hbx := hb3)) | (go_at_call 8; refine (hrr _ hbw3).mono ?_; rintro e w4 ⟨rfl, hb4⟩; have hbw4 := bthen' hbw3 hb4; clear ez e0 e1 e2 f0 f1 f2; obtain ⟨ez, e0, e1, e2, f0, f1, f2⟩ := id ((((hB1.below hb1).below hb2).below hb3).below hb4)) | (go_at_call 10; refine (hfa _ hbw4).mono ?_; rintro e w9 ⟨rfl, h9⟩; have h9 := h9.symm; subst h9) | (go_at_call 6; refine (knows_any _).mono ?_; rintro e wk ⟨rfl, hbk⟩))
        go_ret
        exact ⟨rfl, bthen' hbw4 hbk⟩
      · obtain ⟨m, hm, hok⟩ := pk_iff.1 hp
        subst hm
        obtain ⟨N, hN⟩ : ∃ N : Nat, (N : Int) = a0 := ⟨a0.toNat, by have := rt_parts hok.rt; omega⟩
        subst hN
        have hl4 := hpk.lg
        have hl5 := hpk.ly
        have h4 := hok.lg
        have h5 := hok.ly
        obtain rfl : len4 = m := by omega
        obtain rfl : len5 = len4 := by omega
        have hwr := fun W (h : Below w.heap.size w W) => cwrite_ok N len5 a3 a4 cap4 z4 a5 cap5 z5 a6 len6 cap6 z6 W (hpk.below h) hok hA hma (hva.below h) hah
        have hrd := fun W (h : Below w.heap.size w W) => rwrite_ok N len5 a3 a4 cap4 z4 a5 cap5 z5 a6 len6 cap6 z6 W (hpk.below h) hok hA hma (hva.below h) has hah
        have hff : a3 = false → fairG len5 z6 = true := fun e => by subst e; unfold ahB at hah; simpa using hah
        clear hl4 hl5 h4 h5 hp hok hah hpk hva hma hA has
        generalize pkt (EY a3 z4 z6 len5 z5 len5) N = pk at *
        have hs : ((strOfNums pk).toList == (strOfNums pk).toList) = true := by simp
        cases a3
        · rw [hff rfl] at hfa
          clear hff
          have hB1 := hB0
          go_enter Tryz.func3, Tryz.ntmps3
          go_upto_region 6 with (first | (go_at_call 5; refine hgr.mono ?_; rintro e w1 ⟨rfl, hb1⟩; have hbw1 := bthen' hW hb1; clear ez e0 e1 e2 f0 f1 f2; obtain ⟨ez, e0, e1, e2, f0, f1, f2⟩ := id (hB1.below hb1)) | (go_at_call 7; refine (hwr _ hbw1).mono ?_; rintro e w2 ⟨g, rfl, hrw, hb2⟩; have hbw2 := bthen' hbw1 hb2; clear ez e0 e1 e2 f0 f1 f2; obtain ⟨ez, e0, e1, e2, f0, f1, f2⟩ := id ((hB1.below hb1).below hb2)) | (go_at_call 9; refine (as_any false (.slice a4 len5 cap4) (.slice a5 len5 cap5) ⟨_, _, _, rfl⟩ ⟨_, _, _, rfl⟩ _).mono ?_; rintro e w3 ⟨rfl, hb3⟩; first | (have hbw5 := bthen' hbw4 hb3) | (have hbw3 := bthen' hbw2 hb3; have hbx := hb3)) | (go_at_call 8; refine (hrr _ hbw3).mono ?_; rintro e w4 ⟨rfl, hb4⟩; have hbw4 := bthen' hbw3 hb4; clear ez e0 e1 e2 f0 f1 f2; obtain ⟨ez, e0, e1, e2, f0, f1, f2⟩ := id ((((hB1.below hb1).below hb2).below hb3).below hb4)) | (go_at_call 10; refine (hfa _ hbw4).mono ?_; rintro e w9 ⟨rfl, h9⟩; have h9 := h9.symm; subst h9) | (go_at_call 6; refine (knows_any _).mono ?_; rintro e wk ⟨rfl, hbk⟩))
          have hbd := bthen' hbw4 (Below.refl _ _).drew
          have r4 := ((hrw.rw.below hb3).below hb4).below (Below.refl _ _).drew
          have c4 := conv_rw (P := Tryz.prog) (r4) 28 9 5 Tryz.underlying28 Tryz.underlying5 Tryz.underlying9
          go_region_with (first | (go_at_call 9; refine (as_any false (.slice a4 len5 cap4) (.slice a5 len5 cap5) ⟨_, _, _, rfl⟩ ⟨_, _, _, rfl⟩ _).mono ?_; rintro e w5 ⟨rfl, hb5⟩; have hbw5 := bthen' hbd hb5; have r5 := r4.below hb5; have c5 := conv_rw (P := Tryz.prog) (r5) 28 9 5 Tryz.underlying28 Tryz.underlying5 Tryz.underlying9) | (go_at_call 11; refine (hrd _ hbw5).mono ?_; rintro e w6 ⟨v6, rfl, hr6, hb6⟩; have hbw6 := bthen' hbw5 hb6; have c6 := conv_rw (P := Tryz.prog) (hr6) 28 9 5 Tryz.underlying28 Tryz.underlying5 Tryz.underlying9; have c7 := conv_rw (P := Tryz.prog) (r5.below hb6) 28 9 5 Tryz.underlying28 Tryz.underlying5 Tryz.underlying9) | (go_at_call 6; refine (knows_any _).mono ?_; rintro e wk ⟨rfl, hbk⟩))
          all_goals go_wp2
          all_goals go_ret
          all_goals exact ⟨rfl, bthen' hbw6 hbk⟩
        · clear hff hfa
          have hfa : ∀ W, Below w.heap.size w W → True := fun _ _ => trivial
          have hB1 := hB0
          go_enter Tryz.func3, Tryz.ntmps3
          go_upto_region 6 with (first | (go_at_call 5; refine hgr.mono ?_; rintro e w1 ⟨rfl, hb1⟩; have hbw1 := bthen' hW hb1; clear ez e0 e1 e2 f0 f1 f2; obtain ⟨ez, e0, e1, e2, f0, f1, f2⟩ := id (hB1.below hb1)) | (go_at_call 7; refine (hwr _ hbw1).mono ?_; rintro e w2 ⟨g, rfl, hrw, hb2⟩; have hbw2 := bthen' hbw1 hb2; clear ez e0 e1 e2 f0 f1 f2; obtain ⟨ez, e0, e1, e2, f0, f1, f2⟩ := id ((hB1.below hb1).below hb2)) | (go_at_call 9; refine (as_any true (.slice a4 len5 cap4) (.slice a5 len5 cap5) ⟨_, _, _, rfl⟩ ⟨_, _, _, rfl⟩ _).mono ?_; rintro e w3 ⟨rfl, hb3⟩; first | (have hbw5 := bthen' hbw4 hb3) | (have hbw3 := bthen' hbw2 hb3; have hbx := hb3)) | (go_at_call 8; refine (hrr _ hbw3).mono ?_; rintro e w4 ⟨rfl, hb4⟩; have hbw4 := bthen' hbw3 hb4; clear ez e0 e1 e2 f0 f1 f2; obtain ⟨ez, e0, e1, e2, f0, f1, f2⟩ := id ((((hB1.below hb1).below hb2).below hb3).below hb4)) | (go_at_call 10; refine (hfa _ hbw4).mono ?_; rintro e w9 ⟨rfl, h9⟩; have h9 := h9.symm; subst h9) | (go_at_call 6; refine (knows_any _).mono ?_; rintro e wk ⟨rfl, hbk⟩))
          have hbd := bthen' hbw4 (Below.refl _ _).drew
          have r4 := ((hrw.rw.below hb3).below hb4).below (Below.refl _ _).drew
          have c4 := conv_rw (P := Tryz.prog) (r4) 28 9 5 Tryz.underlying28 Tryz.underlying5 Tryz.underlying9
          go_region_with (first | (go_at_call 9; refine (as_any true (.slice a4 len5 cap4) (.slice a5 len5 cap5) ⟨_, _, _, rfl⟩ ⟨_, _, _, rfl⟩ _).mono ?_; rintro e w5 ⟨rfl, hb5⟩; have hbw5 := bthen' hbd hb5; have r5 := r4.below hb5; have c5 := conv_rw (P := Tryz.prog) (r5) 28 9 5 Tryz.underlying28 Tryz.underlying5 Tryz.underlying9) | (go_at_call 11; refine (hrd _ hbw5).mono ?_; rintro e w6 ⟨v6, rfl, hr6, hb6⟩; have hbw6 := bthen' hbw5 hb6; have c6 := conv_rw (P := Tryz.prog) (hr6) 28 9 5 Tryz.underlying28 Tryz.underlying5 Tryz.underlying9; have c7 := conv_rw (P := Tryz.prog) (r5.below hb6) 28 9 5 Tryz.underlying28 Tryz.underlying5 Tryz.underlying9) | (go_at_call 6; refine (knows_any _).mono ?_; rintro e wk ⟨rfl, hbk⟩))
          all_goals go_wp2
          all_goals go_ret
          all_goals exact ⟨rfl, bthen' hbw6 hbk⟩
  · rw [hg] at hgr
    clear hg hpk hB0
    go_enter Tryz.func3, Tryz.ntmps3
    go_wp2_with (first | (go_at_call 5; refine hgr.mono ?_; rintro e w1 ⟨rfl, hb1⟩) | (go_at_call 6; refine (knows_any _).mono ?_; rintro e wk ⟨rfl, hbk⟩))
    go_ret
    exact ⟨rfl, bthen' (bthen' hW hb1) hbk⟩


set_option maxRecDepth 100000 in
theorem lifted (os : Os) (started : os.Started) (H : Type) (enc : TypeId × Value → H) :
    ReturnsInHanded {} Tryz.checked os 3 .any (Rows.packWritesSpec.pre6 enc Tryz.prog Tryz.f3 Rows.packWritesRow.domain false) (Rows.packWritesSpec.post enc Tryz.prog Tryz.f3 false true false false) := by
  refine returnsInHanded_of_change (C := Tryz.checked) own started (by kernel_rfl) Tryz.func3
    (ChangeSpec.witness6 (enc := enc) (C := Tryz.checked) false ⟨#[], #[.int .i64 0, .int .i64 0, .agg #[.bool false, .slice none 0 0, .slice none 0 0], .slice none 0 0], []⟩ 8 (by kernel_rfl) (by kernel_rfl) (by kernel_rfl) (by kernel_rfl)) ?_
  intro W base args ds gs before hval0 hW hcnd _
  have hval : ∀ (j : Nat) t v, Tryz.f3.params[j]? = some t → args[j]? = some v → Value.okWide Tryz.prog W .any base t v := hval0
  have hW' := hW
  obtain ⟨p, q, hA0, hV, rfl, hfz, hnd⟩ := hW
  have hA : DataW.TrodAll enc Tryz.prog W 0 (fun _ => true) true Tryz.f3.params.toList args.toList ds p := hA0
  rw [Tryz.params3] at hA hval
  obtain ⟨v0, vs0, d0, ds0, p0, q0, hargs, rfl, rfl, h0, r0⟩ := trodAll_cons hA
  obtain ⟨v1, vs1, d1, ds1, p1, q1, rfl, rfl, rfl, h1, r1⟩ := trodAll_cons r0
  obtain ⟨v2, vs2, d2, ds2, p2, q2, rfl, rfl, rfl, h2, r2⟩ := trodAll_cons r1
  obtain ⟨v3, vs3, d3, ds3, p3, q3, rfl, rfl, rfl, h3, r3⟩ := trodAll_cons r2
  obtain ⟨rfl, rfl, rfl⟩ := trodAll_nil r3
  obtain rfl : args = #[v0, v1, v2, v3] := by cases args; simp_all
  obtain ⟨rfl, rfl⟩ := trodVars_none hV
  obtain ⟨a0, rfl, rfl, rfl, w0⟩ := open_int Tryz.underlying3 (hval 0 3 v0 rfl rfl) h0
  obtain ⟨a1, rfl, rfl, rfl, w1⟩ := open_int Tryz.underlying3 (hval 1 3 v1 rfl rfl) h1
  have k2 := h2
  have lt2 : ∀ x ∈ p2, x.block < W.heap.size := by obtain ⟨m, hm⟩ := k2; exact DataW.trod_lt m _ _ _ hm
  obtain ⟨c20, c21, c22, y20, y21, y22, m2, rfl, hd2, hp2, hy20, hy21, hy22⟩ := open_agg3 Tryz.underlying25 (by kernel_rfl) (by kernel_rfl) (hval 2 25 v2 rfl rfl) h2
  clear hd2 hp2
  obtain ⟨a3, e3, _⟩ := DataW.trod_bool Tryz.underlying4 hy20
  simp only [List.cons.injEq, and_true] at e3
  subst e3
  obtain ⟨a4, len4, cap4, z4, e4, w4⟩ := grid_cell_of_trod Tryz.underlying22 Tryz.underlying45 Tryz.underlying3 (by kernel_rfl) (by kernel_rfl) hy21
  subst e4
  obtain ⟨a5, len5, cap5, z5, e5, w5⟩ := cube_cell_of_trod Tryz.underlying23 Tryz.underlying22 Tryz.underlying45 Tryz.underlying3 (by kernel_rfl) (by kernel_rfl) (by kernel_rfl) hy22
  subst e5
  have k3 := h3
  have lt3 : ∀ x ∈ p3, x.block < W.heap.size := by obtain ⟨m, hm⟩ := k3; exact DataW.trod_lt m _ _ _ hm
  obtain ⟨a6, len6, cap6, rfl⟩ := okWide_slice Tryz.underlying22 (hval 3 22 v3 rfl rfl)
  obtain ⟨z6, w6⟩ : ∃ zs, IsGrid W a6 len6 cap6 zs := by
    obtain ⟨fuel, hf⟩ := h3
    exact grid_of_trod Tryz.underlying22 Tryz.underlying45 Tryz.underlying3 (by kernel_rfl) (by kernel_rfl) (show DataW.trod enc Tryz.prog W 0 (fun _ => true) true fuel 22 [.slice a6 len6 cap6] = _ from hf)
  clear hA0 hval0
  refine (walk a0 a1 a3 a4 len4 cap4 z4 a5 len5 cap5 z5 a6 len6 cap6 z6 W w0 w1 w4 w5 w6).mono fun e W' ⟨he, bel⟩ => ?_
  subst he
  exact ⟨_, rfl, _, _, _, [], _, [], hW', trodAll_mk1 (shut_bool Tryz.underlying4 _), (trodAll_cons_mk (shut_int Tryz.underlying3 w0) (trodAll_cons_mk (shut_int Tryz.underlying3 w1) (trodAll_cons_mk (Below.trod laidOut (by kernel_rfl) (of_decide_eq_true (by kernel_rfl)) k2 bel lt2) (trodAll_cons_mk (Below.trod laidOut (by kernel_rfl) (of_decide_eq_true (by kernel_rfl)) k3 bel lt3) trodAll_mk0)))), rfl, bel.frame _, fun h => by cases h⟩

theorem over : Rows.packWritesRow.holds Tryz.pinned (OpenSpec.ofChange Rows.packWritesSpec) :=
  OpenClaim.holds_of_wide 3 Tryz.f3 rfl rfl rfl rfl rfl rfl rfl ⟨rfl, rfl, rfl, rfl, rfl⟩ rfl rfl rfl rfl rfl (by kernel_rfl) Tryz.func3 (by kernel_rfl)
    (of_decide_eq_true (by kernel_rfl)) (by unfold Func.isWrapper; first | (rw [if_pos (by decide +kernel)]; kernel_rfl) | (rw [if_neg (by decide +kernel)]; exact ⟨rfl, rfl⟩))
    (fun os started H enc _ => lifted os started H enc)

theorem proved : Rows.PackWritesSaid := over
#print axioms proved
end Go.Proofs.YtidppkbphkcmeaaGreat.packWrites
