/- The Go function of the statement PackFits returns true at every input, and leaves each argument as it read. No condition. -/
import Derived.Test.YtidppkbphkcmeaaZg
import Derived.Test.YtidppkbphkcmeaaZh
import Derived.ProofKit
import Derived.OpenShut
import Derived.ShutString
import Derived.ChangeOld
import Derived.Lib.SmallJoins
namespace Go.Proofs.Ytidppkbphkcmeaa.packFits
open Go.ChangeShapes Go.WideShapes Go.ChangeAt Go.RowKit Go.Joins
set_option linter.unusedVariables false
set_option linter.unusedSimpArgs false

theorem own : ownKnob Try.prog.godebug = none := by kernel_rfl
theorem laidOut : laidOutB Try.prog = true := by kernel_rfl

set_option maxRecDepth 10000 in
set_option maxHeartbeats 8000000 in
theorem walk (a0 : Int) (a1 : Int) (a3 : Bool) (a4 : Option Addr) (len4 cap4 : Nat) (z4 : List (List Int)) (a5 : Option Addr) (len5 cap5 : Nat) (z5 : List (List (List Int))) (a6 : Option Addr) (len6 cap6 : Nat) (z6 : List (List Int)) (w : World) (w0 : (Lit.int .i64 a0).wf = true) (w1 : (Lit.int .i64 a1).wf = true) (w4 : IsGrid w a4 len4 cap4 z4) (w5 : IsCube w a5 len5 cap5 z5) (w6 : IsGrid w a6 len6 cap6 z6) :
    Calls Try.prog 7 #[.int .i64 a0, .int .i64 a1, .agg #[.bool a3, .slice a4 len4 cap4, .slice a5 len5 cap5], .slice a6 len6 cap6] w fun e w' => e = .returned (.bool true) ∧ Below w.heap.size w w' := by
  have hpk : PkAt w a4 len4 cap4 z4 a5 len5 cap5 z5 := ⟨w4.len, w4.2.2, w4.1.weak, w5.len, w5.2.1, w5.1.weak, w5.2.2.2, w5.2.2.1⟩
  have hW := below1 w (.cells #[.bool a3, .slice a4 len4 cap4, .slice a5 len5 cap5] 25)
  have hB0 := B3.new w (.bool a3) (.slice a4 len4 cap4) (.slice a5 len5 cap5) 25
  obtain ⟨ez, e0, e1, e2, f0, f1, f2⟩ := id hB0
  have hA := w6.len
  have hma := w6.2.2
  have hva := w6.1.weak
  have hgr := great_any a3 a4 len4 cap4 z4 a5 len5 cap5 z5 a6 len6 cap6 z6 _ (hpk.below hW) hA hma (hva.below hW)
  clear w0 w1 w4 w5 w6
  cases hg : greatP z4 z6 z5
  · rw [hg] at hgr
    have hsm := great_small hg
    have HSM := hid hsm
    clear hg hsm
    cases hok : (pkB a0 a1 z4 z5 && ahB a3 a1 z6)
    · have hwr := fun W (h : Below w.heap.size w W) => cwrite_no a0 a1 a3 a4 len4 cap4 z4 a5 len5 cap5 z5 a6 len6 cap6 z6 W (hpk.below h) hA hma (hva.below h) hok
      clear hok hpk
      have hB1 := hB0
      go_enter Try.func7, Try.ntmps7
      go_wp2_with (first | (go_at_call 8; refine hgr.mono ?_; rintro e w1 ⟨rfl, hb1⟩; have hbw1 := bthen' hW hb1; clear ez e0 e1 e2 f0 f1 f2; obtain ⟨ez, e0, e1, e2, f0, f1, f2⟩ := id (hB1.below hb1)) | (go_at_call 13; refine (hwr _ hbw1).mono ?_; rintro e w2 ⟨rfl, hb2⟩) | (go_at_call 9; refine (knows_any _).mono ?_; rintro e wk ⟨rfl, hbk⟩))
      go_ret
      exact ⟨rfl, bthen' (bthen' hbw1 hb2) hbk⟩
    · rw [Bool.and_eq_true] at hok
      obtain ⟨hp, hah⟩ := hok
      obtain ⟨m, hm, hok⟩ := pk_iff.1 hp
      subst hm
      obtain ⟨N, hN⟩ : ∃ N : Nat, (N : Int) = a0 := ⟨a0.toNat, by have := rt_parts hok.rt; omega⟩
      subst hN
      have hl4 := hpk.lg
      have hl5 := hpk.ly
      have h4 := hok.lg
      have h5 := hok.ly
      obtain rfl : len4 = m := by omega
      obtain rfl : len5 = len4 := by omega
      have HOK := hid hok
      have HAH := hid hah
      have HPK := hid hpk
      have hNN := rt_parts hok.rt
      have hN1 : 11 ≤ N ∧ N ≤ 60 := by omega
      have hwr := fun W (h : Below w.heap.size w W) => cwrite_ok N len5 a3 a4 cap4 z4 a5 cap5 z5 a6 len6 cap6 z6 W (hpk.below h) hok hA hma (hva.below h) hah
      have hpl := (pkt_ok hok a3 z6).1
      have HVA := hid hva
      have HMA := hid hma
      have HA := hid hA
      clear hl4 hl5 h4 h5 hp hok hah hpk hNN hva hma hA
      have hlo := fun W (h : Below w.heap.size w W) => rlong_ok N len5 a3 a4 cap4 z4 a5 cap5 z5 a6 len6 cap6 z6 W (HPK.out.below h) HOK.out HA.out HMA.out (HVA.out.below h) (fun i => by
        by_cases hi : i < z6.length
        · have := (wide_no HSM.out.a).2 i hi; omega
        · rw [List.getD_eq_getElem?_getD, List.getElem?_eq_none (by omega)]; simp) HAH.out
      have hlen := HOK.out.long a3 z6
      have hMN : (EL a3 z4 z6 z5 len5).m + 4 ≤ N := by unfold EL; omega
      generalize (EL a3 z4 z6 z5 len5).m + 4 = M at *
      have hMN' : (M : Int) ≤ (N : Int) := by omega
      generalize pkt (EY a3 z4 z6 len5 z5 len5) N = pk at *
      have hB1 := hB0
      clear hlen
      go_enter Try.func7, Try.ntmps7
      go_wp2_with (first | (go_at_call 8; refine hgr.mono ?_; rintro e w1 ⟨rfl, hb1⟩; have hbw1 := bthen' hW hb1; clear ez e0 e1 e2 f0 f1 f2; obtain ⟨ez, e0, e1, e2, f0, f1, f2⟩ := id (hB1.below hb1)) | (go_at_call 13; refine (hwr _ hbw1).mono ?_; rintro e w2 ⟨g, rfl, hrw, hb2⟩; have hbw2 := bthen' hbw1 hb2; clear ez e0 e1 e2 f0 f1 f2; obtain ⟨ez, e0, e1, e2, f0, f1, f2⟩ := id ((hB1.below hb1).below hb2)) | (go_at_call 12; refine (as_any a3 (.slice a4 len5 cap4) (.slice a5 len5 cap5) ⟨_, _, _, rfl⟩ ⟨_, _, _, rfl⟩ _).mono ?_; rintro e w3 ⟨rfl, hb3⟩; have hbw3 := bthen' hbw2 hb3) | (go_at_call 19; refine (hlo _ hbw3).mono ?_; rintro e w4 ⟨rfl, hb4⟩; have hbw4 := bthen' hbw3 hb4) | (go_at_call 9; refine (knows_any _).mono ?_; rintro e wk ⟨rfl, hbk⟩))
      go_ret
      exact ⟨rfl, bthen' hbw4 hbk⟩
  · rw [hg] at hgr
    clear hg hpk hB0
    go_enter Try.func7, Try.ntmps7
    go_wp2_with (first | (go_at_call 8; refine hgr.mono ?_; rintro e w1 ⟨rfl, hb1⟩) | (go_at_call 9; refine (knows_any _).mono ?_; rintro e wk ⟨rfl, hbk⟩))
    go_ret
    exact ⟨rfl, bthen' (bthen' hW hb1) hbk⟩


set_option maxRecDepth 100000 in
theorem lifted (os : Os) (started : os.Started) (H : Type) (enc : TypeId × Value → H) :
    ReturnsInHanded {} Try.checked os 7 .any (Rows.packFitsSpec.pre6 enc Try.prog Try.f7 Rows.packFitsRow.domain false) (Rows.packFitsSpec.post enc Try.prog Try.f7 false true false false) := by
  refine returnsInHanded_of_change (C := Try.checked) own started (by kernel_rfl) Try.func7
    (ChangeSpec.witness6 (enc := enc) (C := Try.checked) false ⟨#[], #[.int .i64 0, .int .i64 0, .agg #[.bool false, .slice none 0 0, .slice none 0 0], .slice none 0 0], []⟩ 8 (by kernel_rfl) (by kernel_rfl) (by kernel_rfl) (by kernel_rfl)) ?_
  intro W base args ds gs before hval0 hW hcnd _
  have hval : ∀ (j : Nat) t v, Try.f7.params[j]? = some t → args[j]? = some v → Value.okWide Try.prog W .any base t v := hval0
  have hW' := hW
  obtain ⟨p, q, hA0, hV, rfl, hfz, hnd⟩ := hW
  have hA : DataW.TrodAll enc Try.prog W 0 (fun _ => true) true Try.f7.params.toList args.toList ds p := hA0
  rw [Try.params7] at hA hval
  obtain ⟨v0, vs0, d0, ds0, p0, q0, hargs, rfl, rfl, h0, r0⟩ := trodAll_cons hA
  obtain ⟨v1, vs1, d1, ds1, p1, q1, rfl, rfl, rfl, h1, r1⟩ := trodAll_cons r0
  obtain ⟨v2, vs2, d2, ds2, p2, q2, rfl, rfl, rfl, h2, r2⟩ := trodAll_cons r1
  obtain ⟨v3, vs3, d3, ds3, p3, q3, rfl, rfl, rfl, h3, r3⟩ := trodAll_cons r2
  obtain ⟨rfl, rfl, rfl⟩ := trodAll_nil r3
  obtain rfl : args = #[v0, v1, v2, v3] := by cases args; simp_all
  obtain ⟨rfl, rfl⟩ := trodVars_none hV
  obtain ⟨a0, rfl, rfl, rfl, w0⟩ := open_int Try.underlying3 (hval 0 3 v0 rfl rfl) h0
  obtain ⟨a1, rfl, rfl, rfl, w1⟩ := open_int Try.underlying3 (hval 1 3 v1 rfl rfl) h1
  have k2 := h2
  have lt2 : ∀ x ∈ p2, x.block < W.heap.size := by obtain ⟨m, hm⟩ := k2; exact DataW.trod_lt m _ _ _ hm
  obtain ⟨c20, c21, c22, y20, y21, y22, m2, rfl, hd2, hp2, hy20, hy21, hy22⟩ := open_agg3 Try.underlying25 (by kernel_rfl) (by kernel_rfl) (hval 2 25 v2 rfl rfl) h2
  clear hd2 hp2
  obtain ⟨a3, e3, _⟩ := DataW.trod_bool Try.underlying4 hy20
  simp only [List.cons.injEq, and_true] at e3
  subst e3
  obtain ⟨a4, len4, cap4, z4, e4, w4⟩ := grid_cell_of_trod Try.underlying22 Try.underlying46 Try.underlying3 (by kernel_rfl) (by kernel_rfl) hy21
  subst e4
  obtain ⟨a5, len5, cap5, z5, e5, w5⟩ := cube_cell_of_trod Try.underlying23 Try.underlying22 Try.underlying46 Try.underlying3 (by kernel_rfl) (by kernel_rfl) (by kernel_rfl) hy22
  subst e5
  have k3 := h3
  have lt3 : ∀ x ∈ p3, x.block < W.heap.size := by obtain ⟨m, hm⟩ := k3; exact DataW.trod_lt m _ _ _ hm
  obtain ⟨a6, len6, cap6, rfl⟩ := okWide_slice Try.underlying22 (hval 3 22 v3 rfl rfl)
  obtain ⟨z6, w6⟩ : ∃ zs, IsGrid W a6 len6 cap6 zs := by
    obtain ⟨fuel, hf⟩ := h3
    exact grid_of_trod Try.underlying22 Try.underlying46 Try.underlying3 (by kernel_rfl) (by kernel_rfl) (show DataW.trod enc Try.prog W 0 (fun _ => true) true fuel 22 [.slice a6 len6 cap6] = _ from hf)
  clear hA0 hval0
  refine (walk a0 a1 a3 a4 len4 cap4 z4 a5 len5 cap5 z5 a6 len6 cap6 z6 W w0 w1 w4 w5 w6).mono fun e W' ⟨he, bel⟩ => ?_
  subst he
  exact ⟨_, rfl, _, _, _, [], _, [], hW', trodAll_mk1 (shut_bool Try.underlying4 _), (trodAll_cons_mk (shut_int Try.underlying3 w0) (trodAll_cons_mk (shut_int Try.underlying3 w1) (trodAll_cons_mk (Below.trod laidOut (by kernel_rfl) (of_decide_eq_true (by kernel_rfl)) k2 bel lt2) (trodAll_cons_mk (Below.trod laidOut (by kernel_rfl) (of_decide_eq_true (by kernel_rfl)) k3 bel lt3) trodAll_mk0)))), rfl, bel.frame _, fun h => by cases h⟩

theorem over : Rows.packFitsRow.holds Try.pinned (OpenSpec.ofChange Rows.packFitsSpec) :=
  OpenClaim.holds_of_wide 7 Try.f7 rfl rfl rfl rfl rfl rfl rfl ⟨rfl, rfl, rfl, rfl, rfl⟩ rfl rfl rfl rfl rfl (by kernel_rfl) Try.func7 (by kernel_rfl)
    (of_decide_eq_true (by kernel_rfl)) (by unfold Func.isWrapper; first | (rw [if_pos (by decide +kernel)]; kernel_rfl) | (rw [if_neg (by decide +kernel)]; exact ⟨rfl, rfl⟩))
    (fun os started H enc _ => lifted os started H enc)

theorem proved : Rows.PackFitsSaid := over
#print axioms proved
end Go.Proofs.Ytidppkbphkcmeaa.packFits
