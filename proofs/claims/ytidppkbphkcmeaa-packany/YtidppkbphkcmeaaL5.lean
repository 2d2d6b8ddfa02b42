/- The Go function of the statement PackAny returns true at every input, and leaves each argument as it read. No condition. -/
import Derived.Test.YtidppkbphkcmeaaZg
import Derived.ProofKit
import Derived.OpenShut
import Derived.ShutString
import Derived.ChangeOld
import Derived.Lib.SmallJoins
namespace Go.Proofs.Ytidppkbphkcmeaa.packAny
open Go.ChangeShapes Go.WideShapes Go.ChangeAt Go.RowKit Go.Joins
set_option linter.unusedVariables false
set_option linter.unusedSimpArgs false

theorem own : ownKnob Try.prog.godebug = none := by kernel_rfl
theorem laidOut : laidOutB Try.prog = true := by kernel_rfl

set_option maxRecDepth 10000 in
set_option maxHeartbeats 8000000 in
theorem walk (a0 : Int) (a1 : Int) (a2 : Option Addr) (len2 cap2 : Nat) (z2 : List Int) (a3 : Option Addr) (len3 cap3 : Nat) (z3 : List (List Int)) (w : World) (w0 : (Lit.int .i64 a0).wf = true) (w1 : (Lit.int .i64 a1).wf = true) (w2 : IsRow .u8 w a2 len2 cap2 z2) (w3 : IsGrid w a3 len3 cap3 z3) :
    Calls Try.prog 5 #[.int .i64 a0, .int .i64 a1, .slice a2 len2 cap2, .slice a3 len3 cap3] w fun e w' => e = .returned (.bool true) ∧ Below w.heap.size w w' := by
  obtain ⟨B, hBl, hBr, hby⟩ := row_rw w2
  have hA := w3.len
  have hma := w3.2.2
  have hva := w3.1.weak
  clear w0 w1 w2 w3
  have hr := fun W => rsright_any a0 a1 W
  have hwd := fun W (h : Below w.heap.size w W) => wide_any a3 len3 cap3 z3 W hA hma (hva.below h)
  by_cases g1 : (200 : Int) < (len2 : Int)
  · have hfa := trivial
    clear hr hwd hva hma hA hBr hby hBl
    go_enter Try.func5, Try.ntmps5
    go_wp2_with (go_at_call 9; refine (knows_any _).mono ?_; rintro e wk ⟨rfl, hbk⟩)
    go_ret
    exact ⟨rfl, hbk⟩
  have g1' : (len2 : Int) ≤ 200 := by omega
  clear g1
  cases hw : wideB z3
  rotate_left
  · have hfa := trivial
    rw [hw] at hwd
    clear hw hva hma hA hBr hby hBl
    go_enter Try.func5, Try.ntmps5
    go_wp2_with (first | (go_at_call 16; refine (hwd _ (Below.refl _ _)).mono ?_; rintro e w9 ⟨rfl, h9⟩; have h9 := h9.symm; subst h9) | (go_at_call 17; refine (hr _).mono ?_; rintro e w9 ⟨rfl, h9⟩; have h9 := h9.symm; subst h9) | (go_at_call 18; refine hfa.mono ?_; rintro e w9 ⟨rfl, h9⟩; have h9 := h9.symm; subst h9) | (go_at_call 9; refine (knows_any _).mono ?_; rintro e wk ⟨rfl, hbk⟩))
    go_ret
    exact ⟨rfl, hbk⟩
  obtain ⟨hz1, hz2⟩ := wide_no hw
  rw [hA] at hz1 hz2
  have hfa := rfair12_any a1 a3 len3 cap3 z3 w hA (by omega) (fun i hi => by have := hz2 i hi; omega) hva
  rw [hw] at hwd
  clear hw
  cases hrt : rtB a0 a1
  · rw [hrt] at hr
    clear hrt hva hma hA hBr hby hBl hfa hz1 hz2
    have hfa := trivial
    go_enter Try.func5, Try.ntmps5
    go_wp2_with (first | (go_at_call 16; refine (hwd _ (Below.refl _ _)).mono ?_; rintro e w9 ⟨rfl, h9⟩; have h9 := h9.symm; subst h9) | (go_at_call 17; refine (hr _).mono ?_; rintro e w9 ⟨rfl, h9⟩; have h9 := h9.symm; subst h9) | (go_at_call 18; refine hfa.mono ?_; rintro e w9 ⟨rfl, h9⟩; have h9 := h9.symm; subst h9) | (go_at_call 9; refine (knows_any _).mono ?_; rintro e wk ⟨rfl, hbk⟩))
    go_ret
    exact ⟨rfl, hbk⟩
  rw [hrt] at hr
  by_cases hl : (len2 : Int) = a0
  rotate_left
  · have hl' : ((len2 : Int) != a0) = true := by simp; exact hl
    clear hrt hva hma hA hBr hby hBl hfa hz1 hz2 hl
    have hfa := trivial
    go_enter Try.func5, Try.ntmps5
    go_wp2_with (first | (go_at_call 16; refine (hwd _ (Below.refl _ _)).mono ?_; rintro e w9 ⟨rfl, h9⟩; have h9 := h9.symm; subst h9) | (go_at_call 17; refine (hr _).mono ?_; rintro e w9 ⟨rfl, h9⟩; have h9 := h9.symm; subst h9) | (go_at_call 18; refine hfa.mono ?_; rintro e w9 ⟨rfl, h9⟩; have h9 := h9.symm; subst h9) | (go_at_call 9; refine (knows_any _).mono ?_; rintro e wk ⟨rfl, hbk⟩))
    go_ret
    exact ⟨rfl, hbk⟩
  subst hl
  cases hfg : fairG a1 z3
  · rw [hfg] at hfa
    clear hrt hva hma hA hBr hby hBl hz1 hz2 hfg
    go_enter Try.func5, Try.ntmps5
    go_wp2_with (first | (go_at_call 16; refine (hwd _ (Below.refl _ _)).mono ?_; rintro e w9 ⟨rfl, h9⟩; have h9 := h9.symm; subst h9) | (go_at_call 17; refine (hr _).mono ?_; rintro e w9 ⟨rfl, h9⟩; have h9 := h9.symm; subst h9) | (go_at_call 18; refine hfa.mono ?_; rintro e w9 ⟨rfl, h9⟩; have h9 := h9.symm; subst h9) | (go_at_call 9; refine (knows_any _).mono ?_; rintro e wk ⟨rfl, hbk⟩))
    go_ret
    exact ⟨rfl, hbk⟩
  rw [hfg] at hfa
  obtain ⟨c, hc⟩ : ∃ c : Nat, (c : Int) = a1 := ⟨a1.toNat, by have := rt_parts hrt; omega⟩
  subst hc
  have hah : ∀ i, ahB i c z3 = true := fun i => by unfold ahB; rw [hfg]; simp
  have hN := rt_parts hrt
  have hN1 : 11 ≤ len2 ∧ len2 ≤ 60 := by omega
  have hrd := cread_ok len2 c a2 cap2 B a3 len3 cap3 z3 w hrt hBl hby (by rw [hBl]; exact hBr) hA hma hva (hah _)
  unfold RdOk at hrd
  have HTK : Hid (∀ Y, TkY (dGs (fI (De.open B)) (dF (De.open B)) c) (kkG (rmI len2 c) (gL (fI (De.open B)) (dF (De.open B)) z3 c)) c Y → PkOk len2 c (gL (fI (De.open B)) (dF (De.open B)) z3 c) Y) := fun Y h => taken_ok hrt _ _ _ h
  have hahi := hah (fI (De.open B))
  generalize gL (fI (De.open B)) (dF (De.open B)) z3 c = G at *
  generalize (fun Y => TkY (dGs (fI (De.open B)) (dF (De.open B)) c) (kkG (rmI len2 c) G) c Y) = TK at *
  generalize fI (De.open B) = intra at *
  have hva0 := hva
  clear hrt hfg hah hN hby hBr hBl hz1 hz2
  go_enter Try.func5, Try.ntmps5
  go_upto_region 4 with (first | (go_at_call 16; refine (hwd _ (Below.refl _ _)).mono ?_; rintro e w9 ⟨rfl, h9⟩; have h9 := h9.symm; subst h9) | (go_at_call 17; refine (hr _).mono ?_; rintro e w9 ⟨rfl, h9⟩; have h9 := h9.symm; subst h9) | (go_at_call 18; refine hfa.mono ?_; rintro e w9 ⟨rfl, h9⟩; have h9 := h9.symm; subst h9) | (go_at_call 14; refine hrd.mono ?_; rintro e w1 ⟨gG, gY, Y, rfl, hgg, htk, hyy, hb1⟩))
  have hok := HTK.out Y htk
  have HOK := hid hok
  have hx := below1 w1 (.cells #[.bool intra, .slice (some ⟨gG, 0, none⟩) c c, .slice (some ⟨gY, 0, none⟩) c c] 25)
  have hpk := (pkat_of hok hgg hyy).below hx
  have hB2 := B3.new w1 (.bool intra) (.slice (some ⟨gG, 0, none⟩) c c) (.slice (some ⟨gY, 0, none⟩) c c) 25
  have hbw2 := bthen' hb1 hx
  generalize w1.alloc (.cells #[.bool intra, .slice (some ⟨gG, 0, none⟩) c c, .slice (some ⟨gY, 0, none⟩) c c] 25) = W2 at *
  generalize w1.heap.size = bp at *
  have hcr := cright_any len2 c intra (some ⟨gG, 0, none⟩) c c G (some ⟨gY, 0, none⟩) c c Y W2 hpk
  rw [pk_yes hok] at hcr
  have hc2 : c ≤ 2 := by have := rt_parts hok.rt; omega
  have hrr := fun W (h : Below W2.heap.size W2 W) => rrightP_any len2 c intra (some ⟨gG, 0, none⟩) c c G (some ⟨gY, 0, none⟩) c c Y W (hpk.below h) (by omega) (pk_rows hok).1 (pk_rows hok).2
  rw [pk_yes hok] at hrr
  have has := fun W => as_any intra (.slice (some ⟨gG, 0, none⟩) c c) (.slice (some ⟨gY, 0, none⟩) c c) ⟨_, _, _, rfl⟩ ⟨_, _, _, rfl⟩ W
  have hwr := fun W (h : Below W2.heap.size W2 W) => cwrite_ok len2 c intra (some ⟨gG, 0, none⟩) c G (some ⟨gY, 0, none⟩) c Y a3 len3 cap3 z3 W (hpk.below h) hok hA hma (hva0.below (bthen' hbw2 h)) hahi
  have hrd2 := fun g W (h : Below W2.heap.size W2 W) (hq : Rw .u8 W (.slice (some ⟨g, 0, none⟩) len2 len2) (pkt (EY intra G z3 c Y c) len2)) => cread_back len2 c (some ⟨g, 0, none⟩) len2 intra G Y z3 z3 a3 len3 cap3 W hok hahi rfl hq hA hma (hva0.below (bthen' hbw2 h))
  generalize pkt (EY intra G z3 c Y c) len2 = pk at *
  have HPK := hid hpk
  have HFEW := hid (few_of hok)
  obtain ⟨ez, e0, e1, e2, f0, f1, f2⟩ := id hB2
  clear hok hpk htk hrd HTK hgg hyy hx hva hva0 hma hA hahi hr hwd hfa
  go_upto_region 7 with (first | (go_at_call 10; refine hcr.mono ?_; rintro e w3 ⟨rfl, hb3⟩; clear ez e0 e1 e2 f0 f1 f2; obtain ⟨ez, e0, e1, e2, f0, f1, f2⟩ := id (hB2.below hb3)) | (go_at_call 12; refine (has _).mono ?_; rintro e w4 ⟨rfl, hb4⟩; have hb34 := bthen' hb3 hb4) | (go_at_call 11; refine (hrr _ hb34).mono ?_; rintro e w5 ⟨rfl, hb5⟩; have hb35 := bthen' hb34 hb5; clear ez e0 e1 e2 f0 f1 f2; obtain ⟨ez, e0, e1, e2, f0, f1, f2⟩ := id (hB2.below hb35)) | (go_at_call 13; refine (hwr _ hb35).mono ?_; rintro e w6 ⟨g, rfl, hrw, hb6⟩; have hb36 := bthen' hb35 hb6))
  have hrd3 := hrd2 g w6 hb36 hrw.rw
  go_upto_region 8 with (go_at_call 14; refine hrd3.mono ?_; rintro e w7 ⟨gG2, gY2, rfl, hgg2, hyy2, hb7⟩)
  have hx7 := below1 w7 (.cells #[.bool intra, .slice (some ⟨gG2, 0, none⟩) c c, .slice (some ⟨gY2, 0, none⟩) c c] 25)
  have hBv := B3.new w7 (.bool intra) (.slice (some ⟨gG2, 0, none⟩) c c) (.slice (some ⟨gY2, 0, none⟩) c c) 25
  have hg8 := hgg2.below hx7
  have hy8 := hyy2.below hx7
  have hb28 := bthen' (bthen' hb36 hb7) hx7
  have hB8 := hB2.below hb28
  have hp8 := HPK.out.below hb28
  have HBW := hid (bthen' hbw2 hb28)
  generalize w7.alloc (.cells #[.bool intra, .slice (some ⟨gG2, 0, none⟩) c c, .slice (some ⟨gY2, 0, none⟩) c c] 25) = W8 at *
  generalize w7.heap.size = bv at *
  have E0 := cellQ hB8.c0
  have E1 := cellQ hB8.c1
  have E2 := cellQ hB8.c2
  have D0 := cellQ hBv.c0
  have D1 := cellQ hBv.c1
  have D2 := cellQ hBv.c2
  have H1 := callQ (w := W8) (fun w' _ => has w')
  have H2 := callQ (w := W8) (fun w' _ => as_any intra (.slice (some ⟨gG2, 0, none⟩) c c) (.slice (some ⟨gY2, 0, none⟩) c c) ⟨_, _, _, rfl⟩ ⟨_, _, _, rfl⟩ w')
  have H3 := callQ (w := W8) (fun w' h => sameP_yes intra _ _ _ _ G Y w' (hp8.vg.below h) (hg8.below h) (hp8.vy.below h) (hy8.below h) HFEW.out)
  have H4 := callQ (w := W8) (fun w' _ => knows_any w')
  clear hrd3 hgg2 hyy2 hx7 hg8 hy8 hb28 hB8 hBv hp8 hb36 hb35 hb34 hb7 hb6 hb5 hb4 hb3 hrw hrd2 hwr has hrr hcr hB2 hbw2 hb1 ez e0 e1 e2 f0 f1 f2 HPK HFEW HOK
  go_wp2
  refine wp_region_quiet_below (by kernel_rfl) (by kernel_rfl) ?_
  repeat (go_big_quiet_step (first | (go_at_call_of 12 (Value.agg #[.bool intra, .slice (some ⟨gG, 0, none⟩) c c, .slice (some ⟨gY, 0, none⟩) c c]); exact H1 _ _) | (go_at_call_of 12 (Value.agg #[.bool intra, .slice (some ⟨gG2, 0, none⟩) c c, .slice (some ⟨gY2, 0, none⟩) c c]); exact H2 _ _) | (go_at_call 15; exact H3 _ _) | (go_at_call 9; exact H4 _ _)))
  refine wpQuiet_nil ?_
  intro _ hw'
  obtain ⟨⟨dq, osq⟩, hw''⟩ := hw'
  subst hw''
  go_wp2
  go_ret
  exact ⟨rfl, bthen' HBW.out (below_regrown W8 dq osq)⟩

set_option maxRecDepth 100000 in
theorem lifted (os : Os) (started : os.Started) (H : Type) (enc : TypeId × Value → H) :
    ReturnsInHanded {} Try.checked os 5 .any (Rows.packAnySpec.pre6 enc Try.prog Try.f5 Rows.packAnyRow.domain false) (Rows.packAnySpec.post enc Try.prog Try.f5 false true false false) := by
  refine returnsInHanded_of_change (C := Try.checked) own started (by kernel_rfl) Try.func5
    (ChangeSpec.witness6 (enc := enc) (C := Try.checked) false ⟨#[], #[.int .i64 0, .int .i64 0, .slice none 0 0, .slice none 0 0], []⟩ 8 (by kernel_rfl) (by kernel_rfl) (by kernel_rfl) (by kernel_rfl)) ?_
  intro W base args ds gs before hval0 hW hcnd _
  have hval : ∀ (j : Nat) t v, Try.f5.params[j]? = some t → args[j]? = some v → Value.okWide Try.prog W .any base t v := hval0
  have hW' := hW
  obtain ⟨p, q, hA0, hV, rfl, hfz, hnd⟩ := hW
  have hA : DataW.TrodAll enc Try.prog W 0 (fun _ => true) true Try.f5.params.toList args.toList ds p := hA0
  rw [Try.params5] at hA hval
  obtain ⟨v0, vs0, d0, ds0, p0, q0, hargs, rfl, rfl, h0, r0⟩ := trodAll_cons hA
  obtain ⟨v1, vs1, d1, ds1, p1, q1, rfl, rfl, rfl, h1, r1⟩ := trodAll_cons r0
  obtain ⟨v2, vs2, d2, ds2, p2, q2, rfl, rfl, rfl, h2, r2⟩ := trodAll_cons r1
  obtain ⟨v3, vs3, d3, ds3, p3, q3, rfl, rfl, rfl, h3, r3⟩ := trodAll_cons r2
  obtain ⟨rfl, rfl, rfl⟩ := trodAll_nil r3
  obtain rfl : args = #[v0, v1, v2, v3] := by cases args; simp_all
  obtain ⟨rfl, rfl⟩ := trodVars_none hV
  obtain ⟨a0, rfl, rfl, rfl, w0⟩ := open_int Try.underlying3 (hval 0 3 v0 rfl rfl) h0
  obtain ⟨a1, rfl, rfl, rfl, w1⟩ := open_int Try.underlying3 (hval 1 3 v1 rfl rfl) h1
  have k2 := h2
  have lt2 : ∀ x ∈ p2, x.block < W.heap.size := by obtain ⟨m, hm⟩ := k2; exact DataW.trod_lt m _ _ _ hm
  obtain ⟨a2, len2, cap2, rfl⟩ := okWide_slice Try.underlying32 (hval 2 32 v2 rfl rfl)
  obtain ⟨z2, w2⟩ : ∃ zs, IsRow .u8 W a2 len2 cap2 zs := by
    obtain ⟨fuel, hf⟩ := h2
    obtain ⟨a', l', c', zs, he, hr⟩ := ints_of_trod Try.underlying32 Try.underlying5 (by kernel_rfl) (show DataW.trod enc Try.prog W 0 (fun _ => true) true fuel 32 [.slice a2 len2 cap2] = _ from hf)
    simp only [Value.slice.injEq] at he
    obtain ⟨rfl, rfl, rfl⟩ := he
    exact ⟨zs, hr⟩
  have k3 := h3
  have lt3 : ∀ x ∈ p3, x.block < W.heap.size := by obtain ⟨m, hm⟩ := k3; exact DataW.trod_lt m _ _ _ hm
  obtain ⟨a3, len3, cap3, rfl⟩ := okWide_slice Try.underlying22 (hval 3 22 v3 rfl rfl)
  obtain ⟨z3, w3⟩ : ∃ zs, IsGrid W a3 len3 cap3 zs := by
    obtain ⟨fuel, hf⟩ := h3
    exact grid_of_trod Try.underlying22 Try.underlying46 Try.underlying3 (by kernel_rfl) (by kernel_rfl) (show DataW.trod enc Try.prog W 0 (fun _ => true) true fuel 22 [.slice a3 len3 cap3] = _ from hf)
  clear hA0 hval0
  refine (walk a0 a1 a2 len2 cap2 z2 a3 len3 cap3 z3 W w0 w1 w2 w3).mono fun e W' ⟨he, bel⟩ => ?_
  subst he
  exact ⟨_, rfl, _, _, _, [], _, [], hW', trodAll_mk1 (shut_bool Try.underlying4 _), (trodAll_cons_mk (shut_int Try.underlying3 w0) (trodAll_cons_mk (shut_int Try.underlying3 w1) (trodAll_cons_mk (Below.trod laidOut (by kernel_rfl) (of_decide_eq_true (by kernel_rfl)) k2 bel lt2) (trodAll_cons_mk (Below.trod laidOut (by kernel_rfl) (of_decide_eq_true (by kernel_rfl)) k3 bel lt3) trodAll_mk0)))), rfl, bel.frame _, fun h => by cases h⟩

theorem over : Rows.packAnyRow.holds Try.pinned (OpenSpec.ofChange Rows.packAnySpec) :=
  OpenClaim.holds_of_wide 5 Try.f5 rfl rfl rfl rfl rfl rfl rfl ⟨rfl, rfl, rfl, rfl, rfl⟩ rfl rfl rfl rfl rfl (by kernel_rfl) Try.func5 (by kernel_rfl)
    (of_decide_eq_true (by kernel_rfl)) (by unfold Func.isWrapper; first | (rw [if_pos (by decide +kernel)]; kernel_rfl) | (rw [if_neg (by decide +kernel)]; exact ⟨rfl, rfl⟩))
    (fun os started H enc _ => lifted os started H enc)

theorem proved : Rows.PackAnySaid := over
#print axioms proved
end Go.Proofs.Ytidppkbphkcmeaa.packAny
