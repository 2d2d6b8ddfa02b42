/- The Go function of the statement BodyReads returns true at every input, and leaves each argument as it read. No condition. -/
import Derived.Test.YtolfnjlkcppplaaZe
import Derived.BigQuiet
import Derived.ProofKit
import Derived.OpenShut
import Derived.ShutString
import Derived.ChangeOld
import Derived.Lib.SmallJoins
namespace Go.Proofs.Ytolfnjlkcppplaa.bodyReads
open Go.ChangeShapes Go.WideShapes Go.ChangeAt Go.RowKit Go.Joins
set_option linter.unusedVariables false
set_option linter.unusedSimpArgs false

theorem own : ownKnob Try.prog.godebug = none := by kernel_rfl
theorem laidOut : laidOutB Try.prog = true := by kernel_rfl

set_option maxRecDepth 10000 in
set_option maxHeartbeats 8000000 in
theorem walk (a1 : Int) (a2 : Int) (a3 : Option Addr) (len3 cap3 : Nat) (z3 : List Int) (a4 : Option Addr) (len4 cap4 : Nat) (z4 : List Int) (a5 : Option Addr) (len5 cap5 : Nat) (z5 : List Int) (w : World) (w1 : (Lit.int .i64 a1).wf = true) (w2 : (Lit.int .i64 a2).wf = true) (w3 : IsRow .i64 w a3 len3 cap3 z3) (w4 : IsRow .i64 w a4 len4 cap4 z4) (w5 : IsRow .u8 w a5 len5 cap5 z5) :
    Calls Try.prog 5 #[.agg #[.int .i64 a1, .int .i64 a2, .slice a3 len3 cap3, .slice a4 len4 cap4], .slice a5 len5 cap5] w fun e w' => e = .returned (.bool true) ∧ Below w.heap.size w w' := by
  obtain ⟨F, hlf, hvf, _⟩ := row_rw_any w3
  obtain ⟨R, hlr, hvr, _⟩ := row_rw_any w4
  have hbk : Bks w a3 len3 cap3 F a4 len4 cap4 R := ⟨hlf, hvf, hlr, hvr⟩
  have hcn := row_cap w5
  obtain ⟨xs, hxl, hv, hx⟩ := row_rw w5
  have hacc := below1 w (.cells #[.int .i64 a1, .int .i64 a2, .slice a3 len3 cap3, .slice a4 len4 cap4] 24)
  have hB0 := B4.new w (.int .i64 a1) (.int .i64 a2) (.slice a3 len3 cap3) (.slice a4 len4 cap4) 24
  obtain ⟨ez, e0, e1, e2, e3, f0, f1, f2, f3⟩ := id hB0
  clear w1 w2 w3 w4 w5 hlf hvf hlr hvr
  by_cases hg : 200 < len3 ∨ 200 < len4
  · have hgd : decide (200 < len3 ∨ 200 < len4) = true := decide_eq_true hg
    clear hg hbk hcn hxl hv hx
    go_enter Try.func5, Try.ntmps5
    go_wp2_with (first | (go_at_call 17; refine (great16_any _ _ _ _ _ _ _ _ _).mono ?_; rintro e w1 ⟨rfl, hb1⟩; rw [hgd]; replace hacc := bthen hacc hb1 hacc.size; replace hB0 := hB0.below hb1; clear ez e0 e1 e2 e3 f0 f1 f2 f3; obtain ⟨ez, e0, e1, e2, e3, f0, f1, f2, f3⟩ := id hB0) | (go_at_call 10; refine (knows_any _).mono ?_; rintro e w9 ⟨rfl, hb9⟩; replace hacc := bthen hacc hb9 hacc.size))
    go_ret
    exact ⟨rfl, hacc⟩
  have hgd : decide (200 < len3 ∨ 200 < len4) = false := decide_eq_false hg
  clear hg
  by_cases hl : 1000 < len5
  · have hl2 : (1000 : Int) < len5 := by omega
    clear hl hbk hcn hxl hv hx
    go_enter Try.func5, Try.ntmps5
    go_wp2_with (first | (go_at_call 17; refine (great16_any _ _ _ _ _ _ _ _ _).mono ?_; rintro e w1 ⟨rfl, hb1⟩; rw [hgd]; replace hacc := bthen hacc hb1 hacc.size; replace hB0 := hB0.below hb1; clear ez e0 e1 e2 e3 f0 f1 f2 f3; obtain ⟨ez, e0, e1, e2, e3, f0, f1, f2, f3⟩ := id hB0) | (go_at_call 10; refine (knows_any _).mono ?_; rintro e w9 ⟨rfl, hb9⟩; replace hacc := bthen hacc hb9 hacc.size))
    go_ret
    exact ⟨rfl, hacc⟩
  have hl2 : ¬ (1000 : Int) < (len5 : Int) := by omega
  have hl3 : len5 ≤ 1000 := by omega
  clear hl
  have p6 := fun W a c (h : Below w.heap.size w W) (hv' : Rw .u8 W (.slice a len5 c) xs) => bread_any a1 a2 a3 len3 cap3 F a4 len4 cap4 R a len5 c xs W (hbk.below h) hxl hv' hx (by omega)
  obtain ⟨z1, z2, z3, z4⟩ := rb_sizes a1 a2 F R (bv xs) len5
  obtain ⟨i0, hi, hz0, hz1, hz2⟩ := info_parts info5
  have p7 := fun W (h : Below w.heap.size w W) => rbread_any a1 a2 a3 len3 cap3 F a4 len4 cap4 R a5 len5 cap5 xs W (hbk.below h) hxl (hv.below h) hx (by omega)
  unfold RbPost at p6 p7
  generalize rbP a1 a2 F R (bv xs) (8 * len5) = PP at *
  generalize rbZ a1 a2 F R (bv xs) (8 * len5) = ZZ at *
  generalize rbE a1 a2 F R (bv xs) (8 * len5) = E at *
  obtain ⟨n1, hn1⟩ : ∃ n1, PP.length = n1 := ⟨_, rfl⟩
  obtain ⟨n2, hn2⟩ : ∃ n2, ZZ.length = n2 := ⟨_, rfl⟩
  rw [hn1, hn2] at p6 p7
  rw [hn1] at z1
  rw [hn2] at z2
  have g7 : n1 ≤ 1000 := by omega
  have g8 : n2 ≤ 1000 := by omega
  have HN1 := hid hn1
  have HN2 := hid hn2
  have HZ3 := hid z3
  have HZ4 := hid z4
  have hEE : (E == E) = true := by simp
  clear hn1 hn2 z1 z2 z3 z4 hbk hx
  go_enter Try.func5, Try.ntmps5
  go_upto_region 3 with (go_at_call 17; refine (great16_any _ _ _ _ _ _ _ _ _).mono ?_; rintro e w1 ⟨rfl, hb1⟩; rw [hgd]; replace hacc := bthen hacc hb1 hacc.size; replace hB0 := hB0.below hb1; clear ez e0 e1 e2 e3 f0 f1 f2 f3; obtain ⟨ez, e0, e1, e2, e3, f0, f1, f2, f3⟩ := id hB0)
  have hB1 := hB0
  have HBW := hid hacc
  have hK : ∀ W, Below w1.heap.size w1 W → W.cell? ⟨w.heap.size, 0, none⟩ = some (.int .i64 a1) ∧ W.cell? ⟨w.heap.size, 1, none⟩ = some (.int .i64 a2) ∧ W.cell? ⟨w.heap.size, 2, none⟩ = some (.slice a3 len3 cap3) ∧ W.cell? ⟨w.heap.size, 3, none⟩ = some (.slice a4 len4 cap4) := fun W h => ⟨(hB1.below h).c0, (hB1.below h).c1, (hB1.below h).c2, (hB1.below h).c3⟩
  have HXL := hid hxl
  have HV := hid (hv.below HBW.out)
  clear hacc hB0 hb1 hxl
  clear ez e0 e1 e2 e3 f0 f1 f2 f3
  obtain ⟨ez, e0, e1, e2, e3, f0, f1, f2, f3⟩ := id hB1
  go_cut [5, 6] from 17 to 24 (fun s5 s6 wx => s6 = .int .i64 E ∧ ∃ (bp : Nat) (a8 : Option Addr) (c8 : Nat) (a9 : Option Addr) (c9 : Nat), s5 = .pointer (some ⟨bp, 0, none⟩) ∧ B2 wx bp (.slice a8 n1 c8) (.slice a9 n2 c9) ∧ Fr false wx (.slice a8 n1 c8) PP ∧ Fr false wx (.slice a9 n2 c9) ZZ ∧ Below w1.heap.size w1 wx)
  case first =>
    have hacc : Below w1.heap.size w1 w1.drew := (Below.refl _ _).drew
    go_region_held3 (fun w' => w'.cell? ⟨w.heap.size, 0, none⟩ = some (.int .i64 a1) ∧ w'.cell? ⟨w.heap.size, 1, none⟩ = some (.int .i64 a2) ∧ w'.cell? ⟨w.heap.size, 2, none⟩ = some (.slice a3 len3 cap3) ∧ w'.cell? ⟨w.heap.size, 3, none⟩ = some (.slice a4 len4 cap4)) (exact hK _ (by first | exact hacc | exact (below1 _ _).drew | exact (below2 _ _ _).drew | exact hacc.alloc hacc.size _ | exact bset2' hacc _ _ _ (by omega) | exact (below1 _ _).drew.alloc (below1 _ _).drew.size _)) (first
      | (refine step_append_rw (by rfl) _ _ _ (by rfl) w1.heap.size 5 i0 (.int .u8 0) 1 Try.underlying36 hi hz0 hz1 hz2 rfl .u8 (.slice (some ⟨w1.heap.size, 0, none⟩) 0 0) 0 [] (by rfl) (own_empty (Nat.le_refl _)) a5 len5 cap5 xs HXL.out (by rfl) (HV.out.below (below1 _ _).drew) hcn (by unfold maxLen; omega) (by omega) (by simp) ?_; intro v3 w3 hown3 hgrow3; replace hacc : Below w1.heap.size w1 w3 := ((below1 w1 (.cells #[] 5)).drew).grown hgrow3 (by simp) (fun k hk => by simp [Value.ownBlock] at hk; omega); have hle3 := hacc.size; obtain ⟨a6, c6, rfl, hr6⟩ := copied (w := w3) (base := w1.heap.size) (n := len5) (e := 5) (v := v3) (B := xs) (by simpa using hown3); clear hown3 hgrow3)
      | (refine step_append_rw (by rfl) _ _ _ (by rfl) w1.heap.size 5 i0 (.int .u8 0) 1 Try.underlying36 hi hz0 hz1 hz2 rfl .u8 (.slice (some ⟨w1.heap.size + 1, 0, none⟩) 0 0) 0 [] (by rfl) (own_empty1 (w := w1) (.cells #[.slice none 0 0, .slice none 0 0] 28) (Nat.le_refl _)) a5 len5 cap5 xs HXL.out (by rfl) (HV.out.below (below2 _ _ _).drew) hcn (by unfold maxLen; omega) (by omega) (by simp; omega) ?_; intro v3 w3 hown3 hgrow3; replace hacc : Below w1.heap.size w1 w3 := ((below2 w1 (.cells #[.slice none 0 0, .slice none 0 0] 28) (.cells #[] 5)).drew).grown hgrow3 (by simp; omega) (fun k hk => by simp [Value.ownBlock] at hk; omega); have hle3 := hacc.size; have hz := (((B2.new w1 (.slice none 0 0) (.slice none 0 0) 28).below (below1 _ (.cells #[] 5))).below (Below.refl _ _).drew).grown hgrow3 (by simp [Value.ownBlock]); obtain ⟨a6, c6, rfl, hr6⟩ := copied (w := w3) (base := w1.heap.size) (n := len5) (e := 5) (v := v3) (B := xs) (by simpa using hown3); clear hown3 hgrow3)
      | (refine step_append_rw (by rfl) _ _ _ (by rfl) w1.heap.size 5 i0 (.int .u8 0) 1 Try.underlying36 hi hz0 hz1 hz2 rfl .u8 (.slice (some ⟨w1.heap.size, 0, none⟩) 0 0) 0 [] (by rfl) ((own_empty (w := w1) (Nat.le_refl _)).alloc (.cells #[.slice none 0 0, .slice none 0 0] 28)) a5 len5 cap5 xs HXL.out (by rfl) (HV.out.below (below2 _ _ _).drew) hcn (by unfold maxLen; omega) (by omega) (by simp; omega) ?_; intro v3 w3 hown3 hgrow3; replace hacc : Below w1.heap.size w1 w3 := ((below2 w1 (.cells #[] 5) (.cells #[.slice none 0 0, .slice none 0 0] 28)).drew).grown hgrow3 (by simp; omega) (fun k hk => by simp [Value.ownBlock] at hk; omega); have hle3 := hacc.size; have hz := ((B2.new2 w1 (.cells #[] 5) (.slice none 0 0) (.slice none 0 0) 28).below (Below.refl _ _).drew).grown hgrow3 (by simp [Value.ownBlock]); obtain ⟨a6, c6, rfl, hr6⟩ := copied (w := w3) (base := w1.heap.size) (n := len5) (e := 5) (v := v3) (B := xs) (by simpa using hown3); clear hown3 hgrow3)
      | (go_at_call 18; have hzx := hz; refine (p6 _ a6 c6 (HBW.out.trans (hacc.mono HBW.out.size)) hr6).mono ?_; rintro e w6 ⟨s1, k1, s2, k2, rfl, hp6, hz6, hb6⟩; replace hacc := bthen hacc hb6 hacc.size; obtain ⟨hz7, hz8, hf7, hf8⟩ := box_put hz hb6 hp6 hz6; obtain ⟨qz, q0, q1, r0, r1⟩ := hz7)
      | (go_at_call 18; refine (p6 (w3.alloc (.cells #[.slice none 0 0, .slice none 0 0] 28)) a6 c6 (HBW.out.trans ((hacc.alloc hacc.size _).mono HBW.out.size)) (hr6.below (below1 w3 _))).mono ?_; rintro e w6 ⟨s1, k1, s2, k2, rfl, hp6, hz6, hb6⟩; replace hacc := bthen (hacc.alloc hacc.size _) hb6 (hacc.alloc hacc.size _).size; obtain ⟨hz7, hz8, hf7, hf8⟩ := box_put (B2.new w3 (.slice none 0 0) (.slice none 0 0) 28) hb6 hp6 hz6; obtain ⟨qz, q0, q1, r0, r1⟩ := hz7)
      | (go_at_call 18; refine (p6 _ a6 c6 (HBW.out.trans (hacc.mono HBW.out.size)) hr6).mono ?_; rintro e w6 ⟨s1, k1, s2, k2, rfl, hp6, hz6, hb6⟩; replace hacc := bthen hacc hb6 hacc.size))
    all_goals go_wp2_with fail
    all_goals go_meet
    all_goals first
      | exact ⟨rfl, _, s1, k1, s2, k2, rfl, hz8, hf7, hf8, bset2' hacc _ _ _ (by omega)⟩
      | exact ⟨rfl, w6.heap.size, s1, k1, s2, k2, rfl, B2.new w6 _ _ _, (Gp.fr hp6).below (below1 w6 _), (Gp.fr hz6).below (below1 w6 _), hacc.alloc hacc.size _⟩
  case rest =>
    obtain ⟨rfl, bp, a8, c8, a9, c9, rfl, hP, hq1, hq2, hbl⟩ := hcut
    have hB2 := hB1.below hbl
    have hb2 := HBW.out.trans (hbl.mono HBW.out.size)
    clear hK hB1 hv HV HBW p6
    clear ez e0 e1 e2 e3 f0 f1 f2 f3
    obtain ⟨ez, e0, e1, e2, e3, f0, f1, f2, f3⟩ := id hB2
    go_upto_region 5 with (first | (go_at_call 13; refine (as16_any _ _ _ _ _ _ _ _ _).mono ?_; rintro e w7 ⟨rfl, hb7⟩; have hbb7 := bthen hb2 hb7 hb2.size) | (go_at_call 19; refine (p7 _ hbb7).mono ?_; rintro e w8 ⟨s3, k3, s4, k4, rfl, hp8, hz8, hb8⟩))
    have hx8 := below1 w8 (.cells #[.slice s3 n1 k3, .slice s4 n2 k4] 34)
    have hQ := B2.new w8 (.slice s3 n1 k3) (.slice s4 n2 k4) 34
    have hC1 := ((hP.below hb7).below hb8).below hx8
    have hq3 := ((hq1.below hb7).below hb8).below hx8
    have hq4 := ((hq2.below hb7).below hb8).below hx8
    have hq5 := (Gp.fr hp8).below hx8
    have hq6 := (Gp.fr hz8).below hx8
    have HBX := hid (bthen' (bthen' hbb7 hb8) hx8)
    clear hB2 ez e0 e1 e2 e3 f0 f1 f2 f3 hb2 hbb7 hx8 hb7 hb8 hp8 hz8 hP hq1 hq2 hbl p7
    generalize w8.alloc (.cells #[.slice s3 n1 k3, .slice s4 n2 k4] 34) = W9 at *
    generalize w8.heap.size = bq at *
    have hacc : Below W9.heap.size W9 W9.drew := (Below.refl _ _).drew
    obtain ⟨cz, m0, m1, n0, n1'⟩ := id hC1
    obtain ⟨dz, d0, d1, j0, j1⟩ := id hQ
    go_region_held3 (fun w' => w'.cell? ⟨bp, 0, none⟩ = some (.slice a8 n1 c8) ∧ w'.cell? ⟨bp, 1, none⟩ = some (.slice a9 n2 c9) ∧ w'.cell? ⟨bq, 0, none⟩ = some (.slice s3 n1 k3) ∧ w'.cell? ⟨bq, 1, none⟩ = some (.slice s4 n2 k4)) (exact ⟨(hC1.below hacc).c0, (hC1.below hacc).c1, (hQ.below hacc).c0, (hQ.below hacc).c1⟩) (first
      | (go_at_call 14; refine (as17_any a8 n1 c8 a9 n2 c9 _).mono ?_; rintro e x2 ⟨rfl, hx2⟩; replace hacc := bthen hacc hx2 hacc.size)
      | (go_at_call 20; refine (same17_yes _ _ _ _ _ _ _ _ _ _ PP ZZ _ HN1.out HN2.out (fun i _ => HZ3.out i) (fun i _ => HZ4.out i) (hq3.below hacc) (hq4.below hacc) (hq5.below hacc) (hq6.below hacc) g7 g8).mono ?_; rintro e x6 ⟨rfl, hx6⟩; replace hacc := bthen hacc hx6 hacc.size)
      | (go_at_call 10; refine (knows_any _).mono ?_; rintro e w9 ⟨rfl, hb9⟩; replace hacc := bthen hacc hb9 hacc.size))
    all_goals go_wp2
    all_goals go_ret
    all_goals exact ⟨rfl, bthen HBX.out hacc HBX.out.size⟩

set_option maxRecDepth 100000 in
theorem lifted (os : Os) (started : os.Started) (H : Type) (enc : TypeId × Value → H) :
    ReturnsInHanded {} Try.checked os 5 .any (Rows.bodyReadsSpec.pre6 enc Try.prog Try.f5 Rows.bodyReadsRow.domain false) (Rows.bodyReadsSpec.post enc Try.prog Try.f5 false true false false) := by
  refine returnsInHanded_of_change (C := Try.checked) own started (by kernel_rfl) Try.func5
    (ChangeSpec.witness6 (enc := enc) (C := Try.checked) false ⟨#[], #[.agg #[.int .i64 0, .int .i64 0, .slice none 0 0, .slice none 0 0], .slice none 0 0], []⟩ 8 (by kernel_rfl) (by kernel_rfl) (by kernel_rfl) (by kernel_rfl)) ?_
  intro W base args ds gs before hval0 hW hcnd _
  have hval : ∀ (j : Nat) t v, Try.f5.params[j]? = some t → args[j]? = some v → Value.okWide Try.prog W .any base t v := hval0
  have hW' := hW
  obtain ⟨p, q, hA0, hV, rfl, hfz, hnd⟩ := hW
  have hA : DataW.TrodAll enc Try.prog W 0 (fun _ => true) true Try.f5.params.toList args.toList ds p := hA0
  rw [Try.params5] at hA hval
  obtain ⟨v0, vs0, d0, ds0, p0, q0, hargs, rfl, rfl, h0, r0⟩ := trodAll_cons hA
  obtain ⟨v1, vs1, d1, ds1, p1, q1, rfl, rfl, rfl, h1, r1⟩ := trodAll_cons r0
  obtain ⟨rfl, rfl, rfl⟩ := trodAll_nil r1
  obtain rfl : args = #[v0, v1] := by cases args; simp_all
  obtain ⟨rfl, rfl⟩ := trodVars_none hV
  have k0 := h0
  have lt0 : ∀ x ∈ p0, x.block < W.heap.size := by obtain ⟨m, hm⟩ := k0; exact DataW.trod_lt m _ _ _ hm
  obtain ⟨c00, c01, c02, c03, y00, y01, y02, y03, m0, rfl, hd0, hp0, hy00, hy01, hy02, hy03⟩ := open_agg4 Try.underlying24 (by kernel_rfl) (by kernel_rfl) (hval 0 24 v0 rfl rfl) h0
  clear hd0 hp0
  obtain ⟨a1, e1, _, w1⟩ := DataW.trod_int Try.underlying3 hy00
  simp only [List.cons.injEq, and_true] at e1
  subst e1
  obtain ⟨a2, e2, _, w2⟩ := DataW.trod_int Try.underlying3 hy01
  simp only [List.cons.injEq, and_true] at e2
  subst e2
  obtain ⟨a3, len3, cap3, z3, e3, w3⟩ := ints_of_trod Try.underlying22 Try.underlying3 (by kernel_rfl) hy02
  subst e3
  obtain ⟨a4, len4, cap4, z4, e4, w4⟩ := ints_of_trod Try.underlying22 Try.underlying3 (by kernel_rfl) hy03
  subst e4
  have k1 := h1
  have lt1 : ∀ x ∈ p1, x.block < W.heap.size := by obtain ⟨m, hm⟩ := k1; exact DataW.trod_lt m _ _ _ hm
  obtain ⟨a5, len5, cap5, rfl⟩ := okWide_slice Try.underlying36 (hval 1 36 v1 rfl rfl)
  obtain ⟨z5, w5⟩ : ∃ zs, IsRow .u8 W a5 len5 cap5 zs := by
    obtain ⟨fuel, hf⟩ := h1
    obtain ⟨a', l', c', zs, he, hr⟩ := ints_of_trod Try.underlying36 Try.underlying5 (by kernel_rfl) (show DataW.trod enc Try.prog W 0 (fun _ => true) true fuel 36 [.slice a5 len5 cap5] = _ from hf)
    simp only [Value.slice.injEq] at he
    obtain ⟨rfl, rfl, rfl⟩ := he
    exact ⟨zs, hr⟩
  clear hA0 hval0
  refine (walk a1 a2 a3 len3 cap3 z3 a4 len4 cap4 z4 a5 len5 cap5 z5 W w1 w2 w3 w4 w5).mono fun e W' ⟨he, bel⟩ => ?_
  subst he
  exact ⟨_, rfl, _, _, _, [], _, [], hW', trodAll_mk1 (shut_bool Try.underlying4 _), (trodAll_cons_mk (Below.trod laidOut (by kernel_rfl) (of_decide_eq_true (by kernel_rfl)) k0 bel lt0) (trodAll_cons_mk (Below.trod laidOut (by kernel_rfl) (of_decide_eq_true (by kernel_rfl)) k1 bel lt1) trodAll_mk0)), rfl, bel.frame _, fun h => by cases h⟩

theorem over : Rows.bodyReadsRow.holds Try.pinned (OpenSpec.ofChange Rows.bodyReadsSpec) :=
  OpenClaim.holds_of_wide 5 Try.f5 rfl rfl rfl rfl rfl rfl rfl ⟨rfl, rfl, rfl, rfl, rfl⟩ rfl rfl rfl rfl rfl (by kernel_rfl) Try.func5 (by kernel_rfl)
    (of_decide_eq_true (by kernel_rfl)) (by unfold Func.isWrapper; first | (rw [if_pos (by decide +kernel)]; kernel_rfl) | (rw [if_neg (by decide +kernel)]; exact ⟨rfl, rfl⟩))
    (fun os started H enc _ => lifted os started H enc)

theorem proved : Rows.BodyReadsSaid := over
#print axioms proved
end Go.Proofs.Ytolfnjlkcppplaa.bodyReads
