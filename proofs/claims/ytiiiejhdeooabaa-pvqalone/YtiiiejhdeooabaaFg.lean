/- Contracts of the program's hunt: scores, which one is above, one pulse more. -/
import Derived.Test.YtiiiejhdeooabaaFf
namespace Go.Proofs.Ytiiiejhdeooabaa
open Go.RowKit
set_option linter.unusedVariables false
set_option linter.unusedSimpArgs false

/-- A hunt in memory: its struct b, its rows gs and gp. -/
structure Hunt (w : World) (b gs gp n : Nat) (a y : List Int) : Prop where
  box : B4 w b (.slice (some ⟨gs, 0, none⟩) n n) (.slice (some ⟨gp, 0, none⟩) n n) (.int .u64 (dts a y n)) (.int .u64 (nrs y n))
  sz : Blk .u64 24 w gs a
  pu : Blk .u64 24 w gp y
  ne1 : gs ≠ gp
  ne2 : b ≠ gp
  ne3 : b ≠ gs
theorem Hunt.below {w w' : World} {b gs gp n : Nat} {a y : List Int} (h : Hunt w b gs gp n a y) (hb : Below w.heap.size w w') : Hunt w' b gs gp n a y :=
  ⟨h.box.below hb, h.sz.below hb, h.pu.below hb, h.ne1, h.ne2, h.ne3⟩

theorem above_any (s1 n1 s2 n2 p q : Int) (w : World) (h1 : s1 * n2 = p) (h2 : s2 * n1 = q) (b1 : 0 ≤ p) (b2 : p ≤ 1424956197982464) (b3 : 0 ≤ q) (b4 : q ≤ 1424956197982464) : Calls Try.prog 27 #[.agg #[.int .u64 s1, .int .u64 n1], .agg #[.int .u64 s2, .int .u64 n2]] w fun e w' => e = .returned (.bool (decide (q < p))) ∧ Below w.heap.size w w' := by
  go_enter Try.func27, Try.ntmps27
  go_wp2
  go_ret
  exact ⟨rfl, below2 _ _ _⟩

set_option maxHeartbeats 2000000 in
theorem with_any (b gs gp n m i : Nat) (a y : List Int) (w : World) (H : Hunt w b gs gp n a y) (hS : St a y n m) (hm : m ≤ 11) (hi : i < n) (hn : n ≤ 16) : Calls Try.prog 26 #[.pointer (some ⟨b, 0, none⟩), .int .i64 i] w fun e w' => e = .returned (.agg #[.int .u64 (dI a y n i * dI a y n i), .int .u64 (nI y n i)]) ∧ Below w.heap.size w w' := by
  obtain ⟨s1, s2, s3, s4⟩ := hS.scores hm i i hi hi
  obtain ⟨t1, t2, t3, t4, t5, t6, t7, t8⟩ := hS.small hm i hi
  have hla := hS.la
  have hly := hS.ly
  obtain ⟨W, hW⟩ : ∃ W, W = w.alloc (.cells #[.int .u64 0, .int .u64 0] 55) := ⟨_, rfl⟩
  have hb : Below w.heap.size w W := by rw [hW]; exact below1 _ _
  have HW := H.below hb
  have c0 := HW.box.c0
  have c1 := HW.box.c1
  have c2 := HW.box.c2
  have c3 := HW.box.c3
  have d1 := HW.sz.cell i (by omega)
  have d2 := HW.pu.cell i (by omega)
  obtain ⟨k1, k2⟩ : dI a y n i = dts a y n + a.getD i 0 ∧ nI y n i = nrs y n + 2 * y.getD i 0 + 1 := ⟨rfl, rfl⟩
  rw [k1] at t1 t2 s1 s2 ⊢
  rw [k2] at t3 t4 ⊢
  have B2 : B2 W w.heap.size (.int .u64 0) (.int .u64 0) := by rw [hW]; exact B2.new _ _ _ _
  have e0 := B2.c0
  have e1 := B2.c1
  have f0 := B2.f0
  have f1 := B2.f1
  obtain ⟨r1, r2, r3, r4⟩ := hS.bounds (by omega)
  generalize dts a y n = D at *
  generalize nrs y n = N at *
  generalize a.getD i 0 = z at *
  generalize y.getD i 0 = u at *
  obtain ⟨E, hE⟩ : ∃ E, D + z = E := ⟨_, rfl⟩
  rw [hE] at t1 t2 s1 s2 ⊢
  obtain ⟨F, hF⟩ : ∃ F, E * E = F := ⟨_, rfl⟩
  rw [hF] at s1 s2 ⊢
  have i1 : (0 : Int) ≤ (i : Int) := by omega
  have i2 : (i : Int) < (n : Int) := by omega
  have i3 : IntKind.i64.wrap (i : Int) = i := wraps_i64 _ (by omega) (by omega)
  clear s3 s4 hS H HW k1 k2 hla hly
  subst hW
  go_enter Try.func26, Try.ntmps26
  go_wp2
  go_region
  go_wp2
  go_region
  go_wp2
  exact bodyPost_ret (v := .agg #[.int .u64 F, .int .u64 (N + 2 * u + 1)]) (by simp [results, Try.results26, go_sem]) rfl ⟨rfl, (below1 _ _).drew.drew⟩

set_option maxHeartbeats 2000000 in
theorem add_any (b gs gp n m i B : Nat) (a y : List Int) (w : World) (H : Hunt w b gs gp n a y) (hS : St a y n m) (hm : m ≤ 11) (hi : i < n) (hn : n ≤ 16) (hB1 : B ≤ b) (hB2 : B ≤ gp) : Calls Try.prog 24 #[.pointer (some ⟨b, 0, none⟩), .int .i64 i] w fun e w' => e = .returned (.tuple #[]) ∧ Hunt w' b gs gp n a (inc y i) ∧ Below B w w' := by
  obtain ⟨t1, t2, t3, t4, t5, t6, t7, t8⟩ := hS.small hm i hi
  have hla := hS.la
  have hly := hS.ly
  have HD : Hid (dts a (inc y i) n = dts a y n + a.getD i 0) := by unfold Hid; rw [dts_inc a y i (by omega), if_pos hi]
  have HQ : Hid (nrs (inc y i) n = nrs y n + (2 * y.getD i 0 + 1)) := by unfold Hid; rw [nrs_inc y i (by omega), if_pos hi]
  have HI : Hid (inc y i = y.set i (y.getD i 0 + 1)) := rfl
  have c0 := H.box.c0
  have c1 := H.box.c1
  have c2 := H.box.c2
  have c3 := H.box.c3
  have d1 := H.sz.cell i (by omega)
  have d2 := H.pu.cell i (by omega)
  have f2 := H.box.f2
  have f3 := H.box.f3
  have fp := H.pu.free i (by omega)
  unfold dI at t1 t2
  unfold nI at t3 t4
  obtain ⟨r1, r2, r3, r4⟩ := hS.bounds (by omega)
  have HH := hid H
  clear hS H
  generalize hD : dts a y n = D at *
  generalize hN : nrs y n = N at *
  generalize a.getD i 0 = z at *
  generalize hu : y.getD i 0 = u at *
  have HU := hid hu
  have HL := hid hly
  clear hu
  have i1 : (0 : Int) ≤ (i : Int) := by omega
  have i2 : (i : Int) < (n : Int) := by omega
  have i3 : IntKind.i64.wrap (i : Int) = i := wraps_i64 _ (by omega) (by omega)
  have HDD := hid hD
  have HNN := hid hN
  clear hD hN hla hly
  go_enter Try.func24, Try.ntmps24
  go_wp2
  go_region
  go_wp2
  have b1 := HH.out.box.set2 (.int .u64 (D + z))
  have p1 := HH.out.pu.other b 2 (.int .u64 (D + z)) (Ne.symm HH.out.ne2)
  have q1 := HH.out.sz.other b 2 (.int .u64 (D + z)) (Ne.symm HH.out.ne3)
  have l1 := (Below.refl B w).setCell (p := ⟨b, 2, none⟩) hB1 (.int .u64 (D + z))
  generalize w.setCell ⟨b, 2, none⟩ (.int .u64 (D + z)) = w1 at *
  clear c0 c1 c2 c3 d1 d2 f2 f3 fp
  have c1 := b1.c1
  have c3 := b1.c3
  have f3 := b1.f3
  have d2 := p1.cell i (by rw [HL.out]; exact hi)
  rw [HU.out] at d2
  rw [HNN.out] at c3
  have BB1 := hid b1
  have PP1 := hid p1
  have QQ1 := hid q1
  clear b1 p1 q1
  go_region
  have b2 := BB1.out.set3 (.int .u64 (N + (2 * u + 1)))
  have p2 := PP1.out.other b 3 (.int .u64 (N + (2 * u + 1))) (Ne.symm HH.out.ne2)
  have q2 := QQ1.out.other b 3 (.int .u64 (N + (2 * u + 1))) (Ne.symm HH.out.ne3)
  have l2 := l1.setCell (p := ⟨b, 3, none⟩) hB1 (.int .u64 (N + (2 * u + 1)))
  generalize w1.setCell ⟨b, 3, none⟩ (.int .u64 (N + (2 * u + 1))) = w2 at *
  clear c1 c3 d2 f3 BB1 PP1 QQ1 l1
  have c1 := b2.c1
  have d2 := p2.cell i (by rw [HL.out]; exact hi)
  have fp := p2.free i (by rw [HL.out]; exact hi)
  rw [HU.out] at d2
  have BB2 := hid b2
  have PP2 := hid p2
  have QQ2 := hid q2
  clear b2 p2 q2
  go_wp2
  refine bodyPost_end (results_none rfl _ _ _) rfl ⟨rfl, ⟨?_, ?_, ?_, HH.out.ne1, HH.out.ne2, HH.out.ne3⟩, ?_⟩
  · have := (BB2.out.other gp i (.int .u64 (u + 1)) HH.out.ne2).below (w' := (w2.setCell ⟨gp, i, none⟩ (.int .u64 (u + 1))).drew.drew) ((Below.refl _ _).drew.drew)
    rw [HD.out, HQ.out]
    exact this
  · exact (QQ2.out.other gp i (.int .u64 (u + 1)) HH.out.ne1).below (w' := (w2.setCell ⟨gp, i, none⟩ (.int .u64 (u + 1))).drew.drew) ((Below.refl _ _).drew.drew)
  · rw [HI.out]
    exact (PP2.out.set i (u + 1)).below (w' := (w2.setCell ⟨gp, i, none⟩ (.int .u64 (u + 1))).drew.drew) ((Below.refl _ _).drew.drew)
  · exact (l2.setCell (p := ⟨gp, i, none⟩) hB2 _).drew.drew
end Go.Proofs.Ytiiiejhdeooabaa
