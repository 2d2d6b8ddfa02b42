/- A choice is taken, by the document. -/
import Derived.Test.YtkfpphccpkfenaaCf
namespace Go.Proofs.Ytkfpphccpkfenaa
open Go.RowKit
set_option linter.unusedVariables false
set_option linter.unusedSimpArgs false
set_option maxRecDepth 10000 in
set_option maxHeartbeats 2000000 in
theorem rtake_any (a : Option Addr) (cap : Nat) (d : De) (lo hi tot : Nat) (w : World) (hd : d.Ok) (hrw : Rw .u8 w (.slice a d.B.length cap) d.B) (hf : Fair lo hi tot) :
    Calls Try.prog 38 #[decW a cap d, .int .i64 lo, .int .i64 hi, .int .i64 tot] w fun e w' => e = .returned (decW a cap (d.take lo hi tot)) ∧ Below w.heap.size w w' := by
  have hmid := hd.mid hf
  have hal := ahead_width (R := d.R) hf
  have hsh := fun w => part_any d.R lo hi tot w hd.r hf
  have hq := hd.c
  have hr := hd.r.2
  have hB := De.take_B d lo hi tot
  unfold De.take at hB ⊢
  generalize ahead d.R lo tot = al at *
  generalize width d.R lo hi tot = wi at *
  obtain ⟨F, hF⟩ : ∃ F, F = De.norm ⟨d.C - min d.C al, wi, d.A, d.B⟩ := ⟨_, rfl⟩
  rw [← hF] at hB ⊢
  have HF : Hid _ := hF
  clear hF
  obtain ⟨c', hc'⟩ : ∃ c', d.C - min d.C al = c' := ⟨_, rfl⟩
  rw [hc'] at HF hmid
  have HC : Hid ((c' : Int) = (d.C : Int) - min (d.C : Int) (al : Int)) := by unfold Hid; omega
  clear hc'
  have hw := hmid.r0
  have hc1 := hmid.c
  have hl := hd.l
  have hby := hd.b
  have h3 : (d.C < al) ∨ (¬ d.C < al) := by omega
  unfold decW
  rcases h3 with hca | hca
  all_goals
    try have hcc : ((d.C : Int) - (al : Int)) = (c' : Int) := by have := HC.out; omega
    go_enter Try.func38, Try.ntmps38
    go_wp2_with (go_at_call 46; refine (hsh _).mono ?_; rintro e w2 ⟨rfl, rfl⟩)
  all_goals
    go_loopw [] (fun wr => ∃ (C' R' A' : Nat) (r : Int), (De.mk C' R' A' d.B).Mid ∧ Hid (De.norm ⟨C', R', A', d.B⟩ = F) ∧ Hid (r = R') ∧ B4 wr (w.heap.size + 1 + 1) (.int .u64 C') (.int .u64 r) (.slice a d.B.length cap) (.int .i64 A') ∧ B4 wr (w.heap.size + 1) (.int .u64 0) (.int .u64 0) (.slice none 0 0) (.int .i64 0) ∧ Below w.heap.size w wr) (fun wr => cellSh wr (w.heap.size + 1 + 1))
    case atStart =>
      refine ⟨c', wi, d.A, wi, hmid, HF.out.symm, rfl, ?_, (B4.new2 w _ _ _ _ _ _).below (below1 _ _), below3 _ _ _ _⟩
      have e := HC.out
      first
        | (have e1 : d.C < al := hca
           have e0 : (c' : Int) = 0 := by omega
           rw [e0]; exact B4.new3 _ _ _ _ _ _ _ _)
        | (have e1 : ¬ d.C < al := hca
           exact B4.new3 _ _ _ _ _ _ _ _)
    case round =>
      clear hB hsh hmid
      obtain ⟨C', R', A', r, hm, HN, HR, hb4, hr4, hbr⟩ := hrel
      obtain ⟨z, c0, c1, c2, c3, f0, f1, f2, f3⟩ := id hb4
      have m0 : (256 : Int) ≤ r := by rw [HR.out]; have : 256 ≤ R' := hm.r0; omega
      have m1 : r ≤ 4294967295 := by rw [HR.out]; have : R' ≤ 4294967295 := hm.r1; omega
      have hsz := hbr.size
      by_cases hlt : r < 16777216
      · have hR3 : R' < 16777216 := by have := HR.out; omega
        have hcall := rnext_any a cap d.B A' wr (hrw.below hbr) hby hl hm.a
        have hst : Hid (De.norm ⟨C' % 16777216 * 256 + bAt d.B A', R' * 256, aAt d.B A', d.B⟩ = F) := by
          unfold Hid
          rw [← HN.out, De.norm_step ⟨C', R', A', d.B⟩ hm.r0 hR3]
          rfl
        have hms2 : (De.mk (C' % 16777216 * 256 + bAt d.B A') (R' * 256) (aAt d.B A') d.B).Mid := hm.step hR3
        have hsh := sh_step R' hm.r0 hR3
        have HM : Hid (sh R' = sh (R' * 256) + 1) := hsh
        have hb8 := bAt_lt hby A'
        have hmod : C' % 16777216 < 16777216 := Nat.mod_lt _ (by decide)
        have hm1 : ((C' : Int).tmod 16777216) = ((C' % 16777216 : Nat) : Int) := rfl
        clear hR3 hsh
        generalize aAt d.B A' = A2 at *
        generalize bAt d.B A' = y at *
        generalize C' % 16777216 = cm at *
        go_wp2_with (go_at_call 50; refine hcall.mono ?_; rintro e w1 ⟨rfl, rfl⟩)
        have hs1 := cellSh_of c1
        have hnew : B4 _ (w.heap.size + 1 + 1) (.int .u64 ((cm : Int) * 256 + y)) (.int .u64 (r * 256)) (.slice a d.B.length cap) (.int .i64 A2) := ((hb4.set0 (.int .u64 ((cm : Int) * 256 + y))).set1 (.int .u64 (r * 256))).set3 (.int .i64 A2)
        have hs2 := cellSh_of hnew.c1
        have hr2 : (r * 256).toNat = R' * 256 := by rw [HR.out]; omega
        have hr1 : r.toNat = R' := by rw [HR.out]; omega
        go_roundw
        case rel =>
          refine ⟨cm * 256 + y, R' * 256, A2, r * 256, hms2, hst, by unfold Hid; rw [HR.out]; omega, ?_, ((((hr4.other _ _ _ (by omega)).other _ _ _ (by omega)).other _ _ _ (by omega))), bset1 (bset1 (bset1 hbr _ _ _ (by omega)) _ _ _ (by omega)) _ _ _ (by omega)⟩
          rw [show ((cm * 256 + y : Nat) : Int) = (cm : Int) * 256 + y by omega]
          exact hnew
        case measure => rw [hs1, hs2, hr2, hr1, HM.out]; omega
      · have hFe : Hid ((De.mk C' R' A' d.B) = F) := by
          unfold Hid
          rw [← HN.out, De.norm_done _ (by show _ ≤ R'; have := HR.out; omega)]
        obtain ⟨rz, r0, r1, r2, r3, p0, p1, p2, p3⟩ := id hr4
        go_wp2
        refine bodyPost_ret (v := .agg #[.int .u64 C', .int .u64 r, .slice a d.B.length cap, .int .i64 A']) (by simp [results, Try.results38, go_sem, c0, c1, c2, c3, r0, r1, r2, r3, p0, p1, p2, p3]) rfl ⟨by rw [← hFe.out, HR.out], ?_⟩
        exact bset4 hbr _ _ _ _ _ (by omega)
end Go.Proofs.Ytkfpphccpkfenaa
