/- A choice is taken: the program, the document. -/
import Derived.Test.YtkfpphccpkfenaaCe
namespace Go.Proofs.Ytkfpphccpkfenaa
open Go.RowKit
set_option linter.unusedVariables false
set_option linter.unusedSimpArgs false

set_option maxHeartbeats 1000000 in
theorem rget_any (a : Option Addr) (cap : Nat) (d : De) (tot : Nat) (w : World) (h : d.Ok) (h1 : 1 ≤ tot) (h2 : tot ≤ 65536) :
    Calls Try.prog 37 #[decW a cap d, .int .i64 tot] w fun e w' => e = .returned (.int .i64 (d.get tot : Nat)) ∧ Below w.heap.size w w' := by
  have hq := unit_ge h.r h1 h2
  have hq2 : d.R / tot ≤ d.R := Nat.div_le_self _ _
  have hr := h.r.2
  have hc := h.c
  have hg := clamp_min (d.C / (d.R / tot)) tot h1
  have hv : d.C / (d.R / tot) ≤ d.C := Nat.div_le_self _ _
  have e1 : ((d.R : Int).tdiv (tot : Int)) = ((d.R / tot : Nat) : Int) := rfl
  have e2 : ((d.C : Int).tdiv ((d.R / tot : Nat) : Int)) = ((d.C / (d.R / tot) : Nat) : Int) := rfl
  have t0 : ((tot : Int) == 0) = false := by simp; omega
  unfold De.get decW
  rw [← hg]
  generalize d.C / (d.R / tot) = V at *
  generalize d.R / tot = q at *
  have t1 : ((q : Int) == 0) = false := by simp; omega
  have t2 : IntKind.u64.wrap (tot : Int) = tot := nat_u64 _ (by omega)
  have t3 : IntKind.u64.wrap (q : Int) = q := nat_u64 _ (by omega)
  have t4 : IntKind.u64.wrap (V : Int) = V := nat_u64 _ (by omega)
  clear hg
  go_enter Try.func37, Try.ntmps37
  go_wp2
  go_region
  go_wp2_with (go_at_call 49; refine (rclamp_any _ _ _ _).mono ?_; rintro e w2 ⟨rfl, rfl⟩)
  go_ret
  exact ⟨rfl, (below1 _ _).drew⟩

/-- How often a range is still to be moved on, of a struct in memory. -/
def cellSh (w : World) (b : Nat) : Nat := match w.cell? ⟨b, 1, none⟩ with
  | some (.int _ r) => sh r.toNat
  | _ => 0
theorem cellSh_of {w : World} {b : Nat} {k : IntKind} {r : Int} (h : w.cell? ⟨b, 1, none⟩ = some (.int k r)) : cellSh w b = sh r.toNat := by
  unfold cellSh; rw [h]

set_option maxHeartbeats 1000000 in
theorem take_arg (C R : Int) (a : Option Addr) (n cap : Nat) (A : Int) (d : De) (lo hi tot : Int) (w : World) (h : DvOf w C R a n cap A d) (hf : fairB lo hi tot = false) :
    Calls Try.prog 61 #[.agg #[.int .u64 C, .int .u32 R, .slice a n cap, .int .i64 A], .int .i64 lo, .int .i64 hi, .int .i64 tot] w fun e w' => ∃ a' cap', e = .returned (.tuple #[decV a' cap' d, .int .i64 1]) ∧ (∀ w1, DvOf w1 C R a n cap A d → Rw .u8 w1 (.slice a' d.B.length cap') d.B) ∧ Below w.heap.size w w' := by
  have hW := below2 w (.cells #[.int .u64 C, .int .u32 R, .slice a n cap, .int .i64 A] 30) (.cells #[.int .u64 0, .int .u32 0, .slice none 0 0, .int .i64 0] 30)
  go_enter Try.func61, Try.ntmps61
  go_wp2_with (first | (go_at_call 58; refine (decFor_any _ _ _ _ _ _ d w _ h).mono ?_; rintro e w' ⟨a', cap', rfl, hrw, hb1⟩; unfold decV; obtain ⟨z, c0, c1, c2, c3, f0, f1, f2, f3⟩ := ((B4.new w _ _ _ _ _).below (below1 _ _)).below hb1; obtain ⟨rz, r0, r1, r2, r3, p0, p1, p2, p3⟩ := (B4.new2 w _ _ _ _ _ _).below hb1) | (go_at_call 52; refine (fair_any _ _ _ _).mono ?_; rw [hf]; rintro e w2 ⟨rfl, rfl⟩))
  refine bodyPost_ret (v := .tuple #[decV a' cap' d, .int .i64 1]) (by simp [results, Try.results61, go_sem, c0, c1, c2, c3, r0, r1, r2, r3, p0, p1, p2, p3, decV]) rfl ⟨a', cap', rfl, ?_, ?_⟩
  · exact hrw
  · exact bset4 (bset4 (bthen hW hb1 hW.size) _ _ _ _ _ (by omega)) _ _ _ _ _ (by omega)

set_option maxRecDepth 10000 in
set_option maxHeartbeats 2000000 in
theorem take_any (C R : Int) (a : Option Addr) (n cap : Nat) (A : Int) (d : De) (lo hi tot : Nat) (w : World) (h : DvOf w C R a n cap A d) (hf : Fair lo hi tot) :
    Calls Try.prog 61 #[.agg #[.int .u64 C, .int .u32 R, .slice a n cap, .int .i64 A], .int .i64 lo, .int .i64 hi, .int .i64 tot] w fun e w' => ∃ a' cap', e = .returned (.tuple #[decV a' cap' (d.take lo hi tot), .int .i64 0]) ∧ (∀ w1, DvOf w1 C R a n cap A d → Rw .u8 w1 (.slice a' d.B.length cap') d.B) ∧ Below w.heap.size w w' := by
  have hW := below2 w (.cells #[.int .u64 C, .int .u32 R, .slice a n cap, .int .i64 A] 30) (.cells #[.int .u64 0, .int .u32 0, .slice none 0 0, .int .i64 0] 30)
  have hmid := h.1.mid hf
  have hd := h.1
  have hal := ahead_width (R := d.R) hf
  have hsh := fun w => share_any d.R lo hi tot w hd.r hf
  have hq := hd.c
  have hr := hd.r.2
  have hB := De.take_B d lo hi tot
  unfold De.take at hB ⊢
  generalize ahead d.R lo tot = al at *
  generalize width d.R lo hi tot = wi at *
  obtain ⟨F, hF⟩ : ∃ F, F = De.norm ⟨d.C - min d.C al, wi, d.A, d.B⟩ := ⟨_, rfl⟩
  rw [← hF] at hB ⊢
  have HF : Hid _ := hF
  clear hF
  obtain ⟨c', hc'⟩ : ∃ c', d.C - min d.C al = c' := ⟨_, rfl⟩
  rw [hc'] at HF hmid
  have hcc : ((d.C : Int) - min (d.C : Int) (al : Int)) = (c' : Int) := by omega
  have hw := hmid.r0
  have hc1 := hmid.c
  have hff := fair_nat hf
  have hl := hd.l
  have hby := hd.b
  have h3 : (d.C < al) ∨ (d.C ≤ al ∧ al ≤ d.C) ∨ (al < d.C) := by omega
  rcases h3 with hca | ⟨hca, hcb⟩ | hca
  all_goals
    go_enter Try.func61, Try.ntmps61
    go_wp2_with (first | (go_at_call 58; refine (decFor_any _ _ _ _ _ _ d w _ h).mono ?_; rintro e w' ⟨a', cap', rfl, hrw, hb1⟩; unfold decV; obtain ⟨z, c0, c1, c2, c3, f0, f1, f2, f3⟩ := ((B4.new w _ _ _ _ _).below (below1 _ _)).below hb1; obtain ⟨rz, r0, r1, r2, r3, p0, p1, p2, p3⟩ := (B4.new2 w _ _ _ _ _ _).below hb1) | (go_at_call 52; refine (fair_any _ _ _ _).mono ?_; rw [hff]; rintro e w2 ⟨rfl, rfl⟩) | (go_at_call 53; refine (hsh _).mono ?_; rintro e w2 ⟨rfl, rfl⟩))
  all_goals
    have hbx : B4 w' w.heap.size (.int .u64 C) (.int .u32 R) (.slice a n cap) (.int .i64 A) := ⟨z, c0, c1, c2, c3, f0, f1, f2, f3⟩
    have hby' : B4 w' (w.heap.size + 1) (.int .u64 0) (.int .u32 0) (.slice none 0 0) (.int .i64 0) := ⟨rz, r0, r1, r2, r3, p0, p1, p2, p3⟩
    have hbw := bthen hW hb1 hW.size
    have hrw0 := hrw _ h
    have HRW : Hid (∀ w1, DvOf w1 C R a n cap A d → Rw .u8 w1 (.slice a' d.B.length cap') d.B) := hrw
    clear hrw
    clear c0 c1 c2 c3 f0 f1 f2 f3 r0 r1 r2 r3 p0 p1 p2 p3
    go_loopw [] (fun wr => ∃ (C' R' A' : Nat) (r : Int), (De.mk C' R' A' d.B).Mid ∧ Hid (De.norm ⟨C', R', A', d.B⟩ = F) ∧ Hid (r = R') ∧ B4 wr w.heap.size (.int .u64 C') (.int .u32 r) (.slice a' d.B.length cap') (.int .i64 A') ∧ B4 wr (w.heap.size + 1) (.int .u64 0) (.int .u32 0) (.slice none 0 0) (.int .i64 0) ∧ Below w.heap.size w wr) (fun wr => cellSh wr w.heap.size)
    case atStart =>
      refine ⟨c', wi, d.A, wi, hmid, HF.out.symm, rfl, ?_, (((((hby'.other _ _ _ (by omega)).other _ _ _ (by omega)).other _ _ _ (by omega)).other _ _ _ (by omega)).other _ _ _ (by omega)).other _ _ _ (by omega), bset1 (bset1 (bset4 hbw _ _ _ _ _ (by omega)) _ _ _ (by omega)) _ _ _ (by omega)⟩
      first
        | (have e0 : (c' : Int) = 0 := by omega
           rw [e0]; exact ((hbx.set (.int .u64 d.C) (.int .u32 d.R) (.slice a' d.B.length cap') (.int .i64 d.A)).set0 (.int .u64 0)).set1 (.int .u32 wi))
        | (have e0 : (c' : Int) = (d.C : Int) - al := by omega
           rw [e0]; exact ((hbx.set (.int .u64 d.C) (.int .u32 d.R) (.slice a' d.B.length cap') (.int .i64 d.A)).set0 (.int .u64 ((d.C : Int) - al))).set1 (.int .u32 wi))
    case round =>
      clear hcc hc' hB hal hsh hff hmid h hca hbx hby'
      obtain ⟨C', R', A', r, hm, HN, HR, hb4, hr4, hbr⟩ := hrel
      obtain ⟨z, c0, c1, c2, c3, f0, f1, f2, f3⟩ := id hb4
      have m0 : (256 : Int) ≤ r := by rw [HR.out]; have : 256 ≤ R' := hm.r0; omega
      have m1 : r ≤ 4294967295 := by rw [HR.out]; have : R' ≤ 4294967295 := hm.r1; omega
      have hsz := hbr.size
      by_cases hlt : r < 16777216
      · have hR3 : R' < 16777216 := by have := HR.out; omega
        have hcall := nextByte_any C' R' A' a' cap' d.B wr (hrw0.below hbr) hby hl hm.c hm.a
        rw [← HR.out] at hcall
        have hst : Hid (De.norm ⟨C' % 16777216 * 256 + bAt d.B A', R' * 256, aAt d.B A', d.B⟩ = F) := by
          unfold Hid
          rw [← HN.out, De.norm_step ⟨C', R', A', d.B⟩ hm.r0 hR3]
          rfl
        have hms2 : (De.mk (C' % 16777216 * 256 + bAt d.B A') (R' * 256) (aAt d.B A') d.B).Mid := hm.step hR3
        have hsh := sh_step R' hm.r0 hR3
        have HM : Hid (sh R' = sh (R' * 256) + 1) := hsh
        clear hR3 hsh
        generalize C' % 16777216 * 256 + bAt d.B A' = C2 at *
        generalize aAt d.B A' = A2 at *
        go_wp2_with (go_at_call 41; refine hcall.mono ?_; rintro e w1 ⟨rfl, hb2⟩; obtain ⟨z', c0', c1', c2', c3', f0', f1', f2', f3'⟩ := hb4.below hb2)
        have hs1 := cellSh_of c1
        have hnew : B4 _ w.heap.size (.int .u64 C2) (.int .u32 (r * 256)) (.slice a' d.B.length cap') (.int .i64 A2) := ((hb4.below hb2).set (.int .u64 C2) (.int .u32 r) (.slice a' d.B.length cap') (.int .i64 A2)).set1 _
        have hs2 := cellSh_of hnew.c1
        have hr2 : (r * 256).toNat = R' * 256 := by rw [HR.out]; omega
        have hr1 : r.toNat = R' := by rw [HR.out]; omega
        go_roundw
        case rel =>
          exact ⟨C2, R' * 256, A2, r * 256, hms2, hst, by unfold Hid; rw [HR.out]; omega, hnew, ((((((hr4.below hb2).other _ _ _ (by omega)).other _ _ _ (by omega)).other _ _ _ (by omega)).other _ _ _ (by omega)).other _ _ _ (by omega)), bset1 (bset4 (bthen hbr hb2 hbr.size) _ _ _ _ _ (by omega)) _ _ _ (by omega)⟩
        case measure => rw [hs1, hs2, hr2, hr1, HM.out]; omega
      · have hFe : Hid ((De.mk C' R' A' d.B) = F) := by
          unfold Hid
          rw [← HN.out, De.norm_done _ (by show _ ≤ R'; have := HR.out; omega)]
        obtain ⟨rz, r0, r1, r2, r3, p0, p1, p2, p3⟩ := id hr4
        go_wp2
        refine bodyPost_ret (v := .tuple #[.agg #[.int .u64 C', .int .u32 r, .slice a' d.B.length cap', .int .i64 A'], .int .i64 0]) (by simp [results, Try.results61, go_sem, c0, c1, c2, c3, r0, r1, r2, r3, p0, p1, p2, p3, decV]) rfl ⟨a', cap', by rw [← hFe.out, HR.out]; rfl, ?_, ?_⟩
        · exact HRW.out
        · exact bset4 hbr _ _ _ _ _ (by omega)
end Go.Proofs.Ytkfpphccpkfenaa
