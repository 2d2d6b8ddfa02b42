/- Contracts of gain's takeOne, takeAlone, takeAgainst. -/
import Derived.Test.YtkfpphccpkfenaaJd
namespace Go.Proofs.Ytkfpphccpkfenaa
open Go.RowKit
set_option linter.unusedVariables false
set_option linter.unusedSimpArgs false

theorem dG_against (d : De) : dG false d = if d.numV 8 = 7 then (d.numD 8).numD 45 else d.numD 8 := by simp [dG]
theorem vG_against (d : De) (A : Int) : vG false d A = if d.numV 8 = 7 then ((d.numD 8).numV 45 : Int) else clampI (A + (d.numV 8 : Int) - 3) 0 44 := by simp [vG]
theorem dG_alone (d : De) : dG true d = d.numD 45 := by simp [dG]
theorem vG_alone (d : De) (A : Int) : vG true d A = (d.numV 45 : Int) := by simp [vG]
/-- What a call that takes one number answers. -/
def OneT (w : World) (x : Ending) (w' : World) (C R : Int) (a : Option Addr) (n cap : Nat) (A : Int) (d D : De) (v : Int) : Prop := ∃ a' cap', x = .returned (.tuple #[.agg #[.int .u64 D.C, .int .u32 D.R, .slice a' D.B.length cap', .int .i64 D.A], .int .i64 v]) ∧ OutD w w' C R a n cap A d D a' cap'

set_option maxRecDepth 10000 in
set_option maxHeartbeats 2000000 in
theorem gtakeOne_any (C R : Int) (a : Option Addr) (m cap : Nat) (A : Int) (d : De) (n : Nat) (h1 : 1 ≤ n) (h2 : n ≤ 65536) (w : World) (h : DvOf w C R a m cap A d) :
    Calls Try.prog 48 #[.agg #[.int .u64 C, .int .u32 R, .slice a m cap, .int .i64 A], .int .u64 n] w fun x w' => OneT w x w' C R a m cap A d (d.numD n) (d.numV n : Nat) := by
  have hlt := numV_lt d h1 h2
  have htk := fun W h => takeNum_any C R a m cap A d n h1 (by omega) W h
  generalize d.numD n = D at *
  generalize d.numV n = V at *
  have i1 : IntKind.i64.wrap (V : Int) = V := wraps_i64 _ (by omega) (by omega)
  have hW := below2 w (.cells #[.int .u64 C, .int .u32 R, .slice a m cap, .int .i64 A] 30) (.cells #[.int .u64 0, .int .u32 0, .slice none 0 0, .int .i64 0] 30)
  clear h1 h2 hlt
  unfold OneT
  go_enter Try.func48, Try.ntmps48
  go_wp2_with (go_at_call 57; refine (htk _ (h.below hW)).mono ?_; rintro x w1 ⟨a1, c1, rfl, hq, hb1⟩; have hbw1 := bthen hW hb1 hW.size; have hBd := ((B4.new w (.int .u64 C) (.int .u32 R) (.slice a m cap) (.int .i64 A) 30).below (below1 _ (.cells #[.int .u64 0, .int .u32 0, .slice none 0 0, .int .i64 0] 30))).below hb1; have hBr := (B4.new2 w (.cells #[.int .u64 C, .int .u32 R, .slice a m cap, .int .i64 A] 30) (.int .u64 0) (.int .u32 0) (.slice none 0 0) (.int .i64 0) 30).below hb1; obtain ⟨ez, e0, e1, e2, e3, ef0, ef1, ef2, ef3⟩ := id hBd; obtain ⟨rz, r0, r1, r2, r3, p0, p1, p2, p3⟩ := id hBr)
  refine bodyPost_ret (v := .tuple #[.agg #[.int .u64 D.C, .int .u32 D.R, .slice a1 D.B.length c1, .int .i64 D.A], .int .i64 V]) (by simp [results, Try.results48, go_sem, r0, r1, r2, r3, p0, p1, p2, p3, e0, e1, e2, e3, ef0, ef1, ef2, ef3]) rfl ⟨a1, c1, rfl, hq, ?_⟩
  exact bset4 (bset4 hbw1 _ _ _ _ _ (by omega)) _ _ _ _ _ (by omega)

set_option maxRecDepth 10000 in
set_option maxHeartbeats 2000000 in
theorem takeAlone_any (C R : Int) (a : Option Addr) (m cap : Nat) (A : Int) (d : De) (w : World) (h : DvOf w C R a m cap A d) :
    Calls Try.prog 35 #[.agg #[.int .u64 C, .int .u32 R, .slice a m cap, .int .i64 A]] w fun x w' => OneT w x w' C R a m cap A d (d.numD 45) (d.numV 45 : Nat) := by
  have htk := fun W h => gtakeOne_any C R a m cap A d 45 (by decide) (by decide) W h
  generalize d.numD 45 = D at *
  generalize d.numV 45 = V at *
  have hW := below2 w (.cells #[.int .u64 C, .int .u32 R, .slice a m cap, .int .i64 A] 30) (.cells #[.int .u64 0, .int .u32 0, .slice none 0 0, .int .i64 0] 30)
  unfold OneT at *
  go_enter Try.func35, Try.ntmps35
  go_wp2_with (go_at_call 48; refine (htk _ (h.below hW)).mono ?_; rintro x w1 ⟨a1, c1, rfl, hq, hb1⟩; have hbw1 := bthen hW hb1 hW.size; have hBr := (B4.new2 w (.cells #[.int .u64 C, .int .u32 R, .slice a m cap, .int .i64 A] 30) (.int .u64 0) (.int .u32 0) (.slice none 0 0) (.int .i64 0) 30).below hb1; obtain ⟨rz, r0, r1, r2, r3, p0, p1, p2, p3⟩ := id hBr)
  exact bodyPost_ret (v := .tuple #[.agg #[.int .u64 D.C, .int .u32 D.R, .slice a1 D.B.length c1, .int .i64 D.A], .int .i64 V]) (by simp [results, Try.results35, go_sem, r0, r1, r2, r3, p0, p1, p2, p3]) rfl ⟨a1, c1, rfl, hq, bset4 hbw1 _ _ _ _ _ (by omega)⟩

theorem clampI_cases (K : Int) : (K < 0 ∧ clampI K 0 44 = 0) ∨ (K = 0 ∧ clampI K 0 44 = 0) ∨ (0 < K ∧ K < 44 ∧ clampI K 0 44 = K) ∨ (K = 44 ∧ clampI K 0 44 = 44) ∨ (44 < K ∧ clampI K 0 44 = 44) := by
  unfold clampI
  split
  · omega
  · split <;> omega

set_option maxRecDepth 10000 in
set_option maxHeartbeats 2000000 in
theorem takeAgainst_any (C R : Int) (a : Option Addr) (m cap : Nat) (A : Int) (d : De) (G : Nat) (hG : G ≤ 44) (w : World) (h : DvOf w C R a m cap A d) :
    Calls Try.prog 36 #[.agg #[.int .u64 C, .int .u32 R, .slice a m cap, .int .i64 A], .int .i64 G] w fun x w' => OneT w x w' C R a m cap A d (dG false d) (vG false d G) := by
  have htk := fun W h => gtakeOne_any C R a m cap A d 8 (by decide) (by decide) W h
  have hlt := numV_lt d (n := 8) (by decide) (by decide)
  have hok := h.1.numD (n := 8) (by decide) (by decide)
  have hB := De.numD_B d 8
  have hal := fun C R a m cap A W h => takeAlone_any C R a m cap A (d.numD 8) W h
  rw [dG_against, vG_against]
  generalize d.numD 8 = D at *
  generalize d.numV 8 = V at *
  have hW := below2 w (.cells #[.int .u64 C, .int .u32 R, .slice a m cap, .int .i64 A] 30) (.cells #[.int .u64 0, .int .u32 0, .slice none 0 0, .int .i64 0] 30)
  by_cases h7 : V = 7
  · subst h7
    rw [if_pos rfl, if_pos rfl]
    generalize D.numD 45 = D2 at *
    generalize D.numV 45 = V2 at *
    unfold OneT at *
    have hdv := fun (a : Option Addr) (c : Nat) (W : World) (hr : Rw .u8 W (.slice a D.B.length c) D.B) => hok.dv hr
    clear hlt hok hB
    go_enter Try.func36, Try.ntmps36
    go_wp2_with (first | (go_at_call 48; refine (htk _ (h.below hW)).mono ?_; rintro x w1 ⟨a1, c1, rfl, hq, hb1⟩; have hbw1 := bthen hW hb1 hW.size; have hBd := ((B4.new w (.int .u64 C) (.int .u32 R) (.slice a m cap) (.int .i64 A) 30).below (below1 _ (.cells #[.int .u64 0, .int .u32 0, .slice none 0 0, .int .i64 0] 30))).below hb1; have hBr := (B4.new2 w (.cells #[.int .u64 C, .int .u32 R, .slice a m cap, .int .i64 A] 30) (.int .u64 0) (.int .u32 0) (.slice none 0 0) (.int .i64 0) 30).below hb1; obtain ⟨ez, e0, e1, e2, e3, ef0, ef1, ef2, ef3⟩ := id hBd; have hbw2 := bset4 hbw1 w.heap.size (.int .u64 D.C) (.int .u32 D.R) (.slice a1 D.B.length c1) (.int .i64 D.A) (Nat.le_refl _); have hBr2 := (((hBr.other w.heap.size 0 (.int .u64 D.C) (by omega)).other w.heap.size 1 (.int .u32 D.R) (by omega)).other w.heap.size 2 (.slice a1 D.B.length c1) (by omega)).other w.heap.size 3 (.int .i64 D.A) (by omega); have hr1 := (hq _ h).below hbw2) | (go_at_call 35; refine (hal _ _ _ _ _ _ _ (hdv _ _ _ hr1)).mono ?_; rintro x w2 ⟨a2, c2, rfl, hq2, hb2⟩; obtain ⟨rz, r0, r1, r2, r3, p0, p1, p2, p3⟩ := hBr2.below hb2))
    have hbw3 := bthen hbw2 hb2 hbw2.size
    exact bodyPost_ret (v := .tuple #[.agg #[.int .u64 D2.C, .int .u32 D2.R, .slice a2 D2.B.length c2, .int .i64 D2.A], .int .i64 V2]) (by simp [results, Try.results36, go_sem, r0, r1, r2, r3, p0, p1, p2, p3]) rfl ⟨a2, c2, rfl, (fun w1 hh => hq2 w1 (hdv _ _ _ (hq w1 hh))), bset4 hbw3 _ _ _ _ _ (by omega)⟩
  · rw [if_neg h7, if_neg h7]
    have hV7 : ((V : Int) == 7) = false := by simp; omega
    obtain ⟨S, hS⟩ : ∃ S : Int, (G : Int) + (V : Int) = S := ⟨_, rfl⟩
    have hS0 : 0 ≤ S := by omega
    have hS1 : S ≤ 52 := by omega
    rw [hS]
    have hcl := clampI_cases (S - 3)
    generalize clampI (S - 3) 0 44 = Q at *
    unfold OneT at *
    clear hlt hok hB hal h7
    rcases hcl with ⟨k1, rfl⟩ | ⟨k1, rfl⟩ | ⟨k1, k2, rfl⟩ | ⟨k1, rfl⟩ | ⟨k1, rfl⟩
    all_goals
      go_enter Try.func36, Try.ntmps36
      go_wp2_with (go_at_call 48; refine (htk _ (h.below hW)).mono ?_; rintro x w1 ⟨a1, c1, rfl, hq, hb1⟩; have hbw1 := bthen hW hb1 hW.size; have hBd := ((B4.new w (.int .u64 C) (.int .u32 R) (.slice a m cap) (.int .i64 A) 30).below (below1 _ (.cells #[.int .u64 0, .int .u32 0, .slice none 0 0, .int .i64 0] 30))).below hb1; have hBr := (B4.new2 w (.cells #[.int .u64 C, .int .u32 R, .slice a m cap, .int .i64 A] 30) (.int .u64 0) (.int .u32 0) (.slice none 0 0) (.int .i64 0) 30).below hb1; obtain ⟨ez, e0, e1, e2, e3, ef0, ef1, ef2, ef3⟩ := id hBd; obtain ⟨rz, r0, r1, r2, r3, p0, p1, p2, p3⟩ := id hBr)
      exact bodyPost_ret (by simp [results, Try.results36, go_sem, r0, r1, r2, r3, p0, p1, p2, p3, e0, e1, e2, e3, ef0, ef1, ef2, ef3]) rfl ⟨a1, c1, rfl, hq, bset4 (bset4 hbw1 _ _ _ _ _ (by omega)) _ _ _ _ _ (by omega)⟩
end Go.Proofs.Ytkfpphccpkfenaa
