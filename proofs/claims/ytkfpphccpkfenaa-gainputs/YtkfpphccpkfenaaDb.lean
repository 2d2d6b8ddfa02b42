/- A number is taken: the program. -/
import Derived.Test.YtkfpphccpkfenaaDa
namespace Go.Proofs.Ytkfpphccpkfenaa
open Go.RowKit
set_option linter.unusedVariables false
set_option linter.unusedSimpArgs false

theorem De.get_le (d : De) (tot : Nat) : d.get tot ≤ tot - 1 := by unfold De.get; omega
/-- A decoder that a call hands back; the rows of what was handed in stay as they are. -/
def OutD (w : World) (w' : World) (C R : Int) (a : Option Addr) (n cap : Nat) (A : Int) (d D : De) (a' : Option Addr) (cap' : Nat) : Prop := (∀ w1, DvOf w1 C R a n cap A d → Rw .u8 w1 (.slice a' D.B.length cap') D.B) ∧ Below w.heap.size w w'

set_option maxRecDepth 10000 in
set_option maxHeartbeats 2000000 in
theorem takeOne_any (C R : Int) (a : Option Addr) (n cap : Nat) (A : Int) (d : De) (t : Nat) (h1 : 1 ≤ t) (h2 : t ≤ 65536) (w : World) (h : DvOf w C R a n cap A d) :
    Calls Try.prog 59 #[.agg #[.int .u64 C, .int .u32 R, .slice a n cap, .int .i64 A], .int .u64 t] w fun x w' => ∃ a' cap', x = .returned (.tuple #[.agg #[.int .u64 (d.take (d.get t) (d.get t + 1) t).C, .int .u32 (d.take (d.get t) (d.get t + 1) t).R, .slice a' (d.take (d.get t) (d.get t + 1) t).B.length cap', .int .i64 (d.take (d.get t) (d.get t + 1) t).A], .int .u64 (d.get t : Nat)]) ∧ OutD w w' C R a n cap A d (d.take (d.get t) (d.get t + 1) t) a' cap' := by
  have hle := De.get_le d t
  have hf : Fair (d.get t) (d.get t + 1) t := ⟨by omega, by omega, h2⟩
  have hget := fun W h => get_any C R a n cap A d t W h h1 h2
  have htk0 := fun W h => take_any C R a n cap A d (d.get t) (d.get t + 1) t W h hf
  have hB := De.take_B d (d.get t) (d.get t + 1) t
  generalize d.take (d.get t) (d.get t + 1) t = D at *
  generalize d.get t = V at *
  have htk : ∀ W, DvOf W C R a n cap A d → Calls Try.prog 61 #[.agg #[.int .u64 C, .int .u32 R, .slice a n cap, .int .i64 A], .int .i64 V, .int .i64 ((V : Int) + 1), .int .i64 t] W fun e w' => ∃ a' cap', e = .returned (.tuple #[.agg #[.int .u64 D.C, .int .u32 D.R, .slice a' D.B.length cap', .int .i64 D.A], .int .i64 0]) ∧ (∀ w1, DvOf w1 C R a n cap A d → Rw .u8 w1 (.slice a' D.B.length cap') D.B) ∧ Below W.heap.size W w' := fun W hh => by
    have := htk0 W hh
    rw [show ((V + 1 : Nat) : Int) = (V : Int) + 1 by omega] at this
    rw [hB]
    unfold decV at this
    rw [hB] at this
    exact this
  have i1 : IntKind.i64.wrap (t : Int) = t := wraps_i64 _ (by omega) (by omega)
  have i2 : IntKind.u64.wrap (V : Int) = V := nat_u64 _ (by omega)
  have hW := below2 w (.cells #[.int .u64 C, .int .u32 R, .slice a n cap, .int .i64 A] 30) (.cells #[.int .u64 0, .int .u32 0, .slice none 0 0, .int .i64 0] 30)
  clear hB htk0 hf
  go_enter Try.func59, Try.ntmps59
  go_wp2_with (first | (go_at_call 60; refine (hget _ (h.below hW)).mono ?_; rintro x w1 ⟨rfl, hb1⟩; have hbw1 := bthen hW hb1 hW.size; have hBd := ((B4.new w (.int .u64 C) (.int .u32 R) (.slice a n cap) (.int .i64 A) 30).below (below1 _ (.cells #[.int .u64 0, .int .u32 0, .slice none 0 0, .int .i64 0] 30))).below hb1; have hBr := (B4.new2 w (.cells #[.int .u64 C, .int .u32 R, .slice a n cap, .int .i64 A] 30) (.int .u64 0) (.int .u32 0) (.slice none 0 0) (.int .i64 0) 30).below hb1; obtain ⟨dz, d0, d1, d2, d3, df0, df1, df2, df3⟩ := id hBd) | (go_at_call 61; refine (htk _ (h.below hbw1)).mono ?_; rintro x w2 ⟨a2, c2, rfl, hrw, hb2⟩; have hbw2 := bthen hbw1 hb2 hbw1.size; obtain ⟨ez, e0, e1, e2, e3, ef0, ef1, ef2, ef3⟩ := hBd.below hb2; obtain ⟨rz, r0, r1, r2, r3, p0, p1, p2, p3⟩ := hBr.below hb2))
  refine bodyPost_ret (v := .tuple #[.agg #[.int .u64 D.C, .int .u32 D.R, .slice a2 D.B.length c2, .int .i64 D.A], .int .u64 V]) (by simp [results, Try.results59, go_sem, r0, r1, r2, r3, p0, p1, p2, p3, e0, e1, e2, e3]) rfl ⟨a2, c2, rfl, hrw, ?_⟩
  exact bset4 (bset4 hbw2 _ _ _ _ _ (by omega)) _ _ _ _ _ (by omega)

/-! ### What TakeNum answers -/
def De.upD (d : De) (n : Nat) : De := d.take (d.get ((n - 1) / 65536 + 1)) (d.get ((n - 1) / 65536 + 1) + 1) ((n - 1) / 65536 + 1)
def De.numD (d : De) (n : Nat) : De := if n ≤ 65536 then d.take (d.get n) (d.get n + 1) n else (d.upD n).take ((d.upD n).get 65536) ((d.upD n).get 65536 + 1) 65536
def De.numV (d : De) (n : Nat) : Nat := if n ≤ 65536 then d.get n else min (d.get ((n - 1) / 65536 + 1) * 65536 + (d.upD n).get 65536) (n - 1)

set_option maxRecDepth 10000 in
set_option maxHeartbeats 2000000 in
theorem takeNum_arg (C R : Int) (a : Option Addr) (m cap : Nat) (A : Int) (d : De) (n : Nat) (hn : n < 1 ∨ 4294967296 < n) (w : World) (h : DvOf w C R a m cap A d) :
    Calls Try.prog 57 #[.agg #[.int .u64 C, .int .u32 R, .slice a m cap, .int .i64 A], .int .u64 n] w fun x w' => ∃ a' cap', x = .returned (.tuple #[.agg #[.int .u64 d.C, .int .u32 d.R, .slice a' d.B.length cap', .int .i64 d.A], .int .u64 0, .int .i64 1]) ∧ OutD w w' C R a m cap A d d a' cap' := by
  have hW := below2 w (.cells #[.int .u64 C, .int .u32 R, .slice a m cap, .int .i64 A] 30) (.cells #[.int .u64 0, .int .u32 0, .slice none 0 0, .int .i64 0] 30)
  have h3 : (n : Int) < 1 ∨ (¬ (n : Int) < 1 ∧ (4294967296 : Int) < n) := by omega
  clear hn
  rcases h3 with h1 | ⟨h1, h2⟩
  all_goals
    go_enter Try.func57, Try.ntmps57
    go_wp2_with (go_at_call 58; refine (decFor_any _ _ _ _ _ _ d w _ h).mono ?_; rintro x w1 ⟨a1, c1, rfl, hrw, hb1⟩; unfold decV; obtain ⟨rz, r0, r1, r2, r3, p0, p1, p2, p3⟩ := (B4.new2 w _ _ _ _ _ _).below hb1)
    refine bodyPost_ret (v := .tuple #[.agg #[.int .u64 d.C, .int .u32 d.R, .slice a1 d.B.length c1, .int .i64 d.A], .int .u64 0, .int .i64 1]) (by simp [results, Try.results57, go_sem, r0, r1, r2, r3, p0, p1, p2, p3]) rfl ⟨a1, c1, rfl, hrw, ?_⟩
    exact bset4 (bthen hW hb1 hW.size) _ _ _ _ _ (by omega)

set_option maxRecDepth 10000 in
set_option maxHeartbeats 2000000 in
theorem takeNum_small (C R : Int) (a : Option Addr) (m cap : Nat) (A : Int) (d D : De) (V n : Nat) (h1 : 1 ≤ n) (h2 : n ≤ 65536)
    (htk : ∀ W, DvOf W C R a m cap A d → Calls Try.prog 59 #[.agg #[.int .u64 C, .int .u32 R, .slice a m cap, .int .i64 A], .int .u64 n] W fun x w' => ∃ a' cap', x = .returned (.tuple #[.agg #[.int .u64 D.C, .int .u32 D.R, .slice a' D.B.length cap', .int .i64 D.A], .int .u64 V]) ∧ OutD W w' C R a m cap A d D a' cap')
    (w : World) (h : DvOf w C R a m cap A d) :
    Calls Try.prog 57 #[.agg #[.int .u64 C, .int .u32 R, .slice a m cap, .int .i64 A], .int .u64 n] w fun x w' => ∃ a' cap', x = .returned (.tuple #[.agg #[.int .u64 D.C, .int .u32 D.R, .slice a' D.B.length cap', .int .i64 D.A], .int .u64 V, .int .i64 0]) ∧ OutD w w' C R a m cap A d D a' cap' := by
  have hW := below2 w (.cells #[.int .u64 C, .int .u32 R, .slice a m cap, .int .i64 A] 30) (.cells #[.int .u64 0, .int .u32 0, .slice none 0 0, .int .i64 0] 30)
  have k1 : ¬ (n : Int) < 1 := by omega
  have k2 : ¬ (4294967296 : Int) < n := by omega
  have k3 : (n : Int) ≤ 65536 := by omega
  clear h1 h2
  go_enter Try.func57, Try.ntmps57
  go_wp2_with (go_at_call 59; refine (htk _ (h.below hW)).mono ?_; rintro x w1 ⟨a1, c1, rfl, hrw, hb1⟩; have hBr := ((B4.new2 w (.cells #[.int .u64 C, .int .u32 R, .slice a m cap, .int .i64 A] 30) (.int .u64 0) (.int .u32 0) (.slice none 0 0) (.int .i64 0) 30).below hb1).below (below1 w1 (.cells #[.int .u64 D.C, .int .u32 D.R, .slice a1 D.B.length c1, .int .i64 D.A] 30)); obtain ⟨rz, r0, r1, r2, r3, p0, p1, p2, p3⟩ := id hBr)
  have hbw := bthen hW hb1 hW.size
  refine bodyPost_ret (v := .tuple #[.agg #[.int .u64 D.C, .int .u32 D.R, .slice a1 D.B.length c1, .int .i64 D.A], .int .u64 V, .int .i64 0]) (by simp [results, Try.results57, go_sem, r0, r1, r2, r3, p0, p1, p2, p3]) rfl ⟨a1, c1, rfl, hrw, ?_⟩
  exact bset4 (hbw.alloc hbw.size _) _ _ _ _ _ (by omega)
end Go.Proofs.Ytkfpphccpkfenaa
