/- A number is taken: the program, at a great one; the document. -/
import Derived.Test.YtkfpphccpkfenaaDb
import Derived.Deep.RegionWith
namespace Go.Proofs.Ytkfpphccpkfenaa
open Go.RowKit
set_option linter.unusedVariables false
set_option linter.unusedSimpArgs false

set_option maxRecDepth 10000 in
set_option maxHeartbeats 4000000 in
theorem takeNum_great (C R : Int) (a : Option Addr) (m cap : Nat) (A : Int) (d D1 D2 : De) (V1 V2 V n u : Nat) (h1 : 65536 < n) (h2 : n ≤ 4294967296) (hu : u = (n - 1) / 65536 + 1) (hV1 : V1 ≤ 65535) (hV2 : V2 ≤ 65535) (hV : V = min (V1 * 65536 + V2) (n - 1))
    (htk : ∀ W, DvOf W C R a m cap A d → Calls Try.prog 59 #[.agg #[.int .u64 C, .int .u32 R, .slice a m cap, .int .i64 A], .int .u64 u] W fun x w' => ∃ a' cap', x = .returned (.tuple #[.agg #[.int .u64 D1.C, .int .u32 D1.R, .slice a' D1.B.length cap', .int .i64 D1.A], .int .u64 V1]) ∧ OutD W w' C R a m cap A d D1 a' cap')
    (htk2 : ∀ W a c, Rw .u8 W (.slice a D1.B.length c) D1.B → Calls Try.prog 59 #[.agg #[.int .u64 D1.C, .int .u32 D1.R, .slice a D1.B.length c, .int .i64 D1.A], .int .u64 65536] W fun x w' => ∃ a' cap', x = .returned (.tuple #[.agg #[.int .u64 D2.C, .int .u32 D2.R, .slice a' D2.B.length cap', .int .i64 D2.A], .int .u64 V2]) ∧ (∀ w1, Rw .u8 w1 (.slice a D1.B.length c) D1.B → Rw .u8 w1 (.slice a' D2.B.length cap') D2.B) ∧ Below W.heap.size W w')
    (w : World) (h : DvOf w C R a m cap A d) :
    Calls Try.prog 57 #[.agg #[.int .u64 C, .int .u32 R, .slice a m cap, .int .i64 A], .int .u64 n] w fun x w' => ∃ a' cap', x = .returned (.tuple #[.agg #[.int .u64 D2.C, .int .u32 D2.R, .slice a' D2.B.length cap', .int .i64 D2.A], .int .u64 V, .int .i64 0]) ∧ OutD w w' C R a m cap A d D2 a' cap' := by
  have hup := fun W => upper_any n (by omega) h2 W
  rw [← hu] at hup
  have hW := below2 w (.cells #[.int .u64 C, .int .u32 R, .slice a m cap, .int .i64 A] 30) (.cells #[.int .u64 0, .int .u32 0, .slice none 0 0, .int .i64 0] 30)
  have hBd := (B4.new w (.int .u64 C) (.int .u32 R) (.slice a m cap) (.int .i64 A) 30).below (below1 _ (.cells #[.int .u64 0, .int .u32 0, .slice none 0 0, .int .i64 0] 30))
  have hBr := B4.new2 w (.cells #[.int .u64 C, .int .u32 R, .slice a m cap, .int .i64 A] 30) (.int .u64 0) (.int .u32 0) (.slice none 0 0) (.int .i64 0) 30
  have hd := h.below hW
  have k1 : ¬ (n : Int) < 1 := by omega
  have k2 : ¬ (4294967296 : Int) < n := by omega
  have k3 : ¬ (n : Int) ≤ 65536 := by omega
  have hVi : (V : Int) = min ((V1 : Int) * 65536 + V2) ((n : Int) - 1) := by omega
  have HV : Hid ((V : Int) = min ((V1 : Int) * 65536 + V2) ((n : Int) - 1)) := hVi
  have k4 : (V1 : Int) * 65536 + V2 < 4294967296 := by omega
  have hsz : w.heap.size + 2 ≤ ((w.alloc (.cells #[.int .u64 C, .int .u32 R, .slice a m cap, .int .i64 A] 30)).alloc (.cells #[.int .u64 0, .int .u32 0, .slice none 0 0, .int .i64 0] 30)).heap.size := by simp
  clear hu h1 h2 hV hVi
  have h3 : ((V1 : Int) * 65536 + V2 < (n : Int) - 1) ∨ ((V1 : Int) * 65536 + V2 ≤ (n : Int) - 1 ∧ (n : Int) - 1 ≤ (V1 : Int) * 65536 + V2) ∨ ((n : Int) - 1 < (V1 : Int) * 65536 + V2) := by omega
  rcases h3 with h3 | ⟨h3, h4⟩ | h3
  all_goals
    go_enter Try.func57, Try.ntmps57
    go_wp2_with fail
    generalize ((w.alloc (.cells #[.int .u64 C, .int .u32 R, .slice a m cap, .int .i64 A] 30)).alloc (.cells #[.int .u64 0, .int .u32 0, .slice none 0 0, .int .i64 0] 30)) = W at *
    obtain ⟨dz, d0, d1, d2, d3, df0, df1, df2, df3⟩ := id hBd
    go_cut [9] (fun p9 wz => ∃ x9 c9, p9 = .int .u64 V1 ∧ (∀ w1, DvOf w1 C R a m cap A d → Rw .u8 w1 (.slice x9 D1.B.length c9) D1.B) ∧ B4 wz w.heap.size (.int .u64 D1.C) (.int .u32 D1.R) (.slice x9 D1.B.length c9) (.int .i64 D1.A) ∧ B4 wz (w.heap.size + 1) (.int .u64 0) (.int .u32 0) (.slice none 0 0) (.int .i64 0) ∧ Below w.heap.size w wz)
    case first =>
      go_region_with (first | (go_at_call 56; refine (hup _).mono ?_; rintro x y0 ⟨rfl, rfl⟩) | (go_at_call 59; refine (htk _ (hd.below (Below.refl W.heap.size W).drew)).mono ?_; rintro x y1 ⟨x9, c9, rfl, q9, e1⟩; have hBd1 := hBd.below (drew_below e1); have hBr1 := hBr.below (drew_below e1); have hbw1 := bthen hW (drew_below e1) hW.size; obtain ⟨ez, e0, e1', e2, e3, ef0, ef1, ef2, ef3⟩ := id hBd1))
      all_goals go_wp2
      all_goals go_meet
      all_goals exact ⟨x9, c9, rfl, q9, hBd1.set _ _ _ _, (((hBr1.other _ _ _ (by omega)).other _ _ _ (by omega)).other _ _ _ (by omega)).other _ _ _ (by omega), bset4 hbw1 _ _ _ _ _ (by omega)⟩
    case rest =>
      obtain ⟨x9, c9, rfl, q9, hB1, hR1, hbw⟩ := hcut
      clear d0 d1 d2 d3 df0 df1 df2 df3 dz hBd hBr htk hup
      obtain ⟨dz, d0, d1, d2, d3, df0, df1, df2, df3⟩ := id hB1
      have hrw1 := (q9 _ h).below hbw
      have hR1z := hR1.z
      go_wp2_with (go_at_call 59; refine (htk2 _ _ _ hrw1).mono ?_; rintro x w3 ⟨a3, c3, rfl, q3, hb3⟩; obtain ⟨ez, e0, e1, e2, e3, ef0, ef1, ef2, ef3⟩ := hB1.below hb3; have hR3 := (((((hR1.below hb3).other w.heap.size 0 (.int .u64 D2.C) (by omega)).other w.heap.size 1 (.int .u32 D2.R) (by omega)).other w.heap.size 2 (.slice a3 D2.B.length c3) (by omega)).other w.heap.size 3 (.int .i64 D2.A) (by omega)); obtain ⟨rz, r0, r1, r2, r3, p0, p1, p2, p3⟩ := id hR3)
      have e := HV.out
      first
        | (have hX : (V : Int) = (V1 : Int) * 65536 + V2 := by omega
           rw [hX]
           exact bodyPost_ret (v := .tuple #[.agg #[.int .u64 D2.C, .int .u32 D2.R, .slice a3 D2.B.length c3, .int .i64 D2.A], .int .u64 ((V1 : Int) * 65536 + V2), .int .i64 0]) (by simp [results, Try.results57, go_sem, r0, r1, r2, r3, p0, p1, p2, p3, e0, e1, e2, e3]) rfl ⟨a3, c3, rfl, fun w1 hh => q3 w1 (q9 w1 hh), bset4 (bset4 (bthen hbw hb3 hbw.size) _ _ _ _ _ (by omega)) _ _ _ _ _ (by omega)⟩)
        | (have hX : (V : Int) = (n : Int) - 1 := by omega
           rw [hX]
           exact bodyPost_ret (v := .tuple #[.agg #[.int .u64 D2.C, .int .u32 D2.R, .slice a3 D2.B.length c3, .int .i64 D2.A], .int .u64 ((n : Int) - 1), .int .i64 0]) (by simp [results, Try.results57, go_sem, r0, r1, r2, r3, p0, p1, p2, p3, e0, e1, e2, e3]) rfl ⟨a3, c3, rfl, fun w1 hh => q3 w1 (q9 w1 hh), bset4 (bset4 (bthen hbw hb3 hbw.size) _ _ _ _ _ (by omega)) _ _ _ _ _ (by omega)⟩)

theorem takeNum_any (C R : Int) (a : Option Addr) (m cap : Nat) (A : Int) (d : De) (n : Nat) (h1 : 1 ≤ n) (h2 : n ≤ 4294967296) (w : World) (h : DvOf w C R a m cap A d) :
    Calls Try.prog 57 #[.agg #[.int .u64 C, .int .u32 R, .slice a m cap, .int .i64 A], .int .u64 n] w fun x w' => ∃ a' cap', x = .returned (.tuple #[.agg #[.int .u64 (d.numD n).C, .int .u32 (d.numD n).R, .slice a' (d.numD n).B.length cap', .int .i64 (d.numD n).A], .int .u64 (d.numV n : Nat), .int .i64 0]) ∧ OutD w w' C R a m cap A d (d.numD n) a' cap' := by
  unfold De.numD De.numV
  by_cases hn : n ≤ 65536
  · simp only [hn, if_true]
    exact takeNum_small C R a m cap A d _ _ n h1 hn (fun W hh => takeOne_any C R a m cap A d n h1 hn W hh) w h
  · simp only [hn, if_false]
    have hu1 : 1 ≤ (n - 1) / 65536 + 1 := by omega
    have hu2 : (n - 1) / 65536 + 1 ≤ 65536 := by omega
    have hf1 : Fair (d.get ((n - 1) / 65536 + 1)) (d.get ((n - 1) / 65536 + 1) + 1) ((n - 1) / 65536 + 1) := ⟨by omega, by have := De.get_le d ((n - 1) / 65536 + 1); omega, hu2⟩
    have hok1 : (d.upD n).Ok := h.1.take hf1
    have g1 := De.get_le d ((n - 1) / 65536 + 1)
    have g2 := De.get_le (d.upD n) 65536
    refine takeNum_great C R a m cap A d (d.upD n) _ (d.get ((n - 1) / 65536 + 1)) ((d.upD n).get 65536) _ n ((n - 1) / 65536 + 1) (by omega) h2 rfl (by omega) (by omega) rfl (fun W hh => takeOne_any C R a m cap A d _ hu1 hu2 W hh) (fun W a c hr => ?_) w h
    refine (takeOne_any _ _ a _ c _ (d.upD n) 65536 (by omega) (by omega) W (hok1.dv hr)).mono ?_
    rintro x w' ⟨a', c', rfl, q, hb⟩
    exact ⟨a', c', rfl, fun w1 hh => q w1 (hok1.dv hh), hb⟩
theorem De.Ok.numD {d : De} (h : d.Ok) {n : Nat} (h1 : 1 ≤ n) (h2 : n ≤ 4294967296) : (d.numD n).Ok := by
  unfold De.numD
  split
  · rename_i hn
    exact h.take ⟨by omega, by have := De.get_le d n; omega, hn⟩
  · have hok1 : (d.upD n).Ok := h.take ⟨by omega, by have := De.get_le d ((n - 1) / 65536 + 1); omega, by omega⟩
    exact hok1.take ⟨by omega, by have := De.get_le (d.upD n) 65536; omega, by omega⟩
theorem De.numD_B (d : De) (n : Nat) : (d.numD n).B = d.B := by
  unfold De.numD De.upD
  split
  · exact De.take_B _ _ _ _
  · rw [De.take_B, De.take_B]
end Go.Proofs.Ytkfpphccpkfenaa
