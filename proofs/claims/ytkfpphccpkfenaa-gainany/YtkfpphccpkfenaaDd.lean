/- A number is taken: the document. -/
import Derived.Test.YtkfpphccpkfenaaDc
namespace Go.Proofs.Ytkfpphccpkfenaa
open Go.RowKit
set_option linter.unusedVariables false
set_option linter.unusedSimpArgs false

theorem rget_w (a : Option Addr) (cap : Nat) (d : De) (tot : Nat) (w : World) (h : d.Ok) (h1 : 1 ≤ tot) (h2 : tot ≤ 65536) :
    Calls Try.prog 37 #[.agg #[.int .u64 d.C, .int .u64 d.R, .slice a d.B.length cap, .int .i64 d.A], .int .i64 tot] w fun e w' => e = .returned (.int .i64 (d.get tot : Nat)) ∧ Below w.heap.size w w' := rget_any a cap d tot w h h1 h2
theorem rtake_w (a : Option Addr) (cap : Nat) (d : De) (v tot : Nat) (w : World) (h : d.Ok) (hr : Rw .u8 w (.slice a d.B.length cap) d.B) (hf : Fair v (v + 1) tot) :
    Calls Try.prog 38 #[.agg #[.int .u64 d.C, .int .u64 d.R, .slice a d.B.length cap, .int .i64 d.A], .int .i64 v, .int .i64 ((v : Int) + 1), .int .i64 tot] w fun e w' => e = .returned (.agg #[.int .u64 (d.take v (v + 1) tot).C, .int .u64 (d.take v (v + 1) tot).R, .slice a (d.take v (v + 1) tot).B.length cap, .int .i64 (d.take v (v + 1) tot).A]) ∧ Below w.heap.size w w' := by
  have := rtake_any a cap d v (v + 1) tot w h hr hf
  rw [show ((v + 1 : Nat) : Int) = (v : Int) + 1 by omega] at this
  exact this

set_option maxRecDepth 10000 in
set_option maxHeartbeats 2000000 in
theorem rtakeNum_small (a : Option Addr) (cap : Nat) (d : De) (n : Nat) (h1 : 1 ≤ n) (h2 : n ≤ 65536) (w : World) (h : d.Ok) (hr : Rw .u8 w (.slice a d.B.length cap) d.B) :
    Calls Try.prog 39 #[.agg #[.int .u64 d.C, .int .u64 d.R, .slice a d.B.length cap, .int .i64 d.A], .int .u64 n] w fun x w' => x = .returned (.tuple #[decW a cap (d.take (d.get n) (d.get n + 1) n), .int .u64 (d.get n : Nat)]) ∧ Below w.heap.size w w' := by
  have hle := De.get_le d n
  have hf : Fair (d.get n) (d.get n + 1) n := ⟨by omega, by omega, h2⟩
  have hget := fun W => rget_w a cap d n W h h1 h2
  have htk := fun W hr => rtake_w a cap d (d.get n) n W h hr hf
  unfold decW
  generalize d.take (d.get n) (d.get n + 1) n = D at *
  generalize d.get n = V at *
  have i1 : IntKind.i64.wrap (n : Int) = n := wraps_i64 _ (by omega) (by omega)
  have i2 : IntKind.u64.wrap (V : Int) = V := nat_u64 _ (by omega)
  have k3 : (n : Int) ≤ 65536 := by omega
  have hW := below2 w (.cells #[.int .u64 d.C, .int .u64 d.R, .slice a d.B.length cap, .int .i64 d.A] 46) (.cells #[.int .u64 0, .int .u64 0, .slice none 0 0, .int .i64 0] 46)
  clear hf
  go_enter Try.func39, Try.ntmps39
  go_wp2_with (first | (go_at_call 37; refine (hget _).mono ?_; rintro x w1 ⟨rfl, hb1⟩; have hbw1 := bthen hW hb1 hW.size; have hBd := ((B4.new w (.int .u64 d.C) (.int .u64 d.R) (.slice a d.B.length cap) (.int .i64 d.A) 46).below (below1 _ (.cells #[.int .u64 0, .int .u64 0, .slice none 0 0, .int .i64 0] 46))).below hb1; have hBr := (B4.new2 w (.cells #[.int .u64 d.C, .int .u64 d.R, .slice a d.B.length cap, .int .i64 d.A] 46) (.int .u64 0) (.int .u64 0) (.slice none 0 0) (.int .i64 0) 46).below hb1; obtain ⟨dz, d0, d1, d2, d3, df0, df1, df2, df3⟩ := id hBd) | (go_at_call 38; refine (htk _ (hr.below hbw1)).mono ?_; rintro x w2 ⟨rfl, hb2⟩; have hbw2 := bthen hbw1 hb2 hbw1.size; obtain ⟨rz, r0, r1, r2, r3, p0, p1, p2, p3⟩ := hBr.below hb2))
  exact bodyPost_ret (v := .tuple #[.agg #[.int .u64 D.C, .int .u64 D.R, .slice a D.B.length cap, .int .i64 D.A], .int .u64 V]) (by simp [results, Try.results39, go_sem, r0, r1, r2, r3, p0, p1, p2, p3]) rfl ⟨rfl, bset4 hbw2 _ _ _ _ _ (by omega)⟩

set_option maxRecDepth 10000 in
set_option maxHeartbeats 4000000 in
theorem rtakeNum_great (a : Option Addr) (cap : Nat) (d D1 D2 : De) (V1 V2 V k q : Nat) (h1 : 65536 ≤ k) (h2 : k < 4294967296) (hq : q = k / 65536) (hV1 : V1 ≤ 65535) (hV2 : V2 ≤ 65535) (hV : V = min (V1 * 65536 + V2) k)
    (hget1 : ∀ W, Calls Try.prog 37 #[.agg #[.int .u64 d.C, .int .u64 d.R, .slice a d.B.length cap, .int .i64 d.A], .int .i64 ((q : Int) + 1)] W fun e w' => e = .returned (.int .i64 V1) ∧ Below W.heap.size W w')
    (htk1 : ∀ W, Rw .u8 W (.slice a d.B.length cap) d.B → Calls Try.prog 38 #[.agg #[.int .u64 d.C, .int .u64 d.R, .slice a d.B.length cap, .int .i64 d.A], .int .i64 V1, .int .i64 ((V1 : Int) + 1), .int .i64 ((q : Int) + 1)] W fun e w' => e = .returned (.agg #[.int .u64 D1.C, .int .u64 D1.R, .slice a D1.B.length cap, .int .i64 D1.A]) ∧ Below W.heap.size W w')
    (hget2 : ∀ W, Calls Try.prog 37 #[.agg #[.int .u64 D1.C, .int .u64 D1.R, .slice a D1.B.length cap, .int .i64 D1.A], .int .i64 65536] W fun e w' => e = .returned (.int .i64 V2) ∧ Below W.heap.size W w')
    (htk2 : ∀ W, Rw .u8 W (.slice a D1.B.length cap) D1.B → Calls Try.prog 38 #[.agg #[.int .u64 D1.C, .int .u64 D1.R, .slice a D1.B.length cap, .int .i64 D1.A], .int .i64 V2, .int .i64 ((V2 : Int) + 1), .int .i64 65536] W fun e w' => e = .returned (.agg #[.int .u64 D2.C, .int .u64 D2.R, .slice a D2.B.length cap, .int .i64 D2.A]) ∧ Below W.heap.size W w')
    (w : World) (hr : Rw .u8 w (.slice a d.B.length cap) d.B) (hr1 : Rw .u8 w (.slice a D1.B.length cap) D1.B) :
    Calls Try.prog 39 #[.agg #[.int .u64 d.C, .int .u64 d.R, .slice a d.B.length cap, .int .i64 d.A], .int .u64 ((k : Int) + 1)] w fun x w' => x = .returned (.tuple #[.agg #[.int .u64 D2.C, .int .u64 D2.R, .slice a D2.B.length cap, .int .i64 D2.A], .int .u64 V]) ∧ Below w.heap.size w w' := by
  have hd3 : ((k : Int).tdiv 65536) = (q : Int) := by rw [hq]; rfl
  have k3 : ¬ ((k : Int) + 1) ≤ 65536 := by omega
  have k5 : q ≤ 65536 := by omega
  have hVi : (V : Int) = min ((V1 : Int) * 65536 + V2) (k : Int) := by omega
  have HV : Hid ((V : Int) = min ((V1 : Int) * 65536 + V2) (k : Int)) := hVi
  have k4 : (V1 : Int) * 65536 + V2 < 4294967296 := by omega
  have i1 : IntKind.i64.wrap (q : Int) = q := wraps_i64 _ (by omega) (by omega)
  have i2 : IntKind.u64.wrap (V1 : Int) = V1 := nat_u64 _ (by omega)
  have i3 : IntKind.u64.wrap (V2 : Int) = V2 := nat_u64 _ (by omega)
  have hW := below2 w (.cells #[.int .u64 d.C, .int .u64 d.R, .slice a d.B.length cap, .int .i64 d.A] 46) (.cells #[.int .u64 0, .int .u64 0, .slice none 0 0, .int .i64 0] 46)
  obtain ⟨P, hP⟩ : ∃ P : Int, (V1 : Int) * 65536 + V2 = P := ⟨_, rfl⟩
  have hP0 : 0 ≤ P := by omega
  have hP1 : P < 4294967296 := by omega
  have HVP : Hid ((V : Int) = min P (k : Int)) := by unfold Hid; omega
  have h3 : (P ≤ (k : Int)) ∨ ((k : Int) < P) := by omega
  clear HV k4
  have k6 : (k : Int) < 4294967296 := by omega
  obtain ⟨M, hM⟩ : ∃ M : Int, (V1 : Int) * 65536 = M := ⟨_, rfl⟩
  have hM0 : 0 ≤ M := by omega
  have hM1 : M < 4294967296 := by omega
  rw [hM] at hP
  clear hq hV hVi h1 h2 hV1 hV2
  obtain ⟨N, hN⟩ : ∃ N : Int, (k : Int) = N := ⟨_, rfl⟩
  rw [hN] at hd3 k3 k6 HVP h3 ⊢
  clear hN
  have k9 : 65536 ≤ N := by omega
  rcases h3 with h3 | h3
  all_goals
    go_enter Try.func39, Try.ntmps39
    go_wp2_with (first | (go_at_call_of 37 (Value.agg #[.int .u64 d.C, .int .u64 d.R, .slice a d.B.length cap, .int .i64 d.A]); refine (hget1 _).mono ?_; rintro x w1 ⟨rfl, hb1⟩; have hbw1 := bthen hW hb1 hW.size; have hBd := ((B4.new w (.int .u64 d.C) (.int .u64 d.R) (.slice a d.B.length cap) (.int .i64 d.A) 46).below (below1 _ (.cells #[.int .u64 0, .int .u64 0, .slice none 0 0, .int .i64 0] 46))).below hb1; have hBr := (B4.new2 w (.cells #[.int .u64 d.C, .int .u64 d.R, .slice a d.B.length cap, .int .i64 d.A] 46) (.int .u64 0) (.int .u64 0) (.slice none 0 0) (.int .i64 0) 46).below hb1; obtain ⟨dz, d0, d1, d2, d3, df0, df1, df2, df3⟩ := id hBd) | (go_at_call_of 38 (Value.int IntKind.i64 (V1 : Int)); refine (htk1 _ (hr.below hbw1)).mono ?_; rintro x w2 ⟨rfl, hb2⟩; have hB2 := (hBd.below hb2).set (.int .u64 D1.C) (.int .u64 D1.R) (.slice a D1.B.length cap) (.int .i64 D1.A); have hR2 := (((((hBr.below hb2).other w.heap.size 0 (.int .u64 D1.C) (by omega)).other w.heap.size 1 (.int .u64 D1.R) (by omega)).other w.heap.size 2 (.slice a D1.B.length cap) (by omega)).other w.heap.size 3 (.int .i64 D1.A) (by omega)); have hbw2 := bset4 (bthen hbw1 hb2 hbw1.size) w.heap.size (.int .u64 D1.C) (.int .u64 D1.R) (.slice a D1.B.length cap) (.int .i64 D1.A) (Nat.le_refl _); obtain ⟨ez, e0, e1, e2, e3, ef0, ef1, ef2, ef3⟩ := hBd.below hb2) | (go_at_call_of 37 (Value.agg #[.int .u64 D1.C, .int .u64 D1.R, .slice a D1.B.length cap, .int .i64 D1.A]); refine (hget2 _).mono ?_; rintro x w3 ⟨rfl, hb3⟩; have hB3 := hB2.below hb3; have hR3 := hR2.below hb3; have hbw3 := bthen hbw2 hb3 hbw2.size; obtain ⟨gz, g0, g1, g2, g3, gf0, gf1, gf2, gf3⟩ := id hB3) | (go_at_call_of 38 (Value.int IntKind.i64 (V2 : Int)); refine (htk2 _ (hr1.below hbw3)).mono ?_; rintro x w4 ⟨rfl, hb4⟩; clear k5; have hR4 := (((((hR3.below hb4).other w.heap.size 0 (.int .u64 D2.C) (by omega)).other w.heap.size 1 (.int .u64 D2.R) (by omega)).other w.heap.size 2 (.slice a D2.B.length cap) (by omega)).other w.heap.size 3 (.int .i64 D2.A) (by omega)); have hbw4 := bset4 (bthen hbw3 hb4 hbw3.size) w.heap.size (.int .u64 D2.C) (.int .u64 D2.R) (.slice a D2.B.length cap) (.int .i64 D2.A) (Nat.le_refl _); obtain ⟨kz, k0, k1, k2, k3, kf0, kf1, kf2, kf3⟩ := hB3.below hb4; obtain ⟨rz, r0, r1, r2, r3, p0, p1, p2, p3⟩ := id hR4))
    have e := HVP.out
    first
      | (have hX : (V : Int) = P := by omega
         rw [hX]
         exact bodyPost_ret (v := .tuple #[.agg #[.int .u64 D2.C, .int .u64 D2.R, .slice a D2.B.length cap, .int .i64 D2.A], .int .u64 P]) (by simp [results, Try.results39, go_sem, r0, r1, r2, r3, p0, p1, p2, p3, k0, k1, k2, k3]) rfl ⟨rfl, bset4 hbw4 _ _ _ _ _ (by omega)⟩)
      | (have hX : (V : Int) = N := by omega
         rw [hX]
         exact bodyPost_ret (v := .tuple #[.agg #[.int .u64 D2.C, .int .u64 D2.R, .slice a D2.B.length cap, .int .i64 D2.A], .int .u64 N]) (by simp [results, Try.results39, go_sem, r0, r1, r2, r3, p0, p1, p2, p3, k0, k1, k2, k3]) rfl ⟨rfl, bset4 hbw4 _ _ _ _ _ (by omega)⟩)

theorem rtakeNum_any (a : Option Addr) (cap : Nat) (d : De) (n : Nat) (h1 : 1 ≤ n) (h2 : n ≤ 4294967296) (w : World) (h : d.Ok) (hr : Rw .u8 w (.slice a d.B.length cap) d.B) :
    Calls Try.prog 39 #[.agg #[.int .u64 d.C, .int .u64 d.R, .slice a d.B.length cap, .int .i64 d.A], .int .u64 n] w fun x w' => x = .returned (.tuple #[decW a cap (d.numD n), .int .u64 (d.numV n : Nat)]) ∧ Below w.heap.size w w' := by
  unfold De.numD De.numV
  by_cases hn : n ≤ 65536
  · simp only [hn, if_true]
    exact rtakeNum_small a cap d n h1 hn w h hr
  · simp only [hn, if_false]
    obtain ⟨k, rfl⟩ : ∃ k, n = k + 1 := ⟨n - 1, by omega⟩
    have hc : ((k / 65536 + 1 : Nat) : Int) = ((k / 65536 : Nat) : Int) + 1 := by omega
    have hup : d.upD (k + 1) = d.take (d.get (k / 65536 + 1)) (d.get (k / 65536 + 1) + 1) (k / 65536 + 1) := rfl
    have hf1 : Fair (d.get (k / 65536 + 1)) (d.get (k / 65536 + 1) + 1) (k / 65536 + 1) := ⟨by omega, by have := De.get_le d (k / 65536 + 1); omega, by omega⟩
    have hok1 : (d.upD (k + 1)).Ok := h.take hf1
    have hf2 : Fair ((d.upD (k + 1)).get 65536) ((d.upD (k + 1)).get 65536 + 1) 65536 := ⟨by omega, by have := De.get_le (d.upD (k + 1)) 65536; omega, by omega⟩
    have g1 := De.get_le d (k / 65536 + 1)
    have g2 := De.get_le (d.upD (k + 1)) 65536
    have hB1 : (d.upD (k + 1)).B = d.B := De.take_B _ _ _ _
    have t1 := fun W => rget_w a cap d (k / 65536 + 1) W h (by omega) (by omega)
    have t2 := fun W hr => rtake_w a cap d (d.get (k / 65536 + 1)) (k / 65536 + 1) W h hr hf1
    rw [hc] at t1 t2
    rw [← hup] at t2
    have := rtakeNum_great a cap d (d.upD (k + 1)) ((d.upD (k + 1)).take ((d.upD (k + 1)).get 65536) ((d.upD (k + 1)).get 65536 + 1) 65536) (d.get (k / 65536 + 1)) ((d.upD (k + 1)).get 65536) (min (d.get (k / 65536 + 1) * 65536 + (d.upD (k + 1)).get 65536) k) k (k / 65536) (by omega) (by omega) rfl (by omega) (by omega) rfl t1 t2 (fun W => rget_w a cap (d.upD (k + 1)) 65536 W hok1 (by omega) (by omega)) (fun W hr => rtake_w a cap (d.upD (k + 1)) ((d.upD (k + 1)).get 65536) 65536 W hok1 hr hf2) w hr (by rw [hB1]; exact hr)
    rw [show ((k + 1 : Nat) : Int) = (k : Int) + 1 by omega]
    exact this
end Go.Proofs.Ytkfpphccpkfenaa
