/- The contract of knows: the rows of the document's examples. -/
import Derived.Test.YtnlahpnpajadpaaXj
namespace Go.Proofs.Ytnlahpnpajadpaa
open Go.RowKit Go.Maps
set_option linter.unusedVariables false
set_option linter.unusedSimpArgs false

theorem rw_nil (w : World) : Rw .u8 w (.slice none 0 0) [] := ⟨none, 0, rfl, .inl rfl⟩
theorem exRight : rightL [1, 2, 0, 2] = true := by decide
theorem exCodes : codesL [1, 2, 0, 2] = [0, 2, 0, 3] := by decide
theorem byts3 : Byts [3] := by intro x hx; simp at hx; omega
theorem byts11 : Byts [11] := by intro x hx; simp at hx; omega
theorem stands_ex (xs : List Int) (hx : Byts xs) (N X : Nat) (hN : N ≤ 32000) (hlen : xs.length = (N + 7) / 8) (hX : bv xs = X) (hlt : X < 2 ^ N) : Stands xs N X N := by
  have hr : rightB xs N = true := by rw [rightB_nat, decide_eq_true_eq]; exact ⟨hN, hlen, by rw [hX]; exact hlt⟩
  refine ⟨?_, ?_, hlt, hN⟩
  · unfold goodX; rw [if_pos hr]
    have := byL_eq hx hX
    rw [hlen] at this; exact this
  · unfold goodN; rw [if_pos hr]
theorem know_write (a : Option Addr) (cap : Nat) (vl : Value) (xs ys : List Int) (N s X n : Nat) (w : World) (hv : Rw .u8 w (.slice a xs.length cap) xs) (hx : Byts xs) (hvl : Rw .i64 w vl [1, 2, 0, 2])
    (hl : xs.length = (N + 7) / 8) (hN : N ≤ 100) (hX : bv xs = X) (hlt : X < 2 ^ N) (hs : s < 4) (hn : ([1, 2, 0, 2] : List Int).getD s 0 = n) (h0 : 0 < n) (hn2 : n ≤ 2) (hy : byL (X + rvb (cd [1, 2, 0, 2] s) n n * 2 ^ N) ((N + n + 7) / 8) = ys) :
    Calls Try.prog 17 #[.agg #[.slice a xs.length cap, .int .i64 (N : Int)], vl, .int .i64 s] w fun e w' => ∃ x c, e = .returned (.tuple #[.agg #[.slice x ys.length c, .int .i64 ((N + n : Nat) : Int)], .int .i64 0]) ∧ RwF w.heap.size .u8 w' (.slice x ys.length c) ys ∧ Below w.heap.size w w' := by
  have h := write_used a cap vl xs [1, 2, 0, 2] N s X N w hv hx (by omega) hvl exRight hs (by rw [hn]; omega) (stands_ex xs hx N X (by omega) hl hX hlt)
  rw [hn, Int.toNat_natCast] at h
  refine h.mono ?_
  rintro e w' (⟨_, x, c, zs, hz, he, hr, hb⟩ | ⟨h1, _⟩)
  · rw [hy] at hz
    subst hz
    exact ⟨x, c, he, hr, hb⟩
  · omega
theorem know1 (vl : Value) (w : World) (hvl : Rw .i64 w vl [1, 2, 0, 2]) :
    Calls Try.prog 17 #[.agg #[.slice none 0 0, .int .i64 0], vl, .int .i64 3] w fun e w' => ∃ x c, e = .returned (.tuple #[.agg #[.slice x 1 c, .int .i64 2], .int .i64 0]) ∧ RwF w.heap.size .u8 w' (.slice x 1 c) [3] ∧ Below w.heap.size w w' :=
  know_write none 0 vl [] [3] 0 3 0 2 w (rw_nil w) Byts.nil hvl rfl (by decide) rfl (by decide) (by decide) rfl (by decide) (by decide) (by decide)
theorem know2 (a : Option Addr) (cap : Nat) (vl : Value) (w : World) (hv : Rw .u8 w (.slice a 1 cap) [3]) (hvl : Rw .i64 w vl [1, 2, 0, 2]) :
    Calls Try.prog 17 #[.agg #[.slice a 1 cap, .int .i64 2], vl, .int .i64 0] w fun e w' => ∃ x c, e = .returned (.tuple #[.agg #[.slice x 1 c, .int .i64 3], .int .i64 0]) ∧ RwF w.heap.size .u8 w' (.slice x 1 c) [3] ∧ Below w.heap.size w w' :=
  know_write a cap vl [3] [3] 2 0 3 1 w hv byts3 hvl rfl (by decide) rfl (by decide) (by decide) rfl (by decide) (by decide) (by decide)
theorem know3 (a : Option Addr) (cap : Nat) (vl : Value) (w : World) (hv : Rw .u8 w (.slice a 1 cap) [3]) (hvl : Rw .i64 w vl [1, 2, 0, 2]) :
    Calls Try.prog 17 #[.agg #[.slice a 1 cap, .int .i64 3], vl, .int .i64 1] w fun e w' => ∃ x c, e = .returned (.tuple #[.agg #[.slice x 1 c, .int .i64 5], .int .i64 0]) ∧ RwF w.heap.size .u8 w' (.slice x 1 c) [11] ∧ Below w.heap.size w w' :=
  know_write a cap vl [3] [11] 3 1 3 2 w hv byts3 hvl rfl (by decide) rfl (by decide) (by decide) rfl (by decide) (by decide) (by decide)
theorem know4 (a : Option Addr) (cap : Nat) (vl : Value) (w : World) (hv : Rw .u8 w (.slice a 1 cap) [11]) (hvl : Rw .i64 w vl [1, 2, 0, 2]) :
    Calls Try.prog 21 #[.agg #[.slice a 1 cap, .int .i64 0], vl] w fun e w' => e = .returned (.tuple #[.agg #[.slice a 1 cap, .int .i64 2], .int .i64 3, .int .i64 0]) ∧ Below w.heap.size w w' := by
  have h := read_ok a cap vl [11] [1, 2, 0, 2] 0 w byts11 (by decide) hv hvl exRight
  have e1 : rdP [1, 2, 0, 2] (bv [11]) (8 * [(11 : Int)].length) 0 = 2 := by decide
  have e2 : rdS [1, 2, 0, 2] (bv [11]) (8 * [(11 : Int)].length) 0 = 3 := by decide
  have e3 : rdE [1, 2, 0, 2] (bv [11]) (8 * [(11 : Int)].length) 0 = 0 := by decide
  rw [e1, e2, e3] at h
  exact h
theorem know5 (vl : Value) (w : World) (hvl : Rw .i64 w vl [1, 2, 0, 2]) :
    Calls Try.prog 13 #[vl] w fun e w' => ∃ g, e = .returned (.tuple #[.slice (some ⟨g, 0, none⟩) 4 4, .int .i64 0]) ∧ w'.cell? ⟨g, 3, none⟩ = some (.int .u32 3) ∧ g < w'.heap.size ∧ Below w.heap.size w w' := by
  refine (codes_ok vl _ w hvl exRight).mono ?_
  rintro e w' ⟨g, rfl, hr, hb⟩
  rw [exCodes] at hr
  obtain ⟨a, c, he, hh⟩ := hr
  obtain ⟨b, off, ha, _, hlt, hc⟩ := hh.resolve_left (by simp)
  simp only [Value.slice.injEq] at he
  obtain ⟨rfl, _, _⟩ := he
  simp only [Option.some.injEq, Addr.mk.injEq] at ha
  obtain ⟨rfl, rfl, _⟩ := ha
  have := hc 3 (by decide)
  exact ⟨g, rfl, this, hlt, hb⟩
theorem rw_lit4 (w : World) (a b c d : Int) (t : TypeId) : Rw .i64 (w.alloc (.cells #[.int .i64 a, .int .i64 b, .int .i64 c, .int .i64 d] t)) (.slice (some ⟨w.heap.size, 0, none⟩) 4 4) [a, b, c, d] := by
  refine ⟨_, 4, rfl, .inr ⟨w.heap.size, 0, rfl, by simp, fun i hi => ?_⟩⟩
  have : i = 0 ∨ i = 1 ∨ i = 2 ∨ i = 3 := by simp at hi; omega
  rcases this with rfl | rfl | rfl | rfl <;> simp [go_sem]
theorem rw_lit2 (w : World) (a b : Int) (t : TypeId) : Rw .i64 (w.alloc (.cells #[.int .i64 a, .int .i64 b] t)) (.slice (some ⟨w.heap.size, 0, none⟩) 2 2) [a, b] := by
  refine ⟨_, 2, rfl, .inr ⟨w.heap.size, 0, rfl, by simp, fun i hi => ?_⟩⟩
  have : i = 0 ∨ i = 1 := by simp at hi; omega
  rcases this with rfl | rfl <;> simp [go_sem]
theorem rw_lit3 (w : World) (a b c : Int) (t : TypeId) : Rw .i64 (w.alloc (.cells #[.int .i64 a, .int .i64 b, .int .i64 c] t)) (.slice (some ⟨w.heap.size, 0, none⟩) 3 3) [a, b, c] := by
  refine ⟨_, 3, rfl, .inr ⟨w.heap.size, 0, rfl, by simp, fun i hi => ?_⟩⟩
  have : i = 0 ∨ i = 1 ∨ i = 2 := by simp at hi; omega
  rcases this with rfl | rfl | rfl <;> simp [go_sem]
/-- What a call finds of its own struct behind a call that it made. -/
theorem one_box {w w' : World} {x0 x1 : Value} {t : TypeId} (hb : Below (w.alloc (.cells #[x0, x1] t)).heap.size (w.alloc (.cells #[x0, x1] t)) w') :
    w'.cell? ⟨w.heap.size, 0, none⟩ = some x0 ∧ w'.cell? ⟨w.heap.size, 1, none⟩ = some x1 ∧ w'.frozen? ⟨w.heap.size, 0, none⟩ = false ∧ w'.frozen? ⟨w.heap.size, 1, none⟩ = false ∧ w.heap.size < w'.heap.size := by
  obtain ⟨hc, hf⟩ := bcell hb
  have hz := hb.size
  simp at hz
  refine ⟨?_, ?_, ?_, ?_, by omega⟩
  · rw [hc _ _ (by simp)]; simp [go_sem]
  · rw [hc _ _ (by simp)]; simp [go_sem]
  · rw [hf _ _ (by simp)]; simp [go_sem]
  · rw [hf _ _ (by simp)]; simp [go_sem]
theorem box_below {w w' : World} {b : Nat} {x0 x1 : Value} (hb : Below w.heap.size w w') (h : b < w.heap.size) (h0 : w.cell? ⟨b, 0, none⟩ = some x0) (h1 : w.cell? ⟨b, 1, none⟩ = some x1) (f0 : w.frozen? ⟨b, 0, none⟩ = false) (f1 : w.frozen? ⟨b, 1, none⟩ = false) :
    w'.cell? ⟨b, 0, none⟩ = some x0 ∧ w'.cell? ⟨b, 1, none⟩ = some x1 ∧ w'.frozen? ⟨b, 0, none⟩ = false ∧ w'.frozen? ⟨b, 1, none⟩ = false ∧ b < w'.heap.size := by
  obtain ⟨hc, hf⟩ := bcell hb
  have hz := hb.size
  exact ⟨(hc _ _ h).trans h0, (hc _ _ h).trans h1, (hf _ _ h).trans f0, (hf _ _ h).trans f1, by omega⟩
theorem box_set {w : World} {b : Nat} {x0 x1 : Value} (y0 y1 : Value) (h0 : w.cell? ⟨b, 0, none⟩ = some x0) (h1 : w.cell? ⟨b, 1, none⟩ = some x1) (f0 : w.frozen? ⟨b, 0, none⟩ = false) (f1 : w.frozen? ⟨b, 1, none⟩ = false) (h : b < w.heap.size) :
    let W := (w.setCell ⟨b, 0, none⟩ y0).setCell ⟨b, 1, none⟩ y1
    W.cell? ⟨b, 0, none⟩ = some y0 ∧ W.cell? ⟨b, 1, none⟩ = some y1 ∧ W.frozen? ⟨b, 0, none⟩ = false ∧ W.frozen? ⟨b, 1, none⟩ = false ∧ b < W.heap.size := by
  intro W
  refine ⟨?_, ?_, ?_, ?_, ?_⟩ <;> simp [W, go_sem, h0, h1, f0, f1, h, frozen_set]
theorem right01 : rightL [0, 1] = true := by decide
theorem right111 : rightL [1, 1, 1] = false := by decide

set_option maxHeartbeats 4000000 in
set_option maxRecDepth 10000 in
theorem knows_any (w : World) : Calls Try.prog 10 #[] w fun e w' => e = .returned (.bool true) ∧ Below w.heap.size w w' := by
  have hL := rw_lit4 w 1 2 0 2 3
  have hW0 := below1 w (.cells #[.int .i64 1, .int .i64 2, .int .i64 0, .int .i64 2] 3)
  go_enter Try.func10, Try.ntmps10
  go_wp2_with fail
  refine (know5 _ _ hL).mono ?_
  rintro e w1 ⟨gc, rfl, c3, cl, b1⟩
  have hL1 := hL.below b1
  have hW1 := bthen hW0 b1 hW0.size
  go_wp2_with fail
  refine (know1 _ _ hL1).mono ?_
  rintro e w2 ⟨a2, x2, rfl, r2, b2⟩
  have ch2 : Below w1.heap.size w1 (w2.alloc (.cells #[.slice a2 1 x2, .int .i64 2] 34)) := b2.alloc b2.size _
  have hz1 := b2.size
  go_wp2_with fail
  refine (know2 _ _ _ _ (r2.rw.below (below1 _ _)) (hL1.below ch2)).mono ?_
  rintro e w3 ⟨a3, x3, rfl, r3, b3⟩
  have ch3 := bthen ch2 b3 ch2.size
  obtain ⟨q0, q1, f0, f1, hz⟩ := one_box b3
  have r3 := (r3.set w2.heap.size 0 (.slice a3 1 x3) (by simp)).set w2.heap.size 1 (.int .i64 3) (by simp)
  have ch3 := bset2 ch3 w2.heap.size w2.heap.size 0 1 (.slice a3 1 x3) (.int .i64 3) hz1 hz1
  obtain ⟨q0', q1', f0', f1', hz'⟩ := box_set (.slice a3 1 x3) (.int .i64 3) q0 q1 f0 f1 hz
  clear r2 b3 ch2
  go_wp2_with fail
  clear q0 q1 f0 f1 hz
  generalize ((w3.setCell ⟨w2.heap.size, 0, none⟩ (.slice a3 1 x3)).setCell ⟨w2.heap.size, 1, none⟩ (.int .i64 3)) = W3 at *
  refine (know3 _ _ _ _ r3.rw (hL1.below ch3)).mono ?_
  rintro e w4 ⟨a4, x4, rfl, r4, b4⟩
  have ch4 := bthen ch3 b4 ch3.size
  obtain ⟨q0, q1, f0, f1, hz⟩ := box_below b4 hz' q0' q1' f0' f1'
  have r4 := (r4.set w2.heap.size 0 (.slice a4 1 x4) hz').set w2.heap.size 1 (.int .i64 5) hz'
  have ch4 := bset2 ch4 w2.heap.size w2.heap.size 0 1 (.slice a4 1 x4) (.int .i64 5) hz1 hz1
  clear q0' q1' f0' f1' r3 b4 ch3 hz'
  obtain ⟨q0', q1', f0', f1', hz'⟩ := box_set (.slice a4 1 x4) (.int .i64 5) q0 q1 f0 f1 hz
  go_wp2_with fail
  clear q0 q1 f0 f1 hz
  generalize ((w4.setCell ⟨w2.heap.size, 0, none⟩ (.slice a4 1 x4)).setCell ⟨w2.heap.size, 1, none⟩ (.int .i64 5)) = W4 at *
  refine (know4 _ _ _ _ r4.rw (hL1.below ch4)).mono ?_
  rintro e w5 ⟨rfl, b5⟩
  have ch5 := bthen ch4 b5 ch4.size
  obtain ⟨q0, q1, f0, f1, hz⟩ := box_below b5 hz' q0' q1' f0' f1'
  have r5 := r4.rw.below b5
  have ch6 := ch5.alloc ch5.size (.cells #[.slice a4 1 x4, .int .i64 2] 45)
  have r6 := r5.below (below1 w5 (.cells #[.slice a4 1 x4, .int .i64 2] 45))
  obtain ⟨q0, q1, f0, f1, hz⟩ := box_below (below1 w5 (.cells #[.slice a4 1 x4, .int .i64 2] 45)) hz q0 q1 f0 f1
  have y0 : (w5.alloc (.cells #[.slice a4 1 x4, .int .i64 2] 45)).cell? ⟨w5.heap.size, 1, none⟩ = some (.int .i64 2) := by simp [go_sem]
  have c3 := ((bcell ch6).1 gc 3 cl).trans c3
  have c7 : (convert 32 9 (.slice a4 1 x4)).run Try.prog (w5.alloc (.cells #[.slice a4 1 x4, .int .i64 2] 45)) = .ok (.string (strOfNums [11])) _ := conv_rw (P := Try.prog) r6 32 9 5 Try.underlying32 Try.underlying5 Try.underlying9
  have hs : ((strOfNums [11]).toList == [11]) = true := by rw [ByteArray.toList_eq]; decide
  clear q0' q1' f0' f1' r4 r5 b5 ch4 ch5 hz' hL1 hL
  have l2 := rw_lit2 (w5.alloc (.cells #[.slice a4 1 x4, .int .i64 2] 45)) 0 1 3
  rw [show (w5.alloc (.cells #[.slice a4 1 x4, .int .i64 2] 45)).heap.size = w5.heap.size + 1 by simp] at l2
  have l3 := rw_lit3 ((w5.alloc (.cells #[.slice a4 1 x4, .int .i64 2] 45)).alloc (.cells #[.int .i64 0, .int .i64 1] 3)) 1 1 1 3
  rw [show ((w5.alloc (.cells #[.slice a4 1 x4, .int .i64 2] 45)).alloc (.cells #[.int .i64 0, .int .i64 1] 3)).heap.size = w5.heap.size + 1 + 1 by simp] at l3
  go_wp2_with fail
  refine (hright_any _ [0, 1] _ l2).mono ?_
  rintro e w6 ⟨rfl, rfl⟩
  rw [right01]
  go_wp2_with fail
  refine (hright_any _ [1, 1, 1] _ l3).mono ?_
  rintro e w7 ⟨rfl, rfl⟩
  rw [right111]
  go_wp2
  go_ret
  refine ⟨rfl, bthen hW1 ?_ hW1.size⟩
  have ch7 := ch6.alloc ch6.size (.cells #[.int .i64 0, .int .i64 1] 3)
  exact ch7.alloc ch7.size _
theorem held2 {W y : World} {b1 o1 b2 o2 : Nat} {x1 x2 : Value} (hb : Below W.heap.size W y) (h1 : b1 < W.heap.size) (h2 : b2 < W.heap.size) (g1 : W.cell? ⟨b1, o1, none⟩ = some x1) (g2 : W.cell? ⟨b2, o2, none⟩ = some x2) :
    y.cell? ⟨b1, o1, none⟩ = some x1 ∧ y.cell? ⟨b2, o2, none⟩ = some x2 := ⟨((bcell hb).1 _ _ h1).trans g1, ((bcell hb).1 _ _ h2).trans g2⟩
theorem held4' {W y : World} {b1 o1 o2 b3 o3 o4 : Nat} {x1 x2 x3 x4 : Value} (hb : Below W.heap.size W y) (h1 : b1 < W.heap.size) (h3 : b3 < W.heap.size) (g1 : W.cell? ⟨b1, o1, none⟩ = some x1) (g2 : W.cell? ⟨b1, o2, none⟩ = some x2) (g3 : W.cell? ⟨b3, o3, none⟩ = some x3) (g4 : W.cell? ⟨b3, o4, none⟩ = some x4) :
    (y.cell? ⟨b1, o1, none⟩ = some x1 ∧ y.cell? ⟨b1, o2, none⟩ = some x2) ∧ (y.cell? ⟨b3, o3, none⟩ = some x3 ∧ y.cell? ⟨b3, o4, none⟩ = some x4) := ⟨held2 hb h1 h1 g1 g2, held2 hb h3 h3 g3 g4⟩
theorem great_any (a a' : Option Addr) (len cap len' cap' : Nat) (w : World) :
    Calls Try.prog 16 #[.slice a len cap, .slice a' len' cap'] w fun e w' => e = .returned (.bool (decide (4100 < len ∨ 200 < len'))) ∧ w' = w := by
  by_cases h0 : 4100 < len
  · have h1 : (4100 : Int) < len := by omega
    go_enter Try.func16, Try.ntmps16
    go_wp2
    go_ret
    exact ⟨ret_bool (by simp [h0]), rfl⟩
  · have h1 : (len : Int) ≤ 4100 := by omega
    by_cases h2 : 200 < len'
    · have h3 : (200 : Int) < len' := by omega
      go_enter Try.func16, Try.ntmps16
      go_wp2
      go_ret
      exact ⟨ret_bool (by simp [h2]), rfl⟩
    · have h3 : (len' : Int) ≤ 200 := by omega
      go_enter Try.func16, Try.ntmps16
      go_wp2
      go_ret
      exact ⟨ret_bool (by simp [h0, h2]; omega), rfl⟩
end Go.Proofs.Ytnlahpnpajadpaa
