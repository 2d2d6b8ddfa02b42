/- Contracts: what a reader reads of a header, and Read. -/
import Derived.Test.YtdgacbelpenmmaaVg
namespace Go.Proofs.Ytdgacbelpenmmaa
open Go.RowKit
set_option linter.unusedVariables false
set_option linter.unusedSimpArgs false

theorem rd_z {w : World} {b : Nat} {a : Option Addr} {n cap : Nat} {xs : List Int} {q : Nat} (h : Rd w b a n cap xs q) : b < w.heap.size := by
  obtain ⟨p, hB, _⟩ := h.ex; exact hB.z
/-- What stands while a header is read: the result's box, the header's box, the reader. -/
structure HdR (w0 w : World) (b : Nat) (x0 x1 x2 x3 : Value) (a : Option Addr) (n cap : Nat) (xs : List Int) (q : Nat) : Prop where
  rd : Rd w b a n cap xs q
  res : B4 w w0.heap.size (.int .i64 0) (.int .i64 0) (.slice none 0 0) (.slice none 0 0)
  box : B4 w (w0.heap.size + 1) x0 x1 x2 x3
  gr : w0.grownBy w (some b)
  z : b < w0.heap.size
theorem HdR.next {w0 w w' : World} {b : Nat} {x0 x1 x2 x3 : Value} {a : Option Addr} {n cap : Nat} {xs : List Int} {q q' : Nat} (h : HdR w0 w b x0 x1 x2 x3 a n cap xs q) (hr : Rd w' b a n cap xs q') (hg : w.grownBy w' (some b)) : HdR w0 w' b x0 x1 x2 x3 a n cap xs q' :=
  ⟨hr, B4.grown h.res hg (by have := h.z; intro e; simp only [Option.some.injEq] at e; omega), B4.grown h.box hg (by have := h.z; intro e; simp only [Option.some.injEq] at e; omega), grown_trans h.gr hg, h.z⟩
theorem HdR.put0 {w0 w : World} {b : Nat} {x0 x1 x2 x3 : Value} {a : Option Addr} {n cap : Nat} {xs : List Int} {q : Nat} (h : HdR w0 w b x0 x1 x2 x3 a n cap xs q) (y : Value) : HdR w0 (w.setCell ⟨w0.heap.size + 1, 0, none⟩ y) b y x1 x2 x3 a n cap xs q :=
  ⟨h.rd.set _ _ _ (by have := h.z; omega), B4.other h.res _ _ _ (by omega), B4.set0 h.box y, grown_set h.gr _ _ (.inl (by omega)) _, h.z⟩
theorem HdR.put1 {w0 w : World} {b : Nat} {x0 x1 x2 x3 : Value} {a : Option Addr} {n cap : Nat} {xs : List Int} {q : Nat} (h : HdR w0 w b x0 x1 x2 x3 a n cap xs q) (y : Value) : HdR w0 (w.setCell ⟨w0.heap.size + 1, 1, none⟩ y) b x0 y x2 x3 a n cap xs q :=
  ⟨h.rd.set _ _ _ (by have := h.z; omega), B4.other h.res _ _ _ (by omega), B4.set1 h.box y, grown_set h.gr _ _ (.inl (by omega)) _, h.z⟩
theorem HdR.put2 {w0 w : World} {b : Nat} {x0 x1 x2 x3 : Value} {a : Option Addr} {n cap : Nat} {xs : List Int} {q : Nat} (h : HdR w0 w b x0 x1 x2 x3 a n cap xs q) (y : Value) : HdR w0 (w.setCell ⟨w0.heap.size + 1, 2, none⟩ y) b x0 x1 y x3 a n cap xs q :=
  ⟨h.rd.set _ _ _ (by have := h.z; omega), B4.other h.res _ _ _ (by omega), B4.set2 h.box y, grown_set h.gr _ _ (.inl (by omega)) _, h.z⟩
theorem HdR.put3 {w0 w : World} {b : Nat} {x0 x1 x2 x3 : Value} {a : Option Addr} {n cap : Nat} {xs : List Int} {q : Nat} (h : HdR w0 w b x0 x1 x2 x3 a n cap xs q) (y : Value) : HdR w0 (w.setCell ⟨w0.heap.size + 1, 3, none⟩ y) b x0 x1 x2 y a n cap xs q :=
  ⟨h.rd.set _ _ _ (by have := h.z; omega), B4.other h.res _ _ _ (by omega), B4.set3 h.box y, grown_set h.gr _ _ (.inl (by omega)) _, h.z⟩
theorem Blk.off4 {k : IntKind} {t : TypeId} {w : World} {g : Nat} {xs : List Int} (h : Blk k t w g xs) (c : Nat) (y0 y1 y2 y3 : Value) (hne : g ≠ c) : Blk k t ((((w.setCell ⟨c, 0, none⟩ y0).setCell ⟨c, 1, none⟩ y1).setCell ⟨c, 2, none⟩ y2).setCell ⟨c, 3, none⟩ y3) g xs :=
  (((h.other _ _ _ hne).other _ _ _ hne).other _ _ _ hne).other _ _ _ hne
set_option maxHeartbeats 2000000 in
theorem head_any (b : Nat) (a : Option Addr) (n cap : Nat) (xs : List Int) (w : World) (h : Rd w b a n cap xs 16) (hx : Byts xs) (hl : xs.length ≤ 100000) :
    Calls Try.prog 31 #[.pointer (some ⟨b, 0, none⟩)] w fun e w' => ∃ g1 g2, e = .returned (.agg #[.int .i64 (vhC xs), .int .i64 (vhQ xs), .slice (some ⟨g1, 0, none⟩) 45 45, .slice (some ⟨g2, 0, none⟩) 16 16]) ∧ Blk .i64 3 w' g1 (vhF xs) ∧ Blk .i64 3 w' g2 (vhR xs) ∧ w.heap.size ≤ g1 ∧ w.heap.size ≤ g2 ∧ Rd w' b a n cap xs 326 ∧ w.grownBy w' (some b) := by
  have hz := rd_z h
  have p1 := fun w' h => vget_any b a n cap xs 16 1 w' h hx hl (by omega)
  have p2 := fun w' h => vget_any b a n cap xs 17 4 w' h hx hl (by omega)
  have p3 := fun w' h => getbook_any b a n cap xs 21 45 w' h hx hl (by omega)
  have p4 := fun w' h => getbook_any b a n cap xs 246 16 w' h hx hl (by omega)
  rw [show 16 + 1 = 17 from rfl] at p1
  rw [show 17 + 4 = 21 from rfl] at p2
  rw [show 21 + 5 * 45 = 246 from rfl] at p3
  rw [show 246 + 5 * 16 = 326 from rfl] at p4
  have HC : Hid (vhC xs = 1 + ((gv xs 16 1 : Nat) : Int)) := rfl
  have HQ : Hid (vhQ xs = ((gv xs 17 4 : Nat) : Int)) := rfl
  have hg1 := gv_lt xs 16 1
  generalize hG1 : ((gv xs 16 1 : Nat) : Int) = G1 at *
  have g10 : 0 ≤ G1 := by omega
  have g11 : G1 < 2 := by omega
  clear hG1 hg1
  generalize ((gv xs 17 4 : Nat) : Int) = G2 at *
  have H0 : HdR w ((w.alloc (.cells #[.int .i64 0, .int .i64 0, .slice none 0 0, .slice none 0 0] 24)).alloc (.cells #[.int .i64 0, .int .i64 0, .slice none 0 0, .slice none 0 0] 24)) b (.int .i64 0) (.int .i64 0) (.slice none 0 0) (.slice none 0 0) a n cap xs 16 :=
    ⟨h.below (below2 w _ _), (B4.new w _ _ _ _ _).below (below1 _ _), B4.new2 w _ _ _ _ _ _, grown_below (below2 w _ _) b, hz⟩
  have H0r := H0.rd
  obtain ⟨b0z, b00, b01, b02, b03, l00, l01, l02, l03⟩ := id H0.box
  go_enter Try.func31, Try.ntmps31
  go_wp2_with (first | (go_at_call_of 30 (Value.int .i64 1); refine (p1 _ H0r).mono ?_; rintro e z1 ⟨rfl, hr1, hg1⟩; have H1 := H0.next hr1 hg1; clear b00 b01 b02 b03 l00 l01 l02 l03; obtain ⟨b1z, b10, b11, b12, b13, l10, l11, l12, l13⟩ := id H1.box; have H1p := H1.put0 (.int .i64 (G1 + 1)); have H1r := H1p.rd) | (go_at_call_of 30 (Value.int .i64 4); refine (p2 _ H1r).mono ?_; rintro e z2 ⟨rfl, hr2, hg2⟩; have H2 := H1p.next hr2 hg2; clear b10 b11 b12 b13 l10 l11 l12 l13; obtain ⟨b2z, b20, b21, b22, b23, l20, l21, l22, l23⟩ := id H2.box; have H2p := H2.put1 (.int .i64 G2); have H2r := H2p.rd) | (go_at_call_of 37 (Value.int .i64 45); refine (p3 _ H2r).mono ?_; rintro e z3 ⟨g1, rfl, hk1, hz1, hr3, hg3⟩; have hq1 := H2p.gr.size; have hz1' : w.heap.size + 1 < g1 := Nat.lt_of_lt_of_le H2p.box.z hz1; have H3 := H2p.next hr3 hg3; clear b20 b21 b22 b23 l20 l21 l22 l23; obtain ⟨b3z, b30, b31, b32, b33, l30, l31, l32, l33⟩ := id H3.box; have H3p := H3.put2 (.slice (some ⟨g1, 0, none⟩) 45 45); have hk1' := hk1.other (w.heap.size + 1) 2 (.slice (some ⟨g1, 0, none⟩) 45 45) (by omega); have H3r := H3p.rd) | (go_at_call_of 37 (Value.int .i64 16); refine (p4 _ H3r).mono ?_; rintro e z4 ⟨g2, rfl, hk2, hz2, hr4, hg4⟩; have hz2' : w.heap.size + 1 < g2 := Nat.lt_of_lt_of_le H3p.box.z hz2; have H4 := H3p.next hr4 hg4; clear b30 b31 b32 b33 l30 l31 l32 l33; obtain ⟨b4z, b40, b41, b42, b43, l40, l41, l42, l43⟩ := id H4.box; have H4p := H4.put3 (.slice (some ⟨g2, 0, none⟩) 16 16); have hk3 := (hk1'.kept hg4 (by omega)).other (w.heap.size + 1) 3 (.slice (some ⟨g2, 0, none⟩) 16 16) (by omega); have hk4 := hk2.other (w.heap.size + 1) 3 (.slice (some ⟨g2, 0, none⟩) 16 16) (by omega); obtain ⟨r0z, r0, r1, r2, r3, s0, s1, s2, s3⟩ := id H4p.res))
  obtain ⟨gz', k0, k1, k2, k3, q0, q1', q2, q3⟩ := H4p.res.set (.int .i64 (G1 + 1)) (.int .i64 G2) (.slice (some ⟨g1, 0, none⟩) 45 45) (.slice (some ⟨g2, 0, none⟩) 16 16)
  have hb := H4p.z
  refine bodyPost_ret (v := .agg #[.int .i64 (G1 + 1), .int .i64 G2, .slice (some ⟨g1, 0, none⟩) 45 45, .slice (some ⟨g2, 0, none⟩) 16 16]) (by simp [results, Try.results31, go_sem, k0, k1, k2, k3, q0, q1', q2, q3]) rfl ⟨g1, g2, by rw [HC.out, HQ.out, Int.add_comm], hk3.off4 _ _ _ _ _ (by omega), hk4.off4 _ _ _ _ _ (by omega), by omega, by omega, (((H4p.rd.set _ _ _ hz).set _ _ _ hz).set _ _ _ hz).set _ _ _ hz, ?_⟩
  exact grown_set (grown_set (grown_set (grown_set H4p.gr _ _ (.inl (Nat.le_refl _)) _) _ _ (.inl (Nat.le_refl _)) _) _ _ (.inl (Nat.le_refl _)) _) _ _ (.inl (Nat.le_refl _)) _
end Go.Proofs.Ytdgacbelpenmmaa
