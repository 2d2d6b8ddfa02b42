/- Contract of Write. -/
import Derived.Test.YtdgacbelpenmmaaVe
namespace Go.Proofs.Ytdgacbelpenmmaa
open Go.RowKit
set_option linter.unusedVariables false
set_option linter.unusedSimpArgs false

def wrE (c q : Int) (F R : List Int) : Int := if vhRight c q F R = true then 0 else 1
def wrX (c q : Int) (F R : List Int) : List Int := if vhRight c q F R = true then byL (hV c q F R) 41 else []
theorem wr_start (w : World) (t : TypeId) : Wr (w.alloc (.cells #[.slice none 0 0, .int .i64 0, .int .i64 0] t)) w.heap.size 0 0 :=
  ⟨⟨none, 0, B3.new w _ _ _ t, none, 0, rfl, .inl rfl⟩, by decide, by omega⟩
theorem grown_below1 {a b c : World} {g : Nat} {o : Obj} (hg : a.heap.size = g) (h : (a.alloc o).grownBy b (some g)) : Below g a b := by
  have h1 := grown_lt (B := g) h (by simp; omega) (Nat.le_refl _)
  have h2 := below1 a o
  rw [hg] at h2
  exact h2.trans h1
/-- What stands behind a put: the header's own box, its books, the writer. -/
structure WrH (w0 w : World) (b X N : Nat) (c q : Int) (af : Option Addr) (cf : Nat) (F : List Int) (ar : Option Addr) (cr : Nat) (R : List Int) : Prop where
  wr : Wr w b X N
  box : B4 w w0.heap.size (.int .i64 c) (.int .i64 q) (.slice af 45 cf) (.slice ar 16 cr)
  vf : RwM 0 b .i64 w (.slice af 45 cf) F
  vr : RwM 0 b .i64 w (.slice ar 16 cr) R
  bl : Below w0.heap.size w0 w
theorem WrH.next {w0 w w' : World} {b X N X' N' : Nat} {c q : Int} {af : Option Addr} {cf : Nat} {F : List Int} {ar : Option Addr} {cr : Nat} {R : List Int} (h : WrH w0 w b X N c q af cf F ar cr R) (hs : w0.heap.size < b) (hw : Wr w' b X' N') (hg : w.grownBy w' (some b)) : WrH w0 w' b X' N' c q af cf F ar cr R :=
  ⟨hw, h.box.grown hg (by intro e; simp only [Option.some.injEq] at e; omega), h.vf.grown hg (fun i e => .inr (by simp only [Option.some.injEq] at e; omega)), h.vr.grown hg (fun i e => .inr (by simp only [Option.some.injEq] at e; omega)), h.bl.trans (grown_lt hg h.bl.size (by omega))⟩

set_option maxHeartbeats 4000000 in
theorem vwrite_any (c q : Int) (af : Option Addr) (nf cf : Nat) (F : List Int) (ar : Option Addr) (nr cr : Nat) (R : List Int) (w : World) (h : Bks w af nf cf F ar nr cr R) :
    Calls Try.prog 17 #[.agg #[.int .i64 c, .int .i64 q, .slice af nf cf, .slice ar nr cr]] w fun e w' => ∃ v, e = .returned (.tuple #[v, .int .i64 (wrE c q F R)]) ∧ RwF w.heap.size .u8 w' v (wrX c q F R) ∧ Below w.heap.size w w' := by
  have hW := below1 w (.cells #[.int .i64 c, .int .i64 q, .slice af nf cf, .slice ar nr cr] 24)
  have hB0 := B4.new w (.int .i64 c) (.int .i64 q) (.slice af nf cf) (.slice ar nr cr) 24
  have hr := vright_any c q af nf cf F ar nr cr R _ (h.below hW)
  cases hR : vhRight c q F R
  · have HE : Hid (wrE c q F R = 1) := by unfold Hid wrE; rw [hR]; rfl
    have HX : Hid (wrX c q F R = []) := by unfold Hid wrX; rw [hR]; rfl
    rw [hR] at hr
    clear hR h
    obtain ⟨bz, e0, e1, e2, e3, f0, f1, f2, f3⟩ := id hB0
    go_enter Try.func17, Try.ntmps17
    go_wp2_with (go_at_call 11; refine hr.mono ?_; rintro e y1 ⟨rfl, hy1⟩)
    go_ret2
    exact ⟨.slice none 0 0, by rw [HE.out]; rfl, by rw [HX.out]; exact ⟨none, 0, rfl, .inl rfl⟩, bthen' hW hy1⟩
  · have HE : Hid (wrE c q F R = 0) := by unfold Hid wrE; rw [hR]; rfl
    have HX : Hid (wrX c q F R = byL (hV c q F R) 41) := by unfold Hid wrX; rw [hR]; rfl
    obtain ⟨h1, h2, h3, h4, h5, h6, h7, h8, h9⟩ := vhRight_parts hR
    have hF5 := five_of_right h7
    have hR5 := five_of_right h8
    rw [hR] at hr
    obtain rfl : 45 = nf := by rw [← h.lf, h5]
    obtain rfl : 16 = nr := by rw [← h.lr, h6]
    obtain ⟨C, hC⟩ : ∃ C : Nat, c - 1 = C := ⟨(c - 1).toNat, by omega⟩
    obtain ⟨Q, hQ⟩ : ∃ Q : Nat, q = Q := ⟨q.toNat, by omega⟩
    have HV : Hid (hV c q F R = 22099 + C * 2 ^ 16 + Q * 2 ^ 17 + vhBk F 45 * 2 ^ 21 + vhBk R 16 * 2 ^ 246) := by
      unfold Hid hV; rw [show (c - 1).toNat = C by omega, show q.toNat = Q by omega]
    have hC2 : C < 2 ^ 1 := by omega
    have hQ2 : Q < 2 ^ 4 := by omega
    have hcw : IntKind.i64.wrap (c - 1) = (C : Int) := by rw [wraps_i64 _ (by omega) (by omega)]; exact hC
    clear hR h7 h8 h9 h3 h4
    have p1 := fun b w' (hh : Wr w' b 0 0) => vput_any b 0 0 22099 16 w' hh (by decide) (by omega) (by omega)
    have p2 := fun b w' (hh : Wr w' b 22099 16) => vput_any b 22099 16 C 1 w' hh hC2 (by omega) (by omega)
    have p3 := fun b w' (hh : Wr w' b (22099 + C * 2 ^ 16) 17) => vput_any b (22099 + C * 2 ^ 16) 17 Q 4 w' hh hQ2 (by omega) (by omega)
    have p4 := fun b w' (hh : Wr w' b (22099 + C * 2 ^ 16 + Q * 2 ^ 17) 21) hl => putbook_any b (22099 + C * 2 ^ 16 + Q * 2 ^ 17) 21 af 45 cf F w' hh hl h5 hF5 (by omega) (by omega)
    have p5 := fun b w' (hh : Wr w' b (22099 + C * 2 ^ 16 + Q * 2 ^ 17 + vhBk F 45 * 2 ^ 21) 246) hl => putbook_any b (22099 + C * 2 ^ 16 + Q * 2 ^ 17 + vhBk F 45 * 2 ^ 21) 246 ar 16 cr R w' hh hl h6 hR5 (by omega) (by omega)
    rw [show 0 + 22099 * 2 ^ 0 = 22099 from rfl, show 0 + 16 = 16 from rfl] at p1
    rw [show 16 + 1 = 17 from rfl] at p2
    rw [show 17 + 4 = 21 from rfl] at p3
    rw [show 21 + 5 * 45 = 246 from rfl] at p4
    rw [show 246 + 5 * 16 = 326 from rfl, ← HV.out] at p5
    have hvf := h.vf.below hW
    have hvr := h.vr.below hW
    subst hQ
    clear h h5 h6 hF5 hR5 hC2 hQ2 HV
    generalize hV c (Q : Nat) F R = V at *
    generalize 22099 + C * 2 ^ 16 + (Q : Nat) * 2 ^ 17 + vhBk F 45 * 2 ^ 21 = V4 at *
    generalize 22099 + C * 2 ^ 16 + (Q : Nat) * 2 ^ 17 = V3 at *
    generalize 22099 + C * 2 ^ 16 = V2 at *
    obtain ⟨bz, e0, e1, e2, e3, f0, f1, f2, f3⟩ := id hB0
    go_enter Try.func17, Try.ntmps17
    go_wp2_with (first | (go_at_call 11; refine hr.mono ?_; rintro e y1 ⟨rfl, hy1⟩; have hBy := hB0.below hy1; have hs := hBy.z; have H0 : WrH w (y1.alloc (.cells #[.slice none 0 0, .int .i64 0, .int .i64 0] 52)) y1.heap.size 0 0 c (Q : Nat) af cf F ar cr R := ⟨wr_start y1 _, hBy.below (below1 _ _), (RwM.of_rw (hvf.below hy1)).below (below1 _ _), (RwM.of_rw (hvr.below hy1)).below (below1 _ _), (bthen' hW hy1).alloc (Nat.le_of_lt hs) _⟩; obtain ⟨b0z, b00, b01, b02, b03, l00, l01, l02, l03⟩ := id H0.box; clear hB0 hvf hvr bz e0 e1 e2 e3 f0 f1 f2 f3 hBy hy1) | (go_at_call_of 26 (Value.int .i64 16); refine (p1 _ _ H0.wr).mono ?_; rintro e z1 ⟨rfl, hw1, hg1⟩; have H1 := H0.next hs hw1 hg1; clear hw1 hg1 b00 b01 b02 b03 l00 l01 l02 l03; obtain ⟨b1z, b10, b11, b12, b13, l10, l11, l12, l13⟩ := id H1.box) | (go_at_call_of 26 (Value.int .i64 1); refine (p2 _ _ H1.wr).mono ?_; rintro e z2 ⟨rfl, hw2, hg2⟩; have H2 := H1.next hs hw2 hg2; clear hw2 hg2 b10 b11 b12 b13 l10 l11 l12 l13; obtain ⟨b2z, b20, b21, b22, b23, l20, l21, l22, l23⟩ := id H2.box) | (go_at_call_of 26 (Value.int .i64 4); refine (p3 _ _ H2.wr).mono ?_; rintro e z3 ⟨rfl, hw3, hg3⟩; have H3 := H2.next hs hw3 hg3; clear hw3 hg3 b20 b21 b22 b23 l20 l21 l22 l23; obtain ⟨b3z, b30, b31, b32, b33, l30, l31, l32, l33⟩ := id H3.box) | (go_at_call_of 27 (Value.slice af 45 cf); refine (p4 _ _ H3.wr H3.vf).mono ?_; rintro e z4 ⟨rfl, hw4, hg4⟩; have H4 := H3.next hs hw4 hg4; clear hw4 hg4 b30 b31 b32 b33 l30 l31 l32 l33; obtain ⟨b4z, b40, b41, b42, b43, l40, l41, l42, l43⟩ := id H4.box) | (go_at_call_of 27 (Value.slice ar 16 cr); refine (p5 _ _ H4.wr H4.vr).mono ?_; rintro e z5 ⟨rfl, hw5, hg5⟩; have H5 := H4.next hs hw5 hg5; clear hw5 hg5 b40 b41 b42 b43 l40 l41 l42 l43; obtain ⟨b5z, b50, b51, b52, b53, l50, l51, l52, l53⟩ := id H5.box; obtain ⟨a5, k5, hB5, hR5⟩ := H5.wr.ex; obtain ⟨tz, t0, t1, t2, u0, u1, u2⟩ := id hB5))
    go_ret2
    exact ⟨_, by rw [HE.out]; rfl, by rw [HX.out]; exact hR5.mono (by omega), H5.bl⟩
end Go.Proofs.Ytdgacbelpenmmaa
