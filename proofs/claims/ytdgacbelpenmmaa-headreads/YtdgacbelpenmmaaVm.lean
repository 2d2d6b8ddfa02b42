/- What a header that was written is read as; contract of knows. -/
import Derived.Test.YtdgacbelpenmmaaVf
import Derived.Test.YtdgacbelpenmmaaVi
import Derived.Test.YtdgacbelpenmmaaVj
import Derived.Test.YtdgacbelpenmmaaVl
namespace Go.Proofs.Ytdgacbelpenmmaa
open Go.RowKit
set_option linter.unusedVariables false
set_option linter.unusedSimpArgs false

theorem out_back {c q : Int} {F R : List Int} (h : vhRight c q F R = true) :
    oC (byL (hV c q F R) 41) = c ∧ oQ (byL (hV c q F R) 41) = q ∧ oF (byL (hV c q F R) 41) = F ∧ oR (byL (hV c q F R) 41) = R ∧ vhE (byL (hV c q F R) 41) = 0 := by
  have hb := vh_back h
  unfold oC oQ oF oR vhE
  rw [if_pos hb.ok, if_pos hb.ok, if_pos hb.ok, if_pos hb.ok, if_neg (by rw [hb.len]; omega), if_pos hb.ok]
  exact ⟨hb.c, hb.q, hb.f, hb.r, rfl⟩
theorem two_back {c q : Int} {F R : List Int} (h : vhRight c q F R = true) : (byL (hV c q F R) 41).getD 0 0 = 83 ∧ (byL (hV c q F R) 41).getD 1 0 = 86 :=
  (magic_bytes (byL_byts _ _) (by rw [byL_length]; omega)).1 (vhOk_parts (vh_back h).ok).2.1
theorem wr_ok {c q : Int} {F R : List Int} (h : vhRight c q F R = true) : wrE c q F R = 0 ∧ wrX c q F R = byL (hV c q F R) 41 := by
  unfold wrE wrX; rw [if_pos h, if_pos h]; exact ⟨rfl, rfl⟩
theorem wr_no {c q : Int} {F R : List Int} (h : vhRight c q F R = false) : wrE c q F R = 1 ∧ wrX c q F R = [] := by
  unfold wrE wrX; rw [h]; exact ⟨rfl, rfl⟩
theorem rw_slice {k : IntKind} {w : World} {base : Nat} {v : Value} {xs : List Int} (h : RwF base k w v xs) : ∃ a cap, v = .slice a xs.length cap := by
  obtain ⟨a, cap, e, _⟩ := h; exact ⟨a, cap, e⟩
theorem bks_of {w : World} {b1 b2 : Nat} {af : Option Addr} {nf cf : Nat} {F : List Int} {ar : Option Addr} {nr cr : Nat} {R : List Int} (h1 : RwF b1 .i64 w (.slice af nf cf) F) (h2 : RwF b2 .i64 w (.slice ar nr cr) R) : Bks w af nf cf F ar nr cr R := by
  obtain ⟨_, _, e1⟩ := rw_slice h1
  obtain ⟨_, _, e2⟩ := rw_slice h2
  simp only [Value.slice.injEq] at e1 e2
  exact ⟨e1.2.1.symm, h1.rw, e2.2.1.symm, h2.rw⟩
theorem pl_bks {w : World} {g1 g2 : Nat} (h1 : Rw .i64 w (.slice (some ⟨g1, 0, none⟩) 45 45) plF) (h2 : Rw .i64 w (.slice (some ⟨g2, 0, none⟩) 16 16) plR) : Bks w (some ⟨g1, 0, none⟩) 45 45 plF (some ⟨g2, 0, none⟩) 16 16 plR :=
  ⟨tab_len _ _, h1, tab_len _ _, h2⟩
theorem copied {w : World} {base n : Nat} {e : TypeId} {v : Value} {B : List Int} (h : w.ownsRow base e 1 v n (B.map (Value.int .u8))) : ∃ a c, v = .slice a n c ∧ Rw .u8 w (.slice a n c) B := by
  have hr := Rw.of_owns h
  obtain ⟨a, c, rfl, _⟩ := owns_open h
  exact ⟨a, c, rfl, hr⟩
theorem oF_len (xs : List Int) : (oF xs).length ≤ 100 := by
  unfold oF; split
  · rw [vhF, tab_len]; omega
  · simp
theorem oR_len (xs : List Int) : (oR xs).length ≤ 100 := by
  unfold oR; split
  · rw [vhR, tab_len]; omega
  · simp
theorem out_no {xs : List Int} (h : vhOk xs = false) : oC xs = 0 ∧ oQ xs = 0 ∧ oF xs = [] ∧ oR xs = [] ∧ (vhE xs != 0) = true := by
  unfold oC oQ oF oR vhE
  rw [h]
  refine ⟨rfl, rfl, rfl, rfl, ?_⟩
  split <;> rfl
theorem out_ok {xs : List Int} (h : vhOk xs = true) : vhE xs = 0 ∧ vhRight (oC xs) (oQ xs) (oF xs) (oR xs) = true := by
  have h4 := (vhOk_parts h).2.2.2
  have h1 := (vhOk_parts h).1
  unfold oC oQ oF oR vhE
  rw [if_pos h, if_pos h, if_pos h, if_pos h, if_neg (by omega), if_pos h]
  exact ⟨rfl, h4⟩
theorem out_only {xs : List Int} (hx : Byts xs) (h : vhOk xs = true) : byL (hV (oC xs) (oQ xs) (oF xs) (oR xs)) 41 = xs := by
  unfold oC oQ oF oR
  rw [if_pos h, if_pos h, if_pos h, if_pos h]
  exact vh_only hx h

set_option maxRecDepth 10000 in
set_option maxHeartbeats 4000000 in
theorem knows_any (w : World) : Calls Try.prog 10 #[] w fun e w' => e = .returned (.bool true) ∧ Below w.heap.size w w' := by
  have hR : vhRight 1 0 plF plR = true := by rw [pl_right]; decide
  obtain ⟨hE, hX⟩ := wr_ok hR
  obtain ⟨o1, o2, o3, o4, o5⟩ := out_back hR
  obtain ⟨t1, t2⟩ := two_back hR
  have hlen : (byL (hV 1 0 plF plR) 41).length = 41 := byL_length _ _
  have hbx := byL_byts (hV 1 0 plF plR) 41
  have p1 := fun w => plain_any 1 0 w
  have p2 := fun w g1 g2 h => vwrite_any 1 0 (some ⟨g1, 0, none⟩) 45 45 plF (some ⟨g2, 0, none⟩) 16 16 plR w h
  have p3 := fun w a cap hv => vread_any a 41 cap _ w hlen hv hbx (by omega)
  have p4 := fun w af nf cf ar nr cr h => vright_any 1 0 af nf cf plF ar nr cr plR w h
  rw [hE, hX] at p2
  rw [o1, o2, o3, o4, o5] at p3
  rw [hR] at p4
  clear hR hE hX o1 o2 o3 o4 o5 hbx
  generalize byL (hV 1 0 plF plR) 41 = X at *
  go_enter Try.func10, Try.ntmps10
  go_wp2_with (first | (go_at_call 15; refine (p1 _).mono ?_; rintro e y1 ⟨g1, g2, rfl, hf1, hr1, _, _, hy1⟩) | (go_at_call 17; refine (p2 _ g1 g2 (pl_bks hf1 hr1)).mono ?_; rintro e y2 ⟨v, rfl, hv, hy2⟩; have hk2 := bthen' hy1 hy2; obtain ⟨va, vc, hve⟩ := rw_slice hv; rw [hlen] at hve; subst hve) | (go_at_call 19; refine (p3 _ va vc hv.rw).mono ?_; rintro e y3 ⟨a1, n1, c1, a2, n2, c2, rfl, hr3, hr4, hy3⟩; have hk3 := bthen hk2 hy3 hk2.size; have hb3 := bks_of hr3 hr4; have hv3 := hv.rw.below hy3; obtain rfl : 45 = n1 := (tab_len _ _).symm.trans hb3.lf; obtain rfl : 16 = n2 := (tab_len _ _).symm.trans hb3.lr; have hB := B4.new y3 (.int .i64 1) (.int .i64 0) (.slice a1 45 c1) (.slice a2 16 c2) 24; obtain ⟨bz, e0, e1, e2, e3, f0, f1, f2, f3⟩ := hB; have hb4 := hb3.below (below1 y3 (.cells #[.int .i64 1, .int .i64 0, .slice a1 45 c1, .slice a2 16 c2] 24)); have hk4 := bthen hk3 (below1 y3 (.cells #[.int .i64 1, .int .i64 0, .slice a1 45 c1, .slice a2 16 c2] 24)) hk3.size; have hvz := hv3.below (below1 y3 (.cells #[.int .i64 1, .int .i64 0, .slice a1 45 c1, .slice a2 16 c2] 24)); rw [← hlen] at hvz; obtain ⟨vb, vo, hva, hvb, hc0⟩ := hvz.at 0 (by omega); obtain ⟨vb', vo', hva', _, hc1⟩ := hvz.at 1 (by omega); subst hva; simp only [Option.some.injEq, Addr.mk.injEq, and_true] at hva'; obtain ⟨rfl, rfl⟩ := hva'; rw [Nat.add_zero, t1] at hc0; rw [t2] at hc1) | (go_at_call 11; refine (p4 _ _ _ _ _ _ _ hb4).mono ?_; rintro e y5 ⟨rfl, hy5⟩))
  go_ret
  exact ⟨rfl, bthen hk4 hy5 hk4.size⟩
end Go.Proofs.Ytdgacbelpenmmaa
