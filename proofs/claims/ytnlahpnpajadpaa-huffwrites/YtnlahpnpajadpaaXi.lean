/- The contract of Write. -/
import Derived.Test.YtnlahpnpajadpaaXh
namespace Go.Proofs.Ytnlahpnpajadpaa
open Go.RowKit Go.Maps
set_option linter.unusedVariables false
set_option linter.unusedSimpArgs false

/-- The symbol is one that is used. -/
def usedS (l : List Int) (s : Int) : Bool := decide (0 ≤ s ∧ s < l.length ∧ 0 < l.getD s.toNat 0)

set_option maxHeartbeats 2000000 in
theorem write_no (a : Option Addr) (cap : Nat) (vl : Value) (xs l : List Int) (M s : Int) (w : World) (hv : Rw .u8 w (.slice a xs.length cap) xs) (hx : Byts xs) (hvl : Rw .i64 w vl l) (hr : rightL l = false) :
    Calls Try.prog 17 #[.agg #[.slice a xs.length cap, .int .i64 M], vl, .int .i64 s] w fun e w' => ∃ x c ys G, Hid (ys = goodX xs M) ∧ Hid (G = goodN xs M) ∧ e = .returned (.tuple #[.agg #[.slice x ys.length c, .int .i64 G], .int .i64 1]) ∧ RwF w.heap.size .u8 w' (.slice x ys.length c) ys ∧ Below w.heap.size w w' := by
  have hW := below2 w (.cells #[.slice a xs.length cap, .int .i64 M] 34) (.cells #[.slice none 0 0, .int .i64 0] 34)
  have hv1 := hv.below hW
  have hvl1 := hvl.below hW
  go_enter Try.func17, Try.ntmps17
  go_wp2_with (first | (go_at_call 13; refine (codes_no _ l _ hvl1 hr).mono ?_; rintro e w' ⟨rfl, rfl⟩) | (go_at_call 25; refine (asitwas_any _ _ xs M _ hv1 hx).mono ?_; rintro e w2 ⟨x, c, ys, G, HY, HG, rfl, hrow, hb2⟩; obtain ⟨k0, k1, k2, k3, f0, f1, f2, f3, hz⟩ := two_boxes hb2))
  have hz2 := hb2.size
  simp at hz2
  refine bodyPost_ret (v := .tuple #[.agg #[.slice x ys.length c, .int .i64 G], .int .i64 1]) (by simp [results, Try.results17, go_sem, k2, k3, f2, f3]) rfl ⟨x, c, ys, G, HY, HG, rfl, ?_, ?_⟩
  · exact ((hrow.set _ _ _ (by simp)).set _ _ _ (by simp)).mono (by simp; omega)
  · exact bset2 (bthen hW hb2 hW.size) _ _ _ _ _ _ (by omega) (by omega)

set_option maxHeartbeats 4000000 in
theorem write_unused (a : Option Addr) (cap : Nat) (vl : Value) (xs l : List Int) (M s : Int) (w : World) (hv : Rw .u8 w (.slice a xs.length cap) xs) (hx : Byts xs) (hvl : Rw .i64 w vl l) (hr : rightL l = true) (hs : usedS l s = false) :
    Calls Try.prog 17 #[.agg #[.slice a xs.length cap, .int .i64 M], vl, .int .i64 s] w fun e w' => ∃ x c ys G, Hid (ys = goodX xs M) ∧ Hid (G = goodN xs M) ∧ e = .returned (.tuple #[.agg #[.slice x ys.length c, .int .i64 G], .int .i64 1]) ∧ RwF w.heap.size .u8 w' (.slice x ys.length c) ys ∧ Below w.heap.size w w' := by
  have hl1 := (right_parts hr).1
  have hW := below2 w (.cells #[.slice a xs.length cap, .int .i64 M] 34) (.cells #[.slice none 0 0, .int .i64 0] 34)
  have hvl1 := hvl.below hW
  obtain ⟨al, cl, rfl, hal⟩ := hvl
  obtain ⟨bl_, ol, rfl, hbl, hcl⟩ := hal.resolve_left (by intro h0; subst h0; simp at hl1)
  clear hal
  unfold usedS at hs
  rw [decide_eq_false_iff_not] at hs
  have ways : s < 0 ∨ (0 ≤ s ∧ l.length ≤ s) ∨ (∃ n : Nat, s = n ∧ n < l.length ∧ l.getD n 0 = 0) := by
    by_cases h1 : s < 0
    · exact .inl h1
    · by_cases h2 : (l.length : Int) ≤ s
      · exact .inr (.inl ⟨by omega, h2⟩)
      · refine .inr (.inr ⟨s.toNat, by omega, by omega, ?_⟩)
        have := inB_at (right_parts hr).2.2.1 s.toNat
        omega
  clear hs
  rcases ways with h1 | ⟨h1, h2⟩ | ⟨n, rfl, hn, h0⟩
  · go_enter Try.func17, Try.ntmps17
    go_wp2_with (first | (go_at_call 13; refine (codes_ok _ l _ hvl1 hr).mono ?_; rintro e w1 ⟨gc, rfl, hrow1, hb1⟩; obtain ⟨k0, k1, k2, k3, f0, f1, f2, f3, hz⟩ := two_boxes hb1; have hBw := bthen hW hb1 hW.size) | (go_at_call 25; refine (asitwas_any _ _ xs M _ (hv.below hBw) hx).mono ?_; rintro e w2 ⟨x, c, ys, G, HY, HG, rfl, hrow, hb2⟩; obtain ⟨hc2, hf2⟩ := bcell hb2; have m2 := (hc2 _ _ (by omega)).trans k2; have m3 := (hc2 _ _ (by omega)).trans k3; have n2 := (hf2 _ _ (by omega)).trans f2; have n3 := (hf2 _ _ (by omega)).trans f3))
    have hz2 := hb2.size
    refine bodyPost_ret (v := .tuple #[.agg #[.slice x ys.length c, .int .i64 G], .int .i64 1]) (by simp [results, Try.results17, go_sem, m2, m3, n2, n3]) rfl ⟨x, c, ys, G, HY, HG, rfl, ?_, ?_⟩
    · exact ((hrow.set _ _ _ (by omega)).set _ _ _ (by omega)).mono (by omega)
    · exact bset2 (bthen hBw hb2 hBw.size) _ _ _ _ _ _ (by omega) (by omega)
  · go_enter Try.func17, Try.ntmps17
    go_wp2_with (first | (go_at_call 13; refine (codes_ok _ l _ hvl1 hr).mono ?_; rintro e w1 ⟨gc, rfl, hrow1, hb1⟩; obtain ⟨k0, k1, k2, k3, f0, f1, f2, f3, hz⟩ := two_boxes hb1; have hBw := bthen hW hb1 hW.size) | (go_at_call 25; refine (asitwas_any _ _ xs M _ (hv.below hBw) hx).mono ?_; rintro e w2 ⟨x, c, ys, G, HY, HG, rfl, hrow, hb2⟩; obtain ⟨hc2, hf2⟩ := bcell hb2; have m2 := (hc2 _ _ (by omega)).trans k2; have m3 := (hc2 _ _ (by omega)).trans k3; have n2 := (hf2 _ _ (by omega)).trans f2; have n3 := (hf2 _ _ (by omega)).trans f3))
    have hz2 := hb2.size
    refine bodyPost_ret (v := .tuple #[.agg #[.slice x ys.length c, .int .i64 G], .int .i64 1]) (by simp [results, Try.results17, go_sem, m2, m3, n2, n3]) rfl ⟨x, c, ys, G, HY, HG, rfl, ?_, ?_⟩
    · exact ((hrow.set _ _ _ (by omega)).set _ _ _ (by omega)).mono (by omega)
    · exact bset2 (bthen hBw hb2 hBw.size) _ _ _ _ _ _ (by omega) (by omega)
  · have g0 := hcl n hn
    rw [h0] at g0
    clear h0 hcl
    go_enter Try.func17, Try.ntmps17
    go_wp2_with (first | (go_at_call 13; refine (codes_ok _ l _ hvl1 hr).mono ?_; rintro e w1 ⟨gc, rfl, hrow1, hb1⟩; obtain ⟨k0, k1, k2, k3, f0, f1, f2, f3, hz⟩ := two_boxes hb1; have hBw := bthen hW hb1 hW.size; have g1 := (hBw.cell (p := ⟨bl_, ol + n, none⟩) hbl).trans g0) | (go_at_call 25; refine (asitwas_any _ _ xs M _ (hv.below hBw) hx).mono ?_; rintro e w2 ⟨x, c, ys, G, HY, HG, rfl, hrow, hb2⟩; obtain ⟨hc2, hf2⟩ := bcell hb2; have m2 := (hc2 _ _ (by omega)).trans k2; have m3 := (hc2 _ _ (by omega)).trans k3; have n2 := (hf2 _ _ (by omega)).trans f2; have n3 := (hf2 _ _ (by omega)).trans f3))
    have hz2 := hb2.size
    refine bodyPost_ret (v := .tuple #[.agg #[.slice x ys.length c, .int .i64 G], .int .i64 1]) (by simp [results, Try.results17, go_sem, m2, m3, n2, n3]) rfl ⟨x, c, ys, G, HY, HG, rfl, ?_, ?_⟩
    · exact ((hrow.set _ _ _ (by omega)).set _ _ _ (by omega)).mono (by omega)
    · exact bset2 (bthen hBw hb2 hBw.size) _ _ _ _ _ _ (by omega) (by omega)
end Go.Proofs.Ytnlahpnpajadpaa
