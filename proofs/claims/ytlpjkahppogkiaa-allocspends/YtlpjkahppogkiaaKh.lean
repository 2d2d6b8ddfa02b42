/- Contracts: one pulse more, what pulses cost, whether a band may have one more, by the document. -/
import Derived.Test.YtlpjkahppogkiaaKg
namespace Go.Proofs.Ytlpjkahppogkiaa
open Go.RowKit
set_option linter.unusedVariables false
set_option linter.unusedSimpArgs false

theorem rw_pls {w : World} {a : Option Addr} {c : Nat} {f : Nat → Nat} (hv : Rw .i64 w (.slice a 5 c) (pls f)) : ∃ b off, a = some ⟨b, off, none⟩ ∧ b < w.heap.size ∧ ∀ i, i < 5 → w.cell? ⟨b, off + i, none⟩ = some (.int .i64 (f i : Nat)) := by
  have hl := pls_len f
  have hv2 := hv
  rw [← hl] at hv2
  obtain ⟨b, off, rfl, hb, -⟩ := hv2.at 0 (by omega)
  refine ⟨b, off, rfl, hb, fun i hi => ?_⟩
  obtain ⟨b', off', he, _, h⟩ := hv2.at i (by omega)
  simp only [Option.some.injEq, Addr.mk.injEq, and_true] at he
  obtain ⟨rfl, rfl⟩ := he
  rw [pls_at f i hi] at h
  exact h

set_option maxHeartbeats 1000000 in
theorem rmore_any (a : Option Addr) (cap b : Nat) (f : Nat → Nat) (w : World) (hv : Rw .i64 w (.slice a 5 cap) (pls f)) (hb : b < 5) (hf : f b ≤ 1000) : Calls Try.prog 29 #[.slice a 5 cap, .int .i64 (b : Nat)] w fun e w' => ∃ g c, e = .returned (.slice (some ⟨g, 0, none⟩) 5 c) ∧ w.heap.size ≤ g ∧ Hl .i64 3 w' g (pls (up f b)) ∧ Below w.heap.size w w' := by
  obtain ⟨i0, hi, hz0, hz1, hz2⟩ := info_parts info_int
  obtain ⟨b0, off, rfl, hb0, hc0⟩ := rw_pls hv
  have HV := hid hv
  have HX := hid (pls_len f)
  have HB := hid hb
  have HSET := hid (pls_set f b hb)
  have HAT := hid (pls_at f b hb)
  have i1 : (0 : Int) ≤ (b : Int) := by omega
  have i2 : (b : Int) < 5 := by omega
  have i3 : IntKind.i64.wrap (b : Int) = b := wraps_i64 _ (by omega) (by omega)
  have i4 : IntKind.i64.wrap ((f b : Int) + 1) = (f b : Int) + 1 := wraps_i64 _ (by omega) (by omega)
  clear hv hc0
  generalize pls f = x at *
  go_enter Try.func29, Try.ntmps29
  go_wp2_with (at_builtin; refine wpList_append_rw rfl _ _ _ rfl w.heap.size 3 i0 (.int .i64 0) 8 Try.underlying34 hi hz0 hz1 hz2 rfl .i64 _ 0 [] rfl (own_empty (Nat.le_refl _)) (some ⟨b0, off, none⟩) cap x (by rw [HX.out]; rfl) (by rw [HX.out]; exact HV.out.below (below1 _ _)) (by intro h; cases h) (by rw [HX.out]; unfold maxLen; omega) (by rw [HX.out]; omega) (by simp) ?_)
  intro v8 w5 hown8 hgrow8
  have hb8 : Below w.heap.size w w5 := ((Below.refl _ _).alloc (Nat.le_refl _) _).grown hgrow8 (by simp) (fun k hk => by simp [Value.ownBlock] at hk; omega)
  have hown8 : w5.ownsRow w.heap.size 3 1 v8 5 (x.map (Value.int .i64)) := by
    have h := hown8
    rw [HX.out] at h
    exact h
  obtain ⟨g, c, rfl, hg, hgc, hhl⟩ := Hl.of_owns hown8 (by omega)
  have HH := hid hhl
  have HB8 := hid hb8
  have q1 := hhl.cell b (by rw [HX.out]; exact hb)
  have q2 := hhl.free b
  rw [HAT.out] at q1
  clear hown8 hgrow8 hhl hb8
  go_wp2
  go_ret
  refine ⟨g, c, rfl, hg, ?_, HB8.out.setCell (p := ⟨g, b, none⟩) hg _⟩
  rw [← HSET.out]
  exact HH.out.set b _

set_option maxHeartbeats 1000000 in
theorem rspent_any (a : Option Addr) (cap : Nat) (f : Nat → Nat) (w : World) (hv : Rw .i64 w (.slice a 5 cap) (pls f)) (hf : ∀ b, b < 5 → f b ≤ 12) : Calls Try.prog 19 #[.slice a 5 cap] w fun e w' => e = .returned (.int .i64 (sp f : Nat)) ∧ Below w.heap.size w w' := by
  obtain ⟨b0, off, rfl, hb0, hc0⟩ := rw_pls hv
  have HC := hid hc0
  have HF := hid hf
  have HS : Hid (∀ j, spn f (j + 1) = spn f j + co j (f j)) := fun j => rfl
  have HLE : Hid (∀ j, j ≤ 5 → spn f j ≤ 64 * j) := fun j hj => spn_le f (fun b hb => Nat.le_trans (hf b hb) (by omega)) j hj
  have HCO : Hid (∀ j, j < 5 → co j (f j) ≤ 64) := fun j hj => co_le j (f j) hj (Nat.le_trans (hf j hj) (by omega))
  have HE : Hid (spn f 5 = sp f) := rfl
  have H0 : Hid (spn f 0 = 0) := rfl
  generalize spn f = q at *
  generalize sp f = R at *
  clear hv hc0 hf
  go_enter Try.func19, Try.ntmps19
  go_wp2
  go_loopw [3, 4] (fun n i wr => ∃ j : Nat, j ≤ 5 ∧ i = .int .i64 j ∧ n = .int .i64 (q j : Nat) ∧ Hid (Below w.heap.size w wr)) (fun _ i _ => 5 - (intOf i).toNat)
  case atStart => exact ⟨0, by omega, rfl, by rw [H0.out]; rfl, Below.refl _ _⟩
  case round =>
    obtain ⟨j, hj, rfl, rfl, HBR⟩ := hrel
    by_cases hlt : j < 5
    · have hk := HF.out j hlt
      have hwd := fun w => rwidth_b j hlt w
      have hco := fun w => rcost_b j (f j) hlt hk w
      have hK : ∀ w', Below wr.heap.size wr w' → w'.cell? ⟨b0, off + j, none⟩ = some (.int .i64 (f j : Nat)) := fun w' h => ((bcell (bthen' HBR.out h)).1 _ _ hb0).trans (HC.out j hlt)
      have HQ : Hid (q (j + 1) = q j + co j (f j)) := HS.out j
      have l1 := HLE.out j hj
      have l2 := HCO.out j hlt
      have i1 : (0 : Int) ≤ (j : Int) := by omega
      have i2 : (j : Int) < 5 := by omega
      have i3 : IntKind.i64.wrap (j : Int) = j := wraps_i64 _ (by omega) (by omega)
      have i4 : IntKind.i64.wrap ((q j : Int) + (co j (f j) : Int)) = (q j : Int) + (co j (f j) : Int) := wraps_i64 _ (by omega) (by omega)
      generalize co j (f j) = C at *
      generalize hD : ((wd j : Nat) : Int) = D at *
      generalize f j = K at *
      generalize hqj : q j = Q at *
      clear hD hk hqj
      go_wp2
      go_region_held3 (fun w' => w'.cell? ⟨b0, off + j, none⟩ = some (.int .i64 K)) (exact hK _ (by first | exact hy1 | exact (Below.refl _ _).drew | exact Below.refl _ _)) (first | (go_at_call 20; refine (hwd _).mono ?_; rintro e w9 ⟨rfl, h9⟩; have h9 := h9.symm; subst h9) | (go_at_call 28; refine (hco _).mono ?_; rintro e y1 ⟨rfl, e1⟩; have hy1 : Below wr.heap.size wr y1 := (by first | exact drew_below e1 | exact e1)))
      go_wp2
      exact ⟨⟨j + 1, by omega, by go_num, by rw [HQ.out]; go_num, bthen' HBR.out hy1⟩, by simp [intOf]; omega⟩
    · obtain rfl : j = 5 := by omega
      rw [HE.out]
      clear HS HLE HCO HF HC H0
      go_wp2
      go_ret
      exact ⟨rfl, HBR.out⟩
end Go.Proofs.Ytlpjkahppogkiaa
