/- Contracts of the document's Band and Gains. -/
import Derived.Test.YtpmpdikabdaagaaIe
namespace Go.Proofs.Ytpmpdikabdaagaa
open Go.RowKit
set_option linter.unusedVariables false
set_option linter.unusedSimpArgs false

theorem bnd_tab {c : List Int} (h16 : c.length = 16) {b : Nat} (hb : b < 5) : bnd c b = tab (wd b) fun j => c.getD (fr b + j) 0 :=
  tab_eq (bnd_len h16 hb) fun j hj => bnd_at c b j hj
set_option maxRecDepth 10000 in
set_option maxHeartbeats 4000000 in
theorem rband_any (a : Option Addr) (cap : Nat) (c : List Int) (b : Nat) (w : World) (hv : Rw .i64 w (.slice a c.length cap) c) (h16 : c.length = 16) (hb : b < 5) :
    Calls Try.prog 24 #[.slice a c.length cap, .int .i64 b] w fun e w' => ∃ v, e = .returned v ∧ RwF w.heap.size .i64 w' v (bnd c b) ∧ Below w.heap.size w w' := by
  obtain ⟨i0, hi, hz0, hz1, hz2⟩ := info_parts info_i64
  obtain ⟨a', cap', he, ha⟩ := hv
  simp only [Value.slice.injEq, true_and] at he
  obtain ⟨rfl, rfl⟩ := he
  obtain ⟨g, off, rfl, hlt, hc⟩ := ha.resolve_left (by intro h; subst h; simp at h16)
  clear ha
  rw [h16] at hc ⊢
  have HC := hid hc
  have HT := hid (bnd_tab h16 hb)
  obtain ⟨r1, r2, r3, r4, _⟩ := band_in hb
  have hfi := fun w => rfrom_any (b : Int) w
  have hwi := fun w => rwidth_any (b : Int) w
  rw [frI_nat hb] at hfi
  rw [wdI_nat hb] at hwi
  generalize fr b = F at *
  generalize wd b = M at *
  generalize bnd c b = B at *
  clear hc h16
  go_enter Try.func24, Try.ntmps24
  go_wp2
  go_loopw [5, 6] (fun o i wr => ∃ j : Nat, j ≤ M ∧ i = .int .i64 j ∧ wr.ownsRow w.heap.size 2 1 o j ((tab j fun j => c.getD (F + j) 0).map (Value.int .i64)) ∧ Below w.heap.size w wr) (fun _ i _ => M - (intOf i).toNat)
  case atStart => exact ⟨0, by omega, rfl, World.ownsRow_nil _ _ _ _, Below.refl _ _⟩
  case round =>
    obtain ⟨j, hj, rfl, hown, hbr⟩ := hrel
    have hsz := hbr.size
    by_cases hl : j < M
    · have hc1 := (hbr.cell (p := ⟨g, off + (F + j), none⟩) hlt).trans (HC.out (F + j) (by omega))
      have HS : Hid ((tab (j + 1) fun j => c.getD (F + j) 0).map (Value.int .i64) = (tab j fun j => c.getD (F + j) 0).map (Value.int .i64) ++ [.int .i64 (c.getD (F + j) 0)]) := by
        unfold Hid; rw [tab_push]; simp
      obtain ⟨P, hP⟩ : ∃ P, F + j = P := ⟨_, rfl⟩
      rw [hP] at hc1 HS
      have z1 : (F : Int) + (j : Int) = (P : Int) := by omega
      have z2 : P < 16 := by omega
      generalize c.getD P 0 = z at *
      go_wp2_with (first | (go_at_call 10; refine (hfi _).mono ?_; rintro e w9 ⟨rfl, h9⟩; have h9 := h9.symm; subst h9) | (go_at_call 12; refine (hwi _).mono ?_; rintro e w9 ⟨rfl, h9⟩; have h9 := h9.symm; subst h9) | (at_builtin; refine wpList_append_own _ rfl _ _ 26 rfl w.heap.size 2 i0 (.int .i64 0) 1 8 Try.underlying26 hi hz0 hz1 hz2 rfl (by decide) _ _ _ rfl (hown.alloc _) ⟨wr.heap.size, 0, none⟩ 1 1 [.int .i64 z] rfl rfl (cell_one_at rfl _ _) (one_cell _ _) ?c3 ?c4 ?c5 ?_))
      case c3 => unfold maxLen; omega
      case c4 => omega
      case c5 => first | omega | (simp; omega)
      intro v' w2 hown' hgrow _
      have hb2 := bgrow hbr hown (Nat.le_refl _) hgrow
      go_wp2
      exact ⟨⟨j + 1, by omega, by go_num, by rw [HS.out]; exact hown', hb2⟩, by simp [intOf]; omega⟩
    · have hje : j = M := by omega
      rw [hje, ← HT.out] at hown
      have R := hid (RwF.of_owns hown)
      clear hown hje
      go_wp2_with (first | (go_at_call 12; refine (hwi _).mono ?_; rintro e w9 ⟨rfl, h9⟩; have h9 := h9.symm; subst h9))
      go_ret
      exact ⟨_, rfl, R.out, hbr⟩
set_option maxRecDepth 10000 in
set_option maxHeartbeats 4000000 in
theorem rgains_any (a : Option Addr) (cap : Nat) (c : List Int) (w : World) (hv : Rw .i64 w (.slice a c.length cap) c) (hx : fairF c = true) :
    Calls Try.prog 26 #[.slice a c.length cap] w fun e w' => ∃ v, e = .returned v ∧ Rw .i64 w' v (gns c) ∧ Below w.heap.size w w' := by
  obtain ⟨i0, hi, hz0, hz1, hz2⟩ := info_parts info_int
  obtain ⟨h16, hf⟩ := fairF_parts hx
  have HRB : Hid (∀ b : Nat, b < 5 → ∀ w, Rw .i64 w (.slice a c.length cap) c → Calls Try.prog 24 #[.slice a c.length cap, .int .i64 b] w fun e w' => ∃ v, e = .returned v ∧ RwF w.heap.size .i64 w' v (bnd c b) ∧ Below w.heap.size w w') := fun b hb w hv => rband_any a cap c b w hv h16 hb
  have HRG : Hid (∀ b : Nat, b < 5 → ∀ a cap w, Rw .i64 w (.slice a (bnd c b).length cap) (bnd c b) → Calls Try.prog 19 #[.slice a (bnd c b).length cap] w fun e w' => e = .returned (.int .i64 (gn (bnd c b) : Nat)) ∧ w' = w) := fun b hb a cap w hv => rgain_any a cap (bnd c b) w hv (bnd_fair hf h16 hb)
  have HT : Hid (gns c = tab 5 fun b => ((gn (bnd c b) : Nat) : Int)) := rfl
  generalize gns c = GS at *
  generalize bnd c = B at *
  generalize c.length = n at *
  have HV := hid hv
  clear h16 hf hx hv
  go_enter Try.func26, Try.ntmps26
  go_wp2
  go_loopw [3, 4] (fun o i wr => ∃ j : Nat, j ≤ 5 ∧ i = .int .i64 j ∧ wr.ownsRow w.heap.size 3 1 o j ((tab j fun b => ((gn (B b) : Nat) : Int)).map (Value.int .i64)) ∧ Below w.heap.size w wr) (fun _ i _ => 5 - (intOf i).toNat)
  case atStart => exact ⟨0, by omega, rfl, World.ownsRow_nil _ _ _ _, Below.refl _ _⟩
  case round =>
    obtain ⟨j, hj, rfl, hown, hbr⟩ := hrel
    have HB := hid hbr
    have HOW := hid hown
    clear hbr hown
    by_cases hl : j < 5
    · have hrb := HRB.out j hl
      have hrg := HRG.out j hl
      have hvr := HV.out.below HB.out
      have HS : Hid ((tab (j + 1) fun b => ((gn (B b) : Nat) : Int)).map (Value.int .i64) = (tab j fun b => ((gn (B b) : Nat) : Int)).map (Value.int .i64) ++ [.int .i64 ((gn (B j) : Nat) : Int)]) := by
        unfold Hid; rw [tab_push]; simp
      generalize gn (B j) = G at *
      obtain ⟨W, hW⟩ : ∃ W, W = wr := ⟨_, rfl⟩
      rw [← hW] at HB HOW hvr ⊢
      clear hW
      go_wp2_with (first | (go_at_call 24; refine (hrb _ hvr).mono ?_; rintro e w2 ⟨v2, rfl, hr2, hb2⟩; have hr2 := hr2.rw; obtain ⟨a2, c2, rfl, _⟩ := id hr2; have HB2 := hid hb2; have HO2 := hid (owns_below HOW.out hb2); clear hb2) | (go_at_call 19; refine (hrg _ _ _ hr2).mono ?_; rintro e w9 ⟨rfl, h9⟩; have h9 := h9.symm; subst h9) | (at_builtin; refine wpList_append_own _ rfl _ _ 35 rfl w.heap.size 3 i0 (.int .i64 0) 1 8 Try.underlying35 hi hz0 hz1 hz2 rfl (by decide) _ _ _ rfl (HO2.out.alloc _) ⟨w2.heap.size, 0, none⟩ 1 1 [.int .i64 G] rfl rfl (cell_one_at rfl _ _) (one_cell _ _) ?c3 ?c4 ?c5 ?_))
      case c3 => unfold maxLen; omega
      case c4 => omega
      case c5 => have z1 := HB.out.size; have z2 := HB2.out.size; first | omega | (simp; omega)
      intro v' w3 hown' hgrow _
      have HN := hid hown'
      have hb3 := hid (bgrow (bthen' HB.out HB2.out) HO2.out (Nat.le_refl _) hgrow)
      clear hown' hgrow
      go_wp2
      exact ⟨⟨j + 1, by omega, by go_num, by rw [HS.out]; exact HN.out, hb3.out⟩, by simp [intOf]; omega⟩
    · have hje : j = 5 := by omega
      have h := HOW.out
      rw [hje, ← HT.out] at h
      have HR := hid (Rw.of_owns h)
      clear h hje HOW
      go_wp2
      go_ret
      exact ⟨_, rfl, HR.out, HB.out⟩
end Go.Proofs.Ytpmpdikabdaagaa
