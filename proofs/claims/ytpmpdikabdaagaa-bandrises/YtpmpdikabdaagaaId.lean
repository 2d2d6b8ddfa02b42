/- Contract of Split. -/
import Derived.Test.YtpmpdikabdaagaaIc
namespace Go.Proofs.Ytpmpdikabdaagaa
open Go.RowKit
set_option linter.unusedVariables false
set_option linter.unusedSimpArgs false

theorem Hl.other {k : IntKind} {t : TypeId} {w : World} {g : Nat} {xs : List Int} (h : Hl k t w g xs) (c o : Nat) (y : Value) (hne : g ≠ c) : Hl k t (w.setCell ⟨c, o, none⟩ y) g xs := by
  obtain ⟨cur, h, ht⟩ := h
  exact ⟨cur, (heap_setCell_other _ _ _ _ hne).trans h, ht⟩
theorem Rx.of_hl {t : TypeId} {G : Option Nat} {w : World} {g F n cap : Nat} {xs ys : List Int} (h : Hl .i64 t w g xs) (hn : ys.length = n) (hc : n ≤ cap) (hG : some g ≠ G) (hin : F + n ≤ xs.length) (hat : ∀ j, j < n → ys.getD j 0 = xs.getD (F + j) 0) :
    Rx true G w (.slice (some ⟨g, F, none⟩) n cap) ys := by
  subst hn
  exact ⟨_, cap, rfl, fun _ => hc, .inr ⟨g, F, rfl, hG, h.lt, fun j hj => by rw [h.cell _ (by omega), hat j hj]⟩⟩
def bnds (c : List Int) : List (List Int) := (List.range 5).map (bnd c)
theorem split_no (a : Option Addr) (cap : Nat) (c : List Int) (w : World) (hv : Rw .i64 w (.slice a c.length cap) c) (hf : Fits c) (hx : fairF c = false) : Calls Try.prog 20 #[.slice a c.length cap] w fun e w' => e = .returned (.tuple #[.slice none 0 0, .int .i64 1]) ∧ w' = w := by
  have hs := fun w hv => isf_any a cap c w hv hf
  rw [hx] at hs
  go_enter Try.func20, Try.ntmps20
  go_wp2_with (go_at_call 33; refine (hs _ hv).mono ?_; rintro e w9 ⟨rfl, h9⟩; have h9 := h9.symm; subst h9)
  go_ret2
  exact ⟨rfl, rfl⟩
set_option maxRecDepth 10000 in
set_option maxHeartbeats 4000000 in
theorem split_ok (a : Option Addr) (cap : Nat) (c : List Int) (w : World) (hv : Rw .i64 w (.slice a c.length cap) c) (hf : Fits c) (hx : fairF c = true) :
    Calls Try.prog 20 #[.slice a c.length cap] w fun e w' => ∃ g, e = .returned (.tuple #[.slice (some ⟨g, 0, none⟩) 5 5, .int .i64 0]) ∧ Fr true w' (.slice (some ⟨g, 0, none⟩) 5 5) (bnds c) ∧ Below w.heap.size w w' := by
  obtain ⟨i1, hi1, hy0, hy1, hy2⟩ := info_parts (show (Try.prog.info? 26).map (fun i => (i.zero, i.size, i.bytes)) = some (some (.slice none 0 0), 1, 24) by kernel_rfl)
  have hs := fun w hv => isf_any a cap c w hv hf
  rw [hx] at hs
  have h16 : c.length = 16 := by
    unfold fairF at hx
    simp only [Bool.and_eq_true, decide_eq_true_eq] at hx
    exact hx.1
  have hcl := fun w hv => clone_any a cap c w hv (by omega) (by omega)
  have HBL : Hid (∀ i, i < 5 → (bnd c i).length = wd i) := fun i hi => bnd_len h16 hi
  have HBA : Hid (∀ i j, j < wd i → (bnd c i).getD j 0 = c.getD (fr i + j) 0) := fun i j hj => bnd_at c i j hj
  have HBD : Hid (bnds c = (List.range 5).map (bnd c)) := rfl
  have H16 := hid h16
  rw [h16] at hv hs hcl ⊢
  generalize bnd c = B at *
  generalize bnds c = BS at *
  clear h16 hf hx
  go_enter Try.func20, Try.ntmps20
  go_wp2_with (first | (go_at_call 33; refine (hs _ hv).mono ?_; rintro e w9 ⟨rfl, h9⟩; have h9 := h9.symm; subst h9) | (go_at_call 34; refine (hcl _ hv).mono ?_; rintro e W ⟨g, cc, rfl, hcc, hg, hhl, hb1⟩; have HH := hid hhl; have HB1 := hid hb1; clear hhl hb1 hs hcl hv) | (at_make; refine wpList_make_full _ rfl _ _ 32 rfl W.heap.size 26 i1 (.slice none 0 0) 1 Try.underlying32 hi1 hy0 hy1 .i64 .i64 _ _ 5 rfl rfl (by omega) (by omega) (by rw [hy2]; omega) (by unfold maxLen; omega) (by simp) ?_))
  intro w7 hown7 hgrow7
  have hb7 := grown_of_none hgrow7
  have HF0 : Hid (Fg 26 w7 W.heap.size 5 B 0) := Fg.made hown7
  have HB7 := hid hb7
  have HH7 := hid (HH.out.below hb7)
  have hgW := HH.out.lt
  clear hown7 hgrow7 hb7
  go_wp2
  go_loopw [17] (fun p wr => ∃ i : Nat, i ≤ 5 ∧ p = .int .i64 i ∧ Fg 26 wr W.heap.size 5 B i ∧ Hl .i64 2 wr g c ∧ Below W.heap.size W wr) (fun p _ => 5 - (intOf p).toNat)
  case atStart => exact ⟨0, by omega, rfl, HF0.out, HH7.out, HB7.out⟩
  case round =>
    obtain ⟨i, hi2, rfl, hfg, hhl, hbw⟩ := hrel
    have HFG := hid hfg
    have HHL := hid hhl
    have HBW := hid hbw
    clear hfg hhl hbw HF0 HB7 HH7
    by_cases hl : i < 5
    · obtain ⟨r1, r2, r3, r4, _⟩ := band_in hl
      have hfi := fun w => from_any (i : Int) w
      have hwi := fun w => width_any (i : Int) w
      have hlb := HBL.out i hl
      have hat := HBA.out i
      rw [frI_nat hl] at hfi
      rw [wdI_nat hl] at hwi
      generalize fr i = F at *
      generalize wd i = M at *
      obtain ⟨E, hE⟩ : ∃ E : Nat, F + M = E := ⟨_, rfl⟩
      have z1 : (F : Int) + (M : Int) = (E : Int) := by omega
      have z2 : E - F = M := by omega
      have z3 : E ≤ 16 := by omega
      have z4 : F ≤ E := by omega
      have HR := hid (Rx.of_hl (G := some W.heap.size) (cap := M) HHL.out hlb (Nat.le_refl _) (fun e => by have := Option.some.inj e; omega) (by rw [H16.out]; omega) hat)
      obtain ⟨v0, hc2, hf2⟩ := HFG.out.cell i hl
      have HI : Hid (i < 5) := hl
      clear hlb hat r1 hE
      go_wp2_with (first | (go_at_call 9; refine (hfi _).mono ?_; rintro e w9 ⟨rfl, h9⟩; have h9 := h9.symm; subst h9) | (go_at_call 11; refine (hwi _).mono ?_; rintro e w9 ⟨rfl, h9⟩; have h9 := h9.symm; subst h9))
      exact ⟨⟨i + 1, by omega, by go_num, HFG.out.put HI.out HR.out, HHL.out.other _ _ _ (by omega), bset1 HBW.out _ _ _ (Nat.le_refl _)⟩, by simp [intOf]; omega⟩
    · have hie : i = 5 := by omega
      have R : Hid (Fr true wr (.slice (some ⟨W.heap.size, 0, none⟩) 5 5) BS) := by
        have h := HFG.out
        rw [hie] at h
        unfold Hid
        rw [HBD.out]
        exact h.fr
      have HB := hid (bthen' HB1.out HBW.out)
      clear hie HFG
      go_wp2
      go_ret2
      exact ⟨_, rfl, R.out, HB.out⟩
end Go.Proofs.Ytpmpdikabdaagaa
