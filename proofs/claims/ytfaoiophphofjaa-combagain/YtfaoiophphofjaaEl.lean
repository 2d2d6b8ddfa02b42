/- Contract of the document's Vector. -/
import Derived.Test.YtfaoiophphofjaaEk
namespace Go.Proofs.Ytfaoiophphofjaa
open Go.RowKit
set_option linter.unusedVariables false
set_option linter.unusedSimpArgs false

set_option maxHeartbeats 4000000 in
theorem rvector_ok (n k i : Nat) (w : World) (h2 : n ≤ 16) (h3 : k ≤ 12) (h : i < V n k) : Calls Try.prog 21 #[.int .i64 n, .int .i64 k, .int .u64 i] w fun e w' => ∃ (v : Value) (ys : List Int), e = .returned v ∧ RwF w.heap.size .i64 w' v ys ∧ ys.length = n ∧ ps ys = k ∧ ix n k ys = i ∧ Below w.heap.size w w' := by
  obtain ⟨i0, hi, hz0, hz1, hz2⟩ := info_parts info_int
  have HV : Hid _ := h
  clear h
  go_enter Try.func21, Try.ntmps21
  go_wp2
  go_loopw [1, 2, 7, 8] (fun kv iv r c wr => ∃ (t : List Int) (kl il : Nat), t.length ≤ n ∧ c = .int .i64 t.length ∧ kv = .int .i64 kl ∧ iv = .int .u64 il ∧ Hid (Beg n k i t kl il) ∧ wr.ownsRow w.heap.size 3 1 r t.length (t.map (Value.int .i64)) ∧ Below w.heap.size w wr) (fun _ _ _ c _ => n - (intOf c).toNat)
  case atStart => exact ⟨[], k, i, by simp, rfl, rfl, rfl, Beg.start HV.out, World.ownsRow_nil _ _ _ _, Below.refl _ _⟩
  case round =>
    clear HV
    obtain ⟨t, kl, il, htn, rfl, rfl, rfl, HB, hown, hbr⟩ := hrel
    by_cases hl : t.length < n
    · obtain ⟨m, hm⟩ : ∃ m, n - t.length - 1 = m := ⟨_, rfl⟩
      have hkl : kl ≤ 12 := by have := HB.out.pulses; omega
      have em : ((n : Int) - (t.length : Int) - 1) = (m : Int) := by omega
      have HM : Hid _ := hm
      have hm15 : m ≤ 15 := by omega
      have HA0 : Hid _ := HB.out.at_ hl
      have hrow := fun w => row_any m w (by omega)
      have hord := fun w => order_any kl w hkl
      obtain ⟨M, hM⟩ : ∃ M, 2 * kl + 1 = M := ⟨_, rfl⟩
      simp only [hM] at hord
      have HMM : Hid (2 * kl + 1 = M) := hM
      have hM25 : M ≤ 25 := by omega
      clear hm HB hM
      have hlt2 := hown.lt
      go_wp2_with (first | (go_at_call 25; refine (hrow _).mono ?_; rintro e wa ⟨rb, rcap, rfl, rb1, rb2, rcells, hba⟩) | (go_at_call 31; refine (hord _).mono ?_; rintro e wb ⟨ob, ocap, rfl, ob1, ob2, ocells, hbb⟩; have HRC : Hid (∀ k, k < 13 → wb.cell? ⟨rb, k, none⟩ = some (.int .u64 (V m k : Nat))) := (fun k hk => (hbb.cell (p := ⟨rb, k, none⟩) rb2).trans (rcells k hk)); have HOC : Hid (∀ p, p < M → wb.cell? ⟨ob, p, none⟩ = some (.int .i64 (pl p))) := ocells; have hown2 := owns_below hown (bthen' hba hbb); have hwb := bthen hbr (bthen' hba hbb) hbr.size; have hobn : wr.heap.size ≤ ob := Nat.le_trans hba.size ob1; clear rcells ocells hown))
      obtain ⟨r0, rfl⟩ : ∃ r0, r0 = u7 := ⟨u7, rfl⟩
      go_loop [1, 2, 7, 11] (fun kv iv r c => ∃ p ir : Nat, p ≤ 2 * kl ∧ kv = .int .i64 kl ∧ r = r0 ∧ c = .int .i64 p ∧ iv = .int .u64 ir ∧ Hid (At n k i t kl p ir)) (fun _ _ _ c => 2 * kl + 1 - (intOf c).toNat)
      case atStart => exact ⟨0, il, by omega, rfl, rfl, rfl, rfl, HA0⟩
      case round =>
        clear HA0
        obtain ⟨p, ir, hp, rfl, rfl, rfl, rfl, HA⟩ := hrel
        have hp24 : p ≤ 24 := by omega
        have hpM : p < M := by have := HMM.out; omega
        have gk := HRC.out (kl - (p + 1) / 2) (by omega)
        have go := HOC.out p hpM
        have hsz2 := fun w => rsize_any (pl p) w (by have := pl_small p 12 hp24; omega) (by have := pl_small p 12 hp24; omega)
        rw [rsz_pl p hp24] at hsz2
        have hhalf : (p + 1) / 2 ≤ kl := by omega
        have ez : ((kl : Int) - (((p + 1) / 2 : Nat) : Int)).toNat = kl - (p + 1) / 2 := by omega
        have e0 : (0 : Int) ≤ (kl : Int) - (((p + 1) / 2 : Nat) : Int) := by omega
        have e1 : (kl : Int) - (((p + 1) / 2 : Nat) : Int) < 13 := by omega
        have c2 : (p : Int) < (M : Int) := by omega
        by_cases hpass : V m (kl - (p + 1) / 2) ≤ ir
        · have HA2 : Hid (At n k i t kl (p + 1) (ir - V m (kl - (p + 1) / 2))) := by
            have := HA.out.pass (by rw [HM.out]; exact hpass)
            rw [HM.out] at this
            exact this
          have hp2 : p + 1 ≤ 2 * kl := HA2.out.top
          generalize pl p = P at *
          generalize V m (kl - (p + 1) / 2) = X2 at *
          generalize (p + 1) / 2 = q at *
          have j1 : ¬ ((ir : Int) < (X2 : Int)) := by omega
          have hb64 : ir - X2 < 2 ^ 64 := by
            have h1 := HA2.out.room
            have h2 := V_small (n - t.length) kl (by omega) (by omega)
            omega
          clear HRC HOC HA hlt2
          go_wp2_with (go_at_call 30; refine (hsz2 _).mono ?_; rintro e w' ⟨rfl, rfl⟩)
          refine ⟨⟨p + 1, ir - X2, hp2, rfl, rfl, by go_num, ?_, HA2⟩, by simp [intOf]; omega⟩
          rw [show ((ir : Int) - (X2 : Int)) = ((ir - X2 : Nat) : Int) by omega]
        · have HB2 : Hid (Beg n k i (t ++ [pl p]) (kl - (p + 1) / 2) ir) := HA.out.take (by rw [HM.out]; omega)
          have HS : Hid ((t ++ [pl p]).map (Value.int .i64) = t.map (Value.int .i64) ++ [.int .i64 (pl p)]) := by unfold Hid; simp
          have HSL : Hid ((t ++ [pl p]).length = t.length + 1) := by unfold Hid; simp
          have hwz := hwb.size
          generalize pl p = P at *
          generalize V m (kl - (p + 1) / 2) = X2 at *
          generalize (p + 1) / 2 = q at *
          have j1 : (ir : Int) < (X2 : Int) := by omega
          clear HRC HOC HA
          go_wp2_with (first | (go_at_call 30; refine (hsz2 _).mono ?_; rintro e w9 ⟨rfl, h9⟩; have h9 := h9.symm; subst h9) | (at_builtin; refine wpList_append_own _ rfl _ _ 32 rfl w.heap.size 3 i0 (.int .i64 0) 1 8 Try.underlying32 hi hz0 hz1 hz2 rfl (by decide) _ _ _ rfl (hown2.alloc _) ⟨wb.heap.size, 0, none⟩ 1 1 [.int .i64 P] rfl rfl (cell_one_at rfl _ _) (one_cell _ _) ?c3 ?c4 ?c5 ?_))
          case c3 => unfold maxLen; omega
          case c4 => omega
          case c5 => first | (simp; omega) | omega
          intro v' w2 hown' hgrow _
          have hb2 := bgrow hwb hown2 (Nat.le_refl _) hgrow
          have hblk : w2.heap[ob]? = (wb.alloc (.cells #[.int .i64 P] 3)).heap[ob]? := hgrow.block ob (by simp; omega) (by first | (intro e; have := hlt2 _ e; omega) | (intro e; have := hlt2 _ e.symm; omega))
          have go2 : w2.cell? ⟨ob, p, none⟩ = some (.int .i64 P) := by
            rw [World.cell?_of_block (w := wb.alloc (.cells #[.int .i64 P] 3)) hblk, World.cell?_alloc_past _ _ _ ob2]
            exact go
          rw [← HS.out, ← HSL.out] at hown'
          clear hgrow hblk hlt2 hown2 go gk
          go_wp2_with (go_at_call 30; refine (hsz2 _).mono ?_; rintro e w9 ⟨rfl, h9⟩; have h9 := h9.symm; subst h9)
          exact ⟨⟨t ++ [P], kl - q, ir, by rw [HSL.out]; omega, by rw [HSL.out]; go_num, by go_num, rfl, HB2, hown', hb2⟩, by simp [intOf]; omega⟩
    · have hte : t.length = n := by omega
      have HE : Hid _ := HB.out.end_ hte
      have hrw := RwF.of_owns hown
      clear HB hte hown
      go_wp2
      go_ret
      exact ⟨_, t, rfl, hrw, HE.out.1, HE.out.2.1, HE.out.2.2, hbr⟩
end Go.Proofs.Ytfaoiophphofjaa
