/- Contracts of the document's Same and order. -/
import Derived.Test.YtfaoiophphofjaaEi
import Derived.Deep.QuietTactic
namespace Go.Proofs.Ytfaoiophphofjaa
open Go.RowKit
set_option linter.unusedVariables false
set_option linter.unusedSimpArgs false

set_option maxHeartbeats 2000000 in
theorem same_yes (v1 v2 : Value) (xs : List Int) (w : World) (h1 : Rw .i64 w v1 xs) (h2 : Rw .i64 w v2 xs) (hl : xs.length ≤ 100) : Calls Try.prog 20 #[v1, v2] w fun e w' => e = .returned (.bool true) ∧ Below w.heap.size w w' := by
  obtain ⟨a1, c1, rfl, ha1⟩ := h1
  obtain ⟨a2, c2, rfl, ha2⟩ := h2
  obtain ⟨n, hn⟩ : ∃ n, xs.length = n := ⟨_, rfl⟩
  rw [hn] at ha1 ha2 hl ⊢
  have hnil : 0 < n → xs ≠ [] := fun h e => by rw [e] at hn; simp at hn; omega
  clear hn
  go_enter Try.func20, Try.ntmps20
  go_wp2
  go_loopw [5] (fun i wr => ∃ k : Nat, k ≤ n ∧ i = .int .i64 k ∧ Below w.heap.size w wr) (fun i _ => n - (intOf i).toNat)
  case atStart => exact ⟨0, by omega, rfl, Below.refl _ _⟩
  case round =>
    obtain ⟨k, hk, rfl, hnx⟩ := hrel
    by_cases hlt : k < n
    · obtain ⟨b1, o1, rfl, hb1, hc1⟩ := ha1.resolve_left (hnil (by omega))
      obtain ⟨b2, o2, rfl, hb2, hc2⟩ := ha2.resolve_left (hnil (by omega))
      have g1 := (hnx.cell (p := ⟨b1, o1 + k, none⟩) hb1).trans (hc1 k hlt)
      have g2 := (hnx.cell (p := ⟨b2, o2 + k, none⟩) hb2).trans (hc2 k hlt)
      clear ha1 ha2 hc1 hc2 hnil
      generalize xs.getD k 0 = x at *
      have i1 : (0 : Int) ≤ (k : Int) := by omega
      have i2 : (k : Int) < (n : Int) := by omega
      have i3 : IntKind.i64.wrap (k : Int) = k := wraps_i64 _ (by omega) (by omega)
      go_wp2
      go_quiet (fail)
      go_wp2
      exact ⟨⟨k + 1, by omega, by go_num, drewN_below hnx _⟩, by simp [intOf]; omega⟩
    · clear ha1 ha2 hnil
      go_wp2
      go_ret
      exact ⟨rfl, hnx⟩

/-- The first q integers of the row 0, 1, -1, 2, -2 .. -/
def ordP (q : Nat) : List Int := (List.range q).map pl
theorem ordP_len (q : Nat) : (ordP q).length = q := by simp [ordP]
theorem ordP_at (q p : Nat) (h : p < q) : (ordP q).getD p 0 = pl p := by simp [ordP, h]
theorem pl_up (m : Nat) : pl (2 * m + 1) = (m : Int) + 1 := by unfold pl; split <;> omega
theorem pl_down (m : Nat) : pl (2 * m + 2) = -((m : Int) + 1) := by unfold pl; split <;> omega
theorem ordP_two (m : Nat) : (ordP (2 * (m + 1) + 1)).map (Value.int .i64) = (ordP (2 * m + 1)).map (Value.int .i64) ++ [.int .i64 ((m : Int) + 1), .int .i64 (-((m : Int) + 1))] := by
  have : ordP (2 * (m + 1) + 1) = ordP (2 * m + 1) ++ [pl (2 * m + 1), pl (2 * m + 2)] := by
    show (List.range (2 * m + 1 + 1 + 1)).map pl = _
    rw [List.range_succ, List.range_succ]
    simp [ordP]
  rw [this, pl_up, pl_down]
  simp
theorem two_cells (k : IntKind) (x y : Int) : ∀ u ∈ [Value.int k x, Value.int k y], u.oneCell' = true := by intro u hu; simp at hu; rcases hu with rfl | rfl <;> rfl

theorem own_ints {w : World} {base q : Nat} {v : Value} {e : TypeId} {xs : List Int} (h : w.ownsRow base e 1 v q (xs.map (Value.int .i64))) (hq : 0 < q) : ∃ b cap, v = .slice (some ⟨b, 0, none⟩) q cap ∧ base ≤ b ∧ b < w.heap.size ∧ ∀ p, p < q → w.cell? ⟨b, p, none⟩ = some (.int .i64 (xs.getD p 0)) := by
  have hx : xs.length = q := by have := h.1; simpa using this
  obtain ⟨a, cap, hv, hr⟩ := RwF.of_owns h
  rw [hx] at hv hr
  obtain ⟨b, off, rfl, hb, hlt, hc⟩ := hr.resolve_left (by intro h0; rw [h0] at hx; simp at hx; omega)
  obtain ⟨_, h2⟩ := h
  rcases h2 with ⟨h2, _⟩ | ⟨g, cap', cur, h2, _⟩
  · rw [hv] at h2; cases h2
  · rw [hv] at h2
    simp only [Value.slice.injEq, Option.some.injEq, Addr.mk.injEq] at h2
    obtain ⟨⟨rfl, rfl, _⟩, _, rfl⟩ := h2
    refine ⟨b, cap, hv, hb, hlt, fun p hp => ?_⟩
    have := hc p hp
    rw [Nat.zero_add] at this
    exact this

set_option maxHeartbeats 2000000 in
theorem order_any (k : Nat) (w : World) (hk : k ≤ 12) : Calls Try.prog 31 #[.int .i64 k] w fun e w' => ∃ b cap, e = .returned (.slice (some ⟨b, 0, none⟩) (2 * k + 1) cap) ∧ w.heap.size ≤ b ∧ b < w'.heap.size ∧ (∀ p, p < 2 * k + 1 → w'.cell? ⟨b, p, none⟩ = some (.int .i64 (pl p))) ∧ Below w.heap.size w w' := by
  obtain ⟨i0, hi, hz0, hz1, hz2⟩ := info_parts info_int
  have hown0 : (w.alloc (.cells #[.int .i64 0] 3)).ownsRow w.heap.size 3 1 (.slice (some ⟨w.heap.size, 0, none⟩) 1 1) 1 ((ordP 1).map (Value.int .i64)) :=
    owns_of_full (heap_alloc_last w _) (Nat.le_refl _) rfl (by unfold maxLen; omega)
  go_enter Try.func31, Try.ntmps31
  go_wp2
  go_loopw [3, 4] (fun r i wr => ∃ m : Nat, m ≤ k ∧ i = .int .i64 ((m : Int) + 1) ∧ wr.ownsRow w.heap.size 3 1 r (2 * m + 1) ((ordP (2 * m + 1)).map (Value.int .i64)) ∧ Below w.heap.size w wr) (fun _ i _ => k + 1 - (intOf i).toNat)
  case atStart => exact ⟨0, by omega, rfl, hown0, below1 _ _⟩
  case round =>
    clear hown0
    obtain ⟨m, hm, rfl, hown, hbr⟩ := hrel
    have hsz := hbr.size
    by_cases hlt : m < k
    · have HS : Hid _ := ordP_two m
      go_wp2_with (at_builtin; refine wpList_append_own _ rfl _ _ 32 rfl w.heap.size 3 i0 (.int .i64 0) 1 8 Try.underlying32 hi hz0 hz1 hz2 rfl (by decide) _ _ _ rfl (hown.alloc _) ⟨wr.heap.size, 0, none⟩ 2 2 [.int .i64 ((m : Int) + 1), .int .i64 (-((m : Int) + 1))] rfl rfl (cell_pair_new _ _ _ _) (two_cells _ _ _) ?c3 ?c4 ?c5 ?_)
      case c3 => unfold maxLen; omega
      case c4 => omega
      case c5 => simp; omega
      intro v' w2 hown' hgrow _
      have hb2 := bgrow hbr hown (Nat.le_refl _) hgrow
      go_wp2
      refine ⟨⟨m + 1, by omega, by go_num, ?_, hb2⟩, by simp [intOf]; omega⟩
      rw [HS.out]
      exact hown'
    · have hme : m = k := by omega
      obtain ⟨b, cap, rfl, hb1, hb2, hcells⟩ := own_ints hown (by omega)
      have HC : Hid (∀ p, p < 2 * m + 1 → wr.cell? ⟨b, p, none⟩ = some (.int .i64 (pl p))) := fun p hp => by
        have := hcells p hp
        rw [ordP_at _ p hp] at this
        exact this
      clear hcells hown hlt
      subst hme
      go_wp2
      go_ret
      exact ⟨b, cap, rfl, hb1, hb2, HC.out, hbr⟩
end Go.Proofs.Ytfaoiophphofjaa
