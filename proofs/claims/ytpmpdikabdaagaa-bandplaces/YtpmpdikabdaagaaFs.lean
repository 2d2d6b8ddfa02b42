/- Contracts of slices.Clone and of both Sames. -/
import Derived.Test.YtpmpdikabdaagaaGrids
import Derived.Test.YtpmpdikabdaagaaRows
import Derived.Deep.QuietTactic
import Derived.Laws.BitsAllLaws
namespace Go.Proofs.Ytpmpdikabdaagaa
open Go.RowKit
set_option linter.unusedVariables false
set_option linter.unusedSimpArgs false

theorem info_i64 : (Try.prog.info? 2).map (fun i => (i.zero, i.size, i.bytes)) = some (some (.int .i64 0), 1, 8) := by kernel_rfl
set_option maxHeartbeats 1000000 in
theorem clone_any (a : Option Addr) (cap : Nat) (x : List Int) (w : World) (hv : Rw .i64 w (.slice a x.length cap) x) (h1 : 0 < x.length) (h2 : x.length ≤ 4000) : Calls Try.prog 34 #[.slice a x.length cap] w fun e w' => ∃ g c, e = .returned (.slice (some ⟨g, 0, none⟩) x.length c) ∧ x.length ≤ c ∧ w.heap.size ≤ g ∧ Hl .i64 2 w' g x ∧ Below w.heap.size w w' := by
  obtain ⟨i0, hi, hz0, hz1, hz2⟩ := info_parts info_i64
  have hv0 := hv
  obtain ⟨a', cap', he, ha⟩ := hv0
  simp only [Value.slice.injEq, true_and] at he
  obtain ⟨rfl, rfl⟩ := he
  obtain ⟨b, off, rfl, hlt, hc⟩ := ha.resolve_left (by intro h; subst h; simp at h1)
  clear ha hc
  have hnil : ∀ W, (binOp .eql 26 (.slice (some ⟨b, off, none⟩) x.length cap) (.slice none 0 0)).run Try.prog W = .ok (.bool false) W := fun W => Lib.run_eql_slice_nil W _ _ _ _ _ _ _ Try.underlying26
  have HV := hid hv
  have H1 := hid h1
  have H2 := hid h2
  clear hv h1 h2
  go_enter Try.func34, Try.ntmps34
  go_wp2_with (at_builtin; refine wpList_append_rw rfl _ _ _ rfl w.heap.size 2 i0 (.int .i64 0) 8 Try.underlying26 hi hz0 hz1 hz2 rfl .i64 _ 0 [] rfl (own_empty (Nat.le_refl _)) _ _ x rfl (HV.out.below (below1 _ _)) (by intro h; cases h) (by have := H2.out; unfold maxLen; omega) (by have := H2.out; omega) (by simp) ?_)
  intro v8 w5 hown8 hgrow8
  have hb8 : Below w.heap.size w w5 := ((Below.refl _ _).alloc (Nat.le_refl _) _).grown hgrow8 (by simp) (fun k hk => by simp [Value.ownBlock] at hk; omega)
  obtain ⟨g, c, rfl, hg, hgc, hhl⟩ := Hl.of_owns hown8 H1.out
  clear hown8 hgrow8
  have HH := hid hhl
  clear hhl
  go_wp2
  go_ret
  exact ⟨g, c, rfl, hgc, hg, HH.out, hb8⟩
set_option maxHeartbeats 2000000 in
theorem same64_yes (v1 v2 : Value) (xs : List Int) (w : World) (h1 : Rw .i64 w v1 xs) (h2 : Rw .i64 w v2 xs) (hl : xs.length ≤ 100) : Calls Try.prog 23 #[v1, v2] w fun e w' => e = .returned (.bool true) ∧ Below w.heap.size w w' := by
  obtain ⟨a1, c1, rfl, ha1⟩ := h1
  obtain ⟨a2, c2, rfl, ha2⟩ := h2
  obtain ⟨n, hn⟩ : ∃ n, xs.length = n := ⟨_, rfl⟩
  rw [hn] at ha1 ha2 hl ⊢
  have hnil : 0 < n → xs ≠ [] := fun h e => by rw [e] at hn; simp at hn; omega
  clear hn
  go_enter Try.func23, Try.ntmps23
  go_wp2
  go_loopw [5] (fun i wr => ∃ k : Nat, k ≤ n ∧ i = .int .i64 k ∧ Below w.heap.size w wr) (fun i _ => n - (intOf i).toNat)
  case atStart => exact ⟨0, by omega, rfl, Below.refl _ _⟩
  case round =>
    obtain ⟨k, hk, rfl, hnx⟩ := hrel
    by_cases hlt : k < n
    · obtain ⟨b1, o1, rfl, hb1, hc1⟩ := ha1.resolve_left (hnil (by omega))
      obtain ⟨b2, o2, rfl, hb2, hc2⟩ := ha2.resolve_left (hnil (by omega))
      have g1 := (hnx.cell (p := ⟨b1, o1 + k, none⟩) hb1).trans (hc1 k hlt)
      have g2 := (hnx.cell (p := ⟨b2, o2 + k, none⟩) hb2).trans (hc2 k hlt)
      clear ha1 ha2 hc1 hc2 hnil
      generalize xs.getD k 0 = x at *
      have i1 : (0 : Int) ≤ (k : Int) := by omega
      have i2 : (k : Int) < (n : Int) := by omega
      have i3 : IntKind.i64.wrap (k : Int) = k := wraps_i64 _ (by omega) (by omega)
      go_wp2
      go_quiet (fail)
      go_wp2
      exact ⟨⟨k + 1, by omega, by go_num, drewN_below hnx _⟩, by simp [intOf]; omega⟩
    · clear ha1 ha2 hnil
      go_wp2
      go_ret
      exact ⟨rfl, hnx⟩
set_option maxHeartbeats 2000000 in
theorem same_yes (v1 v2 : Value) (xs : List Int) (w : World) (h1 : Rw .i64 w v1 xs) (h2 : Rw .i64 w v2 xs) (hl : xs.length ≤ 100) : Calls Try.prog 25 #[v1, v2] w fun e w' => e = .returned (.bool true) ∧ Below w.heap.size w w' := by
  obtain ⟨a1, c1, rfl, ha1⟩ := h1
  obtain ⟨a2, c2, rfl, ha2⟩ := h2
  obtain ⟨n, hn⟩ : ∃ n, xs.length = n := ⟨_, rfl⟩
  rw [hn] at ha1 ha2 hl ⊢
  have hnil : 0 < n → xs ≠ [] := fun h e => by rw [e] at hn; simp at hn; omega
  clear hn
  go_enter Try.func25, Try.ntmps25
  go_wp2
  go_loopw [5] (fun i wr => ∃ k : Nat, k ≤ n ∧ i = .int .i64 k ∧ Below w.heap.size w wr) (fun i _ => n - (intOf i).toNat)
  case atStart => exact ⟨0, by omega, rfl, Below.refl _ _⟩
  case round =>
    obtain ⟨k, hk, rfl, hnx⟩ := hrel
    by_cases hlt : k < n
    · obtain ⟨b1, o1, rfl, hb1, hc1⟩ := ha1.resolve_left (hnil (by omega))
      obtain ⟨b2, o2, rfl, hb2, hc2⟩ := ha2.resolve_left (hnil (by omega))
      have g1 := (hnx.cell (p := ⟨b1, o1 + k, none⟩) hb1).trans (hc1 k hlt)
      have g2 := (hnx.cell (p := ⟨b2, o2 + k, none⟩) hb2).trans (hc2 k hlt)
      clear ha1 ha2 hc1 hc2 hnil
      generalize xs.getD k 0 = x at *
      have i1 : (0 : Int) ≤ (k : Int) := by omega
      have i2 : (k : Int) < (n : Int) := by omega
      have i3 : IntKind.i64.wrap (k : Int) = k := wraps_i64 _ (by omega) (by omega)
      go_wp2
      go_quiet (fail)
      go_wp2
      exact ⟨⟨k + 1, by omega, by go_num, drewN_below hnx _⟩, by simp [intOf]; omega⟩
    · clear ha1 ha2 hnil
      go_wp2
      go_ret
      exact ⟨rfl, hnx⟩
end Go.Proofs.Ytpmpdikabdaagaa
