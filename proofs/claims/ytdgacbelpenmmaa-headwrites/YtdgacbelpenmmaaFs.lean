/- The document's Same. -/
import Derived.Test.YtdgacbelpenmmaaGrids
import Derived.Test.YtdgacbelpenmmaaRows
import Derived.Laws.BitsAllLaws
import Derived.Deep.QuietTactic
namespace Go.Proofs.Ytdgacbelpenmmaa
open Go.RowKit
set_option linter.unusedVariables false
set_option linter.unusedSimpArgs false

set_option maxHeartbeats 2000000 in
theorem same_yes (v1 v2 : Value) (xs : List Int) (w : World) (h1 : Rw .i64 w v1 xs) (h2 : Rw .i64 w v2 xs) (hl : xs.length ≤ 100) : Calls Try.prog 23 #[v1, v2] w fun e w' => e = .returned (.bool true) ∧ Below w.heap.size w w' := by
  obtain ⟨a1, c1, rfl, ha1⟩ := h1
  obtain ⟨a2, c2, rfl, ha2⟩ := h2
  obtain ⟨n, hn⟩ : ∃ n, xs.length = n := ⟨_, rfl⟩
  rw [hn] at ha1 ha2 hl ⊢
  have hnil : 0 < n → xs ≠ [] := fun h e => by rw [e] at hn; simp at hn; omega
  clear hn
  go_enter Try.func23, Try.ntmps23
  go_wp2
  go_loopw [5] (fun i wr => ∃ k : Nat, k ≤ n ∧ i = .int .i64 k ∧ Below w.heap.size w wr) (fun i _ => n - (intOf i).toNat)
  case atStart => exact ⟨0, by omega, rfl, Below.refl _ _⟩
  case round =>
    obtain ⟨k, hk, rfl, hnx⟩ := hrel
    by_cases hlt : k < n
    · obtain ⟨b1, o1, rfl, hb1, hc1⟩ := ha1.resolve_left (hnil (by omega))
      obtain ⟨b2, o2, rfl, hb2, hc2⟩ := ha2.resolve_left (hnil (by omega))
      have g1 := (hnx.cell (p := ⟨b1, o1 + k, none⟩) hb1).trans (hc1 k hlt)
      have g2 := (hnx.cell (p := ⟨b2, o2 + k, none⟩) hb2).trans (hc2 k hlt)
      clear ha1 ha2 hc1 hc2 hnil
      generalize xs.getD k 0 = x at *
      have i1 : (0 : Int) ≤ (k : Int) := by omega
      have i2 : (k : Int) < (n : Int) := by omega
      have i3 : IntKind.i64.wrap (k : Int) = k := wraps_i64 _ (by omega) (by omega)
      go_wp2
      go_quiet (fail)
      go_wp2
      exact ⟨⟨k + 1, by omega, by go_num, drewN_below hnx _⟩, by simp [intOf]; omega⟩
    · clear ha1 ha2 hnil
      go_wp2
      go_ret
      exact ⟨rfl, hnx⟩
end Go.Proofs.Ytdgacbelpenmmaa
