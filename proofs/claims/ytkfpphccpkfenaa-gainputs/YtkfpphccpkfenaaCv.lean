/- Slices of structs that came in; rows of structs that are kept; structs that a region makes. -/
import Derived.Test.YtkfpphccpkfenaaCu
import Derived.Deep.SlicePairs
namespace Go.Proofs.Ytkfpphccpkfenaa
open Go.RowKit
set_option linter.unusedVariables false
set_option linter.unusedSimpArgs false

/-- The cells of a list of choices. -/
def cells3 (K : List (Nat × Nat × Nat)) : List Value := K.flatMap fun p => [.int .i64 (p.1 : Int), .int .i64 (p.2.1 : Int), .int .i64 (p.2.2 : Int)]
theorem cells3_snoc (K : List (Nat × Nat × Nat)) (l h t : Nat) : cells3 (K ++ [(l, h, t)]) = cells3 K ++ [.int .i64 (l : Int), .int .i64 (h : Int), .int .i64 (t : Int)] := by simp [cells3]
theorem cells3_at (K : List (Nat × Nat × Nat)) (j : Nat) (h : j < K.length) : (cells3 K)[j * 3]? = some (.int .i64 ((K.getD j (0, 0, 0)).1 : Int)) ∧ (cells3 K)[j * 3 + 1]? = some (.int .i64 ((K.getD j (0, 0, 0)).2.1 : Int)) ∧ (cells3 K)[j * 3 + 2]? = some (.int .i64 ((K.getD j (0, 0, 0)).2.2 : Int)) := by
  induction K generalizing j with
  | nil => simp at h
  | cons q K ih => cases j with
    | zero => exact ⟨rfl, rfl, rfl⟩
    | succ j =>
      have := ih j (by simpa using h)
      rw [show (j + 1) * 3 = j * 3 + 3 by omega]
      exact this
theorem own_triples {w : World} {base : Nat} {T : TypeId} {kv : Value} {K : List (Nat × Nat × Nat)} (h : w.ownsRow base T 3 kv K.length (cells3 K)) :
    ∃ a cap, kv = .slice a K.length cap ∧ (K.length = 0 ∨ ∃ b off, a = some ⟨b, off, none⟩ ∧ b < w.heap.size ∧ ∀ j, j < K.length → w.cell? ⟨b, off + j * 3, none⟩ = some (.int .i64 ((K.getD j (0, 0, 0)).1 : Int)) ∧ w.cell? ⟨b, off + j * 3 + 1, none⟩ = some (.int .i64 ((K.getD j (0, 0, 0)).2.1 : Int)) ∧ w.cell? ⟨b, off + j * 3 + 2, none⟩ = some (.int .i64 ((K.getD j (0, 0, 0)).2.2 : Int))) := by
  obtain ⟨h1, h2⟩ := h
  rcases h2 with ⟨rfl, h0⟩ | ⟨g, cap, cur, rfl, hg, hh, hcap, hm, hs, ht⟩
  · exact ⟨none, 0, by rw [h0], .inl h0⟩
  · refine ⟨_, cap, rfl, .inr ⟨g, 0, rfl, ?_, fun j hj => ?_⟩⟩
    · rcases Nat.lt_or_ge g w.heap.size with h | h
      · exact h
      · rw [Array.getElem?_eq_none h] at hh; cases hh
    · obtain ⟨c0, c1, c2⟩ := cells3_at K j hj
      rw [← ht, List.getElem?_take_of_lt (by omega)] at c0 c1 c2
      simp only [World.cell?, hh, Nat.zero_add]
      exact ⟨by simpa using c0, by simpa using c1, by simpa using c2⟩
/-! ### A struct that a region has made, before or behind the call that it calls -/
/-! ### What Put makes of a choice -/
theorem put_cases (E : En) (x0 x1 x2 : Int) : (∃ l h t : Nat, x0 = l ∧ x1 = h ∧ x2 = t ∧ Fair l h t ∧ putE E x0 x1 x2 = E.put l h t ∧ putF E x0 x1 x2 = 0) ∨ (putE E x0 x1 x2 = E ∧ (putF E x0 x1 x2 == 0) = false) := by
  unfold putE putF
  cases hf : fairB x0 x1 x2
  · right; simp
  · by_cases hm : E.m < 3996
    · left
      obtain ⟨l, h', t, rfl, rfl, rfl, hff⟩ := fair_of hf
      exact ⟨l, h', t, rfl, rfl, rfl, hff, by simp [hm], by simp [hm]⟩
    · right; simp [hm]
end Go.Proofs.Ytkfpphccpkfenaa
