/- Two rows of integers of a call's own that grow side by side, by append. Nothing of the program is imported. -/
import Derived.Test.YtjehjpibgficcaaGrids
import Derived.Deep.AppendLies
import Derived.ChangeSlices
namespace Go.Proofs.Ytjehjpibgficcaa
open Go.RowKit
set_option linter.unusedVariables false
set_option linter.unusedSimpArgs false

/-- Two rows, of elements of type s and t, of kind k and l. -/
structure Duo (s t : TypeId) (k l : IntKind) (W wr : World) (v u : Value) (i j : Nat) (xs ys : List Int) : Prop where
  m : wr.ownsRow W.heap.size s 1 v i (xs.map (Value.int k))
  d : wr.ownsRow W.heap.size t 1 u j (ys.map (Value.int l))
  ne : v.ownBlock = none ∨ v.ownBlock ≠ u.ownBlock
  b : Below W.heap.size W wr
theorem Duo.nil (s t : TypeId) (k l : IntKind) (W wr : World) (h : Below W.heap.size W wr) : Duo s t k l W wr (.slice none 0 0) (.slice none 0 0) 0 0 [] [] :=
  ⟨World.ownsRow_nil _ _ _ _, World.ownsRow_nil _ _ _ _, .inl rfl, h⟩
theorem Duo.below {s t : TypeId} {k l : IntKind} {W wr w' : World} {v u : Value} {i j : Nat} {xs ys : List Int} (h : Duo s t k l W wr v u i j xs ys) (hb : Below wr.heap.size wr w') : Duo s t k l W w' v u i j xs ys :=
  ⟨owns_below h.m hb, owns_below h.d hb, h.ne, bthen' h.b hb⟩
theorem Duo.push1 {s t : TypeId} {k l : IntKind} {W w1 w2 : World} {v u : Value} {i j g c : Nat} {xs ys : List Int} {y : Int} {o : Obj} (h : Duo s t k l W w1 v u i j xs ys) (hown : w2.ownsRow W.heap.size s 1 (.slice (some ⟨g, 0, none⟩) (i + 1) c) (i + 1) (xs.map (Value.int k) ++ [.int k y])) (hgrow : (w1.alloc o).grownBy w2 v.ownBlock) (hat : v.ownBlock = some g ∨ g = w1.heap.size + 1) :
    Duo s t k l W w2 (.slice (some ⟨g, 0, none⟩) (i + 1) c) u (i + 1) j (xs ++ [y]) ys := by
  have hd := h.d.alloc o
  have hlt := h.d.lt
  refine ⟨by rw [List.map_append]; exact hown, hd.kept hgrow ?_, .inr ?_, ?_⟩
  · rcases h.ne with e | e
    · rw [e]
      cases hq : u.ownBlock with
      | none => exact .inl rfl
      | some q => exact .inr (by simp)
    · exact .inr (Ne.symm e)
  · rcases hat with e | e
    · rcases h.ne with e2 | e2
      · rw [e2] at e; cases e
      · rw [e] at e2; exact e2
    · intro e3
      have := (hlt g e3.symm).2
      omega
  · exact (h.b.alloc h.b.size o).grown hgrow (by have := h.b.size; simp; omega) (fun q hq => (h.m.lt q hq).1)
theorem Duo.push2 {s t : TypeId} {k l : IntKind} {W w1 w2 : World} {v u : Value} {i j g c : Nat} {xs ys : List Int} {y : Int} {o : Obj} (h : Duo s t k l W w1 v u i j xs ys) (hown : w2.ownsRow W.heap.size t 1 (.slice (some ⟨g, 0, none⟩) (j + 1) c) (j + 1) (ys.map (Value.int l) ++ [.int l y])) (hgrow : (w1.alloc o).grownBy w2 u.ownBlock) (hat : u.ownBlock = some g ∨ g = w1.heap.size + 1) :
    Duo s t k l W w2 v (.slice (some ⟨g, 0, none⟩) (j + 1) c) i (j + 1) xs (ys ++ [y]) := by
  have hm := h.m.alloc o
  have hlt := h.m.lt
  refine ⟨hm.kept hgrow h.ne, by rw [List.map_append]; exact hown, ?_, ?_⟩
  · cases hq : v.ownBlock with
    | none => exact .inl rfl
    | some q =>
      refine .inr fun e3 => ?_
      have e4 : q = g := by simpa [Value.ownBlock] using e3
      subst e4
      rcases hat with e | e
      · rcases h.ne with e2 | e2
        · rw [e2] at hq; cases hq
        · exact e2 (hq.trans e.symm)
      · have := (hlt q hq).2
        omega
  · exact (h.b.alloc h.b.size o).grown hgrow (by have := h.b.size; simp; omega) (fun q hq => (h.d.lt q hq).1)
end Go.Proofs.Ytjehjpibgficcaa
