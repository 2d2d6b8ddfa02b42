/- Slices of structs that came in; rows of structs that are kept; structs that a region makes. -/
import Derived.Test.YtocccimlojeaeaaCu
import Derived.Deep.SlicePairs
namespace Go.Proofs.Ytocccimlojeaeaa
open Go.RowKit
set_option linter.unusedVariables false
set_option linter.unusedSimpArgs false

/-- A slice of triples of integers that came in. -/
def IsTriples (k0 k1 k2 : IntKind) (w : World) (a : Option Addr) (len : Nat) (z0 z1 z2 : Nat → Int) : Prop :=
  len ≤ maxLen ∧ (len = 0 ∨ ∃ b off, a = some ⟨b, off, none⟩ ∧ b < w.heap.size ∧ ∀ i, i < len → w.cell? ⟨b, off + i * 3, none⟩ = some (.int k0 (z0 i)) ∧ w.cell? ⟨b, off + i * 3 + 1, none⟩ = some (.int k1 (z1 i)) ∧ w.cell? ⟨b, off + i * 3 + 2, none⟩ = some (.int k2 (z2 i)) ∧ (Lit.int k0 (z0 i)).wf = true ∧ (Lit.int k1 (z1 i)).wf = true ∧ (Lit.int k2 (z2 i)).wf = true)
theorem triples_of_trod {H : Type} {enc : TypeId × Value → H} {P : Program} {w : World} {t e : TypeId} {f0 f1 f2 : Field} {k0 k1 k2 : IntKind} {fuel : Nat} {a : Option Addr} {len cap : Nat} {x : DataW H × List MemPlace} (ht : P.underlying t = some (.slice e)) (he : P.underlying e = some (.struct #[f0, f1, f2]))
    (ce : P.cellsOf e = 3) (o0 : f0.offset = 0) (o1 : f1.offset = 1) (o2 : f2.offset = 2) (c0 : P.cellsOf f0.type = 1) (c1 : P.cellsOf f1.type = 1) (c2 : P.cellsOf f2.type = 1) (u0 : P.underlying f0.type = some (.int k0)) (u1 : P.underlying f1.type = some (.int k1)) (u2 : P.underlying f2.type = some (.int k2))
    (h : DataW.trod enc P w 0 (fun _ => true) true fuel t [.slice a len cap] = some x) : ∃ z0 z1 z2, IsTriples k0 k1 k2 w a len z0 z1 z2 := by
  rcases Deep.open_slice ht h with ⟨hcs, _⟩ | ⟨ad, l, c, m, n, D, Pl, hcs, _, hl, hm, hmm, _, hx⟩
  · simp only [List.cons.injEq, and_true, Value.slice.injEq] at hcs
    obtain ⟨rfl, rfl, rfl⟩ := hcs
    exact ⟨fun _ => 0, fun _ => 0, fun _ => 0, by unfold maxLen; omega, .inl rfl⟩
  · simp only [List.cons.injEq, and_true, Value.slice.injEq] at hcs
    obtain ⟨rfl, rfl, rfl⟩ := hcs
    simp only [if_true] at hmm
    subst hmm
    have each : ∀ i, i < m → ∃ q : Int × Int × Int, w.cell? (ad.add (i * 3)) = some (.int k0 q.1) ∧ w.cell? (ad.add (i * 3 + 1)) = some (.int k1 q.2.1) ∧ w.cell? (ad.add (i * 3 + 2)) = some (.int k2 q.2.2) ∧ (Lit.int k0 q.1).wf = true ∧ (Lit.int k1 q.2.1).wf = true ∧ (Lit.int k2 q.2.2).wf = true := by
      intro i hi
      obtain ⟨cs', h1, h2⟩ := hx i hi
      rw [ce] at h1
      obtain ⟨_, hlen, hcell⟩ := World.cells?_some h1
      obtain ⟨xs, k, hk, hxy, _, hxl, hf⟩ := DataW.trod_struct he h2
      match xs, hxl, cs', hlen with
      | [y0, y1, y2], _, [v0, v1, v2], _ =>
        have g0 := hf 0 f0 rfl
        have g1 := hf 1 f1 rfl
        have g2 := hf 2 f2 rfl
        simp [o0, o1, o2, c0, c1, c2] at g0 g1 g2
        have e0 := hcell 0 (by omega)
        have e1 := hcell 1 (by omega)
        have e2 := hcell 2 (by omega)
        rw [Deep.add_add] at e0 e1 e2
        obtain ⟨x0, q0, _, w0⟩ := DataW.trod_int u0 g0
        obtain ⟨x1, q1, _, w1⟩ := DataW.trod_int u1 g1
        obtain ⟨x2, q2, _, w2⟩ := DataW.trod_int u2 g2
        simp only [List.cons.injEq, and_true] at q0 q1 q2
        subst q0 q1 q2
        exact ⟨(x0, x1, x2), by simpa using e0, by simpa using e1, by simpa using e2, w0, w1, w2⟩
    by_cases h0 : len = 0
    · exact ⟨fun _ => 0, fun _ => 0, fun _ => 0, by omega, .inl h0⟩
    · obtain ⟨q, hq⟩ := Deep.choose_lt each
      obtain ⟨b, off, spot⟩ := ad
      have hc := (hq 0 (by omega)).1
      have hspot : spot = none := by simpa [Addr.add] using World.cell?_spot hc
      subst hspot
      refine ⟨fun i => (q i).1, fun i => (q i).2.1, fun i => (q i).2.2, by omega, .inr ⟨b, off, rfl, World.block_lt_of_cell? w _ hc, fun i hi => ?_⟩⟩
      obtain ⟨g0, g1, g2, r0, r1, r2⟩ := hq i (by omega)
      rw [Addr.add_lit] at g0 g1 g2
      exact ⟨g0, g1, g2, r0, r1, r2⟩

theorem bthen' {a b c : World} (h : Below a.heap.size a b) (k : Below b.heap.size b c) : Below a.heap.size a c := bthen h k h.size
/-- The cells of a list of choices. -/
def cells3 (K : List (Nat × Nat × Nat)) : List Value := K.flatMap fun p => [.int .i64 (p.1 : Int), .int .i64 (p.2.1 : Int), .int .i64 (p.2.2 : Int)]
theorem cells3_snoc (K : List (Nat × Nat × Nat)) (l h t : Nat) : cells3 (K ++ [(l, h, t)]) = cells3 K ++ [.int .i64 (l : Int), .int .i64 (h : Int), .int .i64 (t : Int)] := by simp [cells3]
theorem cells3_at (K : List (Nat × Nat × Nat)) (j : Nat) (h : j < K.length) : (cells3 K)[j * 3]? = some (.int .i64 ((K.getD j (0, 0, 0)).1 : Int)) ∧ (cells3 K)[j * 3 + 1]? = some (.int .i64 ((K.getD j (0, 0, 0)).2.1 : Int)) ∧ (cells3 K)[j * 3 + 2]? = some (.int .i64 ((K.getD j (0, 0, 0)).2.2 : Int)) := by
  induction K generalizing j with
  | nil => simp at h
  | cons q K ih => cases j with
    | zero => exact ⟨rfl, rfl, rfl⟩
    | succ j =>
      have := ih j (by simpa using h)
      rw [show (j + 1) * 3 = j * 3 + 3 by omega]
      exact this
theorem own_triples {w : World} {base : Nat} {T : TypeId} {kv : Value} {K : List (Nat × Nat × Nat)} (h : w.ownsRow base T 3 kv K.length (cells3 K)) :
    ∃ a cap, kv = .slice a K.length cap ∧ (K.length = 0 ∨ ∃ b off, a = some ⟨b, off, none⟩ ∧ b < w.heap.size ∧ ∀ j, j < K.length → w.cell? ⟨b, off + j * 3, none⟩ = some (.int .i64 ((K.getD j (0, 0, 0)).1 : Int)) ∧ w.cell? ⟨b, off + j * 3 + 1, none⟩ = some (.int .i64 ((K.getD j (0, 0, 0)).2.1 : Int)) ∧ w.cell? ⟨b, off + j * 3 + 2, none⟩ = some (.int .i64 ((K.getD j (0, 0, 0)).2.2 : Int))) := by
  obtain ⟨h1, h2⟩ := h
  rcases h2 with ⟨rfl, h0⟩ | ⟨g, cap, cur, rfl, hg, hh, hcap, hm, hs, ht⟩
  · exact ⟨none, 0, by rw [h0], .inl h0⟩
  · refine ⟨_, cap, rfl, .inr ⟨g, 0, rfl, ?_, fun j hj => ?_⟩⟩
    · rcases Nat.lt_or_ge g w.heap.size with h | h
      · exact h
      · rw [Array.getElem?_eq_none h] at hh; cases hh
    · obtain ⟨c0, c1, c2⟩ := cells3_at K j hj
      rw [← ht, List.getElem?_take_of_lt (by omega)] at c0 c1 c2
      simp only [World.cell?, hh, Nat.zero_add]
      exact ⟨by simpa using c0, by simpa using c1, by simpa using c2⟩
theorem cell_three_new (W : World) (x y z : Value) (t : TypeId) : ∀ j v, [x, y, z][j]? = some v → (W.alloc (.cells #[x, y, z] t)).cell? ((⟨W.heap.size, 0, none⟩ : Addr).add j) = some v := by
  intro j v h
  match j, h with
  | 0, h => simp at h; subst h; simp [Addr.add, go_sem]
  | 1, h => simp at h; subst h; simp [Addr.add, go_sem]
  | 2, h => simp at h; subst h; simp [Addr.add, go_sem]
  | j + 3, h => simp at h

/-! ### A struct that a region has made, before or behind the call that it calls -/
def Made3 (wr wz : World) (p : Value) (x0 x1 x2 : Value) : Prop := ∃ bx, p = .pointer (some ⟨bx, 0, none⟩) ∧ B3 wz bx x0 x1 x2 ∧ wr.heap.size ≤ bx ∧ Below wr.heap.size wr wz
theorem made3_after {y wr : World} {x0 x1 x2 : Value} {t : TypeId} (h : Below wr.heap.size wr y) : Made3 wr (y.alloc (.cells #[x0, x1, x2] t)) (.pointer (some ⟨y.heap.size, 0, none⟩)) x0 x1 x2 :=
  ⟨y.heap.size, rfl, B3.new _ _ _ _ _, h.size, h.alloc h.size _⟩
theorem made3_before {y wr : World} {x0 x1 x2 z0 z1 z2 : Value} {t : TypeId} (e : Below (wr.alloc (.cells #[z0, z1, z2] t)).drew.heap.size (wr.alloc (.cells #[z0, z1, z2] t)).drew y) : Made3 wr (((y.setCell ⟨wr.heap.size, 0, none⟩ x0).setCell ⟨wr.heap.size, 1, none⟩ x1).setCell ⟨wr.heap.size, 2, none⟩ x2) (.pointer (some ⟨wr.heap.size, 0, none⟩)) x0 x1 x2 :=
  ⟨wr.heap.size, rfl, ((B3.new wr z0 z1 z2 t).below (drew_below e)).set x0 x1 x2, Nat.le_refl _, bset3 (bthen' (below1 _ _) (drew_below e)) _ _ _ _ (Nat.le_refl _)⟩
def Made4 (wr wz : World) (p : Value) (x0 x1 x2 x3 : Value) : Prop := ∃ bx, p = .pointer (some ⟨bx, 0, none⟩) ∧ B4 wz bx x0 x1 x2 x3 ∧ wr.heap.size ≤ bx ∧ Below wr.heap.size wr wz
theorem made4_after {y wr : World} {x0 x1 x2 x3 : Value} {t : TypeId} (h : Below wr.heap.size wr y) : Made4 wr (y.alloc (.cells #[x0, x1, x2, x3] t)) (.pointer (some ⟨y.heap.size, 0, none⟩)) x0 x1 x2 x3 :=
  ⟨y.heap.size, rfl, B4.new _ _ _ _ _ _, h.size, h.alloc h.size _⟩
theorem made4_before {y wr : World} {x0 x1 x2 x3 z0 z1 z2 z3 : Value} {t : TypeId} (e : Below (wr.alloc (.cells #[z0, z1, z2, z3] t)).drew.heap.size (wr.alloc (.cells #[z0, z1, z2, z3] t)).drew y) : Made4 wr ((((y.setCell ⟨wr.heap.size, 0, none⟩ x0).setCell ⟨wr.heap.size, 1, none⟩ x1).setCell ⟨wr.heap.size, 2, none⟩ x2).setCell ⟨wr.heap.size, 3, none⟩ x3) (.pointer (some ⟨wr.heap.size, 0, none⟩)) x0 x1 x2 x3 :=
  ⟨wr.heap.size, rfl, ((B4.new wr z0 z1 z2 z3 t).below (drew_below e)).set x0 x1 x2 x3, Nat.le_refl _, bset4 (bthen' (below1 _ _) (drew_below e)) _ _ _ _ _ (Nat.le_refl _)⟩
theorem row_after {y : World} {base : Nat} {k : IntKind} {v : Value} {xs : List Int} (r : RwF base k y v xs) (o : Obj) : RwF base k (y.alloc o) v xs := r.below (below1 _ _)
theorem row_before3 {y wr : World} {k : IntKind} {v : Value} {xs : List Int} {z0 z1 z2 : Value} {t : TypeId} (r : RwF (wr.alloc (.cells #[z0, z1, z2] t)).drew.heap.size k y v xs) (x0 x1 x2 : Value) : RwF wr.heap.size k (((y.setCell ⟨wr.heap.size, 0, none⟩ x0).setCell ⟨wr.heap.size, 1, none⟩ x1).setCell ⟨wr.heap.size, 2, none⟩ x2) v xs := by
  have hlt : wr.heap.size < (wr.alloc (.cells #[z0, z1, z2] t)).drew.heap.size := by show wr.heap.size < (wr.alloc (.cells #[z0, z1, z2] t)).heap.size; simp
  exact (((r.set wr.heap.size 0 x0 hlt).set wr.heap.size 1 x1 hlt).set wr.heap.size 2 x2 hlt).mono (Nat.le_of_lt hlt)
theorem RwF.grown {base : Nat} {k : IntKind} {w w' : World} {v : Value} {xs : List Int} {row : Option Nat} (h : RwF base k w v xs) (hg : w.grownBy w' row) (hr : ∀ i, row = some i → i < base) : RwF base k w' v xs := by
  obtain ⟨a, cap, hv, h⟩ := h
  refine ⟨a, cap, hv, ?_⟩
  rcases h with h | ⟨b, off, ha, hlo, hlt, hc⟩
  · exact .inl h
  · refine .inr ⟨b, off, ha, hlo, Nat.lt_of_lt_of_le hlt hg.size, fun i hi => ?_⟩
    exact hg.cell (hc i hi) (fun e => by have := hr _ e.symm; simp at this; omega)
/-! ### What Put makes of a choice -/
theorem put_cases (E : En) (x0 x1 x2 : Int) : (∃ l h t : Nat, x0 = l ∧ x1 = h ∧ x2 = t ∧ Fair l h t ∧ putE E x0 x1 x2 = E.put l h t ∧ putF E x0 x1 x2 = 0) ∨ (putE E x0 x1 x2 = E ∧ (putF E x0 x1 x2 == 0) = false) := by
  unfold putE putF
  cases hf : fairB x0 x1 x2
  · right; simp
  · by_cases hm : E.m < 3996
    · left
      obtain ⟨l, h', t, rfl, rfl, rfl, hff⟩ := fair_of hf
      exact ⟨l, h', t, rfl, rfl, rfl, hff, by simp [hm], by simp [hm]⟩
    · right; simp [hm]
theorem held6 {wr w' : World} {b c o : Nat} {x0 x1 x2 y0 y1 y2 : Value} (h : Below wr.heap.size wr w') (hb : B3 wr b x0 x1 x2) (hc : c < wr.heap.size) (d0 : wr.cell? ⟨c, o, none⟩ = some y0) (d1 : wr.cell? ⟨c, o + 1, none⟩ = some y1) (d2 : wr.cell? ⟨c, o + 2, none⟩ = some y2) :
    w'.cell? ⟨b, 0, none⟩ = some x0 ∧ w'.cell? ⟨b, 1, none⟩ = some x1 ∧ w'.cell? ⟨b, 2, none⟩ = some x2 ∧ w'.cell? ⟨c, o, none⟩ = some y0 ∧ w'.cell? ⟨c, o + 1, none⟩ = some y1 ∧ w'.cell? ⟨c, o + 2, none⟩ = some y2 :=
  ⟨(hb.below h).c0, (hb.below h).c1, (hb.below h).c2, ((bcell h).1 _ _ hc).trans d0, ((bcell h).1 _ _ hc).trans d1, ((bcell h).1 _ _ hc).trans d2⟩
theorem held7 {wr w' : World} {b c o : Nat} {x0 x1 x2 x3 y0 y1 y2 : Value} (h : Below wr.heap.size wr w') (hb : B4 wr b x0 x1 x2 x3) (hc : c < wr.heap.size) (d0 : wr.cell? ⟨c, o, none⟩ = some y0) (d1 : wr.cell? ⟨c, o + 1, none⟩ = some y1) (d2 : wr.cell? ⟨c, o + 2, none⟩ = some y2) :
    w'.cell? ⟨b, 0, none⟩ = some x0 ∧ w'.cell? ⟨b, 1, none⟩ = some x1 ∧ w'.cell? ⟨b, 2, none⟩ = some x2 ∧ w'.cell? ⟨b, 3, none⟩ = some x3 ∧ w'.cell? ⟨c, o, none⟩ = some y0 ∧ w'.cell? ⟨c, o + 1, none⟩ = some y1 ∧ w'.cell? ⟨c, o + 2, none⟩ = some y2 :=
  ⟨(hb.below h).c0, (hb.below h).c1, (hb.below h).c2, (hb.below h).c3, ((bcell h).1 _ _ hc).trans d0, ((bcell h).1 _ _ hc).trans d1, ((bcell h).1 _ _ hc).trans d2⟩
end Go.Proofs.Ytocccimlojeaeaa
