/- What was put is read, one behind the other: the plain facts, and pairs of integers in memory. -/
import Derived.Test.YtjlfnihogfgjnaaWo
import Derived.Deep.SlicePairs
namespace Go.Proofs.Ytjlfnihogfgjnaa
open Go.RowKit
set_option linter.unusedVariables false
set_option linter.unusedSimpArgs false

/-- How many bits the first j numbers take. -/
def sumN : List (Nat × Nat) → Nat → Nat
  | _, 0 => 0
  | [], _ + 1 => 0
  | p :: K, j + 1 => p.2 + sumN K j
theorem sumN_zero (K : List (Nat × Nat)) : sumN K 0 = 0 := by cases K <;> rfl
theorem sumN_snoc (K : List (Nat × Nat)) (p : Nat × Nat) (j : Nat) (h : j ≤ K.length) : sumN (K ++ [p]) j = sumN K j := by
  induction K generalizing j with
  | nil => have : j = 0 := by simpa using h
           subst this; rw [sumN_zero, sumN_zero]
  | cons q K ih => cases j with
    | zero => rw [sumN_zero, sumN_zero]
    | succ j => simp only [List.cons_append, sumN]; rw [ih j (by simpa using h)]
theorem sumN_all (K : List (Nat × Nat)) (p : Nat × Nat) : sumN (K ++ [p]) (K.length + 1) = sumN K K.length + p.2 := by
  induction K with
  | nil => simp [sumN]
  | cons q K ih => simp only [List.cons_append, List.length_cons, sumN]; rw [ih]; omega
theorem sumN_succ (K : List (Nat × Nat)) (j : Nat) (h : j < K.length) : sumN K (j + 1) = sumN K j + (K.getD j (0, 0)).2 := by
  induction K generalizing j with
  | nil => simp at h
  | cons q K ih => cases j with
    | zero => simp [sumN, sumN_zero]
    | succ j => simp only [sumN, List.getD_cons_succ]; rw [ih j (by simpa using h)]; omega
theorem sumN_le (K : List (Nat × Nat)) (j : Nat) (h : j ≤ K.length) : sumN K j ≤ sumN K K.length := by
  induction K generalizing j with
  | nil => have : j = 0 := by simpa using h
           subst this; exact Nat.le_refl _
  | cons q K ih => cases j with
    | zero => rw [sumN_zero]; omega
    | succ j => simp only [List.length_cons, sumN]; have := ih j (by simpa using h); omega

/-- X holds, in N bits, the numbers of K, one behind the other. -/
structure Enc (K : List (Nat × Nat)) (X N : Nat) : Prop where
  n : N = sumN K K.length
  lt : X < 2 ^ N
  each : ∀ j, j < K.length → X / 2 ^ sumN K j % 2 ^ (K.getD j (0, 0)).2 = (K.getD j (0, 0)).1
  fits : ∀ j, j < K.length → (K.getD j (0, 0)).2 ≤ 32
theorem Enc.nil : Enc [] 0 0 := ⟨rfl, by decide, fun j h => by simp at h, fun j h => by simp at h⟩
theorem Enc.snoc {K : List (Nat × Nat)} {X N : Nat} (h : Enc K X N) (V m : Nat) (hV : V < 2 ^ m) (hm : m ≤ 32) : Enc (K ++ [(V, m)]) (X + V * 2 ^ N) (N + m) := by
  refine ⟨?_, put_lt _ _ _ _ h.lt hV, ?_, ?_⟩
  · rw [List.length_append, List.length_singleton, sumN_all, ← h.n]
  · intro j hj
    rw [List.length_append, List.length_singleton] at hj
    by_cases hjl : j < K.length
    · rw [sumN_snoc K _ j (by omega), List.getD_eq_getElem?_getD, List.getElem?_append_left hjl, ← List.getD_eq_getElem?_getD]
      have h1 := h.each j hjl
      have h2 := sumN_succ K j hjl
      have h3 := sumN_le K (j + 1) (by omega)
      rw [← h.n] at h3
      generalize (K.getD j (0, 0)).2 = a at *
      generalize (K.getD j (0, 0)).1 = b at *
      generalize sumN K j = s at *
      rw [← h1]
      obtain ⟨d, hd⟩ : ∃ d, N = d + a + s := ⟨N - a - s, by omega⟩
      rw [hd, Nat.pow_add, ← Nat.mul_assoc, Nat.add_mul_div_right _ _ (Nat.two_pow_pos s), Nat.pow_add, ← Nat.mul_assoc, Nat.add_mul_mod_self_right]
    · have : j = K.length := by omega
      subst this
      rw [sumN_snoc K _ _ (Nat.le_refl _), ← h.n, List.getD_eq_getElem?_getD, List.getElem?_append_right (Nat.le_refl _)]
      simp only [Nat.sub_self, List.getElem?_cons_zero, Option.getD_some]
      rw [Nat.add_mul_div_right _ _ (Nat.two_pow_pos N), Nat.div_eq_of_lt h.lt, Nat.zero_add, Nat.mod_eq_of_lt hV]
  · intro j hj
    rw [List.length_append, List.length_singleton] at hj
    by_cases hjl : j < K.length
    · rw [List.getD_eq_getElem?_getD, List.getElem?_append_left hjl, ← List.getD_eq_getElem?_getD]; exact h.fits j hjl
    · have : j = K.length := by omega
      subst this
      rw [List.getD_eq_getElem?_getD, List.getElem?_append_right (Nat.le_refl _)]
      simpa using hm

/-- The cells of a list of pairs. -/
def cellsK (K : List (Nat × Nat)) : List Value := K.flatMap fun p => [.int .u64 (p.1 : Int), .int .i64 (p.2 : Int)]
theorem cellsK_snoc (K : List (Nat × Nat)) (V m : Nat) : cellsK (K ++ [(V, m)]) = cellsK K ++ [.int .u64 (V : Int), .int .i64 (m : Int)] := by simp [cellsK]
theorem cellsK_at (K : List (Nat × Nat)) (j : Nat) (h : j < K.length) : (cellsK K)[j * 2]? = some (.int .u64 ((K.getD j (0, 0)).1 : Int)) ∧ (cellsK K)[j * 2 + 1]? = some (.int .i64 ((K.getD j (0, 0)).2 : Int)) := by
  induction K generalizing j with
  | nil => simp at h
  | cons q K ih => cases j with
    | zero => exact ⟨rfl, rfl⟩
    | succ j =>
      have := ih j (by simpa using h)
      rw [show (j + 1) * 2 = j * 2 + 2 by omega]
      exact this

/-- A slice of pairs of integers that came in. -/
def IsPairs (k0 k1 : IntKind) (w : World) (a : Option Addr) (len : Nat) (z0 z1 : Nat → Int) : Prop :=
  len ≤ maxLen ∧ (len = 0 ∨ ∃ b off, a = some ⟨b, off, none⟩ ∧ b < w.heap.size ∧ ∀ i, i < len → w.cell? ⟨b, off + i * 2, none⟩ = some (.int k0 (z0 i)) ∧ w.cell? ⟨b, off + i * 2 + 1, none⟩ = some (.int k1 (z1 i)) ∧ (Lit.int k0 (z0 i)).wf = true ∧ (Lit.int k1 (z1 i)).wf = true)

theorem pairs_of_trod {H : Type} {enc : TypeId × Value → H} {P : Program} {w : World} {t e : TypeId} {f0 f1 : Field} {k0 k1 : IntKind} {fuel : Nat} {a : Option Addr} {len cap : Nat} {x : DataW H × List MemPlace} (ht : P.underlying t = some (.slice e)) (he : P.underlying e = some (.struct #[f0, f1]))
    (ce : P.cellsOf e = 2) (o0 : f0.offset = 0) (o1 : f1.offset = 1) (c0 : P.cellsOf f0.type = 1) (c1 : P.cellsOf f1.type = 1) (u0 : P.underlying f0.type = some (.int k0)) (u1 : P.underlying f1.type = some (.int k1))
    (h : DataW.trod enc P w 0 (fun _ => true) true fuel t [.slice a len cap] = some x) : ∃ z0 z1, IsPairs k0 k1 w a len z0 z1 := by
  rcases Deep.open_slice_pairs ht he ce o0 o1 c0 c1 h with ⟨hcs, _⟩ | ⟨ad, l, c, m, n, V0, V1, D0, D1, P0, P1, hcs, _, hl, hm, hmm, _, hall⟩
  · simp only [List.cons.injEq, and_true, Value.slice.injEq] at hcs
    obtain ⟨rfl, rfl, rfl⟩ := hcs
    exact ⟨fun _ => 0, fun _ => 0, by unfold maxLen; omega, .inl rfl⟩
  · simp only [List.cons.injEq, and_true, Value.slice.injEq] at hcs
    obtain ⟨rfl, rfl, rfl⟩ := hcs
    simp only [if_true] at hmm
    subst hmm
    by_cases h0 : len = 0
    · exact ⟨fun _ => 0, fun _ => 0, by omega, .inl h0⟩
    · obtain ⟨b, off, spot⟩ := ad
      have hc := (hall 0 (by omega)).1
      have hspot : spot = none := by simpa [Addr.add] using World.cell?_spot hc
      subst hspot
      refine ⟨fun i => intOf (V0 i), fun i => intOf (V1 i), by omega, .inr ⟨b, off, rfl, World.block_lt_of_cell? w _ hc, fun i hi => ?_⟩⟩
      obtain ⟨g0, g1, r0, r1⟩ := hall i (by omega)
      obtain ⟨x0, e0, _, w0⟩ := DataW.trod_int u0 r0
      obtain ⟨x1, e1, _, w1⟩ := DataW.trod_int u1 r1
      simp only [List.cons.injEq, and_true] at e0 e1
      rw [Addr.add_lit] at g0 g1
      have a0 : (fun i => intOf (V0 i)) i = x0 := by show intOf (V0 i) = x0; rw [e0]; rfl
      have a1 : (fun i => intOf (V1 i)) i = x1 := by show intOf (V1 i) = x1; rw [e1]; rfl
      rw [a0, a1]
      exact ⟨by rw [g0, e0], by rw [Nat.add_assoc, g1, e1], w0, w1⟩

/-- A struct of two cells that a region has made, before or behind the call that it calls. -/
def Made (wr wz : World) (p : Value) (x0 x1 : Value) : Prop := ∃ bx, p = .pointer (some ⟨bx, 0, none⟩) ∧ wz.cell? ⟨bx, 0, none⟩ = some x0 ∧ wz.cell? ⟨bx, 1, none⟩ = some x1 ∧ bx < wz.heap.size ∧ wr.heap.size ≤ bx ∧ Below wr.heap.size wr wz
theorem made_after {y wr : World} {x0 x1 : Value} {t : TypeId} (h : Below wr.heap.size wr y) : Made wr (y.alloc (.cells #[x0, x1] t)) (.pointer (some ⟨y.heap.size, 0, none⟩)) x0 x1 :=
  ⟨y.heap.size, rfl, by simp [go_sem], by simp [go_sem], by simp, h.size, h.alloc h.size _⟩
theorem made_before {y wr : World} {x0 x1 z0 z1 : Value} {t : TypeId} (e : Below (wr.alloc (.cells #[z0, z1] t)).drew.heap.size (wr.alloc (.cells #[z0, z1] t)).drew y) : Made wr ((y.setCell ⟨wr.heap.size, 0, none⟩ x0).setCell ⟨wr.heap.size, 1, none⟩ x1) (.pointer (some ⟨wr.heap.size, 0, none⟩)) x0 x1 := by
  obtain ⟨q0, q1, f0, f1, hz⟩ := one_box (drew_below e)
  obtain ⟨k0, k1, _, _, kz⟩ := box_set x0 x1 q0 q1 f0 f1 hz
  exact ⟨wr.heap.size, rfl, k0, k1, kz, Nat.le_refl _, bset2 (bthen' (below1 _ _) (drew_below e)) _ _ _ _ _ _ (Nat.le_refl _) (Nat.le_refl _)⟩
theorem row_after {y : World} {base : Nat} {k : IntKind} {v : Value} {xs : List Int} (r : RwF base k y v xs) (o : Obj) : RwF base k (y.alloc o) v xs := r.below (below1 _ _)
theorem row_before {y wr : World} {k : IntKind} {v : Value} {xs : List Int} {z0 z1 : Value} {t : TypeId} (r : RwF (wr.alloc (.cells #[z0, z1] t)).drew.heap.size k y v xs) (x0 x1 : Value) : RwF wr.heap.size k ((y.setCell ⟨wr.heap.size, 0, none⟩ x0).setCell ⟨wr.heap.size, 1, none⟩ x1) v xs := by
  have hlt : wr.heap.size < (wr.alloc (.cells #[z0, z1] t)).drew.heap.size := by show wr.heap.size < (wr.alloc (.cells #[z0, z1] t)).heap.size; simp
  exact ((r.set wr.heap.size 0 x0 hlt).set wr.heap.size 1 x1 hlt).mono (Nat.le_of_lt hlt)

/-- What the first loop carries along: the writer in its block, and the numbers that are kept. -/
structure Kept (w wr : World) (kv : Value) (K : List (Nat × Nat)) (X N : Nat) (a : Option Addr) (c : Nat) : Prop where
  enc : Enc K X N
  cell0 : wr.cell? ⟨w.heap.size, 0, none⟩ = some (.slice a ((N + 7) / 8) c)
  cell1 : wr.cell? ⟨w.heap.size, 1, none⟩ = some (.int .i64 (N : Int))
  fr0 : wr.frozen? ⟨w.heap.size, 0, none⟩ = false
  fr1 : wr.frozen? ⟨w.heap.size, 1, none⟩ = false
  row : RwF (w.heap.size + 1) .u8 wr (.slice a ((N + 7) / 8) c) (byL X ((N + 7) / 8))
  own : wr.ownsRow (w.heap.size + 1) 50 2 kv K.length (cellsK K)
  bel : Below w.heap.size w wr
  lt : w.heap.size < wr.heap.size
theorem own_two {w w' : World} {base : Nat} {e : TypeId} {size : Nat} {v : Value} {n : Nat} {xs : List Value} (h : w.ownsRow base e size v n xs) (p i j : Nat) (x y : Value) (hp : p < base) : ((w.setCell ⟨p, i, none⟩ x).setCell ⟨p, j, none⟩ y).ownsRow base e size v n xs :=
  ownsRow_setCell_below (ownsRow_setCell_below h (a := ⟨p, i, none⟩) hp x) (a := ⟨p, j, none⟩) hp y
theorem RwF.grown {base : Nat} {k : IntKind} {w w' : World} {v : Value} {xs : List Int} {row : Option Nat} (h : RwF base k w v xs) (hg : w.grownBy w' row) (hr : ∀ i, row = some i → i < base) : RwF base k w' v xs := by
  obtain ⟨a, cap, hv, h⟩ := h
  refine ⟨a, cap, hv, ?_⟩
  rcases h with h | ⟨b, off, ha, hlo, hlt, hc⟩
  · exact .inl h
  · refine .inr ⟨b, off, ha, hlo, Nat.lt_of_lt_of_le hlt hg.size, fun i hi => ?_⟩
    exact hg.cell (hc i hi) (fun e => by have := hr _ e.symm; simp at this; omega)
theorem grown_cell {wc w1 : World} {o : Obj} {row : Option Nat} (hg : (wc.alloc o).grownBy w1 row) (p i : Nat) (hp : p < wc.heap.size) (hne : ∀ k, row = some k → k ≠ p) : w1.cell? ⟨p, i, none⟩ = wc.cell? ⟨p, i, none⟩ ∧ w1.frozen? ⟨p, i, none⟩ = wc.frozen? ⟨p, i, none⟩ := by
  have h := hg.block p (by simp; omega) (fun e => hne p e.symm rfl)
  rw [Below.heap_alloc _ _ _ hp] at h
  exact ⟨World.cell?_of_block (w := wc) h, World.frozen?_of_block (w := wc) h⟩
/-- The round's end: the writer is written back. -/
theorem Kept.back {w wr wc : World} {kv kv' : Value} {K K' : List (Nat × Nat)} {X M X' M' : Nat} {a x9 : Option Addr} {c c9 : Nat} (hk : Kept w wr kv K X M a c) (henc : Enc K' X' M')
    (hbel : Below w.heap.size w wc) (q0 : ∃ v, wc.cell? ⟨w.heap.size, 0, none⟩ = some v) (q1 : ∃ v, wc.cell? ⟨w.heap.size, 1, none⟩ = some v) (f0 : wc.frozen? ⟨w.heap.size, 0, none⟩ = false) (f1 : wc.frozen? ⟨w.heap.size, 1, none⟩ = false) (hz : w.heap.size < wc.heap.size)
    (r : RwF wr.heap.size .u8 wc (.slice x9 ((M' + 7) / 8) c9) (byL X' ((M' + 7) / 8))) (own : wc.ownsRow (w.heap.size + 1) 50 2 kv' K'.length (cellsK K')) :
    Kept w ((wc.setCell ⟨w.heap.size, 0, none⟩ (.slice x9 ((M' + 7) / 8) c9)).setCell ⟨w.heap.size, 1, none⟩ (.int .i64 (M' : Int))) kv' K' X' M' x9 c9 := by
  obtain ⟨u0, q0⟩ := q0
  obtain ⟨u1, q1⟩ := q1
  obtain ⟨k0, k1, g0, g1, kz⟩ := box_set (.slice x9 ((M' + 7) / 8) c9) (.int .i64 (M' : Int)) q0 q1 f0 f1 hz
  have hlt := hk.lt
  exact ⟨henc, k0, k1, g0, g1, ((r.set _ _ _ hlt).set _ _ _ hlt).mono hlt, own_two (w' := w) own _ _ _ _ _ (by omega), bset2 hbel _ _ _ _ _ _ (Nat.le_refl _) (Nat.le_refl _), kz⟩

/-- The bytes that stand for a right writer's number. -/
theorem right_byL (X N : Nat) (hX : X < 2 ^ N) (hN : N ≤ 32000) : rightB (byL X ((N + 7) / 8)) N = true ∧ bv (byL X ((N + 7) / 8)) = X := by
  have h : bv (byL X ((N + 7) / 8)) = X := by
    rw [byL_bv, Nat.mod_eq_of_lt]
    refine Nat.lt_of_lt_of_le hX ?_
    rw [pow256]
    exact Nat.pow_le_pow_right (by decide) (by omega)
  exact ⟨by rw [rightB_nat, decide_eq_true_eq, h, byL_length]; exact ⟨hN, rfl, hX⟩, h⟩
theorem good_byL (X N : Nat) (hX : X < 2 ^ N) (hN : N ≤ 32000) : goodX (byL X ((N + 7) / 8)) N = byL X ((N + 7) / 8) ∧ goodN (byL X ((N + 7) / 8)) N = N := by
  unfold goodX goodN
  rw [if_pos (right_byL X N hX hN).1, if_pos (right_byL X N hX hN).1]
  exact ⟨rfl, rfl⟩
/-- What Put makes of such a writer, with room. -/
theorem put_byL (X N V : Nat) (z : Int) (hX : X < 2 ^ N) (hN : N ≤ 31000) :
    (∃ m : Nat, z = m ∧ m ≤ 32 ∧ V < 2 ^ m ∧ putE (byL X ((N + 7) / 8)) N V z = 0 ∧ putN (byL X ((N + 7) / 8)) N V z = ((N + m : Nat) : Int) ∧ putX (byL X ((N + 7) / 8)) N V z = byL (X + V * 2 ^ N) ((N + m + 7) / 8)) ∨
    (putE (byL X ((N + 7) / 8)) N V z = 1 ∧ putN (byL X ((N + 7) / 8)) N V z = (N : Int) ∧ putX (byL X ((N + 7) / 8)) N V z = byL X ((N + 7) / 8)) := by
  obtain ⟨g1, g2⟩ := good_byL X N hX (by omega)
  by_cases h : 0 ≤ z ∧ z ≤ 32 ∧ V < 2 ^ z.toNat
  · left
    obtain ⟨m, rfl⟩ := Int.eq_ofNat_of_zero_le h.1
    rw [Int.toNat_natCast] at h
    have e : putE (byL X ((N + 7) / 8)) N V m = 0 := putE_mk (by omega) h.2.2 (by rw [g2]; omega)
    refine ⟨m, rfl, by omega, h.2.2, e, ?_, ?_⟩
    · rw [putN_ok e, g2]; omega
    · rw [putX_ok e, g1, g2, (right_byL X N hX (by omega)).2]; rfl
  · right
    have e : putE (byL X ((N + 7) / 8)) N V z = 1 := by unfold putE; rw [if_neg h]
    refine ⟨e, ?_, ?_⟩
    · unfold putN; rw [if_neg (by rw [e]; decide), g2]
    · unfold putX; rw [if_neg (by rw [e]; decide), g1]

theorem own_pairs {w : World} {base : Nat} {kv : Value} {K : List (Nat × Nat)} (h : w.ownsRow base 50 2 kv K.length (cellsK K)) :
    ∃ a cap, kv = .slice a K.length cap ∧ (K.length = 0 ∨ ∃ b off, a = some ⟨b, off, none⟩ ∧ b < w.heap.size ∧ ∀ j, j < K.length → w.cell? ⟨b, off + j * 2, none⟩ = some (.int .u64 ((K.getD j (0, 0)).1 : Int)) ∧ w.cell? ⟨b, off + j * 2 + 1, none⟩ = some (.int .i64 ((K.getD j (0, 0)).2 : Int))) := by
  obtain ⟨h1, h2⟩ := h
  rcases h2 with ⟨rfl, h0⟩ | ⟨g, cap, cur, rfl, hg, hh, hcap, hm, hs, ht⟩
  · exact ⟨none, 0, by rw [h0], .inl h0⟩
  · refine ⟨_, cap, rfl, .inr ⟨g, 0, rfl, ?_, fun j hj => ?_⟩⟩
    · rcases Nat.lt_or_ge g w.heap.size with h | h
      · exact h
      · rw [Array.getElem?_eq_none h] at hh; cases hh
    · obtain ⟨c0, c1⟩ := cellsK_at K j hj
      rw [← ht, List.getElem?_take_of_lt (by omega)] at c0 c1
      simp only [World.cell?, hh, Nat.zero_add]
      exact ⟨by simpa using c0, by simpa using c1⟩

theorem get_kept {K : List (Nat × Nat)} {X M : Nat} (h : Enc K X M) (hM : M ≤ 31000) (j : Nat) (hj : j < K.length) (v : Value) (w : World) (hv : Rw .u8 w v (byL X ((M + 7) / 8))) :
    Calls Try.prog 18 #[.agg #[v, .int .i64 (sumN K j : Int)], .int .i64 ((K.getD j (0, 0)).2 : Int)] w fun e w' => e = .returned (.tuple #[.agg #[v, .int .i64 (sumN K (j + 1) : Int)], .int .u64 ((K.getD j (0, 0)).1 : Int), .int .i64 0]) ∧ Below w.heap.size w w' := by
  have h1 := sumN_succ K j hj
  have h2 := sumN_le K (j + 1) (by omega)
  rw [← h.n] at h2
  have h3 := h.fits j hj
  have h4 := h.each j hj
  have hb := (right_byL X M h.lt (by omega)).2
  have hc : 0 ≤ ((K.getD j (0, 0)).2 : Int) ∧ ((K.getD j (0, 0)).2 : Int) ≤ 32 ∧ 0 ≤ (sumN K j : Int) ∧ (sumN K j : Int) + ((K.getD j (0, 0)).2 : Int) ≤ 8 * ((byL X ((M + 7) / 8)).length : Int) := by
    rw [byL_length]; omega
  have e1 : getE (byL X ((M + 7) / 8)) (sumN K j) ((K.getD j (0, 0)).2 : Int) = 0 := by
    unfold getE; rw [if_pos ⟨hc.1, hc.2.1, hc.2.2.1⟩, if_pos hc.2.2.2]
  have e2 : getV (byL X ((M + 7) / 8)) (sumN K j) ((K.getD j (0, 0)).2 : Int) = ((K.getD j (0, 0)).1 : Int) := by
    unfold getV; rw [if_pos hc, hb, Int.toNat_natCast, Int.toNat_natCast, h4]
  have := get_any v _ (sumN K j) ((K.getD j (0, 0)).2 : Int) w hv (byL_byts _ _) (by rw [byL_length]; omega)
  rw [e1, e2, if_pos rfl] at this
  rw [h1]
  simpa using this

/-- What the second loop carries along: the reader in its block. -/
structure Red (wr w2 : World) (K : List (Nat × Nat)) (j : Nat) (a : Option Addr) (L c : Nat) : Prop where
  cell0 : w2.cell? ⟨wr.heap.size, 0, none⟩ = some (.slice a L c)
  cell1 : w2.cell? ⟨wr.heap.size, 1, none⟩ = some (.int .i64 (sumN K j : Int))
  fr0 : w2.frozen? ⟨wr.heap.size, 0, none⟩ = false
  fr1 : w2.frozen? ⟨wr.heap.size, 1, none⟩ = false
  bel : Below wr.heap.size wr w2
  lt : wr.heap.size < w2.heap.size
theorem Red.back {wr w2 wc : World} {K : List (Nat × Nat)} {j : Nat} {a : Option Addr} {L c : Nat} (h : Red wr w2 K j a L c) (hb : Below w2.heap.size w2 wc) :
    Red wr ((wc.setCell ⟨wr.heap.size, 0, none⟩ (.slice a L c)).setCell ⟨wr.heap.size, 1, none⟩ (.int .i64 (sumN K (j + 1) : Int))) K (j + 1) a L c := by
  obtain ⟨q0, q1, f0, f1, hz⟩ := box_below hb h.lt h.cell0 h.cell1 h.fr0 h.fr1
  obtain ⟨k0, k1, g0, g1, kz⟩ := box_set (.slice a L c) (.int .i64 (sumN K (j + 1) : Int)) q0 q1 f0 f1 hz
  exact ⟨k0, k1, g0, g1, bset2 (bthen h.bel hb h.bel.size) _ _ _ _ _ _ (Nat.le_refl _) (Nat.le_refl _), kz⟩
end Go.Proofs.Ytjlfnihogfgjnaa
