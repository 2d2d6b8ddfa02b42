/- Symbols that were written, one behind the other: what the loops of the statement HuffBack carry along. -/
import Derived.Test.YtnlahpnpajadpaaXk
namespace Go.Proofs.Ytnlahpnpajadpaa
open Go.RowKit Go.Maps
set_option linter.unusedVariables false
set_option linter.unusedSimpArgs false

/-- How many bits a symbol has; how many the first j have together. -/
def ln (l : List Int) (s : Int) : Nat := (l.getD s.toNat 0).toNat
def sumH (l K : List Int) (j : Nat) : Nat := ((K.take j).map (ln l)).sum
theorem sumH_zero (l K : List Int) : sumH l K 0 = 0 := by simp [sumH]
theorem sumH_snoc (l K : List Int) (s : Int) (j : Nat) (h : j ≤ K.length) : sumH l (K ++ [s]) j = sumH l K j := by
  unfold sumH; rw [List.take_append_of_le_length h]
theorem sumH_all (l K : List Int) (s : Int) : sumH l (K ++ [s]) (K.length + 1) = sumH l K K.length + ln l s := by
  unfold sumH
  rw [List.take_of_length_le (by simp), List.take_length]
  simp
theorem sumH_succ (l K : List Int) (j : Nat) (h : j < K.length) : sumH l K (j + 1) = sumH l K j + ln l (K.getD j 0) := by
  unfold sumH
  rw [take_snoc K j h]
  simp
theorem getD_snoc_lt (K : List Int) (s : Int) (j : Nat) (h : j < K.length) : (K ++ [s]).getD j 0 = K.getD j 0 := by
  rw [List.getD_eq_getElem?_getD, List.getElem?_append_left h, ← List.getD_eq_getElem?_getD]
theorem getD_snoc_eq (K : List Int) (s : Int) : (K ++ [s]).getD K.length 0 = s := by
  rw [List.getD_eq_getElem?_getD, List.getElem?_append_right (Nat.le_refl _)]; simp

structure EncH (l K : List Int) (X N : Nat) : Prop where
  n : N = sumH l K K.length
  lt : X < 2 ^ N
  le : N ≤ 16 * K.length
  each : ∀ j, j < K.length → rightL l = true ∧ usedS l (K.getD j 0) = true ∧ sumH l K j + ln l (K.getD j 0) ≤ N ∧ hv X (sumH l K j) (ln l (K.getD j 0)) = cd l (K.getD j 0).toNat
theorem EncH.nil (l : List Int) : EncH l [] 0 0 := ⟨rfl, by decide, by simp, fun j h => by simp at h⟩
theorem used_parts {l : List Int} {s : Int} (h : usedS l s = true) : ∃ n : Nat, s = n ∧ n < l.length ∧ 0 < l.getD n 0 := by
  unfold usedS at h
  rw [decide_eq_true_eq] at h
  exact ⟨s.toNat, by omega, by omega, h.2.2⟩
theorem EncH.snoc {l K : List Int} {X N : Nat} (h : EncH l K X N) (hr : rightL l = true) {s : Int} (hs : usedS l s = true) : EncH l (K ++ [s]) (X + rvb (cd l s.toNat) (ln l s) (ln l s) * 2 ^ N) (N + ln l s) := by
  obtain ⟨n, rfl, hn, h0⟩ := used_parts hs
  have hb := inB_at (right_parts hr).2.2.1 n
  have hln : ln l (n : Int) = (l.getD n 0).toNat := by unfold ln; rw [Int.toNat_natCast]
  have hpw := cd_pow_right hr n hn h0
  rw [Int.toNat_natCast]
  refine ⟨?_, put_lt _ _ _ _ h.lt (rvb_lt _ _ _), ?_, fun j hj => ?_⟩
  · rw [List.length_append, List.length_singleton, sumH_all, ← h.n]
  · rw [List.length_append, List.length_singleton]; have := h.le; omega
  · rw [List.length_append, List.length_singleton] at hj
    rcases Nat.lt_or_ge j K.length with h1 | h1
    · obtain ⟨e1, e2, e3, e4⟩ := h.each j h1
      rw [getD_snoc_lt K _ j h1, sumH_snoc l K _ j (by omega)]
      refine ⟨e1, e2, by omega, ?_⟩
      rw [← e4]
      refine hv_same _ _ _ _ (fun i hi => ?_)
      exact bit_low _ _ _ _ (by omega)
    · have hjk : j = K.length := by omega
      subst hjk
      rw [getD_snoc_eq, sumH_snoc l K _ _ (Nat.le_refl _), ← h.n]
      refine ⟨hr, hs, Nat.le_refl _, ?_⟩
      rw [Int.toNat_natCast]
      exact hv_written X (cd l n) (ln l n) N h.lt (by rw [hln]; exact hpw)

theorem back_ok {l K : List Int} {X N : Nat} (henc : EncH l K X N) (hN : N ≤ 1600) (s : Int) (hr : rightL l = true) (hs : usedS l s = true) (x : Option Addr) (c : Nat) (vl : Value) (W : World) (hrow : Rw .u8 W (.slice x ((N + 7) / 8) c) (byL X ((N + 7) / 8))) (hvl : Rw .i64 W vl l) :
    Calls Try.prog 17 #[.agg #[.slice x ((N + 7) / 8) c, .int .i64 (N : Int)], vl, .int .i64 s] W fun e W' => ∃ x' c', e = .returned (.tuple #[.agg #[.slice x' ((N + ln l s + 7) / 8) c', .int .i64 ((N + ln l s : Nat) : Int)], .int .i64 0]) ∧ RwF W.heap.size .u8 W' (.slice x' ((N + ln l s + 7) / 8) c') (byL (X + rvb (cd l s.toNat) (ln l s) (ln l s) * 2 ^ N) ((N + ln l s + 7) / 8)) ∧ Below W.heap.size W W' := by
  obtain ⟨n, rfl, hn, h0⟩ := used_parts hs
  have hb := inB_at (right_parts hr).2.2.1 n
  have hln : ln l (n : Int) = (l.getD n 0).toNat := by unfold ln; rw [Int.toNat_natCast]
  have hrow' : Rw .u8 W (.slice x (byL X ((N + 7) / 8)).length c) (byL X ((N + 7) / 8)) := by rw [byL_length]; exact hrow
  obtain ⟨g1, g2⟩ := good_byL X N henc.lt (by omega)
  have h := write_used x c vl (byL X ((N + 7) / 8)) l (N : Int) n X N W hrow' (byL_byts _ _) (by rw [byL_length]; omega) hvl hr hn h0 ⟨g1, g2, henc.lt, by omega⟩
  rw [byL_length] at h
  rw [Int.toNat_natCast, hln]
  refine h.mono ?_
  rintro e W' (⟨_, x', c', ys, hy, he, hrw, hb⟩ | ⟨h1, _⟩)
  · subst hy
    rw [byL_length] at he hrw
    exact ⟨x', c', he, hrw, hb⟩
  · exact absurd h1 (by omega)
theorem back_no {l : List Int} {X N : Nat} (hN : N ≤ 1600) (s : Int) (hno : rightL l = false ∨ usedS l s = false) (x : Option Addr) (c : Nat) (vl : Value) (W : World) (hrow : Rw .u8 W (.slice x ((N + 7) / 8) c) (byL X ((N + 7) / 8))) (hvl : Rw .i64 W vl l) :
    Calls Try.prog 17 #[.agg #[.slice x ((N + 7) / 8) c, .int .i64 (N : Int)], vl, .int .i64 s] W fun e W' => ∃ x' n' c' M', e = .returned (.tuple #[.agg #[.slice x' n' c', .int .i64 M'], .int .i64 1]) ∧ Below W.heap.size W W' := by
  have hrow' : Rw .u8 W (.slice x (byL X ((N + 7) / 8)).length c) (byL X ((N + 7) / 8)) := by rw [byL_length]; exact hrow
  have key : Calls Try.prog 17 #[.agg #[.slice x (byL X ((N + 7) / 8)).length c, .int .i64 (N : Int)], vl, .int .i64 s] W fun e W' => ∃ x' n' c' M', e = .returned (.tuple #[.agg #[.slice x' n' c', .int .i64 M'], .int .i64 1]) ∧ Below W.heap.size W W' := by
    cases hr : rightL l
    · refine (write_no x c vl _ l (N : Int) s W hrow' (byL_byts _ _) hvl hr).mono ?_
      rintro e W' ⟨_, _, _, _, _, _, rfl, _, hb⟩
      exact ⟨_, _, _, _, rfl, hb⟩
    · have hs : usedS l s = false := by
        rcases hno with h | h
        · rw [hr] at h; cases h
        · exact h
      refine (write_unused x c vl _ l (N : Int) s W hrow' (byL_byts _ _) hvl hr hs).mono ?_
      rintro e W' ⟨_, _, _, _, _, _, rfl, _, hb⟩
      exact ⟨_, _, _, _, rfl, hb⟩
  rw [byL_length] at key
  exact key
theorem read_kept {l K : List Int} {X N : Nat} (h : EncH l K X N) (hN : N ≤ 1600) (j : Nat) (hj : j < K.length) (x : Option Addr) (c : Nat) (vl : Value) (W : World) (hrow : Rw .u8 W (.slice x ((N + 7) / 8) c) (byL X ((N + 7) / 8))) (hvl : Rw .i64 W vl l) :
    Calls Try.prog 21 #[.agg #[.slice x ((N + 7) / 8) c, .int .i64 (sumH l K j : Int)], vl] W fun e W' => e = .returned (.tuple #[.agg #[.slice x ((N + 7) / 8) c, .int .i64 (sumH l K (j + 1) : Int)], .int .i64 (K.getD j 0), .int .i64 0]) ∧ Below W.heap.size W W' := by
  obtain ⟨hr, hs, e3, e4⟩ := h.each j hj
  have e5 := sumH_succ l K j hj
  obtain ⟨n, hsn, hn, h0⟩ := used_parts hs
  rw [hsn] at e3 e4 e5 ⊢
  have hln : ln l (n : Int) = (l.getD n 0).toNat := by unfold ln; rw [Int.toNat_natCast]
  rw [hln] at e3 e4 e5
  rw [Int.toNat_natCast] at e4
  have hrow' : Rw .u8 W (.slice x (byL X ((N + 7) / 8)).length c) (byL X ((N + 7) / 8)) := by rw [byL_length]; exact hrow
  have hbv := (right_byL X N h.lt (by omega)).2
  have hrd := read_ok x c vl (byL X ((N + 7) / 8)) l (sumH l K j) W (byL_byts _ _) (by rw [byL_length]; omega) hrow' hvl hr
  rw [hbv, byL_length] at hrd
  obtain ⟨r1, r2, r3⟩ := rd_some (l := l) (V := X) (T := 8 * ((N + 7) / 8)) (p := sumH l K j) (s := n) ⟨hn, h0, by omega, e4⟩
  rw [r1, r2, r3] at hrd
  rw [e5, show ((sumH l K j + (l.getD n 0).toNat : Nat) : Int) = (sumH l K j : Int) + l.getD n 0 by omega]
  exact hrd

theorem bthen' {a b c : World} (h : Below a.heap.size a b) (k : Below b.heap.size b c) : Below a.heap.size a c := bthen h k h.size
/-- A struct of two cells that a region has made, before or behind the call that it calls. -/
def Made (wr wz : World) (p : Value) (x0 x1 : Value) : Prop := ∃ bx, p = .pointer (some ⟨bx, 0, none⟩) ∧ wz.cell? ⟨bx, 0, none⟩ = some x0 ∧ wz.cell? ⟨bx, 1, none⟩ = some x1 ∧ bx < wz.heap.size ∧ wr.heap.size ≤ bx ∧ Below wr.heap.size wr wz
theorem made_after {y wr : World} {x0 x1 : Value} {t : TypeId} (h : Below wr.heap.size wr y) : Made wr (y.alloc (.cells #[x0, x1] t)) (.pointer (some ⟨y.heap.size, 0, none⟩)) x0 x1 :=
  ⟨y.heap.size, rfl, by simp [go_sem], by simp [go_sem], by simp, h.size, h.alloc h.size _⟩
theorem made_before {y wr : World} {x0 x1 z0 z1 : Value} {t : TypeId} (e : Below (wr.alloc (.cells #[z0, z1] t)).drew.heap.size (wr.alloc (.cells #[z0, z1] t)).drew y) : Made wr ((y.setCell ⟨wr.heap.size, 0, none⟩ x0).setCell ⟨wr.heap.size, 1, none⟩ x1) (.pointer (some ⟨wr.heap.size, 0, none⟩)) x0 x1 := by
  obtain ⟨q0, q1, f0, f1, hz⟩ := one_box (drew_below e)
  obtain ⟨k0, k1, _, _, kz⟩ := box_set x0 x1 q0 q1 f0 f1 hz
  exact ⟨wr.heap.size, rfl, k0, k1, kz, Nat.le_refl _, bset2 (bthen' (below1 _ _) (drew_below e)) _ _ _ _ _ _ (Nat.le_refl _) (Nat.le_refl _)⟩
theorem row_after {y : World} {base : Nat} {k : IntKind} {v : Value} {xs : List Int} (r : RwF base k y v xs) (o : Obj) (base' : Nat) (h : base' ≤ base) : RwF base' k (y.alloc o) v xs := (r.below (below1 _ _)).mono h
theorem row_before {y wr : World} {k : IntKind} {v : Value} {xs : List Int} {z0 z1 : Value} {t : TypeId} (r : RwF (wr.alloc (.cells #[z0, z1] t)).drew.heap.size k y v xs) (x0 x1 : Value) : RwF wr.heap.size k ((y.setCell ⟨wr.heap.size, 0, none⟩ x0).setCell ⟨wr.heap.size, 1, none⟩ x1) v xs := by
  have hlt : wr.heap.size < (wr.alloc (.cells #[z0, z1] t)).drew.heap.size := by show wr.heap.size < (wr.alloc (.cells #[z0, z1] t)).heap.size; simp
  exact ((r.set wr.heap.size 0 x0 hlt).set wr.heap.size 1 x1 hlt).mono (Nat.le_of_lt hlt)
theorem own_two {w : World} {base : Nat} {e : TypeId} {size : Nat} {v : Value} {n : Nat} {xs : List Value} (h : w.ownsRow base e size v n xs) (p i j : Nat) (x y : Value) (hp : p < base) : ((w.setCell ⟨p, i, none⟩ x).setCell ⟨p, j, none⟩ y).ownsRow base e size v n xs :=
  ownsRow_setCell_below (ownsRow_setCell_below h (a := ⟨p, i, none⟩) hp x) (a := ⟨p, j, none⟩) hp y
theorem RwF.grown {base : Nat} {k : IntKind} {w w' : World} {v : Value} {xs : List Int} {row : Option Nat} (h : RwF base k w v xs) (hg : w.grownBy w' row) (hr : ∀ i, row = some i → i < base) : RwF base k w' v xs := by
  obtain ⟨a, cap, hv, h⟩ := h
  refine ⟨a, cap, hv, ?_⟩
  rcases h with h | ⟨b, off, ha, hlo, hlt, hc⟩
  · exact .inl h
  · refine .inr ⟨b, off, ha, hlo, Nat.lt_of_lt_of_le hlt hg.size, fun i hi => ?_⟩
    exact hg.cell (hc i hi) (fun e => by have := hr _ e.symm; simp at this; omega)
theorem grown_cell {wc w1 : World} {o : Obj} {row : Option Nat} (hg : (wc.alloc o).grownBy w1 row) (p i : Nat) (hp : p < wc.heap.size) (hne : ∀ k, row = some k → k ≠ p) : w1.cell? ⟨p, i, none⟩ = wc.cell? ⟨p, i, none⟩ ∧ w1.frozen? ⟨p, i, none⟩ = wc.frozen? ⟨p, i, none⟩ := by
  have h := hg.block p (by simp; omega) (fun e => hne p e.symm rfl)
  rw [Below.heap_alloc _ _ _ hp] at h
  exact ⟨World.cell?_of_block (w := wc) h, World.frozen?_of_block (w := wc) h⟩
/-- What the first loop carries along: the writer in its block, and the symbols that are kept. -/
structure Kept (l : List Int) (w wr : World) (kv : Value) (K : List Int) (X N : Nat) (a : Option Addr) (c : Nat) : Prop where
  enc : EncH l K X N
  cell0 : wr.cell? ⟨w.heap.size, 0, none⟩ = some (.slice a ((N + 7) / 8) c)
  cell1 : wr.cell? ⟨w.heap.size, 1, none⟩ = some (.int .i64 (N : Int))
  fr0 : wr.frozen? ⟨w.heap.size, 0, none⟩ = false
  fr1 : wr.frozen? ⟨w.heap.size, 1, none⟩ = false
  row : RwF (w.heap.size + 1) .u8 wr (.slice a ((N + 7) / 8) c) (byL X ((N + 7) / 8))
  own : wr.ownsRow (w.heap.size + 1) 3 1 kv K.length (K.map (Value.int .i64))
  bel : Below w.heap.size w wr
  lt : w.heap.size < wr.heap.size
theorem Kept.back {l : List Int} {w wr wc : World} {kv kv' : Value} {K K' : List Int} {X M X' M' : Nat} {a x9 : Option Addr} {c c9 : Nat} (hk : Kept l w wr kv K X M a c) (henc : EncH l K' X' M')
    (hbel : Below w.heap.size w wc) (q0 : ∃ v, wc.cell? ⟨w.heap.size, 0, none⟩ = some v) (q1 : ∃ v, wc.cell? ⟨w.heap.size, 1, none⟩ = some v) (f0 : wc.frozen? ⟨w.heap.size, 0, none⟩ = false) (f1 : wc.frozen? ⟨w.heap.size, 1, none⟩ = false) (hz : w.heap.size < wc.heap.size)
    (r : RwF wr.heap.size .u8 wc (.slice x9 ((M' + 7) / 8) c9) (byL X' ((M' + 7) / 8))) (own : wc.ownsRow (w.heap.size + 1) 3 1 kv' K'.length (K'.map (Value.int .i64))) :
    Kept l w ((wc.setCell ⟨w.heap.size, 0, none⟩ (.slice x9 ((M' + 7) / 8) c9)).setCell ⟨w.heap.size, 1, none⟩ (.int .i64 (M' : Int))) kv' K' X' M' x9 c9 := by
  obtain ⟨u0, q0⟩ := q0
  obtain ⟨u1, q1⟩ := q1
  obtain ⟨k0, k1, g0, g1, kz⟩ := box_set (.slice x9 ((M' + 7) / 8) c9) (.int .i64 (M' : Int)) q0 q1 f0 f1 hz
  have hlt := hk.lt
  exact ⟨henc, k0, k1, g0, g1, ((r.set _ _ _ hlt).set _ _ _ hlt).mono hlt, own_two own _ _ _ _ _ (by omega), bset2 hbel _ _ _ _ _ _ (Nat.le_refl _) (Nat.le_refl _), kz⟩
theorem Kept.stay {l : List Int} {w wr wc : World} {kv : Value} {K : List Int} {X M : Nat} {a : Option Addr} {c : Nat} (hk : Kept l w wr kv K X M a c) (h : Below wr.heap.size wr wc) : Kept l w wc kv K X M a c := by
  obtain ⟨q0, q1, f0, f1, hz⟩ := box_below h hk.lt hk.cell0 hk.cell1 hk.fr0 hk.fr1
  exact ⟨hk.enc, q0, q1, f0, f1, hk.row.below h, owns_below hk.own h, bthen hk.bel h hk.bel.size, hz⟩
/-- What the second loop carries along: the reader in its block. -/
structure Red (l : List Int) (wr w2 : World) (K : List Int) (j : Nat) (a : Option Addr) (L c : Nat) : Prop where
  cell0 : w2.cell? ⟨wr.heap.size, 0, none⟩ = some (.slice a L c)
  cell1 : w2.cell? ⟨wr.heap.size, 1, none⟩ = some (.int .i64 (sumH l K j : Int))
  fr0 : w2.frozen? ⟨wr.heap.size, 0, none⟩ = false
  fr1 : w2.frozen? ⟨wr.heap.size, 1, none⟩ = false
  bel : Below wr.heap.size wr w2
  lt : wr.heap.size < w2.heap.size
theorem Red.back {l : List Int} {wr w2 wc : World} {K : List Int} {j : Nat} {a : Option Addr} {L c : Nat} (h : Red l wr w2 K j a L c) (hb : Below w2.heap.size w2 wc) :
    Red l wr ((wc.setCell ⟨wr.heap.size, 0, none⟩ (.slice a L c)).setCell ⟨wr.heap.size, 1, none⟩ (.int .i64 (sumH l K (j + 1) : Int))) K (j + 1) a L c := by
  obtain ⟨q0, q1, f0, f1, hz⟩ := box_below hb h.lt h.cell0 h.cell1 h.fr0 h.fr1
  obtain ⟨k0, k1, g0, g1, kz⟩ := box_set (.slice a L c) (.int .i64 (sumH l K (j + 1) : Int)) q0 q1 f0 f1 hz
  exact ⟨k0, k1, g0, g1, bset2 (bthen h.bel hb h.bel.size) _ _ _ _ _ _ (Nat.le_refl _) (Nat.le_refl _), kz⟩
theorem held3' {W y : World} {b1 b2 o2 : Nat} {x0 x1 x2 : Value} (hb : Below W.heap.size W y) (h1 : b1 < W.heap.size) (h2 : b2 < W.heap.size) (g0 : W.cell? ⟨b1, 0, none⟩ = some x0) (g1 : W.cell? ⟨b1, 1, none⟩ = some x1) (g2 : W.cell? ⟨b2, o2, none⟩ = some x2) :
    y.cell? ⟨b1, 0, none⟩ = some x0 ∧ y.cell? ⟨b1, 1, none⟩ = some x1 ∧ y.cell? ⟨b2, o2, none⟩ = some x2 := ⟨((bcell hb).1 _ _ h1).trans g0, ((bcell hb).1 _ _ h1).trans g1, ((bcell hb).1 _ _ h2).trans g2⟩
end Go.Proofs.Ytnlahpnpajadpaa
