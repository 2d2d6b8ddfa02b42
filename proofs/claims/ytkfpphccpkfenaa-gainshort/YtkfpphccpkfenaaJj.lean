/- Frames that came in: a slice of structs of a slice of integers and a bool; such frames kept in a row of a call's own. -/
import Derived.Test.YtkfpphccpkfenaaJi
namespace Go.Proofs.Ytkfpphccpkfenaa
open Go.RowKit
set_option linter.unusedVariables false
set_option linter.unusedSimpArgs false

/-- A slice of frames that came in. -/
def IsFms (w : World) (a : Option Addr) (len : Nat) (xs : Nat → List Int) (bs : Nat → Bool) : Prop :=
  len ≤ maxLen ∧ (len = 0 ∨ ∃ b off, a = some ⟨b, off, none⟩ ∧ b < w.heap.size ∧ ∀ i, i < len → ∃ g c, w.cell? ⟨b, off + i * 2, none⟩ = some (.slice g (xs i).length c) ∧ w.cell? ⟨b, off + i * 2 + 1, none⟩ = some (.bool (bs i)) ∧ Rw .i64 w (.slice g (xs i).length c) (xs i))
theorem fms_of_trod {H : Type} {enc : TypeId × Value → H} {P : Program} {w : World} {t e q : TypeId} {f0 f1 : Field} {fuel : Nat} {a : Option Addr} {len cap : Nat} {x : DataW H × List MemPlace} (ht : P.underlying t = some (.slice e)) (he : P.underlying e = some (.struct #[f0, f1]))
    (ce : P.cellsOf e = 2) (o0 : f0.offset = 0) (o1 : f1.offset = 1) (c0 : P.cellsOf f0.type = 1) (c1 : P.cellsOf f1.type = 1) (u0 : P.underlying f0.type = some (.slice q)) (uq : P.underlying q = some (.int .i64)) (u1 : P.underlying f1.type = some .bool) (cq : P.cellsOf q = 1)
    (h : DataW.trod enc P w 0 (fun _ => true) true fuel t [.slice a len cap] = some x) : ∃ z0 z1, IsFms w a len z0 z1 := by
  rcases Deep.open_slice_pairs ht he ce o0 o1 c0 c1 h with ⟨hcs, _⟩ | ⟨ad, l, c, m, n, V0, V1, D0, D1, P0, P1, hcs, _, hl, hm, hmm, _, hall⟩
  · simp only [List.cons.injEq, and_true, Value.slice.injEq] at hcs
    obtain ⟨rfl, rfl, rfl⟩ := hcs
    exact ⟨fun _ => [], fun _ => false, by unfold maxLen; omega, .inl rfl⟩
  · simp only [List.cons.injEq, and_true, Value.slice.injEq] at hcs
    obtain ⟨rfl, rfl, rfl⟩ := hcs
    simp only [if_true] at hmm
    subst hmm
    by_cases h0 : len = 0
    · exact ⟨fun _ => [], fun _ => false, by omega, .inl h0⟩
    · obtain ⟨b, off, spot⟩ := ad
      have hc := (hall 0 (by omega)).1
      have hspot : spot = none := by simpa [Addr.add] using World.cell?_spot hc
      subst hspot
      have each : ∀ i, ∃ r : List Int × Bool, i < len → ∃ g c', w.cell? ⟨b, off + i * 2, none⟩ = some (.slice g r.1.length c') ∧ w.cell? ⟨b, off + i * 2 + 1, none⟩ = some (.bool r.2) ∧ Rw .i64 w (.slice g r.1.length c') r.1 := by
        intro i
        by_cases hi : i < len
        · obtain ⟨g0, g1, r0, r1⟩ := hall i (by omega)
          obtain ⟨a', l', c', zs, e0, hr⟩ := ints_of_trod u0 uq cq r0
          obtain ⟨ys, hyl, hrw, _⟩ := row_rw_any hr
          obtain ⟨bb, e1, _⟩ := DataW.trod_bool u1 r1
          simp only [List.cons.injEq, and_true] at e1
          rw [Addr.add_lit] at g0 g1
          subst hyl
          exact ⟨(ys, bb), fun _ => ⟨a', c', by rw [g0, e0], by rw [Nat.add_assoc, g1, e1], hrw⟩⟩
        · exact ⟨([], false), fun hh => absurd hh hi⟩
      obtain ⟨r, hr⟩ := Classical.axiomOfChoice each
      exact ⟨fun i => (r i).1, fun i => (r i).2, by omega, .inr ⟨b, off, rfl, World.block_lt_of_cell? w _ hc, fun i hi => hr i hi⟩⟩

/-- A row stays as it is where a struct is made ahead of the call that hands it back. -/
theorem rw_before3 {y wr : World} {v : Value} {xs : List Int} {z0 z1 : Int} {z2 : Value} {t : TypeId} (e : Below (wr.alloc (.cells #[.int .u64 z0, .int .u32 z1, z2] t)).drew.heap.size (wr.alloc (.cells #[.int .u64 z0, .int .u32 z1, z2] t)).drew y) (h : Rw .u8 y v xs) (hz : ∀ z, z2 ≠ .int .u8 z) (x0 x1 x2 : Value) : Rw .u8 (((y.setCell ⟨wr.heap.size, 0, none⟩ x0).setCell ⟨wr.heap.size, 1, none⟩ x1).setCell ⟨wr.heap.size, 2, none⟩ x2) v xs :=
  ((B3.new wr (.int .u64 z0) (.int .u32 z1) z2 t).below (drew_below e)).apart h (fun z => by simp) (fun z => by simp) hz _ _ _

/-! ### Frames that are kept -/
def Kp0 : ((Option Addr × Nat) × (List Int × Bool)) := ((none, 0), Fm0)
def cellsF (K : List ((Option Addr × Nat) × (List Int × Bool))) : List Value := K.flatMap fun p => [.slice p.1.1 p.2.1.length p.1.2, .bool p.2.2]
def fmsOf (K : List ((Option Addr × Nat) × (List Int × Bool))) : List (List Int × Bool) := K.map (·.2)
theorem cellsF_snoc (K : List ((Option Addr × Nat) × (List Int × Bool))) (p : ((Option Addr × Nat) × (List Int × Bool))) : cellsF (K ++ [p]) = cellsF K ++ [.slice p.1.1 p.2.1.length p.1.2, .bool p.2.2] := by simp [cellsF]
theorem fmsOf_snoc (K : List ((Option Addr × Nat) × (List Int × Bool))) (p : ((Option Addr × Nat) × (List Int × Bool))) : fmsOf (K ++ [p]) = fmsOf K ++ [p.2] := by simp [fmsOf]
theorem fmsOf_len (K : List ((Option Addr × Nat) × (List Int × Bool))) : (fmsOf K).length = K.length := by simp [fmsOf]
theorem fmsOf_at (K : List ((Option Addr × Nat) × (List Int × Bool))) (j : Nat) (h : j < K.length) : (fmsOf K).getD j Fm0 = (K.getD j Kp0).2 := by simp [fmsOf, List.getD, h]
theorem cellsF_at (K : List ((Option Addr × Nat) × (List Int × Bool))) (j : Nat) (h : j < K.length) : (cellsF K)[j * 2]? = some (.slice (K.getD j Kp0).1.1 (K.getD j Kp0).2.1.length (K.getD j Kp0).1.2) ∧ (cellsF K)[j * 2 + 1]? = some (.bool (K.getD j Kp0).2.2) := by
  induction K generalizing j with
  | nil => simp at h
  | cons q K ih => cases j with
    | zero => exact ⟨rfl, rfl⟩
    | succ j =>
      have := ih j (by simpa using h)
      rw [show (j + 1) * 2 = j * 2 + 2 by omega]
      exact this
theorem own_fms {w : World} {base : Nat} {T : TypeId} {kv : Value} {K : List ((Option Addr × Nat) × (List Int × Bool))} (h : w.ownsRow base T 2 kv K.length (cellsF K)) :
    ∃ a cap, kv = .slice a K.length cap ∧ (K.length = 0 ∨ ∃ b off, a = some ⟨b, off, none⟩ ∧ b < w.heap.size ∧ ∀ j, j < K.length → w.cell? ⟨b, off + j * 2, none⟩ = some (.slice (K.getD j Kp0).1.1 (K.getD j Kp0).2.1.length (K.getD j Kp0).1.2) ∧ w.cell? ⟨b, off + j * 2 + 1, none⟩ = some (.bool (K.getD j Kp0).2.2)) := by
  obtain ⟨h1, h2⟩ := h
  rcases h2 with ⟨rfl, h0⟩ | ⟨g, cap, cur, rfl, hg, hh, hcap, hm, hs, ht⟩
  · exact ⟨none, 0, by rw [h0], .inl h0⟩
  · refine ⟨_, cap, rfl, .inr ⟨g, 0, rfl, ?_, fun j hj => ?_⟩⟩
    · rcases Nat.lt_or_ge g w.heap.size with h | h
      · exact h
      · rw [Array.getElem?_eq_none h] at hh; cases hh
    · obtain ⟨c0, c1⟩ := cellsF_at K j hj
      rw [← ht, List.getElem?_take_of_lt (by omega)] at c0 c1
      simp only [World.cell?, hh, Nat.zero_add]
      exact ⟨by simpa using c0, by simpa using c1⟩
/-- All rows of the kept frames lie in memory. -/
def KRows (w : World) (K : List ((Option Addr × Nat) × (List Int × Bool))) : Prop := ∀ p ∈ K, Rw .i64 w (.slice p.1.1 p.2.1.length p.1.2) p.2.1
theorem KRows.snoc {w : World} {K : List ((Option Addr × Nat) × (List Int × Bool))} {p : ((Option Addr × Nat) × (List Int × Bool))} (h : KRows w K) (hp : Rw .i64 w (.slice p.1.1 p.2.1.length p.1.2) p.2.1) : KRows w (K ++ [p]) := fun q hq => by
  rcases List.mem_append.1 hq with hq | hq
  · exact h q hq
  · simp at hq; subst hq; exact hp
theorem KRows.at {w : World} {K : List ((Option Addr × Nat) × (List Int × Bool))} (h : KRows w K) (j : Nat) (hj : j < K.length) : Rw .i64 w (.slice (K.getD j Kp0).1.1 (K.getD j Kp0).2.1.length (K.getD j Kp0).1.2) (K.getD j Kp0).2.1 :=
  h _ (by simp [List.getD, hj])
def kZ : List Int := [0, 0, 0, 0, 0]
theorem kZ_ok : gokB kZ = true := by decide
/-- What Put of a frame makes of the frames that were put. -/
theorem frame_cases {K : List (List Int × Bool)} (hK : FmsOk K) {E : En} (hE : E = puts En.new (frC kZ K)) (x : List Int) (intra : Bool) :
    (gokB x = true ∧ gpF E x (lastG kZ K) intra = 0 ∧ gpE E x (lastG kZ K) intra = puts En.new (frC kZ (K ++ [(x, intra)])) ∧ FmsOk (K ++ [(x, intra)])) ∨ (gpE E x (lastG kZ K) intra = E ∧ (gpF E x (lastG kZ K) intra == 0) = false) := by
  rcases gp_cases E x (lastG kZ K) intra with ⟨h1, h2, h3⟩ | h
  · have hx : gokB x = true := by unfold gpB at h1; rw [Bool.and_eq_true] at h1; exact h1.1
    refine .inl ⟨hx, h3, ?_, hK.snoc hx⟩
    rw [h2, frC_snoc, puts_append, ← hE]
  · exact .inr h
theorem mostL_le (K : List (List Int × Bool)) : mostL K ≤ 45 * K.length := by
  induction K with
  | nil => simp [mostL]
  | cons f K ih =>
    have : mostB f.2 ≤ 45 := by unfold mostB; split <;> omega
    simp only [mostL, List.length_cons]; omega
end Go.Proofs.Ytkfpphccpkfenaa
