/- The contract of Read: the symbol whose code lies at the reader's place, and the reader behind it; or the error. -/
import Derived.Test.YtnlahpnpajadpaaXe
import Derived.Test.YtnlahpnpajadpaaWi
import Derived.Test.YtnlahpnpajadpaaWk
namespace Go.Proofs.Ytnlahpnpajadpaa
open Go.RowKit Go.Maps
set_option linter.unusedVariables false
set_option linter.unusedSimpArgs false

/-- What Read answers of a right book, at a place that is not below 0. -/
def rdS (l : List Int) (V T p : Nat) : Int := match findS l V T p with | some s => (s : Int) | none => 0
def rdP (l : List Int) (V T p : Nat) : Int := match findS l V T p with | some s => (p : Int) + l.getD s 0 | none => (p : Int)
def rdE (l : List Int) (V T p : Nat) : Int := match findS l V T p with | some _ => 0 | none => if usedN l = 1 ∧ p < T then 2 else 4

theorem rd_some {l : List Int} {V T p s : Nat} (h : Mt l V T p s) : rdS l V T p = s ∧ rdP l V T p = (p : Int) + l.getD s 0 ∧ rdE l V T p = 0 := by
  unfold rdS rdP rdE; rw [find_some h]; exact ⟨rfl, rfl, rfl⟩
theorem rd_none {l : List Int} {V T p : Nat} (h : ∀ s, ¬ Mt l V T p s) : rdS l V T p = 0 ∧ rdP l V T p = p ∧ rdE l V T p = if usedN l = 1 ∧ p < T then 2 else 4 := by
  unfold rdS rdP rdE; rw [find_none h]; exact ⟨rfl, rfl, rfl⟩
/-- No code of at most k bits lies at the place. -/
def NoMt (l : List Int) (V p k : Nat) : Prop := ∀ s, s < l.length → 0 < l.getD s 0 → l.getD s 0 ≤ k → hv V p (l.getD s 0).toNat ≠ cd l s
theorem NoMt.start (l : List Int) (V p : Nat) : NoMt l V p 0 := fun s _ h1 h2 => by omega
theorem NoMt.next {l : List Int} {V p k : Nat} (h : NoMt l V p k) (hn : ¬ ∃ s, s < l.length ∧ 0 < l.getD s 0 ∧ l.getD s 0 = ((k + 1 : Nat) : Int) ∧ cd l s = hv V p (k + 1)) : NoMt l V p (k + 1) := fun s h1 h2 h3 he => by
  by_cases hk : l.getD s 0 ≤ k
  · exact h s h1 h2 hk he
  · have e : l.getD s 0 = ((k + 1 : Nat) : Int) := by omega
    refine hn ⟨s, h1, h2, e, ?_⟩
    rw [e, Int.toNat_natCast] at he
    exact he.symm
theorem max_pos {l : List Int} {m : Int} (h : IsMax l m) (hr : rightL l = true) : 1 ≤ m ∧ m ≤ 16 := by
  obtain ⟨h1, h2, hb, ht1, ht2⟩ := right_parts hr
  have hu : 1 ≤ usedN l := by
    rcases Nat.lt_or_ge (usedN l) 1 with h | h
    · have := (ht2 (by omega)).2; omega
    · exact h
  obtain ⟨s, hs, hp⟩ := used_pos hu
  obtain ⟨⟨j, hj, rfl⟩, hm⟩ := h
  have := hm s hs
  have := inB_at hb j
  omega
theorem rd_more {l : List Int} {V T p k : Nat} {m : Int} (hm : IsMax l m) (hr : rightL l = true) (hk : k < m) (hn : NoMt l V p k) (hT : T < p + k + 1) : rdS l V T p = 0 ∧ rdP l V T p = p ∧ rdE l V T p = 4 := by
  obtain ⟨h1, h2, h3⟩ := rd_none (l := l) (V := V) (T := T) (p := p) (by
    rintro s ⟨s1, s2, s3, s4⟩
    exact hn s s1 s2 (by omega) s4)
  refine ⟨h1, h2, ?_⟩
  rw [h3, if_neg]
  rintro ⟨u1, u2⟩
  obtain ⟨⟨j, hj, rfl⟩, hmm⟩ := hm
  have := one_bit hr u1 j hj (by omega)
  omega
theorem rd_form {l : List Int} {V T p k : Nat} {m : Int} (hm : IsMax l m) (hr : rightL l = true) (hk : (k : Int) = m) (hn : NoMt l V p k) (hT : p + k ≤ T) : rdS l V T p = 0 ∧ rdP l V T p = p ∧ rdE l V T p = 2 := by
  have hmp := max_pos hm hr
  have hno : ∀ s, ¬ Mt l V T p s := by
    rintro s ⟨s1, s2, s3, s4⟩
    have := hm.2 s s1
    exact hn s s1 s2 (by omega) s4
  obtain ⟨h1, h2, h3⟩ := rd_none hno
  refine ⟨h1, h2, ?_⟩
  obtain ⟨r1, r2, hb, ht1, ht2⟩ := right_parts hr
  have hu : usedN l = 1 := by
    rcases Decidable.em (usedN l = 1) with h | h
    · exact h
    · exfalso
      have hle : ∀ x ∈ l, x ≤ (k : Int) := by
        intro x hx
        obtain ⟨i, hi, rfl⟩ := List.mem_iff_getElem.1 hx
        have := hm.2 i hi
        rw [List.getD_eq_getElem?_getD, List.getElem?_eq_getElem hi] at this
        simp at this; omega
      obtain ⟨s, hs, _⟩ := Mt.some (V := V) (T := T) (p := p) hb (ht2 h).1 (m := k) (by omega) (by omega) hle hT
      exact hno s hs
  rw [h3, if_pos ⟨hu, by omega⟩]
theorem rd_found {l : List Int} {V T p k s : Nat} (hs : s < l.length) (h0 : 0 < l.getD s 0) (hk : l.getD s 0 = ((k + 1 : Nat) : Int)) (hc : cd l s = hv V p (k + 1)) (hT : p + k + 1 ≤ T) : rdS l V T p = s ∧ rdP l V T p = (p : Int) + k + 1 ∧ rdE l V T p = 0 := by
  obtain ⟨h1, h2, h3⟩ := rd_some (l := l) (V := V) (T := T) (p := p) (s := s) ⟨hs, h0, by omega, by rw [hk, Int.toNat_natCast]; exact hc.symm⟩
  exact ⟨h1, by rw [h2, hk]; omega, h3⟩
theorem or_bit (h b : Nat) (hb : b < 2) (hh : h < 65536) : bits .or .u32 (((2 * h : Nat) : Int)) ((b : Nat) : Int) = ((2 * h + b : Nat) : Int) := by
  rw [bits_join .u32 32 (by decide) wraps_u32 1 ((2 * h : Nat) : Int) (b : Int) (by omega) (by omega) (by omega) (by omega) (by omega) (by omega)]
  omega

set_option maxHeartbeats 1000000 in
theorem read_arg (a : Option Addr) (len cap : Nat) (vl : Value) (l : List Int) (p : Int) (w : World) (hv : Rw .i64 w vl l) (h : rightL l = false ∨ p < 0) :
    Calls Try.prog 21 #[.agg #[.slice a len cap, .int .i64 p], vl] w fun e w' => e = .returned (.tuple #[.agg #[.slice a len cap, .int .i64 p], .int .i64 0, .int .i64 1]) ∧ Below w.heap.size w w' := by
  have hW := below2 w (.cells #[.slice a len cap, .int .i64 p] 45) (.cells #[.slice none 0 0, .int .i64 0] 45)
  have hv1 := hv.below hW
  cases hr : rightL l with
  | false =>
    clear h
    go_enter Try.func21, Try.ntmps21
    go_wp2_with (go_at_call 13; refine (codes_no vl l _ hv1 hr).mono ?_; rintro e w' ⟨rfl, rfl⟩)
    refine bodyPost_ret (v := .tuple #[.agg #[.slice a len cap, .int .i64 p], .int .i64 0, .int .i64 1]) (by simp [results, Try.results21, go_sem]) rfl ⟨rfl, ?_⟩
    first | exact below2 _ _ _ | exact bset2 hW _ _ _ _ _ _ (by omega) (by omega)
  | true =>
    have hp : p < 0 := by
      rcases h with h | h
      · rw [hr] at h; cases h
      · exact h
    clear h
    go_enter Try.func21, Try.ntmps21
    go_wp2_with (go_at_call 13; refine (codes_ok vl l _ hv1 hr).mono ?_; rintro e w' ⟨g, rfl, hrow, hb1⟩; obtain ⟨k0, k1, k2, k3, f0, f1, f2, f3, hz⟩ := two_boxes hb1)
    refine bodyPost_ret (v := .tuple #[.agg #[.slice a len cap, .int .i64 p], .int .i64 0, .int .i64 1]) (by simp [results, Try.results21, go_sem, k0, k1, k2, k3, f0, f1, f2, f3]) rfl ⟨rfl, ?_⟩
    exact bset2 (bthen hW hb1 hW.size) _ _ _ _ _ _ (by omega) (by omega)

theorem get1_ok (a : Option Addr) (cap : Nat) (xs : List Int) (q : Nat) (w : World) (hx : Byts xs) (hlx : xs.length ≤ 100000) (hvx : Rw .u8 w (.slice a xs.length cap) xs) (h : q + 1 ≤ 8 * xs.length) :
    Calls Try.prog 32 #[.agg #[.slice a xs.length cap, .int .i64 q], .int .i64 1] w fun e w' => e = .returned (.tuple #[.agg #[.slice a xs.length cap, .int .i64 ((q + 1 : Nat) : Int)], .int .u64 ((bv xs / 2 ^ q % 2 : Nat) : Int), .int .i64 0]) ∧ Below w.heap.size w w' := by
  have eV : getV xs (q : Int) 1 = ((bv xs / 2 ^ q % 2 : Nat) : Int) := by
    unfold getV; rw [if_pos (by omega)]; simp
  have eE : getE xs (q : Int) 1 = 0 := by unfold getE; rw [if_pos (by omega), if_pos (by omega)]
  refine (get_any _ xs (q : Int) 1 w hvx hx hlx).mono ?_
  rintro e w' ⟨rfl, hb⟩
  rw [eV, eE, if_pos rfl]
  exact ⟨by simp, hb⟩
theorem get1_more (a : Option Addr) (cap : Nat) (xs : List Int) (q : Nat) (w : World) (hx : Byts xs) (hlx : xs.length ≤ 100000) (hvx : Rw .u8 w (.slice a xs.length cap) xs) (h : 8 * xs.length < q + 1) :
    Calls Try.prog 32 #[.agg #[.slice a xs.length cap, .int .i64 q], .int .i64 1] w fun e w' => e = .returned (.tuple #[.agg #[.slice a xs.length cap, .int .i64 (q : Int)], .int .u64 0, .int .i64 4]) ∧ Below w.heap.size w w' := by
  have eV : getV xs (q : Int) 1 = 0 := by
    unfold getV; rw [if_neg (by omega)]
  have eE : getE xs (q : Int) 1 = 4 := by unfold getE; rw [if_pos (by omega), if_neg (by omega)]
  refine (get_any _ xs (q : Int) 1 w hvx hx hlx).mono ?_
  rintro e w' ⟨rfl, hb⟩
  rw [eV, eE, if_neg (by decide)]
  exact ⟨rfl, hb⟩
/-- What Read's loop has: its reader, its answer's cells, the reader behind the bits that are read, the code that is met. -/
structure RdSt (B A : Nat) (sv : Value) (p q h k : Nat) (wr : World) : Prop where
  r0 : wr.cell? ⟨B, 0, none⟩ = some sv
  r1 : wr.cell? ⟨B, 1, none⟩ = some (.int .i64 (p : Int))
  s0 : wr.cell? ⟨B + 1, 0, none⟩ = some (.slice none 0 0)
  s1 : wr.cell? ⟨B + 1, 1, none⟩ = some (.int .i64 0)
  t0 : wr.frozen? ⟨B + 1, 0, none⟩ = false
  t1 : wr.frozen? ⟨B + 1, 1, none⟩ = false
  a0 : wr.cell? ⟨A, 0, none⟩ = some sv
  a1 : wr.cell? ⟨A, 1, none⟩ = some (.int .i64 (q : Int))
  b0 : wr.frozen? ⟨A, 0, none⟩ = false
  b1 : wr.frozen? ⟨A, 1, none⟩ = false
  c0 : wr.cell? ⟨A + 1, 0, none⟩ = some (.int .u32 (h : Int))
  c1 : wr.cell? ⟨A + 1, 1, none⟩ = some (.int .i64 (k : Int))
  d0 : wr.frozen? ⟨A + 1, 0, none⟩ = false
  d1 : wr.frozen? ⟨A + 1, 1, none⟩ = false
  hB : B + 1 < A
  hA : A + 1 < wr.heap.size
theorem RdSt.below {B A : Nat} {sv : Value} {p q h k : Nat} {wr w1 : World} (H : RdSt B A sv p q h k wr) (hb : Below wr.heap.size wr w1) : RdSt B A sv p q h k w1 := by
  obtain ⟨hc, hf⟩ := bcell hb
  have h1 := H.hB
  have h2 := H.hA
  have h3 := hb.size
  refine ⟨(hc _ _ (by omega)).trans H.r0, (hc _ _ (by omega)).trans H.r1, (hc _ _ (by omega)).trans H.s0, (hc _ _ (by omega)).trans H.s1, (hf _ _ (by omega)).trans H.t0, (hf _ _ (by omega)).trans H.t1, (hc _ _ (by omega)).trans H.a0, (hc _ _ (by omega)).trans H.a1, (hf _ _ (by omega)).trans H.b0, (hf _ _ (by omega)).trans H.b1, (hc _ _ (by omega)).trans H.c0, (hc _ _ (by omega)).trans H.c1, (hf _ _ (by omega)).trans H.d0, (hf _ _ (by omega)).trans H.d1, h1, by omega⟩

theorem RdSt.step {B A : Nat} {sv : Value} {p q h k : Nat} {wr : World} (H : RdSt B A sv p q h k wr) (q' h' k' : Nat) :
    RdSt B A sv p q' h' k' ((((wr.setCell ⟨A, 0, none⟩ sv).setCell ⟨A, 1, none⟩ (.int .i64 (q' : Int))).setCell ⟨A + 1, 0, none⟩ (.int .u32 (h' : Int))).setCell ⟨A + 1, 1, none⟩ (.int .i64 (k' : Int))).drew := by
  obtain ⟨r0, r1, s0, s1, t0, t1, a0, a1, b0, b1, c0, c1, d0, d1, hB, hA⟩ := H
  have n1 : B ≠ A := by omega
  have n2 : B ≠ A + 1 := by omega
  have n3 : B + 1 ≠ A := by omega
  have n4 : B ≠ A := by omega
  have n5 : A ≠ A + 1 := by omega
  have n6 : A + 1 ≠ A := by omega
  refine ⟨?_, ?_, ?_, ?_, ?_, ?_, ?_, ?_, ?_, ?_, ?_, ?_, ?_, ?_, hB, ?_⟩
  all_goals simp [go_sem, r0, r1, s0, s1, t0, t1, a0, a1, b0, b1, c0, c1, d0, d1, n1, n2, n3, n4, n5, n6, frozen_set]
  omega

theorem own4 {P : Program} {k : TypeId} {R : Value → Option (DataW Unit × List MemPlace)} {w : World} {b n A : Nat} {D : DataW Unit} (h : w.ownsMap P k R b n D) (hb : b < A) (x y z u : Value) :
    ((((w.setCell ⟨A, 0, none⟩ x).setCell ⟨A, 1, none⟩ y).setCell ⟨A + 1, 0, none⟩ z).setCell ⟨A + 1, 1, none⟩ u).drew.ownsMap P k R b n D :=
  World.ownsMap.drew (World.ownsMap.setCell (World.ownsMap.setCell (World.ownsMap.setCell (World.ownsMap.setCell h (a := ⟨A, 0, none⟩) (by show b ≠ A; omega) x) (a := ⟨A, 1, none⟩) (by show b ≠ A; omega) y) (a := ⟨A + 1, 0, none⟩) (by show b ≠ A + 1; omega) z) (a := ⟨A + 1, 1, none⟩) (by show b ≠ A + 1; omega) u)
theorem bel4 {B A : Nat} {a w : World} (h : Below B a w) (hb : B ≤ A) (x y z u : Value) :
    Below B a ((((w.setCell ⟨A, 0, none⟩ x).setCell ⟨A, 1, none⟩ y).setCell ⟨A + 1, 0, none⟩ z).setCell ⟨A + 1, 1, none⟩ u).drew :=
  ((((h.setCell (p := ⟨A, 0, none⟩) hb x).setCell (p := ⟨A, 1, none⟩) hb y).setCell (p := ⟨A + 1, 0, none⟩) (by show B ≤ A + 1; omega) z).setCell (p := ⟨A + 1, 1, none⟩) (by show B ≤ A + 1; omega) u).trans ⟨rfl, rfl, rfl, Nat.le_refl _, fun _ _ => rfl⟩

set_option maxHeartbeats 4000000 in
set_option maxRecDepth 10000 in
theorem read_ok (a : Option Addr) (cap : Nat) (vl : Value) (xs l : List Int) (p : Nat) (w : World) (hx : Byts xs) (hlx : xs.length ≤ 100000) (hvx : Rw .u8 w (.slice a xs.length cap) xs) (hvl : Rw .i64 w vl l) (hr : rightL l = true) :
    Calls Try.prog 21 #[.agg #[.slice a xs.length cap, .int .i64 p], vl] w fun e w' => e = .returned (.tuple #[.agg #[.slice a xs.length cap, .int .i64 (rdP l (bv xs) (8 * xs.length) p)], .int .i64 (rdS l (bv xs) (8 * xs.length) p), .int .i64 (rdE l (bv xs) (8 * xs.length) p)]) ∧ Below w.heap.size w w' := by
  have hW := below2 w (.cells #[.slice a xs.length cap, .int .i64 (p : Int)] 45) (.cells #[.slice none 0 0, .int .i64 0] 45)
  have hv1 := hvl.below hW
  have hl1 := (right_parts hr).1
  have hl2 := (right_parts hr).2.1
  go_enter Try.func21, Try.ntmps21
  go_wp2_with (go_at_call 13; refine (codes_ok vl l _ hv1 hr).mono ?_; rintro e w1 ⟨g, rfl, hrow, hb1⟩; obtain ⟨k0, k1, k2, k3, f0, f1, f2, f3, hz⟩ := two_boxes hb1)
  have hBw1 := bthen hW hb1 hW.size
  have hv2 := hvl.below hBw1
  have hsy := symbols_any _ _ l w1 hv2 hrow.rw hr
  have hk0 : (0 : Int) ≤ (p : Int) := by omega
  go_wp2_with (go_at_call 30; refine hsy.mono ?_; rintro e w2 ⟨D, rfl, hown, htell, hb2⟩; obtain ⟨hc2, hf2⟩ := bcell hb2; have m0 := (hc2 _ _ (by omega)).trans k0; have m1 := (hc2 _ _ (by omega)).trans k1; have m2 := (hc2 _ _ (by omega)).trans k2; have m3 := (hc2 _ _ (by omega)).trans k3; have n2 := (hf2 _ _ (by omega)).trans f2; have n3 := (hf2 _ _ (by omega)).trans f3)
  have hBw2 := bthen hBw1 hb2 (by omega)
  have hv3 := (hvl.below hBw2).below (below2 w2 (.cells #[.slice a xs.length cap, .int .i64 (p : Int)] 45) (.cells #[.int .u32 0, .int .i64 0] 66))
  have hz2 := hb2.size
  refine (max_any _ l _ hv3 (by omega) (by omega)).mono ?_
  rintro e w3 ⟨m, rfl, hmax, rfl⟩
  obtain ⟨hm1, hm2⟩ := max_pos hmax hr
  obtain ⟨M, rfl⟩ := Int.eq_ofNat_of_zero_le (show 0 ≤ m by omega)
  have HM : Hid _ := hmax
  have HR : Hid _ := hr
  have hW3 := hBw2.alloc hBw2.size (.cells #[.slice a xs.length cap, .int .i64 (p : Int)] 45)
  have hW4 := hW3.alloc hW3.size (.cells #[.int .u32 0, .int .i64 0] 66)
  have hSt : RdSt w.heap.size w2.heap.size (.slice a xs.length cap) p p 0 0 ((w2.alloc (.cells #[.slice a xs.length cap, .int .i64 (p : Int)] 45)).alloc (.cells #[.int .u32 0, .int .i64 0] 66)) := by
    have q : ∀ b o, b < w2.heap.size → ((w2.alloc (.cells #[.slice a xs.length cap, .int .i64 (p : Int)] 45)).alloc (.cells #[.int .u32 0, .int .i64 0] 66)).cell? ⟨b, o, none⟩ = w2.cell? ⟨b, o, none⟩ := (bcell (below2 w2 _ _)).1
    have q' : ∀ b o, b < w2.heap.size → ((w2.alloc (.cells #[.slice a xs.length cap, .int .i64 (p : Int)] 45)).alloc (.cells #[.int .u32 0, .int .i64 0] 66)).frozen? ⟨b, o, none⟩ = w2.frozen? ⟨b, o, none⟩ := (bcell (below2 w2 _ _)).2
    refine ⟨(q _ _ (by omega)).trans m0, (q _ _ (by omega)).trans m1, (q _ _ (by omega)).trans m2, (q _ _ (by omega)).trans m3, (q' _ _ (by omega)).trans n2, (q' _ _ (by omega)).trans n3, ?_, ?_, ?_, ?_, ?_, ?_, ?_, ?_, by omega, by simp⟩ <;> simp [go_sem]
  have hOwn : Hid _ := (hown.alloc (.cells #[.slice a xs.length cap, .int .i64 (p : Int)] 45)).alloc (.cells #[.int .u32 0, .int .i64 0] 66)
  have HT : Hid _ := htell
  have hMb : w1.heap.size < w2.heap.size := hown.lt
  have hMb2 : w.heap.size + 1 < w1.heap.size := by omega
  clear hown htell hc2 hf2 m0 m1 m2 m3 n2 n3 k0 k1 k2 k3 f0 f1 f2 f3 hsy hrow hb1 hb2 hv1 hv2 hv3 hW hW3 hBw1 hmax hr
  generalize ((w2.alloc (.cells #[.slice a xs.length cap, .int .i64 (p : Int)] 45)).alloc (.cells #[.int .u32 0, .int .i64 0] 66)) = W4 at *
  go_wp2
  go_loopw [37] (fun i wr => ∃ k h q : Nat, k ≤ M ∧ i = .int .i64 k ∧ h < 65536 ∧ Hid (h = hv (bv xs) p k) ∧ Hid (q = p + k) ∧ Hid (NoMt l (bv xs) p k) ∧ Hid (k = 0 ∨ p + k ≤ 8 * xs.length) ∧ Hid (RdSt w.heap.size w2.heap.size (.slice a xs.length cap) p q h k wr) ∧ Hid (wr.ownsMap Try.prog 66 (plainElem Try.prog 3) w1.heap.size l.length D) ∧ Below w.heap.size w wr) (fun i _ => M - (intOf i).toNat)
  case atStart => exact ⟨0, 0, p, by omega, rfl, by omega, by unfold Hid; rfl, by unfold Hid; rfl, NoMt.start _ _ _, .inl rfl, hSt, hOwn, hW4⟩
  case round =>
    obtain ⟨k, h, q, hk, rfl, hh, HH, HQ, HN, HE, HS, HO, hnx⟩ := hrel
    by_cases hlt : k < M
    · by_cases hfit : q + 1 ≤ 8 * xs.length
      · -- one bit more
        have hg := get1_ok a cap xs q wr hx hlx (hvx.below hnx) hfit
        have hbit : bv xs / 2 ^ q % 2 < 2 := Nat.mod_lt _ (by decide)
        have HH2 : Hid (2 * h + bv xs / 2 ^ q % 2 = hv (bv xs) p (k + 1)) := by unfold Hid; rw [HQ.out, HH.out]; rfl
        have hh2 : 2 * h + bv xs / 2 ^ q % 2 < 65536 := by
          rw [HH2.out]
          exact Nat.lt_of_lt_of_le (hv_lt _ _ _) (Nat.pow_le_pow_right (n := 2) (by decide) (show k + 1 ≤ 16 by omega))
        generalize bv xs / 2 ^ q % 2 = bt at hg hbit HH2 hh2
        have hor : bits .or .u32 ((h : Int) * 2) (bt : Int) = ((2 * h + bt : Nat) : Int) := by
          have := or_bit h bt hbit hh
          rwa [show ((2 * h : Nat) : Int) = (h : Int) * 2 by omega] at this
        have HOr : Hid _ := hor
        clear hor
        obtain ⟨a0, a1⟩ := And.intro HS.out.a0 HS.out.a1
        clear hSt hOwn hW4
        go_wp2_with (go_at_call 32; refine hg.mono ?_; rintro e w5 ⟨rfl, hb5⟩; clear a0 a1)
        have HS5 := (HS.out.below hb5).below (below1 w5 (.cells #[.slice a xs.length cap, .int .i64 ((q : Int) + 1)] 45))
        have x0 : (w5.alloc (.cells #[.slice a xs.length cap, .int .i64 ((q : Int) + 1)] 45)).cell? ⟨w5.heap.size, 0, none⟩ = some (.slice a xs.length cap) := by simp [go_sem]
        have x1 : (w5.alloc (.cells #[.slice a xs.length cap, .int .i64 ((q : Int) + 1)] 45)).cell? ⟨w5.heap.size, 1, none⟩ = some (.int .i64 ((q : Int) + 1)) := by simp [go_sem]
        have hW5 : Below w.heap.size w (w5.alloc (.cells #[.slice a xs.length cap, .int .i64 ((q : Int) + 1)] 45)) := (bthen hnx hb5 hnx.size).alloc (by have := hb5.size; have := hnx.size; omega) _
        have HO5 : Hid _ := (HO.out.kept (w' := w5) (row := none) ⟨hb5.os, hb5.tape, hb5.output, hb5.size, fun i hi _ => hb5.block i hi⟩ (by simp)).alloc (.cells #[.slice a xs.length cap, .int .i64 ((q : Int) + 1)] 45)
        have hX : w2.heap.size + 1 < w5.heap.size := by have := HS.out.hA; have := hb5.size; omega
        generalize (w5.alloc (.cells #[.slice a xs.length cap, .int .i64 ((q : Int) + 1)] 45)) = W5 at *
        generalize w5.heap.size = X at *
        have HS6 : Hid _ := HS5
        obtain ⟨r0, r1, s0, s1, t0, t1, a0, a1, b0, b1, c0, c1, d0, d1, hB, hA⟩ := HS5
        clear hg HS HO hb5
        go_region
        rw [HOr.out, show (q : Int) + 1 = ((q + 1 : Nat) : Int) by omega, show (k : Int) + 1 = ((k + 1 : Nat) : Int) by omega]
        have HS7 := HS6.out.step (q + 1) (2 * h + bt) (k + 1)
        have HO7 : Hid _ := own4 HO5.out hMb (.slice a xs.length cap) (.int .i64 ((q + 1 : Nat) : Int)) (.int .u32 ((2 * h + bt : Nat) : Int)) (.int .i64 ((k + 1 : Nat) : Int))
        have hW7 := bel4 hW5 (show w.heap.size ≤ w2.heap.size by omega) (.slice a xs.length cap) (.int .i64 ((q + 1 : Nat) : Int)) (.int .u32 ((2 * h + bt : Nat) : Int)) (.int .i64 ((k + 1 : Nat) : Int))
        clear r0 r1 s0 s1 t0 t1 a0 a1 b0 b1 c0 c1 d0 d1 x0 x1 HS6 HO5 hW5
        generalize ((((W5.setCell ⟨w2.heap.size, 0, none⟩ (.slice a xs.length cap)).setCell ⟨w2.heap.size, 1, none⟩ (.int .i64 ((q + 1 : Nat) : Int))).setCell ⟨w2.heap.size + 1, 0, none⟩ (.int .u32 ((2 * h + bt : Nat) : Int))).setCell ⟨w2.heap.size + 1, 1, none⟩ (.int .i64 ((k + 1 : Nat) : Int))).drew = W7 at *
        have HS8 : Hid _ := HS7
        obtain ⟨r0, r1, s0, s1, t0, t1, a0, a1, b0, b1, c0, c1, d0, d1, hB, hA7⟩ := HS7
        have hkey := key_mk ((2 * h + bt : Nat) : Int) ((k + 1 : Nat) : Int) (wf_u32 _ (by omega)) (wf_i64 _ (by omega))
        have hiff : Hid _ := HT.out.has_ (2 * h + bt) (k + 1) (by omega) (by omega)
        have hatk : Hid (∀ s, s < l.length → 0 < l.getD s 0 → l.getD s 0 = ((k + 1 : Nat) : Int) → cd l s = 2 * h + bt → D.atKey (kk ((2 * h + bt : Nat) : Int) ((k + 1 : Nat) : Int)) (.lit (.int .i64 0)) = .lit (.int .i64 (s : Int))) := fun s s1 s2 s3 s4 => by
          have := HT.out.at_ s s1 s2
          rwa [s3, s4] at this
        cases hhas : Maps.has D (kk ((2 * h + bt : Nat) : Int) ((k + 1 : Nat) : Int)) with
        | true =>
          go_wp2_with (first | (at_lookup; refine wpList_lookup_own_ok_int _ rfl _ _ 63 rfl 66 3 .i64 lawC Try.underlying63 Try.underlying3 (zeroI _) w1.heap.size l.length D rfl HO7.out _ _ rfl hkey ?_; intro c hat hwc; rw [hhas]) | go_in)
          obtain ⟨s, s1', s2', s3', s4'⟩ := hiff.out.1 hhas
          have hc : c = s := by
            have e := hatk.out s s1' s2' s3' s4'
            rw [e] at hat
            simpa using hat.symm
          have hq := HQ.out
          obtain ⟨e1, e2, e3⟩ := rd_found (T := 8 * xs.length) s1' s2' s3' (by rw [s4']; exact HH2.out) (by omega)
          refine bodyPost_ret (v := .tuple #[.agg #[.slice a xs.length cap, .int .i64 ((q : Int) + 1)], .int .i64 c, .int .i64 0]) (by simp [results, Try.results21, go_sem, s0, s1, t0, t1]) rfl ⟨?_, bset2 hW7 _ _ _ _ _ _ (by omega) (by omega)⟩
          rw [e1, e2, e3, hc, show (q : Int) + 1 = (p : Int) + k + 1 by omega]
        | false =>
          go_wp2_with (first | (at_lookup; refine wpList_lookup_own_ok_int _ rfl _ _ 63 rfl 66 3 .i64 lawC Try.underlying63 Try.underlying3 (zeroI _) w1.heap.size l.length D rfl HO7.out _ _ rfl hkey ?_; intro c hat hwc; rw [hhas]) | go_in)
          have hq := HQ.out
          refine ⟨⟨k + 1, 2 * h + bt, q + 1, by omega, by go_num, by omega, HH2, by unfold Hid; omega, ?_, .inr (by omega), HS8, HO7, hW7⟩, by simp [intOf]; omega⟩
          refine NoMt.next HN.out ?_
          intro hex
          rw [← HH2.out] at hex
          have := hiff.out.2 hex
          rw [hhas] at this
          cases this
      · -- the bits end
        have hg := get1_more a cap xs q wr hx hlx (hvx.below hnx) (by omega)
        obtain ⟨a0, a1⟩ := And.intro HS.out.a0 HS.out.a1
        clear hSt hOwn hW4
        go_wp2_with (go_at_call 32; refine hg.mono ?_; rintro e w5 ⟨rfl, hb5⟩; clear a0 a1; obtain ⟨r0, r1, s0, s1, t0, t1, a0, a1, b0, b1, c0, c1, d0, d1, hB, hA⟩ := (HS.out.below hb5).below (below1 w5 (.cells #[.slice a xs.length cap, .int .i64 (q : Int)] 45)))
        have hq := HQ.out
        obtain ⟨e1, e2, e3⟩ := rd_more (V := bv xs) (T := 8 * xs.length) HM.out HR.out (show ((k : Nat) : Int) < M by omega) HN.out (by omega)
        have hsz := hb5.size
        have hne : w.heap.size + 1 ≠ w5.heap.size := by have := HS.out.hA; omega
        have hne2 : w.heap.size ≠ w5.heap.size := by have := HS.out.hA; omega
        refine bodyPost_ret (v := .tuple #[.agg #[.slice a xs.length cap, .int .i64 (p : Int)], .int .i64 0, .int .i64 4]) (by simp [results, Try.results21, go_sem, s0, s1, t0, t1, r0, r1, hne, hne2]) rfl ⟨by rw [e1, e2, e3], ?_⟩
        exact bset2 ((bthen hnx hb5 hnx.size).alloc (by have := hb5.size; have := hnx.size; omega) _) _ _ _ _ _ _ (by omega) (by omega)
    · -- no code was met
      have hkM : k = M := by omega
      subst hkM
      have hfit : p + k ≤ 8 * xs.length := by
        rcases HE.out with h0 | h0
        · omega
        · exact h0
      obtain ⟨e1, e2, e3⟩ := rd_form (V := bv xs) (T := 8 * xs.length) HM.out HR.out rfl HN.out hfit
      have E1 : Hid _ := e1
      have E2 : Hid _ := e2
      have E3 : Hid _ := e3
      obtain ⟨r0, r1, s0, s1, t0, t1, a0, a1, b0, b1, c0, c1, d0, d1, hB, hA⟩ := HS.out
      clear hSt hOwn hW4 e1 e2 e3 hfit
      go_wp2
      refine bodyPost_ret (v := .tuple #[.agg #[.slice a xs.length cap, .int .i64 (p : Int)], .int .i64 0, .int .i64 2]) (by simp [results, Try.results21, go_sem, s0, s1, t0, t1, r0, r1]) rfl ⟨by rw [E1.out, E2.out, E3.out], ?_⟩
      exact bset2 hnx _ _ _ _ _ _ (by omega) (by omega)
end Go.Proofs.Ytnlahpnpajadpaa
