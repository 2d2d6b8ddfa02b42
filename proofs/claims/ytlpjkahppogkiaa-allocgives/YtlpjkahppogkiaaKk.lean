/- Contracts: lists of lists that are the same, the examples at the end of all statements. -/
import Derived.Test.YtlpjkahppogkiaaKj
namespace Go.Proofs.Ytlpjkahppogkiaa
open Go.RowKit
set_option linter.unusedVariables false
set_option linter.unusedSimpArgs false

set_option maxHeartbeats 2000000 in
theorem sameG_yes (k1 k2 : Bool) (v1 v2 : Value) (L : List (List Int)) (w : World) (h1 : Fr k1 w v1 L) (h2 : Fr k2 w v2 L) (hl : L.length ≤ 500) (hr : ∀ i, i < L.length → (L.getD i []).length ≤ 100) : Calls Try.prog 17 #[v1, v2] w fun e w' => e = .returned (.bool true) ∧ Below w.heap.size w w' := by
  obtain ⟨a1, c1, rfl, ha1⟩ := id h1
  obtain ⟨a2, c2, rfl, ha2⟩ := id h2
  obtain ⟨n, hn⟩ : ∃ n, L.length = n := ⟨_, rfl⟩
  rw [hn] at h1 h2 hl hr ⊢
  have H1 := hid h1
  have H2 := hid h2
  have HR := hid hr
  clear hn ha1 ha2 h1 h2 hr
  go_enter Try.func17, Try.ntmps17
  go_wp2
  go_loopw [5] (fun i wr => ∃ k : Nat, k ≤ n ∧ i = .int .i64 k ∧ Hid (Below w.heap.size w wr)) (fun i _ => n - (intOf i).toNat)
  case atStart => exact ⟨0, by omega, rfl, Below.refl _ _⟩
  case round =>
    obtain ⟨k, hk, rfl, HNX⟩ := hrel
    by_cases hlt : k < n
    · obtain ⟨b1, o1, rfl, hb1, r1, rc1, g1, _, w1⟩ := H1.out.at k hlt
      obtain ⟨b2, o2, rfl, hb2, r2, rc2, g2, _, w2⟩ := H2.out.at k hlt
      have hm := HR.out k hlt
      have hs := fun w' (h : Below w.heap.size w w') => same_yes _ _ _ w' (w1.below h) (w2.below h) hm
      have hK : ∀ w', Below w.heap.size w w' → w'.cell? ⟨b1, o1 + k, none⟩ = some (.slice r1 (L.getD k []).length rc1) ∧ w'.cell? ⟨b2, o2 + k, none⟩ = some (.slice r2 (L.getD k []).length rc2) := fun w' h => ⟨((bcell h).1 _ _ hb1).trans g1, ((bcell h).1 _ _ hb2).trans g2⟩
      have i1 : (0 : Int) ≤ (k : Int) := by omega
      have i2 : (k : Int) < (n : Int) := by omega
      have i3 : IntKind.i64.wrap (k : Int) = k := wraps_i64 _ (by omega) (by omega)
      clear w1 w2 g1 g2
      generalize (L.getD k []).length = m at *
      go_wp2
      go_region_held3 (fun w' => w'.cell? ⟨b1, o1 + k, none⟩ = some (.slice r1 m rc1) ∧ w'.cell? ⟨b2, o2 + k, none⟩ = some (.slice r2 m rc2)) (first | exact hK _ hyw | exact hK _ HNX.out.drew | exact hK _ HNX.out) (first | (go_at_call 22; refine (hs _ (by first | exact HNX.out.drew | exact HNX.out)).mono ?_; rintro e y1 ⟨rfl, e1⟩; have hy1 : Below wr.heap.size wr y1 := (by first | exact drew_below e1 | exact e1); have hyw := bthen' HNX.out hy1))
      go_wp2
      exact ⟨⟨k + 1, by omega, by go_num, hyw⟩, by simp [intOf]; omega⟩
    · go_wp2
      go_ret
      exact ⟨rfl, HNX.out⟩

/-- One list of five numbers, in a list. -/
theorem gr1 (w : World) (x y z u v : Int) (t1 t2 : TypeId) : Fr true ((w.alloc (.cells #[.int .i64 x, .int .i64 y, .int .i64 z, .int .i64 u, .int .i64 v] t1)).alloc (.cells #[.slice (some ⟨w.heap.size, 0, none⟩) 5 5] t2)) (.slice (some ⟨w.heap.size + 1, 0, none⟩) 1 1) [[x, y, z, u, v]] := by
  refine ⟨_, 1, rfl, .inr ⟨w.heap.size + 1, 0, rfl, by simp, fun i hi => ?_⟩⟩
  have hi : i = 0 := by simpa using hi
  subst hi
  refine ⟨.slice (some ⟨w.heap.size, 0, none⟩) 5 5, by simp [go_sem], ?_⟩
  have h := (lit5 w x y z u v t1).rw (n := 5) (c := 5) rfl
  exact (Rx.of (xs := [x, y, z, u, v]) (c := 5) h (Nat.le_refl _)).below (below1 _ _)
theorem e_r1 : rtB 11 1 = true := by decide
theorem e_r2 : rtB 17 2 = true := by decide
theorem e_r3 : rtB 16 2 = false := by decide
theorem e_m1 : rmI 11 1 = 2 := by decide
theorem e_l1 : (List.range 1).map (pul 2 [[9, 0, 0, 0, 0]]) = [[1, 0, 0, 0, 0]] := by
  show [pul 2 [[9, 0, 0, 0, 0]] 0] = _
  unfold pul
  rw [show ([[9, 0, 0, 0, 0]] : List (List Int)).getD 0 [] = [9, 0, 0, 0, 0] from rfl, e_k1]
theorem e_l2 : (List.range 1).map (pul 2 [[0, 0, 9, 0, 0]]) = [[0, 0, 1, 0, 0]] := by
  show [pul 2 [[0, 0, 9, 0, 0]] 0] = _
  unfold pul
  rw [show ([[0, 0, 9, 0, 0]] : List (List Int)).getD 0 [] = [0, 0, 9, 0, 0] from rfl, e_k2]
theorem k1 (w : World) : Calls Try.prog 15 #[.int .i64 11, .int .i64 1, .slice (some ⟨w.heap.size + 1, 0, none⟩) 1 1] ((w.alloc (.cells #[.int .i64 9, .int .i64 0, .int .i64 0, .int .i64 0, .int .i64 0] 3)).alloc (.cells #[.slice (some ⟨w.heap.size, 0, none⟩) 5 5] 34)) fun e w' => ∃ G, e = .returned (.tuple #[.slice (some ⟨G, 0, none⟩) 1 1, .int .i64 0]) ∧ Fr true w' (.slice (some ⟨G, 0, none⟩) 1 1) [[1, 0, 0, 0, 0]] ∧ Below w.heap.size w w' := by
  refine Calls.mono (pulses_ok 11 1 _ 1 [[9, 0, 0, 0, 0]] _ (gr1 w 9 0 0 0 0 _ _) e_r1 (by decide)) ?_
  rintro e w' ⟨G, rfl, h, hB⟩
  have e1 : rmI 11 ((1 : Nat) : Int) = 2 := e_m1
  rw [e1, e_l1] at h
  exact ⟨G, rfl, h, bthen' (below2 _ _ _) hB⟩
theorem k2 (w : World) : Calls Try.prog 15 #[.int .i64 11, .int .i64 1, .slice (some ⟨w.heap.size + 1, 0, none⟩) 1 1] ((w.alloc (.cells #[.int .i64 0, .int .i64 0, .int .i64 9, .int .i64 0, .int .i64 0] 3)).alloc (.cells #[.slice (some ⟨w.heap.size, 0, none⟩) 5 5] 34)) fun e w' => ∃ G, e = .returned (.tuple #[.slice (some ⟨G, 0, none⟩) 1 1, .int .i64 0]) ∧ Fr true w' (.slice (some ⟨G, 0, none⟩) 1 1) [[0, 0, 1, 0, 0]] ∧ Below w.heap.size w w' := by
  refine Calls.mono (pulses_ok 11 1 _ 1 [[0, 0, 9, 0, 0]] _ (gr1 w 0 0 9 0 0 _ _) e_r1 (by decide)) ?_
  rintro e w' ⟨G, rfl, h, hB⟩
  have e1 : rmI 11 ((1 : Nat) : Int) = 2 := e_m1
  rw [e1, e_l2] at h
  exact ⟨G, rfl, h, bthen' (below2 _ _ _) hB⟩
theorem s1 (w : World) (G : Nat) (x y z u v : Int) (h : Fr true w (.slice (some ⟨G, 0, none⟩) 1 1) [[x, y, z, u, v]]) : Calls Try.prog 17 #[.slice (some ⟨G, 0, none⟩) 1 1, .slice (some ⟨w.heap.size + 1, 0, none⟩) 1 1] ((w.alloc (.cells #[.int .i64 x, .int .i64 y, .int .i64 z, .int .i64 u, .int .i64 v] 3)).alloc (.cells #[.slice (some ⟨w.heap.size, 0, none⟩) 5 5] 34)) fun e w' => e = .returned (.bool true) ∧ Below w.heap.size w w' := by
  refine Calls.mono (sameG_yes true true _ _ _ _ (h.below (below2 _ _ _)) (gr1 w x y z u v _ _) (by simp) (fun i hi => by have hi : i = 0 := (by simpa using hi); subst hi; simp)) ?_
  rintro e w' ⟨rfl, hB⟩
  exact ⟨rfl, bthen' (below2 _ _ _) hB⟩

set_option maxHeartbeats 1000000 in
theorem knows_any (w : World) : Calls Try.prog 13 #[] w fun e w' => e = .returned (.bool true) ∧ Below w.heap.size w w' := by
  have hro := fun w => room_any 11 1 w
  rw [e_m1] at hro
  have h17 := fun w => aright_any 17 2 w
  have h16 := fun w => aright_any 16 2 w
  rw [e_r2] at h17
  rw [e_r3] at h16
  have q1 := k1 w
  go_enter Try.func13, Try.ntmps13
  go_upto_region 2 with (go_at_call 15; refine q1.mono ?_; rintro e w1 ⟨G1, rfl, hr1, hb1⟩)
  have q2 := k2 w1
  go_upto_region 3 with (go_at_call 15; refine q2.mono ?_; rintro e w2 ⟨G2, rfl, hr2, hb2⟩)
  have q3 := s1 w2 G1 1 0 0 0 0 (hr1.below hb2)
  go_wp2_with (first | (go_at_call 11; refine (hro _).mono ?_; rintro e w9 ⟨rfl, h9⟩; have h9 := h9.symm; subst h9) | (go_at_call_of 17 (Value.slice (some ⟨G1, 0, none⟩) 1 1); refine q3.mono ?_; rintro e w3 ⟨rfl, hb3⟩; have q4 := s1 w3 G2 0 0 1 0 0 (hr2.below hb3)) | (go_at_call_of 17 (Value.slice (some ⟨G2, 0, none⟩) 1 1); refine q4.mono ?_; rintro e w4 ⟨rfl, hb4⟩) | (go_at_call_of 9 (Value.int .i64 17); refine (h17 _).mono ?_; rintro e w9 ⟨rfl, h9⟩; have h9 := h9.symm; subst h9) | (go_at_call_of 9 (Value.int .i64 16); refine (h16 _).mono ?_; rintro e w9 ⟨rfl, h9⟩; have h9 := h9.symm; subst h9))
  go_ret
  exact ⟨rfl, bthen' (bthen' hb1 hb2) (bthen' hb3 hb4)⟩
/-- The rows that are told have five numbers each. -/
theorem pul_rows (c : Nat) (room : Int) (L : List (List Int)) (i : Nat) (hi : i < ((List.range c).map (pul room L)).length) : (((List.range c).map (pul room L)).getD i []).length ≤ 100 := by
  have hi : i < c := by simpa using hi
  rw [List.getD_eq_getElem?_getD]
  simp [hi, pul, pls_len]
theorem pul_at (c : Nat) (room : Int) (L : List (List Int)) (i : Nat) (hi : i < c) : ((List.range c).map (pul room L)).getD i [] = pls (chan (L.getD i []) room) := by
  rw [List.getD_eq_getElem?_getD]
  simp [hi, pul]
end Go.Proofs.Ytlpjkahppogkiaa
