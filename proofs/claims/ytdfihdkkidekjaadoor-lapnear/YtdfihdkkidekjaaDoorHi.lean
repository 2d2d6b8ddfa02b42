/- Contracts: slices of slices that are the same; wide. -/
import Derived.Test.YtdfihdkkidekjaaDoorHf
namespace Go.Proofs.YtdfihdkkidekjaaDoor
open Go.RowKit
set_option linter.unusedVariables false
set_option linter.unusedSimpArgs false

set_option maxHeartbeats 4000000 in
theorem sameFrames_yes (k1 k2 : Bool) (v1 v2 : Value) (L : List (List Int)) (w : World) (h1 : Fr k1 w v1 L) (h2 : Fr k2 w v2 L) (hl : L.length ≤ 500) (hr : ∀ i, (L.getD i []).length ≤ 200) :
    Calls Tryd.prog 21 #[v1, v2] w fun e w' => e = .returned (.bool true) ∧ Below w.heap.size w w' := by
  obtain ⟨a1, c1, rfl, ha1⟩ := id h1
  obtain ⟨a2, c2, rfl, ha2⟩ := id h2
  obtain ⟨n, hn⟩ : ∃ n, L.length = n := ⟨_, rfl⟩
  rw [hn] at h1 h2 hl ⊢
  have H1 := hid h1
  have H2 := hid h2
  have HR := hid hr
  clear hn ha1 ha2 h1 h2 hr
  go_enter Tryd.func21, Tryd.ntmps21
  go_wp2
  go_loopw [5] (fun i wr => ∃ k : Nat, k ≤ n ∧ i = .int .i64 k ∧ Below w.heap.size w wr) (fun i _ => n - (intOf i).toNat)
  case atStart => exact ⟨0, by omega, rfl, Below.refl _ _⟩
  case round =>
    obtain ⟨k, hk, rfl, hnx⟩ := hrel
    have HNX := hid hnx
    clear hnx
    by_cases hlt : k < n
    · obtain ⟨b1, o1, rfl, hb1, r1, rc1, g1, _, w1⟩ := H1.out.at k hlt
      obtain ⟨b2, o2, rfl, hb2, r2, rc2, g2, _, w2⟩ := H2.out.at k hlt
      have g1 := ((bcell HNX.out).1 _ _ hb1).trans g1
      have g2 := ((bcell HNX.out).1 _ _ hb2).trans g2
      have hm := HR.out k
      have HW1 := hid (w1.below HNX.out)
      have HW2 := hid (w2.below HNX.out)
      have i1 : (0 : Int) ≤ (k : Int) := by omega
      have i2 : (k : Int) < (n : Int) := by omega
      have i3 : IntKind.i64.wrap (k : Int) = k := wraps_i64 _ (by omega) (by omega)
      clear w1 w2
      generalize L.getD k [] = y at *
      obtain ⟨m, hym⟩ : ∃ m, y.length = m := ⟨_, rfl⟩
      rw [hym] at g1 g2 hm HW1 HW2
      have HY : Hid (0 < m → y ≠ []) := fun h e => by rw [e] at hym; simp at hym; omega
      clear hym
      go_wp2
      go_quiet (fail)
      have g1 := ((bcell (drewN_below (Below.refl wr.heap.size wr) nq)).1 _ _ (block_of_cell g1)).trans g1
      have g2 := ((bcell (drewN_below (Below.refl wr.heap.size wr) nq)).1 _ _ (block_of_cell g2)).trans g2
      have HW1 := hid (HW1.out.below (drewN_below (Below.refl wr.heap.size wr) nq))
      have HW2 := hid (HW2.out.below (drewN_below (Below.refl wr.heap.size wr) nq))
      have HNX := hid (drewN_below HNX.out nq)
      generalize wr.drewN nq = W at *
      go_wp2
      go_loopw [6] (fun i wr => ∃ q : Nat, q ≤ m ∧ i = .int .i64 q ∧ Below W.heap.size W wr) (fun i _ => m - (intOf i).toNat)
      case atStart => exact ⟨0, by omega, rfl, Below.refl _ _⟩
      case round =>
        obtain ⟨q, hq, rfl, hny⟩ := hrel
        have HNY := hid hny
        have f1 := ((bcell hny).1 _ _ (block_of_cell g1)).trans g1
        have f2 := ((bcell hny).1 _ _ (block_of_cell g2)).trans g2
        clear hny
        by_cases hlt2 : q < m
        · obtain ⟨_, _, e1, a1⟩ := HW1.out
          obtain ⟨_, _, e2, a2⟩ := HW2.out
          simp only [Value.slice.injEq] at e1 e2
          obtain ⟨rfl, e1, rfl⟩ := e1
          obtain ⟨rfl, e2, rfl⟩ := e2
          obtain ⟨d1, s1, rfl, l1, c1⟩ := a1.resolve_left (HY.out (by omega))
          obtain ⟨d2, s2, rfl, l2, c2⟩ := a2.resolve_left (HY.out (by omega))
          have f3 := ((bcell HNY.out).1 _ _ l1).trans (c1 q (by omega))
          have f4 := ((bcell HNY.out).1 _ _ l2).trans (c2 q (by omega))
          have j1 : (0 : Int) ≤ (q : Int) := by omega
          have j2 : (q : Int) < (m : Int) := by omega
          have j3 : IntKind.i64.wrap (q : Int) = q := wraps_i64 _ (by omega) (by omega)
          generalize y.getD q 0 = z at *
          clear e1 e2 c1 c2 a1 a2 g1 g2
          go_wp2
          go_quiet (fail)
          go_wp2
          exact ⟨⟨q + 1, by omega, by go_num, drewN_below HNY.out _⟩, by simp [intOf]; omega⟩
        · have HB := hid (bthen' HNX.out HNY.out)
          go_wp2
          exact ⟨⟨k + 1, by omega, by go_num, HB.out⟩, by simp [intOf]; omega⟩
    · go_wp2
      go_ret
      exact ⟨rfl, HNX.out⟩
end Go.Proofs.YtdfihdkkidekjaaDoor
