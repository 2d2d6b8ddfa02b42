/- Contracts: the program's line and floor. -/
import Derived.Test.YtgmikllbpaekfaaDoorRd
import Derived.Deep.RegionHeld3
namespace Go.Proofs.YtgmikllbpaekfaaDoor
open Go.RowKit
set_option linter.unusedVariables false
set_option linter.unusedSimpArgs false

theorem fline_no (a : Option Addr) (cap : Nat) (x : List Int) (w : World) (hv : Rw .i64 w (.slice a x.length cap) x) (hn : x.length ≤ 100) (h : flOk x = false) : Calls Tryd.prog 14 #[.slice a x.length cap] w fun e w' => e = .returned (.tuple #[.slice none 0 0, .int .i64 1]) ∧ w' = w := by
  have hr := fun w hv => fright_any a cap x w hv hn
  rw [h] at hr
  go_enter Tryd.func14, Tryd.ntmps14
  go_wp2_with (go_at_call 12; refine (hr _ hv).mono ?_; rintro e w9 ⟨rfl, h9⟩; have h9 := h9.symm; subst h9)
  go_ret2
  exact ⟨rfl, rfl⟩
theorem ffloor_no (a : Option Addr) (cap : Nat) (x : List Int) (w : World) (hv : Rw .i64 w (.slice a x.length cap) x) (hn : x.length ≤ 100) (h : flOk x = false) : Calls Tryd.prog 15 #[.slice a x.length cap] w fun e w' => e = .returned (.tuple #[.slice none 0 0, .int .i64 1]) ∧ w' = w := by
  have hr := fun w hv => fline_no a cap x w hv hn h
  go_enter Tryd.func15, Tryd.ntmps15
  go_wp2_with (go_at_call 14; refine (hr _ hv).mono ?_; rintro e w9 ⟨rfl, h9⟩; have h9 := h9.symm; subst h9)
  go_ret2
  exact ⟨rfl, rfl⟩

theorem grown_of_drew {a b : World} {g : Nat} (h : a.drew.grownBy b (some g)) : a.grownBy b (some g) := ⟨h.os, h.tape, h.output, h.size, h.block⟩
theorem heldR {g : Nat} {wr w' : World} {b o1 o2 k1 k2 : Nat} {x0 x1 y0 y1 : Value} (h : wr.grownBy w' (some g)) (h0 : g ≠ 0) (hb : b ≠ g) (p0 : wr.cell? ⟨0, k1, none⟩ = some x0) (p1 : wr.cell? ⟨0, k2, none⟩ = some x1) (c0 : wr.cell? ⟨b, o1, none⟩ = some y0) (c1 : wr.cell? ⟨b, o2, none⟩ = some y1) :
    w'.cell? ⟨0, k1, none⟩ = some x0 ∧ w'.cell? ⟨0, k2, none⟩ = some x1 ∧ w'.cell? ⟨b, o1, none⟩ = some y0 ∧ w'.cell? ⟨b, o2, none⟩ = some y1 :=
  ⟨h.cell p0 (by simpa using fun e => h0 e.symm), h.cell p1 (by simpa using fun e => h0 e.symm), h.cell c0 (by simpa using hb), h.cell c1 (by simpa using hb)⟩

set_option maxRecDepth 10000 in
set_option maxHeartbeats 1000000 in
theorem fline_ok (a : Option Addr) (cap : Nat) (x : List Int) (w : World) (hw : Wp w) (hv : Rw .i64 w (.slice a x.length cap) x) (h : flOk x = true) : Calls Tryd.prog 14 #[.slice a x.length cap] w fun e w' => ∃ g, e = .returned (.tuple #[.slice (some ⟨g, 0, none⟩) 16 16, .int .i64 0]) ∧ Blk .i64 3 w' g (lnL x) ∧ w.heap.size ≤ g ∧ Below w.heap.size w w' := by
  obtain ⟨i1, hi1, hy0, hy1, hy2⟩ := info_parts info_fint
  obtain ⟨h6, _⟩ := flOk_parts h
  have hr := fun w hv => fright_any a cap x w hv (by rw [h6]; omega)
  rw [h] at hr
  obtain ⟨b, off, rfl, hlt, _⟩ := hv.at 0 (by omega)
  have HC : Hid (∀ i, i < 6 → w.cell? ⟨b, off + i, none⟩ = some (.int .i64 (x.getD i 0))) := fun i hi => by
    obtain ⟨b', off', he, _, h⟩ := hv.at i (by omega)
    simp only [Option.some.injEq, Addr.mk.injEq, and_true] at he
    obtain ⟨rfl, rfl⟩ := he
    exact h
  have HOK := hid h
  have HZ := hid (lnK_zero x)
  have HL := hid (lnK_all x)
  have HW := hid hw
  rw [h6] at hv hr ⊢
  clear h6 h hw
  go_enter Tryd.func14, Tryd.ntmps14
  go_wp2_with (first | (go_at_call 12; refine (hr _ hv).mono ?_; rintro e w9 ⟨rfl, h9⟩; have h9 := h9.symm; subst h9) | (at_make; refine wpList_make_full _ rfl _ _ 22 rfl w.heap.size 3 i1 (.int .i64 0) 1 Tryd.underlying22 hi1 hy0 hy1 .i64 .i64 _ _ 16 rfl rfl (by omega) (by omega) (by rw [hy2]; omega) (by unfold maxLen; omega) (by simp) ?_))
  intro w7 hown7 hgrow7
  have HB7 := hid (grown_of_none hgrow7)
  have HG7 : Hid (Blk .i64 3 w7 w.heap.size (lnK x 0)) := by rw [HZ.out]; exact Blk.made hown7
  clear hown7 hgrow7 hr hv
  go_wp2
  go_loopw [10] (fun p wr => ∃ k : Nat, k ≤ 5 ∧ p = .int .i64 k ∧ Blk .i64 3 wr w.heap.size (lnK x k) ∧ Below w.heap.size w wr) (fun p _ => 5 - (intOf p).toNat)
  case atStart => exact ⟨0, by omega, rfl, HG7.out, HB7.out⟩
  case round =>
    obtain ⟨k, hk, rfl, hbk, hbw⟩ := hrel
    have HBK := hid hbk
    have HBW := hid hbw
    clear hbk hbw HB7 HG7
    by_cases hl : k < 5
    · have HN := hid (lnK_next x hl)
      have hu := at_up hl
      have b0 := flOk_at HOK.out k
      have b1 := flOk_at HOK.out (k + 1)
      have hd := fun w1 h => fdraw_any w.heap.size (flAt k) (flAt (k + 1) - flAt k) (16 - flAt k) (x.getD k 0) (x.getD (k + 1) 0) (lnK x k) w1 h (by rw [lnK, tab_len]; omega) (by omega) (by omega) (by omega) b0.1 b0.2 b1.1 b1.2
      rw [HN.out] at hd
      have c0 := ((bcell HBW.out).1 b (off + k) hlt).trans (HC.out k (by omega))
      have c1 := ((bcell HBW.out).1 b (off + (k + 1)) hlt).trans (HC.out (k + 1) (by omega))
      have p0 := (HW.out.below HBW.out) k (by omega)
      have p1 := (HW.out.below HBW.out) (k + 1) (by omega)
      generalize x.getD k 0 = Y at *
      generalize x.getD (k + 1) 0 = Z at *
      have n0 : w.heap.size ≠ 0 := by have := HW.out.lt; omega
      have n1 : b ≠ w.heap.size := by omega
      have HNX : Hid (∀ w9, wr.drew.grownBy w9 (some w.heap.size) → Below w.heap.size w w9) := fun w9 h9 => below_grown HBW.out (grown_of_drew h9) (Nat.le_refl _)
      have hk5 : k = 0 ∨ k = 1 ∨ k = 2 ∨ k = 3 ∨ k = 4 := by omega
      clear HN hu b0 b1
      rcases hk5 with rfl | rfl | rfl | rfl | rfl
      · simp only [show flAt 0 = 0 by rfl, show flAt 1 = 1 by rfl, show flAt 2 = 2 by rfl, show flAt 3 = 4 by rfl, show flAt 4 = 8 by rfl, show flAt 5 = 15 by rfl, Nat.reduceAdd, Nat.reduceSub] at hd p0 p1 c0 c1
        simp only [show ((0 : Nat) : Int) = 0 from rfl, show ((1 : Nat) : Int) = 1 from rfl, show ((2 : Nat) : Int) = 2 from rfl, show ((3 : Nat) : Int) = 3 from rfl, show ((4 : Nat) : Int) = 4 from rfl, show ((8 : Nat) : Int) = 8 from rfl, show ((15 : Nat) : Int) = 15 from rfl] at p0 p1 ⊢
        try simp only [Nat.add_zero] at c0
        have r1 : IntKind.i64.wrap 1 = 1 := by decide
        go_wp2
        go_region_held3 (fun w' => w'.cell? ⟨0, 0, none⟩ = some (.int .i64 0) ∧ w'.cell? ⟨0, 1, none⟩ = some (.int .i64 1) ∧ w'.cell? ⟨b, off, none⟩ = some (.int .i64 Y) ∧ w'.cell? ⟨b, off + 1, none⟩ = some (.int .i64 Z)) (exact heldR (g := w.heap.size) (by first | exact World.grownBy.refl _ _ | exact grown_drew (World.grownBy.refl _ _) | exact grown_of_drew hg9) n0 n1 p0 p1 c0 c1) (first | (go_at_call 25; refine (hd _ (HBK.out.drew)).mono ?_; rintro e w9 ⟨rfl, h9, hg9⟩))
        go_wp2
        exact ⟨⟨1, by omega, rfl, h9, HNX.out _ hg9⟩, by simp [intOf]⟩
      · simp only [show flAt 0 = 0 by rfl, show flAt 1 = 1 by rfl, show flAt 2 = 2 by rfl, show flAt 3 = 4 by rfl, show flAt 4 = 8 by rfl, show flAt 5 = 15 by rfl, Nat.reduceAdd, Nat.reduceSub] at hd p0 p1 c0 c1
        simp only [show ((0 : Nat) : Int) = 0 from rfl, show ((1 : Nat) : Int) = 1 from rfl, show ((2 : Nat) : Int) = 2 from rfl, show ((3 : Nat) : Int) = 3 from rfl, show ((4 : Nat) : Int) = 4 from rfl, show ((8 : Nat) : Int) = 8 from rfl, show ((15 : Nat) : Int) = 15 from rfl] at p0 p1 ⊢
        try simp only [Nat.add_zero] at c0
        have r1 : IntKind.i64.wrap 2 = 2 := by decide
        go_wp2
        go_region_held3 (fun w' => w'.cell? ⟨0, 1, none⟩ = some (.int .i64 1) ∧ w'.cell? ⟨0, 2, none⟩ = some (.int .i64 2) ∧ w'.cell? ⟨b, off + 1, none⟩ = some (.int .i64 Y) ∧ w'.cell? ⟨b, off + 2, none⟩ = some (.int .i64 Z)) (exact heldR (g := w.heap.size) (by first | exact World.grownBy.refl _ _ | exact grown_drew (World.grownBy.refl _ _) | exact grown_of_drew hg9) n0 n1 p0 p1 c0 c1) (first | (go_at_call 25; refine (hd _ (HBK.out.drew)).mono ?_; rintro e w9 ⟨rfl, h9, hg9⟩))
        go_wp2
        exact ⟨⟨2, by omega, rfl, h9, HNX.out _ hg9⟩, by simp [intOf]⟩
      · simp only [show flAt 0 = 0 by rfl, show flAt 1 = 1 by rfl, show flAt 2 = 2 by rfl, show flAt 3 = 4 by rfl, show flAt 4 = 8 by rfl, show flAt 5 = 15 by rfl, Nat.reduceAdd, Nat.reduceSub] at hd p0 p1 c0 c1
        simp only [show ((0 : Nat) : Int) = 0 from rfl, show ((1 : Nat) : Int) = 1 from rfl, show ((2 : Nat) : Int) = 2 from rfl, show ((3 : Nat) : Int) = 3 from rfl, show ((4 : Nat) : Int) = 4 from rfl, show ((8 : Nat) : Int) = 8 from rfl, show ((15 : Nat) : Int) = 15 from rfl] at p0 p1 ⊢
        try simp only [Nat.add_zero] at c0
        have r1 : IntKind.i64.wrap 3 = 3 := by decide
        go_wp2
        go_region_held3 (fun w' => w'.cell? ⟨0, 2, none⟩ = some (.int .i64 2) ∧ w'.cell? ⟨0, 3, none⟩ = some (.int .i64 4) ∧ w'.cell? ⟨b, off + 2, none⟩ = some (.int .i64 Y) ∧ w'.cell? ⟨b, off + 3, none⟩ = some (.int .i64 Z)) (exact heldR (g := w.heap.size) (by first | exact World.grownBy.refl _ _ | exact grown_drew (World.grownBy.refl _ _) | exact grown_of_drew hg9) n0 n1 p0 p1 c0 c1) (first | (go_at_call 25; refine (hd _ (HBK.out.drew)).mono ?_; rintro e w9 ⟨rfl, h9, hg9⟩))
        go_wp2
        exact ⟨⟨3, by omega, rfl, h9, HNX.out _ hg9⟩, by simp [intOf]⟩
      · simp only [show flAt 0 = 0 by rfl, show flAt 1 = 1 by rfl, show flAt 2 = 2 by rfl, show flAt 3 = 4 by rfl, show flAt 4 = 8 by rfl, show flAt 5 = 15 by rfl, Nat.reduceAdd, Nat.reduceSub] at hd p0 p1 c0 c1
        simp only [show ((0 : Nat) : Int) = 0 from rfl, show ((1 : Nat) : Int) = 1 from rfl, show ((2 : Nat) : Int) = 2 from rfl, show ((3 : Nat) : Int) = 3 from rfl, show ((4 : Nat) : Int) = 4 from rfl, show ((8 : Nat) : Int) = 8 from rfl, show ((15 : Nat) : Int) = 15 from rfl] at p0 p1 ⊢
        try simp only [Nat.add_zero] at c0
        have r1 : IntKind.i64.wrap 4 = 4 := by decide
        go_wp2
        go_region_held3 (fun w' => w'.cell? ⟨0, 3, none⟩ = some (.int .i64 4) ∧ w'.cell? ⟨0, 4, none⟩ = some (.int .i64 8) ∧ w'.cell? ⟨b, off + 3, none⟩ = some (.int .i64 Y) ∧ w'.cell? ⟨b, off + 4, none⟩ = some (.int .i64 Z)) (exact heldR (g := w.heap.size) (by first | exact World.grownBy.refl _ _ | exact grown_drew (World.grownBy.refl _ _) | exact grown_of_drew hg9) n0 n1 p0 p1 c0 c1) (first | (go_at_call 25; refine (hd _ (HBK.out.drew)).mono ?_; rintro e w9 ⟨rfl, h9, hg9⟩))
        go_wp2
        exact ⟨⟨4, by omega, rfl, h9, HNX.out _ hg9⟩, by simp [intOf]⟩
      · simp only [show flAt 0 = 0 by rfl, show flAt 1 = 1 by rfl, show flAt 2 = 2 by rfl, show flAt 3 = 4 by rfl, show flAt 4 = 8 by rfl, show flAt 5 = 15 by rfl, Nat.reduceAdd, Nat.reduceSub] at hd p0 p1 c0 c1
        simp only [show ((0 : Nat) : Int) = 0 from rfl, show ((1 : Nat) : Int) = 1 from rfl, show ((2 : Nat) : Int) = 2 from rfl, show ((3 : Nat) : Int) = 3 from rfl, show ((4 : Nat) : Int) = 4 from rfl, show ((8 : Nat) : Int) = 8 from rfl, show ((15 : Nat) : Int) = 15 from rfl] at p0 p1 ⊢
        try simp only [Nat.add_zero] at c0
        have r1 : IntKind.i64.wrap 5 = 5 := by decide
        go_wp2
        go_region_held3 (fun w' => w'.cell? ⟨0, 4, none⟩ = some (.int .i64 8) ∧ w'.cell? ⟨0, 5, none⟩ = some (.int .i64 15) ∧ w'.cell? ⟨b, off + 4, none⟩ = some (.int .i64 Y) ∧ w'.cell? ⟨b, off + 5, none⟩ = some (.int .i64 Z)) (exact heldR (g := w.heap.size) (by first | exact World.grownBy.refl _ _ | exact grown_drew (World.grownBy.refl _ _) | exact grown_of_drew hg9) n0 n1 p0 p1 c0 c1) (first | (go_at_call 25; refine (hd _ (HBK.out.drew)).mono ?_; rintro e w9 ⟨rfl, h9, hg9⟩))
        go_wp2
        exact ⟨⟨5, by omega, rfl, h9, HNX.out _ hg9⟩, by simp [intOf]⟩
    · obtain rfl : k = 5 := by omega
      have c5 := ((bcell HBW.out).1 b (off + 5) hlt).trans (HC.out 5 (by omega))
      have p5 := (HW.out.below HBW.out) 5 (by omega)
      simp only [show flAt 5 = 15 by rfl] at p5
      have hln : 15 < (lnK x 5).length := by rw [lnK, tab_len]; omega
      have q1 := HBK.out.cell 15 hln
      have q2 := HBK.out.free 15 hln
      have HP : Hid (Blk .i64 3 (wr.setCell ⟨w.heap.size, 15, none⟩ (.int .i64 (x.getD 5 0))) w.heap.size (lnL x)) := by
        unfold Hid
        rw [← HL.out]
        exact HBK.out.set 15 _
      generalize x.getD 5 0 = Y at *
      generalize (lnK x 5).getD 15 0 = v0 at *
      simp only [show ((5 : Nat) : Int) = 5 from rfl, show ((15 : Nat) : Int) = 15 from rfl] at p5 ⊢
      clear hln
      go_wp2
      go_region
      all_goals go_wp2
      all_goals go_ret2
      all_goals exact ⟨_, rfl, HP.out.drew, Nat.le_refl _, (bset1 HBW.out _ _ _ (Nat.le_refl _)).drew⟩

def flK (x : List Int) (k : Nat) : List Int := tab 16 fun i => if i < k then flFl x i else 0
theorem flK_zero (x : List Int) : (tab 16 fun _ => 0) = flK x 0 := tab_congr fun j hj => by rw [if_neg (by omega)]
theorem flK_all (x : List Int) : flK x 16 = flL x := tab_congr fun j hj => by rw [if_pos (by omega)]
theorem flK_next (x : List Int) (k : Nat) (h : k < 16) : (flK x k).set k (flFl x k) = flK x (k + 1) := by
  unfold flK
  rw [tab_set _ _ _ _ h]
  refine tab_congr fun j hj => ?_
  by_cases e : j = k
  · subst e; rw [if_pos rfl, if_pos (by omega)]
  · rw [if_neg e]
    by_cases c : j < k
    · rw [if_pos c, if_pos (by omega)]
    · rw [if_neg c, if_neg (by omega)]

set_option maxRecDepth 10000 in
set_option maxHeartbeats 2000000 in
theorem ffloor_ok (a : Option Addr) (cap : Nat) (x : List Int) (w : World) (hw : Wp w) (hv : Rw .i64 w (.slice a x.length cap) x) (h : flOk x = true) : Calls Tryd.prog 15 #[.slice a x.length cap] w fun e w' => ∃ g, e = .returned (.tuple #[.slice (some ⟨g, 0, none⟩) 16 16, .int .i64 0]) ∧ Blk .i64 2 w' g (flL x) ∧ w.heap.size ≤ g ∧ Below w.heap.size w w' := by
  obtain ⟨i1, hi1, hy0, hy1, hy2⟩ := info_parts info_fi64
  have hli := fline_ok a cap x w hw hv h
  have HV : Hid (∀ i, flFl x i = if vlI (flLn x i) < 1 then 1 else vlI (flLn x i)) := fun i => rfl
  have HN := hid (flK_next x)
  have HZ := hid (flK_zero x)
  have HL := hid (flK_all x)
  have HX : Hid (∀ i, i < 16 → (lnL x).getD i 0 = flLn x i) := fun i hi => ln_at x i hi
  have HXL : Hid ((lnL x).length = 16) := tab_len _ _
  clear hw h
  generalize x.length = n at *
  go_enter Tryd.func15, Tryd.ntmps15
  go_wp2_with (first | (go_at_call 14; refine hli.mono ?_; rintro e W1 ⟨g, rfl, hbl, hgg, hb1⟩; have HB1 := hid hb1; have HBL := hid hbl; clear hbl hb1 hv hli) | (at_make; refine wpList_make_full _ rfl _ _ 30 rfl W1.heap.size 2 i1 (.int .i64 0) 1 Tryd.underlying30 hi1 hy0 hy1 .i64 .i64 _ _ 16 rfl rfl (by omega) (by omega) (by rw [hy2]; omega) (by unfold maxLen; omega) (by simp) ?_))
  intro w7 hown7 hgrow7
  have HB7 := hid (grown_of_none hgrow7)
  have HG7 : Hid (Blk .i64 2 w7 W1.heap.size (flK x 0)) := by rw [← HZ.out]; exact Blk.made hown7
  clear hown7 hgrow7
  go_wp2
  go_loopw [22] (fun p wr => ∃ k : Nat, k ≤ 16 ∧ p = .int .i64 k ∧ Blk .i64 2 wr W1.heap.size (flK x k) ∧ Below W1.heap.size W1 wr) (fun p _ => 16 - (intOf p).toNat)
  case atStart => exact ⟨0, by omega, rfl, HG7.out, HB7.out⟩
  case round =>
    obtain ⟨k, hk, rfl, hbk, hbw⟩ := hrel
    have HBK := hid hbk
    have HBW := hid hbw
    clear hbk hbw HB7 HG7
    by_cases hl : k < 16
    · have hln : k < (flK x k).length := by rw [flK, tab_len]; exact hl
      have q1 := HBK.out.cell k hln
      have q2 := HBK.out.free k hln
      have c1 := ((bcell HBW.out).1 g k HBL.out.lt).trans (HBL.out.cell k (by rw [HXL.out]; exact hl))
      rw [HX.out k hl] at c1
      have hva := fun w => value_any (flLn x k) w
      have hvb := vlI_bd (flLn x k)
      have HVk := hid (HV.out k)
      have HP : Hid (∀ T, flFl x k = T → Blk .i64 2 (wr.setCell ⟨W1.heap.size, k, none⟩ (.int .i64 T)) W1.heap.size (flK x (k + 1))) := fun T hT => by
        rw [← HN.out k hl, hT]
        exact HBK.out.set k T
      generalize flLn x k = L at *
      generalize vlI L = V at *
      have b1 := hvb.1
      have b2 := hvb.2
      generalize (flK x k).getD k 0 = v0 at *
      have k1 : (k : Int) < 16 := by omega
      clear hln hvb
      by_cases c : V < 1
      · have HP2 := hid (HP.out 1 (by rw [HVk.out, if_pos c]))
        clear HVk HP
        go_wp2_with (go_at_call 26; refine (hva _).mono ?_; rintro e w9 ⟨rfl, h9⟩; have h9 := h9.symm; subst h9)
        exact ⟨⟨k + 1, by omega, by go_num, HP2.out, bset1 HBW.out _ _ _ (Nat.le_refl _)⟩, by simp [intOf]; omega⟩
      · have HP2 := hid (HP.out V (by rw [HVk.out, if_neg c]))
        have c2 : 1 ≤ V := by omega
        clear HVk HP
        go_wp2_with (go_at_call 26; refine (hva _).mono ?_; rintro e w9 ⟨rfl, h9⟩; have h9 := h9.symm; subst h9)
        exact ⟨⟨k + 1, by omega, by go_num, HP2.out, bset1 HBW.out _ _ _ (Nat.le_refl _)⟩, by simp [intOf]; omega⟩
    · have hke : k = 16 := by omega
      have R : Hid (Blk .i64 2 wr W1.heap.size (flL x)) := by
        have h := HBK.out
        rw [hke, HL.out] at h
        exact h
      have HBB := hid (bthen' HB1.out HBW.out)
      have HSZ : Hid (w.heap.size ≤ W1.heap.size) := HB1.out.size
      have k1 : ¬ (k : Int) < 16 := by omega
      clear hke HBK
      go_wp2
      go_ret2
      exact ⟨_, rfl, R.out, HSZ.out, HBB.out⟩
end Go.Proofs.YtgmikllbpaekfaaDoor
