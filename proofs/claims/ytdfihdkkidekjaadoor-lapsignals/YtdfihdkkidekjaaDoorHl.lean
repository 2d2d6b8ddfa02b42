/- Slices of slices that came in; more frames than are looked at; what the laid table gives; the examples at the end of all statements. -/
import Derived.Test.YtdfihdkkidekjaaDoorHh
import Derived.Test.YtdfihdkkidekjaaDoorHi
import Derived.Test.YtdfihdkkidekjaaDoorHk
import Derived.Deep.Matrix
import Derived.Lib.LaidTab
import Derived.MakeChecks
namespace Go.Proofs.YtdfihdkkidekjaaDoor
open Go.RowKit
set_option linter.unusedVariables false
set_option linter.unusedSimpArgs false

/-- A slice of slices of integers, as a reading met it. -/
def IsGrid (w : World) (a : Option Addr) (len cap : Nat) (L : List (List Int)) : Prop := Fr true w (.slice a len cap) L ∧ (∀ i, Fits (L.getD i [])) ∧ len ≤ 9223372036854775807
theorem IsGrid.len {w : World} {a : Option Addr} {len cap : Nat} {L : List (List Int)} (h : IsGrid w a len cap L) : L.length = len := by
  obtain ⟨⟨_, _, he, _⟩, _⟩ := h
  simp only [Value.slice.injEq] at he
  exact he.2.1.symm
theorem fits_nil : Fits [] := fun j => by simp
theorem grid_of_trod {H : Type} {enc : TypeId × Value → H} {P : Program} {w : World} {t e q : TypeId} {fuel : Nat} {a : Option Addr} {len cap : Nat} {x : DataW H × List MemPlace} (ht : P.underlying t = some (.slice e)) (he : P.underlying e = some (.slice q)) (hq : P.underlying q = some (.int .i64))
    (ce : P.cellsOf e = 1) (cq : P.cellsOf q = 1) (h : DataW.trod enc P w 0 (fun _ => true) true fuel t [.slice a len cap] = some x) : ∃ L, IsGrid w a len cap L := by
  rcases Deep.open_int_rows ht he hq ce cq h with ⟨hcs, _⟩ | ⟨ad, l, c, A, LL, C, Z, hcs, _, hl, hm, _, hall⟩
  · simp only [List.cons.injEq, and_true, Value.slice.injEq] at hcs
    obtain ⟨rfl, rfl, rfl⟩ := hcs
    exact ⟨[], ⟨none, 0, rfl, .inl rfl⟩, fun i => by simpa using fits_nil, by omega⟩
  · simp only [List.cons.injEq, and_true, Value.slice.injEq] at hcs
    obtain ⟨rfl, rfl, rfl⟩ := hcs
    have hgd : ∀ i, i < len → ((List.range len).map fun r => (Z r).take (LL r)).getD i [] = (Z i).take (LL i) := fun i hi => by simp [List.getD_eq_getElem?_getD, hi]
    refine ⟨(List.range len).map fun r => (Z r).take (LL r), ⟨some ad, cap, by simp, ?_⟩, fun i => ?_, by unfold maxLen at hm; omega⟩
    · by_cases h0 : len = 0
      · left; subst h0; rfl
      · right
        obtain ⟨b, off, spot⟩ := ad
        have hc := (hall 0 (by omega)).1
        have hspot : spot = none := by simpa [Addr.add] using World.cell?_spot hc
        subst hspot
        refine ⟨b, off, rfl, World.block_lt_of_cell? w _ hc, fun i hi => ?_⟩
        have hi : i < len := by simpa using hi
        obtain ⟨h1, h2, h3, h4, h5, h6, h7⟩ := hall i (by omega)
        rw [Addr.add_lit] at h1
        rw [hgd i hi]
        have hzl : ((Z i).take (LL i)).length = LL i := by rw [List.length_take]; omega
        refine ⟨_, h1, A i, C i, by rw [hzl], fun _ => by rw [hzl]; exact h2, ?_⟩
        by_cases h00 : LL i = 0
        · left; rw [h00]; simp
        · right
          cases hA : A i with
          | none => have := h6 hA; omega
          | some a' =>
            obtain ⟨_, h8⟩ := h7 a' hA
            obtain ⟨b', off', spot'⟩ := a'
            have hc' := h8 0 (by omega)
            have hspot' : spot' = none := by simpa [Addr.add] using World.cell?_spot hc'
            subst hspot'
            refine ⟨b', off', rfl, by simp, World.block_lt_of_cell? w _ hc', fun j hj => ?_⟩
            rw [hzl] at hj
            have := h8 j (by omega)
            rw [Addr.add_lit] at this
            rw [getD_take _ _ _ hj]
            exact this
    · by_cases hi : i < len
      · rw [hgd i hi]
        obtain ⟨_, _, _, _, h5, _⟩ := hall i (by omega)
        exact fits_of fun y hy => h5 y (List.mem_of_mem_take hy)
      · rw [List.getD_eq_getElem?_getD, List.getElem?_eq_none (by simp; omega)]
        exact fits_nil

/-- Is it more than is looked at? -/
def isWide (L : List (List Int)) : Bool := decide (¬ (L.length ≤ 30 ∧ ∀ i, i < L.length → (L.getD i []).length ≤ 200))
theorem isWide_at {L : List (List Int)} {i : Nat} (hi : i < L.length) (h : 200 < (L.getD i []).length) : isWide L = true := decide_eq_true fun hh => by have := hh.2 i hi; omega
theorem isWide_all {L : List (List Int)} (h : ∀ i, i < L.length → (L.getD i []).length ≤ 200) : isWide L = decide (30 < L.length) := by
  unfold isWide
  refine decide_eq_decide.2 ⟨fun h1 => ?_, fun h1 h2 => by omega⟩
  rcases Nat.lt_or_ge 30 L.length with q | q
  · exact q
  · exact absurd ⟨q, h⟩ h1
theorem isWide_no {L : List (List Int)} (h : isWide L = false) : L.length ≤ 30 ∧ ∀ i, (L.getD i []).length ≤ 200 := by
  have h := of_decide_eq_false h
  have h := Classical.not_not.1 h
  refine ⟨h.1, fun i => ?_⟩
  by_cases hi : i < L.length
  · exact h.2 i hi
  · rw [List.getD_eq_getElem?_getD, List.getElem?_eq_none (by omega)]; simp
set_option maxHeartbeats 2000000 in
theorem wide_any (a : Option Addr) (n cap : Nat) (L : List (List Int)) (w : World) (hv : IsGrid w a n cap L) : Calls Tryd.prog 23 #[.slice a n cap] w fun e w' => e = .returned (.bool (isWide L)) ∧ w' = w := by
  obtain ⟨hf, _, hm⟩ := id hv
  have HV := hid hf
  have HLN := hid hv.len
  have HAT : Hid (∀ i, i < n → 200 < (L.getD i []).length → isWide L = true) := fun i hi h => isWide_at (by rw [hv.len]; exact hi) h
  have HALL : Hid ((∀ i, i < n → (L.getD i []).length ≤ 200) → isWide L = decide (30 < n)) := fun h => by rw [isWide_all (by rw [hv.len]; exact h), hv.len]
  obtain ⟨N, hN⟩ : ∃ N : Int, (n : Int) = N := ⟨_, rfl⟩
  have n1 : N ≤ 9223372036854775807 := by omega
  have HN := hid hN
  clear hf hv hm
  go_enter Tryd.func23, Tryd.ntmps23
  go_wp2
  go_loop [3] (fun i => ∃ k : Nat, k ≤ n ∧ i = .int .i64 k ∧ ∀ j, j < k → (L.getD j []).length ≤ 200) (fun i => n - (intOf i).toNat)
  case atStart => exact ⟨0, by omega, rfl, fun j hj => by omega⟩
  case round =>
    obtain ⟨k, hk, rfl, hall⟩ := hrel
    have HA := hid hall
    clear hall
    obtain ⟨K, hK⟩ : ∃ K : Int, (k : Int) = K := ⟨_, rfl⟩
    have HK := hid hK
    have k0 : 0 ≤ K := by omega
    by_cases hl : k < n
    · have k1 : K < N := by omega
      have k2 : K + 1 ≤ 9223372036854775807 := by omega
      have kk : K.toNat = k := by omega
      obtain ⟨b1, o1, rfl, hb1, ra, rc, g1, _, _⟩ := HV.out.at k hl
      have hgr := fun w => great_any ra (L.getD k []).length rc w
      by_cases c1 : 200 < (L.getD k []).length
      · rw [decide_eq_true c1] at hgr
        have HO := hid (HAT.out k hl c1)
        generalize (L.getD k []).length = m at *
        clear c1
        go_wp2_with (go_at_call 10; refine (hgr _).mono ?_; rintro e w9 ⟨rfl, h9⟩; have h9 := h9.symm; subst h9)
        go_ret
        exact ⟨ret_bool HO.out.symm, rfl⟩
      · rw [decide_eq_false c1] at hgr
        have HC : Hid (∀ j, j < k + 1 → (L.getD j []).length ≤ 200) := fun j hj => by
          by_cases e : j = k
          · subst e; omega
          · exact HA.out j (by omega)
        generalize (L.getD k []).length = m at hgr g1
        clear c1
        go_wp2_with (go_at_call 10; refine (hgr _).mono ?_; rintro e w9 ⟨rfl, h9⟩; have h9 := h9.symm; subst h9)
        exact ⟨⟨k + 1, by omega, by rw [show K + 1 = ((k + 1 : Nat) : Int) by omega], HC.out⟩, by simp [intOf]; omega⟩
    · have hke : K = N := by omega
      have HO := hid (HALL.out (fun j hj => HA.out j (by omega)))
      by_cases c1 : 30 < n
      · rw [decide_eq_true c1] at HO
        have c2 : 30 < N := by omega
        go_wp2
        go_ret
        exact ⟨ret_bool HO.out.symm, rfl⟩
      · rw [decide_eq_false c1] at HO
        have c2 : ¬ 30 < N := by omega
        go_wp2
        go_ret
        exact ⟨ret_bool HO.out.symm, rfl⟩

/-- Frames of a signal are frames that Signal takes. -/
theorem frames_row {s K : Nat} (h : Sz s K) {x : List Int} (hx : Bd (-262144) 262144 x) (i : Nat) : Fits ((frames s K x).getD i []) ∧ ((frames s K x).getD i []).length ≤ 200 := by
  by_cases hi : i < cnt s x.length
  · rw [frames_at _ _ _ _ hi]
    exact ⟨fits_bd (frm_bd h hx i hi) (by omega) (by omega), by rw [frm_len h x i hi]; have := h.le; omega⟩
  · rw [List.getD_eq_getElem?_getD, List.getElem?_eq_none (by rw [frames_len]; omega)]
    exact ⟨fits_nil, by simp⟩
theorem frames_okL {s K : Nat} (h : Sz s K) {x : List Int} (hx : Bd (-262144) 262144 x) : okL s (frames s K x) = true := okL_all fun i hi => by
  rw [frames_len] at hi
  rw [frames_at _ _ _ _ hi]
  refine okF_of (frm_len h x i hi) (okS_of (K - 1) (by have := h.le; omega) ?_ (frm_bd h hx i hi))
  rw [show K - 1 + 1 = K by have := h.le; omega, h.pow]
  exact frm_len h x i hi
theorem cnt_le {s K : Nat} (h : Sz s K) (n : Nat) (hn : n ≤ 200) : cnt s n ≤ 30 := by
  unfold cnt
  rcases h with ⟨rfl, _⟩ | ⟨rfl, _⟩ | ⟨rfl, _⟩ <;> omega
/-- Signal of a signal's frames. -/
theorem lsignal_frames (v : Value) (s K : Nat) (x : List Int) (w : World) (hw : Wt w) (hv : Fr true w v (frames s K x)) (hS : Sz s K) (hn : x.length ≤ 200) (hb : Bd (-262144) 262144 x) :
    Calls Tryd.prog 24 #[v, .int .i64 s] w fun e w' => ∃ v', e = .returned (.tuple #[v', .int .i64 0]) ∧ Rw .i64 w' v' (full s x) ∧ Below w.heap.size w w' := by
  obtain ⟨a, c, rfl, _⟩ := id hv
  refine (lsignal_any a _ c s K (frames s K x) w hw hv hS (by rw [frames_len]; exact cnt_le hS _ hn) (fun i => (frames_row hS hb i).1) (fun i => (frames_row hS hb i).2)).mono ?_
  rintro e w' ⟨v', er, rfl, hs, hB⟩
  rcases hs with ⟨_, rfl, hr⟩ | ⟨h, _⟩
  · rw [signal_frames hS] at hr
    exact ⟨v', rfl, hr, hB⟩
  · rw [frames_okL hS hb] at h; cases h

/-- What the laid table gives. -/
theorem gWeights : Tryd.prog.globalNamed "psaltery/lap.weights" = some 0 := by kernel_rfl
theorem tWeights : (Tryd.prog.globals[0]?).map (·.type) = some 52 := by kernel_rfl
theorem wt_of_laid {W : World} (h : laidMetH Tryd.prog [("psaltery/lap.weights", Rows.laid_psaltery_lap_weights)] W) : Wt W := by
  rw [MakeChecks.laidMetH_plain _ _ _ (by kernel_rfl)] at h
  have hT := Lib.tabIs_of_head (zs := [7, 5, 3, 1]) gWeights tWeights Tryd.underlying52 Tryd.underlying2 (by kernel_rfl) (by kernel_rfl) h
  intro k hk
  have hc := hT.cell gWeights k (by simpa using hk)
  rw [hc]
  match k, hk with
  | 0, _ => rfl
  | 1, _ => rfl
  | 2, _ => rfl
  | 3, _ => rfl

/-- The examples. -/
def X0 : List Int := [0, 0, 0, 16, 16, 0, 0, 0]
def Y0 : List Int := [0, 0, 0, 19, 9, 0, 0, 0]
theorem x0_bd : Bd (-262144) 262144 X0 := fun j hj => by
  have : j = 0 ∨ j = 1 ∨ j = 2 ∨ j = 3 ∨ j = 4 ∨ j = 5 ∨ j = 6 ∨ j = 7 := by simp [X0] at hj; omega
  rcases this with rfl | rfl | rfl | rfl | rfl | rfl | rfl | rfl <;> decide
theorem y0_bd : Bd (-1048576) 1048576 Y0 := fun j hj => by
  have : j = 0 ∨ j = 1 ∨ j = 2 ∨ j = 3 ∨ j = 4 ∨ j = 5 ∨ j = 6 ∨ j = 7 := by simp [Y0] at hj; omega
  rcases this with rfl | rfl | rfl | rfl | rfl | rfl | rfl | rfl <;> decide
theorem x0_tn : tnL 4 X0 = Y0 := by decide
theorem y0_bk : bkL 4 Y0 = X0 := by decide
theorem x0_full : full 8 X0 = X0 := by decide
theorem sz8 : Sz 8 3 := .inl ⟨rfl, rfl⟩
theorem lit8 (w : World) (a b c d e f g h : Int) (t : TypeId) : Rw .i64 (w.alloc (.cells #[.int .i64 a, .int .i64 b, .int .i64 c, .int .i64 d, .int .i64 e, .int .i64 f, .int .i64 g, .int .i64 h] t)) (.slice (some ⟨w.heap.size, 0, none⟩) 8 8) [a, b, c, d, e, f, g, h] :=
  Rw.of_row (e := t) (cur := [a, b, c, d, e, f, g, h]) (heap_alloc_last w _) rfl
theorem k1 (w : World) (hw : Wt w) (g : Nat) (h : Rw .i64 w (.slice (some ⟨g, 0, none⟩) 8 8) X0) : Calls Tryd.prog 12 #[.slice (some ⟨g, 0, none⟩) 8 8, .int .i64 4] w fun e w' => ∃ g c, e = .returned (.tuple #[.slice (some ⟨g, 0, none⟩) 8 c, .int .i64 0]) ∧ Rw .i64 w' (.slice (some ⟨g, 0, none⟩) 8 c) Y0 ∧ Below w.heap.size w w' := by
  refine (lturn_ok (some ⟨g, 0, none⟩) 8 X0 4 w hw h (fits_bd x0_bd (by omega) (by omega)) (by decide) x0_bd (by omega) (by decide)).mono ?_
  rintro e w' ⟨g, c, rfl, _, _, hh, hB⟩
  rw [x0_tn] at hh
  exact ⟨g, c, rfl, hh.rw rfl, hB⟩
theorem k2 (w : World) (hw : Wt w) (g c : Nat) (h : Rw .i64 w (.slice (some ⟨g, 0, none⟩) 8 c) Y0) : Calls Tryd.prog 18 #[.slice (some ⟨g, 0, none⟩) 8 c, .int .i64 4] w fun e w' => ∃ g c, e = .returned (.tuple #[.slice (some ⟨g, 0, none⟩) 8 c, .int .i64 0]) ∧ Rw .i64 w' (.slice (some ⟨g, 0, none⟩) 8 c) X0 ∧ Below w.heap.size w w' := by
  refine (lback_ok (some ⟨g, 0, none⟩) c Y0 4 w hw h (fits_bd y0_bd (by omega) (by omega)) (by decide) y0_bd (by omega) (by decide)).mono ?_
  rintro e w' ⟨g, c, rfl, _, _, hh, hB⟩
  rw [y0_bk] at hh
  exact ⟨g, c, rfl, hh.rw rfl, hB⟩
theorem k3 (w : World) (hw : Wt w) (g : Nat) (h : Rw .i64 w (.slice (some ⟨g, 0, none⟩) 8 8) X0) : Calls Tryd.prog 20 #[.slice (some ⟨g, 0, none⟩) 8 8, .int .i64 8] w fun e w' => ∃ a c, e = .returned (.tuple #[.slice a 1 c, .int .i64 0]) ∧ Fr true w' (.slice a 1 c) (frames 8 3 X0) ∧ Below w.heap.size w w' := by
  refine (lframes_ok (some ⟨g, 0, none⟩) 8 8 3 X0 w hw h (fits_bd x0_bd (by omega) (by omega)) sz8 (by decide) x0_bd).mono ?_
  rintro e w' ⟨v, rfl, hf, hB⟩
  obtain ⟨a, c, rfl, _⟩ := id hf
  exact ⟨a, c, rfl, hf, hB⟩
theorem k4 (w : World) (hw : Wt w) (a : Option Addr) (c : Nat) (h : Fr true w (.slice a 1 c) (frames 8 3 X0)) : Calls Tryd.prog 24 #[.slice a 1 c, .int .i64 8] w fun e w' => ∃ a c, e = .returned (.tuple #[.slice a 8 c, .int .i64 0]) ∧ Rw .i64 w' (.slice a 8 c) X0 ∧ Below w.heap.size w w' := by
  refine (lsignal_frames _ 8 3 X0 w hw h sz8 (by decide) x0_bd).mono ?_
  rintro e w' ⟨v, rfl, hr, hB⟩
  rw [x0_full] at hr
  obtain ⟨a, c, rfl, _⟩ := id hr
  exact ⟨a, c, rfl, hr, hB⟩
theorem k5 (w : World) (g : Nat) (h : Rw .i64 w (.slice (some ⟨g, 0, none⟩) 8 8) X0) : Calls Tryd.prog 14 #[.slice (some ⟨g, 0, none⟩) 8 8] w fun e w' => e = .returned (.bool true) ∧ w' = w := by
  have := lright_any (.slice (some ⟨g, 0, none⟩) 8 8) X0 w h (fits_bd x0_bd (by omega) (by omega)) (by decide)
  rw [okB_of x0_bd] at this
  exact this
set_option maxHeartbeats 2000000 in
theorem knows_any (w : World) (hw : Wt w) : Calls Tryd.prog 11 #[] w fun e w' => e = .returned (.bool true) ∧ Below w.heap.size w w' := by
  have HW := hid hw
  clear hw
  go_enter Tryd.func11, Tryd.ntmps11
  go_wp2_with (first | (go_at_call 12; refine (k1 _ (HW.out.below (below1 _ _)) _ (lit8 _ 0 0 0 16 16 0 0 0 _)).mono ?_; rintro e w1 ⟨g1, c1, rfl, hr1, hb1⟩; have hX1 := (lit8 w 0 0 0 16 16 0 0 0 2).below hb1; have hb1 := bthen' (below1 _ _) hb1) | (go_at_call 18; refine (k2 _ (HW.out.below hb1) _ _ hr1).mono ?_; rintro e w2 ⟨g2, c2, rfl, hr2, hb2⟩; have hX2 := hX1.below hb2; have hr1 := hr1.below hb2; have hb2 := bthen' hb1 hb2) | (go_at_call 20; refine (k3 _ (HW.out.below hb2) _ hX2).mono ?_; rintro e w3 ⟨a3, c3, rfl, hr3, hb3⟩; have hX3 := hX2.below hb3; have hr1 := hr1.below hb3; have hr2 := hr2.below hb3; have hb3 := bthen' hb2 hb3) | (go_at_call 24; refine (k4 _ (HW.out.below hb3) _ _ hr3).mono ?_; rintro e w4 ⟨a4, c4, rfl, hr4, hb4⟩; have hX4 := hX3.below hb4; have hr1 := hr1.below hb4; have hr2 := hr2.below hb4; have hb4 := bthen' hb3 hb4) | (go_at_call_of 16 (Value.slice (some ⟨g1, 0, none⟩) 8 c1); refine (same64_yes _ _ Y0 _ (hr1.below (below1 _ _)) (lit8 _ 0 0 0 19 9 0 0 0 _) (by decide)).mono ?_; rintro e w5 ⟨rfl, hb5⟩; have hb5 := bthen' (below1 _ _) hb5; have hX5 := hX4.below hb5; have hr2 := hr2.below hb5; have hr4 := hr4.below hb5; have hb5 := bthen' hb4 hb5) | (go_at_call_of 16 (Value.slice (some ⟨g2, 0, none⟩) 8 c2); refine (same64_yes _ _ X0 _ hr2 hX5 (by decide)).mono ?_; rintro e w6 ⟨rfl, hb6⟩; have hX6 := hX5.below hb6; have hr4 := hr4.below hb6; have hb6 := bthen' hb5 hb6) | (go_at_call_of 16 (Value.slice a4 8 c4); refine (same64_yes _ _ X0 _ hr4 hX6 (by decide)).mono ?_; rintro e w7 ⟨rfl, hb7⟩; have hX7 := hX6.below hb7; have hb7 := bthen' hb6 hb7) | (go_at_call 14; refine (k5 _ _ hX7).mono ?_; rintro e w8 ⟨rfl, h8⟩; have h8 := h8.symm; subst h8))
  go_ret
  exact ⟨rfl, hb7⟩
end Go.Proofs.YtdfihdkkidekjaaDoor
