/- Contracts of the program's Search. -/
import Derived.Test.YtiiiejhdeooabaaFh
import Derived.Deep.RegionWith
import Derived.Deep.DeepCutAuto
import Derived.Deep.CutRange
namespace Go.Proofs.Ytiiiejhdeooabaa
open Go.RowKit
set_option linter.unusedVariables false
set_option linter.unusedSimpArgs false

theorem search_no (v : Value) (x : List Int) (k : Int) (w : World) (hv : Rw .i64 w v x) (hf : Fits x) (h : fairX x = false ∨ k < 0 ∨ 12 < k) : Calls Try.prog 13 #[v, .int .i64 k] w fun e w' => e = .returned (.tuple #[.slice none 0 0, .int .i64 1]) ∧ w' = w := by
  have hr := fun w hv => right_any v x w hv hf
  cases hx : fairX x
  · rw [hx] at hr
    clear h
    go_enter Try.func13, Try.ntmps13
    go_wp2_with (go_at_call 21; refine (hr _ hv).mono ?_; rintro e w1 ⟨rfl, rfl⟩)
    go_ret2
    exact ⟨rfl, rfl⟩
  · rw [hx] at hr h
    by_cases h0 : k < 0
    · clear h
      go_enter Try.func13, Try.ntmps13
      go_wp2_with (go_at_call 21; refine (hr _ hv).mono ?_; rintro e w1 ⟨rfl, rfl⟩)
      go_ret2
      exact ⟨rfl, rfl⟩
    · have h1 : 12 < k := by
        rcases h with h | h | h
        · cases h
        · exact absurd h h0
        · exact h
      clear h
      go_enter Try.func13, Try.ntmps13
      go_wp2_with (go_at_call 21; refine (hr _ hv).mono ?_; rintro e w1 ⟨rfl, rfl⟩)
      go_ret2
      exact ⟨rfl, rfl⟩

/-- The cells of a row of noughts. -/
def Z0 (n : Nat) : Array Value := ((tab n fun _ => 0).map (Value.int .u64)).toArray
/-- A new row of noughts, as one operation of a region. -/
theorem make_u64 (n : Nat) (hn : n ≤ 16) : ∃ Z : Array Value, Z = Z0 n ∧ ∀ W : World, (Instr.makeSlice 45 (.int .i64 (n : Int)) (.int .i64 (n : Int))).run Try.prog W = .ok (.slice (some ⟨W.heap.size, 0, none⟩) n n) (W.alloc (.cells Z 24)) := by
  obtain ⟨u0, ui, uz0, uz1, uz2⟩ := info_parts info_u64
  refine ⟨_, rfl, fun W => ?_⟩
  have h := run_make (P := Try.prog) W 45 24 u0 (.int .u64 0) Try.underlying45 ui uz0 .i64 .i64 n n (by omega) (Int.le_refl _) (by rw [uz2]; omega) (by omega)
  rw [h, uz1]
  have e : madeCells (Value.int .u64 0).cells ((n : Int).toNat * 1) = Z0 n := by
    unfold Z0
    refine Array.toList_inj.1 ?_
    rw [← tab_zero, List.map_replicate, Nat.mul_one, Int.toNat_natCast]
    exact made_one _ _
  rw [e, Int.toNat_natCast]

theorem sums_zero (a : List Int) (n j : Nat) : dts a (tab n fun _ => 0) j = 0 ∧ nrs (tab n fun _ => 0) j = 0 := by
  induction j with
  | zero => exact ⟨rfl, rfl⟩
  | succ j ih =>
    have e : (tab n fun _ => 0).getD j 0 = 0 := by
      by_cases h : j < n
      · rw [tab_at n _ j h]
      · rw [tab_out n _ j h]
    simp only [dts, nrs, ih.1, ih.2, e]
    exact ⟨by simp, by simp⟩
/-- A search that begins. -/
def Begun (w : World) (n : Nat) (A : List Int) (p : Value) (wr : World) : Prop :=
  ∃ q gs gp : Nat, p = .pointer (some ⟨q, 0, none⟩) ∧ Hunt wr q gs gp n A (itr A n 0) ∧ w.heap.size ≤ q ∧ w.heap.size ≤ gp ∧ Below w.heap.size w wr
theorem hunt_of {wf : World} {q gs gp n : Nat} {A : List Int} (box : B4 wf q (.slice (some ⟨gs, 0, none⟩) n n) (.slice (some ⟨gp, 0, none⟩) n n) (.int .u64 0) (.int .u64 0)) (sz : Blk .u64 24 wf gs A) (pu : Blk .u64 24 wf gp (tab n fun _ => 0)) (h1 : gs ≠ gp) (h2 : q ≠ gp) (h3 : q ≠ gs) : Hunt wf q gs gp n A (itr A n 0) := by
  refine ⟨?_, sz, pu, h1, h2, h3⟩
  have e : itr A n 0 = tab n fun _ => 0 := rfl
  rw [e, (sums_zero A n n).1, (sums_zero A n n).2]
  exact box
theorem blk_new (w : World) (n : Nat) : Blk .u64 24 (w.alloc (.cells (Z0 n) 24)) w.heap.size (tab n fun _ => 0) := heap_alloc_last w _
theorem begun1 {w W y : World} {n g : Nat} {A : List Int} (hW : Below w.heap.size w W) (hg : W.heap.size ≤ g) (hb1 : Blk .u64 24 y g A) (e1 : Below W.heap.size W y) : Begun w n A (.pointer (some ⟨y.heap.size + 1, 0, none⟩)) ((y.alloc (.cells (Z0 n) 24)).alloc (.cells #[.slice (some ⟨g, 0, none⟩) n n, .slice (some ⟨y.heap.size, 0, none⟩) n n, .int .u64 0, .int .u64 0] 48)) := by
  have hl := hb1.lt
  have hs := (bthen' hW e1).size
  exact ⟨_, g, y.heap.size, rfl, hunt_of (B4.new2 _ _ _ _ _ _ _) (hb1.below (below2 _ _ _)) ((blk_new y n).below (below1 _ _)) (by omega) (by omega) (by omega), by omega, hs, bthen' (bthen' hW e1) (below2 _ _ _)⟩
theorem begun2 {w W y : World} {n g : Nat} {A : List Int} (hW : Below w.heap.size w W) (hg : W.heap.size ≤ g) (hb1 : Blk .u64 24 y g A) (e1 : Below W.heap.size W y) : Begun w n A (.pointer (some ⟨y.heap.size, 0, none⟩)) ((y.alloc (.cells #[.slice (some ⟨g, 0, none⟩) n n, .slice (some ⟨y.heap.size + 1, 0, none⟩) n n, .int .u64 0, .int .u64 0] 48)).alloc (.cells (Z0 n) 24)) := by
  have hl := hb1.lt
  have hs := (bthen' hW e1).size
  have hn := blk_new (y.alloc (.cells #[.slice (some ⟨g, 0, none⟩) n n, .slice (some ⟨y.heap.size + 1, 0, none⟩) n n, .int .u64 0, .int .u64 0] 48)) n
  rw [World.size_alloc] at hn
  exact ⟨_, g, y.heap.size + 1, rfl, hunt_of ((B4.new _ _ _ _ _ _).below (below1 _ _)) (hb1.below (below2 _ _ _)) hn (by omega) (by omega) (by omega), hs, by omega, bthen' (bthen' hW e1) (below2 _ _ _)⟩
theorem begun3 {w y : World} {n g : Nat} {A : List Int} (hg : (w.alloc (.cells (Z0 n) 24)).drew.heap.size ≤ g) (hb1 : Blk .u64 24 y g A) (e1 : Below (w.alloc (.cells (Z0 n) 24)).drew.heap.size (w.alloc (.cells (Z0 n) 24)).drew y) : Begun w n A (.pointer (some ⟨y.heap.size, 0, none⟩)) (y.alloc (.cells #[.slice (some ⟨g, 0, none⟩) n n, .slice (some ⟨w.heap.size, 0, none⟩) n n, .int .u64 0, .int .u64 0] 48)) := by
  have hl := hb1.lt
  have e2 := drew_below e1
  have hs := e2.size
  rw [World.size_drew, World.size_alloc] at hg
  rw [World.size_alloc] at hs
  exact ⟨_, g, w.heap.size, rfl, hunt_of (B4.new _ _ _ _ _ _) (hb1.below (below1 _ _)) (((blk_new w n).below e2).below (below1 _ _)) (by omega) (by omega) (by omega), by omega, Nat.le_refl _, bthen' (bthen' (below1 _ _) e2) (below1 _ _)⟩
theorem begun4 {w y : World} {n g : Nat} {A : List Int} {t : TypeId} {z0 z1 z2 z3 : Value} (hg : ((w.alloc (.cells (Z0 n) 24)).alloc (.cells #[z0, z1, z2, z3] t)).drew.heap.size ≤ g) (hb1 : Blk .u64 24 y g A) (e1 : Below ((w.alloc (.cells (Z0 n) 24)).alloc (.cells #[z0, z1, z2, z3] t)).drew.heap.size ((w.alloc (.cells (Z0 n) 24)).alloc (.cells #[z0, z1, z2, z3] t)).drew y) : Begun w n A (.pointer (some ⟨w.heap.size + 1, 0, none⟩)) ((((y.setCell ⟨w.heap.size + 1, 0, none⟩ (.slice (some ⟨g, 0, none⟩) n n)).setCell ⟨w.heap.size + 1, 1, none⟩ (.slice (some ⟨w.heap.size, 0, none⟩) n n)).setCell ⟨w.heap.size + 1, 2, none⟩ (.int .u64 0)).setCell ⟨w.heap.size + 1, 3, none⟩ (.int .u64 0)) := by
  have e2 := drew_below e1
  rw [World.size_drew, World.size_alloc, World.size_alloc] at hg
  exact ⟨_, g, w.heap.size, rfl, hunt_of (((B4.new2 w _ z0 z1 z2 z3 t).below e2).set _ _ _ _) ((((hb1.other _ _ _ (by omega)).other _ _ _ (by omega)).other _ _ _ (by omega)).other _ _ _ (by omega)) ((((((blk_new w n).below (bthen' (below1 _ _) e2)).other _ _ _ (by omega)).other _ _ _ (by omega)).other _ _ _ (by omega)).other _ _ _ (by omega)) (by omega) (by omega) (by omega), by omega, Nat.le_refl _, bset4 (bthen' (below2 _ _ _) e2) _ _ _ _ _ (by omega)⟩
theorem begun5 {w y : World} {n g : Nat} {A : List Int} {t : TypeId} {z0 z1 z2 z3 : Value} (hg : (w.alloc (.cells #[z0, z1, z2, z3] t)).drew.heap.size ≤ g) (hb1 : Blk .u64 24 y g A) (e1 : Below (w.alloc (.cells #[z0, z1, z2, z3] t)).drew.heap.size (w.alloc (.cells #[z0, z1, z2, z3] t)).drew y) : Begun w n A (.pointer (some ⟨w.heap.size, 0, none⟩)) (((((y.setCell ⟨w.heap.size, 0, none⟩ (.slice (some ⟨g, 0, none⟩) n n)).setCell ⟨w.heap.size, 1, none⟩ (.slice (some ⟨y.heap.size, 0, none⟩) n n)).setCell ⟨w.heap.size, 2, none⟩ (.int .u64 0)).setCell ⟨w.heap.size, 3, none⟩ (.int .u64 0)).alloc (.cells (Z0 n) 24)) := by
  have e2 := drew_below e1
  have hl := hb1.lt
  have hs := e2.size
  rw [World.size_drew, World.size_alloc] at hg
  rw [World.size_alloc] at hs
  have hn := blk_new ((((y.setCell ⟨w.heap.size, 0, none⟩ (.slice (some ⟨g, 0, none⟩) n n)).setCell ⟨w.heap.size, 1, none⟩ (.slice (some ⟨y.heap.size, 0, none⟩) n n)).setCell ⟨w.heap.size, 2, none⟩ (.int .u64 0)).setCell ⟨w.heap.size, 3, none⟩ (.int .u64 0)) n
  rw [World.size_setCell, World.size_setCell, World.size_setCell, World.size_setCell] at hn
  exact ⟨_, g, y.heap.size, rfl, hunt_of ((((B4.new w z0 z1 z2 z3 t).below e2).set _ _ _ _).below (below1 _ _)) (((((hb1.other _ _ _ (by omega)).other _ _ _ (by omega)).other _ _ _ (by omega)).other _ _ _ (by omega)).below (below1 _ _)) hn (by omega) (by omega) (by omega), Nat.le_refl _, by omega, bthen' (bset4 (bthen' (below1 _ _) e2) _ _ _ _ _ (Nat.le_refl _)) (below1 _ _)⟩
theorem begun6 {w y : World} {n g : Nat} {A : List Int} {t : TypeId} {z0 z1 z2 z3 : Value} (hg : ((w.alloc (.cells #[z0, z1, z2, z3] t)).alloc (.cells (Z0 n) 24)).drew.heap.size ≤ g) (hb1 : Blk .u64 24 y g A) (e1 : Below ((w.alloc (.cells #[z0, z1, z2, z3] t)).alloc (.cells (Z0 n) 24)).drew.heap.size ((w.alloc (.cells #[z0, z1, z2, z3] t)).alloc (.cells (Z0 n) 24)).drew y) : Begun w n A (.pointer (some ⟨w.heap.size, 0, none⟩)) ((((y.setCell ⟨w.heap.size, 0, none⟩ (.slice (some ⟨g, 0, none⟩) n n)).setCell ⟨w.heap.size, 1, none⟩ (.slice (some ⟨w.heap.size + 1, 0, none⟩) n n)).setCell ⟨w.heap.size, 2, none⟩ (.int .u64 0)).setCell ⟨w.heap.size, 3, none⟩ (.int .u64 0)) := by
  have e2 := drew_below e1
  rw [World.size_drew, World.size_alloc, World.size_alloc] at hg
  have hn := blk_new (w.alloc (.cells #[z0, z1, z2, z3] t)) n
  rw [World.size_alloc] at hn
  exact ⟨_, g, w.heap.size + 1, rfl, hunt_of (((B4.new w z0 z1 z2 z3 t).below (bthen' (below1 _ _) e2)).set _ _ _ _) ((((hb1.other _ _ _ (by omega)).other _ _ _ (by omega)).other _ _ _ (by omega)).other _ _ _ (by omega)) (((((hn.below e2).other _ _ _ (by omega)).other _ _ _ (by omega)).other _ _ _ (by omega)).other _ _ _ (by omega)) (by omega) (by omega) (by omega), Nat.le_refl _, by omega, bset4 (bthen' (below2 _ _ _) e2) _ _ _ _ _ (Nat.le_refl _)⟩

set_option maxHeartbeats 4000000 in
theorem search_ok (v : Value) (x : List Int) (k : Nat) (w : World) (hv : Rw .i64 w v x) (hf : Fits x) (h : fairX x = true) (hk : k ≤ 12) : Calls Try.prog 13 #[v, .int .i64 k] w fun e w' => ∃ g : Nat, e = .returned (.tuple #[.slice (some ⟨g, 0, none⟩) x.length x.length, .int .i64 0]) ∧ w.heap.size ≤ g ∧ Blk .i64 3 w' g (fnd x k) ∧ Below w.heap.size w w' := by
  obtain ⟨i0, hi, hz0, hz1, hz2⟩ := info_parts info_int
  obtain ⟨u0, ui, uz0, uz1, uz2⟩ := info_parts info_u64
  obtain ⟨h1, h2, h3⟩ := fairX_parts h
  have hr := fun w hv => right_any v x w hv hf
  rw [h] at hr
  have hsz := fun w hv => shifted_any v x w hv h
  have HS : Hid (∀ m, St (szs x) (itr (szs x) x.length m) x.length m) := fun m => St.of h m
  have hv0 := hv
  obtain ⟨a, cap, rfl, ha⟩ := hv
  obtain ⟨b, off, rfl, hlt, hc⟩ := ha.resolve_left (by intro h; subst h; simp at h1)
  clear ha
  have HC : Hid (∀ i, i < x.length → w.cell? ⟨b, off + i, none⟩ = some (.int .i64 (x.getD i 0))) := hc
  clear hc h3 h
  have i1 : (x.length : Int) ≤ 16 := by omega
  have i2 : (1 : Int) ≤ x.length := by omega
  obtain ⟨A, hA⟩ : ∃ A, szs x = A := ⟨_, rfl⟩
  rw [hA] at hsz HS
  have HF : Hid (fnd x k = tab x.length (sgn x (itr A x.length k))) := by unfold Hid fnd; rw [hA]
  clear hA
  obtain ⟨Z, hZ, hmk⟩ := make_u64 x.length h2
  have HZ := hid hZ
  clear hZ
  go_enter Try.func13, Try.ntmps13
  go_wp2_with (go_at_call 21; refine (hr _ hv0).mono ?_; rintro e w9 ⟨rfl, h9⟩; have h9 := h9.symm; subst h9)
  go_cut [6] from 21 to 26 (fun p wr => Hid (Begun w x.length A p wr))
  case first =>
    go_region_held3 (fun w' => True) (exact trivial) (first | (go_at_call 23; refine (hsz _ (by first | exact hv0.below (Below.refl _ _).drew | exact hv0.below (below1 _ _).drew | exact hv0.below (below2 _ _ _).drew)).mono ?_; rintro e y1 ⟨g1, rfl, hg1, hblk1, e1⟩; obtain ⟨hcA, hfA⟩ := bcell e1; have hzA := e1.size; simp only [World.size_drew, World.size_alloc] at hzA; (try (have hzB : w.heap.size < y1.heap.size := by omega)); (try (have hzC : w.heap.size + 1 < y1.heap.size := by omega))))
    all_goals go_wp2
    all_goals go_meet
    all_goals rw [HZ.out] at *
    all_goals first | exact begun1 (Below.refl _ _).drew hg1 hblk1 e1 | exact begun2 (Below.refl _ _).drew hg1 hblk1 e1 | exact begun3 hg1 hblk1 e1 | exact begun4 hg1 hblk1 e1 | exact begun5 hg1 hblk1 e1 | exact begun6 hg1 hblk1 e1
  case rest =>
    obtain ⟨q, gs, gp, rfl, H0, hq, hgp, hbw⟩ := hcut.out
    have HH0 := hid H0
    clear H0 hcut hsz hr hv0 hmk HZ
    go_wp2
    go_loopw [28] (fun c wr => ∃ m : Nat, m ≤ k ∧ c = .int .i64 m ∧ Hid (Hunt wr q gs gp x.length A (itr A x.length m)) ∧ Below w.heap.size w wr) (fun c _ => k - (intOf c).toNat)
    case atStart => exact ⟨0, by omega, rfl, HH0, hbw⟩
    case round =>
      clear HH0 hbw
      obtain ⟨m, hm, rfl, HH, hbr⟩ := hrel
      by_cases hl : m < k
      · have hS := HS.out m
        have HNX : Hid (itr A x.length (m + 1) = inc (itr A x.length m) (bs A (itr A x.length m) x.length (x.length - 1))) := rfl
        generalize itr A x.length m = Y at *
        have hbl : bs A Y x.length (x.length - 1) < x.length := by have := bs_le A Y x.length (x.length - 1); omega
        have hf1 := first_any q gs gp x.length m A Y wr HH.out hS (by omega) h1 h2
        have ha1 := fun w1 (hb1 : Below wr.heap.size wr w1) => add_any q gs gp x.length m (bs A Y x.length (x.length - 1)) w.heap.size A Y w1 (HH.out.below hb1) hS (by omega) hbl h2 hq hgp
        rw [← HNX.out] at ha1
        have HN2 := hid HNX.out
        generalize bs A Y x.length (x.length - 1) = p at *
        clear hS HNX HN2
        go_wp2_with (first | (go_at_call 25; refine hf1.mono ?_; rintro e w2 ⟨rfl, hb2⟩) | (go_at_call 24; refine (ha1 _ hb2).mono ?_; rintro e w3 ⟨rfl, hH3, hb3⟩))
        exact ⟨⟨m + 1, by omega, by go_num, hH3, (bthen hbr hb2 hbr.size).trans hb3⟩, by simp [intOf]; omega⟩
      · have hme : m = k := by omega
        rw [hme] at HH
        have HST := hid (HS.out k)
        generalize itr A x.length k = Y at *
        clear hme HS
        obtain ⟨W1, rfl⟩ : ∃ x, x = wr := ⟨wr, rfl⟩
        go_wp2_with (at_make; refine wpList_make_full _ rfl _ _ 30 rfl W1.heap.size 3 i0 (.int .i64 0) 1 Try.underlying30 hi hz0 hz1 .i64 .i64 _ _ x.length rfl rfl (by omega) (by omega) (by rw [hz2]; omega) (by unfold maxLen; omega) (by simp) ?_)
        intro w5 hown5 hgrow5
        have hb5 := grown_of_none hgrow5
        have HB5 := hid (Blk.made hown5)
        have hws := hbr.size
        clear hown5 hgrow5
        go_wp2
        go_loopw [41] (fun c wr => ∃ j : Nat, j ≤ x.length ∧ c = .int .i64 j ∧ Hid (Blk .i64 3 wr W1.heap.size (tab x.length fun i => if i < j then sgn x Y i else 0)) ∧ Below W1.heap.size W1 wr) (fun c _ => x.length - (intOf c).toNat)
        case atStart => exact ⟨0, by omega, rfl, by simp; exact HB5, hb5⟩
        case round =>
          clear HB5 hb5
          obtain ⟨j, hj, rfl, HB, hbr2⟩ := hrel
          by_cases hl2 : j < x.length
          · have hbb := bthen hbr hbr2 hws
            have g := (hbb.cell (p := ⟨b, off + j, none⟩) hlt).trans (HC.out j hl2)
            have c1 := HB.out.cell j (by rw [tab_len]; exact hl2)
            have c2 := HB.out.free j (by rw [tab_len]; exact hl2)
            rw [tab_at _ _ _ hl2, if_neg (by omega)] at c1
            have hH := HH.out.below hbr2
            have p1 := hH.box.c1
            have p2 := hH.pu.cell j (by rw [HST.out.ly]; exact hl2)
            have y1 := HST.out.hy j
            have y2 := sms_at HST.out.hy j x.length hl2
            rw [HST.out.hs] at y2
            have y3 : Y.getD j 0 ≤ 12 := by omega
            have HE : Hid ((tab x.length fun i => if i < j + 1 then sgn x Y i else 0) = (tab x.length fun i => if i < j then sgn x Y i else 0).set j (sgn x Y j)) := by
              unfold Hid
              rw [tab_set _ _ _ _ hl2]
              refine tab_congr fun i hi => ?_
              by_cases e : i = j
              · subst e; rw [if_pos (by omega), if_pos rfl]
              · rw [if_neg e]
                by_cases e2 : i < j
                · rw [if_pos (by omega), if_pos e2]
                · rw [if_neg (by omega), if_neg e2]
            clear hH y2
            by_cases hn : x.getD j 0 < 0
            · have R := hid ((HB.out.set j (Y.getD j 0)).set j (-(Y.getD j 0)))
              rw [List.set_set, show -(Y.getD j 0) = sgn x Y j by unfold sgn; rw [if_pos hn], ← HE.out] at R
              have HG : Hid (sgn x Y j = -(Y.getD j 0)) := by unfold Hid sgn; rw [if_pos hn]
              rw [HG.out] at R
              clear HE HG HB
              generalize Y.getD j 0 = u at *
              generalize x.getD j 0 = z at *
              go_wp2
              exact ⟨⟨j + 1, by omega, by go_num, R, (hbr2.setCell (p := ⟨W1.heap.size, j, none⟩) (Nat.le_refl _) _).setCell (p := ⟨W1.heap.size, j, none⟩) (Nat.le_refl _) _⟩, by simp [intOf]; omega⟩
            · have R := hid (HB.out.set j (Y.getD j 0))
              have HG : Hid (sgn x Y j = Y.getD j 0) := by unfold Hid sgn; rw [if_neg hn]
              rw [← HG.out, ← HE.out, HG.out] at R
              clear HE HG HB
              generalize Y.getD j 0 = u at *
              generalize x.getD j 0 = z at *
              go_wp2
              exact ⟨⟨j + 1, by omega, by go_num, R, hbr2.setCell (p := ⟨W1.heap.size, j, none⟩) (Nat.le_refl _) _⟩, by simp [intOf]; omega⟩
          · have R : Hid (Blk .i64 3 wr W1.heap.size (fnd x k)) := by
              unfold Hid
              rw [HF.out, show tab x.length (sgn x Y) = tab x.length fun i => if i < j then sgn x Y i else 0 from tab_congr fun i hi => by rw [if_pos (by omega)]]
              exact HB.out
            clear HB
            go_wp2
            go_ret2
            exact ⟨W1.heap.size, rfl, hws, R.out, bthen hbr hbr2 hws⟩
end Go.Proofs.Ytiiiejhdeooabaa
