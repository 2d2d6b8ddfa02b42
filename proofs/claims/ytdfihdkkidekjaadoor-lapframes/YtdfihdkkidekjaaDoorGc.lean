/- Contracts: the program's Forward, its closure by induction over the levels. -/
import Derived.Test.YtdfihdkkidekjaaDoorGb
import Derived.Deep.RegionHeld3
import Derived.Laws.EntriesVeiled
namespace Go.Proofs.YtdfihdkkidekjaaDoor
open Go.RowKit
set_option linter.unusedVariables false
set_option linter.unusedSimpArgs false

/-- What the closure finds: its list of coefficients, itself. -/
structure Fz (w : World) (pc pp gc N : Nat) (cur : List Int) : Prop where
  c : w.cell? ⟨pc, 0, none⟩ = some (.slice (some ⟨gc, 0, none⟩) N N)
  p : w.cell? ⟨pp, 0, none⟩ = some (.func (.func 43) #[] #[.pointer (some ⟨pc, 0, none⟩), .pointer (some ⟨pp, 0, none⟩)])
  b : Blk .i64 2 w gc cur
  l : cur.length = N
  n1 : pc ≠ gc
  n2 : pp ≠ gc
theorem Fz.kept {w w' : World} {pc pp gc N : Nat} {cur cur' : List Int} (h : Fz w pc pp gc N cur) (hg : w.grownBy w' (some gc)) (hb : Blk .i64 2 w' gc cur') (hl : cur'.length = N) : Fz w' pc pp gc N cur' :=
  ⟨hg.cell h.c (by simpa using h.n1), hg.cell h.p (by simpa using h.n2), hb, hl, h.n1, h.n2⟩
/-- The coefficients, when the first j differences of a level stand. -/
def cj (cur : List Int) (h : Nat) (x : List Int) (j : Nat) : List Int := tab cur.length fun i => if h ≤ i ∧ i < h + j then x.getD (2 * (i - h) + 1) 0 - x.getD (2 * (i - h)) 0 else cur.getD i 0
def mj (h : Nat) (x : List Int) (j : Nat) : List Int := tab h fun i => if i < j then x.getD (2 * i) 0 + (x.getD (2 * i + 1) 0 - x.getD (2 * i) 0) / 2 else 0
theorem cj_zero (cur : List Int) (h : Nat) (x : List Int) : cj cur h x 0 = cur := by
  refine (tab_eq rfl fun i hi => ?_).symm
  rw [if_neg (by omega)]
theorem cj_next (cur : List Int) (h : Nat) (x : List Int) (j : Nat) (hj : h + j < cur.length) : cj cur h x (j + 1) = (cj cur h x j).set (h + j) (x.getD (2 * j + 1) 0 - x.getD (2 * j) 0) := by
  unfold cj
  rw [tab_set _ _ _ _ hj]
  refine tab_congr fun i hi => ?_
  by_cases e : i = h + j
  · subst e
    rw [if_pos (by omega), if_pos rfl, show h + j - h = j by omega]
  · rw [if_neg e]
    by_cases e2 : h ≤ i ∧ i < h + j
    · rw [if_pos (by omega), if_pos e2]
    · rw [if_neg (by omega), if_neg e2]
theorem cj_len (cur : List Int) (h : Nat) (x : List Int) (j : Nat) : (cj cur h x j).length = cur.length := tab_len _ _
theorem cj_all (cur : List Int) (h : Nat) (x : List Int) (hl : 2 * h ≤ cur.length) : (cj cur h x h).drop h = dfs h x ++ cur.drop (2 * h) := by
  refine list_ext_getD (by simp [cj_len, dfs_len]; omega) fun i hi => ?_
  rw [List.length_drop, cj_len] at hi
  rw [getD_drop]
  unfold cj
  rw [tab_at _ _ _ (by omega)]
  by_cases e : i < h
  · rw [if_pos (by omega), getD_app_l _ _ _ (by rw [dfs_len]; exact e), dfs_at _ _ _ e, show h + i - h = i by omega]
  · rw [if_neg (by omega), getD_app_r _ _ _ (by rw [dfs_len]; omega), dfs_len, getD_drop, show 2 * h + (i - h) = h + i by omega]
theorem base_all (cur x : List Int) (hl : 2 ≤ cur.length) : (cj cur 1 x 1).set 0 ((mns 1 x).getD 0 0) = fw 1 x ++ cur.drop 2 := by
  have h1 := cj_all cur 1 x (by omega)
  have h2 : fw 1 x ++ cur.drop 2 = mns 1 x ++ (cj cur 1 x 1).drop 1 := by
    rw [h1]
    show (mns 1 x ++ dfs 1 x) ++ cur.drop 2 = _
    rw [List.append_assoc]
  rw [h2]
  refine list_ext_getD (by simp [mns_len, cj_len]; omega) fun i hi => ?_
  rw [List.length_set, cj_len] at hi
  rw [getD_set_at _ _ _ _ (by rw [cj_len]; omega)]
  by_cases e : i = 0
  · subst e; rw [if_pos rfl, getD_app_l _ _ _ (by rw [mns_len]; omega)]
  · rw [if_neg e, getD_app_r _ _ _ (by rw [mns_len]; omega), mns_len, getD_drop, show 1 + (i - 1) = i by omega]
theorem mj_zero (h : Nat) (x : List Int) : mj h x 0 = tab h fun _ => 0 := tab_congr fun i hi => by rw [if_neg (by omega)]
theorem mj_next (h : Nat) (x : List Int) (j : Nat) (hj : j < h) : mj h x (j + 1) = (mj h x j).set j (x.getD (2 * j) 0 + (x.getD (2 * j + 1) 0 - x.getD (2 * j) 0) / 2) := by
  unfold mj
  rw [tab_set _ _ _ _ hj]
  refine tab_congr fun i hi => ?_
  by_cases e : i = j
  · subst e; rw [if_pos (by omega), if_pos rfl]
  · rw [if_neg e]
    by_cases e2 : i < j
    · rw [if_pos (by omega), if_pos e2]
    · rw [if_neg (by omega), if_neg e2]
theorem mj_len (h : Nat) (x : List Int) (j : Nat) : (mj h x j).length = h := tab_len _ _
theorem mj_all (h : Nat) (x : List Int) : mj h x h = mns h x := tab_congr fun i hi => by rw [if_pos hi]
/-- The loop's memory. -/
structure Fl (w wr : World) (gm gc h : Nat) (x cur : List Int) (j : Nat) : Prop where
  m : Blk .i64 2 wr gm (mj h x j)
  c : Blk .i64 2 wr gc (cj cur h x j)
  g : w.grownBy wr (some gc)

theorem heldF {g c : Nat} {wr w' : World} {pc b o1 o2 : Nat} {x0 y0 y1 : Value} (h : Off g c wr w') (p1 : pc ≠ g) (p2 : pc ≠ c) (b1 : b ≠ g) (b2 : b ≠ c) (d0 : wr.cell? ⟨pc, 0, none⟩ = some x0) (d1 : wr.cell? ⟨b, o1, none⟩ = some y0) (d2 : wr.cell? ⟨b, o2, none⟩ = some y1) :
    w'.cell? ⟨pc, 0, none⟩ = some x0 ∧ w'.cell? ⟨b, o1, none⟩ = some y0 ∧ w'.cell? ⟨b, o2, none⟩ = some y1 :=
  ⟨(h.cell _ _ p1 p2).trans d0, (h.cell _ _ b1 b2).trans d1, (h.cell _ _ b1 b2).trans d2⟩

set_option maxHeartbeats 4000000 in
theorem fpart_core (N pc pp gc h k : Nat) (hN : N ≤ 32) (hh : 2 ^ k = h)
    (ih : 1 < h → ∀ (b off cap : Nat) (x cur : List Int) (w : World), Fz w pc pp gc N cur → x.length = h → h ≤ N → b ≠ gc → b < w.heap.size → (∀ i, i < h → w.cell? ⟨b, off + i, none⟩ = some (.int .i64 (x.getD i 0))) → Bd (-16777216) 16777216 x →
      Calls Tryd.prog 43 #[.slice (some ⟨b, off, none⟩) h cap, .pointer (some ⟨pc, 0, none⟩), .pointer (some ⟨pp, 0, none⟩)] w fun e w' => e = .returned (.tuple #[]) ∧ Blk .i64 2 w' gc (fw k x ++ cur.drop h) ∧ w.grownBy w' (some gc))
    (b off cap L : Nat) (x cur : List Int) (w : World) (HF : Fz w pc pp gc N cur) (hL : 2 * h = L) (hxl : x.length = L) (hxN : L ≤ N) (hbc : b ≠ gc) (hbl : b < w.heap.size) (hcell : ∀ i, i < L → w.cell? ⟨b, off + i, none⟩ = some (.int .i64 (x.getD i 0))) (hbd : Bd (-16777216) 16777216 x) :
    Calls Tryd.prog 43 #[.slice (some ⟨b, off, none⟩) L cap, .pointer (some ⟨pc, 0, none⟩), .pointer (some ⟨pp, 0, none⟩)] w fun e w' => e = .returned (.tuple #[]) ∧ Blk .i64 2 w' gc (fw (k + 1) x ++ cur.drop L) ∧ w.grownBy w' (some gc) := by
  obtain ⟨i0, hi, hz0, hz1, hz2⟩ := info_parts info_i64
  have HL := hid hL
  have hh1 : 0 < h := by rw [← hh]; exact Nat.pow_pos (by decide)
  have t1 : ((L : Nat) : Int).tdiv 2 = (h : Int) := by rw [← hL]; simp
  have hh2 : h ≤ 16 := by omega
  have HH := hid hh
  have HFF := hid HF
  have HCC := hid hcell
  have HBD := hid hbd
  have HXL := hid hxl
  have HXN := hid hxN
  have IH := hid ih
  have hwz := HF.b.lt
  clear hL hh HF hcell hbd hxl hxN ih
  go_enter Tryd.func43, Tryd.ntmps43
  go_wp2_with (at_make; refine wpList_make_full _ rfl _ _ 22 rfl w.heap.size 2 i0 (.int .i64 0) 1 Tryd.underlying22 hi hz0 hz1 .i64 .i64 _ _ h rfl rfl (by omega) (by omega) (by rw [hz2]; omega) (by unfold maxLen; omega) (by simp) ?_)
  intro w5 hown5 hgrow5
  have hb5 := grown_of_none hgrow5
  have HB5 := hid (Blk.made hown5)
  clear hown5 hgrow5
  go_wp2
  go_loopw [13] (fun i wr => ∃ j : Nat, j ≤ h ∧ i = .int .i64 j ∧ Fl w wr w.heap.size gc h x cur j) (fun i _ => h - (intOf i).toNat)
  case atStart => exact ⟨0, by omega, rfl, ⟨by rw [mj_zero]; exact HB5.out, by rw [cj_zero]; exact HFF.out.b.below hb5, grown_below hb5 _⟩⟩
  case round =>
    clear HB5 hb5
    obtain ⟨j, hj, rfl, HFL⟩ := hrel
    have HR := hid HFL
    clear HFL
    by_cases hl : j < h
    · have q0 := HR.out.g.cell HFF.out.c (by simpa using HFF.out.n1)
      have hbd1 := HBD.out (2 * j) (by rw [HXL.out]; have := HL.out; omega)
      have hbd2 := HBD.out (2 * j + 1) (by rw [HXL.out]; have := HL.out; omega)
      have q1 := HR.out.g.cell (HCC.out (2 * j) (by have := HL.out; omega)) (by simpa using hbc)
      have q2 := HR.out.g.cell (HCC.out (2 * j + 1) (by have := HL.out; omega)) (by simpa using hbc)
      have q3 := HR.out.m.cell j (by rw [mj_len]; exact hl)
      have q4 := HR.out.m.free j (by rw [mj_len]; exact hl)
      have q5 := HR.out.c.cell (h + j) (by rw [cj_len, HFF.out.l]; have := HXN.out; have := HL.out; omega)
      have q6 := HR.out.c.free (h + j) (by rw [cj_len, HFF.out.l]; have := HXN.out; have := HL.out; omega)
      have HM1 := hid (mj_next h x j hl)
      have HC1 := hid (cj_next cur h x j (by rw [HFF.out.l]; have := HXN.out; have := HL.out; omega))
      have hpt := fun w => part_any (x.getD (2 * j) 0) (x.getD (2 * j + 1) 0) w hbd1.1 hbd1.2 hbd2.1 hbd2.2
      generalize (mj h x j).getD j 0 = z3 at q3
      generalize (cj cur h x j).getD (h + j) 0 = z5 at q5
      generalize x.getD (2 * j) 0 = xa at *
      generalize x.getD (2 * j + 1) 0 = xb at *
      obtain ⟨P, hP⟩ : ∃ P : Nat, P = 2 * j := ⟨_, rfl⟩
      obtain ⟨P1, hP1⟩ : ∃ P1 : Nat, P1 = 2 * j + 1 := ⟨_, rfl⟩
      obtain ⟨Q, hQ⟩ : ∃ Q : Nat, Q = h + j := ⟨_, rfl⟩
      rw [← hP] at q1
      rw [← hP1] at q2
      rw [← hQ] at q5 q6 HC1
      have e1 : 2 * (j : Int) = (P : Int) := by omega
      have e2 : (P : Int) + 1 = (P1 : Int) := by omega
      have e3 : (h : Int) + (j : Int) = (Q : Int) := by omega
      have p1 : (P : Int) < (L : Int) := by have := HL.out; omega
      have p2 : (P1 : Int) < (L : Int) := by have := HL.out; omega
      have p3 : (Q : Int) < (N : Int) := by have := HXN.out; have := HL.out; omega
      have p4 : (j : Int) < (h : Int) := by omega
      have p5 : (0 : Int) ≤ (P : Int) := by omega
      have p6 : (0 : Int) ≤ (P1 : Int) := by omega
      have p7 : (0 : Int) ≤ (Q : Int) := by omega
      have p8 : (0 : Int) ≤ (j : Int) := by omega
      have r1 : IntKind.i64.wrap (P : Int) = P := wraps_i64 _ (by omega) (by omega)
      have r2 : IntKind.i64.wrap (P1 : Int) = P1 := wraps_i64 _ (by omega) (by omega)
      have r3 : IntKind.i64.wrap (Q : Int) = Q := wraps_i64 _ (by omega) (by omega)
      have r4 : IntKind.i64.wrap (j : Int) = j := wraps_i64 _ (by omega) (by omega)
      have n1 : pc ≠ w.heap.size := by have := block_of_cell HFF.out.c; omega
      have n2 := HFF.out.n1
      have n3 : b ≠ w.heap.size := by omega
      have n4 : w.heap.size ≠ gc := by omega
      generalize hm : xa + (xb - xa) / 2 = m at *
      generalize hd : xb - xa = d at *
      clear hP hP1 hQ hbd1 hbd2 hm hd
      go_wp2
      go_region_held3 (fun w' => w'.cell? ⟨pc, 0, none⟩ = some (.slice (some ⟨gc, 0, none⟩) N N) ∧ w'.cell? ⟨b, off + P, none⟩ = some (.int .i64 xa) ∧ w'.cell? ⟨b, off + P1, none⟩ = some (.int .i64 xb)) (exact heldF (g := w.heap.size) (c := gc) (by first | exact Off.refl _ _ _ | exact (Off.refl _ _ _).drew | exact ((Off.refl _ _ _).set1 _ _).drew | exact (Off.refl _ _ _).set1 _ _ | exact ((Off.refl _ _ _).set2 _ _).drew | exact (((Off.refl _ _ _).set1 _ _).set2 _ _).drew | exact (((Off.refl _ _ _).set1 _ _).set2 _ _)) n1 n2 n3 hbc q0 q1 q2) (first | (go_at_call 44; refine (hpt _).mono ?_; rintro e y1 ⟨rfl, hy1⟩; have hy1 := hy1.symm; subst hy1))
      go_wp2
      refine ⟨⟨j + 1, by omega, by go_num, ⟨?_, ?_, ?_⟩⟩, by simp [intOf]; omega⟩
      · rw [HM1.out]; exact ((HR.out.m.set j m).other gc Q _ n4).drew
      · rw [HC1.out]; exact ((HR.out.c.other w.heap.size j _ (Ne.symm n4)).set Q d).drew
      · exact grown_drew (grown_set (grown_set HR.out.g _ _ (.inl (Nat.le_refl _)) _) _ _ (.inr rfl) _)
    · have hje : j = h := by omega
      have HR2 : Fl w wr w.heap.size gc h x cur h := by have := HR.out; rw [hje] at this; exact this
      have R1 : Hid (Blk .i64 2 wr w.heap.size (mns h x)) := by unfold Hid; rw [← mj_all]; exact HR2.m
      have R2 : Hid (Blk .i64 2 wr gc (cj cur h x h)) := HR2.c
      clear HR2
      have R3 : Hid (w.grownBy wr (some gc)) := HR.out.g
      have R4 : Hid ((cj cur h x h).length = N) := (cj_len _ _ _ _).trans HFF.out.l
      have R5 : Hid ((cj cur h x h).drop h = dfs h x ++ cur.drop L) := by unfold Hid; rw [← HL.out]; exact cj_all cur h x (by rw [HFF.out.l]; have := HXN.out; have := HL.out; omega)
      clear hje HR
      have q0 := R3.out.cell HFF.out.c (by simpa using HFF.out.n1)
      have q9 := R3.out.cell HFF.out.p (by simpa using HFF.out.n2)
      have n4 : w.heap.size ≠ gc := by omega
      by_cases h1 : 1 < h
      · have hrec := IH.out h1 w.heap.size 0 h (mns h x) (cj cur h x h) wr (HFF.out.kept R3.out R2.out R4.out) (mns_len _ _) (by have := HXN.out; have := HL.out; omega) n4 R1.out.lt (fun i hi => by rw [Nat.zero_add]; exact R1.out.cell i (by rw [mns_len]; exact hi)) (HBD.out.means (by rw [HXL.out, HL.out]))
        have HW : Hid (fw k (mns h x) ++ (cj cur h x h).drop h = fw (k + 1) x ++ cur.drop L) := by unfold Hid; rw [R5.out]; simp only [fw]; rw [HH.out, List.append_assoc]
        have h2 : (1 : Int) < (h : Int) := by omega
        clear IH
        go_wp2_with (go_at_call 43; refine hrec.mono ?_; rintro e w7 ⟨rfl, hb7, hg7⟩)
        refine bodyPost_ret (results_none rfl _ _ _) rfl ⟨rfl, ?_, grown_trans R3.out hg7⟩
        rw [← HW.out]
        exact hb7
      · have h2 : ¬ (1 : Int) < (h : Int) := by omega
        have he : h = 1 := by omega
        have hk : k = 0 := by
          have := HH.out
          match k, this with
          | 0, _ => rfl
          | k + 1, e => rw [Nat.pow_succ] at e; omega
        have HW : Hid ((cj cur h x h).set 0 ((mns h x).getD 0 0) = fw (k + 1) x ++ cur.drop L) := by
          unfold Hid
          have hl2 := HL.out
          rw [he] at hl2
          rw [hk, he, ← hl2]
          exact base_all cur x (by rw [HFF.out.l]; have := HXN.out; omega)
        have g1 := R1.out.cell 0 (by rw [mns_len]; omega)
        have g2 := R2.out.cell 0 (by rw [R4.out]; have := HXN.out; have := HL.out; omega)
        have g3 := R2.out.free 0 (by rw [R4.out]; have := HXN.out; have := HL.out; omega)
        have p1 : (0 : Int) < (N : Int) := by have := HXN.out; have := HL.out; omega
        have p2 : (0 : Int) < (h : Int) := by omega
        have p3 : 0 < N := by omega
        generalize (mns h x).getD 0 0 = z1 at *
        generalize (cj cur h x h).getD 0 0 = z2 at *
        clear IH he
        go_wp2
        go_region
        refine bodyPost_end (results_none rfl _ _ _) rfl ⟨rfl, ?_, ?_⟩
        · rw [← HW.out]
          exact (R2.out.set 0 z1).drew
        · exact grown_drew (grown_set R3.out _ _ (.inr rfl) _)

theorem fpart_any (N pc pp gc : Nat) (hN : N ≤ 32) (k : Nat) : ∀ (b off cap : Nat) (x cur : List Int) (w : World), Fz w pc pp gc N cur → x.length = 2 ^ (k + 1) → 2 ^ (k + 1) ≤ N → b ≠ gc → b < w.heap.size → (∀ i, i < 2 ^ (k + 1) → w.cell? ⟨b, off + i, none⟩ = some (.int .i64 (x.getD i 0))) → Bd (-16777216) 16777216 x →
    Calls Tryd.prog 43 #[.slice (some ⟨b, off, none⟩) (2 ^ (k + 1)) cap, .pointer (some ⟨pc, 0, none⟩), .pointer (some ⟨pp, 0, none⟩)] w fun e w' => e = .returned (.tuple #[]) ∧ Blk .i64 2 w' gc (fw (k + 1) x ++ cur.drop (2 ^ (k + 1))) ∧ w.grownBy w' (some gc) := by
  induction k with
  | zero => exact fun b off cap x cur w h1 h2 h3 h4 h5 h6 h7 => fpart_core N pc pp gc 1 0 hN rfl (fun h => absurd h (by omega)) b off cap 2 x cur w h1 rfl h2 h3 h4 h5 h6 h7
  | succ k ih => exact fun b off cap x cur w h1 h2 h3 h4 h5 h6 h7 => fpart_core N pc pp gc (2 ^ (k + 1)) (k + 1) hN rfl (fun _ => ih) b off cap _ x cur w h1 (by rw [Nat.pow_succ _ (k + 1)]; omega) h2 h3 h4 h5 h6 h7

theorem forward_no (v : Value) (x : List Int) (w : World) (hv : Rw .i64 w v x) (hf : Fits x) (hn : x.length ≤ 200) (h : okS 16777216 x = false) : Calls Tryd.prog 35 #[v] w fun e w' => e = .returned (.tuple #[.slice none 0 0, .int .i64 1]) ∧ w' = w := by
  have hh := fun w hv => right_any v x w hv hf hn
  rw [h] at hh
  clear h
  go_enter Tryd.func35, Tryd.ntmps35
  go_wp2_with (go_at_call 42; refine (hh _ hv).mono ?_; rintro e w9 ⟨rfl, h9⟩; have h9 := h9.symm; subst h9)
  go_ret2
  exact ⟨rfl, rfl⟩

/-- The closure's variable, and that of the coefficients, as Forward makes them. -/
def fnew (w : World) (g N : Nat) : World := (w.alloc (.cells #[.slice (some ⟨g, 0, none⟩) N N] 22)).alloc (.cells #[.func (.func 43) #[] #[.pointer (some ⟨w.heap.size, 0, none⟩), .pointer (some ⟨w.heap.size + 1, 0, none⟩)]] 53)
theorem fnew_below (w : World) (g N : Nat) : Below w.heap.size w (fnew w g N) := below2 _ _ _
theorem fnew_fz {w : World} {g N : Nat} {cur : List Int} (hb : Blk .i64 2 w g cur) (hl : cur.length = N) : Fz (fnew w g N) w.heap.size (w.heap.size + 1) g N cur :=
  ⟨by simp [fnew, go_sem], by simp [fnew, go_sem], hb.below (fnew_below _ _ _), hl, by have := hb.lt; omega, by have := hb.lt; omega⟩

set_option maxHeartbeats 2000000 in
theorem forward_ok (v : Value) (x : List Int) (k : Nat) (w : World) (hv : Rw .i64 w v x) (hk : k + 1 ≤ 5) (hl : x.length = 2 ^ (k + 1)) (hb : Bd (-16777216) 16777216 x) (hf : Fits x) : Calls Tryd.prog 35 #[v] w fun e w' => ∃ g : Nat, e = .returned (.tuple #[.slice (some ⟨g, 0, none⟩) x.length x.length, .int .i64 0]) ∧ w.heap.size ≤ g ∧ Blk .i64 2 w' g (fw (k + 1) x) ∧ Below w.heap.size w w' := by
  obtain ⟨i0, hi, hz0, hz1, hz2⟩ := info_parts info_i64
  have hp : 2 ^ (k + 1) ≤ 2 ^ 5 := Nat.pow_le_pow_right (by decide) hk
  have hh := fun w hv => right_any v x w hv hf (by omega)
  rw [okS_of k hk hl hb] at hh
  obtain ⟨a, cap, rfl, ha⟩ := hv
  have hpp : 0 < 2 ^ (k + 1) := Nat.pow_pos (by decide)
  obtain ⟨b, off, rfl, hlt, hc⟩ := ha.resolve_left (by intro h; subst h; simp at hl; omega)
  have hv : Rw .i64 w (.slice (some ⟨b, off, none⟩) x.length cap) x := ⟨_, _, rfl, .inr ⟨b, off, rfl, hlt, hc⟩⟩
  clear ha
  obtain ⟨N, hN⟩ : ∃ N, 2 ^ (k + 1) = N := ⟨_, rfl⟩
  have HREC : Hid (∀ (pc pp gc : Nat) (cur : List Int) (w1 : World), Fz w1 pc pp gc N cur → b ≠ gc → b < w1.heap.size → (∀ i, i < N → w1.cell? ⟨b, off + i, none⟩ = some (.int .i64 (x.getD i 0))) → Calls Tryd.prog 43 #[.slice (some ⟨b, off, none⟩) N cap, .pointer (some ⟨pc, 0, none⟩), .pointer (some ⟨pp, 0, none⟩)] w1 fun e w' => e = .returned (.tuple #[]) ∧ Blk .i64 2 w' gc (fw (k + 1) x) ∧ w1.grownBy w' (some gc)) := by
    intro pc pp gc cur w1 f1 f2 f3 f4
    have := fpart_any N pc pp gc (by omega) k b off cap x cur w1 f1 hl (by omega) f2 f3 (by rw [hN]; exact f4) hb
    rw [hN, List.drop_of_length_le (by rw [f1.l]; exact Nat.le_refl _), List.append_nil] at this
    exact this
  rw [hl, hN] at hv hh hc ⊢
  have HC := hid hc
  have n1 : N ≤ 32 := by omega
  have n2 : 0 < N := by omega
  generalize fw (k + 1) x = Y at *
  clear hN hp hpp hb hl hk hc
  go_enter Tryd.func35, Tryd.ntmps35
  go_wp2_with (first | (go_at_call 42; refine (hh _ hv).mono ?_; rintro e w9 ⟨rfl, h9⟩; have h9 := h9.symm; subst h9) | (at_make; refine wpList_make_full _ rfl _ _ 22 rfl w.heap.size 2 i0 (.int .i64 0) 1 Tryd.underlying22 hi hz0 hz1 .i64 .i64 _ _ N rfl rfl (by omega) (by omega) (by rw [hz2]; omega) (by unfold maxLen; omega) (by simp) ?_))
  intro w5 hown5 hgrow5
  have hb5 := grown_of_none hgrow5
  have HB5 := hid (Blk.made hown5)
  clear hown5 hgrow5 hh hv
  have HZ := fnew_fz HB5.out (tab_len _ _)
  have hB5 := bthen' hb5 (fnew_below w5 w.heap.size N)
  have hrec := HREC.out w5.heap.size (w5.heap.size + 1) w.heap.size _ _ HZ (by omega) (Nat.lt_of_lt_of_le hlt hB5.size) (fun i hi => ((bcell hB5).1 _ _ hlt).trans (HC.out i hi))
  have g0 := HZ.c
  have HNE : Hid (w5.heap.size ≠ w.heap.size) := by have := HB5.out.lt; unfold Hid; omega
  have HSZ : Hid (w.heap.size < (fnew w5 w.heap.size N).heap.size) := Nat.lt_of_lt_of_le HB5.out.lt (fnew_below _ _ _).size
  clear HREC HZ
  have HB := hid hB5
  clear hB5
  unfold fnew at hrec g0
  go_wp2_with (go_at_call 43; refine hrec.mono ?_; rintro e w7 ⟨rfl, hb7, hg7⟩; have g7 := hg7.cell g0 (by simpa using HNE.out))
  go_ret2
  exact ⟨w.heap.size, rfl, Nat.le_refl _, hb7, HB.out.grown hg7 HB.out.size (fun k hk => by cases hk; exact Nat.le_refl _)⟩
end Go.Proofs.YtdfihdkkidekjaaDoor
