/- Contracts: the program's Inverse, its closure by induction over the levels. -/
import Derived.Test.YtdfihdkkidekjaaDoorGc
namespace Go.Proofs.YtdfihdkkidekjaaDoor
open Go.RowKit
set_option linter.unusedVariables false
set_option linter.unusedSimpArgs false

/-- The block that is joined, when its first j pairs stand. -/
def bj (h L : Nat) (m c : List Int) (j : Nat) : List Int := tab L fun i => if i < 2 * j then jn h m c i else 0
theorem bj_len (h L : Nat) (m c : List Int) (j : Nat) : (bj h L m c j).length = L := tab_len _ _
theorem bj_zero (h L : Nat) (m c : List Int) : bj h L m c 0 = tab L fun _ => 0 := tab_congr fun i hi => by rw [if_neg (by omega)]
theorem bj_next (h L : Nat) (m c : List Int) (j : Nat) (hj : 2 * j + 1 < L) : bj h L m c (j + 1) = ((bj h L m c j).set (2 * j) (m.getD j 0 - c.getD (h + j) 0 / 2)).set (2 * j + 1) (m.getD j 0 - c.getD (h + j) 0 / 2 + c.getD (h + j) 0) := by
  unfold bj
  rw [tab_set _ _ _ _ (by omega), tab_set _ _ _ _ hj]
  refine tab_congr fun i hi => ?_
  by_cases e : i = 2 * j + 1
  · subst e
    rw [if_pos (by omega), if_pos rfl]
    unfold jn
    rw [if_neg (by omega), show (2 * j + 1) / 2 = j by omega]
  · rw [if_neg e]
    by_cases e1 : i = 2 * j
    · subst e1
      rw [if_pos (by omega), if_pos rfl]
      unfold jn
      rw [if_pos (by omega), show 2 * j / 2 = j by omega]
    · rw [if_neg e1]
      by_cases e2 : i < 2 * j
      · rw [if_pos (by omega), if_pos e2]
      · rw [if_neg (by omega), if_neg e2]
theorem bj_all (h L k : Nat) (c : List Int) (hh : 2 ^ k = h) (hL : 2 * h = L) : bj h L (iv k (c.take h)) c h = iv (k + 1) c := by
  simp only [iv]
  rw [show 2 ^ (k + 1) = L by rw [Nat.pow_succ]; omega, hh]
  exact tab_congr fun i hi => by rw [if_pos (by omega)]
theorem heldI {g c : Nat} {wr w' : World} {a b o1 o2 : Nat} {y0 y1 : Value} (h : Off g c wr w') (p1 : a ≠ g) (p2 : a ≠ c) (b1 : b ≠ g) (b2 : b ≠ c) (d1 : wr.cell? ⟨a, o1, none⟩ = some y0) (d2 : wr.cell? ⟨b, o2, none⟩ = some y1) :
    w'.cell? ⟨a, o1, none⟩ = some y0 ∧ w'.cell? ⟨b, o2, none⟩ = some y1 :=
  ⟨(h.cell _ _ p1 p2).trans d1, (h.cell _ _ b1 b2).trans d2⟩
theorem iv_small (k : Nat) (hk : k ≤ 5) (c : List Int) (h : c.length = 2 ^ k) (hb : Bd (-67108864) 67108864 c) : Bd (-1073741824) 1073741824 (iv k c) :=
  (iv_bd k 33554432 c h hb).mono (by omega) (by omega)

set_option maxHeartbeats 4000000 in
theorem ijoin_core (pp h k : Nat) (hh : 2 ^ k = h) (hk : k ≤ 4)
    (ih : 1 < h → ∀ (b off cap : Nat) (c : List Int) (w : World), w.cell? ⟨pp, 0, none⟩ = some (.func (.func 46) #[] #[.pointer (some ⟨pp, 0, none⟩)]) → c.length = h → h ≤ cap → b < w.heap.size → (∀ i, i < h → w.cell? ⟨b, off + i, none⟩ = some (.int .i64 (c.getD i 0))) → Bd (-67108864) 67108864 c →
      Calls Tryd.prog 46 #[.slice (some ⟨b, off, none⟩) h cap, .pointer (some ⟨pp, 0, none⟩)] w fun e w' => ∃ g : Nat, e = .returned (.slice (some ⟨g, 0, none⟩) h h) ∧ w.heap.size ≤ g ∧ Blk .i64 2 w' g (iv k c) ∧ Below w.heap.size w w')
    (b off cap L : Nat) (c : List Int) (w : World) (hpp : w.cell? ⟨pp, 0, none⟩ = some (.func (.func 46) #[] #[.pointer (some ⟨pp, 0, none⟩)])) (hL : 2 * h = L) (hcl : c.length = L) (hcap : L ≤ cap) (hbl : b < w.heap.size) (hcell : ∀ i, i < L → w.cell? ⟨b, off + i, none⟩ = some (.int .i64 (c.getD i 0))) (hbd : Bd (-67108864) 67108864 c) :
    Calls Tryd.prog 46 #[.slice (some ⟨b, off, none⟩) L cap, .pointer (some ⟨pp, 0, none⟩)] w fun e w' => ∃ g : Nat, e = .returned (.slice (some ⟨g, 0, none⟩) L L) ∧ w.heap.size ≤ g ∧ Blk .i64 2 w' g (iv (k + 1) c) ∧ Below w.heap.size w w' := by
  obtain ⟨i0, hi, hz0, hz1, hz2⟩ := info_parts info_i64
  have HL := hid hL
  have hh1 : 0 < h := by rw [← hh]; exact Nat.pow_pos (by decide)
  have t1 : ((L : Nat) : Int).tdiv 2 = (h : Int) := by rw [← hL]; simp
  have hh2 : h ≤ 16 := by rw [← hh]; exact Nat.pow_le_pow_right (by decide) hk
  have htl : (c.take h).length = h := by rw [List.length_take]; omega
  have HML : Hid ((iv k (c.take h)).length = h) := by unfold Hid; rw [iv_len k _ (by rw [htl, hh]), hh]
  have HMD : Hid (Bd (-1073741824) 1073741824 (iv k (c.take h))) := iv_small k (by omega) _ (by rw [htl, hh]) (hbd.take _)
  have HIV : Hid (bj h L (iv k (c.take h)) c h = iv (k + 1) c) := bj_all h L k c hh hL
  have HTL := hid htl
  have HH := hid hh
  have HCC := hid hcell
  have HBD := hid hbd
  have HXL := hid hcl
  have IH := hid ih
  have p1 : (0 : Int) ≤ (h : Int) := by omega
  have p2 : (h : Int) ≤ (L : Int) := by omega
  have p3 : (h : Int) ≤ (cap : Int) := by omega
  have p4 : (L : Int) ≤ (cap : Int) := by omega
  have p5 : ¬ (cap : Int) = (h : Int) := by omega
  have p6 : ¬ cap = h := by omega
  have p7 : L - h = h := by omega
  have p8 : IntKind.i64.wrap (h : Int) = h := wraps_i64 _ (by omega) (by omega)
  have p9 : (L : Int) - (h : Int) = h := by omega
  have HL32 : L ≤ 32 := by omega
  clear hL hh hcell hbd hcl ih htl
  by_cases h1 : 1 < h
  · have i1 : (1 : Int) < (h : Int) := by omega
    have hrec := IH.out h1 b off cap (c.take h) w.drew hpp HTL.out (by omega) hbl (fun i hi => by rw [getD_take _ _ _ hi]; exact HCC.out i (by omega)) (HBD.out.take _)
    generalize iv k (c.take h) = m at *
    clear IH
    go_enter Tryd.func46, Tryd.ntmps46
    go_wp2
    go_region
    go_wp2_with (first | (go_at_call 46; refine hrec.mono ?_; rintro e w1 ⟨g1, rfl, hg1, hk1, hb1⟩; have hb1 := drew_below hb1) | (at_make; refine wpList_make_full _ rfl _ _ 22 rfl w1.heap.size 2 i0 (.int .i64 0) 1 Tryd.underlying22 hi hz0 hz1 .i64 .i64 _ _ L rfl rfl (by omega) (by omega) (by rw [hz2]; omega) (by unfold maxLen; omega) (by simp) ?_))
    have HW0 := hid hb1
    have HMB := hid hk1.lt
    have HMC : Hid (∀ i, i < h → w1.cell? ⟨g1, i, none⟩ = some (.int .i64 (m.getD i 0))) := fun i hi => hk1.cell i (by rw [HML.out]; exact hi)
    clear hrec hb1 hk1
    intro w5 hown5 hgrow5
    have hb5 := grown_of_none hgrow5
    have HB5 := hid (Blk.made hown5)
    clear hown5 hgrow5
    have hB5 := bthen' HW0.out hb5
    have HW5 := hid hB5
    have z0 := HW0.out.size
    clear hB5
    go_wp2
    go_loopw [27] (fun i wr => ∃ j : Nat, j ≤ h ∧ i = .int .i64 j ∧ Blk .i64 2 wr w1.heap.size (bj h L m c j) ∧ Below w1.heap.size w1 wr) (fun i _ => h - (intOf i).toNat)
    case atStart => exact ⟨0, by omega, rfl, by rw [bj_zero]; exact HB5.out, hb5⟩
    case round =>
      clear HB5 hb5
      obtain ⟨j, hj, rfl, hblk, hbr⟩ := hrel
      have HR := hid hblk
      have HBR := hid hbr
      clear hblk hbr
      by_cases hl : j < h
      · have q1 := ((bcell HBR.out).1 _ _ HMB.out).trans (HMC.out j hl)
        have q2 := ((bcell (bthen' HW0.out HBR.out)).1 _ _ hbl).trans (HCC.out (h + j) (by have := HL.out; omega))
        have q3 := HR.out.cell (2 * j) (by rw [bj_len]; have := HL.out; omega)
        have q4 := HR.out.free (2 * j) (by rw [bj_len]; have := HL.out; omega)
        have q5 := HR.out.cell (2 * j + 1) (by rw [bj_len]; have := HL.out; omega)
        have q6 := HR.out.free (2 * j + 1) (by rw [bj_len]; have := HL.out; omega)
        have HN1 := hid (bj_next h L m c j (by have := HL.out; omega))
        have hbd1 := HMD.out j (by rw [HML.out]; exact hl)
        have hbd2 := HBD.out (h + j) (by rw [HXL.out]; have := HL.out; omega)
        have hpt := fun w => join_any (m.getD j 0) (c.getD (h + j) 0) w hbd1.1 hbd1.2 hbd2.1 hbd2.2
        generalize (bj h L m c j).getD (2 * j) 0 = z3 at q3
        generalize (bj h L m c j).getD (2 * j + 1) 0 = z5 at q5
        generalize m.getD j 0 = xm at *
        generalize c.getD (h + j) 0 = xd at *
        obtain ⟨P, hP⟩ : ∃ P : Nat, P = 2 * j := ⟨_, rfl⟩
        obtain ⟨P1, hP1⟩ : ∃ P1 : Nat, P1 = 2 * j + 1 := ⟨_, rfl⟩
        rw [← hP1, ← hP] at HN1
        rw [← hP] at q3 q4
        rw [← hP1] at q5 q6
        rw [← Nat.add_assoc] at q2
        have e1 : 2 * (j : Int) = (P : Int) := by omega
        have e2 : (P : Int) + 1 = (P1 : Int) := by omega
        have p1 : (P : Int) < (L : Int) := by have := HL.out; omega
        have p2 : (P1 : Int) < (L : Int) := by have := HL.out; omega
        have p4 : (j : Int) < (h : Int) := by omega
        have p5 : (0 : Int) ≤ (P : Int) := by omega
        have p6 : (0 : Int) ≤ (P1 : Int) := by omega
        have p8 : (0 : Int) ≤ (j : Int) := by omega
        have r1 : IntKind.i64.wrap (P : Int) = P := wraps_i64 _ (by omega) (by omega)
        have r2 : IntKind.i64.wrap (P1 : Int) = P1 := wraps_i64 _ (by omega) (by omega)
        have r4 : IntKind.i64.wrap (j : Int) = j := wraps_i64 _ (by omega) (by omega)
        have n1 : g1 ≠ w1.heap.size := by have := HMB.out; omega
        have n2 : b ≠ w1.heap.size := by omega
        have n3 : P ≠ P1 := by omega
        have n4 : P1 ≠ P := by omega
        generalize hmm : xm - xd / 2 = ra at *
        generalize hmd : ra + xd = rb at *
        clear hP hP1 hbd1 hbd2 hmm hmd
        go_wp2
        go_region_held3 (fun w' => w'.cell? ⟨g1, j, none⟩ = some (.int .i64 xm) ∧ w'.cell? ⟨b, off + h + j, none⟩ = some (.int .i64 xd)) (exact heldI (g := w1.heap.size) (c := w1.heap.size) (by first | exact Off.refl _ _ _ | exact (Off.refl _ _ _).drew | exact ((Off.refl _ _ _).set1 _ _).drew | exact (Off.refl _ _ _).set1 _ _ | exact (((Off.refl _ _ _).set1 _ _).set1 _ _).drew | exact (((Off.refl _ _ _).set1 _ _).set1 _ _)) n1 n1 n2 n2 q1 q2) (first | (go_at_call 47; refine (hpt _).mono ?_; rintro e y1 ⟨rfl, hy1⟩; have hy1 := hy1.symm; subst hy1))
        go_wp2
        refine ⟨⟨j + 1, by omega, by go_num, ?_, ?_⟩, by simp [intOf]; omega⟩
        · rw [HN1.out]; exact ((HR.out.set P ra).set P1 rb).drew
        · exact (bset2 HBR.out _ _ _ _ _ _ (Nat.le_refl _) (Nat.le_refl _)).drew
      · have hje : j = h := by omega
        have R1 : Hid (Blk .i64 2 wr w1.heap.size (iv (k + 1) c)) := by
          have := HR.out
          rw [hje, HIV.out] at this
          exact this
        have R2 := hid (bthen' HW0.out HBR.out)
        clear hje HR HBR
        go_wp2
        go_ret
        exact ⟨w1.heap.size, rfl, z0, R1.out, R2.out⟩
  · have i1 : ¬ (1 : Int) < (h : Int) := by omega
    have hk0 : k = 0 := by
      have := HH.out
      match k, this with
      | 0, _ => rfl
      | k + 1, e => rw [Nat.pow_succ] at e; omega
    subst hk0
    have HMC : Hid (∀ i, i < h → w.cell? ⟨b, off + i, none⟩ = some (.int .i64 ((iv 0 (c.take h)).getD i 0))) := fun i hi => by
      simp only [iv]
      rw [getD_take _ _ _ hi]
      exact HCC.out i (by omega)
    have HW0 := hid (Below.refl w.heap.size w)
    have HMB := hid hbl
    generalize iv 0 (c.take h) = m at *
    clear IH
    go_enter Tryd.func46, Tryd.ntmps46
    go_wp2
    go_region
    go_wp2_with (first | (at_make; refine wpList_make_full _ rfl _ _ 22 rfl w.heap.size 2 i0 (.int .i64 0) 1 Tryd.underlying22 hi hz0 hz1 .i64 .i64 _ _ L rfl rfl (by omega) (by omega) (by rw [hz2]; omega) (by unfold maxLen; omega) (by simp) ?_))
    intro w5 hown5 hgrow5
    have hb5 := drew_below (grown_of_none hgrow5)
    have HB5 := hid (Blk.made hown5)
    clear hown5 hgrow5
    have hB5 := bthen' HW0.out hb5
    have HW5 := hid hB5
    have z0 := HW0.out.size
    clear hB5
    go_wp2
    go_loopw [27] (fun i wr => ∃ j : Nat, j ≤ h ∧ i = .int .i64 j ∧ Blk .i64 2 wr w.heap.size (bj h L m c j) ∧ Below w.heap.size w wr) (fun i _ => h - (intOf i).toNat)
    case atStart => exact ⟨0, by omega, rfl, by rw [bj_zero]; exact HB5.out, hb5⟩
    case round =>
      clear HB5 hb5
      obtain ⟨j, hj, rfl, hblk, hbr⟩ := hrel
      have HR := hid hblk
      have HBR := hid hbr
      clear hblk hbr
      by_cases hl : j < h
      · have q1 := ((bcell HBR.out).1 _ _ HMB.out).trans (HMC.out j hl)
        have q2 := ((bcell (bthen' HW0.out HBR.out)).1 _ _ hbl).trans (HCC.out (h + j) (by have := HL.out; omega))
        have q3 := HR.out.cell (2 * j) (by rw [bj_len]; have := HL.out; omega)
        have q4 := HR.out.free (2 * j) (by rw [bj_len]; have := HL.out; omega)
        have q5 := HR.out.cell (2 * j + 1) (by rw [bj_len]; have := HL.out; omega)
        have q6 := HR.out.free (2 * j + 1) (by rw [bj_len]; have := HL.out; omega)
        have HN1 := hid (bj_next h L m c j (by have := HL.out; omega))
        have hbd1 := HMD.out j (by rw [HML.out]; exact hl)
        have hbd2 := HBD.out (h + j) (by rw [HXL.out]; have := HL.out; omega)
        have hpt := fun w => join_any (m.getD j 0) (c.getD (h + j) 0) w hbd1.1 hbd1.2 hbd2.1 hbd2.2
        generalize (bj h L m c j).getD (2 * j) 0 = z3 at q3
        generalize (bj h L m c j).getD (2 * j + 1) 0 = z5 at q5
        generalize m.getD j 0 = xm at *
        generalize c.getD (h + j) 0 = xd at *
        obtain ⟨P, hP⟩ : ∃ P : Nat, P = 2 * j := ⟨_, rfl⟩
        obtain ⟨P1, hP1⟩ : ∃ P1 : Nat, P1 = 2 * j + 1 := ⟨_, rfl⟩
        rw [← hP1, ← hP] at HN1
        rw [← hP] at q3 q4
        rw [← hP1] at q5 q6
        rw [← Nat.add_assoc] at q2
        have e1 : 2 * (j : Int) = (P : Int) := by omega
        have e2 : (P : Int) + 1 = (P1 : Int) := by omega
        have p1 : (P : Int) < (L : Int) := by have := HL.out; omega
        have p2 : (P1 : Int) < (L : Int) := by have := HL.out; omega
        have p4 : (j : Int) < (h : Int) := by omega
        have p5 : (0 : Int) ≤ (P : Int) := by omega
        have p6 : (0 : Int) ≤ (P1 : Int) := by omega
        have p8 : (0 : Int) ≤ (j : Int) := by omega
        have r1 : IntKind.i64.wrap (P : Int) = P := wraps_i64 _ (by omega) (by omega)
        have r2 : IntKind.i64.wrap (P1 : Int) = P1 := wraps_i64 _ (by omega) (by omega)
        have r4 : IntKind.i64.wrap (j : Int) = j := wraps_i64 _ (by omega) (by omega)
        have n1 : b ≠ w.heap.size := by have := HMB.out; omega
        have n2 : b ≠ w.heap.size := by omega
        have n3 : P ≠ P1 := by omega
        have n4 : P1 ≠ P := by omega
        generalize hmm : xm - xd / 2 = ra at *
        generalize hmd : ra + xd = rb at *
        clear hP hP1 hbd1 hbd2 hmm hmd
        go_wp2
        go_region_held3 (fun w' => w'.cell? ⟨b, off + j, none⟩ = some (.int .i64 xm) ∧ w'.cell? ⟨b, off + h + j, none⟩ = some (.int .i64 xd)) (exact heldI (g := w.heap.size) (c := w.heap.size) (by first | exact Off.refl _ _ _ | exact (Off.refl _ _ _).drew | exact ((Off.refl _ _ _).set1 _ _).drew | exact (Off.refl _ _ _).set1 _ _ | exact (((Off.refl _ _ _).set1 _ _).set1 _ _).drew | exact (((Off.refl _ _ _).set1 _ _).set1 _ _)) n1 n1 n2 n2 q1 q2) (first | (go_at_call 47; refine (hpt _).mono ?_; rintro e y1 ⟨rfl, hy1⟩; have hy1 := hy1.symm; subst hy1))
        go_wp2
        refine ⟨⟨j + 1, by omega, by go_num, ?_, ?_⟩, by simp [intOf]; omega⟩
        · rw [HN1.out]; exact ((HR.out.set P ra).set P1 rb).drew
        · exact (bset2 HBR.out _ _ _ _ _ _ (Nat.le_refl _) (Nat.le_refl _)).drew
      · have hje : j = h := by omega
        have R1 : Hid (Blk .i64 2 wr w.heap.size (iv (0 + 1) c)) := by
          have := HR.out
          rw [hje, HIV.out] at this
          exact this
        have R2 := hid (bthen' HW0.out HBR.out)
        clear hje HR HBR
        go_wp2
        go_ret
        exact ⟨w.heap.size, rfl, z0, R1.out, R2.out⟩

theorem ijoin_any (pp k : Nat) : k ≤ 4 → ∀ (b off cap : Nat) (c : List Int) (w : World), w.cell? ⟨pp, 0, none⟩ = some (.func (.func 46) #[] #[.pointer (some ⟨pp, 0, none⟩)]) → c.length = 2 ^ (k + 1) → 2 ^ (k + 1) ≤ cap → b < w.heap.size → (∀ i, i < 2 ^ (k + 1) → w.cell? ⟨b, off + i, none⟩ = some (.int .i64 (c.getD i 0))) → Bd (-67108864) 67108864 c →
    Calls Tryd.prog 46 #[.slice (some ⟨b, off, none⟩) (2 ^ (k + 1)) cap, .pointer (some ⟨pp, 0, none⟩)] w fun e w' => ∃ g : Nat, e = .returned (.slice (some ⟨g, 0, none⟩) (2 ^ (k + 1)) (2 ^ (k + 1))) ∧ w.heap.size ≤ g ∧ Blk .i64 2 w' g (iv (k + 1) c) ∧ Below w.heap.size w w' := by
  induction k with
  | zero => exact fun hk b off cap c w h1 h2 h3 h4 h5 h6 => ijoin_core pp 1 0 rfl (by omega) (fun h => absurd h (by omega)) b off cap 2 c w h1 rfl h2 h3 h4 h5 h6
  | succ k ih => exact fun hk b off cap c w h1 h2 h3 h4 h5 h6 => ijoin_core pp (2 ^ (k + 1)) (k + 1) rfl hk (fun _ => ih (by omega)) b off cap _ c w h1 (by rw [Nat.pow_succ _ (k + 1)]; omega) h2 h3 h4 h5 h6

theorem inverse_no (v : Value) (x : List Int) (w : World) (hv : Rw .i64 w v x) (hf : Fits x) (hn : x.length ≤ 200) (h : okS 67108864 x = false) : Calls Tryd.prog 37 #[v] w fun e w' => e = .returned (.tuple #[.slice none 0 0, .int .i64 1]) ∧ w' = w := by
  have hh := fun w hv => fits_any v x 67108864 w hv hf hn (by omega) (by omega)
  rw [h] at hh
  clear h
  go_enter Tryd.func37, Tryd.ntmps37
  go_wp2_with (go_at_call 45; refine (hh _ hv).mono ?_; rintro e w9 ⟨rfl, h9⟩; have h9 := h9.symm; subst h9)
  go_ret2
  exact ⟨rfl, rfl⟩

def inew (w : World) : World := w.alloc (.cells #[.func (.func 46) #[] #[.pointer (some ⟨w.heap.size, 0, none⟩)]] 46)

set_option maxHeartbeats 2000000 in
theorem inverse_ok (a : Option Addr) (cap : Nat) (x : List Int) (k : Nat) (w : World) (hv : Rw .i64 w (.slice a x.length cap) x) (hcap : x.length ≤ cap) (hk : k + 1 ≤ 5) (hl : x.length = 2 ^ (k + 1)) (hb : Bd (-67108864) 67108864 x) (hf : Fits x) : Calls Tryd.prog 37 #[.slice a x.length cap] w fun e w' => ∃ g : Nat, e = .returned (.tuple #[.slice (some ⟨g, 0, none⟩) x.length x.length, .int .i64 0]) ∧ w.heap.size ≤ g ∧ Blk .i64 2 w' g (iv (k + 1) x) ∧ Below w.heap.size w w' := by
  have hp : 2 ^ (k + 1) ≤ 2 ^ 5 := Nat.pow_le_pow_right (by decide) hk
  have hh := fun w hv => fits_any (.slice a x.length cap) x 67108864 w hv hf (by omega) (by omega) (by omega)
  rw [okS_of k hk hl hb] at hh
  have hv0 := hv
  obtain ⟨a', cap', he, ha⟩ := hv0
  simp only [Value.slice.injEq] at he
  obtain ⟨rfl, _, rfl⟩ := he
  have hpp : 0 < 2 ^ (k + 1) := Nat.pow_pos (by decide)
  obtain ⟨b, off, rfl, hlt, hc⟩ := ha.resolve_left (by intro h; subst h; simp at hl; omega)
  clear ha
  have hB := below1 w (.cells #[.func (.func 46) #[] #[.pointer (some ⟨w.heap.size, 0, none⟩)]] 46)
  have hrec := ijoin_any w.heap.size k (by omega) b off cap x (inew w) (by simp [inew, go_sem]) hl (by omega) (Nat.lt_of_lt_of_le hlt hB.size) (fun i hi => ((bcell hB).1 _ _ hlt).trans (hc i (by omega))) hb
  rw [← hl] at hrec
  have HB := hid hB
  generalize iv (k + 1) x = Y at *
  clear hp hpp hb hl hk hc hB
  obtain ⟨N, hN⟩ : ∃ N, x.length = N := ⟨_, rfl⟩
  rw [hN] at hrec hh hv ⊢
  clear hN hcap
  unfold inew at hrec
  go_enter Tryd.func37, Tryd.ntmps37
  go_wp2_with (first | (go_at_call 45; refine (hh _ hv).mono ?_; rintro e w9 ⟨rfl, h9⟩; have h9 := h9.symm; subst h9) | (go_at_call 46; refine hrec.mono ?_; rintro e w7 ⟨g7, rfl, hg7, hk7, hb7⟩))
  go_ret2
  exact ⟨g7, rfl, Nat.le_trans HB.out.size hg7, hk7, bthen' HB.out hb7⟩
end Go.Proofs.YtdfihdkkidekjaaDoor
