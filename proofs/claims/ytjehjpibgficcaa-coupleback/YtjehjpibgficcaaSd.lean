/- Contracts: Couple, Part; lists turned, by the program. -/
import Derived.Test.YtjehjpibgficcaaSc
import Derived.Deep.RegionWith
import Derived.Deep.RegionHeld3
import Derived.Deep.DeepCutAuto
import Derived.Deep.CutRange
import Derived.Deep.OwnRows
namespace Go.Proofs.Ytjehjpibgficcaa
open Go.RowKit
set_option linter.unusedVariables false
set_option linter.unusedSimpArgs false

theorem cCouple_any (x y : Int) (w : World) : Calls Try.prog 9 #[.int .i64 x, .int .i64 y] w fun e w' => e = .returned (.tuple #[.int .i64 (cWay.x x y), .int .i64 (cWay.y x y), .int .i64 (cWay.e x y)]) ∧ Below w.heap.size w w' := by
  have hm := fun w => coupling_any w
  have hp := fun w => pairC_any x y w
  generalize cWay.x x y = u at *
  generalize cWay.y x y = v at *
  generalize cWay.e x y = k at *
  go_enter Try.func9, Try.ntmps9
  go_wp2_with (first | (go_at_call 18; refine (hm _).mono ?_; rintro e w1 ⟨rfl, hb1⟩) | (go_at_call 19; refine (hp _).mono ?_; rintro e w2 ⟨rfl, hb2⟩))
  go_ret3
  exact ⟨rfl, bthen' hb1 hb2⟩
theorem cPart_any (x y : Int) (w : World) : Calls Try.prog 10 #[.int .i64 x, .int .i64 y] w fun e w' => e = .returned (.tuple #[.int .i64 (pWay.x x y), .int .i64 (pWay.y x y), .int .i64 (pWay.e x y)]) ∧ Below w.heap.size w w' := by
  have hm := fun w => parting_any w
  have hp := fun w => pairP_any x y w
  generalize pWay.x x y = u at *
  generalize pWay.y x y = v at *
  generalize pWay.e x y = k at *
  go_enter Try.func10, Try.ntmps10
  go_wp2_with (first | (go_at_call 20; refine (hm _).mono ?_; rintro e w1 ⟨rfl, hb1⟩) | (go_at_call 19; refine (hp _).mono ?_; rintro e w2 ⟨rfl, hb2⟩))
  go_ret3
  exact ⟨rfl, bthen' hb1 hb2⟩
/-- What a call of 'pair' answers. -/
def Turns (t : Way) (f : Nat) : Prop := ∀ (x y : Int) (w : World), Calls Try.prog 19 #[.agg #[.int .i64 t.M, .func (.func f) #[] #[]], .int .i64 x, .int .i64 y] w fun e w' => e = .returned (.tuple #[.int .i64 (t.x x y), .int .i64 (t.y x y), .int .i64 (t.e x y)]) ∧ Below w.heap.size w w'
theorem turnsC : Turns cWay 23 := pairC_any
theorem turnsP : Turns pWay 25 := pairP_any
theorem info_ci64 : (Try.prog.info? 2).map (fun i => (i.zero, i.size, i.bytes)) = some (some (.int .i64 0), 1, 8) := by kernel_rfl
theorem make_i64 (n : Nat) (hn : n ≤ 100) (W : World) : (Instr.makeSlice 30 (.int .i64 (n : Int)) (.int .i64 (n : Int))).run Try.prog W = .ok (.slice (some ⟨W.heap.size, 0, none⟩) n n) (W.alloc (.cells (madeCells #[.int .i64 0] n) 2)) :=
  run_make_row' (P := Try.prog) 30 2 (.int .i64 0) 8 Try.underlying30 (by kernel_rfl) rfl .i64 .i64 n (by omega) (by omega) W

theorem pairs_len (t : Way) (f : Nat) (v1 v2 : Value) (x y : List Int) (w : World) (h1 : Rw .i64 w v1 x) (h2 : Rw .i64 w v2 y) (hne : x.length ≠ y.length) (l1 : x.length ≤ 9223372036854775807) (l2 : y.length ≤ 9223372036854775807) :
    Calls Try.prog 22 #[.agg #[.int .i64 t.M, .func (.func f) #[] #[]], v1, v2] w fun e w' => e = .returned (.tuple #[.slice none 0 0, .slice none 0 0, .int .i64 1]) ∧ Below w.heap.size w w' := by
  obtain ⟨a1, c1, rfl, _⟩ := h1
  obtain ⟨a2, c2, rfl, _⟩ := h2
  generalize t.M = M
  generalize x.length = n at *
  generalize y.length = m at *
  have hne' : ((n : Int) != (m : Int)) = true := by simpa using fun e => hne (by omega)
  clear hne
  go_enter Try.func22, Try.ntmps22
  go_wp2
  go_ret3
  exact ⟨rfl, below1 _ _⟩

/-- Two lists that are made, one ahead of the other. -/
theorem two_made (W : World) (o1 o2 : Obj) : ((W.alloc o1).alloc o2).drew.heap[W.heap.size]? = some o1 ∧ ((W.alloc o1).alloc o2).drew.heap[W.heap.size + 1]? = some o2 := by
  refine ⟨?_, ?_⟩
  · have h := (below1 (W.alloc o1) o2).block W.heap.size (by simp)
    exact h.trans (heap_alloc_last W o1)
  · have h2 := heap_alloc_last (W.alloc o1) o2
    rw [World.size_alloc] at h2
    exact h2
theorem made_blk {w : World} {g n : Nat} {t : TypeId} (h : w.heap[g]? = some (.cells (madeCells #[.int .i64 0] n) t (0, 0))) : Blk .i64 t w g (tab n fun _ => 0) := by
  have e : madeCells #[.int .i64 0] n = ((tab n fun _ => 0).map (Value.int .i64)).toArray := by
    apply Array.ext'
    rw [made_one]
    simp only [← tab_zero]
    simp
  unfold Blk
  rw [← e]
  exact h

/-- All is as it was but for two blocks, and new memory. -/
def Ex (g c : Nat) (w w' : World) : Prop := w.heap.size ≤ w'.heap.size ∧ ∀ i, i < w.heap.size → i ≠ g → i ≠ c → w'.heap[i]? = w.heap[i]?
theorem Ex.refl (g c : Nat) (w : World) : Ex g c w w := ⟨Nat.le_refl _, fun _ _ _ _ => rfl⟩
theorem Ex.drew {g c : Nat} {w w' : World} (h : Ex g c w w') : Ex g c w w'.drew := h
theorem Ex.of_drew {g c : Nat} {w w' : World} (h : Ex g c w.drew w') : Ex g c w w' := h
theorem Ex.of_below {g c : Nat} {w w' : World} (h : Below w.heap.size w w') : Ex g c w w' := ⟨h.size, fun i hi _ _ => h.block i hi⟩
theorem Ex.set1 {g c : Nat} {w w' : World} (h : Ex g c w w') (o : Nat) (v : Value) : Ex g c w (w'.setCell ⟨g, o, none⟩ v) :=
  ⟨by simpa [World.setCell] using h.1, fun i hi h1 h2 => (heap_setCell_other _ _ _ _ h1).trans (h.2 i hi h1 h2)⟩
theorem Ex.set2 {g c : Nat} {w w' : World} (h : Ex g c w w') (o : Nat) (v : Value) : Ex g c w (w'.setCell ⟨c, o, none⟩ v) :=
  ⟨by simpa [World.setCell] using h.1, fun i hi h1 h2 => (heap_setCell_other _ _ _ _ h2).trans (h.2 i hi h1 h2)⟩
theorem Ex.cell {g c : Nat} {w w' : World} {b o : Nat} {v : Value} (h : Ex g c w w') (h1 : b ≠ g) (h2 : b ≠ c) (hv : w.cell? ⟨b, o, none⟩ = some v) : w'.cell? ⟨b, o, none⟩ = some v :=
  (World.cell?_of_block (w := w) (h.2 b (block_of_cell hv) h1 h2)).trans hv
theorem heldP {g c : Nat} {wr w' : World} {p b1 o1 b2 o2 : Nat} {x0 x1 y0 y1 : Value} (h : Ex g c wr w') (p1 : p ≠ g) (p2 : p ≠ c) (n1 : b1 ≠ g) (n2 : b1 ≠ c) (n3 : b2 ≠ g) (n4 : b2 ≠ c) (d0 : wr.cell? ⟨p, 0, none⟩ = some x0) (d1 : wr.cell? ⟨p, 1, none⟩ = some x1) (d2 : wr.cell? ⟨b1, o1, none⟩ = some y0) (d3 : wr.cell? ⟨b2, o2, none⟩ = some y1) :
    w'.cell? ⟨p, 0, none⟩ = some x0 ∧ w'.cell? ⟨p, 1, none⟩ = some x1 ∧ w'.cell? ⟨b1, o1, none⟩ = some y0 ∧ w'.cell? ⟨b2, o2, none⟩ = some y1 :=
  ⟨h.cell p1 p2 d0, h.cell p1 p2 d1, h.cell n1 n2 d2, h.cell n3 n4 d3⟩
/-- Behind k rounds. -/
structure Prs (t : Way) (f : Nat) (x y : List Int) (w : World) (g1 g2 : Nat) (wr : World) (k : Nat) : Prop where
  b : B2 wr w.heap.size (.int .i64 t.M) (.func (.func f) #[] #[])
  bx : Blk .i64 2 wr g1 (t.xk x y k)
  bz : Blk .i64 2 wr g2 (t.yk x y k)
  u : t.upto x y k = true
  ne : g1 ≠ g2
  z1 : w.heap.size < g1
  z2 : w.heap.size < g2
  w : Below w.heap.size w wr
theorem prs_zero {t : Way} {f : Nat} {x y : List Int} {w W : World} {n : Nat} (hn : x.length = n) (hz : W.heap.size = w.heap.size + 1) (hb : B2 W w.heap.size (.int .i64 t.M) (.func (.func f) #[] #[])) (hw : Below w.heap.size w W) :
    Prs t f x y w (w.heap.size + 1) (w.heap.size + 1 + 1) ((W.alloc (.cells (madeCells #[.int .i64 0] n) 2)).alloc (.cells (madeCells #[.int .i64 0] n) 2)).drew 0 ∧ Prs t f x y w (w.heap.size + 1 + 1) (w.heap.size + 1) ((W.alloc (.cells (madeCells #[.int .i64 0] n) 2)).alloc (.cells (madeCells #[.int .i64 0] n) 2)).drew 0 := by
  obtain ⟨p, q⟩ := two_made W (.cells (madeCells #[.int .i64 0] n) 2) (.cells (madeCells #[.int .i64 0] n) 2)
  rw [hz] at p q
  have p1 := made_blk p
  have q1 := made_blk q
  have z1 := t.xk_zero x y
  have z2 := t.yk_zero x y
  rw [hn] at z1 z2
  have hB := (below2 W (.cells (madeCells #[.int .i64 0] n) 2) (.cells (madeCells #[.int .i64 0] n) 2)).drew
  refine ⟨⟨hb.below hB, ?_, ?_, rfl, by omega, by omega, by omega, bthen hw hB hw.size⟩, ⟨hb.below hB, ?_, ?_, rfl, by omega, by omega, by omega, bthen hw hB hw.size⟩⟩
  · rw [← z1]; exact p1
  · rw [← z2]; exact q1
  · rw [← z1]; exact q1
  · rw [← z2]; exact p1

set_option maxHeartbeats 4000000 in
theorem pairs_any (t : Way) (f : Nat) (ht : Turns t f) (v1 v2 : Value) (x y : List Int) (w : World) (h1 : Rw .i64 w v1 x) (h2 : Rw .i64 w v2 y) (he : x.length = y.length) (l1 : x.length ≤ 100) :
    Calls Try.prog 22 #[.agg #[.int .i64 t.M, .func (.func f) #[] #[]], v1, v2] w fun e w' =>
      (t.all x y = true → ∃ g1 g2, e = .returned (.tuple #[.slice (some ⟨g1, 0, none⟩) x.length x.length, .slice (some ⟨g2, 0, none⟩) x.length x.length, .int .i64 0]) ∧ Blk .i64 2 w' g1 (t.xs x y) ∧ Blk .i64 2 w' g2 (t.ys x y)) ∧
      (t.all x y = false → e = .returned (.tuple #[.slice none 0 0, .slice none 0 0, .int .i64 1])) ∧ Below w.heap.size w w' := by
  have HA : Hid (t.all x y = t.upto x y x.length) := by unfold Hid Way.all; rw [decide_eq_true he, Bool.true_and]
  obtain ⟨a1, c1, e1, _⟩ := id h1
  obtain ⟨a2, c2, e2, _⟩ := id h2
  subst e1 e2
  have hat1 := fun i hi => h1.at i hi
  have hat2 := fun i hi => h2.at i hi
  rw [← he] at hat2 ⊢
  have hx0 : x.length ≠ 0 ∨ x.length = 0 := by omega
  obtain ⟨n, hn⟩ : ∃ n, x.length = n := ⟨_, rfl⟩
  have HN := hid hn
  have hmk := make_i64 n (by omega)
  rw [hn] at hat1 hat2 l1 ⊢
  have HAT1 := hid hat1
  have HAT2 := hid hat2
  have HT := hid ht
  clear hat1 hat2 he hn h1 h2 hx0 ht
  have n1 : (n : Int) ≤ 100 := by omega
  have HB0 := B2.new w (.int .i64 t.M) (.func (.func f) #[] #[]) 35
  have hW := below1 w (.cells #[.int .i64 t.M, .func (.func f) #[] #[]] 35)
  go_enter Try.func22, Try.ntmps22
  go_wp2
  have hz := World.size_alloc w (.cells #[.int .i64 t.M, .func (.func f) #[] #[]] 35)
  generalize w.alloc (.cells #[.int .i64 t.M, .func (.func f) #[] #[]] 35) = W at *
  have HBO := hid HB0
  have HW := hid hW
  clear HB0 hW
  go_cut [9, 10] (fun p q wz => ∃ g1 g2 : Nat, p = .slice (some ⟨g1, 0, none⟩) n n ∧ q = .slice (some ⟨g2, 0, none⟩) n n ∧ Hid (Prs t f x y w g1 g2 wz 0))
  case first =>
    go_region
    all_goals go_wp2
    all_goals go_meet
    all_goals first
      | exact ⟨_, _, rfl, rfl, (prs_zero HN.out hz HBO.out HW.out).1⟩
      | exact ⟨_, _, rfl, rfl, (prs_zero HN.out hz HBO.out HW.out).2⟩
  case rest =>
    obtain ⟨g1, g2, rfl, rfl, HP0⟩ := hcut
    clear hmk HBO HW hz
    go_wp2
    go_loopw [26] (fun i wr => ∃ k : Nat, k ≤ n ∧ i = .int .i64 k ∧ Hid (Prs t f x y w g1 g2 wr k)) (fun i _ => n - (intOf i).toNat)
    case atStart => exact ⟨0, by omega, rfl, HP0⟩
    case round =>
      obtain ⟨k, hk, rfl, HP⟩ := hrel
      have q1 := HP.out.ne
      have q2 := HP.out.z1
      have q3 := HP.out.z2
      by_cases hlt : k < n
      · obtain ⟨b1, o1, e1, hb1, d1⟩ := HAT1.out k hlt
        obtain ⟨b2, o2, e2, hb2, d2⟩ := HAT2.out k hlt
        subst e1 e2
        have d1 := ((bcell HP.out.w).1 _ _ hb1).trans d1
        have d2 := ((bcell HP.out.w).1 _ _ hb2).trans d2
        have d3 := HP.out.b.c0
        have d4 := HP.out.b.c1
        have hk1 : k < (t.xk x y k).length := by rw [t.xk_len, HN.out]; exact hlt
        have hk2 : k < (t.yk x y k).length := by rw [t.yk_len, HN.out]; exact hlt
        have HX1 := hid (t.xk_next x y k (by rw [HN.out]; exact hlt))
        have HX2 := hid (t.yk_next x y k (by rw [HN.out]; exact hlt))
        have HU := hid (t.upto_succ x y k)
        have hp := fun W => HT.out (x.getD k 0) (y.getD k 0) W
        have HNO : Hid (t.ok (x.getD k 0) (y.getD k 0) = false → t.upto x y n = false) := fun h => t.upto_not hlt h
        have G1 : Hid (∀ w9, Below wr.heap.size wr w9 → w9.cell? ⟨g1, k, none⟩ = some (.int .i64 ((t.xk x y k).getD k 0)) ∧ w9.frozen? ⟨g1, k, none⟩ = false ∧ w9.cell? ⟨g2, k, none⟩ = some (.int .i64 ((t.yk x y k).getD k 0)) ∧ w9.frozen? ⟨g2, k, none⟩ = false) := fun w9 h9 =>
          ⟨(HP.out.bx.below h9).cell k hk1, (HP.out.bx.below h9).free k hk1, (HP.out.bz.below h9).cell k hk2, (HP.out.bz.below h9).free k hk2⟩
        have i1 : (0 : Int) ≤ (k : Int) := by omega
        have i2 : (k : Int) < (n : Int) := by omega
        have i3 : IntKind.i64.wrap (k : Int) = k := wraps_i64 _ (by omega) (by omega)
        have n1 : w.heap.size ≠ g1 := by omega
        have n2 : w.heap.size ≠ g2 := by omega
        have n3 : b1 ≠ g1 := by omega
        have n4 : b1 ≠ g2 := by omega
        have n5 : b2 ≠ g1 := by omega
        have n6 : b2 ≠ g2 := by omega
        have n7 : g2 ≠ g1 := by omega
        unfold Way.x Way.y Way.e at hp
        generalize (t.xk x y k).getD k 0 = z1 at *
        generalize (t.yk x y k).getD k 0 = z2 at *
        clear hk1 hk2
        cases hok : t.ok (x.getD k 0) (y.getD k 0)
        · simp only [hok, Bool.false_eq_true, if_false] at hp
          have HF : Hid (t.all x y = false) := by unfold Hid; rw [HA.out, HN.out]; exact HNO.out hok
          have HWB := hid HP.out.w
          clear HNO hok HX1 HX2 HU
          generalize x.getD k 0 = X at *
          generalize y.getD k 0 = Y at *
          generalize t.M = M at *
          go_wp2
          go_region_held3 (fun w' => w'.cell? ⟨w.heap.size, 0, none⟩ = some (.int .i64 M) ∧ w'.cell? ⟨w.heap.size, 1, none⟩ = some (.func (.func f) #[] #[]) ∧ w'.cell? ⟨b1, o1 + k, none⟩ = some (.int .i64 X) ∧ w'.cell? ⟨b2, o2 + k, none⟩ = some (.int .i64 Y)) (exact heldP (g := g1) (c := g2) (by first | exact Ex.refl _ _ _ | exact (Ex.refl _ _ _).drew | exact Ex.of_below hb9 | exact (Ex.of_below hb9).drew | exact (Ex.of_below hb9).set1 _ _ | exact ((Ex.of_below hb9).set1 _ _).drew | exact (Ex.of_below hb9).set2 _ _ | exact ((Ex.of_below hb9).set2 _ _).drew | exact ((Ex.of_below hb9).set1 _ _).set2 _ _ | exact (((Ex.of_below hb9).set1 _ _).set2 _ _).drew | exact ((Ex.of_below hb9).set2 _ _).set1 _ _ | exact (((Ex.of_below hb9).set2 _ _).set1 _ _).drew) n1 n2 n3 n4 n5 n6 d3 d4 d1 d2) (first | (go_at_call 19; refine (hp _).mono ?_; rintro e w9 ⟨rfl, hb8⟩; have hb9 := drew_below hb8; obtain ⟨f1, f2, f3, f4⟩ := G1.out _ hb9))
          go_wp2
          go_ret3
          exact ⟨fun h => absurd (h.symm.trans HF.out) (by decide), fun _ => rfl, bset2 (bthen HWB.out hb9 HWB.out.size) _ _ _ _ _ _ (Nat.le_of_lt q2) (Nat.le_of_lt q3)⟩
        · simp only [hok, if_true] at hp
          have HUK : Hid (t.upto x y (k + 1) = true) := by unfold Hid; rw [HU.out, HP.out.u, hok]; rfl
          clear HNO hok HU
          generalize x.getD k 0 = X at *
          generalize y.getD k 0 = Y at *
          generalize t.F X Y = u at *
          generalize t.G X Y = v at *
          have HPM := hid HP.out.b
          generalize t.M = M at *
          go_wp2
          go_region_held3 (fun w' => w'.cell? ⟨w.heap.size, 0, none⟩ = some (.int .i64 M) ∧ w'.cell? ⟨w.heap.size, 1, none⟩ = some (.func (.func f) #[] #[]) ∧ w'.cell? ⟨b1, o1 + k, none⟩ = some (.int .i64 X) ∧ w'.cell? ⟨b2, o2 + k, none⟩ = some (.int .i64 Y)) (exact heldP (g := g1) (c := g2) (by first | exact Ex.refl _ _ _ | exact (Ex.refl _ _ _).drew | exact Ex.of_below hb9 | exact (Ex.of_below hb9).drew | exact (Ex.of_below hb9).set1 _ _ | exact ((Ex.of_below hb9).set1 _ _).drew | exact (Ex.of_below hb9).set2 _ _ | exact ((Ex.of_below hb9).set2 _ _).drew | exact ((Ex.of_below hb9).set1 _ _).set2 _ _ | exact (((Ex.of_below hb9).set1 _ _).set2 _ _).drew | exact ((Ex.of_below hb9).set2 _ _).set1 _ _ | exact (((Ex.of_below hb9).set2 _ _).set1 _ _).drew) n1 n2 n3 n4 n5 n6 d3 d4 d1 d2) (first | (go_at_call 19; refine (hp _).mono ?_; rintro e w9 ⟨rfl, hb8⟩; have hb9 := drew_below hb8; obtain ⟨f1, f2, f3, f4⟩ := G1.out _ hb9))
          go_wp2
          refine ⟨⟨k + 1, by omega, by go_num, ⟨?_, ?_, ?_, HUK.out, q1, q2, q3, bset2 (bthen HP.out.w hb9 HP.out.w.size) _ _ _ _ _ _ (Nat.le_of_lt q2) (Nat.le_of_lt q3)⟩⟩, by simp [intOf]; omega⟩
          · exact ((HP.out.b.below hb9).other g1 _ _ n1).other g2 _ _ n2
          · rw [← HX1.out]; exact ((HP.out.bx.below hb9).set k u).other g2 _ _ q1
          · rw [← HX2.out]; exact ((HP.out.bz.below hb9).other g1 _ _ n7).set k v
      · have hke : k = n := by omega
        have HR : Hid (t.all x y = true) := by unfold Hid; rw [HA.out, HN.out, ← hke]; exact HP.out.u
        have H1 : Hid (Blk .i64 2 wr g1 (t.xs x y)) := by unfold Hid; rw [← t.xk_all, HN.out, ← hke]; exact HP.out.bx
        have H2 : Hid (Blk .i64 2 wr g2 (t.ys x y)) := by unfold Hid; rw [← t.yk_all, HN.out, ← hke]; exact HP.out.bz
        have i2 : ¬ (k : Int) < (n : Int) := by omega
        have HWB := hid HP.out.w
        clear hke HAT1 HAT2
        go_wp2
        go_ret3
        exact ⟨fun _ => ⟨g1, g2, rfl, H1.out, H2.out⟩, fun h => absurd (HR.out.symm.trans h) (by decide), HWB.out⟩
end Go.Proofs.Ytjehjpibgficcaa
