/- The contract of the document's Take of gains, intra and against the gains ahead. -/
import Derived.Test.YtkfpphccpkfenaaJg
namespace Go.Proofs.Ytkfpphccpkfenaa
open Go.RowKit
set_option linter.unusedVariables false
set_option linter.unusedSimpArgs false

theorem vK_push (intra : Bool) (d : De) (y : List Int) (k : Nat) : (vK intra d y (k + 1)).map (Value.int .i64) = (vK intra d y k).map (Value.int .i64) ++ [.int .i64 (vG intra (dK intra d k) (y.getD k 0))] := by
  unfold vK; rw [tab_push]; simp
theorem row_sameB {E E' : De} (hB : E'.B = E.B) {w : World} {a : Option Addr} {cap : Nat} (h : Rw .u8 w (.slice a E.B.length cap) E.B) : Rw .u8 w (.slice a E'.B.length cap) E'.B := by rw [hB]; exact h
theorem owns4 {w : World} {base : Nat} {e : TypeId} {v : Value} {n : Nat} {xs : List Value} (h : w.ownsRow base e 1 v n xs) (p : Nat) (hp : p < base) (x0 x1 x2 x3 : Value) : ((((w.setCell ⟨p, 0, none⟩ x0).setCell ⟨p, 1, none⟩ x1).setCell ⟨p, 2, none⟩ x2).setCell ⟨p, 3, none⟩ x3).ownsRow base e 1 v n xs :=
  owns_other (owns_other (owns_other (owns_other h _ _ _ hp) _ _ _ hp) _ _ _ hp) _ _ _ hp
theorem B4.other4 {w : World} {b : Nat} {z0 z1 z2 z3 : Value} (h : B4 w b z0 z1 z2 z3) (p : Nat) (hne : b ≠ p) (x0 x1 x2 x3 : Value) : B4 ((((w.setCell ⟨p, 0, none⟩ x0).setCell ⟨p, 1, none⟩ x1).setCell ⟨p, 2, none⟩ x2).setCell ⟨p, 3, none⟩ x3) b z0 z1 z2 z3 :=
  (((h.other _ _ _ hne).other _ _ _ hne).other _ _ _ hne).other _ _ _ hne
theorem B4.grown {w w' : World} {b : Nat} {x0 x1 x2 x3 : Value} {o : Option Nat} (h : B4 w b x0 x1 x2 x3) (hg : w.grownBy w' o) (hne : o ≠ some b) : B4 w' b x0 x1 x2 x3 := by
  have e := hg.block b h.z (fun hh => hne hh.symm)
  exact ⟨Nat.lt_of_lt_of_le h.z hg.size, (World.cell?_of_block (w := w) e).trans h.c0, (World.cell?_of_block (w := w) e).trans h.c1, (World.cell?_of_block (w := w) e).trans h.c2, (World.cell?_of_block (w := w) e).trans h.c3, (World.frozen?_of_block (w := w) e).trans h.f0, (World.frozen?_of_block (w := w) e).trans h.f1, (World.frozen?_of_block (w := w) e).trans h.f2, (World.frozen?_of_block (w := w) e).trans h.f3⟩
/-- What the document's Take answers. -/
def RTakeP (w : World) (x : Ending) (w' : World) (a : Option Addr) (cap : Nat) (D : De) (v : List Int) : Prop := ∃ ov, x = .returned (.tuple #[.agg #[.int .u64 D.C, .int .u64 D.R, .slice a D.B.length cap, .int .i64 D.A], ov]) ∧ Rw .i64 w' ov v ∧ Below w.heap.size w w'

theorem clampI_cases3 (K : Int) : (K < 0 ∧ clampI K 0 44 = 0) ∨ (0 ≤ K ∧ K ≤ 44 ∧ clampI K 0 44 = K) ∨ (44 < K ∧ clampI K 0 44 = 44) := by
  unfold clampI
  split
  · omega
  · split <;> omega
set_option maxRecDepth 10000 in
set_option maxHeartbeats 4000000 in
theorem rgtake_alone (a : Option Addr) (cap : Nat) (d : De) (ay : Option Addr) (ny cy : Nat) (y : List Int) (hy : ny = y.length) (w : World) (h : d.Ok) (hr : Rw .u8 w (.slice a d.B.length cap) d.B) (hvy : Rw .i64 w (.slice ay ny cy) y) :
    Calls Try.prog 18 #[.agg #[.int .u64 d.C, .int .u64 d.R, .slice a d.B.length cap, .int .i64 d.A], .slice ay ny cy, .bool true] w fun x w' => RTakeP w x w' a cap (dK true d 5) (vK true d y 5) := by
  obtain ⟨i0, hi, hz0, hz1, hz2⟩ := info_parts info_int
  have hW := below2 w (.cells #[.int .u64 d.C, .int .u64 d.R, .slice a d.B.length cap, .int .i64 d.A] 46) (.cells #[.int .u64 0, .int .u64 0, .slice none 0 0, .int .i64 0] 46)
  have HVP := hid (vK_push true d y)
  have HOK := hid (dK_ok h true)
  have HRW := hid (fun k => row_sameB (dK_B d true k) hr)
  have Hvy := hid hvy
  have hB3 : B4 ((w.alloc (.cells #[.int .u64 d.C, .int .u64 d.R, .slice a d.B.length cap, .int .i64 d.A] 46)).alloc (.cells #[.int .u64 0, .int .u64 0, .slice none 0 0, .int .i64 0] 46)) w.heap.size (.int .u64 d.C) (.int .u64 d.R) (.slice a d.B.length cap) (.int .i64 d.A) := (B4.new w _ _ _ _ _).below (below1 _ _)
  have hB6 : B4 ((w.alloc (.cells #[.int .u64 d.C, .int .u64 d.R, .slice a d.B.length cap, .int .i64 d.A] 46)).alloc (.cells #[.int .u64 0, .int .u64 0, .slice none 0 0, .int .i64 0] 46)) (w.heap.size + 1) (.int .u64 0) (.int .u64 0) (.slice none 0 0) (.int .i64 0) := B4.new2 w _ _ _ _ _ _
  have HD0 : Hid (d = dK true d 0) := rfl
  have HV0 : Hid (([] : List Value) = (vK true d y 0).map (Value.int .i64)) := rfl
  obtain ⟨D5, hD5⟩ : ∃ D5, dK true d 5 = D5 := ⟨_, rfl⟩
  obtain ⟨V5, hV5⟩ : ∃ V5, vK true d y 5 = V5 := ⟨_, rfl⟩
  rw [hD5, hV5]
  have HD5 := hid hD5
  have HV5 := hid hV5
  unfold RTakeP
  clear h hr hvy hy hD5 hV5
  go_enter Try.func18, Try.ntmps18
  go_wp2
  go_loopw [8, 9] (fun o i wr => ∃ (k : Nat) (E : De), k ≤ 5 ∧ i = .int .i64 (k : Nat) ∧ Hid (E = dK true d k) ∧ B4 wr w.heap.size (.int .u64 E.C) (.int .u64 E.R) (.slice a E.B.length cap) (.int .i64 E.A) ∧ B4 wr (w.heap.size + 1) (.int .u64 0) (.int .u64 0) (.slice none 0 0) (.int .i64 0) ∧ wr.ownsRow (w.heap.size + 1 + 1) 3 1 o k ((vK true d y k).map (Value.int .i64)) ∧ Below w.heap.size w wr) (fun _ i _ => 5 - (intOf i).toNat)
  case atStart => exact ⟨0, d, by omega, rfl, HD0.out, hB3, hB6, by rw [← HV0.out]; exact World.ownsRow_nil _ _ _ _, hW⟩
  case round =>
    clear hB3 hB6 hW HD0 HV0
    obtain ⟨k, E, hk, rfl, HE, hB3, hB6, hown, hbel⟩ := hrel
    obtain ⟨W1, rfl⟩ : ∃ z, z = wr := ⟨wr, rfl⟩
    by_cases hlt : k < 5
    · have HN := hid (HVP.out k)
      have hEok : E.Ok := by rw [HE.out]; exact HOK.out k
      have hrw : Rw .u8 w (.slice a E.B.length cap) E.B := by rw [HE.out]; exact HRW.out k
      have HDE : Hid (dK true d (k + 1) = dG true E) := by unfold Hid; rw [HE.out]; rfl
      have HVE : Hid (vG true (dK true d k) (y.getD k 0) = vG true E (y.getD k 0)) := by unfold Hid; rw [HE.out]
      rw [HVE.out] at HN
      obtain ⟨z3, d0, d1, d2, d3, df0, df1, df2, df3⟩ := id hB3
      have i1 : (0 : Int) ≤ (k : Int) := by omega
      have i2 : (k : Int) < 5 := by omega
      have i3 : IntKind.i64.wrap (k : Int) = k := wraps_i64 _ (by omega) (by omega)
      have hrwN := hrw
      have htn := fun W hr => rtakeNum_any a cap E 45 (by decide) (by decide) W hEok hr
      have HG1 := hid (dG_alone E)
      have hv1 := vG_alone E (y.getD k 0)
      rw [hv1] at HN
      have hV64 := numV_lt E (n := 45) (by decide) (by decide)
      unfold decW at htn
      have HGD : Hid (E.numD 45 = dG true E) := (dG_alone E).symm
      generalize E.numD 45 = D at htn HGD
      generalize E.numV 45 = V at htn HN hV64 hv1
      have iV : IntKind.i64.wrap (V : Int) = V := wraps_i64 _ (by omega) (by omega)
      clear hv1 HVE HG1
      go_wp2_with (first | (go_at_call 39; refine (htn _ (hrwN.below hbel)).mono ?_; rintro xx w3 ⟨rfl, hb3⟩; have hbN := bset4 ((bthen hbel hb3 hbel.size).alloc (bthen hbel hb3 hbel.size).size (.cells #[.int .u64 D.C, .int .u64 D.R, .slice a D.B.length cap, .int .i64 D.A] 46)) w.heap.size (.int .u64 D.C) (.int .u64 D.R) (.slice a D.B.length cap) (.int .i64 D.A) (Nat.le_refl _); have hxN := hB3.below hb3; have hB3N := (hxN.below (below1 w3 (.cells #[.int .u64 D.C, .int .u64 D.R, .slice a D.B.length cap, .int .i64 D.A] 46))).set (.int .u64 D.C) (.int .u64 D.R) (.slice a D.B.length cap) (.int .i64 D.A); have hB6N := ((hB6.below hb3).below (below1 w3 (.cells #[.int .u64 D.C, .int .u64 D.R, .slice a D.B.length cap, .int .i64 D.A] 46))).other4 w.heap.size (by omega) (.int .u64 D.C) (.int .u64 D.R) (.slice a D.B.length cap) (.int .i64 D.A); have hON := owns4 ((owns_below hown hb3).alloc (.cells #[.int .u64 D.C, .int .u64 D.R, .slice a D.B.length cap, .int .i64 D.A] 46)) w.heap.size (by omega) (.int .u64 D.C) (.int .u64 D.R) (.slice a D.B.length cap) (.int .i64 D.A); obtain ⟨n0, n1, n2, n3, n4, n5, n6, n7, n8⟩ := hxN.below (below1 w3 (.cells #[.int .u64 D.C, .int .u64 D.R, .slice a D.B.length cap, .int .i64 D.A] 46))) | (at_builtin; refine wpList_append_own _ rfl _ _ 27 rfl (w.heap.size + 1 + 1) 3 i0 (.int .i64 0) 1 8 Try.underlying27 hi hz0 hz1 hz2 rfl (by decide) _ _ _ rfl (hON.alloc _) ⟨_, 0, none⟩ 1 1 [.int .i64 (V : Int)] rfl rfl (cell_one_at (by simp [World.setCell]) _ _) (one_cell _ _) ?c3 ?c4 ?c5 ?_))
      case c3 => unfold maxLen; omega
      case c4 => omega
      case c5 => first | (have hz6 := hB6N.z; rw [World.size_alloc]; omega) | (have hz6 := hB6N.z; omega) | (simp [World.setCell]; omega)
      intro v' w9 hown' hgrow _
      have hlt9 := hON.lt
      have hb9 := (hbN.alloc hbN.size (.cells #[.int .i64 (V : Int)] 3)).grown hgrow (hbN.alloc hbN.size _).size (fun i e => by have := (hlt9 i e).1; omega)
      have hB39 := (hB3N.below (below1 _ (.cells #[.int .i64 (V : Int)] 3))).grown hgrow (fun e => by have := (hlt9 _ e).1; omega)
      have hB69 := (hB6N.below (below1 _ (.cells #[.int .i64 (V : Int)] 3))).grown hgrow (fun e => by have := (hlt9 _ e).1; omega)
      go_wp2
      go_roundw
      case rel => exact ⟨k + 1, D, by omega, by go_num, by unfold Hid; rw [HDE.out]; exact HGD.out, hB39, hB69, by rw [HN.out]; exact hown', hb9⟩
      case measure => simp [intOf]; omega

    · obtain rfl : k = 5 := by omega
      obtain rfl : E = D5 := HE.out.trans HD5.out
      rw [HV5.out] at hown
      obtain ⟨z3, d0, d1, d2, d3, df0, df1, df2, df3⟩ := id hB3
      obtain ⟨rz, r0, r1, r2, r3, p0, p1, p2, p3⟩ := id hB6
      have HR := hid (RwF.of_owns hown)
      clear hown hlt HE HD5
      go_wp2
      exact bodyPost_ret (v := .tuple #[.agg #[.int .u64 E.C, .int .u64 E.R, .slice a E.B.length cap, .int .i64 E.A], _]) (by simp [results, Try.results18, go_sem, r0, r1, r2, r3, p0, p1, p2, p3]) rfl ⟨_, rfl, ((((HR.out.set _ _ _ (by omega)).set _ _ _ (by omega)).set _ _ _ (by omega)).set _ _ _ (by omega)).rw, bset4 hbel _ _ _ _ _ (by omega)⟩

set_option maxRecDepth 10000 in
set_option maxHeartbeats 4000000 in
theorem rgtake_against (a : Option Addr) (cap : Nat) (d : De) (ay : Option Addr) (ny cy : Nat) (y : List Int) (hy : ny = y.length) (w : World) (h : d.Ok) (hr : Rw .u8 w (.slice a d.B.length cap) d.B) (hvy : Rw .i64 w (.slice ay ny cy) y) (hgy : gokB y = true) :
    Calls Try.prog 18 #[.agg #[.int .u64 d.C, .int .u64 d.R, .slice a d.B.length cap, .int .i64 d.A], .slice ay ny cy, .bool false] w fun x w' => RTakeP w x w' a cap (dK false d 5) (vK false d y 5) := by
  obtain ⟨i0, hi, hz0, hz1, hz2⟩ := info_parts info_int
  have hW := below2 w (.cells #[.int .u64 d.C, .int .u64 d.R, .slice a d.B.length cap, .int .i64 d.A] 46) (.cells #[.int .u64 0, .int .u64 0, .slice none 0 0, .int .i64 0] 46)
  have Hgy := hid hgy
  obtain rfl : ny = 5 := hy.trans (gok_len hgy)
  clear hgy
  have HVP := hid (vK_push false d y)
  have HOK := hid (dK_ok h false)
  have HRW := hid (fun k => row_sameB (dK_B d false k) hr)
  have Hvy := hid hvy
  have hB3 : B4 ((w.alloc (.cells #[.int .u64 d.C, .int .u64 d.R, .slice a d.B.length cap, .int .i64 d.A] 46)).alloc (.cells #[.int .u64 0, .int .u64 0, .slice none 0 0, .int .i64 0] 46)) w.heap.size (.int .u64 d.C) (.int .u64 d.R) (.slice a d.B.length cap) (.int .i64 d.A) := (B4.new w _ _ _ _ _).below (below1 _ _)
  have hB6 : B4 ((w.alloc (.cells #[.int .u64 d.C, .int .u64 d.R, .slice a d.B.length cap, .int .i64 d.A] 46)).alloc (.cells #[.int .u64 0, .int .u64 0, .slice none 0 0, .int .i64 0] 46)) (w.heap.size + 1) (.int .u64 0) (.int .u64 0) (.slice none 0 0) (.int .i64 0) := B4.new2 w _ _ _ _ _ _
  have HD0 : Hid (d = dK false d 0) := rfl
  have HV0 : Hid (([] : List Value) = (vK false d y 0).map (Value.int .i64)) := rfl
  obtain ⟨D5, hD5⟩ : ∃ D5, dK false d 5 = D5 := ⟨_, rfl⟩
  obtain ⟨V5, hV5⟩ : ∃ V5, vK false d y 5 = V5 := ⟨_, rfl⟩
  rw [hD5, hV5]
  have HD5 := hid hD5
  have HV5 := hid hV5
  unfold RTakeP
  clear h hr hvy hy hD5 hV5
  go_enter Try.func18, Try.ntmps18
  go_wp2
  go_loopw [8, 9] (fun o i wr => ∃ (k : Nat) (E : De), k ≤ 5 ∧ i = .int .i64 (k : Nat) ∧ Hid (E = dK false d k) ∧ B4 wr w.heap.size (.int .u64 E.C) (.int .u64 E.R) (.slice a E.B.length cap) (.int .i64 E.A) ∧ B4 wr (w.heap.size + 1) (.int .u64 0) (.int .u64 0) (.slice none 0 0) (.int .i64 0) ∧ wr.ownsRow (w.heap.size + 1 + 1) 3 1 o k ((vK false d y k).map (Value.int .i64)) ∧ Below w.heap.size w wr) (fun _ i _ => 5 - (intOf i).toNat)
  case atStart => exact ⟨0, d, by omega, rfl, HD0.out, hB3, hB6, by rw [← HV0.out]; exact World.ownsRow_nil _ _ _ _, hW⟩
  case round =>
    clear hB3 hB6 hW HD0 HV0
    obtain ⟨k, E, hk, rfl, HE, hB3, hB6, hown, hbel⟩ := hrel
    obtain ⟨W1, rfl⟩ : ∃ z, z = wr := ⟨wr, rfl⟩
    by_cases hlt : k < 5
    · have HN := hid (HVP.out k)
      have hEok : E.Ok := by rw [HE.out]; exact HOK.out k
      have hrw : Rw .u8 w (.slice a E.B.length cap) E.B := by rw [HE.out]; exact HRW.out k
      have HDE : Hid (dK false d (k + 1) = dG false E) := by unfold Hid; rw [HE.out]; rfl
      have HVE : Hid (vG false (dK false d k) (y.getD k 0) = vG false E (y.getD k 0)) := by unfold Hid; rw [HE.out]
      rw [HVE.out] at HN
      obtain ⟨z3, d0, d1, d2, d3, df0, df1, df2, df3⟩ := id hB3
      have i1 : (0 : Int) ≤ (k : Int) := by omega
      have i2 : (k : Int) < 5 := by omega
      have i3 : IntKind.i64.wrap (k : Int) = k := wraps_i64 _ (by omega) (by omega)
      obtain ⟨G, hG, hG4⟩ := gok_at Hgy.out k hlt
      obtain ⟨b', off', rfl, hb', hcy⟩ := Hvy.out.atn k hlt
      rw [hG] at hcy HN
      have hbb' : b' ≠ w.heap.size := by omega
      have HGD := hid (dG_against E)
      have hget := fun W => rget_w a cap E 8 W hEok (by decide) (by decide)
      have hget8 := numV_small E (n := 8) (by decide)
      have hnum8 := numD_small E (n := 8) (by decide)
      have hlt8 := numV_lt E (n := 8) (by decide) (by decide)
      have htake := fun W hr => rtake_w a cap E (E.get 8) 8 W hEok hr (fair_one (by rw [← hget8]; exact hlt8) (by decide))
      rw [← hnum8] at htake
      rw [← hget8] at htake hget
      have hok8 := hEok.numD (n := 8) (by decide) (by decide)
      have hrw8 := row_sameB (De.numD_B E 8) hrw
      have hvv := vG_against E (G : Int)
      rw [hvv] at HN
      clear hvv hget8 hnum8 HVE
      generalize E.numD 8 = E8 at *
      generalize E.numV 8 = V8 at *
      by_cases h7 : V8 = 7
      · subst h7
        have htn := fun W hr => rtakeNum_any a cap E8 45 (by decide) (by decide) W hok8 hr
        rw [if_pos rfl] at HN HGD
        have hV64 := numV_lt E8 (n := 45) (by decide) (by decide)
        unfold decW at htn
        generalize E8.numD 45 = D at *
        generalize E8.numV 45 = V at *
        have hrwN := hrw8
        have iV : IntKind.i64.wrap (V : Int) = V := wraps_i64 _ (by omega) (by omega)
        clear hlt8
        go_wp2_with (first | (go_at_call 37; refine (hget _).mono ?_; rintro xx w1 ⟨rfl, hb1⟩; have hbA := bthen hbel hb1 hbel.size; have hB3A := hB3.below hb1; have hB6A := hB6.below hb1; have hOA := owns_below hown hb1; obtain ⟨a0, a1, a2, a3, a4, a5, a6, a7, a8⟩ := id hB3A) | (go_at_call 38; refine (htake _ (hrw.below hbA)).mono ?_; rintro xx w2 ⟨rfl, hb2⟩; have hbB := bset4 (bthen hbA hb2 hbA.size) w.heap.size (.int .u64 E8.C) (.int .u64 E8.R) (.slice a E8.B.length cap) (.int .i64 E8.A) (Nat.le_refl _); have hxB := hB3A.below hb2; have hB3B := hxB.set (.int .u64 E8.C) (.int .u64 E8.R) (.slice a E8.B.length cap) (.int .i64 E8.A); have hB6B := (hB6A.below hb2).other4 w.heap.size (by omega) (.int .u64 E8.C) (.int .u64 E8.R) (.slice a E8.B.length cap) (.int .i64 E8.A); have hOB := owns4 (owns_below hOA hb2) w.heap.size (by omega) (.int .u64 E8.C) (.int .u64 E8.R) (.slice a E8.B.length cap) (.int .i64 E8.A); obtain ⟨b0, b1, b2, b3, b4, b5, b6, b7, b8⟩ := id hxB; obtain ⟨k0, k1, k2, k3, k4, k5, k6, k7, k8⟩ := id hB3B; have dyB := (hbB.cell (p := ⟨b', off' + k, none⟩) hb').trans hcy) | (go_at_call 39; refine (htn _ (hrwN.below hbB)).mono ?_; rintro xx w3 ⟨rfl, hb3⟩; have hbN := bset4 ((bthen hbB hb3 hbB.size).alloc (bthen hbB hb3 hbB.size).size (.cells #[.int .u64 D.C, .int .u64 D.R, .slice a D.B.length cap, .int .i64 D.A] 46)) w.heap.size (.int .u64 D.C) (.int .u64 D.R) (.slice a D.B.length cap) (.int .i64 D.A) (Nat.le_refl _); have hxN := hB3B.below hb3; have hB3N := (hxN.below (below1 w3 (.cells #[.int .u64 D.C, .int .u64 D.R, .slice a D.B.length cap, .int .i64 D.A] 46))).set (.int .u64 D.C) (.int .u64 D.R) (.slice a D.B.length cap) (.int .i64 D.A); have hB6N := ((hB6B.below hb3).below (below1 w3 (.cells #[.int .u64 D.C, .int .u64 D.R, .slice a D.B.length cap, .int .i64 D.A] 46))).other4 w.heap.size (by omega) (.int .u64 D.C) (.int .u64 D.R) (.slice a D.B.length cap) (.int .i64 D.A); have hON := owns4 ((owns_below hOB hb3).alloc (.cells #[.int .u64 D.C, .int .u64 D.R, .slice a D.B.length cap, .int .i64 D.A] 46)) w.heap.size (by omega) (.int .u64 D.C) (.int .u64 D.R) (.slice a D.B.length cap) (.int .i64 D.A); obtain ⟨n0, n1, n2, n3, n4, n5, n6, n7, n8⟩ := hxN.below (below1 w3 (.cells #[.int .u64 D.C, .int .u64 D.R, .slice a D.B.length cap, .int .i64 D.A] 46))) | (at_builtin; refine wpList_append_own _ rfl _ _ 27 rfl (w.heap.size + 1 + 1) 3 i0 (.int .i64 0) 1 8 Try.underlying27 hi hz0 hz1 hz2 rfl (by decide) _ _ _ rfl (hON.alloc _) ⟨_, 0, none⟩ 1 1 [.int .i64 (V : Int)] rfl rfl (cell_one_at (by simp [World.setCell]) _ _) (one_cell _ _) ?c3 ?c4 ?c5 ?_))
        case c3 => unfold maxLen; omega
        case c4 => omega
        case c5 => first | (have hz6 := hB6N.z; rw [World.size_alloc]; omega) | (have hz6 := hB6N.z; omega) | (simp [World.setCell]; omega)
        intro v' w9 hown' hgrow _
        have hlt9 := hON.lt
        have hb9 := (hbN.alloc hbN.size (.cells #[.int .i64 (V : Int)] 3)).grown hgrow (hbN.alloc hbN.size _).size (fun i e => by have := (hlt9 i e).1; omega)
        have hB39 := (hB3N.below (below1 _ (.cells #[.int .i64 (V : Int)] 3))).grown hgrow (fun e => by have := (hlt9 _ e).1; omega)
        have hB69 := (hB6N.below (below1 _ (.cells #[.int .i64 (V : Int)] 3))).grown hgrow (fun e => by have := (hlt9 _ e).1; omega)
        go_wp2
        go_roundw
        case rel => exact ⟨k + 1, D, by omega, by go_num, by unfold Hid; rw [HDE.out]; exact HGD.out.symm, hB39, hB69, by rw [HN.out]; exact hown', hb9⟩
        case measure => simp [intOf]; omega
      · rw [if_neg h7] at HN HGD
        have hV7 : ((V8 : Int) == 7) = false := by simp; omega
        obtain ⟨S, hS⟩ : ∃ S : Int, (G : Int) + (V8 : Int) = S := ⟨_, rfl⟩
        have hS0 : 0 ≤ S := by omega
        have hS1 : S ≤ 52 := by omega
        rw [hS] at HN
        have hcl := clampI_cases3 (S - 3)
        generalize clampI (S - 3) 0 44 = Q at *
        clear hlt8 h7 hrw8 hok8
        rcases hcl with ⟨k1, rfl⟩ | ⟨k1, k2, rfl⟩ | ⟨k1, rfl⟩
        · go_wp2_with (first | (go_at_call 37; refine (hget _).mono ?_; rintro xx w1 ⟨rfl, hb1⟩; have hbA := bthen hbel hb1 hbel.size; have hB3A := hB3.below hb1; have hB6A := hB6.below hb1; have hOA := owns_below hown hb1; obtain ⟨a0, a1, a2, a3, a4, a5, a6, a7, a8⟩ := id hB3A) | (go_at_call 38; refine (htake _ (hrw.below hbA)).mono ?_; rintro xx w2 ⟨rfl, hb2⟩; have hbB := bset4 (bthen hbA hb2 hbA.size) w.heap.size (.int .u64 E8.C) (.int .u64 E8.R) (.slice a E8.B.length cap) (.int .i64 E8.A) (Nat.le_refl _); have hxB := hB3A.below hb2; have hB3B := hxB.set (.int .u64 E8.C) (.int .u64 E8.R) (.slice a E8.B.length cap) (.int .i64 E8.A); have hB6B := (hB6A.below hb2).other4 w.heap.size (by omega) (.int .u64 E8.C) (.int .u64 E8.R) (.slice a E8.B.length cap) (.int .i64 E8.A); have hOB := owns4 (owns_below hOA hb2) w.heap.size (by omega) (.int .u64 E8.C) (.int .u64 E8.R) (.slice a E8.B.length cap) (.int .i64 E8.A); obtain ⟨b0, b1, b2, b3, b4, b5, b6, b7, b8⟩ := id hxB; obtain ⟨k0, k1, k2, k3, k4, k5, k6, k7, k8⟩ := id hB3B; have dyB := (hbB.cell (p := ⟨b', off' + k, none⟩) hb').trans hcy) | (at_builtin; refine wpList_append_own _ rfl _ _ 27 rfl (w.heap.size + 1 + 1) 3 i0 (.int .i64 0) 1 8 Try.underlying27 hi hz0 hz1 hz2 rfl (by decide) _ _ _ rfl (hOB.alloc _) ⟨_, 0, none⟩ 1 1 [.int .i64 0] rfl rfl (cell_one_at (by simp [World.setCell]) _ _) (one_cell _ _) ?c3 ?c4 ?c5 ?_))
          case c3 => unfold maxLen; omega
          case c4 => omega
          case c5 => first | (have hz6 := hB6B.z; rw [World.size_alloc]; omega) | (have hz6 := hB6B.z; omega) | (simp [World.setCell]; omega)
          intro v' w9 hown' hgrow _
          have hlt9 := hOB.lt
          have hb9 := (hbB.alloc hbB.size (.cells #[.int .i64 0] 3)).grown hgrow (hbB.alloc hbB.size _).size (fun i e => by have := (hlt9 i e).1; omega)
          have hB39 := (hB3B.below (below1 _ (.cells #[.int .i64 0] 3))).grown hgrow (fun e => by have := (hlt9 _ e).1; omega)
          have hB69 := (hB6B.below (below1 _ (.cells #[.int .i64 0] 3))).grown hgrow (fun e => by have := (hlt9 _ e).1; omega)
          go_wp2
          go_roundw
          case rel => exact ⟨k + 1, E8, by omega, by go_num, by unfold Hid; rw [HDE.out]; exact HGD.out.symm, hB39, hB69, by rw [HN.out]; exact hown', hb9⟩
          case measure => simp [intOf]; omega
        · go_wp2_with (first | (go_at_call 37; refine (hget _).mono ?_; rintro xx w1 ⟨rfl, hb1⟩; have hbA := bthen hbel hb1 hbel.size; have hB3A := hB3.below hb1; have hB6A := hB6.below hb1; have hOA := owns_below hown hb1; obtain ⟨a0, a1, a2, a3, a4, a5, a6, a7, a8⟩ := id hB3A) | (go_at_call 38; refine (htake _ (hrw.below hbA)).mono ?_; rintro xx w2 ⟨rfl, hb2⟩; have hbB := bset4 (bthen hbA hb2 hbA.size) w.heap.size (.int .u64 E8.C) (.int .u64 E8.R) (.slice a E8.B.length cap) (.int .i64 E8.A) (Nat.le_refl _); have hxB := hB3A.below hb2; have hB3B := hxB.set (.int .u64 E8.C) (.int .u64 E8.R) (.slice a E8.B.length cap) (.int .i64 E8.A); have hB6B := (hB6A.below hb2).other4 w.heap.size (by omega) (.int .u64 E8.C) (.int .u64 E8.R) (.slice a E8.B.length cap) (.int .i64 E8.A); have hOB := owns4 (owns_below hOA hb2) w.heap.size (by omega) (.int .u64 E8.C) (.int .u64 E8.R) (.slice a E8.B.length cap) (.int .i64 E8.A); obtain ⟨b0, b1, b2, b3, b4, b5, b6, b7, b8⟩ := id hxB; obtain ⟨k0, k1, k2, k3, k4, k5, k6, k7, k8⟩ := id hB3B; have dyB := (hbB.cell (p := ⟨b', off' + k, none⟩) hb').trans hcy) | (at_builtin; refine wpList_append_own _ rfl _ _ 27 rfl (w.heap.size + 1 + 1) 3 i0 (.int .i64 0) 1 8 Try.underlying27 hi hz0 hz1 hz2 rfl (by decide) _ _ _ rfl (hOB.alloc _) ⟨_, 0, none⟩ 1 1 [.int .i64 (S - 3)] rfl rfl (cell_one_at (by simp [World.setCell]) _ _) (one_cell _ _) ?c3 ?c4 ?c5 ?_))
          case c3 => unfold maxLen; omega
          case c4 => omega
          case c5 => first | (have hz6 := hB6B.z; rw [World.size_alloc]; omega) | (have hz6 := hB6B.z; omega) | (simp [World.setCell]; omega)
          intro v' w9 hown' hgrow _
          have hlt9 := hOB.lt
          have hb9 := (hbB.alloc hbB.size (.cells #[.int .i64 (S - 3)] 3)).grown hgrow (hbB.alloc hbB.size _).size (fun i e => by have := (hlt9 i e).1; omega)
          have hB39 := (hB3B.below (below1 _ (.cells #[.int .i64 (S - 3)] 3))).grown hgrow (fun e => by have := (hlt9 _ e).1; omega)
          have hB69 := (hB6B.below (below1 _ (.cells #[.int .i64 (S - 3)] 3))).grown hgrow (fun e => by have := (hlt9 _ e).1; omega)
          go_wp2
          go_roundw
          case rel => exact ⟨k + 1, E8, by omega, by go_num, by unfold Hid; rw [HDE.out]; exact HGD.out.symm, hB39, hB69, by rw [HN.out]; exact hown', hb9⟩
          case measure => simp [intOf]; omega
        · go_wp2_with (first | (go_at_call 37; refine (hget _).mono ?_; rintro xx w1 ⟨rfl, hb1⟩; have hbA := bthen hbel hb1 hbel.size; have hB3A := hB3.below hb1; have hB6A := hB6.below hb1; have hOA := owns_below hown hb1; obtain ⟨a0, a1, a2, a3, a4, a5, a6, a7, a8⟩ := id hB3A) | (go_at_call 38; refine (htake _ (hrw.below hbA)).mono ?_; rintro xx w2 ⟨rfl, hb2⟩; have hbB := bset4 (bthen hbA hb2 hbA.size) w.heap.size (.int .u64 E8.C) (.int .u64 E8.R) (.slice a E8.B.length cap) (.int .i64 E8.A) (Nat.le_refl _); have hxB := hB3A.below hb2; have hB3B := hxB.set (.int .u64 E8.C) (.int .u64 E8.R) (.slice a E8.B.length cap) (.int .i64 E8.A); have hB6B := (hB6A.below hb2).other4 w.heap.size (by omega) (.int .u64 E8.C) (.int .u64 E8.R) (.slice a E8.B.length cap) (.int .i64 E8.A); have hOB := owns4 (owns_below hOA hb2) w.heap.size (by omega) (.int .u64 E8.C) (.int .u64 E8.R) (.slice a E8.B.length cap) (.int .i64 E8.A); obtain ⟨b0, b1, b2, b3, b4, b5, b6, b7, b8⟩ := id hxB; obtain ⟨k0, k1, k2, k3, k4, k5, k6, k7, k8⟩ := id hB3B; have dyB := (hbB.cell (p := ⟨b', off' + k, none⟩) hb').trans hcy) | (at_builtin; refine wpList_append_own _ rfl _ _ 27 rfl (w.heap.size + 1 + 1) 3 i0 (.int .i64 0) 1 8 Try.underlying27 hi hz0 hz1 hz2 rfl (by decide) _ _ _ rfl (hOB.alloc _) ⟨_, 0, none⟩ 1 1 [.int .i64 44] rfl rfl (cell_one_at (by simp [World.setCell]) _ _) (one_cell _ _) ?c3 ?c4 ?c5 ?_))
          case c3 => unfold maxLen; omega
          case c4 => omega
          case c5 => first | (have hz6 := hB6B.z; rw [World.size_alloc]; omega) | (have hz6 := hB6B.z; omega) | (simp [World.setCell]; omega)
          intro v' w9 hown' hgrow _
          have hlt9 := hOB.lt
          have hb9 := (hbB.alloc hbB.size (.cells #[.int .i64 44] 3)).grown hgrow (hbB.alloc hbB.size _).size (fun i e => by have := (hlt9 i e).1; omega)
          have hB39 := (hB3B.below (below1 _ (.cells #[.int .i64 44] 3))).grown hgrow (fun e => by have := (hlt9 _ e).1; omega)
          have hB69 := (hB6B.below (below1 _ (.cells #[.int .i64 44] 3))).grown hgrow (fun e => by have := (hlt9 _ e).1; omega)
          go_wp2
          go_roundw
          case rel => exact ⟨k + 1, E8, by omega, by go_num, by unfold Hid; rw [HDE.out]; exact HGD.out.symm, hB39, hB69, by rw [HN.out]; exact hown', hb9⟩
          case measure => simp [intOf]; omega

    · obtain rfl : k = 5 := by omega
      obtain rfl : E = D5 := HE.out.trans HD5.out
      rw [HV5.out] at hown
      obtain ⟨z3, d0, d1, d2, d3, df0, df1, df2, df3⟩ := id hB3
      obtain ⟨rz, r0, r1, r2, r3, p0, p1, p2, p3⟩ := id hB6
      have HR := hid (RwF.of_owns hown)
      clear hown hlt HE HD5
      go_wp2
      exact bodyPost_ret (v := .tuple #[.agg #[.int .u64 E.C, .int .u64 E.R, .slice a E.B.length cap, .int .i64 E.A], _]) (by simp [results, Try.results18, go_sem, r0, r1, r2, r3, p0, p1, p2, p3]) rfl ⟨_, rfl, ((((HR.out.set _ _ _ (by omega)).set _ _ _ (by omega)).set _ _ _ (by omega)).set _ _ _ (by omega)).rw, bset4 hbel _ _ _ _ _ (by omega)⟩

end Go.Proofs.Ytkfpphccpkfenaa
