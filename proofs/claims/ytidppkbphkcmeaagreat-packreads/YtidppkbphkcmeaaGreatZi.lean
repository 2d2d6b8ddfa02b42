/- Contracts of the document's Take of gains, and Pulses: what they hand back lies in new blocks. -/
import Derived.Test.YtidppkbphkcmeaaGreatZg
import Derived.Deep.AppendLies
import Derived.Deep.RegionHeld3
namespace Go.Proofs.YtidppkbphkcmeaaGreat
open Go.RowKit
set_option linter.unusedVariables false
set_option linter.unusedSimpArgs false

/-- What the document's Take answers; the gains lie in a new row. -/
def RTakeF (w : World) (x : Ending) (w' : World) (a : Option Addr) (cap : Nat) (D : De) (v : List Int) : Prop := ∃ ov, x = .returned (.tuple #[.agg #[.int .u64 D.C, .int .u64 D.R, .slice a D.B.length cap, .int .i64 D.A], ov]) ∧ RwF w.heap.size .i64 w' ov v ∧ Below w.heap.size w w'
set_option maxRecDepth 10000 in
set_option maxHeartbeats 4000000 in
theorem rpulsesF_any {ok : Bool} (n : Int) (c : Nat) (a : Option Addr) (cap : Nat) (L : List (List Int)) (w : World) (hv : Fr ok w (.slice a c cap) L) (h : rtB n c = true) (hf : fairG c L = true) : Calls Tryz.prog 26 #[.int .i64 n, .int .i64 c, .slice a c cap] w fun e w' => ∃ v, e = .returned v ∧ Gp (fun b => w.heap.size ≤ b) w' v ((List.range c).map (pul (rmI n c) L)) ∧ Below w.heap.size w w' := by
  obtain ⟨i0, hi, hz0, hz1, hz2⟩ := info_parts info_irow
  obtain ⟨hl, hall⟩ := fair_iff.1 hf
  have hl : L.length = c := by omega
  have hro := fun w => rroom_any n c w
  obtain ⟨c1, c2⟩ : 1 ≤ c ∧ c ≤ 2 := by rcases rt_parts h with h | h <;> omega
  have hrm := rm_bd n c
  have HALL : Hid (∀ i, i < c → gokB (L.getD i []) = true) := fun i hi => hall i (by omega)
  have HP : Hid (∀ i, pul (rmI n c) L i = pls (chan (L.getD i []) (rmI n c))) := fun _ => rfl
  have HV := hid hv
  generalize pul (rmI n c) L = fr at *
  generalize rmI n c = room at *
  clear h hf hl hall hv
  go_enter Tryz.func26, Tryz.ntmps26
  go_wp2
  go_loopw [7, 8] (fun u p wr => ∃ (i : Nat) (vs : List Value) (oa : Option Addr) (oc : Nat), i ≤ c ∧ p = .int .i64 i ∧ u = .slice oa i oc ∧ Hid (Ap Rp 45 w.heap.size wr (.slice oa i oc) i vs fr) ∧ Hid (Below w.heap.size w wr)) (fun _ p _ => c - (intOf p).toNat)
  case atStart => exact ⟨0, [], none, 0, by omega, rfl, rfl, Ap.nil _ _ _ _, Below.refl _ _⟩
  case round =>
    obtain ⟨i, vs, oa, oc, hi2, rfl, rfl, HFO, HBW⟩ := hrel
    by_cases hlt : i < c
    · obtain ⟨b, off, rfl, hb, ra, rc, hc1, _, hrw⟩ := HV.out.at i hlt
      have hlen := gok_len (HALL.out i hlt)
      rw [hlen] at hc1 hrw
      have hch := fun w' (h : Below w.heap.size w w') => rchannel_any ra rc (L.getD i []) room w' (HALL.out i hlt) (hrw.below h) hrm.1
      have HFI : Hid (fr i = pls (chan (L.getD i []) room)) := HP.out i
      have hfl : (fr i).length = 5 := by rw [HFI.out]; exact pls_len _
      have HFL := hid hfl
      rw [← HFI.out] at hch
      have HIC : Hid (i < c) := hlt
      have j1 : (0 : Int) ≤ (i : Int) := by omega
      have j2 : (i : Int) < (c : Int) := by omega
      have j3 : IntKind.i64.wrap (i : Int) = i := wraps_i64 _ (by omega) (by omega)
      have m1 : i + 1 ≤ maxLen := by unfold maxLen; omega
      have m2 : (i + 1) * 24 ≤ 140737488355328 := by omega
      have z1 := HBW.out.size
      have hK : ∀ w', Below w.heap.size w w' → w'.cell? ⟨b, off + i, none⟩ = some (.slice ra 5 rc) := fun w' h => ((bcell h).1 _ _ hb).trans hc1
      clear hlen hrw hfl hc1
      generalize L.getD i [] = g at *
      go_wp2
      go_region_held3 (fun w' => w'.cell? ⟨b, off + i, none⟩ = some (.slice ra 5 rc)) (first | exact hK _ hy3 | exact hK _ (bthen' hyw (below1 _ _)) | exact hK _ hyw | exact hK _ HBW.out.drew | exact hK _ HBW.out) (first | (go_at_call 60; refine (hro _).mono ?_; rintro e w9 ⟨rfl, h9⟩; have h9 := h9.symm; subst h9) | (go_at_call 59; refine (hch _ (by first | exact HBW.out.drew | exact HBW.out)).mono ?_; rintro e y1 ⟨G, c3, rfl, hG, hH1, e1⟩; have hy1 : Below wr.heap.size wr y1 := (by first | exact drew_below e1 | exact e1); have hyw := bthen' HBW.out hy1; have hownN := owns_new (owns_below HFO.out.1 hy1) (.cells #[.slice (some ⟨G, 0, none⟩) 5 c3] 45); have hm3 : w.heap.size ≤ (y1.alloc (.cells #[.slice (some ⟨G, 0, none⟩) 5 c3] 45)).drew.heap.size := (by have := hy1.size; simp; omega)) | (refine step_append_lies _ (by rfl) (.tmp 15) (.tmp 24) 22 (by rfl) w.heap.size 45 i0 (.slice none 0 0) 1 24 Tryz.underlying22 hi hz0 hz1 hz2 rfl (by decide) (.slice oa i oc) i vs (by rfl) hownN ⟨y1.heap.size, 0, none⟩ 1 1 [.slice (some ⟨G, 0, none⟩) 5 c3] (by rfl) rfl (cell_one_drew y1 _ _) (one_slice _ _ _) (by decide) m1 m2 hm3 (y1.heap.size + 1) (by simp) ?_; intro g3 c4 w3 hown3 hgrow3 hat3 hlt3; have hy3 : Below w.heap.size w w3 := (hyw.alloc hyw.size _).grown hgrow3 hm3 (fun q hq => (HFO.out.1.lt q hq).1)))
      go_wp2
      have HR : Hid (RwF wr.heap.size .i64 y1 (.slice (some ⟨G, 0, none⟩) 5 c3) (fr i)) := by
        have h := hH1.lt
        refine ⟨_, c3, by rw [HFL.out], .inr ⟨G, 0, rfl, hG, h, fun q hq => by rw [Nat.zero_add]; exact hH1.cell q hq⟩⟩
      have HF3 := hid (Ap.push Rp.keeps HFO.out z1 hy1 (Rp.ofF HR.out) hown3 hgrow3 hat3)
      exact ⟨⟨i + 1, _, _, _, by omega, by go_num, rfl, HF3, hy3⟩, by simp [intOf]; omega⟩
    · obtain rfl : i = c := by omega
      have HR := hid (HFO.out.all Rp.keeps [])
      go_wp2
      go_ret
      exact ⟨_, rfl, HR.out, HBW.out⟩
set_option maxRecDepth 10000 in
set_option maxHeartbeats 4000000 in
theorem rgtakeF_alone (a : Option Addr) (cap : Nat) (d : De) (ay : Option Addr) (ny cy : Nat) (y : List Int) (hy : ny = y.length) (w : World) (h : d.Ok) (hr : Rw .u8 w (.slice a d.B.length cap) d.B) (hvy : Rw .i64 w (.slice ay ny cy) y) :
    Calls Tryz.prog 46 #[.agg #[.int .u64 d.C, .int .u64 d.R, .slice a d.B.length cap, .int .i64 d.A], .slice ay ny cy, .bool true] w fun x w' => RTakeF w x w' a cap (dK true d 5) (vK true d y 5) := by
  obtain ⟨i0, hi, hz0, hz1, hz2⟩ := info_parts info_int
  have hW := below2 w (.cells #[.int .u64 d.C, .int .u64 d.R, .slice a d.B.length cap, .int .i64 d.A] 86) (.cells #[.int .u64 0, .int .u64 0, .slice none 0 0, .int .i64 0] 86)
  have HVP := hid (vK_push true d y)
  have HOK := hid (dK_ok h true)
  have HRW := hid (fun k => row_sameB (dK_B d true k) hr)
  have Hvy := hid hvy
  have hB3 : B4 ((w.alloc (.cells #[.int .u64 d.C, .int .u64 d.R, .slice a d.B.length cap, .int .i64 d.A] 86)).alloc (.cells #[.int .u64 0, .int .u64 0, .slice none 0 0, .int .i64 0] 86)) w.heap.size (.int .u64 d.C) (.int .u64 d.R) (.slice a d.B.length cap) (.int .i64 d.A) := (B4.new w _ _ _ _ _).below (below1 _ _)
  have hB6 : B4 ((w.alloc (.cells #[.int .u64 d.C, .int .u64 d.R, .slice a d.B.length cap, .int .i64 d.A] 86)).alloc (.cells #[.int .u64 0, .int .u64 0, .slice none 0 0, .int .i64 0] 86)) (w.heap.size + 1) (.int .u64 0) (.int .u64 0) (.slice none 0 0) (.int .i64 0) := B4.new2 w _ _ _ _ _ _
  have HD0 : Hid (d = dK true d 0) := rfl
  have HV0 : Hid (([] : List Value) = (vK true d y 0).map (Value.int .i64)) := rfl
  obtain ⟨D5, hD5⟩ : ∃ D5, dK true d 5 = D5 := ⟨_, rfl⟩
  obtain ⟨V5, hV5⟩ : ∃ V5, vK true d y 5 = V5 := ⟨_, rfl⟩
  rw [hD5, hV5]
  have HD5 := hid hD5
  have HV5 := hid hV5
  unfold RTakeF
  clear h hr hvy hy hD5 hV5
  go_enter Tryz.func46, Tryz.ntmps46
  go_wp2
  go_loopw [8, 9] (fun o i wr => ∃ (k : Nat) (E : De), k ≤ 5 ∧ i = .int .i64 (k : Nat) ∧ Hid (E = dK true d k) ∧ B4 wr w.heap.size (.int .u64 E.C) (.int .u64 E.R) (.slice a E.B.length cap) (.int .i64 E.A) ∧ B4 wr (w.heap.size + 1) (.int .u64 0) (.int .u64 0) (.slice none 0 0) (.int .i64 0) ∧ wr.ownsRow (w.heap.size + 1 + 1) 3 1 o k ((vK true d y k).map (Value.int .i64)) ∧ Below w.heap.size w wr) (fun _ i _ => 5 - (intOf i).toNat)
  case atStart => exact ⟨0, d, by omega, rfl, HD0.out, hB3, hB6, by rw [← HV0.out]; exact World.ownsRow_nil _ _ _ _, hW⟩
  case round =>
    clear hB3 hB6 hW HD0 HV0
    obtain ⟨k, E, hk, rfl, HE, hB3, hB6, hown, hbel⟩ := hrel
    obtain ⟨W1, rfl⟩ : ∃ z, z = wr := ⟨wr, rfl⟩
    by_cases hlt : k < 5
    · have HN := hid (HVP.out k)
      have hEok : E.Ok := by rw [HE.out]; exact HOK.out k
      have hrw : Rw .u8 w (.slice a E.B.length cap) E.B := by rw [HE.out]; exact HRW.out k
      have HDE : Hid (dK true d (k + 1) = dG true E) := by unfold Hid; rw [HE.out]; rfl
      have HVE : Hid (vG true (dK true d k) (y.getD k 0) = vG true E (y.getD k 0)) := by unfold Hid; rw [HE.out]
      rw [HVE.out] at HN
      obtain ⟨z3, d0, d1, d2, d3, df0, df1, df2, df3⟩ := id hB3
      have i1 : (0 : Int) ≤ (k : Int) := by omega
      have i2 : (k : Int) < 5 := by omega
      have i3 : IntKind.i64.wrap (k : Int) = k := wraps_i64 _ (by omega) (by omega)
      have hrwN := hrw
      have htn := fun W hr => rtakeNum_any a cap E 45 (by decide) (by decide) W hEok hr
      have HG1 := hid (dG_alone E)
      have hv1 := vG_alone E (y.getD k 0)
      rw [hv1] at HN
      have hV64 := numV_lt E (n := 45) (by decide) (by decide)
      unfold decW at htn
      have HGD : Hid (E.numD 45 = dG true E) := (dG_alone E).symm
      generalize E.numD 45 = D at htn HGD
      generalize E.numV 45 = V at htn HN hV64 hv1
      have iV : IntKind.i64.wrap (V : Int) = V := wraps_i64 _ (by omega) (by omega)
      clear hv1 HVE HG1
      go_wp2_with (first | (go_at_call 47; refine (htn _ (hrwN.below hbel)).mono ?_; rintro xx w3 ⟨rfl, hb3⟩; have hbN := bset4 ((bthen hbel hb3 hbel.size).alloc (bthen hbel hb3 hbel.size).size (.cells #[.int .u64 D.C, .int .u64 D.R, .slice a D.B.length cap, .int .i64 D.A] 86)) w.heap.size (.int .u64 D.C) (.int .u64 D.R) (.slice a D.B.length cap) (.int .i64 D.A) (Nat.le_refl _); have hxN := hB3.below hb3; have hB3N := (hxN.below (below1 w3 (.cells #[.int .u64 D.C, .int .u64 D.R, .slice a D.B.length cap, .int .i64 D.A] 86))).set (.int .u64 D.C) (.int .u64 D.R) (.slice a D.B.length cap) (.int .i64 D.A); have hB6N := ((hB6.below hb3).below (below1 w3 (.cells #[.int .u64 D.C, .int .u64 D.R, .slice a D.B.length cap, .int .i64 D.A] 86))).other4 w.heap.size (by omega) (.int .u64 D.C) (.int .u64 D.R) (.slice a D.B.length cap) (.int .i64 D.A); have hON := owns4 ((owns_below hown hb3).alloc (.cells #[.int .u64 D.C, .int .u64 D.R, .slice a D.B.length cap, .int .i64 D.A] 86)) w.heap.size (by omega) (.int .u64 D.C) (.int .u64 D.R) (.slice a D.B.length cap) (.int .i64 D.A); obtain ⟨n0, n1, n2, n3, n4, n5, n6, n7, n8⟩ := hxN.below (below1 w3 (.cells #[.int .u64 D.C, .int .u64 D.R, .slice a D.B.length cap, .int .i64 D.A] 86))) | (at_builtin; refine wpList_append_own _ rfl _ _ 45 rfl (w.heap.size + 1 + 1) 3 i0 (.int .i64 0) 1 8 Tryz.underlying45 hi hz0 hz1 hz2 rfl (by decide) _ _ _ rfl (hON.alloc _) ⟨_, 0, none⟩ 1 1 [.int .i64 (V : Int)] rfl rfl (cell_one_at (by simp [World.setCell]) _ _) (one_cell _ _) ?c3 ?c4 ?c5 ?_))
      case c3 => unfold maxLen; omega
      case c4 => omega
      case c5 => first | (have hz6 := hB6N.z; rw [World.size_alloc]; omega) | (have hz6 := hB6N.z; omega) | (simp [World.setCell]; omega)
      intro v' w9 hown' hgrow _
      have hlt9 := hON.lt
      have hb9 := (hbN.alloc hbN.size (.cells #[.int .i64 (V : Int)] 3)).grown hgrow (hbN.alloc hbN.size _).size (fun i e => by have := (hlt9 i e).1; omega)
      have hB39 := (hB3N.below (below1 _ (.cells #[.int .i64 (V : Int)] 3))).grown hgrow (fun e => by have := (hlt9 _ e).1; omega)
      have hB69 := (hB6N.below (below1 _ (.cells #[.int .i64 (V : Int)] 3))).grown hgrow (fun e => by have := (hlt9 _ e).1; omega)
      go_wp2
      go_roundw
      case rel => exact ⟨k + 1, D, by omega, by go_num, by unfold Hid; rw [HDE.out]; exact HGD.out, hB39, hB69, by rw [HN.out]; exact hown', hb9⟩
      case measure => simp [intOf]; omega

    · obtain rfl : k = 5 := by omega
      obtain rfl : E = D5 := HE.out.trans HD5.out
      rw [HV5.out] at hown
      obtain ⟨z3, d0, d1, d2, d3, df0, df1, df2, df3⟩ := id hB3
      obtain ⟨rz, r0, r1, r2, r3, p0, p1, p2, p3⟩ := id hB6
      have HR := hid (RwF.of_owns hown)
      clear hown hlt HE HD5
      go_wp2
      exact bodyPost_ret (v := .tuple #[.agg #[.int .u64 E.C, .int .u64 E.R, .slice a E.B.length cap, .int .i64 E.A], _]) (by simp [results, Tryz.results46, go_sem, r0, r1, r2, r3, p0, p1, p2, p3]) rfl ⟨_, rfl, ((((HR.out.set _ _ _ (by omega)).set _ _ _ (by omega)).set _ _ _ (by omega)).set _ _ _ (by omega)).mono (by omega), bset4 hbel _ _ _ _ _ (by omega)⟩

set_option maxRecDepth 10000 in
set_option maxHeartbeats 4000000 in
theorem rgtakeF_against (a : Option Addr) (cap : Nat) (d : De) (ay : Option Addr) (ny cy : Nat) (y : List Int) (hy : ny = y.length) (w : World) (h : d.Ok) (hr : Rw .u8 w (.slice a d.B.length cap) d.B) (hvy : Rw .i64 w (.slice ay ny cy) y) (hgy : gokB y = true) :
    Calls Tryz.prog 46 #[.agg #[.int .u64 d.C, .int .u64 d.R, .slice a d.B.length cap, .int .i64 d.A], .slice ay ny cy, .bool false] w fun x w' => RTakeF w x w' a cap (dK false d 5) (vK false d y 5) := by
  obtain ⟨i0, hi, hz0, hz1, hz2⟩ := info_parts info_int
  have hW := below2 w (.cells #[.int .u64 d.C, .int .u64 d.R, .slice a d.B.length cap, .int .i64 d.A] 86) (.cells #[.int .u64 0, .int .u64 0, .slice none 0 0, .int .i64 0] 86)
  have Hgy := hid hgy
  obtain rfl : ny = 5 := hy.trans (gok_len hgy)
  clear hgy
  have HVP := hid (vK_push false d y)
  have HOK := hid (dK_ok h false)
  have HRW := hid (fun k => row_sameB (dK_B d false k) hr)
  have Hvy := hid hvy
  have hB3 : B4 ((w.alloc (.cells #[.int .u64 d.C, .int .u64 d.R, .slice a d.B.length cap, .int .i64 d.A] 86)).alloc (.cells #[.int .u64 0, .int .u64 0, .slice none 0 0, .int .i64 0] 86)) w.heap.size (.int .u64 d.C) (.int .u64 d.R) (.slice a d.B.length cap) (.int .i64 d.A) := (B4.new w _ _ _ _ _).below (below1 _ _)
  have hB6 : B4 ((w.alloc (.cells #[.int .u64 d.C, .int .u64 d.R, .slice a d.B.length cap, .int .i64 d.A] 86)).alloc (.cells #[.int .u64 0, .int .u64 0, .slice none 0 0, .int .i64 0] 86)) (w.heap.size + 1) (.int .u64 0) (.int .u64 0) (.slice none 0 0) (.int .i64 0) := B4.new2 w _ _ _ _ _ _
  have HD0 : Hid (d = dK false d 0) := rfl
  have HV0 : Hid (([] : List Value) = (vK false d y 0).map (Value.int .i64)) := rfl
  obtain ⟨D5, hD5⟩ : ∃ D5, dK false d 5 = D5 := ⟨_, rfl⟩
  obtain ⟨V5, hV5⟩ : ∃ V5, vK false d y 5 = V5 := ⟨_, rfl⟩
  rw [hD5, hV5]
  have HD5 := hid hD5
  have HV5 := hid hV5
  unfold RTakeF
  clear h hr hvy hy hD5 hV5
  go_enter Tryz.func46, Tryz.ntmps46
  go_wp2
  go_loopw [8, 9] (fun o i wr => ∃ (k : Nat) (E : De), k ≤ 5 ∧ i = .int .i64 (k : Nat) ∧ Hid (E = dK false d k) ∧ B4 wr w.heap.size (.int .u64 E.C) (.int .u64 E.R) (.slice a E.B.length cap) (.int .i64 E.A) ∧ B4 wr (w.heap.size + 1) (.int .u64 0) (.int .u64 0) (.slice none 0 0) (.int .i64 0) ∧ wr.ownsRow (w.heap.size + 1 + 1) 3 1 o k ((vK false d y k).map (Value.int .i64)) ∧ Below w.heap.size w wr) (fun _ i _ => 5 - (intOf i).toNat)
  case atStart => exact ⟨0, d, by omega, rfl, HD0.out, hB3, hB6, by rw [← HV0.out]; exact World.ownsRow_nil _ _ _ _, hW⟩
  case round =>
    clear hB3 hB6 hW HD0 HV0
    obtain ⟨k, E, hk, rfl, HE, hB3, hB6, hown, hbel⟩ := hrel
    obtain ⟨W1, rfl⟩ : ∃ z, z = wr := ⟨wr, rfl⟩
    by_cases hlt : k < 5
    · have HN := hid (HVP.out k)
      have hEok : E.Ok := by rw [HE.out]; exact HOK.out k
      have hrw : Rw .u8 w (.slice a E.B.length cap) E.B := by rw [HE.out]; exact HRW.out k
      have HDE : Hid (dK false d (k + 1) = dG false E) := by unfold Hid; rw [HE.out]; rfl
      have HVE : Hid (vG false (dK false d k) (y.getD k 0) = vG false E (y.getD k 0)) := by unfold Hid; rw [HE.out]
      rw [HVE.out] at HN
      obtain ⟨z3, d0, d1, d2, d3, df0, df1, df2, df3⟩ := id hB3
      have i1 : (0 : Int) ≤ (k : Int) := by omega
      have i2 : (k : Int) < 5 := by omega
      have i3 : IntKind.i64.wrap (k : Int) = k := wraps_i64 _ (by omega) (by omega)
      obtain ⟨G, hG, hG4⟩ := gok_at Hgy.out k hlt
      obtain ⟨b', off', rfl, hb', hcy⟩ := Hvy.out.atn k hlt
      rw [hG] at hcy HN
      have hbb' : b' ≠ w.heap.size := by omega
      have HGD := hid (dG_against E)
      have hget := fun W => rget_w a cap E 8 W hEok (by decide) (by decide)
      have hget8 := numV_small E (n := 8) (by decide)
      have hnum8 := numD_small E (n := 8) (by decide)
      have hlt8 := numV_lt E (n := 8) (by decide) (by decide)
      have htake := fun W hr => rtake_w a cap E (E.get 8) 8 W hEok hr (fair_one (by rw [← hget8]; exact hlt8) (by decide))
      rw [← hnum8] at htake
      rw [← hget8] at htake hget
      have hok8 := hEok.numD (n := 8) (by decide) (by decide)
      have hrw8 := row_sameB (De.numD_B E 8) hrw
      have hvv := vG_against E (G : Int)
      rw [hvv] at HN
      clear hvv hget8 hnum8 HVE
      generalize E.numD 8 = E8 at *
      generalize E.numV 8 = V8 at *
      by_cases h7 : V8 = 7
      · subst h7
        have htn := fun W hr => rtakeNum_any a cap E8 45 (by decide) (by decide) W hok8 hr
        rw [if_pos rfl] at HN HGD
        have hV64 := numV_lt E8 (n := 45) (by decide) (by decide)
        unfold decW at htn
        generalize E8.numD 45 = D at *
        generalize E8.numV 45 = V at *
        have hrwN := hrw8
        have iV : IntKind.i64.wrap (V : Int) = V := wraps_i64 _ (by omega) (by omega)
        clear hlt8
        go_wp2_with (first | (go_at_call 44; refine (hget _).mono ?_; rintro xx w1 ⟨rfl, hb1⟩; have hbA := bthen hbel hb1 hbel.size; have hB3A := hB3.below hb1; have hB6A := hB6.below hb1; have hOA := owns_below hown hb1; obtain ⟨a0, a1, a2, a3, a4, a5, a6, a7, a8⟩ := id hB3A) | (go_at_call 45; refine (htake _ (hrw.below hbA)).mono ?_; rintro xx w2 ⟨rfl, hb2⟩; have hbB := bset4 (bthen hbA hb2 hbA.size) w.heap.size (.int .u64 E8.C) (.int .u64 E8.R) (.slice a E8.B.length cap) (.int .i64 E8.A) (Nat.le_refl _); have hxB := hB3A.below hb2; have hB3B := hxB.set (.int .u64 E8.C) (.int .u64 E8.R) (.slice a E8.B.length cap) (.int .i64 E8.A); have hB6B := (hB6A.below hb2).other4 w.heap.size (by omega) (.int .u64 E8.C) (.int .u64 E8.R) (.slice a E8.B.length cap) (.int .i64 E8.A); have hOB := owns4 (owns_below hOA hb2) w.heap.size (by omega) (.int .u64 E8.C) (.int .u64 E8.R) (.slice a E8.B.length cap) (.int .i64 E8.A); obtain ⟨b0, b1, b2, b3, b4, b5, b6, b7, b8⟩ := id hxB; obtain ⟨k0, k1, k2, k3, k4, k5, k6, k7, k8⟩ := id hB3B; have dyB := (hbB.cell (p := ⟨b', off' + k, none⟩) hb').trans hcy) | (go_at_call 47; refine (htn _ (hrwN.below hbB)).mono ?_; rintro xx w3 ⟨rfl, hb3⟩; have hbN := bset4 ((bthen hbB hb3 hbB.size).alloc (bthen hbB hb3 hbB.size).size (.cells #[.int .u64 D.C, .int .u64 D.R, .slice a D.B.length cap, .int .i64 D.A] 86)) w.heap.size (.int .u64 D.C) (.int .u64 D.R) (.slice a D.B.length cap) (.int .i64 D.A) (Nat.le_refl _); have hxN := hB3B.below hb3; have hB3N := (hxN.below (below1 w3 (.cells #[.int .u64 D.C, .int .u64 D.R, .slice a D.B.length cap, .int .i64 D.A] 86))).set (.int .u64 D.C) (.int .u64 D.R) (.slice a D.B.length cap) (.int .i64 D.A); have hB6N := ((hB6B.below hb3).below (below1 w3 (.cells #[.int .u64 D.C, .int .u64 D.R, .slice a D.B.length cap, .int .i64 D.A] 86))).other4 w.heap.size (by omega) (.int .u64 D.C) (.int .u64 D.R) (.slice a D.B.length cap) (.int .i64 D.A); have hON := owns4 ((owns_below hOB hb3).alloc (.cells #[.int .u64 D.C, .int .u64 D.R, .slice a D.B.length cap, .int .i64 D.A] 86)) w.heap.size (by omega) (.int .u64 D.C) (.int .u64 D.R) (.slice a D.B.length cap) (.int .i64 D.A); obtain ⟨n0, n1, n2, n3, n4, n5, n6, n7, n8⟩ := hxN.below (below1 w3 (.cells #[.int .u64 D.C, .int .u64 D.R, .slice a D.B.length cap, .int .i64 D.A] 86))) | (at_builtin; refine wpList_append_own _ rfl _ _ 45 rfl (w.heap.size + 1 + 1) 3 i0 (.int .i64 0) 1 8 Tryz.underlying45 hi hz0 hz1 hz2 rfl (by decide) _ _ _ rfl (hON.alloc _) ⟨_, 0, none⟩ 1 1 [.int .i64 (V : Int)] rfl rfl (cell_one_at (by simp [World.setCell]) _ _) (one_cell _ _) ?c3 ?c4 ?c5 ?_))
        case c3 => unfold maxLen; omega
        case c4 => omega
        case c5 => first | (have hz6 := hB6N.z; rw [World.size_alloc]; omega) | (have hz6 := hB6N.z; omega) | (simp [World.setCell]; omega)
        intro v' w9 hown' hgrow _
        have hlt9 := hON.lt
        have hb9 := (hbN.alloc hbN.size (.cells #[.int .i64 (V : Int)] 3)).grown hgrow (hbN.alloc hbN.size _).size (fun i e => by have := (hlt9 i e).1; omega)
        have hB39 := (hB3N.below (below1 _ (.cells #[.int .i64 (V : Int)] 3))).grown hgrow (fun e => by have := (hlt9 _ e).1; omega)
        have hB69 := (hB6N.below (below1 _ (.cells #[.int .i64 (V : Int)] 3))).grown hgrow (fun e => by have := (hlt9 _ e).1; omega)
        go_wp2
        go_roundw
        case rel => exact ⟨k + 1, D, by omega, by go_num, by unfold Hid; rw [HDE.out]; exact HGD.out.symm, hB39, hB69, by rw [HN.out]; exact hown', hb9⟩
        case measure => simp [intOf]; omega
      · rw [if_neg h7] at HN HGD
        have hV7 : ((V8 : Int) == 7) = false := by simp; omega
        obtain ⟨S, hS⟩ : ∃ S : Int, (G : Int) + (V8 : Int) = S := ⟨_, rfl⟩
        have hS0 : 0 ≤ S := by omega
        have hS1 : S ≤ 52 := by omega
        rw [hS] at HN
        have hcl := clampI_cases3 (S - 3)
        generalize clampI (S - 3) 0 44 = Q at *
        clear hlt8 h7 hrw8 hok8
        rcases hcl with ⟨k1, rfl⟩ | ⟨k1, k2, rfl⟩ | ⟨k1, rfl⟩
        · go_wp2_with (first | (go_at_call 44; refine (hget _).mono ?_; rintro xx w1 ⟨rfl, hb1⟩; have hbA := bthen hbel hb1 hbel.size; have hB3A := hB3.below hb1; have hB6A := hB6.below hb1; have hOA := owns_below hown hb1; obtain ⟨a0, a1, a2, a3, a4, a5, a6, a7, a8⟩ := id hB3A) | (go_at_call 45; refine (htake _ (hrw.below hbA)).mono ?_; rintro xx w2 ⟨rfl, hb2⟩; have hbB := bset4 (bthen hbA hb2 hbA.size) w.heap.size (.int .u64 E8.C) (.int .u64 E8.R) (.slice a E8.B.length cap) (.int .i64 E8.A) (Nat.le_refl _); have hxB := hB3A.below hb2; have hB3B := hxB.set (.int .u64 E8.C) (.int .u64 E8.R) (.slice a E8.B.length cap) (.int .i64 E8.A); have hB6B := (hB6A.below hb2).other4 w.heap.size (by omega) (.int .u64 E8.C) (.int .u64 E8.R) (.slice a E8.B.length cap) (.int .i64 E8.A); have hOB := owns4 (owns_below hOA hb2) w.heap.size (by omega) (.int .u64 E8.C) (.int .u64 E8.R) (.slice a E8.B.length cap) (.int .i64 E8.A); obtain ⟨b0, b1, b2, b3, b4, b5, b6, b7, b8⟩ := id hxB; obtain ⟨k0, k1, k2, k3, k4, k5, k6, k7, k8⟩ := id hB3B; have dyB := (hbB.cell (p := ⟨b', off' + k, none⟩) hb').trans hcy) | (at_builtin; refine wpList_append_own _ rfl _ _ 45 rfl (w.heap.size + 1 + 1) 3 i0 (.int .i64 0) 1 8 Tryz.underlying45 hi hz0 hz1 hz2 rfl (by decide) _ _ _ rfl (hOB.alloc _) ⟨_, 0, none⟩ 1 1 [.int .i64 0] rfl rfl (cell_one_at (by simp [World.setCell]) _ _) (one_cell _ _) ?c3 ?c4 ?c5 ?_))
          case c3 => unfold maxLen; omega
          case c4 => omega
          case c5 => first | (have hz6 := hB6B.z; rw [World.size_alloc]; omega) | (have hz6 := hB6B.z; omega) | (simp [World.setCell]; omega)
          intro v' w9 hown' hgrow _
          have hlt9 := hOB.lt
          have hb9 := (hbB.alloc hbB.size (.cells #[.int .i64 0] 3)).grown hgrow (hbB.alloc hbB.size _).size (fun i e => by have := (hlt9 i e).1; omega)
          have hB39 := (hB3B.below (below1 _ (.cells #[.int .i64 0] 3))).grown hgrow (fun e => by have := (hlt9 _ e).1; omega)
          have hB69 := (hB6B.below (below1 _ (.cells #[.int .i64 0] 3))).grown hgrow (fun e => by have := (hlt9 _ e).1; omega)
          go_wp2
          go_roundw
          case rel => exact ⟨k + 1, E8, by omega, by go_num, by unfold Hid; rw [HDE.out]; exact HGD.out.symm, hB39, hB69, by rw [HN.out]; exact hown', hb9⟩
          case measure => simp [intOf]; omega
        · go_wp2_with (first | (go_at_call 44; refine (hget _).mono ?_; rintro xx w1 ⟨rfl, hb1⟩; have hbA := bthen hbel hb1 hbel.size; have hB3A := hB3.below hb1; have hB6A := hB6.below hb1; have hOA := owns_below hown hb1; obtain ⟨a0, a1, a2, a3, a4, a5, a6, a7, a8⟩ := id hB3A) | (go_at_call 45; refine (htake _ (hrw.below hbA)).mono ?_; rintro xx w2 ⟨rfl, hb2⟩; have hbB := bset4 (bthen hbA hb2 hbA.size) w.heap.size (.int .u64 E8.C) (.int .u64 E8.R) (.slice a E8.B.length cap) (.int .i64 E8.A) (Nat.le_refl _); have hxB := hB3A.below hb2; have hB3B := hxB.set (.int .u64 E8.C) (.int .u64 E8.R) (.slice a E8.B.length cap) (.int .i64 E8.A); have hB6B := (hB6A.below hb2).other4 w.heap.size (by omega) (.int .u64 E8.C) (.int .u64 E8.R) (.slice a E8.B.length cap) (.int .i64 E8.A); have hOB := owns4 (owns_below hOA hb2) w.heap.size (by omega) (.int .u64 E8.C) (.int .u64 E8.R) (.slice a E8.B.length cap) (.int .i64 E8.A); obtain ⟨b0, b1, b2, b3, b4, b5, b6, b7, b8⟩ := id hxB; obtain ⟨k0, k1, k2, k3, k4, k5, k6, k7, k8⟩ := id hB3B; have dyB := (hbB.cell (p := ⟨b', off' + k, none⟩) hb').trans hcy) | (at_builtin; refine wpList_append_own _ rfl _ _ 45 rfl (w.heap.size + 1 + 1) 3 i0 (.int .i64 0) 1 8 Tryz.underlying45 hi hz0 hz1 hz2 rfl (by decide) _ _ _ rfl (hOB.alloc _) ⟨_, 0, none⟩ 1 1 [.int .i64 (S - 3)] rfl rfl (cell_one_at (by simp [World.setCell]) _ _) (one_cell _ _) ?c3 ?c4 ?c5 ?_))
          case c3 => unfold maxLen; omega
          case c4 => omega
          case c5 => first | (have hz6 := hB6B.z; rw [World.size_alloc]; omega) | (have hz6 := hB6B.z; omega) | (simp [World.setCell]; omega)
          intro v' w9 hown' hgrow _
          have hlt9 := hOB.lt
          have hb9 := (hbB.alloc hbB.size (.cells #[.int .i64 (S - 3)] 3)).grown hgrow (hbB.alloc hbB.size _).size (fun i e => by have := (hlt9 i e).1; omega)
          have hB39 := (hB3B.below (below1 _ (.cells #[.int .i64 (S - 3)] 3))).grown hgrow (fun e => by have := (hlt9 _ e).1; omega)
          have hB69 := (hB6B.below (below1 _ (.cells #[.int .i64 (S - 3)] 3))).grown hgrow (fun e => by have := (hlt9 _ e).1; omega)
          go_wp2
          go_roundw
          case rel => exact ⟨k + 1, E8, by omega, by go_num, by unfold Hid; rw [HDE.out]; exact HGD.out.symm, hB39, hB69, by rw [HN.out]; exact hown', hb9⟩
          case measure => simp [intOf]; omega
        · go_wp2_with (first | (go_at_call 44; refine (hget _).mono ?_; rintro xx w1 ⟨rfl, hb1⟩; have hbA := bthen hbel hb1 hbel.size; have hB3A := hB3.below hb1; have hB6A := hB6.below hb1; have hOA := owns_below hown hb1; obtain ⟨a0, a1, a2, a3, a4, a5, a6, a7, a8⟩ := id hB3A) | (go_at_call 45; refine (htake _ (hrw.below hbA)).mono ?_; rintro xx w2 ⟨rfl, hb2⟩; have hbB := bset4 (bthen hbA hb2 hbA.size) w.heap.size (.int .u64 E8.C) (.int .u64 E8.R) (.slice a E8.B.length cap) (.int .i64 E8.A) (Nat.le_refl _); have hxB := hB3A.below hb2; have hB3B := hxB.set (.int .u64 E8.C) (.int .u64 E8.R) (.slice a E8.B.length cap) (.int .i64 E8.A); have hB6B := (hB6A.below hb2).other4 w.heap.size (by omega) (.int .u64 E8.C) (.int .u64 E8.R) (.slice a E8.B.length cap) (.int .i64 E8.A); have hOB := owns4 (owns_below hOA hb2) w.heap.size (by omega) (.int .u64 E8.C) (.int .u64 E8.R) (.slice a E8.B.length cap) (.int .i64 E8.A); obtain ⟨b0, b1, b2, b3, b4, b5, b6, b7, b8⟩ := id hxB; obtain ⟨k0, k1, k2, k3, k4, k5, k6, k7, k8⟩ := id hB3B; have dyB := (hbB.cell (p := ⟨b', off' + k, none⟩) hb').trans hcy) | (at_builtin; refine wpList_append_own _ rfl _ _ 45 rfl (w.heap.size + 1 + 1) 3 i0 (.int .i64 0) 1 8 Tryz.underlying45 hi hz0 hz1 hz2 rfl (by decide) _ _ _ rfl (hOB.alloc _) ⟨_, 0, none⟩ 1 1 [.int .i64 44] rfl rfl (cell_one_at (by simp [World.setCell]) _ _) (one_cell _ _) ?c3 ?c4 ?c5 ?_))
          case c3 => unfold maxLen; omega
          case c4 => omega
          case c5 => first | (have hz6 := hB6B.z; rw [World.size_alloc]; omega) | (have hz6 := hB6B.z; omega) | (simp [World.setCell]; omega)
          intro v' w9 hown' hgrow _
          have hlt9 := hOB.lt
          have hb9 := (hbB.alloc hbB.size (.cells #[.int .i64 44] 3)).grown hgrow (hbB.alloc hbB.size _).size (fun i e => by have := (hlt9 i e).1; omega)
          have hB39 := (hB3B.below (below1 _ (.cells #[.int .i64 44] 3))).grown hgrow (fun e => by have := (hlt9 _ e).1; omega)
          have hB69 := (hB6B.below (below1 _ (.cells #[.int .i64 44] 3))).grown hgrow (fun e => by have := (hlt9 _ e).1; omega)
          go_wp2
          go_roundw
          case rel => exact ⟨k + 1, E8, by omega, by go_num, by unfold Hid; rw [HDE.out]; exact HGD.out.symm, hB39, hB69, by rw [HN.out]; exact hown', hb9⟩
          case measure => simp [intOf]; omega

    · obtain rfl : k = 5 := by omega
      obtain rfl : E = D5 := HE.out.trans HD5.out
      rw [HV5.out] at hown
      obtain ⟨z3, d0, d1, d2, d3, df0, df1, df2, df3⟩ := id hB3
      obtain ⟨rz, r0, r1, r2, r3, p0, p1, p2, p3⟩ := id hB6
      have HR := hid (RwF.of_owns hown)
      clear hown hlt HE HD5
      go_wp2
      exact bodyPost_ret (v := .tuple #[.agg #[.int .u64 E.C, .int .u64 E.R, .slice a E.B.length cap, .int .i64 E.A], _]) (by simp [results, Tryz.results46, go_sem, r0, r1, r2, r3, p0, p1, p2, p3]) rfl ⟨_, rfl, ((((HR.out.set _ _ _ (by omega)).set _ _ _ (by omega)).set _ _ _ (by omega)).set _ _ _ (by omega)).mono (by omega), bset4 hbel _ _ _ _ _ (by omega)⟩

theorem rgtakeF_any (a : Option Addr) (cap : Nat) (d : De) (ay : Option Addr) (ny cy : Nat) (y : List Int) (intra : Bool) (hy : ny = y.length) (w : World) (h : d.Ok) (hr : Rw .u8 w (.slice a d.B.length cap) d.B) (hvy : Rw .i64 w (.slice ay ny cy) y) (hg : (intra || gokB y) = true) :
    Calls Tryz.prog 46 #[.agg #[.int .u64 d.C, .int .u64 d.R, .slice a d.B.length cap, .int .i64 d.A], .slice ay ny cy, .bool intra] w fun x w' => RTakeF w x w' a cap (dK intra d 5) (vK intra d y 5) := by
  cases intra
  · exact rgtakeF_against a cap d ay ny cy y hy w h hr hvy (by simpa using hg)
  · exact rgtakeF_alone a cap d ay ny cy y hy w h hr hvy
end Go.Proofs.YtidppkbphkcmeaaGreat
/- Contract: bytes are read as a pack, by the document. -/
namespace Go.Proofs.YtidppkbphkcmeaaGreat
open Go.RowKit
set_option linter.unusedVariables false
set_option linter.unusedSimpArgs false

theorem Ap.off {α : Type} {K : (Nat → Prop) → World → Value → α → Prop} (hK : Keeps K) {ts : TypeId} {B : Nat} {w : World} {v : Value} {n : Nat} {vs : List Value} {L : Nat → α} (h : Ap K ts B w v n vs L) (p o : Nat) (y : Value) (hp : p < B) : Ap K ts B (w.setCell ⟨p, o, none⟩ y) v n vs L :=
  ⟨owns_other h.1 p o y hp, fun j hj => hK.grown (h.2 j hj) (grown_cell w p o y) fun b hb e => by have := Option.some.inj e; omega⟩
theorem Ap.off4 {α : Type} {K : (Nat → Prop) → World → Value → α → Prop} (hK : Keeps K) {ts : TypeId} {B : Nat} {w : World} {v : Value} {n : Nat} {vs : List Value} {L : Nat → α} (h : Ap K ts B w v n vs L) (p : Nat) (y0 y1 y2 y3 : Value) (hp : p < B) : Ap K ts B ((((w.setCell ⟨p, 0, none⟩ y0).setCell ⟨p, 1, none⟩ y1).setCell ⟨p, 2, none⟩ y2).setCell ⟨p, 3, none⟩ y3) v n vs L :=
  Ap.off hK (Ap.off hK (Ap.off hK (Ap.off hK h p 0 y0 hp) p 1 y1 hp) p 2 y2 hp) p 3 y3 hp
theorem Ap.butp {α : Type} {K : (Nat → Prop) → World → Value → α → Prop} (hK : Keeps K) {ts : TypeId} {B : Nat} {w w' : World} {v : Value} {n : Nat} {vs : List Value} {L : Nat → α} (h : Ap K ts B w v n vs L) {p : Nat} (hg : w.grownBy w' (some p)) (hp : p < B) : Ap K ts B w' v n vs L := by
  refine ⟨h.1.kept hg ?_, fun j hj => hK.grown (h.2 j hj) hg fun b hb e => by have := Option.some.inj e; omega⟩
  cases hv : v.ownBlock with
  | none => exact .inl rfl
  | some k => exact .inr fun e => by have := (h.1.lt k hv).1; have := Option.some.inj e; omega
theorem Ap.congr {α : Type} {K : (Nat → Prop) → World → Value → α → Prop} {ts : TypeId} {B : Nat} {w : World} {v : Value} {n : Nat} {vs : List Value} {L L' : Nat → α} (h : Ap K ts B w v n vs L) (he : ∀ j, j < n → L j = L' j) : Ap K ts B w v n vs L' :=
  ⟨h.1, fun j hj => by rw [← he j hj]; exact h.2 j hj⟩
theorem Ap.push2 {α : Type} {K : (Nat → Prop) → World → Value → α → Prop} (hK : Keeps K) {ts : TypeId} {B : Nat} {w1 w2 : World} {v v1 : Value} {n g c : Nat} {vs : List Value} {L : Nat → α} {x : α} {o : Obj} (h : Ap K ts B w1 v n vs L) (hr : K (fun b => B ≤ b ∧ some b ≠ v.ownBlock) w1 v1 x)
    (hown : w2.ownsRow B ts 1 (.slice (some ⟨g, 0, none⟩) (n + 1) c) (n + 1) (vs ++ [v1])) (hgrow : (w1.alloc o).grownBy w2 v.ownBlock) (hat : v.ownBlock = some g ∨ g = w1.heap.size + 1) :
    Ap K ts B w2 (.slice (some ⟨g, 0, none⟩) (n + 1) c) (n + 1) (vs ++ [v1]) (fun j => if j < n then L j else x) := by
  refine ⟨hown, fun j hj => ?_⟩
  have hl : vs.length = n := by have := h.1.1; simpa using this
  have hsw : ∀ {v' : Value} {x : α}, K (fun b => B ≤ b ∧ some b ≠ v.ownBlock) w1 v' x → K (fun b => B ≤ b ∧ some b ≠ Value.ownBlock (.slice (some ⟨g, 0, none⟩) (n + 1) c)) w2 v' x := fun {v' x} hx => by
    have hx1 : K (fun b => (B ≤ b ∧ some b ≠ v.ownBlock) ∧ b ≠ g) w1 v' x := hK.mono hx fun b hlt hp => ⟨hp, fun e => by
      subst e
      rcases hat with e3 | e3
      · exact hp.2 e3.symm
      · omega⟩
    have h1 := hK.grown (hK.below hx1 (below1 w1 o)) hgrow (fun b hp => hp.1.2)
    exact hK.mono h1 fun b _ hp => ⟨hp.1.1, fun e => hp.2 (by simpa [Value.ownBlock] using e)⟩
  by_cases e : j < n
  · rw [show (vs ++ [v1]).getD j undef = vs.getD j undef by simp [List.getD_eq_getElem?_getD, List.getElem?_append_left (show j < vs.length by omega)]]
    simp only [if_pos e]
    exact hsw (h.2 j e)
  · have e2 : j = n := by omega
    subst e2
    rw [show (vs ++ [v1]).getD j undef = v1 by simp [List.getD_eq_getElem?_getD, hl]]
    simp only [if_neg e]
    exact hsw hr
theorem if_snoc {α : Type} (L : Nat → α) (n j : Nat) (hj : j < n + 1) : (if j < n then L j else L n) = L j := by
  by_cases e : j < n
  · rw [if_pos e]
  · obtain rfl : j = n := by omega
    rw [if_neg e]
/-- All is as it was but for block p. -/
theorem gb_refl (w : World) (p : Nat) : w.grownBy w (some p) := ⟨rfl, rfl, rfl, Nat.le_refl _, fun _ _ _ => rfl⟩
theorem gb_below {w a b : World} {p : Nat} (h : w.grownBy a (some p)) (hb : Below a.heap.size a b) : w.grownBy b (some p) :=
  ⟨hb.os.trans h.os, hb.tape.trans h.tape, hb.output.trans h.output, Nat.le_trans h.size hb.size, fun k hk hne => (hb.block k (Nat.lt_of_lt_of_le hk h.size)).trans (h.block k hk hne)⟩
theorem gb_set {w a : World} {p : Nat} (h : w.grownBy a (some p)) (o : Nat) (y : Value) : w.grownBy (a.setCell ⟨p, o, none⟩ y) (some p) :=
  ⟨h.os, h.tape, h.output, by simpa [World.setCell] using h.size, fun k hk hne => (Below.heap_setCell a ⟨p, o, none⟩ y k (fun e => hne (by rw [e]))).trans (h.block k hk hne)⟩
theorem gb_set4 {w a : World} {p : Nat} (h : w.grownBy a (some p)) (y0 y1 y2 y3 : Value) : w.grownBy ((((a.setCell ⟨p, 0, none⟩ y0).setCell ⟨p, 1, none⟩ y1).setCell ⟨p, 2, none⟩ y2).setCell ⟨p, 3, none⟩ y3) (some p) := gb_set (gb_set (gb_set (gb_set h 0 y0) 1 y1) 2 y2) 3 y3
theorem gb_grown {w a b : World} {p : Nat} {row : Option Nat} (h : w.grownBy a (some p)) (hg : a.grownBy b row) (hr : ∀ k, row = some k → w.heap.size ≤ k) : w.grownBy b (some p) :=
  ⟨hg.os.trans h.os, hg.tape.trans h.tape, hg.output.trans h.output, Nat.le_trans h.size hg.size, fun k hk hne => (hg.block k (Nat.lt_of_lt_of_le hk h.size) (fun e => by have := hr k e.symm; omega)).trans (h.block k hk hne)⟩
theorem row_before4 {y wr : World} {k : IntKind} {v : Value} {xs : List Int} {z0 z1 z2 z3 : Value} {t : TypeId} (r : RwF (wr.alloc (.cells #[z0, z1, z2, z3] t)).drew.heap.size k y v xs) (x0 x1 x2 x3 : Value) : RwF wr.heap.size k ((((y.setCell ⟨wr.heap.size, 0, none⟩ x0).setCell ⟨wr.heap.size, 1, none⟩ x1).setCell ⟨wr.heap.size, 2, none⟩ x2).setCell ⟨wr.heap.size, 3, none⟩ x3) v xs := by
  have hlt : wr.heap.size < (wr.alloc (.cells #[z0, z1, z2, z3] t)).drew.heap.size := by show wr.heap.size < (wr.alloc (.cells #[z0, z1, z2, z3] t)).heap.size; simp
  exact ((((r.set wr.heap.size 0 x0 hlt).set wr.heap.size 1 x1 hlt).set wr.heap.size 2 x2 hlt).set wr.heap.size 3 x3 hlt).mono (Nat.le_of_lt hlt)
theorem made4_amid {y y' wr : World} {x0 x1 x2 x3 z0 z1 z2 z3 : Value} {t : TypeId} (h : Below wr.heap.size wr y) (e : Below (y.alloc (.cells #[z0, z1, z2, z3] t)).heap.size (y.alloc (.cells #[z0, z1, z2, z3] t)) y') : Made4 wr ((((y'.setCell ⟨y.heap.size, 0, none⟩ x0).setCell ⟨y.heap.size, 1, none⟩ x1).setCell ⟨y.heap.size, 2, none⟩ x2).setCell ⟨y.heap.size, 3, none⟩ x3) (.pointer (some ⟨y.heap.size, 0, none⟩)) x0 x1 x2 x3 :=
  ⟨y.heap.size, rfl, ((B4.new y z0 z1 z2 z3 t).below e).set x0 x1 x2 x3, h.size, bset4 (bthen (h.alloc h.size _) e (by simp; have := h.size; omega)) _ _ _ _ _ h.size⟩
theorem B4.kept {w w' : World} {b p : Nat} {x0 x1 x2 x3 : Value} (h : B4 w b x0 x1 x2 x3) (hg : w.grownBy w' (some p)) (hne : b ≠ p) : B4 w' b x0 x1 x2 x3 := h.grown hg (fun e => hne (Option.some.inj e).symm)
theorem B3.kept {w w' : World} {b p : Nat} {x0 x1 x2 : Value} (h : B3 w b x0 x1 x2) (hg : w.grownBy w' (some p)) (hne : b ≠ p) : B3 w' b x0 x1 x2 := h.grown hg (fun e => hne (Option.some.inj e).symm)
theorem gp_kept {P : Nat → Prop} {w w' : World} {v : Value} {L : List (List Int)} (h : Gp P w v L) {r : Option Nat} (hg : w.grownBy w' r) (hp : ∀ p, r = some p → ¬ P p) : Gp P w' v L := Gp.keeps.grown h hg fun b hb e => hp b e.symm hb
theorem dB_B (d : De) (f : Nat → Nat) (b : Nat) : (dB d f b).B = d.B := by
  induction b with
  | zero => rfl
  | succ b ih =>
    rw [dB]
    split
    · exact ih
    · rw [De.numD_B, ih]
theorem dC_B (d : De) (kk : Nat → Nat → Nat) (i : Nat) : (dC d kk i).B = d.B := by
  induction i with
  | zero => rfl
  | succ i ih => rw [dC, dB_B, ih]

/-! ### Errors -/
set_option maxRecDepth 10000 in
set_option maxHeartbeats 4000000 in
theorem rread_shape (n c : Int) (ab : Option Addr) (nb cb : Nat) (aa : Option Addr) (na ca : Nat) (w : World) (hno : rtB n c = false) :
    Calls Tryz.prog 14 #[.int .i64 n, .int .i64 c, .slice ab nb cb, .slice aa na ca] w fun x w' => RdNo w x w' 1 := by
  have hW := below1 w (.cells #[.bool false, .slice none 0 0, .slice none 0 0] 33)
  have hB0 := B3.new w (.bool false) (.slice none 0 0) (.slice none 0 0) 33
  obtain ⟨rz, r0, r1, r2, p0, p1, p2⟩ := id hB0
  have hr := fun W => rsright_any n c W
  rw [hno] at hr
  unfold RdNo
  clear hno
  go_enter Tryz.func14, Tryz.ntmps14
  go_wp2_with (go_at_call 25; refine (hr _).mono ?_; rintro e w9 ⟨rfl, h9⟩; have h9 := h9.symm; subst h9)
  exact bodyPost_ret (v := .tuple #[.agg #[.bool false, .slice none 0 0, .slice none 0 0], .int .i64 1]) (by simp [results, Tryz.results14, go_sem, r0, r1, r2, p0, p1, p2]) rfl ⟨rfl, hW⟩
set_option maxRecDepth 10000 in
set_option maxHeartbeats 4000000 in
theorem rread_form (n c : Int) (ab : Option Addr) (nb cb : Nat) (aa : Option Addr) (na ca : Nat) (w : World) (hyes : rtB n c = true) (hne : ¬ (nb : Int) = n) :
    Calls Tryz.prog 14 #[.int .i64 n, .int .i64 c, .slice ab nb cb, .slice aa na ca] w fun x w' => RdNo w x w' 2 := by
  have hW := below1 w (.cells #[.bool false, .slice none 0 0, .slice none 0 0] 33)
  have hB0 := B3.new w (.bool false) (.slice none 0 0) (.slice none 0 0) 33
  obtain ⟨rz, r0, r1, r2, p0, p1, p2⟩ := id hB0
  have hr := fun W => rsright_any n c W
  rw [hyes] at hr
  have k1 : ((nb : Int) != n) = true := by simp; omega
  unfold RdNo
  clear hyes hne
  go_enter Tryz.func14, Tryz.ntmps14
  go_wp2_with (go_at_call 25; refine (hr _).mono ?_; rintro e w9 ⟨rfl, h9⟩; have h9 := h9.symm; subst h9)
  exact bodyPost_ret (v := .tuple #[.agg #[.bool false, .slice none 0 0, .slice none 0 0], .int .i64 2]) (by simp [results, Tryz.results14, go_sem, r0, r1, r2, p0, p1, p2]) rfl ⟨rfl, hW⟩

set_option maxRecDepth 10000 in
set_option maxHeartbeats 4000000 in
theorem rread_ahead (N : Nat) (c : Int) (ab : Option Addr) (cb : Nat) (B : List Int) (aa : Option Addr) (na ca : Nat) (A : List (List Int)) (w : World) (hyes : rtB N c = true) (hN : B.length = N) (hby : Byts B) (hb : Rw .u8 w (.slice ab B.length cb) B) (hA : A.length = na) (hma : na ≤ 20) (has : ∀ i, i < na → (A.getD i []).length ≤ 100) (hva : Fr false w (.slice aa na ca) A) (hno : ahB (fI (De.open B)) c A = false) :
    Calls Tryz.prog 14 #[.int .i64 (N : Nat), .int .i64 c, .slice ab N cb, .slice aa na ca] w fun x w' => RdNo w x w' 1 := by
  subst hN
  have hW := below1 w (.cells #[.bool false, .slice none 0 0, .slice none 0 0] 33)
  have hB0 := B3.new w (.bool false) (.slice none 0 0) (.slice none 0 0) 33
  have h60 : B.length ≤ 60 := by have := rt_parts hyes; omega
  have hr := fun W => rsright_any B.length c W
  rw [hyes] at hr
  have hop := fun W (h : Below w.heap.size w W) => ropen_any ab cb B W (hb.below h) hby (by omega)
  have hok : (De.open B).Ok := De.open_ok hby (by omega)
  have hgt := fun W => rget_any ab cb (De.open B) 2 W hok (by decide) (by decide)
  have hlt := De.get_lt (De.open B) 2 (by decide)
  have htk := fun W (h : Below w.heap.size w W) => rtake_any ab cb (De.open B) ((De.open B).get 2) ((De.open B).get 2 + 1) 2 W hok (hb.below h) ⟨by omega, by omega, by decide⟩
  have hdF : dF (De.open B) = (De.open B).take ((De.open B).get 2) ((De.open B).get 2 + 1) 2 := rfl
  rw [← hdF, show (((De.open B).get 2 + 1 : Nat) : Int) = ((De.open B).get 2 : Int) + 1 by omega, show ((2 : Nat) : Int) = 2 from rfl] at htk
  rw [show ((2 : Nat) : Int) = 2 from rfl] at hgt
  have hfI : fI (De.open B) = decide ((De.open B).get 2 = 1) := rfl
  have hfa := fun W (h : Below w.heap.size w W) => rfair12_any c aa na ca A W hA (by omega) has (hva.below h)
  unfold decW at hop htk hgt
  have hFB := dF_B (De.open B)
  rw [De.open_B] at htk hop hgt hFB
  obtain ⟨hi, hf⟩ : fI (De.open B) = false ∧ fairG c A = false := by
    unfold ahB at hno
    rw [Bool.or_eq_false_iff] at hno
    exact hno
  rw [hf] at hfa
  rw [hfI, decide_eq_false_iff_not] at hi
  have hg0 : (De.open B).get 2 = 0 := by omega
  rw [hg0] at hgt htk
  unfold RdNo
  generalize De.open B = d at *
  generalize dF d = D at *
  rw [hFB] at htk
  clear hyes hno hok hb hva hA hma hby hdF hfI hi hf hg0 hlt hFB has
  generalize B.length = N at *
  go_enter Tryz.func14, Tryz.ntmps14
  go_upto_region 8 with (first | (go_at_call 25; refine (hr _).mono ?_; rintro e w9 ⟨rfl, h9⟩; have h9 := h9.symm; subst h9) | (go_at_call 43; refine (hop _ hW).mono ?_; rintro e w1 ⟨rfl, hb1⟩; have hbw1 := bthen' hW hb1; have hBd1 := B4.new w1 (.int .u64 d.C) (.int .u64 d.R) (.slice ab N cb) (.int .i64 d.A) 86; have hBz1 := (hB0.below hb1).below (below1 w1 (.cells #[.int .u64 d.C, .int .u64 d.R, .slice ab N cb, .int .i64 d.A] 86)); have hbw2 := hbw1.alloc hbw1.size (.cells #[.int .u64 d.C, .int .u64 d.R, .slice ab N cb, .int .i64 d.A] 86); obtain ⟨z0, d0, d1, d2, d3, df0, df1, df2, df3⟩ := id hBd1) | (go_at_call 44; refine (hgt _).mono ?_; rintro e w3 ⟨rfl, hb3⟩; have hbw3 := bthen' hbw2 hb3; have hBd3 := hBd1.below hb3; have hBz3 := hBz1.below hb3; clear z0 d0 d1 d2 d3 df0 df1 df2 df3; obtain ⟨z0, d0, d1, d2, d3, df0, df1, df2, df3⟩ := id hBd3) | (go_at_call 45; refine (htk _ hbw3).mono ?_; rintro e w4 ⟨rfl, hb4⟩; have hbw4 := bthen' hbw3 hb4; have hBd4 := hBd3.below hb4; have hBz4 := hBz3.below hb4; clear z0 d0 d1 d2 d3 df0 df1 df2 df3; obtain ⟨z0, d0, d1, d2, d3, df0, df1, df2, df3⟩ := id hBd4))
  have hBz5 := (((hBz4.other w1.heap.size 0 (.int .u64 D.C) (by have := hB0.z; have := hb1.size; omega)).other w1.heap.size 1 (.int .u64 D.R) (by have := hB0.z; have := hb1.size; omega)).other w1.heap.size 2 (.slice ab N cb) (by have := hB0.z; have := hb1.size; omega)).other w1.heap.size 3 (.int .i64 D.A) (by have := hB0.z; have := hb1.size; omega)
  have hbw5 := bset4 hbw4 w1.heap.size (.int .u64 D.C) (.int .u64 D.R) (.slice ab N cb) (.int .i64 D.A) hbw1.size
  generalize ((((w4.setCell ⟨w1.heap.size, 0, none⟩ (.int .u64 D.C)).setCell ⟨w1.heap.size, 1, none⟩ (.int .u64 D.R)).setCell ⟨w1.heap.size, 2, none⟩ (.slice ab N cb)).setCell ⟨w1.heap.size, 3, none⟩ (.int .i64 D.A)) = W5 at *
  have hbw6 := hbw5.alloc hbw5.size (.cells #[.bool false, .slice none 0 0, .slice none 0 0] 33)
  have hBp := B3.new W5 (.bool false) (.slice none 0 0) (.slice none 0 0) 33
  have hBz6 := hBz5.below (below1 W5 (.cells #[.bool false, .slice none 0 0, .slice none 0 0] 33))
  clear z0 d0 d1 d2 d3 df0 df1 df2 df3
  obtain ⟨gz, g0, g1, g2, k0, kk1, k2⟩ := id hBp
  obtain ⟨rz, r0, r1, r2, p0, p1, p2⟩ := id hBz6
  go_wp2_with (go_at_call 10; refine (hfa _ hbw6).mono ?_; rintro e w9 ⟨rfl, h9⟩; have h9 := h9.symm; subst h9)
  exact bodyPost_ret (v := .tuple #[.agg #[.bool false, .slice none 0 0, .slice none 0 0], .int .i64 1]) (by simp [results, Tryz.results14, go_sem, r0, r1, r2, p0, p1, p2]) rfl ⟨rfl, by first | exact hbw6 | exact bset3 hbw6 _ _ _ _ (by omega)⟩
end Go.Proofs.YtidppkbphkcmeaaGreat
/- Contract: bytes are read as a pack, by the document, where they are. -/
namespace Go.Proofs.YtidppkbphkcmeaaGreat
open Go.RowKit
set_option linter.unusedVariables false
set_option linter.unusedSimpArgs false

def RdOkR (w : World) (x : Ending) (w' : World) (n : Int) (c : Nat) (d : De) (A : List (List Int)) : Prop := ∃ vG vY Y, x = .returned (.tuple #[.agg #[.bool (fI d), vG, vY], .int .i64 0]) ∧ Fr false w' vG (gL (fI d) (dF d) A c) ∧ TkY (dGs (fI d) (dF d) c) (kkG (rmI n c) (gL (fI d) (dF d) A c)) c Y ∧ Fc false w' vY Y ∧ Below w.heap.size w w'
theorem below_undrew {w x : World} (h : Below w.heap.size w x) : Below w.drew.heap.size w.drew x := ⟨h.os, h.tape, h.output, h.size, h.block⟩
theorem with_fact2 {p q : Prop} (h : p) (k : p → q) : q := k h
theorem info_rowA : (Tryz.prog.info? 45).map (fun i => (i.zero, i.size, i.bytes)) = some (some (.slice none 0 0), 1, 24) := by kernel_rfl
theorem info_rowB : (Tryz.prog.info? 22).map (fun i => (i.zero, i.size, i.bytes)) = some (some (.slice none 0 0), 1, 24) := by kernel_rfl

set_option maxRecDepth 10000 in
set_option maxHeartbeats 32000000 in
theorem rread_ok (N : Nat) (c : Nat) (ab : Option Addr) (cb : Nat) (B : List Int) (aa : Option Addr) (na ca : Nat) (A : List (List Int)) (w : World) (hyes : rtB N c = true) (hN : B.length = N) (hby : Byts B) (hb : Rw .u8 w (.slice ab B.length cb) B) (hA : A.length = na) (hma : na ≤ 20) (has : ∀ i, i < na → (A.getD i []).length ≤ 100) (hva : Fr false w (.slice aa na ca) A) (hahb : ahB (fI (De.open B)) c A = true) :
    Calls Tryz.prog 14 #[.int .i64 (N : Nat), .int .i64 (c : Nat), .slice ab N cb, .slice aa na ca] w fun x w' => RdOkR w x w' N c (De.open B) A := by
  obtain ⟨i0, hi, hz0, hz1, hz2⟩ := info_parts info_rowA
  obtain ⟨j0, ji, jz0, jz1, jz2⟩ := info_parts info_rowB
  subst hN
  have hW := below1 w (.cells #[.bool false, .slice none 0 0, .slice none 0 0] 33)
  have hB0 := B3.new w (.bool false) (.slice none 0 0) (.slice none 0 0) 33
  have h60 : B.length ≤ 60 := by have := rt_parts hyes; omega
  have hr := fun W => rsright_any B.length c W
  rw [hyes] at hr
  have hop := fun W (h : Below w.heap.size w W) => ropen_any ab cb B W (hb.below h) hby (by omega)
  have hok : (De.open B).Ok := De.open_ok hby (by omega)
  have hgt := fun W => rget_any ab cb (De.open B) 2 W hok (by decide) (by decide)
  have hlt := De.get_lt (De.open B) 2 (by decide)
  have htk := fun W (h : Below w.heap.size w W) => rtake_any ab cb (De.open B) ((De.open B).get 2) ((De.open B).get 2 + 1) 2 W hok (hb.below h) ⟨by omega, by omega, by decide⟩
  have hdF : dF (De.open B) = (De.open B).take ((De.open B).get 2) ((De.open B).get 2 + 1) 2 := rfl
  rw [← hdF, show (((De.open B).get 2 + 1 : Nat) : Int) = ((De.open B).get 2 : Int) + 1 by omega, show ((2 : Nat) : Int) = 2 from rfl] at htk
  rw [show ((2 : Nat) : Int) = 2 from rfl] at hgt
  have hfI : fI (De.open B) = decide ((De.open B).get 2 = 1) := rfl
  have hfa := fun W (h : Below w.heap.size w W) => rfair12_any c aa na ca A W hA (by omega) has (hva.below h)
  unfold decW at hop htk hgt
  have hFB := dF_B (De.open B)
  rw [De.open_B] at htk hop hgt hFB
  obtain ⟨c1, hc2⟩ : 1 ≤ c ∧ c ≤ 2 := by have := rt_parts hyes; omega
  have HGA : Hid (∀ k, k < c → (fI (De.open B) || gokB (A.getD k [])) = true) := fun k hk => by
    have h := gok_ahd hahb k hk
    unfold ahd at h
    cases hi : fI (De.open B) with
    | true => rfl
    | false => rw [hi] at h; exact h
  have HAH := hid hahb
  have hDok := dF_ok hok
  unfold RdOkR
  have HBB : Hid (∀ w1, Below w.heap.size w w1 → Rw .u8 w1 (.slice ab B.length cb) B) := fun w1 h => hb.below h
  generalize De.open B = d at *
  generalize fI d = intra at *
  generalize dF d = D at *
  generalize d.get 2 = v at *
  rw [hFB] at htk
  have HVA := hid hva
  have HMA := hid hma
  have HAL := hid hA
  have HAS := hid has
  have HRT := hid hyes
  have HFB := hid hFB
  have HFI := hid hfI
  have hv2 : v = 0 ∨ v = 1 := by omega
  clear hyes hahb hok hb hva hA hma hby hdF hlt has hFB hfI
  generalize hNN : B.length = N at *
  have HN := hid hNN
  clear hNN
  go_enter Tryz.func14, Tryz.ntmps14
  go_upto_region 8 with (first | (go_at_call 25; refine (hr _).mono ?_; rintro e w9 ⟨rfl, h9⟩; have h9 := h9.symm; subst h9) | (go_at_call 43; refine (hop _ hW).mono ?_; rintro e w1 ⟨rfl, hb1⟩; have hbw1 := bthen' hW hb1; have hBd1 := B4.new w1 (.int .u64 d.C) (.int .u64 d.R) (.slice ab N cb) (.int .i64 d.A) 86; have hBz1 := (hB0.below hb1).below (below1 w1 (.cells #[.int .u64 d.C, .int .u64 d.R, .slice ab N cb, .int .i64 d.A] 86)); have hbw2 := hbw1.alloc hbw1.size (.cells #[.int .u64 d.C, .int .u64 d.R, .slice ab N cb, .int .i64 d.A] 86); obtain ⟨z0, d0, d1, d2, d3, df0, df1, df2, df3⟩ := id hBd1) | (go_at_call 44; refine (hgt _).mono ?_; rintro e w3 ⟨rfl, hb3⟩; have hbw3 := bthen' hbw2 hb3; have hBd3 := hBd1.below hb3; have hBz3 := hBz1.below hb3; clear z0 d0 d1 d2 d3 df0 df1 df2 df3; obtain ⟨z0, d0, d1, d2, d3, df0, df1, df2, df3⟩ := id hBd3) | (go_at_call 45; refine (htk _ hbw3).mono ?_; rintro e w4 ⟨rfl, hb4⟩; have hbw4 := bthen' hbw3 hb4; have hBd4 := hBd3.below hb4; have hBz4 := hBz3.below hb4; clear z0 d0 d1 d2 d3 df0 df1 df2 df3; obtain ⟨z0, d0, d1, d2, d3, df0, df1, df2, df3⟩ := id hBd4))
  have hb1s : w.heap.size < w1.heap.size := Nat.lt_of_lt_of_le hB0.z hb1.size
  have hBz5 := (((hBz4.other w1.heap.size 0 (.int .u64 D.C) (by omega)).other w1.heap.size 1 (.int .u64 D.R) (by omega)).other w1.heap.size 2 (.slice ab N cb) (by omega)).other w1.heap.size 3 (.int .i64 D.A) (by omega)
  have hBd5 := hBd4.set (.int .u64 D.C) (.int .u64 D.R) (.slice ab N cb) (.int .i64 D.A)
  have hbw5 := bset4 hbw4 w1.heap.size (.int .u64 D.C) (.int .u64 D.R) (.slice ab N cb) (.int .i64 D.A) hbw1.size
  generalize ((((w4.setCell ⟨w1.heap.size, 0, none⟩ (.int .u64 D.C)).setCell ⟨w1.heap.size, 1, none⟩ (.int .u64 D.R)).setCell ⟨w1.heap.size, 2, none⟩ (.slice ab N cb)).setCell ⟨w1.heap.size, 3, none⟩ (.int .i64 D.A)) = W5 at *
  generalize w1.heap.size = bd at *
  clear z0 d0 d1 d2 d3 df0 df1 df2 df3 hBz4 hBz3 hBz1 hBd4 hBd3 hBd1 hbw4 hbw3 hbw2 hbw1 hb1 hb3 hb4 hr hop hgt htk hW hB0
  go_cut [12] (fun p wz => p = .pointer (some ⟨W5.heap.size, 0, none⟩) ∧ wz = W5.alloc (.cells #[.bool intra, .slice none 0 0, .slice none 0 0] 33))
  case first =>
    rcases hv2 with rfl | rfl
    · have hi0 : intra = false := by rw [HFI.out]; rfl
      subst hi0
      go_wp2
      go_meet
      exact ⟨rfl, rfl⟩
    · have hi0 : intra = true := by rw [HFI.out]; rfl
      subst hi0
      go_wp2
      go_meet
      exact ⟨rfl, rfl⟩
  case rest =>
    obtain ⟨rfl, hwc⟩ := hcut
    subst hwc
    have hx6 := below1 W5 (.cells #[.bool intra, .slice none 0 0, .slice none 0 0] 33)
    have hbw6 := bthen' hbw5 hx6
    have hBp6 := B3.new W5 (.bool intra) (.slice none 0 0) (.slice none 0 0) 33
    have hBz6 := hBz5.below hx6
    have hBd6 := hBd5.below hx6
    have hsz6 : (W5.alloc (.cells #[.bool intra, .slice none 0 0, .slice none 0 0] 33)).heap.size = W5.heap.size + 1 := by simp
    have hdp : bd < W5.heap.size := hBd5.z
    have hw5 := hbw5.size
    generalize W5.alloc (.cells #[.bool intra, .slice none 0 0, .slice none 0 0] 33) = W6 at *
    generalize W5.heap.size = bp at *
    have hfa6 := hfa _ hbw6
    clear hBz5 hBd5 hbw5 hx6 hfa
    obtain ⟨S, hS⟩ : ∃ S, bp + 1 = S := ⟨_, rfl⟩
    have hdS : bd < S := by omega
    have hpS : bp < S := by omega
    have hsz6' : S ≤ W6.heap.size := by omega
    clear hS hsz6
    obtain ⟨gz, g0, g1, g2, k0, kk1, k2⟩ := id hBp6
    go_upto_region 9 with fail
    go_cut [54] (fun b wz => b = .bool false ∧ wz = W6)
    case first =>
      have hah := HAH.out
      unfold ahB at hah
      cases intra
      · rw [show fairG c A = true from by simpa using hah] at hfa6
        go_wp2_with (go_at_call 10; refine hfa6.mono ?_; rintro e w9 ⟨rfl, h9⟩; have h9 := h9.symm; subst h9)
        go_meet
        exact ⟨rfl, rfl⟩
      · go_wp2
        go_meet
        exact ⟨rfl, rfl⟩
    case rest =>
      obtain ⟨rfl, hwc⟩ := hcut
      subst hwc
      have HD0 : Hid (D = dGs intra D 0) := rfl
      have HDOK : Hid (∀ k, (dGs intra D k).Ok) := fun k => dGs_ok hDok intra k
      have HDB : Hid (∀ k, (dGs intra D k).B = B) := fun k => (dGs_B intra D k).trans HFB.out
      clear hfa6 gz g0 g1 g2 k0 kk1 k2
      go_wp2
      go_loopw [13] (fun i wr => ∃ (k : Nat) (E : De) (vs : List Value) (oa : Option Addr) (oc : Nat), k ≤ c ∧ i = .int .i64 (k : Nat) ∧ Hid (E = dGs intra D k) ∧ Hid (Ap Rp 45 S wr (.slice oa k oc) k vs (vGs intra D A)) ∧ B4 wr bd (.int .u64 E.C) (.int .u64 E.R) (.slice ab N cb) (.int .i64 E.A) ∧ B3 wr bp (.bool intra) (.slice oa k oc) (.slice none 0 0) ∧ B3 wr w.heap.size (.bool false) (.slice none 0 0) (.slice none 0 0) ∧ Below w.heap.size w wr ∧ S ≤ wr.heap.size) (fun i _ => c - (intOf i).toNat)
      case atStart => exact ⟨0, D, [], none, 0, by omega, rfl, HD0, Ap.nil _ _ _ _, hBd6, hBp6, hBz6, hbw6, hsz6'⟩
      case round =>
        clear hBd6 hBp6 hBz6 hbw6 hsz6' HD0
        obtain ⟨k, E, vs, oa, oc, hk, rfl, HE, HAP, hBd, hBp, hBz, hbel, hSw⟩ := hrel
        obtain ⟨W2, rfl⟩ : ∃ z, z = wr := ⟨wr, rfl⟩
        by_cases hlt : k < c
        · have hat := fun W (h : Below W2.heap.size W2 W) => at_any k aa na ca A W HAL.out (by have := HMA.out; omega) (by omega) (HVA.out.below (bthen hbel h hbel.size))
          have hEO : E.Ok := by rw [HE.out]; exact HDOK.out k
          have hEB : E.B = B := by rw [HE.out]; exact HDB.out k
          have hEr := fun W (h : Below W2.heap.size W2 W) => HBB.out W (bthen hbel h hbel.size)
          have htg := fun ra2 rc2 W (hb : Below W2.heap.size W2 W) (h2 : Rw .i64 W (.slice ra2 (A.getD k []).length rc2) (A.getD k [])) => rgtakeF_any ab cb E ra2 (A.getD k []).length rc2 (A.getD k []) intra rfl W hEO (by rw [hEB, HN.out]; exact hEr W hb) h2 (HGA.out k hlt)
          have hFB : (dK intra E 5).B = B := (dK_B _ _ _).trans hEB
          unfold RTakeF at htg
          rw [hEB, hFB, HN.out] at htg
          have HV : Hid (vK intra E (A.getD k []) 5 = vGs intra D A k) := by unfold Hid vGs; rw [← HE.out]
          have HDN : Hid (dK intra E 5 = dGs intra D (k + 1)) := by unfold Hid; rw [dGs, ← HE.out]
          rw [HV.out, HDN.out] at htg
          clear hEO hEB hEr HV HDN hFB
          generalize hF : dGs intra D (k + 1) = F at *
          have HF := hid hF
          clear hF
          generalize (A.getD k []) = y at *
          have i1 : (0 : Int) ≤ (k : Int) := by omega
          have i2 : (k : Int) < (c : Int) := by omega
          have i3 : IntKind.i64.wrap (k : Int) = k := wraps_i64 _ (by omega) (by omega)
          obtain ⟨z3, d0, d1, d2, d3, df0, df1, df2, df3⟩ := id hBd
          obtain ⟨gz, g0, g1, g2, k0, kk1, k2⟩ := id hBp
          go_wp2
          go_cut [14, 15] (fun p g wz => Hid (RwF W2.heap.size .i64 wz g (vGs intra D A k)) ∧ Made4 W2 wz p (.int .u64 F.C) (.int .u64 F.R) (.slice ab N cb) (.int .i64 F.A))
          case first =>
            have hK : ∀ w', Below W2.heap.size W2 w' → w'.cell? ⟨bd, 0, none⟩ = some (.int .u64 E.C) ∧ w'.cell? ⟨bd, 1, none⟩ = some (.int .u64 E.R) ∧ w'.cell? ⟨bd, 2, none⟩ = some (.slice ab N cb) ∧ w'.cell? ⟨bd, 3, none⟩ = some (.int .i64 E.A) ∧ w'.cell? ⟨bp, 0, none⟩ = some (.bool intra) := fun w' h => ⟨(hBd.below h).c0, (hBd.below h).c1, (hBd.below h).c2, (hBd.below h).c3, (hBp.below h).c0⟩
            generalize vGs intra D A k = gv at *
            go_region_held3 (fun w' => w'.cell? ⟨bd, 0, none⟩ = some (.int .u64 E.C) ∧ w'.cell? ⟨bd, 1, none⟩ = some (.int .u64 E.R) ∧ w'.cell? ⟨bd, 2, none⟩ = some (.slice ab N cb) ∧ w'.cell? ⟨bd, 3, none⟩ = some (.int .i64 E.A) ∧ w'.cell? ⟨bp, 0, none⟩ = some (.bool intra)) (exact hK _ (by first | exact (Below.refl _ _).drew | exact ((Below.refl _ _).alloc (Nat.le_refl _) _).drew | exact hy1 | exact hy1.alloc hy1.size _ | exact bset4 hy1 _ _ _ _ _ (Nat.le_refl _))) (first | (go_at_call 33; refine (hat _ (by first | exact (Below.refl _ _).drew | exact ((Below.refl _ _).alloc (Nat.le_refl _) _).drew)).mono ?_; rintro xx w9 ⟨⟨ra2, rc2, rfl, hra2⟩, h9⟩; have h9 := h9.symm; subst h9) | (go_at_call 46; refine (htg _ _ _ (by first | exact (Below.refl _ _).drew | exact ((Below.refl _ _).alloc (Nat.le_refl _) _).drew) (hra2 _ (by first | exact Below.refl _ _ | exact below_undrew ((Below.refl _ _).alloc (Nat.le_refl _) _).drew | exact (below_undrew (Below.refl _ _)).drew))).mono ?_; rintro xx y1 ⟨ov, rfl, r2, e1⟩; have hy1 : Below W2.heap.size W2 y1 := bthen' (by first | exact (Below.refl _ _).drew | exact ((Below.refl _ _).alloc (Nat.le_refl _) _).drew) e1; (first | (refine with_fact2 ((B4.new W2 (.int .u64 0) (.int .u64 0) (.slice none 0 0) (.int .i64 0) 86).below (drew_below e1)) ?_; rintro ⟨s0, s1, s2, s3, s4, s5, s6, s7, s8⟩) | skip)))
            all_goals go_wp2
            all_goals go_meet
            all_goals first | exact ⟨row_after r2 _, made4_after hy1⟩ | exact ⟨row_before4 r2 _ _ _ _, made4_before e1⟩
          case rest =>
            obtain ⟨hov, ⟨bx, rfl, hBx, hbx, hm⟩⟩ := hcut
            obtain ⟨W3, rfl⟩ : ∃ z, z = wc := ⟨wc, rfl⟩
            have hBd3 := hBd.below hm
            have hBp3 := hBp.below hm
            have hBz3 := hBz.below hm
            have hAP3 := HAP.out.below Rp.keeps hm
            have hbel3 := bthen hbel hm hbel.size
            have hms := hm.size
            have hOwn := fun b e => (HAP.out.1.lt b e)
            clear z3 d0 d1 d2 d3 df0 df1 df2 df3 gz g0 g1 g2 k0 kk1 k2 hat htg
            obtain ⟨z3, d0, d1, d2, d3, df0, df1, df2, df3⟩ := id hBd3
            obtain ⟨x3, x0, x1, x2, xx3, xf0, xf1, xf2, xf3⟩ := id hBx
            go_upto_region 16 with fail
            have hBd4 := hBd3.set (.int .u64 F.C) (.int .u64 F.R) (.slice ab N cb) (.int .i64 F.A)
            have hBp4 := (((hBp3.other bd 0 (.int .u64 F.C) (by omega)).other bd 1 (.int .u64 F.R) (by omega)).other bd 2 (.slice ab N cb) (by omega)).other bd 3 (.int .i64 F.A) (by omega)
            have hBz4 := (((hBz3.other bd 0 (.int .u64 F.C) (by omega)).other bd 1 (.int .u64 F.R) (by omega)).other bd 2 (.slice ab N cb) (by omega)).other bd 3 (.int .i64 F.A) (by omega)
            have hAP4 := Ap.off4 Rp.keeps hAP3 bd (.int .u64 F.C) (.int .u64 F.R) (.slice ab N cb) (.int .i64 F.A) hdS
            have hov4 := (((hov.out.set bd 0 (.int .u64 F.C) (by omega)).set bd 1 (.int .u64 F.R) (by omega)).set bd 2 (.slice ab N cb) (by omega)).set bd 3 (.int .i64 F.A) (by omega)
            have hbel4 := bset4 hbel3 bd (.int .u64 F.C) (.int .u64 F.R) (.slice ab N cb) (.int .i64 F.A) (by omega)
            have hs4 : W3.heap.size ≤ ((((W3.setCell ⟨bd, 0, none⟩ (.int .u64 F.C)).setCell ⟨bd, 1, none⟩ (.int .u64 F.R)).setCell ⟨bd, 2, none⟩ (.slice ab N cb)).setCell ⟨bd, 3, none⟩ (.int .i64 F.A)).heap.size := by simp [World.setCell]
            generalize ((((W3.setCell ⟨bd, 0, none⟩ (.int .u64 F.C)).setCell ⟨bd, 1, none⟩ (.int .u64 F.R)).setCell ⟨bd, 2, none⟩ (.slice ab N cb)).setCell ⟨bd, 3, none⟩ (.int .i64 F.A)) = W4 at *
            clear z3 d0 d1 d2 d3 df0 df1 df2 df3 x3 x0 x1 x2 xx3 xf0 xf1 xf2 xf3 hBd3 hBp3 hBz3 hAP3 hov hBx hbel3 hm hBd hBp hBz hbel HAP
            obtain ⟨oa2, oc2, rfl, _⟩ := id hov4
            obtain ⟨nv, hnv⟩ : ∃ nv, (vGs intra D A k).length = nv := ⟨_, rfl⟩
            have HG4 := hid hov4
            rw [hnv] at HG4
            rw [hnv]
            clear hov4 hnv
            have HAP4 := hid hAP4
            have hownN : (W4.alloc (.cells #[.slice oa2 nv oc2] 45)).ownsRow S 45 1 (.slice oa k oc) k vs := hAP4.1.alloc _
            have m1' : k + 1 ≤ maxLen := by unfold maxLen; omega
            have m2' : (k + 1) * 24 ≤ 140737488355328 := by omega
            have m3' : S ≤ (W4.alloc (.cells #[.slice oa2 nv oc2] 45)).heap.size := by simp; omega
            obtain ⟨gz, g0, g1, g2, k0, kk1, k2⟩ := id hBp4
            clear hAP4
            go_wp2_with (at_builtin; refine wpList_append_lies _ rfl _ _ 22 rfl S 45 i0 (.slice none 0 0) 1 24 Tryz.underlying22 hi hz0 hz1 hz2 rfl (by decide) _ _ _ rfl hownN ⟨W4.heap.size, 0, none⟩ 1 1 [.slice oa2 nv oc2] rfl rfl (cell_one_at rfl _ _) (one_slice _ _ _) (by decide) m1' m2' m3' (W4.heap.size + 1) (by simp) ?_; intro g3 c4 w3 hown3 hgrow3 hat3 hlt3; have hBp5 := (hBp4.below (below1 W4 (.cells #[.slice oa2 nv oc2] 45))).grown hgrow3 (fun e => by have := (hOwn bp e).1; omega); clear gz g0 g1 g2 k0 kk1 k2; obtain ⟨gz, g0, g1, g2, k0, kk1, k2⟩ := id hBp5)
            have hBd5 := (hBd4.below (below1 W4 (.cells #[.slice oa2 nv oc2] 45))).grown hgrow3 (fun e => by have := (hOwn bd e).1; omega)
            have hBz5 := (hBz4.below (below1 W4 (.cells #[.slice oa2 nv oc2] 45))).grown hgrow3 (fun e => by have := (hOwn w.heap.size e).1; omega)
            have hbel5 := (hbel4.alloc hbel4.size (.cells #[.slice oa2 nv oc2] 45)).grown hgrow3 (by have := hbel4.size; simp; omega) (fun q hq => by have := (hOwn q hq).1; have := hbel4.size; omega)
            have hs5 := hgrow3.size
            have hrp : Rp (fun b => S ≤ b ∧ some b ≠ Value.ownBlock (.slice oa k oc)) W4 (.slice oa2 nv oc2) (vGs intra D A k) := Rp.keeps.mono (Rp.ofF HG4.out) fun q _ hq => by have hq2 : W2.heap.size ≤ q := hq; exact ⟨by omega, fun e => by have := (hOwn q e.symm).2; omega⟩
            have hAP5 := (Ap.push2 Rp.keeps HAP4.out hrp hown3 hgrow3 hat3).congr (L' := vGs intra D A) (fun j hj => if_snoc _ _ _ hj)
            have hAP6 := hid (Ap.off Rp.keeps hAP5 bp 1 (.slice (some ⟨g3, 0, none⟩) (k + 1) c4) hpS)
            simp only [World.size_alloc] at hs5
            exact ⟨⟨k + 1, F, _, some ⟨g3, 0, none⟩, c4, by omega, by go_num, HF.out.symm, hAP6, hBd5.other _ _ _ (by omega), hBp5.set1 _, hBz5.other _ _ _ (by omega), bset1 hbel5 _ _ _ (by have := hbel4.size; omega), by simp [World.setCell]; omega⟩, by simp [intOf]; omega⟩
        · obtain rfl : k = c := by omega
          have HGG : Hid (Gp (fun b => S ≤ b) W2 (.slice oa k oc) (gL intra D A k)) := HAP.out.all Rp.keeps []
          have hpu := rpulsesF_any N k oa oc (gL intra D A k) W2 HGG.out.fr HRT.out (gL_fair _ _ _ _)
          have hrm := rm_bd N k
          have HATK : Hid (∀ i, i < k → ((List.range k).map (pul (rmI N k) (gL intra D A k))).getD i [] = pls (kkG (rmI N k) (gL intra D A k) i)) := fun i hi => pul_at _ _ _ i hi
          have HCH : Hid (∀ i b, b < 5 → kkG (rmI N k) (gL intra D A k) i b ≤ 12) := fun i b hb => (chan_ok _ hrm.1).1.le b hb
          have hkl : ((List.range k).map (pul (rmI N k) (gL intra D A k))).length = k := by simp
          generalize hkk : kkG (rmI N k) (gL intra D A k) = kk at *
          have HKK := hid hkk
          generalize (List.range k).map (pul (rmI N k) (gL intra D A k)) = K at *
          clear hkk hrm
          obtain ⟨DG, hDG⟩ : ∃ DG, dGs intra D k = DG := ⟨_, rfl⟩
          have HDG := hid hDG
          have HDGO : Hid DG.Ok := by unfold Hid; rw [← hDG]; exact HDOK.out k
          have HDGB : Hid (DG.B = B) := by unfold Hid; rw [← hDG]; exact HDB.out k
          have HE2 : Hid (E = dC DG kk 0) := by unfold Hid; rw [← hDG]; exact HE.out
          clear hlt HE HDOK HGA HVA HMA HAS HAL hDG HRT HAP HAH
          obtain ⟨gz, g0, g1, g2, k0, kk1, k2⟩ := id hBp
          go_upto_region 18 with (go_at_call 26; refine hpu.mono ?_; rintro x w3 ⟨vk, rfl, hgk, hb3⟩)
          obtain ⟨ka, kc, hvk, _⟩ := id hgk
          rw [hkl] at hvk
          subst hvk
          have hBp3 := hBp.below hb3
          have hBd3 := hBd.below hb3
          have hBz3 := hBz.below hb3
          have hbel3 := bthen hbel hb3 hbel.size
          obtain ⟨S2, hS2⟩ : ∃ S2, w3.heap.size = S2 := ⟨_, rfl⟩
          have hs3 := hb3.size
          have HGG3 : Hid (Gp (fun b => S ≤ b ∧ b < S2) w3 (.slice oa k oc) (gL intra D A k)) := Gp.keeps.mono (Gp.keeps.below HGG.out hb3) fun q hq hp => ⟨hp, by omega⟩
          have HGK3 : Hid (Gp (fun b => S ≤ b ∧ b < S2) w3 (.slice ka k kc) K) := Gp.keeps.mono hgk fun q hq hp => ⟨by omega, by omega⟩
          have hSS2 : S ≤ S2 := by omega
          have hS2w : S2 ≤ w3.heap.size := by omega
          have HKL := hid hkl
          clear hkl hpu hgk hb3 hBp hBd hBz hbel HGG hs3 hS2 gz g0 g1 g2 k0 kk1 k2
          go_wp2
          go_loopw [17] (fun i wr => ∃ (j : Nat) (E : De) (LY : Nat → List (List Int)) (ys : List Value) (ya : Option Addr) (yc : Nat), j ≤ k ∧ i = .int .i64 (j : Nat) ∧ Hid (E = dC DG kk j) ∧ Hid (∀ q, q < j → TkV (dC DG kk q) (kk q) (LY q)) ∧ Hid (Ap Gp 22 S2 wr (.slice ya j yc) j ys LY) ∧ Hid (Gp (fun b => S ≤ b ∧ b < S2) wr (.slice oa k oc) (gL intra D A k)) ∧ Hid (Gp (fun b => S ≤ b ∧ b < S2) wr (.slice ka k kc) K) ∧ B4 wr bd (.int .u64 E.C) (.int .u64 E.R) (.slice ab N cb) (.int .i64 E.A) ∧ B3 wr bp (.bool intra) (.slice oa k oc) (.slice ya j yc) ∧ B3 wr w.heap.size (.bool false) (.slice none 0 0) (.slice none 0 0) ∧ Below w.heap.size w wr ∧ S2 ≤ wr.heap.size) (fun i _ => k - (intOf i).toNat)
          case atStart => exact ⟨0, E, fun _ => [], [], none, 0, by omega, rfl, HE2, (fun q hq => by omega), Ap.nil _ _ _ _, HGG3, HGK3, hBd3, hBp3, hBz3, hbel3, hS2w⟩
          case round =>
            clear hBd3 hBp3 hBz3 hbel3 HGG3 HGK3 HE2 hS2w
            obtain ⟨j, E, LY, ys, ya, yc, hj, rfl, HE, HTK, HAY, HGG, HGK, hBd, hBp, hBz, hbel, hSw2⟩ := hrel
            obtain ⟨W3, rfl⟩ : ∃ z, z = wr := ⟨wr, rfl⟩
            by_cases hltj : j < k
            · obtain ⟨kb, ko, kr, hko, hkb, kc1, hkr⟩ := Lp.at HGK.out j hltj
              have hkbP : S ≤ kb ∧ kb < S2 := by
                obtain ⟨ka', kc', hkv, hh⟩ := id HGK.out
                simp only [Value.slice.injEq] at hkv
                obtain ⟨rfl, -, rfl⟩ := hkv
                rcases hh with hh | ⟨b', o', hb', hp', _⟩
                · exfalso; have hl : K.length = 0 := by rw [hh]; rfl
                  have hl2 := HKL.out
                  omega
                · rw [hko] at hb'
                  simp only [Option.some.injEq, Addr.mk.injEq] at hb'
                  obtain ⟨rfl, -, -⟩ := hb'
                  exact hp'
              subst hko
              rw [HATK.out j hltj] at hkr
              obtain ⟨rka, rkc, hrkv, hrkh⟩ := id hkr
              rw [pls_len] at hrkv
              subst hrkv
              obtain ⟨fb, fo, hfo, hfbP, hfb, hfc⟩ := hrkh.resolve_left (by intro h; have := congrArg List.length h; rw [pls_len] at this; simp at this)
              subst hfo
              rw [pls_len] at hfc
              have HFC : Hid (∀ n, n < 5 → W3.cell? ⟨fb, fo + n, none⟩ = some (.int .i64 (kk j n : Nat))) := fun n hn => by rw [hfc n hn, pls_at _ _ hn]
              have HKC := hid kc1
              have hEO : E.Ok := by rw [HE.out]; exact dC_ok HDGO.out HCH.out j
              have HEB : Hid (E.B = B) := by unfold Hid; rw [HE.out, dC_B]; exact HDGB.out
              have hdBO : Hid (∀ n, n ≤ 5 → (dB E (kk j) n).Ok) := fun n hn => dB_ok hEO (HCH.out j) n hn
              have HCJ := hid (HCH.out j)
              have HTE : Hid (∀ l, TkV E (kk j) l → TkV (dC DG kk j) (kk j) l) := fun l h => by rw [← HE.out]; exact h
              have HDN : Hid (dB E (kk j) 5 = dC DG kk (j + 1)) := by unfold Hid; rw [dC, ← HE.out]
              generalize hfk : kk j = f at *
              have HFK := hid hfk
              clear hfk
              obtain ⟨S3, hS3⟩ : ∃ S3, W3.heap.size = S3 := ⟨_, rfl⟩
              have hS3a : S2 ≤ S3 := by omega
              have hS3b : S3 ≤ W3.heap.size := by omega
              have hS3c : W3.heap.size ≤ S3 := by omega
              have hBd0 := hBd
              have hbel0 := hbel
              clear hfc kc1 hkr hfb hEO hS3 hkb
              go_wp2
              go_loopw [18, 19] (fun l i wr => ∃ (n : Nat) (E' : De) (ls : List Value) (la : Option Addr) (lc : Nat) (LV : Nat → List Int), n ≤ 5 ∧ l = .slice la n lc ∧ i = .int .i64 (n : Nat) ∧ Hid (dB E f n = E') ∧ Hid (VsT E f LV n) ∧ Hid (Ap Rp 45 S3 wr (.slice la n lc) n ls LV) ∧ B4 wr bd (.int .u64 E'.C) (.int .u64 E'.R) (.slice ab N cb) (.int .i64 E'.A) ∧ Hid (W3.grownBy wr (some bd)) ∧ Below w.heap.size w wr ∧ S3 ≤ wr.heap.size) (fun _ i _ => 5 - (intOf i).toNat)
              case atStart => exact ⟨0, E, [], none, 0, fun _ => [], by omega, rfl, rfl, rfl, (fun q hq => by omega), Ap.nil _ _ _ _, hBd0, gb_refl _ _, hbel0, hS3b⟩
              case round =>
                clear hBd0 hbel0 hBd hbel
                obtain ⟨n, E', ls, la, lc, LV, hn5, rfl, rfl, HDBn, HVT, HAL, hBd, HGB, hbel, hSw3⟩ := hrel
                obtain ⟨W7, rfl⟩ : ∃ z, z = wr := ⟨wr, rfl⟩
                by_cases hltn : n < 5
                · have hwd := fun w => rwidth_b n hltn w
                  have hfn := HCJ.out n hltn
                  have hwp := wd_pos hltn
                  have c3 := HGB.out.cell HKC.out (fun e => by simp at e; omega)
                  have c4 := HGB.out.cell (HFC.out n hltn) (fun e => by simp at e; omega)
                  have HVB : Hid (vB E f n = if f n = 0 then 0 else E'.numV (V (wd n) (f n))) := by unfold Hid vB; rw [HDBn.out]
                  have HDB1 : Hid (dB E f (n + 1) = if f n = 0 then E' else E'.numD (V (wd n) (f n))) := by unfold Hid; rw [dB, HDBn.out]
                  have HVP := hid (V_pos (wd n) (f n) hwp.1)
                  have hVt := (V_tab hltn hfn).1
                  have m1' : n + 1 ≤ maxLen := by unfold maxLen; omega
                  have m2' : (n + 1) * 24 ≤ 140737488355328 := by omega
                  have i1 : (0 : Int) ≤ (j : Int) := by omega
                  have i2 : (j : Int) < (k : Int) := by omega
                  have i3 : IntKind.i64.wrap (j : Int) = j := wraps_i64 _ (by omega) (by omega)
                  have j1 : (0 : Int) ≤ (n : Int) := by omega
                  have j2 : (n : Int) < 5 := by omega
                  have j3 : IntKind.i64.wrap (n : Int) = n := wraps_i64 _ (by omega) (by omega)
                  by_cases h0 : f n = 0
                  · have HVBE : Hid (vB E f n = 0) := by unfold Hid; rw [HVB.out, if_pos h0]
                    have HDBE : Hid (dB E f (n + 1) = E') := by unfold Hid; rw [HDB1.out, if_pos h0]
                    have hve := fun W => rvector_ok (wd n) (f n) 0 W hwp.2 hfn HVP.out
                    have HP50 := hid h0
                    rw [h0] at c4 hve
                    have hbd0 := hBd
                    obtain ⟨z3, d0, d1, d2, d3, df0, df1, df2, df3⟩ := id hBd
                    clear HVB HDB1 hVt
                    go_wp2_with (first | (go_at_call 27; refine (hwd _).mono ?_; rintro e w9 ⟨rfl, h9⟩; have h9 := h9.symm; subst h9) | (go_at_call 48; refine (hve _).mono ?_; rintro xx y5 ⟨vv, ys5, rfl, r5, hl5, hp5, hi5, e5⟩; obtain ⟨va, vc, hvv, _⟩ := id r5; rw [hl5] at hvv; subst hvv; have HR5 := hid r5; have HL5 := hid hl5; have HP5 := hid hp5; have HI5 := hid hi5; clear r5 hl5 hp5 hi5; have hAL5 := hid (Ap.below Rp.keeps HAL.out e5); have hownN := hAL5.out.1.alloc (.cells #[.slice va (wd n) vc] 45); have hs5 := e5.size; have m3' : S3 ≤ (y5.alloc (.cells #[.slice va (wd n) vc] 45)).heap.size := by simp; omega) | (at_builtin; refine wpList_append_lies _ rfl _ _ 22 rfl S3 45 i0 (.slice none 0 0) 1 24 Tryz.underlying22 hi hz0 hz1 hz2 rfl (by decide) _ _ _ rfl hownN ⟨y5.heap.size, 0, none⟩ 1 1 [.slice va (wd n) vc] rfl rfl (cell_one_at rfl _ _) (one_slice _ _ _) (by decide) m1' m2' m3' (y5.heap.size + 1) (by simp) ?_; intro g6 c6 w6 hown6 hgrow6 hat6 hlt6))
                    have hOwn6 := fun b e => (hAL5.out.1.lt b e)
                    have hrp6 : Rp (fun b => S3 ≤ b ∧ some b ≠ Value.ownBlock (.slice la n lc)) y5 (.slice va (wd n) vc) ys5 := Rp.keeps.mono (Rp.ofF HR5.out) fun q _ hq => ⟨by have hq2 : W7.heap.size ≤ q := hq; omega, fun e => by have hq2 : W7.heap.size ≤ q := hq; have := (HAL.out.1.lt q e.symm).2; omega⟩
                    have hAP6 := hid (Ap.push2 Rp.keeps hAL5.out hrp6 hown6 hgrow6 hat6)
                    have hx5 := bthen' e5 (below1 y5 (.cells #[.slice va (wd n) vc] 45))
                    have hBd6 := (hBd.below hx5).grown hgrow6 (fun e => by have := (hOwn6 bd e).1; omega)
                    have hgb6 := hid (gb_grown (gb_below HGB.out hx5) hgrow6 (fun q hq => by have := (hOwn6 q hq).1; omega))
                    have hbel6 := ((bthen hbel e5 hbel.size).alloc (bthen hbel e5 hbel.size).size (.cells #[.slice va (wd n) vc] 45)).grown hgrow6 (by have := (bthen hbel e5 hbel.size).size; simp; omega) (fun q hq => by have := (hOwn6 q hq).1; omega)
                    have hs6 := hgrow6.size
                    have HVT6 := hid (HVT.out.snoc (y := ys5) HL5.out (by rw [HP5.out]; exact HP50.out.symm) (by rw [HP50.out, HI5.out, HVBE.out]))
                    simp only [World.size_alloc] at hs6
                    clear hx5 hOwn6 hrp6 hgrow6 hown6 hat6
                    go_wp2
                    exact ⟨⟨n + 1, _, _, some ⟨g6, 0, none⟩, c6, _, by omega, rfl, by go_num, HDBE, HVT6, hAP6, hBd6, hgb6, hbel6, by omega⟩, by simp [intOf]; omega⟩
                  · have hp0 : 0 < f n := by omega
                    have hE'O : E'.Ok := by rw [← HDBn.out]; exact hdBO.out n (by omega)
                    have hE'B : E'.B = B := by rw [← HDBn.out, dB_B]; exact HEB.out
                    have hcn := fun W => rcount_any (wd n) (f n) W hwp.2 hfn
                    have htn := fun W (h : Below W7.heap.size W7 W) => rtakeNum_any ab cb E' (V (wd n) (f n)) HVP.out hVt W hE'O (by rw [hE'B, HN.out]; exact HBB.out W (bthen hbel h hbel.size))
                    have hve := fun W => rvector_ok (wd n) (f n) (E'.numV (V (wd n) (f n))) W hwp.2 hfn (numV_below _ HVP.out)
                    have hDB2 : (E'.numD (V (wd n) (f n))).B = B := (De.numD_B _ _).trans hE'B
                    unfold decW at htn
                    rw [hE'B, hDB2, HN.out] at htn
                    have HVBE : Hid (vB E f n = E'.numV (V (wd n) (f n))) := by unfold Hid; rw [HVB.out, if_neg h0]
                    have HDBE : Hid (dB E f (n + 1) = E'.numD (V (wd n) (f n))) := by unfold Hid; rw [HDB1.out, if_neg h0]
                    clear HVB HDB1 hVt hE'O hE'B hDB2 h0
                    generalize E'.numD (V (wd n) (f n)) = D2 at *
                    generalize E'.numV (V (wd n) (f n)) = I at *
                    generalize V (wd n) (f n) = X at *
                    obtain ⟨z3, d0, d1, d2, d3, df0, df1, df2, df3⟩ := id hBd
                    go_upto_region 28 with (go_at_call 27; refine (hwd _).mono ?_; rintro e w9 ⟨rfl, h9⟩; have h9 := h9.symm; subst h9)
                    go_cut [22, 23] (fun p u wz => u = .int .u64 (I : Nat) ∧ Made4 W7 wz p (.int .u64 D2.C) (.int .u64 D2.R) (.slice ab N cb) (.int .i64 D2.A))
                    case first =>
                      have hK2 : ∀ w', Below W7.heap.size W7 w' → w'.cell? ⟨bd, 0, none⟩ = some (.int .u64 E'.C) ∧ w'.cell? ⟨bd, 1, none⟩ = some (.int .u64 E'.R) ∧ w'.cell? ⟨bd, 2, none⟩ = some (.slice ab N cb) ∧ w'.cell? ⟨bd, 3, none⟩ = some (.int .i64 E'.A) ∧ w'.cell? ⟨kb, ko + j, none⟩ = some (.slice (some ⟨fb, fo, none⟩) 5 rkc) ∧ w'.cell? ⟨fb, fo + n, none⟩ = some (.int .i64 (f n : Nat)) := fun w' h => ⟨(hBd.below h).c0, (hBd.below h).c1, (hBd.below h).c2, (hBd.below h).c3, ((bcell h).1 _ _ (World.block_lt_of_cell? W7 _ c3)).trans c3, ((bcell h).1 _ _ (World.block_lt_of_cell? W7 _ c4)).trans c4⟩
                      go_region_held3 (fun w' => w'.cell? ⟨bd, 0, none⟩ = some (.int .u64 E'.C) ∧ w'.cell? ⟨bd, 1, none⟩ = some (.int .u64 E'.R) ∧ w'.cell? ⟨bd, 2, none⟩ = some (.slice ab N cb) ∧ w'.cell? ⟨bd, 3, none⟩ = some (.int .i64 E'.A) ∧ w'.cell? ⟨kb, ko + j, none⟩ = some (.slice (some ⟨fb, fo, none⟩) 5 rkc) ∧ w'.cell? ⟨fb, fo + n, none⟩ = some (.int .i64 (f n : Nat))) (exact hK2 _ (by first | exact (Below.refl _ _).drew | exact ((Below.refl _ _).alloc (Nat.le_refl _) _).drew | exact hy2 | exact hy2.alloc hy2.size _ | exact bset4 hy2 _ _ _ _ _ (Nat.le_refl _) | exact bset4 hy2 _ _ _ _ _ hy1.size | exact hy1 | exact hy1.alloc hy1.size _)) (first | (go_at_call 36; refine (hcn _).mono ?_; rintro x y1 ⟨rfl, e1⟩; have hy1 : Below W7.heap.size W7 y1 := bthen' (by first | exact (Below.refl _ _).drew | exact ((Below.refl _ _).alloc (Nat.le_refl _) _).drew) e1) | (go_at_call 47; refine (htn _ (by first | exact hy1 | exact hy1.alloc hy1.size _)).mono ?_; rintro x y2 ⟨rfl, e2⟩; have hy2 : Below W7.heap.size W7 y2 := bthen' (by first | exact hy1 | exact hy1.alloc hy1.size _) e2; (first | (refine with_fact2 (((B4.new W7 (.int .u64 0) (.int .u64 0) (.slice none 0 0) (.int .i64 0) 86).below (drew_below e1)).below e2) ?_; rintro ⟨s0, s1, s2, s3, s4, s5, s6, s7, s8⟩) | (refine with_fact2 ((B4.new y1 (.int .u64 0) (.int .u64 0) (.slice none 0 0) (.int .i64 0) 86).below e2) ?_; rintro ⟨s0, s1, s2, s3, s4, s5, s6, s7, s8⟩) | skip)))
                      all_goals go_wp2
                      all_goals go_meet
                      all_goals first | exact ⟨rfl, made4_after hy2⟩ | exact ⟨rfl, made4_before (bthen' e1 e2)⟩ | exact ⟨rfl, made4_amid hy1 e2⟩
                    case rest =>
                      obtain ⟨rfl, ⟨bx, rfl, hBx, hbx, hm⟩⟩ := hcut
                      obtain ⟨W8, rfl⟩ : ∃ z, z = wc := ⟨wc, rfl⟩
                      have hBd8 := hBd.below hm
                      have hAL8 := HAL.out.below Rp.keeps hm
                      have hgb8 := gb_below HGB.out hm
                      have hbel8 := bthen hbel hm hbel.size
                      have hms := hm.size
                      have c3' := ((bcell hm).1 _ _ (World.block_lt_of_cell? W7 _ c3)).trans c3
                      have c4' := ((bcell hm).1 _ _ (World.block_lt_of_cell? W7 _ c4)).trans c4
                      clear z3 d0 d1 d2 d3 df0 df1 df2 df3 htn hcn
                      obtain ⟨z3, d0, d1, d2, d3, df0, df1, df2, df3⟩ := id hBd8
                      obtain ⟨x3, x0, x1, x2, xx3, xf0, xf1, xf2, xf3⟩ := id hBx
                      go_upto_region 30 with fail
                      have hBd9 := hBd8.set (.int .u64 D2.C) (.int .u64 D2.R) (.slice ab N cb) (.int .i64 D2.A)
                      have hAL9 := hid (Ap.off4 Rp.keeps hAL8 bd (.int .u64 D2.C) (.int .u64 D2.R) (.slice ab N cb) (.int .i64 D2.A) (by omega))
                      have hgb9 := hid (gb_set4 hgb8 (.int .u64 D2.C) (.int .u64 D2.R) (.slice ab N cb) (.int .i64 D2.A))
                      have hbel9 := bset4 hbel8 bd (.int .u64 D2.C) (.int .u64 D2.R) (.slice ab N cb) (.int .i64 D2.A) (by omega)
                      have hs9 : W8.heap.size ≤ ((((W8.setCell ⟨bd, 0, none⟩ (.int .u64 D2.C)).setCell ⟨bd, 1, none⟩ (.int .u64 D2.R)).setCell ⟨bd, 2, none⟩ (.slice ab N cb)).setCell ⟨bd, 3, none⟩ (.int .i64 D2.A)).heap.size := by simp [World.setCell]
                      have c3'' := hgb9.out.cell HKC.out (fun e => by simp at e; omega)
                      have c4'' := hgb9.out.cell (HFC.out n hltn) (fun e => by simp at e; omega)
                      generalize ((((W8.setCell ⟨bd, 0, none⟩ (.int .u64 D2.C)).setCell ⟨bd, 1, none⟩ (.int .u64 D2.R)).setCell ⟨bd, 2, none⟩ (.slice ab N cb)).setCell ⟨bd, 3, none⟩ (.int .i64 D2.A)) = W9 at *
                      clear z3 d0 d1 d2 d3 df0 df1 df2 df3 x3 x0 x1 x2 xx3 xf0 xf1 xf2 xf3 hBd8 hAL8 hgb8 hbel8 hBx hm c3 c4 c3' c4' hBd hbel HAL HGB
                      go_wp2_with (first | (go_at_call 27; refine (hwd _).mono ?_; rintro e w9 ⟨rfl, h9⟩; have h9 := h9.symm; subst h9) | (go_at_call 48; refine (hve _).mono ?_; rintro xx y5 ⟨vv, ys5, rfl, r5, hl5, hp5, hi5, e5⟩; obtain ⟨va, vc, hvv, _⟩ := id r5; rw [hl5] at hvv; subst hvv; have HR5 := hid r5; have HL5 := hid hl5; have HP5 := hid hp5; have HI5 := hid hi5; clear r5 hl5 hp5 hi5; have hAL5 := hid (Ap.below Rp.keeps hAL9.out e5); have hownN := hAL5.out.1.alloc (.cells #[.slice va (wd n) vc] 45); have hs5 := e5.size; have m3' : S3 ≤ (y5.alloc (.cells #[.slice va (wd n) vc] 45)).heap.size := by simp; omega) | (at_builtin; refine wpList_append_lies _ rfl _ _ 22 rfl S3 45 i0 (.slice none 0 0) 1 24 Tryz.underlying22 hi hz0 hz1 hz2 rfl (by decide) _ _ _ rfl hownN ⟨y5.heap.size, 0, none⟩ 1 1 [.slice va (wd n) vc] rfl rfl (cell_one_at rfl _ _) (one_slice _ _ _) (by decide) m1' m2' m3' (y5.heap.size + 1) (by simp) ?_; intro g6 c6 w6 hown6 hgrow6 hat6 hlt6))
                      have hOwn6 := fun b e => (hAL5.out.1.lt b e)
                      have hrp6 : Rp (fun b => S3 ≤ b ∧ some b ≠ Value.ownBlock (.slice la n lc)) y5 (.slice va (wd n) vc) ys5 := Rp.keeps.mono (Rp.ofF HR5.out) fun q _ hq => ⟨by have hq2 : W9.heap.size ≤ q := hq; omega, fun e => by have hq2 : W9.heap.size ≤ q := hq; have := (hAL9.out.1.lt q e.symm).2; omega⟩
                      have hAP6 := hid (Ap.push2 Rp.keeps hAL5.out hrp6 hown6 hgrow6 hat6)
                      have hx5 := bthen' e5 (below1 y5 (.cells #[.slice va (wd n) vc] 45))
                      have hBd6 := (hBd9.below hx5).grown hgrow6 (fun e => by have := (hOwn6 bd e).1; omega)
                      have hgb6 := hid (gb_grown (gb_below hgb9.out hx5) hgrow6 (fun q hq => by have := (hOwn6 q hq).1; omega))
                      have hbel6 := ((bthen hbel9 e5 hbel9.size).alloc (bthen hbel9 e5 hbel9.size).size (.cells #[.slice va (wd n) vc] 45)).grown hgrow6 (by have := (bthen hbel9 e5 hbel9.size).size; simp; omega) (fun q hq => by have := (hOwn6 q hq).1; omega)
                      have hs6 := hgrow6.size
                      have HVT6 := hid (HVT.out.snoc (y := ys5) HL5.out HP5.out (by rw [HI5.out, HVBE.out]))
                      simp only [World.size_alloc] at hs6
                      clear hx5 hOwn6 hrp6 hgrow6 hown6 hat6
                      go_wp2
                      exact ⟨⟨n + 1, _, _, some ⟨g6, 0, none⟩, c6, _, by omega, rfl, by go_num, HDBE, HVT6, hAP6, hBd6, hgb6, hbel6, by omega⟩, by simp [intOf]; omega⟩
                · obtain rfl : n = 5 := by omega
                  have HL : Hid (TkV E f ((List.range 5).map LV)) := HVT.out.tk
                  have HGL : Hid (Gp (fun b => S3 ≤ b) W7 (.slice la 5 lc) ((List.range 5).map LV)) := HAL.out.all Rp.keeps []
                  have hAY7 := hid (HAY.out.butp Gp.keeps HGB.out (show bd < S2 by omega))
                  have hGG7 := hid (gp_kept HGG.out HGB.out (fun p e hp => by have := Option.some.inj e; omega))
                  have hGK7 := hid (gp_kept HGK.out HGB.out (fun p e hp => by have := Option.some.inj e; omega))
                  have hBp7 := hBp.kept HGB.out (show bp ≠ bd by omega)
                  have hBz7 := hBz.kept HGB.out (show w.heap.size ≠ bd by omega)
                  have hTK2 := hid (HTE.out _ HL.out)
                  have HDE : Hid (E' = dC DG kk (j + 1)) := by unfold Hid; rw [← HDN.out]; exact HDBn.out.symm
                  have hOwn := fun b e => (HAY.out.1.lt b e)
                  have hOwn7 := fun b e => (hAY7.out.1.lt b e)
                  generalize (List.range 5).map LV = l at *
                  have m1' : j + 1 ≤ maxLen := by unfold maxLen; omega
                  have m2' : (j + 1) * 24 ≤ 140737488355328 := by omega
                  have hownN := hAY7.out.1.alloc (.cells #[.slice la 5 lc] 22)
                  have m3' : S2 ≤ (W7.alloc (.cells #[.slice la 5 lc] 22)).heap.size := by simp; omega
                  obtain ⟨gz, g0, g1, g2, k0, kk1, k2⟩ := id hBp7
                  clear hltn HVT HAL HAY HGG HGK hBp hBz HDBn hdBO HTE HDN HFC HKC HEB HCJ
                  go_wp2_with (at_builtin; refine wpList_append_lies _ rfl _ _ 23 rfl S2 22 j0 (.slice none 0 0) 1 24 Tryz.underlying23 ji jz0 jz1 jz2 rfl (by decide) _ _ _ rfl hownN ⟨W7.heap.size, 0, none⟩ 1 1 [.slice la 5 lc] rfl rfl (cell_one_at rfl _ _) (one_slice _ _ _) (by decide) m1' m2' m3' (W7.heap.size + 1) (by simp) ?_; intro g6 c6 w6 hown6 hgrow6 hat6 hlt6; have hBp8 := (hBp7.below (below1 W7 (.cells #[.slice la 5 lc] 22))).grown hgrow6 (fun e => by have := (hOwn7 bp e).1; omega); clear gz g0 g1 g2 k0 kk1 k2; obtain ⟨gz, g0, g1, g2, k0, kk1, k2⟩ := id hBp8)
                  have hxx := below1 W7 (.cells #[.slice la 5 lc] 22)
                  have hBd8 := (hBd.below hxx).grown hgrow6 (fun e => by have := (hOwn7 bd e).1; omega)
                  have hBz8 := (hBz7.below hxx).grown hgrow6 (fun e => by have := (hOwn7 w.heap.size e).1; omega)
                  have hbel8 := (hbel.alloc hbel.size (.cells #[.slice la 5 lc] 22)).grown hgrow6 (by have := hbel.size; simp; omega) (fun q hq => by have := (hOwn7 q hq).1; omega)
                  have hGG8 := hid (gp_off (gp_kept (Gp.keeps.below hGG7.out hxx) hgrow6 (fun p e hp => by have := (hOwn7 p e).1; omega)) bp 2 (.slice (some ⟨g6, 0, none⟩) (j + 1) c6) (by omega))
                  have hGK8 := hid (gp_off (gp_kept (Gp.keeps.below hGK7.out hxx) hgrow6 (fun p e hp => by have := (hOwn7 p e).1; omega)) bp 2 (.slice (some ⟨g6, 0, none⟩) (j + 1) c6) (by omega))
                  have hrp6 : Gp (fun b => S2 ≤ b ∧ some b ≠ Value.ownBlock (.slice ya j yc)) W7 (.slice la 5 lc) l := Gp.keeps.mono HGL.out fun q _ hq => by have hq2 : S3 ≤ q := hq; exact ⟨by omega, fun e => by have := (hOwn q e.symm).2; omega⟩
                  have hAY8 := hid (Ap.off Gp.keeps (Ap.push2 Gp.keeps hAY7.out hrp6 hown6 hgrow6 hat6) bp 2 (.slice (some ⟨g6, 0, none⟩) (j + 1) c6) (by omega))
                  have hTK8 : Hid (∀ q, q < j + 1 → TkV (dC DG kk q) (kk q) ((fun z => if z < j then LY z else l) q)) := fun q hq => by
                    by_cases e : q < j
                    · simp only [if_pos e]; exact HTK.out q e
                    · obtain rfl : q = j := by omega
                      simp only [if_neg e]; rw [HFK.out]; exact hTK2.out
                  have hs6 := hgrow6.size
                  simp only [World.size_alloc] at hs6
                  clear hown6 hgrow6 hat6 hxx
                  go_wp2
                  exact ⟨⟨j + 1, E', _, _, some ⟨g6, 0, none⟩, c6, by omega, by go_num, HDE, hTK8, hAY8, hGG8, hGK8, hBd8.other _ _ _ (by omega), hBp8.set2 _, hBz8.other _ _ _ (by omega), bset1 hbel8 _ _ _ (by omega), by simp [World.setCell]; omega⟩, by simp [intOf]; omega⟩
            · obtain rfl : j = k := by omega
              obtain ⟨z0, o0, o1, o2, q0, q1, q2⟩ := id hBp
              obtain ⟨rz, r0, r1, r2, p0, p1, p2⟩ := id hBz
              have HTY : Hid (TkY DG kk j ((List.range j).map LY)) := ⟨by simp, fun i hi => by rw [show ((List.range j).map LY).getD i [] = LY i by simp [List.getD_eq_getElem?_getD, hi]]; exact HTK.out i hi⟩
              have hwS : w.heap.size < S := by omega
              clear hltj HTK
              go_wp2
              refine bodyPost_ret (v := .tuple #[.agg #[.bool intra, .slice oa j oc, .slice ya j yc], .int .i64 0]) (by simp [results, Tryz.results14, go_sem, r0, r1, r2, p0, p1, p2]) rfl ⟨_, _, _, rfl, ?_, by rw [HDG.out, HKK.out]; exact HTY.out, ?_, bset3 hbel _ _ _ _ (Nat.le_refl _)⟩
              · exact Gp.fr (gp_off (gp_off (gp_off HGG.out _ _ _ (by omega)) _ _ _ (by omega)) _ _ _ (by omega))
              · exact Cp.fc (Ap.all Gp.keeps [] (Ap.off Gp.keeps (Ap.off Gp.keeps (Ap.off Gp.keeps HAY.out _ _ _ (by omega)) _ _ _ (by omega)) _ _ _ (by omega)))
end Go.Proofs.YtidppkbphkcmeaaGreat
