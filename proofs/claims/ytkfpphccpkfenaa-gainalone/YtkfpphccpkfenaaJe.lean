/- The contract of the document's Put of gains, intra and against the gains ahead. -/
import Derived.Test.YtkfpphccpkfenaaJd
namespace Go.Proofs.Ytkfpphccpkfenaa
open Go.RowKit
set_option linter.unusedVariables false
set_option linter.unusedSimpArgs false

theorem rEv.set2 {w : World} {R : Int} {a : Option Addr} {n cap : Nat} {e : En} (h : rEv w R a n cap e) {b : Nat} {R' : Int} {v : Value} (hB : B2 w b (.int .u64 R') v) (hv : ∀ z, v ≠ .int .i64 z) (y0 y1 : Value) : rEv ((w.setCell ⟨b, 0, none⟩ y0).setCell ⟨b, 1, none⟩ y1) R a n cap e :=
  ⟨h.1, h.2.1, h.2.2.1, hB.apart h.2.2.2 (fun z => by simp) hv _ _⟩
theorem B2.set {w : World} {b : Nat} {x0 x1 : Value} (h : B2 w b x0 x1) (y0 y1 : Value) : B2 ((w.setCell ⟨b, 0, none⟩ y0).setCell ⟨b, 1, none⟩ y1) b y0 y1 := (h.set0 y0).set1 y1
theorem bset2x {B : Nat} {a w : World} (h : Below B a w) (p : Nat) (x0 x1 : Value) (hp : B ≤ p) : Below B a ((w.setCell ⟨p, 0, none⟩ x0).setCell ⟨p, 1, none⟩ x1) := bset1 (bset1 h p 0 x0 hp) p 1 x1 hp

set_option maxRecDepth 10000 in
set_option maxHeartbeats 2000000 in
theorem rgput_arg (R : Int) (a : Option Addr) (n cap : Nat) (e : En) (ax : Option Addr) (nx cx : Nat) (x : List Int) (ay : Option Addr) (ny cy : Nat) (y : List Int) (intra : Bool) (hx : nx = x.length) (hy : ny = y.length) (hlx : x.length ≤ 100) (hly : y.length ≤ 100) (w : World) (h : rEv w R a n cap e) (hvx : Rw .i64 w (.slice ax nx cx) x) (hvy : Rw .i64 w (.slice ay ny cy) y) (hbad : gpB x y intra = false) :
    Calls Try.prog 12 #[.agg #[.int .u64 R, .slice a n cap], .slice ax nx cx, .slice ay ny cy, .bool intra] w fun xx w' => RPut w xx w' e 1 := by
  have hW := below2 w (.cells #[.int .u64 R, .slice a n cap] 36) (.cells #[.int .u64 0, .slice none 0 0] 36)
  have hr := fun W h => rright_any ax nx cx x hx hlx W h
  have hra := fun W h => rright_any ay ny cy y hy hly W h
  have h1 := h.below hW
  have h2 := hvx.below hW
  have h3 := hvy.below hW
  have hBr := B2.new2 w (.cells #[.int .u64 R, .slice a n cap] 36) (.int .u64 0) (.slice none 0 0) 36
  obtain ⟨rz, r0, r1, p0, p1⟩ := id hBr
  clear hx hy hlx hly
  unfold gpB at hbad
  generalize gokB x = p at *
  generalize gokB y = q at *
  unfold RPut
  cases p
  · clear hbad
    go_enter Try.func12, Try.ntmps12
    go_wp2_with ((go_at_call_of 16 (Value.slice ax nx cx); refine (hr _ h2).mono ?_; rintro x w9 ⟨rfl, h9⟩; have h9 := h9.symm; subst h9))
    exact bodyPost_ret (v := .tuple #[.agg #[.int .u64 R, .slice a n cap], .int .i64 1]) (by simp [results, Try.results12, go_sem, r0, r1, p0, p1]) rfl ⟨R, a, n, cap, rfl, (by first | exact h.below (below2 _ _ _) | exact h1.set2 hBr (fun z => by simp) _ _), (by first | exact below2 _ _ _ | exact bset2x hW _ _ _ (by omega))⟩
  · simp only [Bool.true_and] at hbad
    cases intra
    · simp only [Bool.false_or] at hbad
      subst hbad
      go_enter Try.func12, Try.ntmps12
      go_wp2_with (first | (go_at_call_of 16 (Value.slice ax nx cx); refine (hr _ h2).mono ?_; rintro x w9 ⟨rfl, h9⟩; have h9 := h9.symm; subst h9) | (go_at_call_of 16 (Value.slice ay ny cy); refine (hra _ h3).mono ?_; rintro x w9 ⟨rfl, h9⟩; have h9 := h9.symm; subst h9))
      exact bodyPost_ret (v := .tuple #[.agg #[.int .u64 R, .slice a n cap], .int .i64 1]) (by simp [results, Try.results12, go_sem, r0, r1, p0, p1]) rfl ⟨R, a, n, cap, rfl, (by first | exact h.below (below2 _ _ _) | exact h1.set2 hBr (fun z => by simp) _ _), (by first | exact below2 _ _ _ | exact bset2x hW _ _ _ (by omega))⟩
    · simp at hbad

set_option maxRecDepth 10000 in
set_option maxHeartbeats 4000000 in
theorem rgput_alone (R : Int) (a : Option Addr) (n cap : Nat) (e : En) (ax : Option Addr) (nx cx : Nat) (x : List Int) (ay : Option Addr) (ny cy : Nat) (y : List Int) (hx : nx = x.length) (hy : ny = y.length) (hlx : x.length ≤ 100) (hly : y.length ≤ 100) (w : World) (h : rEv w R a n cap e) (hvx : Rw .i64 w (.slice ax nx cx) x) (hvy : Rw .i64 w (.slice ay ny cy) y) (hgood : gpB x y true = true) :
    Calls Try.prog 12 #[.agg #[.int .u64 R, .slice a n cap], .slice ax nx cx, .slice ay ny cy, .bool true] w fun xx w' => RPut w xx w' (gpE e x y true) (gpF e x y true) := by
  have hW := below2 w (.cells #[.int .u64 R, .slice a n cap] 36) (.cells #[.int .u64 0, .slice none 0 0] 36)
  have hW3 := below3 w (.cells #[.int .u64 R, .slice a n cap] 36) (.cells #[.int .u64 0, .slice none 0 0] 36) (.cells #[.int .u64 R, .slice a n cap] 36)
  have hr := fun W h => rright_any ax nx cx x hx hlx W h
  have hra := fun W h => rright_any ay ny cy y hy hly W h
  have hgp := id hgood
  unfold gpB at hgp
  rw [Bool.and_eq_true] at hgp
  obtain ⟨hgx, hgy⟩ := hgp
  obtain rfl : nx = 5 := hx.trans (gok_len hgx)
  rw [hgx] at hr
  have h2 := hvx.below hW
  have h3 := hvy.below hW
  have hB4 : B2 (((w.alloc (.cells #[.int .u64 R, .slice a n cap] 36)).alloc (.cells #[.int .u64 0, .slice none 0 0] 36)).alloc (.cells #[.int .u64 R, .slice a n cap] 36)) w.heap.size (.int .u64 R) (.slice a n cap) := (B2.new w _ _ _).below (below2 _ _ _)
  have hB8 : B2 (((w.alloc (.cells #[.int .u64 R, .slice a n cap] 36)).alloc (.cells #[.int .u64 0, .slice none 0 0] 36)).alloc (.cells #[.int .u64 R, .slice a n cap] 36)) (w.heap.size + 1) (.int .u64 0) (.slice none 0 0) := (B2.new2 w _ _ _ _).below (below1 _ _)
  have hB10 : B2 (((w.alloc (.cells #[.int .u64 R, .slice a n cap] 36)).alloc (.cells #[.int .u64 0, .slice none 0 0] 36)).alloc (.cells #[.int .u64 R, .slice a n cap] 36)) (w.heap.size + 1 + 1) (.int .u64 R) (.slice a n cap) := by
    have := B2.new2 (w.alloc (.cells #[.int .u64 R, .slice a n cap] 36)) (.cells #[.int .u64 0, .slice none 0 0] 36) (.int .u64 R) (.slice a n cap) 36
    simpa using this
  have hev3 := h.below hW3
  have Hgood := hid hgood
  have Hgx := hid hgx
  have Hev := hid h
  have Hvx := hid hvx
  have Hvy := hid hvy
  obtain ⟨e1, he1⟩ : ∃ e1, gpE e x y true = e1 := ⟨_, rfl⟩
  obtain ⟨er1, her1⟩ : ∃ er1, gpF e x y true = er1 := ⟨_, rfl⟩
  have HE1 := hid he1
  have HER1 := hid her1
  rw [he1, her1]
  unfold RPut
  clear hx hy hlx hly hgx hgy hgood h hvx hvy he1 her1
  go_enter Try.func12, Try.ntmps12
  go_wp2_with (first | (go_at_call_of 16 (Value.slice ax 5 cx); refine (hr _ h2).mono ?_; rintro x w9 ⟨rfl, h9⟩; have h9 := h9.symm; subst h9) | (go_at_call_of 16 (Value.slice ay ny cy); refine (hra _ h3).mono ?_; rintro x w9 ⟨rfl, h9⟩; have h9 := h9.symm; subst h9))
  clear hr hra h2 h3 hW
  go_loopw [11] (fun i wr => ∃ (k : Nat) (E : En) (R' : Int) (a' : Option Addr) (n' c' : Nat), k ≤ 5 ∧ i = .int .i64 (k : Nat) ∧ Hid (E = puts e (chK true x y k)) ∧ Hid (rm e (chK true x y k) = true) ∧ Hid (rEv wr R' a' n' c' E) ∧ B2 wr (w.heap.size + 1 + 1) (.int .u64 R') (.slice a' n' c') ∧ B2 wr w.heap.size (.int .u64 R) (.slice a n cap) ∧ B2 wr (w.heap.size + 1) (.int .u64 0) (.slice none 0 0) ∧ Below w.heap.size w wr) (fun i _ => 5 - (intOf i).toNat)
  case atStart => exact ⟨0, e, R, a, n, cap, by omega, rfl, rfl, rfl, hev3, hB10, hB4, hB8, hW3⟩
  case round =>
    clear hB4 hB8 hB10 hev3 hW3
    obtain ⟨k, E, R', a', n', c', hk, rfl, HE, HRM, HEV, hB10, hB4, hB8, hbel⟩ := hrel
    obtain ⟨W1, rfl⟩ : ∃ z, z = wr := ⟨wr, rfl⟩
    by_cases hlt : k < 5
    · obtain ⟨G, hG, hG4⟩ := gok_at Hgx.out k hlt
      obtain ⟨b, off, rfl, hb, hcx⟩ := Hvx.out.atn k hlt
      rw [hG] at hcx
      have hbr : b < W1.heap.size := Nat.lt_of_lt_of_le hb hbel.size
      have dx := (hbel.cell (p := ⟨b, off + k, none⟩) hb).trans hcx
      have Hstop : Hid _ := @rm_stop e x y true k hlt
      have i1 : (0 : Int) ≤ (k : Int) := by omega
      have i2 : (k : Int) < 5 := by omega
      have i3 : IntKind.i64.wrap (k : Int) = k := wraps_i64 _ (by omega) (by omega)
      have i4 : IntKind.u64.wrap (G : Int) = G := nat_u64 _ (by omega)
      have HS : Hid _ := chK_succ true x y k
      rw [hG, Int.toNat_natCast, show ∀ A, chG true G A = [(G, G + 1, 45)] from fun A => rfl] at HS
      obtain ⟨z10, o0, o1, of0, of1⟩ := id hB10
      clear hcx hb
      go_wp2
      have hn1 := num_one (e := E) (v := G) (n := 45) (by omega) (by decide)
      have hone := fun W h => rputNum_any R' a' n' c' E G 45 W h
      rw [hn1.1] at hone
      have HF0 := hid hn1.2
      have HF := hid (rmF_cases E [(G, G + 1, 45)])
      generalize putNE E G 45 = F at hone HF0
      clear hn1
      generalize hf : rmF E [(G, G + 1, 45)] = fr at hone HF
      clear hf
      go_cut [12] (fun f wz => ∃ (R2 : Int) (a2 : Option Addr) (n2 c2 : Nat), f = .int .i64 fr ∧ Hid (rEv wz R2 a2 n2 c2 F) ∧ B2 wz (w.heap.size + 1 + 1) (.int .u64 R2) (.slice a2 n2 c2) ∧ B2 wz w.heap.size (.int .u64 R) (.slice a n cap) ∧ B2 wz (w.heap.size + 1) (.int .u64 0) (.slice none 0 0) ∧ Below w.heap.size w wz)
      case first =>
        go_region_with (go_at_call 32; refine (hone _ (HEV.out.below (Below.refl _ _).drew)).mono ?_; rintro xx y1 ⟨R2, a2, n2, c2, rfl, hrw2, hb2'⟩; have hb2 := drew_below hb2'; have hB10y := hB10.below hb2; have hB4y := hB4.below hb2; have hB8y := hB8.below hb2; have hy1 := bthen hbel hb2 hbel.size; obtain ⟨y10, yo0, yo1, yof0, yof1⟩ := id hB10y)
        all_goals go_wp2
        all_goals go_meet
        all_goals exact ⟨R2, a2, n2, c2, rfl, hrw2.set2 hB10y (fun z => by simp) _ _, hB10y.set _ _, (hB4y.other _ _ _ (by omega)).other _ _ _ (by omega), (hB8y.other _ _ _ (by omega)).other _ _ _ (by omega), bset2x hy1 _ _ _ (by omega)⟩
      case rest =>
        obtain ⟨R2, a2, n2, c2, rfl, HEV2, hC10, hC4, hC8, hbC⟩ := hcut
        rcases HF.out with ⟨hrm, rfl⟩ | ⟨hrm, rfl⟩
        · have HF3 : Hid (F = puts E [(G, G + 1, 45)]) := HF0.out hrm
          have HR3 : Hid (rm E [(G, G + 1, 45)] = true) := hrm
          clear hrm HF HF0
          go_wp2
          go_roundw
          case rel => exact ⟨k + 1, F, R2, a2, n2, c2, by omega, by go_num, by unfold Hid; rw [HS.out, puts_append, ← HE.out]; exact HF3.out, by unfold Hid; rw [HS.out, rm_append, HRM.out, ← HE.out]; exact HR3.out, HEV2.out, hC10, hC4, hC8, hbC⟩
          case measure => simp [intOf]; omega
        · have Hrm := hid hrm
          have HR3 : Hid (rm e (chK true x y 5) = false) := by
            refine Hstop.out ?_
            rw [HS.out, rm_append, HRM.out, ← HE.out]; exact Hrm.out
          have hA1 := (gp_full Hgood.out HR3.out).1.symm.trans HE1.out
          have hA2 := (gp_full Hgood.out HR3.out).2.symm.trans HER1.out
          subst hA2
          obtain rfl := hA1
          obtain ⟨z4, q0, q1, qf0, qf1⟩ := id hC4
          obtain ⟨rz, r0, r1, p0, p1⟩ := id hC8
          clear hrm HF HF0
          go_wp2
          exact bodyPost_ret (v := .tuple #[.agg #[.int .u64 R, .slice a n cap], .int .i64 3]) (by simp [results, Try.results12, go_sem, r0, r1, p0, p1]) rfl ⟨R, a, n, cap, rfl, (Hev.out.below hbC).set2 hC8 (fun z => by simp) _ _, bset2x hbC _ _ _ (by omega)⟩
    · obtain rfl : k = 5 := by omega
      have hA1 := (gp_ok Hgood.out HRM.out).1.symm.trans HE1.out
      have hA2 := (gp_ok Hgood.out HRM.out).2.symm.trans HER1.out
      rw [← HE.out] at hA1
      subst hA2
      obtain rfl := hA1
      obtain ⟨z10, o0, o1, of0, of1⟩ := id hB10
      obtain ⟨rz, r0, r1, p0, p1⟩ := id hB8
      clear hlt HE HRM HE1 HER1
      go_wp2
      exact bodyPost_ret (v := .tuple #[.agg #[.int .u64 R', .slice a' n' c'], .int .i64 0]) (by simp [results, Try.results12, go_sem, r0, r1, p0, p1]) rfl ⟨R', a', n', c', rfl, HEV.out.set2 hB8 (fun z => by simp) _ _, bset2x hbel _ _ _ (by omega)⟩

set_option maxRecDepth 10000 in
set_option maxHeartbeats 4000000 in
theorem rgput_against (R : Int) (a : Option Addr) (n cap : Nat) (e : En) (ax : Option Addr) (nx cx : Nat) (x : List Int) (ay : Option Addr) (ny cy : Nat) (y : List Int) (hx : nx = x.length) (hy : ny = y.length) (hlx : x.length ≤ 100) (hly : y.length ≤ 100) (w : World) (h : rEv w R a n cap e) (hvx : Rw .i64 w (.slice ax nx cx) x) (hvy : Rw .i64 w (.slice ay ny cy) y) (hgood : gpB x y false = true) :
    Calls Try.prog 12 #[.agg #[.int .u64 R, .slice a n cap], .slice ax nx cx, .slice ay ny cy, .bool false] w fun xx w' => RPut w xx w' (gpE e x y false) (gpF e x y false) := by
  have hW := below2 w (.cells #[.int .u64 R, .slice a n cap] 36) (.cells #[.int .u64 0, .slice none 0 0] 36)
  have hW3 := below3 w (.cells #[.int .u64 R, .slice a n cap] 36) (.cells #[.int .u64 0, .slice none 0 0] 36) (.cells #[.int .u64 R, .slice a n cap] 36)
  have hr := fun W h => rright_any ax nx cx x hx hlx W h
  have hra := fun W h => rright_any ay ny cy y hy hly W h
  have hgp := id hgood
  unfold gpB at hgp
  rw [Bool.and_eq_true] at hgp
  obtain ⟨hgx, hgy⟩ := hgp
  obtain rfl : nx = 5 := hx.trans (gok_len hgx)
  have hgy' : gokB y = true := by simpa using hgy
  have Hgy' := hid hgy'
  obtain rfl : ny = 5 := hy.trans (gok_len hgy')
  rw [hgy'] at hra
  clear hgy'
  rw [hgx] at hr
  have h2 := hvx.below hW
  have h3 := hvy.below hW
  have hB4 : B2 (((w.alloc (.cells #[.int .u64 R, .slice a n cap] 36)).alloc (.cells #[.int .u64 0, .slice none 0 0] 36)).alloc (.cells #[.int .u64 R, .slice a n cap] 36)) w.heap.size (.int .u64 R) (.slice a n cap) := (B2.new w _ _ _).below (below2 _ _ _)
  have hB8 : B2 (((w.alloc (.cells #[.int .u64 R, .slice a n cap] 36)).alloc (.cells #[.int .u64 0, .slice none 0 0] 36)).alloc (.cells #[.int .u64 R, .slice a n cap] 36)) (w.heap.size + 1) (.int .u64 0) (.slice none 0 0) := (B2.new2 w _ _ _ _).below (below1 _ _)
  have hB10 : B2 (((w.alloc (.cells #[.int .u64 R, .slice a n cap] 36)).alloc (.cells #[.int .u64 0, .slice none 0 0] 36)).alloc (.cells #[.int .u64 R, .slice a n cap] 36)) (w.heap.size + 1 + 1) (.int .u64 R) (.slice a n cap) := by
    have := B2.new2 (w.alloc (.cells #[.int .u64 R, .slice a n cap] 36)) (.cells #[.int .u64 0, .slice none 0 0] 36) (.int .u64 R) (.slice a n cap) 36
    simpa using this
  have hev3 := h.below hW3
  have Hgood := hid hgood
  have Hgx := hid hgx
  have Hev := hid h
  have Hvx := hid hvx
  have Hvy := hid hvy
  obtain ⟨e1, he1⟩ : ∃ e1, gpE e x y false = e1 := ⟨_, rfl⟩
  obtain ⟨er1, her1⟩ : ∃ er1, gpF e x y false = er1 := ⟨_, rfl⟩
  have HE1 := hid he1
  have HER1 := hid her1
  rw [he1, her1]
  unfold RPut
  clear hx hy hlx hly hgx hgy hgood h hvx hvy he1 her1
  go_enter Try.func12, Try.ntmps12
  go_wp2_with (first | (go_at_call_of 16 (Value.slice ax 5 cx); refine (hr _ h2).mono ?_; rintro x w9 ⟨rfl, h9⟩; have h9 := h9.symm; subst h9) | (go_at_call_of 16 (Value.slice ay 5 cy); refine (hra _ h3).mono ?_; rintro x w9 ⟨rfl, h9⟩; have h9 := h9.symm; subst h9))
  clear hr hra h2 h3 hW
  go_loopw [11] (fun i wr => ∃ (k : Nat) (E : En) (R' : Int) (a' : Option Addr) (n' c' : Nat), k ≤ 5 ∧ i = .int .i64 (k : Nat) ∧ Hid (E = puts e (chK false x y k)) ∧ Hid (rm e (chK false x y k) = true) ∧ Hid (rEv wr R' a' n' c' E) ∧ B2 wr (w.heap.size + 1 + 1) (.int .u64 R') (.slice a' n' c') ∧ B2 wr w.heap.size (.int .u64 R) (.slice a n cap) ∧ B2 wr (w.heap.size + 1) (.int .u64 0) (.slice none 0 0) ∧ Below w.heap.size w wr) (fun i _ => 5 - (intOf i).toNat)
  case atStart => exact ⟨0, e, R, a, n, cap, by omega, rfl, rfl, rfl, hev3, hB10, hB4, hB8, hW3⟩
  case round =>
    clear hB4 hB8 hB10 hev3 hW3
    obtain ⟨k, E, R', a', n', c', hk, rfl, HE, HRM, HEV, hB10, hB4, hB8, hbel⟩ := hrel
    obtain ⟨W1, rfl⟩ : ∃ z, z = wr := ⟨wr, rfl⟩
    by_cases hlt : k < 5
    · obtain ⟨G, hG, hG4⟩ := gok_at Hgx.out k hlt
      obtain ⟨b, off, rfl, hb, hcx⟩ := Hvx.out.atn k hlt
      rw [hG] at hcx
      have Hb := hid hb
      have Hcx := hid hcx
      have hbr : b < W1.heap.size := Nat.lt_of_lt_of_le hb hbel.size
      have dx := (hbel.cell (p := ⟨b, off + k, none⟩) hb).trans hcx
      have Hstop : Hid _ := @rm_stop e x y false k hlt
      have i1 : (0 : Int) ≤ (k : Int) := by omega
      have i2 : (k : Int) < 5 := by omega
      have i3 : IntKind.i64.wrap (k : Int) = k := wraps_i64 _ (by omega) (by omega)
      have i4 : IntKind.u64.wrap (G : Int) = G := nat_u64 _ (by omega)
      obtain ⟨A, hA, hA4⟩ := gok_at Hgy'.out k hlt
      obtain ⟨b', off', rfl, hb', hcy⟩ := Hvy.out.atn k hlt
      rw [hA] at hcy
      have hbr' : b' < W1.heap.size := Nat.lt_of_lt_of_le hb' hbel.size
      have dy := (hbel.cell (p := ⟨b', off' + k, none⟩) hb').trans hcy
      obtain ⟨z10, o0, o1, of0, of1⟩ := id hB10
      clear hcy hb' hcx hb
      by_cases hn : A ≤ G + 3 ∧ G ≤ A + 3
      · obtain ⟨K, hK⟩ : ∃ K, G + 3 - A = K := ⟨_, rfl⟩
        have hK7 : (K : Int) ≤ 6 := by omega
        have hK2 : (G : Int) - (A : Int) + 3 = (K : Int) := by omega
        have HS : Hid _ := chK_succ false x y k
        rw [hG, hA, Int.toNat_natCast, Int.toNat_natCast, show chG false G A = [(K, K + 1, 8)] from by unfold chG; rw [if_neg (by decide), if_pos hn, hK]] at HS
        have hp1 := put_one (e := E) (lo := K) (hi := K + 1) (tot := 8) (fair_one (by omega) (by decide))
        have hput := fun W h => rput_all R' a' n' c' E (K : Int) ((K : Int) + 1) 8 W h
        have hq : putF E (K : Int) ((K : Int) + 1) 8 = rmF E [(K, K + 1, 8)] := hp1.1
        have HQ : Hid (rm E [(K, K + 1, 8)] = true → putE E (K : Int) ((K : Int) + 1) 8 = puts E [(K, K + 1, 8)]) := hp1.2
        rw [hq] at hput
        clear hp1 hq hK hn
        generalize putE E (K : Int) ((K : Int) + 1) 8 = F at hput HQ
        have HF := hid (rmF_cases E [(K, K + 1, 8)])
        generalize hf : rmF E [(K, K + 1, 8)] = fr at hput HF
        clear hf
        have k0 : (0 : Int) ≤ (K : Int) := by omega
        have i5 : IntKind.i64.wrap ((G : Int) - (A : Int)) = (G : Int) - (A : Int) := wraps_i64 _ (by omega) (by omega)
        go_wp2
        go_region
        have hbd := (Below.refl W1.heap.size W1).drew
        have hbrd : b < W1.drew.heap.size := hbr
        replace HEV := hid (HEV.out.below hbd)
        replace hB10 := hB10.below hbd
        replace hB4 := hB4.below hbd
        replace hB8 := hB8.below hbd
        replace hbel := bthen hbel hbd hbel.size
        clear z10 o0 o1 of0 of1 dx dy hbr' hbr hbd
        generalize W1.drew = W3 at *
        obtain ⟨z10, o0, o1, of0, of1⟩ := id hB10
        rcases HF.out with ⟨hrm, rfl⟩ | ⟨hrm, rfl⟩
        · have HF3 : Hid (F = puts E [(K, K + 1, 8)]) := HQ.out hrm
          have HR3 : Hid (rm E [(K, K + 1, 8)] = true) := hrm
          clear hrm HF HQ
          go_wp2_with (go_at_call 31; refine (hput _ HEV.out).mono ?_; rintro xx w1 ⟨R2, a2, n2, c2, rfl, hrw2, hb2⟩; have hB10y := hB10.below hb2; have hB4y := hB4.below hb2; have hB8y := hB8.below hb2; have hy1 := bthen hbel hb2 hbel.size; obtain ⟨y10, yo0, yo1, yof0, yof1⟩ := id hB10y; obtain ⟨z4, q0, q1, qf0, qf1⟩ := id hB4y; obtain ⟨rz, r0, r1, p0, p1⟩ := id hB8y)
          have hC10 := hB10y.set (.int .u64 R2) (.slice a2 n2 c2)
          have hC4 : B2 ((w1.setCell ⟨w.heap.size + 1 + 1, 0, none⟩ (.int .u64 R2)).setCell ⟨w.heap.size + 1 + 1, 1, none⟩ (.slice a2 n2 c2)) w.heap.size (.int .u64 R) (.slice a n cap) := (hB4y.other _ _ _ (by omega)).other _ _ _ (by omega)
          have hC8 : B2 ((w1.setCell ⟨w.heap.size + 1 + 1, 0, none⟩ (.int .u64 R2)).setCell ⟨w.heap.size + 1 + 1, 1, none⟩ (.slice a2 n2 c2)) (w.heap.size + 1) (.int .u64 0) (.slice none 0 0) := (hB8y.other _ _ _ (by omega)).other _ _ _ (by omega)
          have hbC := bset2x hy1 (w.heap.size + 1 + 1) (.int .u64 R2) (.slice a2 n2 c2) (by omega)
          have HEV2 := hid (hrw2.set2 hB10y (fun z => by simp) (.int .u64 R2) (.slice a2 n2 c2))
          go_roundw
          case rel => exact ⟨k + 1, F, R2, a2, n2, c2, by omega, by go_num, by unfold Hid; rw [HS.out, puts_append, ← HE.out]; exact HF3.out, by unfold Hid; rw [HS.out, rm_append, HRM.out, ← HE.out]; exact HR3.out, HEV2.out, hC10, hC4, hC8, hbC⟩
          case measure => simp [intOf]; omega
        · have Hrm := hid hrm
          have HR3 : Hid (rm e (chK false x y 5) = false) := by
            refine Hstop.out ?_
            rw [HS.out, rm_append, HRM.out, ← HE.out]; exact Hrm.out
          have hA1 := (gp_full Hgood.out HR3.out).1.symm.trans HE1.out
          have hA2 := (gp_full Hgood.out HR3.out).2.symm.trans HER1.out
          subst hA2
          obtain rfl := hA1
          clear hrm HF HQ
          go_wp2_with (go_at_call 31; refine (hput _ HEV.out).mono ?_; rintro xx w1 ⟨R2, a2, n2, c2, rfl, hrw2, hb2⟩; have hB10y := hB10.below hb2; have hB4y := hB4.below hb2; have hB8y := hB8.below hb2; have hy1 := bthen hbel hb2 hbel.size; obtain ⟨y10, yo0, yo1, yof0, yof1⟩ := id hB10y; obtain ⟨z4, q0, q1, qf0, qf1⟩ := id hB4y; obtain ⟨rz, r0, r1, p0, p1⟩ := id hB8y)
          have hC10 := hB10y.set (.int .u64 R2) (.slice a2 n2 c2)
          have hC4 : B2 ((w1.setCell ⟨w.heap.size + 1 + 1, 0, none⟩ (.int .u64 R2)).setCell ⟨w.heap.size + 1 + 1, 1, none⟩ (.slice a2 n2 c2)) w.heap.size (.int .u64 R) (.slice a n cap) := (hB4y.other _ _ _ (by omega)).other _ _ _ (by omega)
          have hC8 : B2 ((w1.setCell ⟨w.heap.size + 1 + 1, 0, none⟩ (.int .u64 R2)).setCell ⟨w.heap.size + 1 + 1, 1, none⟩ (.slice a2 n2 c2)) (w.heap.size + 1) (.int .u64 0) (.slice none 0 0) := (hB8y.other _ _ _ (by omega)).other _ _ _ (by omega)
          have hbC := bset2x hy1 (w.heap.size + 1 + 1) (.int .u64 R2) (.slice a2 n2 c2) (by omega)
          have HEV2 := hid (hrw2.set2 hB10y (fun z => by simp) (.int .u64 R2) (.slice a2 n2 c2))
          exact bodyPost_ret (v := .tuple #[.agg #[.int .u64 R, .slice a n cap], .int .i64 3]) (by simp [results, Try.results12, go_sem, r0, r1, p0, p1]) rfl ⟨R, a, n, cap, rfl, (Hev.out.below hbC).set2 hC8 (fun z => by simp) _ _, bset2x hbC _ _ _ (by omega)⟩
      · obtain ⟨K, hK2⟩ : ∃ K, (G : Int) - (A : Int) + 3 = K := ⟨_, rfl⟩
        have hK : K < 0 ∨ (0 ≤ K ∧ 6 < K) := by omega
        have HS : Hid _ := chK_succ false x y k
        rw [hG, hA, Int.toNat_natCast, Int.toNat_natCast, show chG false G A = [(7, 8, 8), (G, G + 1, 45)] from by unfold chG; rw [if_neg (by decide), if_neg hn]] at HS
        have HT := hid (rm_two E (7, 8, 8) (G, G + 1, 45))
        have hp1 := put_one (e := E) (lo := 7) (hi := 8) (tot := 8) (fair_one (by omega) (by decide))
        have hput := fun W h => rput_all R' a' n' c' E 7 8 8 W h
        have hq : putF E 7 8 8 = rmF E [(7, 8, 8)] := hp1.1
        have HQ : Hid (rm E [(7, 8, 8)] = true → putE E 7 8 8 = puts E [(7, 8, 8)]) := hp1.2
        rw [hq] at hput
        clear hp1 hq hn
        generalize putE E 7 8 8 = F at hput HQ
        have HF := hid (rmF_cases E [(7, 8, 8)])
        generalize hf : rmF E [(7, 8, 8)] = fr at hput HF
        clear hf
        have i5 : IntKind.i64.wrap ((G : Int) - (A : Int)) = (G : Int) - (A : Int) := wraps_i64 _ (by omega) (by omega)
        go_wp2
        go_region
        have hbd := (Below.refl W1.heap.size W1).drew
        have hbrd : b < W1.drew.heap.size := hbr
        replace HEV := hid (HEV.out.below hbd)
        replace hB10 := hB10.below hbd
        replace hB4 := hB4.below hbd
        replace hB8 := hB8.below hbd
        replace hbel := bthen hbel hbd hbel.size
        clear z10 o0 o1 of0 of1 dx dy hbr' hbr hbd
        generalize W1.drew = W3 at *
        obtain ⟨z10, o0, o1, of0, of1⟩ := id hB10
        rcases HF.out with ⟨hrm, rfl⟩ | ⟨hrm, rfl⟩
        · have hFE := HQ.out hrm
          have HR7 : Hid (rm E [(7, 8, 8)] = true) := hrm
          rw [hFE] at hput
          clear hrm HF HQ hFE
          generalize hE2 : puts E [(7, 8, 8)] = E2 at hput
          have HE2 := hid hE2
          clear hE2 F
          rcases hK with hK | ⟨hK0, hK⟩
          all_goals
            go_wp2_with (go_at_call 31; refine (hput _ HEV.out).mono ?_; rintro xx w1 ⟨R2, a2, n2, c2, rfl, hrw2, hb2⟩; have hB10y := hB10.below hb2; have hB4y := hB4.below hb2; have hB8y := hB8.below hb2; have hy1 := bthen hbel hb2 hbel.size; obtain ⟨y10, yo0, yo1, yof0, yof1⟩ := id hB10y; obtain ⟨z4, q0, q1, qf0, qf1⟩ := id hB4y; obtain ⟨rz, r0, r1, p0, p1⟩ := id hB8y)
            have hC10 := hB10y.set (.int .u64 R2) (.slice a2 n2 c2)
            have hC4 : B2 ((w1.setCell ⟨w.heap.size + 1 + 1, 0, none⟩ (.int .u64 R2)).setCell ⟨w.heap.size + 1 + 1, 1, none⟩ (.slice a2 n2 c2)) w.heap.size (.int .u64 R) (.slice a n cap) := (hB4y.other _ _ _ (by omega)).other _ _ _ (by omega)
            have hC8 : B2 ((w1.setCell ⟨w.heap.size + 1 + 1, 0, none⟩ (.int .u64 R2)).setCell ⟨w.heap.size + 1 + 1, 1, none⟩ (.slice a2 n2 c2)) (w.heap.size + 1) (.int .u64 0) (.slice none 0 0) := (hB8y.other _ _ _ (by omega)).other _ _ _ (by omega)
            have hbC := bset2x hy1 (w.heap.size + 1 + 1) (.int .u64 R2) (.slice a2 n2 c2) (by omega)
            have HEV2 := hid (hrw2.set2 hB10y (fun z => by simp) (.int .u64 R2) (.slice a2 n2 c2))
            clear HEV hB10 hB4 hB8 hB10y hB4y hB8y hb2 hbel hrw2 y10 yo0 yo1 yof0 yof1 z4 q0 q1 qf0 qf1 rz r0 r1 p0 p1 z10 o0 o1 of0 of1
            have dx2 := (hbC.cell (p := ⟨b, off + k, none⟩) Hb.out).trans Hcx.out
            generalize ((w1.setCell ⟨w.heap.size + 1 + 1, 0, none⟩ (.int .u64 R2)).setCell ⟨w.heap.size + 1 + 1, 1, none⟩ (.slice a2 n2 c2)) = W2 at *
            obtain ⟨z10, o0, o1, of0, of1⟩ := id hC10
            have hn1 := num_one (e := E2) (v := G) (n := 45) (by omega) (by decide)
            have hone := fun W h => rputNum_any R2 a2 n2 c2 E2 G 45 W h
            rw [hn1.1] at hone
            have HF0 := hid hn1.2
            have HF := hid (rmF_cases E2 [(G, G + 1, 45)])
            generalize putNE E2 G 45 = F at hone HF0
            clear hn1
            generalize hf : rmF E2 [(G, G + 1, 45)] = fr at hone HF
            clear hf
            go_cut [12] (fun f wz => ∃ (R2 : Int) (a2 : Option Addr) (n2 c2 : Nat), f = .int .i64 fr ∧ Hid (rEv wz R2 a2 n2 c2 F) ∧ B2 wz (w.heap.size + 1 + 1) (.int .u64 R2) (.slice a2 n2 c2) ∧ B2 wz w.heap.size (.int .u64 R) (.slice a n cap) ∧ B2 wz (w.heap.size + 1) (.int .u64 0) (.slice none 0 0) ∧ Below w.heap.size w wz)
            case first =>
              go_region_with (go_at_call 32; refine (hone _ (HEV2.out.below (Below.refl _ _).drew)).mono ?_; rintro xx y1 ⟨R2, a2, n2, c2, rfl, hrw2, hb2'⟩; have hb2 := drew_below hb2'; have hB10y := hC10.below hb2; have hB4y := hC4.below hb2; have hB8y := hC8.below hb2; have hy1 := bthen hbC hb2 hbC.size; obtain ⟨y10, yo0, yo1, yof0, yof1⟩ := id hB10y)
              all_goals go_wp2
              all_goals go_meet
              all_goals exact ⟨R2, a2, n2, c2, rfl, hrw2.set2 hB10y (fun z => by simp) _ _, hB10y.set _ _, (hB4y.other _ _ _ (by omega)).other _ _ _ (by omega), (hB8y.other _ _ _ (by omega)).other _ _ _ (by omega), bset2x hy1 _ _ _ (by omega)⟩
            case rest =>
              obtain ⟨R2, a2, n2, c2, rfl, HEV2, hC10, hC4, hC8, hbC⟩ := hcut
              rcases HF.out with ⟨hrm, rfl⟩ | ⟨hrm, rfl⟩
              · have HF3 : Hid (F = puts E2 [(G, G + 1, 45)]) := HF0.out hrm
                have HR3 : Hid (rm E2 [(G, G + 1, 45)] = true) := hrm
                clear hrm HF HF0
                go_wp2
                go_roundw
                case rel => exact ⟨k + 1, F, R2, a2, n2, c2, by omega, by go_num, by unfold Hid; rw [HS.out, puts_append, ← HE.out]; exact HF3.out.trans (by rw [← HE2.out]; rfl), by unfold Hid; rw [HS.out, rm_append, HRM.out, ← HE.out]; exact (by rw [HT.out, HR7.out, HE2.out, HR3.out]; rfl), HEV2.out, hC10, hC4, hC8, hbC⟩
                case measure => simp [intOf]; omega
              · have Hrm := hid hrm
                have HR3 : Hid (rm e (chK false x y 5) = false) := by
                  refine Hstop.out ?_
                  rw [HS.out, rm_append, HRM.out, ← HE.out]; exact (by rw [HT.out, HR7.out, HE2.out, Hrm.out]; rfl)
                have hA1 := (gp_full Hgood.out HR3.out).1.symm.trans HE1.out
                have hA2 := (gp_full Hgood.out HR3.out).2.symm.trans HER1.out
                subst hA2
                obtain rfl := hA1
                obtain ⟨z4, q0, q1, qf0, qf1⟩ := id hC4
                obtain ⟨rz, r0, r1, p0, p1⟩ := id hC8
                clear hrm HF HF0
                go_wp2
                exact bodyPost_ret (v := .tuple #[.agg #[.int .u64 R, .slice a n cap], .int .i64 3]) (by simp [results, Try.results12, go_sem, r0, r1, p0, p1]) rfl ⟨R, a, n, cap, rfl, (Hev.out.below hbC).set2 hC8 (fun z => by simp) _ _, bset2x hbC _ _ _ (by omega)⟩
        · have Hrm : Hid (rm E [(7, 8, 8), (G, G + 1, 45)] = false) := by unfold Hid; rw [HT.out, hrm]; rfl
          have HR3 : Hid (rm e (chK false x y 5) = false) := by
            refine Hstop.out ?_
            rw [HS.out, rm_append, HRM.out, ← HE.out]; exact Hrm.out
          have hA1 := (gp_full Hgood.out HR3.out).1.symm.trans HE1.out
          have hA2 := (gp_full Hgood.out HR3.out).2.symm.trans HER1.out
          subst hA2
          obtain rfl := hA1
          clear hrm HF HQ
          rcases hK with hK | ⟨hK0, hK⟩
          all_goals
            go_wp2_with (go_at_call 31; refine (hput _ HEV.out).mono ?_; rintro xx w1 ⟨R2, a2, n2, c2, rfl, hrw2, hb2⟩; have hB10y := hB10.below hb2; have hB4y := hB4.below hb2; have hB8y := hB8.below hb2; have hy1 := bthen hbel hb2 hbel.size; obtain ⟨y10, yo0, yo1, yof0, yof1⟩ := id hB10y; obtain ⟨z4, q0, q1, qf0, qf1⟩ := id hB4y; obtain ⟨rz, r0, r1, p0, p1⟩ := id hB8y)
            have hC10 := hB10y.set (.int .u64 R2) (.slice a2 n2 c2)
            have hC4 : B2 ((w1.setCell ⟨w.heap.size + 1 + 1, 0, none⟩ (.int .u64 R2)).setCell ⟨w.heap.size + 1 + 1, 1, none⟩ (.slice a2 n2 c2)) w.heap.size (.int .u64 R) (.slice a n cap) := (hB4y.other _ _ _ (by omega)).other _ _ _ (by omega)
            have hC8 : B2 ((w1.setCell ⟨w.heap.size + 1 + 1, 0, none⟩ (.int .u64 R2)).setCell ⟨w.heap.size + 1 + 1, 1, none⟩ (.slice a2 n2 c2)) (w.heap.size + 1) (.int .u64 0) (.slice none 0 0) := (hB8y.other _ _ _ (by omega)).other _ _ _ (by omega)
            have hbC := bset2x hy1 (w.heap.size + 1 + 1) (.int .u64 R2) (.slice a2 n2 c2) (by omega)
            have HEV2 := hid (hrw2.set2 hB10y (fun z => by simp) (.int .u64 R2) (.slice a2 n2 c2))
            exact bodyPost_ret (v := .tuple #[.agg #[.int .u64 R, .slice a n cap], .int .i64 3]) (by simp [results, Try.results12, go_sem, r0, r1, p0, p1]) rfl ⟨R, a, n, cap, rfl, (Hev.out.below hbC).set2 hC8 (fun z => by simp) _ _, bset2x hbC _ _ _ (by omega)⟩
    · obtain rfl : k = 5 := by omega
      have hA1 := (gp_ok Hgood.out HRM.out).1.symm.trans HE1.out
      have hA2 := (gp_ok Hgood.out HRM.out).2.symm.trans HER1.out
      rw [← HE.out] at hA1
      subst hA2
      obtain rfl := hA1
      obtain ⟨z10, o0, o1, of0, of1⟩ := id hB10
      obtain ⟨rz, r0, r1, p0, p1⟩ := id hB8
      clear hlt HE HRM HE1 HER1
      go_wp2
      exact bodyPost_ret (v := .tuple #[.agg #[.int .u64 R', .slice a' n' c'], .int .i64 0]) (by simp [results, Try.results12, go_sem, r0, r1, p0, p1]) rfl ⟨R', a', n', c', rfl, HEV.out.set2 hB8 (fun z => by simp) _ _, bset2x hbel _ _ _ (by omega)⟩

theorem rgput_any (R : Int) (a : Option Addr) (n cap : Nat) (e : En) (ax : Option Addr) (nx cx : Nat) (x : List Int) (ay : Option Addr) (ny cy : Nat) (y : List Int) (intra : Bool) (hx : nx = x.length) (hy : ny = y.length) (hlx : x.length ≤ 100) (hly : y.length ≤ 100) (w : World) (h : rEv w R a n cap e) (hvx : Rw .i64 w (.slice ax nx cx) x) (hvy : Rw .i64 w (.slice ay ny cy) y) :
    Calls Try.prog 12 #[.agg #[.int .u64 R, .slice a n cap], .slice ax nx cx, .slice ay ny cy, .bool intra] w fun xx w' => RPut w xx w' (gpE e x y intra) (gpF e x y intra) := by
  cases hb : gpB x y intra
  · rw [(gp_arg (e := e) hb).1, (gp_arg (e := e) hb).2]
    exact rgput_arg R a n cap e ax nx cx x ay ny cy y intra hx hy hlx hly w h hvx hvy hb
  · cases intra
    · exact rgput_against R a n cap e ax nx cx x ay ny cy y hx hy hlx hly w h hvx hvy hb
    · exact rgput_alone R a n cap e ax nx cx x ay ny cy y hx hy hlx hly w h hvx hvy hb
end Go.Proofs.Ytkfpphccpkfenaa
