/- The contract of gain.Put, intra and against the gains ahead. -/
import Derived.Test.YtkfpphccpkfenaaJc
import Derived.Deep.RegionWith
import Derived.Deep.CutRange
import Derived.Deep.DeepCutAuto
namespace Go.Proofs.Ytkfpphccpkfenaa
open Go.RowKit
set_option linter.unusedVariables false
set_option linter.unusedSimpArgs false

/-- What Put answers, its row a new one. -/
def PutQ (w : World) (x : Ending) (w' : World) (F : En) (er : Int) : Prop := ∃ a' cap', x = .returned (.tuple #[.agg #[.int .u64 F.low, .int .u32 F.R, .slice a' F.m cap'], .int .i64 er]) ∧ RwF w.heap.size .u8 w' (.slice a' F.m cap') F.out ∧ Below w.heap.size w w'
/-- A slice that lies in no block ahead of B, or is empty. -/
def SlGe (B : Nat) (v : Value) (xs : List Int) : Prop := xs = [] ∨ ∀ b off n c, v = .slice (some ⟨b, off, none⟩) n c → B ≤ b
theorem RwF.ge {B : Nat} {k : IntKind} {w : World} {v : Value} {xs : List Int} (h : RwF B k w v xs) : SlGe B v xs := by
  obtain ⟨a, cap, hv, h⟩ := h
  rcases h with h | ⟨b, off, ha, hB, _⟩
  · exact .inl h
  · refine .inr fun b' off' n c he => ?_
    rw [hv, ha] at he
    simp at he
    omega
theorem RwF.of_ge {B : Nat} {k : IntKind} {w : World} {v : Value} {xs : List Int} (h : Rw k w v xs) (hg : SlGe B v xs) : RwF B k w v xs := by
  obtain ⟨a, cap, hv, h⟩ := h
  refine ⟨a, cap, hv, ?_⟩
  rcases h with h | ⟨b, off, ha, hlt, hc⟩
  · exact .inl h
  · rcases hg with hg | hg
    · exact .inl hg
    · exact .inr ⟨b, off, ha, hg b off _ _ (by rw [hv, ha]), hlt, hc⟩
/-- What Put answers. -/
def PutP (w : World) (x : Ending) (w' : World) (F : En) (er : Int) : Prop := ∃ a' cap', x = .returned (.tuple #[.agg #[.int .u64 F.low, .int .u32 F.R, .slice a' F.m cap'], .int .i64 er]) ∧ Rw .u8 w' (.slice a' F.m cap') F.out ∧ Below w.heap.size w w'
theorem Rw.atn {k : IntKind} {w : World} {a : Option Addr} {n cap : Nat} {xs : List Int} (h : Rw k w (.slice a n cap) xs) (i : Nat) (hi : i < n) : ∃ b off, a = some ⟨b, off, none⟩ ∧ b < w.heap.size ∧ w.cell? ⟨b, off + i, none⟩ = some (.int k (xs.getD i 0)) := by
  have hl : n = xs.length := by
    obtain ⟨a', c', he, _⟩ := h
    simp only [Value.slice.injEq] at he
    exact he.2.1
  subst hl
  exact h.at i hi
/-- The encoder behind a choice that went well, or the one that stands. -/
theorem rmF_cases (e : En) (l : List (Nat × Nat × Nat)) : (rm e l = true ∧ rmF e l = 0) ∨ (rm e l = false ∧ rmF e l = 3) := by
  unfold rmF
  cases h : rm e l
  · exact .inr ⟨rfl, rfl⟩
  · exact .inl ⟨rfl, rfl⟩

set_option maxRecDepth 10000 in
set_option maxHeartbeats 2000000 in
theorem gput_arg (L R : Int) (a : Option Addr) (n cap : Nat) (e : En) (ax : Option Addr) (nx cx : Nat) (x : List Int) (ay : Option Addr) (ny cy : Nat) (y : List Int) (intra : Bool) (hx : nx = x.length) (hy : ny = y.length) (w : World) (h : EvOf w L R a n cap e) (hvx : Rw .i64 w (.slice ax nx cx) x) (hvy : Rw .i64 w (.slice ay ny cy) y) (hbad : gpB x y intra = false) :
    Calls Try.prog 11 #[.agg #[.int .u64 L, .int .u32 R, .slice a n cap], .slice ax nx cx, .slice ay ny cy, .bool intra] w fun x w' => PutQ w x w' e 1 := by
  have hW := below2 w (.cells #[.int .u64 L, .int .u32 R, .slice a n cap] 26) (.cells #[.int .u64 0, .int .u32 0, .slice none 0 0] 26)
  have hr := fun W h => right_any ax nx cx x hx W h
  have hra := fun W h => rightAhead_any ay ny cy y hy intra W h
  have has := fun W h => asItWas_any L R a n cap e W h
  have h1 := h.below hW
  have h2 := hvx.below hW
  have h3 := hvy.below hW
  have hBr := B3.new2 w (.cells #[.int .u64 L, .int .u32 R, .slice a n cap] 26) (.int .u64 0) (.int .u32 0) (.slice none 0 0) 26
  clear hx hy
  unfold gpB at hbad
  generalize gokB x = p at *
  generalize (intra || gokB y) = q at *
  unfold PutQ
  cases p
  · clear hbad
    go_enter Try.func11, Try.ntmps11
    go_wp2_with (first | (go_at_call 15; refine (hr _ h2).mono ?_; rintro x w9 ⟨rfl, h9⟩; have h9 := h9.symm; subst h9) | (go_at_call 28; refine (has _ h1).mono ?_; rintro x w1 ⟨a1, c1, rfl, hrw, hb1⟩; have hB1 := hBr.below hb1; obtain ⟨rz, r0, r1, r2, p0, p1, p2⟩ := id hB1))
    exact bodyPost_ret (v := .tuple #[.agg #[.int .u64 e.low, .int .u32 e.R, .slice a1 e.m c1], .int .i64 1]) (by simp [results, Try.results11, go_sem, r0, r1, r2, p0, p1, p2]) rfl ⟨a1, c1, rfl, by simp only [World.size_alloc] at hrw; exact (((hrw.set _ _ _ (by omega)).set _ _ _ (by omega)).set _ _ _ (by omega)).mono (by omega), bset3 (bthen hW hb1 hW.size) _ _ _ _ (by omega)⟩
  · simp only [Bool.true_and] at hbad
    subst hbad
    go_enter Try.func11, Try.ntmps11
    go_wp2_with (first | (go_at_call 15; refine (hr _ h2).mono ?_; rintro x w9 ⟨rfl, h9⟩; have h9 := h9.symm; subst h9) | (go_at_call 27; refine (hra _ h3).mono ?_; rintro x w9 ⟨rfl, h9⟩; have h9 := h9.symm; subst h9) | (go_at_call 28; refine (has _ h1).mono ?_; rintro x w1 ⟨a1, c1, rfl, hrw, hb1⟩; have hB1 := hBr.below hb1; obtain ⟨rz, r0, r1, r2, p0, p1, p2⟩ := id hB1))
    exact bodyPost_ret (v := .tuple #[.agg #[.int .u64 e.low, .int .u32 e.R, .slice a1 e.m c1], .int .i64 1]) (by simp [results, Try.results11, go_sem, r0, r1, r2, p0, p1, p2]) rfl ⟨a1, c1, rfl, by simp only [World.size_alloc] at hrw; exact (((hrw.set _ _ _ (by omega)).set _ _ _ (by omega)).set _ _ _ (by omega)).mono (by omega), bset3 (bthen hW hb1 hW.size) _ _ _ _ (by omega)⟩

theorem putAgainst_any (L R : Int) (a : Option Addr) (n cap : Nat) (e : En) (G A : Nat) (hG : G ≤ 44) (hA : A ≤ 44) (w : World) (h : EvOf w L R a n cap e) :
    Calls Try.prog 30 #[.agg #[.int .u64 L, .int .u32 R, .slice a n cap], .int .i64 G, .int .i64 A] w fun x w' => OneP w x w' e (chG false G A) := by
  by_cases hn : A ≤ G + 3 ∧ G ≤ A + 3
  · exact putAgainst_near L R a n cap e G A hG hA hn w h
  · exact putAgainst_far L R a n cap e G A hG hA hn w h

set_option maxRecDepth 10000 in
set_option maxHeartbeats 4000000 in
theorem gput_alone (L R : Int) (a : Option Addr) (n cap : Nat) (e : En) (ax : Option Addr) (nx cx : Nat) (x : List Int) (ay : Option Addr) (ny cy : Nat) (y : List Int) (hx : nx = x.length) (hy : ny = y.length) (w : World) (h : EvOf w L R a n cap e) (hvx : Rw .i64 w (.slice ax nx cx) x) (hvy : Rw .i64 w (.slice ay ny cy) y) (hgood : gpB x y true = true) :
    Calls Try.prog 11 #[.agg #[.int .u64 L, .int .u32 R, .slice a n cap], .slice ax nx cx, .slice ay ny cy, .bool true] w fun xx w' => PutQ w xx w' (gpE e x y true) (gpF e x y true) := by
  have hW := below2 w (.cells #[.int .u64 L, .int .u32 R, .slice a n cap] 26) (.cells #[.int .u64 0, .int .u32 0, .slice none 0 0] 26)
  have hW3 := below3 w (.cells #[.int .u64 L, .int .u32 R, .slice a n cap] 26) (.cells #[.int .u64 0, .int .u32 0, .slice none 0 0] 26) (.cells #[.int .u64 L, .int .u32 R, .slice a n cap] 26)
  have hr := fun W h => right_any ax nx cx x hx W h
  have hra := fun W h => rightAhead_any ay ny cy y hy true W h
  have has := fun W h => asItWas_any L R a n cap e W h
  have hgp := id hgood
  unfold gpB at hgp
  rw [Bool.and_eq_true] at hgp
  obtain ⟨hgx, hgy⟩ := hgp
  obtain rfl : nx = 5 := hx.trans (gok_len hgx)
  rw [hgx] at hr
  rw [hgy] at hra
  have h2 := hvx.below hW
  have h3 := hvy.below hW
  have hB4 : B3 (((w.alloc (.cells #[.int .u64 L, .int .u32 R, .slice a n cap] 26)).alloc (.cells #[.int .u64 0, .int .u32 0, .slice none 0 0] 26)).alloc (.cells #[.int .u64 L, .int .u32 R, .slice a n cap] 26)) w.heap.size (.int .u64 L) (.int .u32 R) (.slice a n cap) := (B3.new w _ _ _ _).below (below2 _ _ _)
  have hB8 : B3 (((w.alloc (.cells #[.int .u64 L, .int .u32 R, .slice a n cap] 26)).alloc (.cells #[.int .u64 0, .int .u32 0, .slice none 0 0] 26)).alloc (.cells #[.int .u64 L, .int .u32 R, .slice a n cap] 26)) (w.heap.size + 1) (.int .u64 0) (.int .u32 0) (.slice none 0 0) := (B3.new2 w _ _ _ _ _).below (below1 _ _)
  have hB10 : B3 (((w.alloc (.cells #[.int .u64 L, .int .u32 R, .slice a n cap] 26)).alloc (.cells #[.int .u64 0, .int .u32 0, .slice none 0 0] 26)).alloc (.cells #[.int .u64 L, .int .u32 R, .slice a n cap] 26)) (w.heap.size + 1 + 1) (.int .u64 L) (.int .u32 R) (.slice a n cap) := by
    have := B3.new2 (w.alloc (.cells #[.int .u64 L, .int .u32 R, .slice a n cap] 26)) (.cells #[.int .u64 0, .int .u32 0, .slice none 0 0] 26) (.int .u64 L) (.int .u32 R) (.slice a n cap) 26
    simpa using this
  have hev3 := h.below hW3
  have Hgood := hid hgood
  have Hgx := hid hgx
  have Hgy := hid hgy
  have Hev := hid h
  have Hvx := hid hvx
  have Hvy := hid hvy
  obtain ⟨e1, he1⟩ : ∃ e1, gpE e x y true = e1 := ⟨_, rfl⟩
  obtain ⟨er1, her1⟩ : ∃ er1, gpF e x y true = er1 := ⟨_, rfl⟩
  have HE1 := hid he1
  have HER1 := hid her1
  rw [he1, her1]
  unfold PutQ
  clear hx hy hgx hgy hgood h hvx hvy he1 her1
  go_enter Try.func11, Try.ntmps11
  go_wp2_with (first | (go_at_call 15; refine (hr _ h2).mono ?_; rintro x w9 ⟨rfl, h9⟩; have h9 := h9.symm; subst h9) | (go_at_call 27; refine (hra _ h3).mono ?_; rintro x w9 ⟨rfl, h9⟩; have h9 := h9.symm; subst h9))
  clear hr hra h2 h3 hW
  go_loopw [25, 11] (fun i f wr => ∃ (k : Nat) (E : En) (L' R' : Int) (a' : Option Addr) (n' c' : Nat), k ≤ 5 ∧ i = .int .i64 (k : Nat) ∧ f = .int .i64 0 ∧ Hid (E = puts e (chK true x y k)) ∧ Hid (rm e (chK true x y k) = true) ∧ Hid (0 < k → encB L' R' n' = true) ∧ Hid (0 < k → SlGe w.heap.size (.slice a' n' c') E.out) ∧ Hid (EvOf wr L' R' a' n' c' E) ∧ B3 wr (w.heap.size + 1 + 1) (.int .u64 L') (.int .u32 R') (.slice a' n' c') ∧ B3 wr w.heap.size (.int .u64 L) (.int .u32 R) (.slice a n cap) ∧ B3 wr (w.heap.size + 1) (.int .u64 0) (.int .u32 0) (.slice none 0 0) ∧ Below w.heap.size w wr) (fun i _ _ => 5 - (intOf i).toNat)
  case atStart => exact ⟨0, e, L, R, a, n, cap, by omega, rfl, rfl, rfl, rfl, (fun hh => absurd hh (by decide)), (fun hh => absurd hh (by decide)), hev3, hB10, hB4, hB8, hW3⟩
  case round =>
    clear hB4 hB8 hB10 hev3 hW3
    obtain ⟨k, E, L', R', a', n', c', hk, rfl, rfl, HE, HRM, Hpos, Hge, HEV, hB10, hB4, hB8, hbel⟩ := hrel
    obtain ⟨W1, rfl⟩ : ∃ z, z = wr := ⟨wr, rfl⟩
    by_cases hlt : k < 5
    · obtain ⟨G, hG, hG4⟩ := gok_at Hgx.out k hlt
      obtain ⟨b, off, rfl, hb, hcx⟩ := Hvx.out.atn k hlt
      rw [hG] at hcx
      have hbr : b < W1.heap.size := Nat.lt_of_lt_of_le hb hbel.size
      have dx := (hbel.cell (p := ⟨b, off + k, none⟩) hb).trans hcx
      have HS : Hid _ := chK_succ true x y k
      rw [hG, Int.toNat_natCast] at HS
      have Hstop : Hid _ := @rm_stop e x y true k hlt
      have hone := fun W h => putAlone_any L' R' a' n' c' E G hG4 W h
      rw [show [(G, G + 1, 45)] = chG true G (y.getD k 0).toNat from rfl] at hone
      have HF := hid (rmF_cases E (chG true G (y.getD k 0).toNat))
      unfold OneP at hone
      generalize hl : chG true G (y.getD k 0).toNat = l at *
      clear hl
      generalize hf : rmF E l = fr at *
      clear hf hcx hb
      obtain ⟨z10, o0, o1, o2, of0, of1, of2⟩ := id hB10
      have i1 : (0 : Int) ≤ (k : Int) := by omega
      have i2 : (k : Int) < 5 := by omega
      have i3 : IntKind.i64.wrap (k : Int) = k := wraps_i64 _ (by omega) (by omega)
      go_wp2
      go_cut [11] (fun f wz => ∃ (F : En) (a2 : Option Addr) (c2 : Nat), F.Ok ∧ Hid (rm E l = true → F = puts E l) ∧ f = .int .i64 fr ∧ B3 wz (w.heap.size + 1 + 1) (.int .u64 F.low) (.int .u32 F.R) (.slice a2 F.m c2) ∧ Rw .u8 wz (.slice a2 F.m c2) F.out ∧ Hid (SlGe w.heap.size (.slice a2 F.m c2) F.out) ∧ B3 wz w.heap.size (.int .u64 L) (.int .u32 R) (.slice a n cap) ∧ B3 wz (w.heap.size + 1) (.int .u64 0) (.int .u32 0) (.slice none 0 0) ∧ Below w.heap.size w wz)
      case first =>
        go_region_with (go_at_call 29; refine (hone _ (HEV.out.below (Below.refl _ _).drew)).mono ?_; rintro xx y1 ⟨F, a2, c2, hok2, hF2, rfl, hrw2, hb2'⟩; have hb2 := drew_below hb2'; have hB10y := hB10.below hb2; have hB4y := hB4.below hb2; have hB8y := hB8.below hb2; have hy1 := bthen hbel hb2 hbel.size; obtain ⟨y10, yo0, yo1, yo2, yof0, yof1, yof2⟩ := id hB10y)
        all_goals go_wp2
        all_goals go_meet
        all_goals exact ⟨F, a2, c2, hok2, hF2, rfl, hB10y.set _ _ _, hB10y.apart hrw2.rw (fun z => by simp) (fun z => by simp) (fun z => by simp) _ _ _, (hrw2.mono hbel.size).ge, ((hB4y.other _ _ _ (by omega)).other _ _ _ (by omega)).other _ _ _ (by omega), ((hB8y.other _ _ _ (by omega)).other _ _ _ (by omega)).other _ _ _ (by omega), bset3 hy1 _ _ _ _ (by omega)⟩
      case rest =>
        obtain ⟨F, a2, c2, hok2, HF2, rfl, hC10, hrC, Hgc, hC4, hC8, hbC⟩ := hcut
        rcases HF.out with ⟨hrm, rfl⟩ | ⟨hrm, rfl⟩
        · have HF3 : Hid (F = puts E l) := HF2.out hrm
          have HR3 : Hid (rm E l = true) := hrm
          clear hrm HF HF2
          go_wp2
          go_roundw
          case rel => exact ⟨k + 1, F, F.low, F.R, a2, F.m, c2, by omega, by go_num, rfl, by unfold Hid; rw [HS.out, puts_append, ← HE.out]; exact HF3.out, by unfold Hid; rw [HS.out, rm_append, HRM.out, ← HE.out, HR3.out]; rfl, (fun _ => hok2.encB), (fun _ => Hgc.out), hok2.ev hrC, hC10, hC4, hC8, hbC⟩
          case measure => simp [intOf]; omega
        · have HR3 : Hid (rm e (chK true x y 5) = false) := by
            refine Hstop.out ?_
            rw [HS.out, rm_append, HRM.out, ← HE.out, hrm]; rfl
          have hA1 := (gp_full Hgood.out HR3.out).1.symm.trans HE1.out
          have hA2 := (gp_full Hgood.out HR3.out).2.symm.trans HER1.out
          subst hA2
          obtain rfl := hA1
          have hev2 := Hev.out.below hbC
          obtain ⟨z4, q0, q1, q2, qf0, qf1, qf2⟩ := id hC4
          clear hrm HF HF2
          go_wp2_with (go_at_call 28; refine (has _ hev2).mono ?_; rintro xx w1 ⟨a1, c1, rfl, hrw, hb1⟩; have hB1 := hC8.below hb1; obtain ⟨rz, r0, r1, r2, p0, p1, p2⟩ := id hB1)
          exact bodyPost_ret (v := .tuple #[.agg #[.int .u64 e.low, .int .u32 e.R, .slice a1 e.m c1], .int .i64 3]) (by simp [results, Try.results11, go_sem, r0, r1, r2, p0, p1, p2]) rfl ⟨a1, c1, rfl, (((hrw.set _ _ _ hC8.z).set _ _ _ hC8.z).set _ _ _ hC8.z).mono hbC.size, bset3 (bthen hbC hb1 hbC.size) _ _ _ _ (by omega)⟩
    · obtain rfl : k = 5 := by omega
      have hA1 := (gp_ok Hgood.out HRM.out).1.symm.trans HE1.out
      have hA2 := (gp_ok Hgood.out HRM.out).2.symm.trans HER1.out
      rw [← HE.out] at hA1
      subst hA2
      obtain rfl := hA1
      obtain ⟨rfl, rfl, rfl, hrw⟩ := HEV.out.encB (Hpos.out (by decide))
      obtain ⟨z10, o0, o1, o2, of0, of1, of2⟩ := id hB10
      obtain ⟨rz, r0, r1, r2, p0, p1, p2⟩ := id hB8
      have Hg5 := hid (Hge.out (by decide))
      clear hlt HE HRM Hpos Hge HEV HE1 HER1
      go_wp2
      exact bodyPost_ret (v := .tuple #[.agg #[.int .u64 E.low, .int .u32 E.R, .slice a' E.m c'], .int .i64 0]) (by simp [results, Try.results11, go_sem, r0, r1, r2, p0, p1, p2]) rfl ⟨a', c', rfl, RwF.of_ge (hB8.apart hrw (fun z => by simp) (fun z => by simp) (fun z => by simp) _ _ _) Hg5.out, bset3 hbel _ _ _ _ (by omega)⟩

set_option maxRecDepth 10000 in
set_option maxHeartbeats 4000000 in
theorem gput_against (L R : Int) (a : Option Addr) (n cap : Nat) (e : En) (ax : Option Addr) (nx cx : Nat) (x : List Int) (ay : Option Addr) (ny cy : Nat) (y : List Int) (hx : nx = x.length) (hy : ny = y.length) (w : World) (h : EvOf w L R a n cap e) (hvx : Rw .i64 w (.slice ax nx cx) x) (hvy : Rw .i64 w (.slice ay ny cy) y) (hgood : gpB x y false = true) :
    Calls Try.prog 11 #[.agg #[.int .u64 L, .int .u32 R, .slice a n cap], .slice ax nx cx, .slice ay ny cy, .bool false] w fun xx w' => PutQ w xx w' (gpE e x y false) (gpF e x y false) := by
  have hW := below2 w (.cells #[.int .u64 L, .int .u32 R, .slice a n cap] 26) (.cells #[.int .u64 0, .int .u32 0, .slice none 0 0] 26)
  have hW3 := below3 w (.cells #[.int .u64 L, .int .u32 R, .slice a n cap] 26) (.cells #[.int .u64 0, .int .u32 0, .slice none 0 0] 26) (.cells #[.int .u64 L, .int .u32 R, .slice a n cap] 26)
  have hr := fun W h => right_any ax nx cx x hx W h
  have hra := fun W h => rightAhead_any ay ny cy y hy false W h
  have has := fun W h => asItWas_any L R a n cap e W h
  have hgp := id hgood
  unfold gpB at hgp
  rw [Bool.and_eq_true] at hgp
  obtain ⟨hgx, hgy⟩ := hgp
  obtain rfl : nx = 5 := hx.trans (gok_len hgx)
  have hgy' : gokB y = true := by simpa using hgy
  have Hgy' := hid hgy'
  obtain rfl : ny = 5 := hy.trans (gok_len hgy')
  clear hgy'
  rw [hgx] at hr
  rw [hgy] at hra
  have h2 := hvx.below hW
  have h3 := hvy.below hW
  have hB4 : B3 (((w.alloc (.cells #[.int .u64 L, .int .u32 R, .slice a n cap] 26)).alloc (.cells #[.int .u64 0, .int .u32 0, .slice none 0 0] 26)).alloc (.cells #[.int .u64 L, .int .u32 R, .slice a n cap] 26)) w.heap.size (.int .u64 L) (.int .u32 R) (.slice a n cap) := (B3.new w _ _ _ _).below (below2 _ _ _)
  have hB8 : B3 (((w.alloc (.cells #[.int .u64 L, .int .u32 R, .slice a n cap] 26)).alloc (.cells #[.int .u64 0, .int .u32 0, .slice none 0 0] 26)).alloc (.cells #[.int .u64 L, .int .u32 R, .slice a n cap] 26)) (w.heap.size + 1) (.int .u64 0) (.int .u32 0) (.slice none 0 0) := (B3.new2 w _ _ _ _ _).below (below1 _ _)
  have hB10 : B3 (((w.alloc (.cells #[.int .u64 L, .int .u32 R, .slice a n cap] 26)).alloc (.cells #[.int .u64 0, .int .u32 0, .slice none 0 0] 26)).alloc (.cells #[.int .u64 L, .int .u32 R, .slice a n cap] 26)) (w.heap.size + 1 + 1) (.int .u64 L) (.int .u32 R) (.slice a n cap) := by
    have := B3.new2 (w.alloc (.cells #[.int .u64 L, .int .u32 R, .slice a n cap] 26)) (.cells #[.int .u64 0, .int .u32 0, .slice none 0 0] 26) (.int .u64 L) (.int .u32 R) (.slice a n cap) 26
    simpa using this
  have hev3 := h.below hW3
  have Hgood := hid hgood
  have Hgx := hid hgx
  have Hgy := hid hgy
  have Hev := hid h
  have Hvx := hid hvx
  have Hvy := hid hvy
  obtain ⟨e1, he1⟩ : ∃ e1, gpE e x y false = e1 := ⟨_, rfl⟩
  obtain ⟨er1, her1⟩ : ∃ er1, gpF e x y false = er1 := ⟨_, rfl⟩
  have HE1 := hid he1
  have HER1 := hid her1
  rw [he1, her1]
  unfold PutQ
  clear hx hy hgx hgy hgood h hvx hvy he1 her1
  go_enter Try.func11, Try.ntmps11
  go_wp2_with (first | (go_at_call 15; refine (hr _ h2).mono ?_; rintro x w9 ⟨rfl, h9⟩; have h9 := h9.symm; subst h9) | (go_at_call 27; refine (hra _ h3).mono ?_; rintro x w9 ⟨rfl, h9⟩; have h9 := h9.symm; subst h9))
  clear hr hra h2 h3 hW
  go_loopw [25, 11] (fun i f wr => ∃ (k : Nat) (E : En) (L' R' : Int) (a' : Option Addr) (n' c' : Nat), k ≤ 5 ∧ i = .int .i64 (k : Nat) ∧ f = .int .i64 0 ∧ Hid (E = puts e (chK false x y k)) ∧ Hid (rm e (chK false x y k) = true) ∧ Hid (0 < k → encB L' R' n' = true) ∧ Hid (0 < k → SlGe w.heap.size (.slice a' n' c') E.out) ∧ Hid (EvOf wr L' R' a' n' c' E) ∧ B3 wr (w.heap.size + 1 + 1) (.int .u64 L') (.int .u32 R') (.slice a' n' c') ∧ B3 wr w.heap.size (.int .u64 L) (.int .u32 R) (.slice a n cap) ∧ B3 wr (w.heap.size + 1) (.int .u64 0) (.int .u32 0) (.slice none 0 0) ∧ Below w.heap.size w wr) (fun i _ _ => 5 - (intOf i).toNat)
  case atStart => exact ⟨0, e, L, R, a, n, cap, by omega, rfl, rfl, rfl, rfl, (fun hh => absurd hh (by decide)), (fun hh => absurd hh (by decide)), hev3, hB10, hB4, hB8, hW3⟩
  case round =>
    clear hB4 hB8 hB10 hev3 hW3
    obtain ⟨k, E, L', R', a', n', c', hk, rfl, rfl, HE, HRM, Hpos, Hge, HEV, hB10, hB4, hB8, hbel⟩ := hrel
    obtain ⟨W1, rfl⟩ : ∃ z, z = wr := ⟨wr, rfl⟩
    by_cases hlt : k < 5
    · obtain ⟨G, hG, hG4⟩ := gok_at Hgx.out k hlt
      obtain ⟨b, off, rfl, hb, hcx⟩ := Hvx.out.atn k hlt
      rw [hG] at hcx
      have hbr : b < W1.heap.size := Nat.lt_of_lt_of_le hb hbel.size
      have dx := (hbel.cell (p := ⟨b, off + k, none⟩) hb).trans hcx
      obtain ⟨A, hA, hA4⟩ := gok_at Hgy'.out k hlt
      obtain ⟨b', off', rfl, hb', hcy⟩ := Hvy.out.atn k hlt
      rw [hA] at hcy
      have hbr' : b' < W1.heap.size := Nat.lt_of_lt_of_le hb' hbel.size
      have dy := (hbel.cell (p := ⟨b', off' + k, none⟩) hb').trans hcy
      clear hcy hb'
      have HS : Hid _ := chK_succ false x y k
      rw [hG, hA, Int.toNat_natCast, Int.toNat_natCast] at HS
      have Hstop : Hid _ := @rm_stop e x y false k hlt
      have hone := fun W h => putAgainst_any L' R' a' n' c' E G A hG4 hA4 W h
      have HF := hid (rmF_cases E (chG false G A))
      unfold OneP at hone
      generalize hl : chG false G A = l at *
      clear hl
      generalize hf : rmF E l = fr at *
      clear hf hcx hb
      obtain ⟨z10, o0, o1, o2, of0, of1, of2⟩ := id hB10
      have i1 : (0 : Int) ≤ (k : Int) := by omega
      have i2 : (k : Int) < 5 := by omega
      have i3 : IntKind.i64.wrap (k : Int) = k := wraps_i64 _ (by omega) (by omega)
      go_wp2
      go_cut [11] (fun f wz => ∃ (F : En) (a2 : Option Addr) (c2 : Nat), F.Ok ∧ Hid (rm E l = true → F = puts E l) ∧ f = .int .i64 fr ∧ B3 wz (w.heap.size + 1 + 1) (.int .u64 F.low) (.int .u32 F.R) (.slice a2 F.m c2) ∧ Rw .u8 wz (.slice a2 F.m c2) F.out ∧ Hid (SlGe w.heap.size (.slice a2 F.m c2) F.out) ∧ B3 wz w.heap.size (.int .u64 L) (.int .u32 R) (.slice a n cap) ∧ B3 wz (w.heap.size + 1) (.int .u64 0) (.int .u32 0) (.slice none 0 0) ∧ Below w.heap.size w wz)
      case first =>
        go_region_with (go_at_call 30; refine (hone _ (HEV.out.below (Below.refl _ _).drew)).mono ?_; rintro xx y1 ⟨F, a2, c2, hok2, hF2, rfl, hrw2, hb2'⟩; have hb2 := drew_below hb2'; have hB10y := hB10.below hb2; have hB4y := hB4.below hb2; have hB8y := hB8.below hb2; have hy1 := bthen hbel hb2 hbel.size; obtain ⟨y10, yo0, yo1, yo2, yof0, yof1, yof2⟩ := id hB10y)
        all_goals go_wp2
        all_goals go_meet
        all_goals exact ⟨F, a2, c2, hok2, hF2, rfl, hB10y.set _ _ _, hB10y.apart hrw2.rw (fun z => by simp) (fun z => by simp) (fun z => by simp) _ _ _, (hrw2.mono hbel.size).ge, ((hB4y.other _ _ _ (by omega)).other _ _ _ (by omega)).other _ _ _ (by omega), ((hB8y.other _ _ _ (by omega)).other _ _ _ (by omega)).other _ _ _ (by omega), bset3 hy1 _ _ _ _ (by omega)⟩
      case rest =>
        obtain ⟨F, a2, c2, hok2, HF2, rfl, hC10, hrC, Hgc, hC4, hC8, hbC⟩ := hcut
        rcases HF.out with ⟨hrm, rfl⟩ | ⟨hrm, rfl⟩
        · have HF3 : Hid (F = puts E l) := HF2.out hrm
          have HR3 : Hid (rm E l = true) := hrm
          clear hrm HF HF2
          go_wp2
          go_roundw
          case rel => exact ⟨k + 1, F, F.low, F.R, a2, F.m, c2, by omega, by go_num, rfl, by unfold Hid; rw [HS.out, puts_append, ← HE.out]; exact HF3.out, by unfold Hid; rw [HS.out, rm_append, HRM.out, ← HE.out, HR3.out]; rfl, (fun _ => hok2.encB), (fun _ => Hgc.out), hok2.ev hrC, hC10, hC4, hC8, hbC⟩
          case measure => simp [intOf]; omega
        · have HR3 : Hid (rm e (chK false x y 5) = false) := by
            refine Hstop.out ?_
            rw [HS.out, rm_append, HRM.out, ← HE.out, hrm]; rfl
          have hA1 := (gp_full Hgood.out HR3.out).1.symm.trans HE1.out
          have hA2 := (gp_full Hgood.out HR3.out).2.symm.trans HER1.out
          subst hA2
          obtain rfl := hA1
          have hev2 := Hev.out.below hbC
          obtain ⟨z4, q0, q1, q2, qf0, qf1, qf2⟩ := id hC4
          clear hrm HF HF2
          go_wp2_with (go_at_call 28; refine (has _ hev2).mono ?_; rintro xx w1 ⟨a1, c1, rfl, hrw, hb1⟩; have hB1 := hC8.below hb1; obtain ⟨rz, r0, r1, r2, p0, p1, p2⟩ := id hB1)
          exact bodyPost_ret (v := .tuple #[.agg #[.int .u64 e.low, .int .u32 e.R, .slice a1 e.m c1], .int .i64 3]) (by simp [results, Try.results11, go_sem, r0, r1, r2, p0, p1, p2]) rfl ⟨a1, c1, rfl, (((hrw.set _ _ _ hC8.z).set _ _ _ hC8.z).set _ _ _ hC8.z).mono hbC.size, bset3 (bthen hbC hb1 hbC.size) _ _ _ _ (by omega)⟩
    · obtain rfl : k = 5 := by omega
      have hA1 := (gp_ok Hgood.out HRM.out).1.symm.trans HE1.out
      have hA2 := (gp_ok Hgood.out HRM.out).2.symm.trans HER1.out
      rw [← HE.out] at hA1
      subst hA2
      obtain rfl := hA1
      obtain ⟨rfl, rfl, rfl, hrw⟩ := HEV.out.encB (Hpos.out (by decide))
      obtain ⟨z10, o0, o1, o2, of0, of1, of2⟩ := id hB10
      obtain ⟨rz, r0, r1, r2, p0, p1, p2⟩ := id hB8
      have Hg5 := hid (Hge.out (by decide))
      clear hlt HE HRM Hpos Hge HEV HE1 HER1
      go_wp2
      exact bodyPost_ret (v := .tuple #[.agg #[.int .u64 E.low, .int .u32 E.R, .slice a' E.m c'], .int .i64 0]) (by simp [results, Try.results11, go_sem, r0, r1, r2, p0, p1, p2]) rfl ⟨a', c', rfl, RwF.of_ge (hB8.apart hrw (fun z => by simp) (fun z => by simp) (fun z => by simp) _ _ _) Hg5.out, bset3 hbel _ _ _ _ (by omega)⟩

theorem gputF_any (L R : Int) (a : Option Addr) (n cap : Nat) (e : En) (ax : Option Addr) (nx cx : Nat) (x : List Int) (ay : Option Addr) (ny cy : Nat) (y : List Int) (intra : Bool) (hx : nx = x.length) (hy : ny = y.length) (w : World) (h : EvOf w L R a n cap e) (hvx : Rw .i64 w (.slice ax nx cx) x) (hvy : Rw .i64 w (.slice ay ny cy) y) :
    Calls Try.prog 11 #[.agg #[.int .u64 L, .int .u32 R, .slice a n cap], .slice ax nx cx, .slice ay ny cy, .bool intra] w fun xx w' => PutQ w xx w' (gpE e x y intra) (gpF e x y intra) := by
  cases hb : gpB x y intra
  · rw [(gp_arg (e := e) hb).1, (gp_arg (e := e) hb).2]
    exact gput_arg L R a n cap e ax nx cx x ay ny cy y intra hx hy w h hvx hvy hb
  · cases intra
    · exact gput_against L R a n cap e ax nx cx x ay ny cy y hx hy w h hvx hvy hb
    · exact gput_alone L R a n cap e ax nx cx x ay ny cy y hx hy w h hvx hvy hb
theorem gput_any (L R : Int) (a : Option Addr) (n cap : Nat) (e : En) (ax : Option Addr) (nx cx : Nat) (x : List Int) (ay : Option Addr) (ny cy : Nat) (y : List Int) (intra : Bool) (hx : nx = x.length) (hy : ny = y.length) (w : World) (h : EvOf w L R a n cap e) (hvx : Rw .i64 w (.slice ax nx cx) x) (hvy : Rw .i64 w (.slice ay ny cy) y) :
    Calls Try.prog 11 #[.agg #[.int .u64 L, .int .u32 R, .slice a n cap], .slice ax nx cx, .slice ay ny cy, .bool intra] w fun xx w' => PutP w xx w' (gpE e x y intra) (gpF e x y intra) := by
  refine (gputF_any L R a n cap e ax nx cx x ay ny cy y intra hx hy w h hvx hvy).mono ?_
  rintro xx w' ⟨a', c', hxx, hr, hb⟩
  exact ⟨a', c', hxx, hr.rw, hb⟩
end Go.Proofs.Ytkfpphccpkfenaa
