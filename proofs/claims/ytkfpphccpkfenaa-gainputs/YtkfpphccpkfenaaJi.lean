/- Contracts of Most, of what is more than is looked at, of the document's Same, of the examples; gains come back. -/
import Derived.Test.YtkfpphccpkfenaaJh
import Derived.Test.YtkfpphccpkfenaaJe
import Derived.Deep.QuietTactic
namespace Go.Proofs.Ytkfpphccpkfenaa
open Go.RowKit
set_option linter.unusedVariables false
set_option linter.unusedSimpArgs false

set_option maxHeartbeats 2000000 in
theorem same_yes (v1 v2 : Value) (xs : List Int) (w : World) (h1 : Rw .i64 w v1 xs) (h2 : Rw .i64 w v2 xs) (hl : xs.length ≤ 100) : Calls Try.prog 21 #[v1, v2] w fun e w' => e = .returned (.bool true) ∧ Below w.heap.size w w' := by
  obtain ⟨a1, c1, rfl, ha1⟩ := h1
  obtain ⟨a2, c2, rfl, ha2⟩ := h2
  obtain ⟨n, hn⟩ : ∃ n, xs.length = n := ⟨_, rfl⟩
  rw [hn] at ha1 ha2 hl ⊢
  have hnil : 0 < n → xs ≠ [] := fun h e => by rw [e] at hn; simp at hn; omega
  clear hn
  go_enter Try.func21, Try.ntmps21
  go_wp2
  go_loopw [5] (fun i wr => ∃ k : Nat, k ≤ n ∧ i = .int .i64 k ∧ Below w.heap.size w wr) (fun i _ => n - (intOf i).toNat)
  case atStart => exact ⟨0, by omega, rfl, Below.refl _ _⟩
  case round =>
    obtain ⟨k, hk, rfl, hnx⟩ := hrel
    by_cases hlt : k < n
    · obtain ⟨b1, o1, rfl, hb1, hc1⟩ := ha1.resolve_left (hnil (by omega))
      obtain ⟨b2, o2, rfl, hb2, hc2⟩ := ha2.resolve_left (hnil (by omega))
      have g1 := (hnx.cell (p := ⟨b1, o1 + k, none⟩) hb1).trans (hc1 k hlt)
      have g2 := (hnx.cell (p := ⟨b2, o2 + k, none⟩) hb2).trans (hc2 k hlt)
      clear ha1 ha2 hc1 hc2 hnil
      generalize xs.getD k 0 = x at *
      have i1 : (0 : Int) ≤ (k : Int) := by omega
      have i2 : (k : Int) < (n : Int) := by omega
      have i3 : IntKind.i64.wrap (k : Int) = k := wraps_i64 _ (by omega) (by omega)
      go_wp2
      go_quiet (fail)
      go_wp2
      exact ⟨⟨k + 1, by omega, by go_num, drewN_below hnx _⟩, by simp [intOf]; omega⟩
    · clear ha1 ha2 hnil
      go_wp2
      go_ret
      exact ⟨rfl, hnx⟩

theorem most_any (intra : Bool) (w : World) : Calls Try.prog 26 #[.bool intra] w fun e w' => e = .returned (.int .i64 (mostB intra : Nat)) ∧ w' = w := by
  cases intra
  · go_enter Try.func26, Try.ntmps26
    go_wp2
    go_ret
    exact ⟨rfl, rfl⟩
  · go_enter Try.func26, Try.ntmps26
    go_wp2
    go_ret
    exact ⟨rfl, rfl⟩
theorem great_any (L R : Int) (a : Option Addr) (n cap : Nat) (C R2 : Int) (a2 : Option Addr) (n2 cap2 : Nat) (A : Int) (a3 : Option Addr) (n3 c3 : Nat) (a4 : Option Addr) (n4 c4 : Nat) (w : World) :
    Calls Try.prog 9 #[.agg #[.int .u64 L, .int .u32 R, .slice a n cap], .agg #[.int .u64 C, .int .u32 R2, .slice a2 n2 cap2, .int .i64 A], .slice a3 n3 c3, .slice a4 n4 c4] w fun e w' => e = .returned (.bool (decide (5000 < n ∨ 5000 < n2 ∨ 100 < n3 ∨ 100 < n4))) ∧ Below w.heap.size w w' := by
  have hW := below2 w (.cells #[.int .u64 L, .int .u32 R, .slice a n cap] 26) (.cells #[.int .u64 C, .int .u32 R2, .slice a2 n2 cap2, .int .i64 A] 30)
  by_cases h1 : 5000 < n
  · rw [decide_eq_true (.inl h1)]
    have k1 : (5000 : Int) < (n : Int) := by omega
    clear h1
    go_enter Try.func9, Try.ntmps9
    go_wp2
    go_ret
    exact ⟨rfl, hW⟩
  · have k1 : (n : Int) ≤ 5000 := by omega
    by_cases h2 : 5000 < n2
    · rw [decide_eq_true (.inr (.inl h2))]
      have k2 : (5000 : Int) < (n2 : Int) := by omega
      clear h1 h2
      go_enter Try.func9, Try.ntmps9
      go_wp2
      go_ret
      exact ⟨rfl, hW⟩
    · have k2 : (n2 : Int) ≤ 5000 := by omega
      by_cases h3 : 100 < n3
      · rw [decide_eq_true (.inr (.inr (.inl h3)))]
        have k3 : (100 : Int) < (n3 : Int) := by omega
        clear h1 h2 h3
        go_enter Try.func9, Try.ntmps9
        go_wp2
        go_ret
        exact ⟨rfl, hW⟩
      · have k3 : (n3 : Int) ≤ 100 := by omega
        by_cases h4 : 100 < n4
        · rw [decide_eq_true (.inr (.inr (.inr h4)))]
          have k4 : (100 : Int) < (n4 : Int) := by omega
          clear h1 h2 h3 h4
          go_enter Try.func9, Try.ntmps9
          go_wp2
          go_ret
          exact ⟨rfl, hW⟩
        · have k4 : (n4 : Int) ≤ 100 := by omega
          rw [decide_eq_false (by omega)]
          clear h1 h2 h3 h4
          go_enter Try.func9, Try.ntmps9
          go_wp2
          go_ret
          first | exact ⟨rfl, hW⟩ | exact ⟨ret_bool (by simp; omega), hW⟩ | exact ⟨by simp; omega, hW⟩

theorem gtake_any (C R : Int) (a : Option Addr) (n cap : Nat) (A : Int) (d : De) (ay : Option Addr) (ny cy : Nat) (y : List Int) (intra : Bool) (hy : ny = y.length) (w : World) (h : DvOf w C R a n cap A d) (hvy : Rw .i64 w (.slice ay ny cy) y) (hg : (intra || gokB y) = true) :
    Calls Try.prog 17 #[.agg #[.int .u64 C, .int .u32 R, .slice a n cap, .int .i64 A], .slice ay ny cy, .bool intra] w fun x w' => TakeP w x w' C R a n cap A d (dK intra d 5) (vK intra d y 5) := by
  cases intra
  · exact gtake_against C R a n cap A d ay ny cy y hy w h hvy (by simpa using hg)
  · exact gtake_alone C R a n cap A d ay ny cy y hy w h hvy
theorem rgtake_any (a : Option Addr) (cap : Nat) (d : De) (ay : Option Addr) (ny cy : Nat) (y : List Int) (intra : Bool) (hy : ny = y.length) (w : World) (h : d.Ok) (hr : Rw .u8 w (.slice a d.B.length cap) d.B) (hvy : Rw .i64 w (.slice ay ny cy) y) (hg : (intra || gokB y) = true) :
    Calls Try.prog 18 #[.agg #[.int .u64 d.C, .int .u64 d.R, .slice a d.B.length cap, .int .i64 d.A], .slice ay ny cy, .bool intra] w fun x w' => RTakeP w x w' a cap (dK intra d 5) (vK intra d y 5) := by
  cases intra
  · exact rgtake_against a cap d ay ny cy y hy w h hr hvy (by simpa using hg)
  · exact rgtake_alone a cap d ay ny cy y hy w h hr hvy

/-! ### The examples -/
theorem lit5 (w : World) (x0 x1 x2 x3 x4 : Int) (t : TypeId) : Rw .i64 (w.alloc (.cells #[.int .i64 x0, .int .i64 x1, .int .i64 x2, .int .i64 x3, .int .i64 x4] t)) (.slice (some ⟨w.heap.size, 0, none⟩) 5 5) [x0, x1, x2, x3, x4] :=
  Rw.of_row (e := t) (cur := [x0, x1, x2, x3, x4]) (heap_alloc_last w _) rfl
theorem back_frame (intra : Bool) {x y : List Int} (hx : gokB x = true) (hy : gokB y = true) : vK intra (De.open (puts En.new (chK intra x y 5)).all) y 5 = x := by
  have g := En.new_good.puts (chK_fair intra y hx 5 (Nat.le_refl _))
  have h : Track (puts En.new (chK intra x y 5)).N (puts En.new (chK intra x y 5)).m En.new (De.open (puts En.new (chK intra x y 5)).all) := Track.init g.lt
  exact (h.gains En.new_good intra hx hy (Within.self g)).1
def kX : List Int := [5, 5, 5, 5, 5]
def kY : List Int := [5, 4, 8, 9, 5]
theorem kX_ok : gokB kX = true := by decide
theorem kY_ok : gokB kY = true := by decide
theorem k_room : rm En.new (chK false kX kY 5) = true := by decide +kernel
theorem ev_row {e : En} (h : e.Ok) (w : World) (a : Option Addr) (cap : Nat) (hr : Rw .u8 w (.slice a e.m cap) e.out) : EvOf w e.low e.R a e.m cap e := h.ev hr
set_option maxRecDepth 10000 in
set_option maxHeartbeats 4000000 in
theorem knows_any (w : World) : Calls Try.prog 10 #[] w fun x w' => x = .returned (.bool true) ∧ Below w.heap.size w w' := by
  have hgp : gpB kX kY false = true := by unfold gpB; rw [kX_ok, kY_ok]; rfl
  obtain ⟨hE, hF⟩ := gp_ok hgp k_room
  have hEok := gpE_ok En.new_ok kX kY false
  have hbk := back_frame false kX_ok kY_ok
  rw [← hE] at hbk
  have hput := fun a1 a2 W h h1 h2 => gput_any 0 4294967295 none 0 0 En.new a1 5 5 kX a2 5 5 kY false rfl rfl W h h1 h2
  rw [hF] at hput
  generalize gpE En.new kX kY false = F at *
  have hall5 : F.all.length ≤ 5000 := by rw [En.all_length]; have := hEok.le; omega
  have hfin := fun a c W h => finish_ev F.low F.R a F.m c F F.all.length (En.all_length F).symm W h
  have hopen := fun a c W h => open_dec F.all_byts hall5 a c W h
  have hok0 := De.open_ok F.all_byts hall5
  have hrw0 : ∀ (W : World) (a : Option Addr) (c : Nat), Rw .u8 W (.slice a F.all.length c) F.all → Rw .u8 W (.slice a (De.open F.all).B.length c) (De.open F.all).B := fun _ _ _ h => h
  have hev := ev_row hEok
  clear hE hF hgp hall5 hEok
  generalize De.open F.all = D0 at *
  generalize F.all = B0 at *
  have htk := fun a c a2 W h h2 => gtake_any D0.C D0.R a D0.B.length c D0.A D0 a2 5 5 kY false rfl W h h2 (by rw [kY_ok]; rfl)
  rw [hbk] at htk
  have hdk := dK_ok hok0 false 5
  generalize dK false D0 5 = D at *
  have hrd := fun a c W => rightDec_ok a c D W hdk
  unfold decV at hrd
  have hsm := fun v1 v2 W h1 h2 => same_yes v1 v2 kX W h1 h2 (by decide)
  have hrt := fun a W h => right_any a 5 5 kX rfl W h
  rw [kX_ok] at hrt
  have hm1 := fun W => most_any true W
  have hm2 := fun W => most_any false W
  unfold PutP at hput
  unfold TakeP at htk
  have hX : ∀ W : World, Rw .i64 (W.alloc (.cells #[.int .i64 5, .int .i64 5, .int .i64 5, .int .i64 5, .int .i64 5] 3)) (.slice (some ⟨W.heap.size, 0, none⟩) 5 5) kX := fun W => lit5 W 5 5 5 5 5 _
  have hY : ∀ W : World, Rw .i64 (W.alloc (.cells #[.int .i64 5, .int .i64 4, .int .i64 8, .int .i64 9, .int .i64 5] 3)) (.slice (some ⟨W.heap.size, 0, none⟩) 5 5) kY := fun W => lit5 W 5 4 8 9 5 _
  have h1 := (hX w).below (below1 (w.alloc (.cells #[.int .i64 5, .int .i64 5, .int .i64 5, .int .i64 5, .int .i64 5] 3)) (.cells #[.int .i64 5, .int .i64 4, .int .i64 8, .int .i64 9, .int .i64 5] 3))
  have h2 := hY (w.alloc (.cells #[.int .i64 5, .int .i64 5, .int .i64 5, .int .i64 5, .int .i64 5] 3))
  have hW := below2 w (.cells #[.int .i64 5, .int .i64 5, .int .i64 5, .int .i64 5, .int .i64 5] 3) (.cells #[.int .i64 5, .int .i64 4, .int .i64 8, .int .i64 9, .int .i64 5] 3)
  simp only [World.size_alloc] at h2
  clear hX hY hbk
  generalize kX = X at *
  generalize kY = Y at *
  go_enter Try.func10, Try.ntmps10
  go_wp2_with (first
    | (go_at_call 22; refine (new_any _).mono ?_; rintro e w1 ⟨rfl, hb1⟩; have hX1 := h1.below hb1; have hY1 := h2.below hb1; have hbw1 := bthen hW hb1 hW.size)
    | (go_at_call 11; refine (hput _ _ _ (ev_new w1) hX1 hY1).mono ?_; rintro e w2 ⟨a2, c2, rfl, hr2, hb2⟩; have hX2 := (hX1.below hb2).below (below1 w2 (.cells #[.int .u64 F.low, .int .u32 F.R, .slice a2 F.m c2] 26)); have hY2 := (hY1.below hb2).below (below1 w2 (.cells #[.int .u64 F.low, .int .u32 F.R, .slice a2 F.m c2] 26)); have hbw2' := bthen hbw1 hb2 hbw1.size; have hbw2 := hbw2'.alloc hbw2'.size (.cells #[.int .u64 F.low, .int .u32 F.R, .slice a2 F.m c2] 26); have hev2 := hev _ _ _ (hr2.below (below1 w2 (.cells #[.int .u64 F.low, .int .u32 F.R, .slice a2 F.m c2] 26))))
    | (go_at_call 24; refine (hfin _ _ _ hev2).mono ?_; rintro e w3 ⟨a3, c3, rfl, hr3, hb3⟩; have hbw3 := bthen hbw2 hb3 hbw2.size; have hX3 := hX2.below hb3; have hY3 := hY2.below hb3)
    | (go_at_call 23; refine (hopen _ _ _ hr3).mono ?_; rintro e w4 ⟨rfl, hb4⟩; have hbw4 := bthen hbw3 hb4 hbw3.size; have hX4 := hX3.below hb4; have hY4 := hY3.below hb4; have hdv4 := hok0.dv (hrw0 _ _ _ (hr3.below hb4)))
    | (go_at_call 17; refine (htk _ _ _ _ hdv4 hY4).mono ?_; rintro e w5 ⟨a5, c5, g5, rfl, hr5, hq5, hb5⟩; have hX5 := (hX4.below hb5).below (below1 w5 (.cells #[.int .u64 D.C, .int .u32 D.R, .slice a5 D.B.length c5, .int .i64 D.A] 30)); have hbw5' := bthen hbw4 hb5 hbw4.size; have hbw5 := hbw5'.alloc hbw5'.size (.cells #[.int .u64 D.C, .int .u32 D.R, .slice a5 D.B.length c5, .int .i64 D.A] 30); have hG5 := hr5.rw.below (below1 w5 (.cells #[.int .u64 D.C, .int .u32 D.R, .slice a5 D.B.length c5, .int .i64 D.A] 30)); have hB5 := B4.new w5 (.int .u64 D.C) (.int .u32 D.R) (.slice a5 D.B.length c5) (.int .i64 D.A) 30)
    | (go_at_call 21; refine (hsm _ _ _ hG5 hX5).mono ?_; rintro e w6 ⟨rfl, hb6⟩; have hbw6 := bthen hbw5 hb6 hbw5.size; have hX6 := hX5.below hb6; have hB6 := hB5.below hb6; obtain ⟨z6, d0, d1, d2, d3, f0, f1, f2, f3⟩ := id hB6)
    | (go_at_call 25; refine (hrd _ _ _).mono ?_; rintro e w7 ⟨rfl, hb7⟩; have hbw7 := bthen hbw6 hb7 hbw6.size; have hX7 := hX6.below hb7)
    | (go_at_call_of 26 (Value.bool true); refine (hm1 _).mono ?_; rintro e w9 ⟨rfl, h9⟩; have h9 := h9.symm; subst h9)
    | (go_at_call_of 26 (Value.bool false); refine (hm2 _).mono ?_; rintro e w9 ⟨rfl, h9⟩; have h9 := h9.symm; subst h9)
    | (go_at_call 15; refine (hrt _ _ hX7).mono ?_; rintro e w9 ⟨rfl, h9⟩; have h9 := h9.symm; subst h9))
  go_ret
  exact ⟨rfl, hbw7⟩
end Go.Proofs.Ytkfpphccpkfenaa
