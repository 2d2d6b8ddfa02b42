/- Contracts: the bands that may have more, the worthiest of them, by the program. -/
import Derived.Test.YtlpjkahppogkiaaKd
namespace Go.Proofs.Ytlpjkahppogkiaa
open Go.RowKit
set_option linter.unusedVariables false
set_option linter.unusedSimpArgs false

/-- Bands as memory has them. -/
def bdv (l : List Nat) : List Int := l.map fun b : Nat => (b : Int)
theorem bdv_len (l : List Nat) : (bdv l).length = l.length := by simp [bdv]
theorem bdv_at (l : List Nat) (i : Nat) (h : i < l.length) : (bdv l).getD i 0 = (l.getD i 0 : Nat) := by simp [bdv, h]
theorem bdv_snoc (l : List Nat) (b : Nat) : (bdv (l ++ [b])).map (Value.int .i64) = (bdv l).map (Value.int .i64) ++ [.int .i64 (b : Nat)] := by simp [bdv]

set_option maxHeartbeats 2000000 in
theorem bands_any (s p gb go gc : Nat) (g : List Int) (f : Nat → Nat) (room : Int) (W : World) (H : Sh W s p gb go gc g f (room - sp f)) (hf : ∀ b, b < 5 → f b ≤ 12) : Calls Try.prog 32 #[.agg #[.func (.func 31) #[.pointer (some ⟨s, 0, none⟩)] #[]]] W fun e w' => ∃ v, e = .returned v ∧ w'.ownsRow W.heap.size 3 1 v (bds (mayB g f room) 5).length ((bdv (bds (mayB g f room) 5)).map (Value.int .i64)) ∧ Below W.heap.size W w' := by
  obtain ⟨i0, hi, hz0, hz1, hz2⟩ := info_parts info_int
  have HM : Hid (∀ b, b < 5 → ∀ w, Below W.heap.size W w → Calls Try.prog 31 #[.pointer (some ⟨s, 0, none⟩), .int .i64 (b : Nat)] w fun e w' => e = .returned (.bool (mayB g f room b)) ∧ Below w.heap.size w w') := fun b hb w hw => mayAdd_any s p gb go gc b g f room w (H.below hw) hb (hf b hb)
  generalize mayB g f room = q at *
  clear H hf
  go_enter Try.func32, Try.ntmps32
  go_wp2
  have hw0 := below1 W (.cells #[.func (.func 31) #[.pointer (some ⟨s, 0, none⟩)] #[]] 48)
  have hc0 : (W.alloc (.cells #[.func (.func 31) #[.pointer (some ⟨s, 0, none⟩)] #[]] 48)).cell? ⟨W.heap.size, 0, none⟩ = some (.func (.func 31) #[.pointer (some ⟨s, 0, none⟩)] #[]) := by simp [go_sem]
  have hz : W.heap.size < (W.alloc (.cells #[.func (.func 31) #[.pointer (some ⟨s, 0, none⟩)] #[]] 48)).heap.size := by simp
  generalize W.alloc (.cells #[.func (.func 31) #[.pointer (some ⟨s, 0, none⟩)] #[]] 48) = W0 at *
  go_loopw [3, 5] (fun r i wr => ∃ n : Nat, n ≤ 5 ∧ i = .int .i64 n ∧ wr.ownsRow W0.heap.size 3 1 r (bds q n).length ((bdv (bds q n)).map (Value.int .i64)) ∧ Below W0.heap.size W0 wr) (fun _ i _ => 5 - (intOf i).toNat)
  case atStart => exact ⟨0, by omega, rfl, World.ownsRow_nil _ _ _ _, Below.refl _ _⟩
  case round =>
    obtain ⟨n, hn, rfl, hown, hbr⟩ := hrel
    have hc1 := ((bcell hbr).1 _ 0 hz).trans hc0
    by_cases h5 : n < 5
    · have hm := HM.out n h5
      have HOW := hid hown
      have HBR := hid hbr
      have hlen := bds_len q n
      have HWW := hid (bthen hw0 hbr hw0.size)
      by_cases hp : q n = true
      · rw [hp] at hm
        have HS : Hid (bds q (n + 1) = bds q n ++ [n]) := by unfold Hid; rw [bds_succ, if_pos hp]
        clear hown hbr
        go_wp2_with (first | (go_at_call 31; refine (hm _ HWW.out).mono ?_; rintro e y1 ⟨rfl, hy1⟩; have hown := owns_below HOW.out hy1; have hbr2 := bthen HBR.out hy1 HBR.out.size; have hsz := hbr2.size) | (at_builtin; refine wpList_append_own _ rfl _ _ 34 rfl W0.heap.size 3 i0 (.int .i64 0) 1 8 Try.underlying34 hi hz0 hz1 hz2 rfl (by decide) _ _ _ rfl (hown.alloc _) ⟨y1.heap.size, 0, none⟩ 1 1 [.int .i64 n] rfl rfl (cell_one_at rfl _ _) (one_cell _ _) ?c3 ?c4 ?c5 ?_))
        case c3 => unfold maxLen; omega
        case c4 => omega
        case c5 => simp; omega
        intro v' w2 hown' hgrow _
        have hb2 := bgrow hbr2 hown (Nat.le_refl _) hgrow
        go_wp2
        exact ⟨⟨n + 1, by omega, by go_num, by rw [HS.out, bdv_snoc, List.length_append]; exact hown', hb2⟩, by simp [intOf]; omega⟩
      · have hp' : q n = false := by simpa using hp
        rw [hp'] at hm
        have HS : Hid (bds q (n + 1) = bds q n) := by unfold Hid; rw [bds_succ, if_neg hp]
        clear hown hbr
        go_wp2_with (first | (go_at_call 31; refine (hm _ HWW.out).mono ?_; rintro e y1 ⟨rfl, hy1⟩; have hown := owns_below HOW.out hy1; have hbr2 := bthen HBR.out hy1 HBR.out.size))
        exact ⟨⟨n + 1, by omega, by go_num, by rw [HS.out]; exact hown, hbr2⟩, by simp [intOf]; omega⟩
    · obtain rfl : n = 5 := by omega
      go_wp2
      go_ret
      exact ⟨_, rfl, owns_base hown hw0.size, bthen hw0 hbr hw0.size⟩

set_option maxHeartbeats 1000000 in
theorem wcmp_any (s p gb go gc c a b : Nat) (g : List Int) (f : Nat → Nat) (left : Int) (W : World) (H : Sh W s p gb go gc g f left) (hc : W.cell? ⟨c, 0, none⟩ = some (.pointer (some ⟨s, 0, none⟩))) (ha : a < 5) (hb : b < 5) (hf : ∀ b, b < 5 → f b ≤ 12) (hg : gokB g = true) : Calls Try.prog 40 #[.int .i64 (a : Nat), .int .i64 (b : Nat), .pointer (some ⟨c, 0, none⟩)] W fun e w' => e = .returned (.int .i64 (cmpI (wor g f a) (wor g f b))) ∧ ∃ n, w' = W.drewN n := by
  have h1 := fun n => worth_any s p gb go gc a g f left (W.drewN n) (H.drewN n) ha (hf a ha) hg
  have h2 := fun n => worth_any s p gb go gc b g f left (W.drewN n) (H.drewN n) hb (hf b hb) hg
  have h3 := fun w => compare_any (wor g f a) (wor g f b) w
  generalize cmpI (wor g f a) (wor g f b) = R at *
  generalize wor g f a = P at *
  generalize wor g f b = Q at *
  clear H ha hb hf hg
  generalize (a : Int) = A at *
  generalize (b : Int) = B at *
  go_enter Try.func40, Try.ntmps40
  go_wp2
  go_quiet (first | (go_at_call_of 42 (Value.int .i64 A); exact Calls.quiet_of (h1 _)) | (go_at_call_of 42 (Value.int .i64 B); exact Calls.quiet_of (h2 _)) | (go_at_call 41; exact Calls.quiet_of_same (h3 _)))
  go_wp2
  go_ret
  exact ⟨rfl, _, rfl⟩
set_option maxHeartbeats 1000000 in
theorem maxf_any (s p gb go gc c : Nat) (g : List Int) (f : Nat → Nat) (left : Int) (a : Option Addr) (n cap : Nat) (l : List Nat) (W : World) (H : Sh W s p gb go gc g f left) (hc : W.cell? ⟨c, 0, none⟩ = some (.pointer (some ⟨s, 0, none⟩))) (hcl : c < W.heap.size) (hf : ∀ b, b < 5 → f b ≤ 12) (hg : gokB g = true) (hl : ∀ b ∈ l, b < 5) (hn : n = l.length) (h0 : 0 < n) (h5 : n ≤ 5) (hv : Rw .i64 W (.slice a n cap) (bdv l)) : Calls Try.prog 39 #[.slice a n cap, .func (.func 40) #[] #[.pointer (some ⟨c, 0, none⟩)]] W fun e w' => ∃ x, bsl (wor g f) l = some x ∧ e = .returned (.int .i64 (x : Nat)) ∧ ∃ n, w' = W.drewN n := by
  have HC : Hid (∀ x y m, x < 5 → y < 5 → Calls Try.prog 40 #[.int .i64 (x : Nat), .int .i64 (y : Nat), .pointer (some ⟨c, 0, none⟩)] (W.drewN m) fun e w' => e = .returned (.int .i64 (cmpI (wor g f x) (wor g f y))) ∧ ∃ n, w' = (W.drewN m).drewN n) := fun x y m hx hy => wcmp_any s p gb go gc c x y g f left (W.drewN m) (H.drewN m) (by simpa using hc) hx hy hf hg
  have hv2 := hv
  rw [show n = (bdv l).length by rw [bdv_len l]; exact hn] at hv2
  obtain ⟨b, off, rfl, hb, hd0⟩ := hv2.at 0 (by rw [bdv_len l]; omega)
  have HD : Hid (∀ i, i < n → W.cell? ⟨b, off + i, none⟩ = some (.int .i64 (l.getD i 0 : Nat))) := fun i hi => by
    obtain ⟨b', off', he, _, h⟩ := hv2.at i (by rw [bdv_len l]; omega)
    simp only [Option.some.injEq, Addr.mk.injEq, and_true] at he
    obtain ⟨rfl, rfl⟩ := he
    rw [bdv_at l i (by omega)] at h
    exact h
  have HL : Hid (∀ i, i < n → l.getD i 0 < 5) := fun i hi => by
    have h' : i < l.length := by omega
    refine hl _ ?_
    rw [List.getD_eq_getElem?_getD, List.getElem?_eq_getElem h']
    exact List.getElem_mem _
  have HT : Hid (∀ i, i < n → bsl (wor g f) (l.take (i + 1)) = bstep (wor g f) (bsl (wor g f) (l.take i)) (l.getD i 0)) := fun i hi => bsl_take (wor g f) l i (by omega)
  have HA : Hid (bsl (wor g f) (l.take n) = bsl (wor g f) l) := by unfold Hid; rw [hn, bsl_all]
  have d0 := HD.out 0 h0
  have HS : Hid (bsl (wor g f) (l.take 1) = some (l.getD 0 0)) := by unfold Hid; have := HT.out 0 h0; simpa [bsl, bstep] using this
  have hq : ((n : Int) < 1) = False := by simp; omega
  clear hv hv2 hd0 H hl hn hc hcl hf hg hb
  have hx0 := HL.out 0 h0
  generalize l.getD 0 0 = x0 at *
  rw [Nat.add_zero] at d0
  go_enter Try.func39, Try.ntmps39
  go_wp2
  go_loopw [5, 6] (fun v i wr => ∃ j x m : Nat, 1 ≤ j ∧ j ≤ n ∧ x < 5 ∧ i = .int .i64 j ∧ v = .int .i64 x ∧ Hid (bsl (wor g f) (l.take j) = some x) ∧ wr = W.drewN m) (fun _ i _ => n - (intOf i).toNat)
  case atStart => exact ⟨1, x0, 0, by omega, by omega, hx0, rfl, rfl, HS, rfl⟩
  case round =>
    obtain ⟨j, x, m, hj1, hj2, hx, rfl, rfl, HX, rfl⟩ := hrel
    clear d0 HS hx0
    by_cases hlt : j < n
    · have d1 := HD.out j hlt
      have hl5 := HL.out j hlt
      have HN : Hid (bsl (wor g f) (l.take (j + 1)) = bstep (wor g f) (some x) (l.getD j 0)) := by unfold Hid; rw [HT.out j hlt, HX.out]
      have hcall := HC.out (l.getD j 0) x m hl5 hx
      have hpos := cmp_pos (wor g f (l.getD j 0)) (wor g f x)
      have i1 : (0 : Int) ≤ (j : Int) := by omega
      have i2 : (j : Int) < (n : Int) := by omega
      have i3 : IntKind.i64.wrap (j : Int) = j := wraps_i64 _ (by omega) (by omega)
      have HLX := hid hl5
      have HXX := hid hx
      by_cases hw : wor g f x < wor g f (l.getD j 0)
      · rw [decide_eq_true hw] at hpos
        have HN2 : Hid (bsl (wor g f) (l.take (j + 1)) = some (l.getD j 0)) := by unfold Hid; rw [HN.out]; simp only [bstep]; rw [if_pos hw]
        clear hw HN hl5 hx
        generalize cmpI (wor g f (l.getD j 0)) (wor g f x) = R at *
        generalize l.getD j 0 = z at *
        go_wp2_with (go_at_call 40; refine hcall.mono ?_; rintro e y1 ⟨rfl, m2, rfl⟩)
        exact ⟨⟨j + 1, z, m + m2, by omega, by omega, HLX.out, by go_num, rfl, HN2, rfl⟩, by simp [intOf]; omega⟩
      · rw [decide_eq_false hw] at hpos
        have HN2 : Hid (bsl (wor g f) (l.take (j + 1)) = some x) := by unfold Hid; rw [HN.out]; simp only [bstep]; rw [if_neg hw]
        clear hw HN hl5 hx
        generalize cmpI (wor g f (l.getD j 0)) (wor g f x) = R at *
        generalize l.getD j 0 = z at *
        go_wp2_with (go_at_call 40; refine hcall.mono ?_; rintro e y1 ⟨rfl, m2, rfl⟩)
        exact ⟨⟨j + 1, x, m + m2, by omega, by omega, HXX.out, by go_num, rfl, HN2, rfl⟩, by simp [intOf]; omega⟩
    · obtain rfl : j = n := by omega
      have HR : Hid (bsl (wor g f) l = some x) := by unfold Hid; rw [← HA.out]; exact HX.out
      clear HA HX HT HC HD HL hlt
      go_wp2
      go_ret
      exact ⟨x, HR.out, rfl, m, rfl⟩
set_option maxHeartbeats 1000000 in
theorem worthiest_any (s p gb go gc : Nat) (g : List Int) (f : Nat → Nat) (left : Int) (a : Option Addr) (n cap : Nat) (l : List Nat) (W : World) (H : Sh W s p gb go gc g f left) (hf : ∀ b, b < 5 → f b ≤ 12) (hg : gokB g = true) (hl : ∀ b ∈ l, b < 5) (hn : n = l.length) (h0 : 0 < n) (h5 : n ≤ 5) (hv : Rw .i64 W (.slice a n cap) (bdv l)) : Calls Try.prog 34 #[.pointer (some ⟨s, 0, none⟩), .slice a n cap] W fun e w' => ∃ x, bsl (wor g f) l = some x ∧ e = .returned (.int .i64 (x : Nat)) ∧ Below W.heap.size W w' := by
  have hb := below1 W (.cells #[.pointer (some ⟨s, 0, none⟩)] 43)
  have hm := maxf_any s p gb go gc W.heap.size g f left a n cap l (W.alloc (.cells #[.pointer (some ⟨s, 0, none⟩)] 43)) (H.below hb) (by simp [go_sem]) (by simp) hf hg hl hn h0 h5 (hv.below hb)
  clear H hf hg hl hn h0 h5 hv
  go_enter Try.func34, Try.ntmps34
  go_wp2_with (go_at_call 39; refine hm.mono ?_; rintro e y1 ⟨x, hx, rfl, m, rfl⟩)
  go_ret
  exact ⟨x, hx, rfl, drewN_below hb m⟩
end Go.Proofs.Ytlpjkahppogkiaa
