/- Contracts of the document's same and Read. -/
import Derived.Test.YtnlahpnpajadpaaXf
import Derived.Test.YtnlahpnpajadpaaWg
import Derived.Test.YtnlahpnpajadpaaWm
import Derived.BigQuiet
namespace Go.Proofs.Ytnlahpnpajadpaa
open Go.RowKit Go.Maps
set_option linter.unusedVariables false
set_option linter.unusedSimpArgs false

theorem cd_pow {l : List Int} (hb : inB l = true) (ht : takenN l ≤ 65536) (s : Nat) (hs : s < l.length) (h0 : 0 < l.getD s 0) : cd l s < 2 ^ (l.getD s 0).toNat := by
  have h1 := cd_lt l s hs h0
  have hbs := inB_at hb s
  obtain ⟨n, hn⟩ : ∃ n : Nat, l.getD s 0 = n := ⟨_, (Int.toNat_of_nonneg (by omega)).symm⟩
  rw [hn] at h1 hbs h0 ⊢
  rw [Int.toNat_natCast] at h1 ⊢
  have mono : ∀ d, S l (n + 1) ≤ S l (n + 1 + d) := by
    intro d
    induction d with
    | zero => exact Nat.le_refl _
    | succ d ih => exact Nat.le_trans ih (Nat.le_add_right _ _)
  have h2 := mono (16 - n)
  rw [show n + 1 + (16 - n) = 17 by omega, S_taken l hb] at h2
  have e3 : S l (n + 1) = (F l n + l.count (n : Int)) * 2 ^ (16 - n) := by
    simp only [S]
    rw [if_neg (by omega), ← F_S l n (by omega), Nat.add_mul]
  have e4 : (2 : Nat) ^ n * 2 ^ (16 - n) = 65536 := by rw [← Nat.pow_add, show n + (16 - n) = 16 by omega]
  have h5 : (cd l s + 1) * 2 ^ (16 - n) ≤ 2 ^ n * 2 ^ (16 - n) := by
    refine Nat.le_trans (Nat.mul_le_mul_right _ h1) ?_
    omega
  have := Nat.le_of_mul_le_mul_right h5 (Nat.two_pow_pos _)
  omega
theorem cd_pow_right {l : List Int} (hr : rightL l = true) (s : Nat) (hs : s < l.length) (h0 : 0 < l.getD s 0) : cd l s < 2 ^ (l.getD s 0).toNat := by
  obtain ⟨_, _, hb, h1, h2⟩ := right_parts hr
  refine cd_pow hb ?_ s hs h0
  rcases Decidable.em (usedN l = 1) with h | h
  · rw [h1 h]; decide
  · rw [(h2 h).1]; exact Nat.le_refl _

theorem hv_step (V p C n k : Nat) (hk : k < n) (h : hv V p k = C / 2 ^ (n - k)) : (hv V p (k + 1) = C / 2 ^ (n - (k + 1))) ↔ V / 2 ^ (p + k) % 2 = C / 2 ^ (n - 1 - k) % 2 := by
  rw [num_step C n k hk, ← h]
  show 2 * hv V p k + V / 2 ^ (p + k) % 2 = _ ↔ _
  omega
theorem hv_not (V p C n k : Nat) (hk : k ≤ n) (h : hv V p k ≠ C / 2 ^ (n - k)) : hv V p n ≠ C := by
  intro e
  refine h ?_
  rw [← e]
  have := hv_up V p k (n - k)
  rw [show k + (n - k) = n by omega] at this
  exact this.symm

set_option maxHeartbeats 2000000 in
theorem same_far (v1 v2 : Option Addr) (T n c1 c2 p : Nat) (w : World) (hT : T ≤ 1000000) (hn : n ≤ 64) (hp : p ≤ 1000000) (h : T < p + n) :
    Calls Try.prog 33 #[.slice v1 T c1, .int .i64 p, .slice v2 n c2] w fun e w' => e = .returned (.bool false) ∧ w' = w := by
  go_enter Try.func33, Try.ntmps33
  go_wp2
  go_ret
  exact ⟨rfl, rfl⟩
set_option maxHeartbeats 2000000 in
theorem same_near (b1 o1 b2 o2 T n c1 c2 p V C : Nat) (w : World) (hT : T ≤ 1000000) (hn : n ≤ 64) (hp : p + n ≤ T) (hb1 : b1 < w.heap.size) (hb2 : b2 < w.heap.size)
    (hc1 : ∀ i, i < T → w.cell? ⟨b1, o1 + i, none⟩ = some (.int .i64 (bitAt V i))) (hc2 : ∀ i, i < n → w.cell? ⟨b2, o2 + i, none⟩ = some (.int .i64 ((C / 2 ^ (n - 1 - i) % 2 : Nat) : Int))) (hC : C < 2 ^ n) :
    Calls Try.prog 33 #[.slice (some ⟨b1, o1, none⟩) T c1, .int .i64 p, .slice (some ⟨b2, o2, none⟩) n c2] w fun e w' => e = .returned (.bool (decide (hv V p n = C))) ∧ Below w.heap.size w w' := by
  have HC : Hid _ := hC
  clear hC
  go_enter Try.func33, Try.ntmps33
  go_wp2
  go_loopw [7] (fun i wr => ∃ k : Nat, k ≤ n ∧ i = .int .i64 k ∧ Hid (hv V p k = C / 2 ^ (n - k)) ∧ Below w.heap.size w wr) (fun i _ => n - (intOf i).toNat)
  case atStart => exact ⟨0, by omega, rfl, by unfold Hid; rw [Nat.sub_zero, Nat.div_eq_of_lt HC.out]; rfl, Below.refl _ _⟩
  case round =>
    obtain ⟨k, hk, rfl, HV, hnx⟩ := hrel
    by_cases hlt : k < n
    · have g1 := (hnx.cell (p := ⟨b1, o1 + (p + k), none⟩) hb1).trans (hc1 (p + k) (by omega))
      have g2 := (hnx.cell (p := ⟨b2, o2 + k, none⟩) hb2).trans (hc2 k hlt)
      have hst : Hid _ := hv_step V p C n k hlt HV.out
      unfold bitAt at g1
      have i1 : (0 : Int) ≤ (p : Int) + k := by omega
      have i2 : (p : Int) + k < T := by omega
      have i3 : IntKind.i64.wrap ((p : Int) + k) = (p : Int) + k := wraps_i64 _ (by omega) (by omega)
      have i4 : ((p : Int) + k).toNat = p + k := by omega
      by_cases he : V / 2 ^ (p + k) % 2 = C / 2 ^ (n - 1 - k) % 2
      · have hnew : Hid _ := hst.out.2 he
        rw [he] at g1
        generalize C / 2 ^ (n - 1 - k) % 2 = z at g1 g2
        clear hc1 hc2 hst HC he
        go_wp2
        go_quiet (fail)
        go_wp2
        exact ⟨⟨k + 1, by omega, by go_num, hnew, drewN_below _ hnx _⟩, by simp [intOf]; omega⟩
      · have hno : Hid (hv V p n ≠ C) := hv_not V p C n (k + 1) (by omega) (fun e => he (hst.out.1 e))
        generalize V / 2 ^ (p + k) % 2 = y at g1 he
        generalize C / 2 ^ (n - 1 - k) % 2 = z at g2 he
        have hne : (((y : Int)) == ((z : Int))) = false := by simp; omega
        clear hc1 hc2 hst HC
        go_wp2
        go_quiet (fail)
        go_wp2
        go_ret
        exact ⟨ret_bool (decide_eq_false hno.out).symm, drewN_below _ hnx _⟩
    · have : k = n := by omega
      subst this
      have hyes : Hid (hv V p k = C) := by unfold Hid; rw [HV.out, Nat.sub_self, Nat.pow_zero, Nat.div_one]
      clear hlt hc1 hc2 HC HV
      go_wp2
      go_ret
      exact ⟨ret_bool (decide_eq_true hyes.out).symm, hnx⟩
theorem same4_any (v1 v2 : Value) (T n p V C : Nat) (w : World) (h1 : Rw .i64 w v1 (bl V T)) (h2 : Rw .i64 w v2 (sp C n)) (hT : T ≤ 1000000) (hn : n ≤ 64) (hp : p < T) (hC : C < 2 ^ n) (hn0 : 1 ≤ n) :
    Calls Try.prog 33 #[v1, .int .i64 p, v2] w fun e w' => e = .returned (.bool (decide (p + n ≤ T ∧ hv V p n = C))) ∧ Below w.heap.size w w' := by
  obtain ⟨a1, c1, rfl, ha1⟩ := h1
  obtain ⟨a2, c2, rfl, ha2⟩ := h2
  rw [bl_length, sp_len]
  by_cases hfit : p + n ≤ T
  · obtain ⟨b1, o1, rfl, hb1, hc1⟩ := ha1.resolve_left (by intro h; have := bl_length V T; rw [h] at this; simp at this; omega)
    obtain ⟨b2, o2, rfl, hb2, hc2⟩ := ha2.resolve_left (by intro h; have := sp_len C n; rw [h] at this; simp at this; omega)
    refine (same_near b1 o1 b2 o2 T n c1 c2 p V C w hT hn hfit hb1 hb2 (fun i hi => ?_) (fun i hi => ?_) hC).mono ?_
    · rw [hc1 i (by rw [bl_length]; exact hi), bl_getD V T i hi]
    · rw [hc2 i (by rw [sp_len]; exact hi), sp_at C n i hi]
    · rintro e w' ⟨rfl, hb⟩
      exact ⟨by simp [hfit], hb⟩
  · refine (same_far a1 a2 T n c1 c2 p w hT hn (by omega) (by omega)).mono ?_
    rintro e w' ⟨rfl, rfl⟩
    exact ⟨by simp [hfit], Below.refl _ _⟩

/-- How many bits were read. -/
def rdK (l : List Int) (V T p : Nat) : Int := match findS l V T p with | some s => l.getD s 0 | none => 0

set_option maxHeartbeats 1000000 in
theorem rread_arg (v vl : Value) (l : List Int) (p : Int) (w : World) (hvl : Rw .i64 w vl l) (h : rightL l = false ∨ p < 0) :
    Calls Try.prog 22 #[v, .int .i64 p, vl] w fun e w' => e = .returned (.tuple #[.int .i64 0, .int .i64 0, .int .i64 1]) ∧ w' = w := by
  cases hr : rightL l with
  | false =>
    clear h
    go_enter Try.func22, Try.ntmps22
    go_wp2_with (go_at_call 12; refine (rright4_any vl l _ hvl).mono ?_; rintro e w' ⟨rfl, rfl⟩; rw [hr])
    refine bodyPost_ret (v := .tuple #[.int .i64 0, .int .i64 0, .int .i64 1]) (by simp [results, Try.results22, go_sem]) rfl ⟨rfl, rfl⟩
  | true =>
    have hp : p < 0 := by
      rcases h with h | h
      · rw [hr] at h; cases h
      · exact h
    clear h
    go_enter Try.func22, Try.ntmps22
    go_wp2_with (go_at_call 12; refine (rright4_any vl l _ hvl).mono ?_; rintro e w' ⟨rfl, rfl⟩; rw [hr])
    refine bodyPost_ret (v := .tuple #[.int .i64 0, .int .i64 0, .int .i64 1]) (by simp [results, Try.results22, go_sem]) rfl ⟨rfl, rfl⟩

/-- None of the first k symbols lies at the place. -/
def NoneTo (l : List Int) (V T p k : Nat) : Prop := ∀ s, s < k → ¬ Mt l V T p s
theorem NoneTo.next {l : List Int} {V T p k : Nat} (h : NoneTo l V T p k) (hn : ¬ Mt l V T p k) : NoneTo l V T p (k + 1) := fun s hs hm => by
  rcases Nat.lt_or_ge s k with h1 | h1
  · exact h s h1 hm
  · have : s = k := by omega
    subst this; exact hn hm

set_option maxHeartbeats 4000000 in
set_option maxRecDepth 10000 in
theorem rread_ok (v vl : Value) (xs l : List Int) (p : Nat) (w : World) (hx : Byts xs) (hlx : xs.length ≤ 100000) (hvx : Rw .u8 w v xs) (hvl : Rw .i64 w vl l) (hr : rightL l = true) :
    Calls Try.prog 22 #[v, .int .i64 p, vl] w fun e w' => e = .returned (.tuple #[.int .i64 (rdS l (bv xs) (8 * xs.length) p), .int .i64 (rdK l (bv xs) (8 * xs.length) p), .int .i64 (rdE l (bv xs) (8 * xs.length) p)]) ∧ Below w.heap.size w w' := by
  have hl1 := (right_parts hr).1
  have hl2 := (right_parts hr).2.1
  have hvl0 := hvl
  obtain ⟨al, cl, rfl, hal⟩ := hvl
  obtain ⟨bl_, ol, rfl, hbl, hcl⟩ := hal.resolve_left (by intro h0; subst h0; simp at hl1)
  clear hal
  by_cases hpT : 8 * xs.length ≤ p
  · obtain ⟨e1, e2, e3⟩ := rd_none (l := l) (V := bv xs) (T := 8 * xs.length) (p := p) (by rintro s ⟨s1, s2, s3, s4⟩; omega)
    have e4 : rdK l (bv xs) (8 * xs.length) p = 0 := by
      unfold rdK; rw [find_none (by rintro s ⟨s1, s2, s3, s4⟩; omega)]
    rw [if_neg (by omega)] at e3
    have E1 : Hid _ := e1
    have E3 : Hid _ := e3
    have E4 : Hid _ := e4
    clear e1 e2 e3 e4
    go_enter Try.func22, Try.ntmps22
    go_wp2_with (first | (go_at_call 12; refine (rright4_any _ l _ hvl0).mono ?_; rintro e w' ⟨rfl, rfl⟩; rw [hr]) | (go_at_call 28; refine (bits_any _ xs _ hvx hx hlx).mono ?_; rintro e w1 ⟨v1, rfl, hown, hb1⟩; obtain ⟨a1, c1, rfl, _⟩ := owns_open hown))
    refine bodyPost_ret (v := .tuple #[.int .i64 0, .int .i64 0, .int .i64 4]) (by simp [results, Try.results22, go_sem]) rfl ⟨by rw [E1.out, E3.out, E4.out], hb1⟩
  · have HR : Hid _ := hr
    go_enter Try.func22, Try.ntmps22
    go_wp2_with (first | (go_at_call 12; refine (rright4_any _ l _ hvl0).mono ?_; rintro e w' ⟨rfl, rfl⟩; rw [hr]) | (go_at_call 28; refine (bits_any _ xs _ hvx hx hlx).mono ?_; rintro e w1 ⟨v1, rfl, hown, hb1⟩; obtain ⟨a1, c1, rfl, _⟩ := owns_open hown))
    have hrow := Rw.of_owns hown
    clear hown
    go_loopw [10, 11] (fun o i wr => ∃ k u : Nat, k ≤ l.length ∧ i = .int .i64 k ∧ o = .int .i64 u ∧ u ≤ 64 ∧ Hid (u = usedN (l.take k)) ∧ Hid (NoneTo l (bv xs) (8 * xs.length) p k) ∧ Below w1.heap.size w1 wr) (fun _ i _ => l.length - (intOf i).toNat)
    case atStart => exact ⟨0, 0, by omega, rfl, rfl, by omega, by unfold Hid; rfl, fun s hs => by omega, Below.refl _ _⟩
    case round =>
      obtain ⟨k, u, hk, rfl, rfl, hu, HU, HN, hnx⟩ := hrel
      have hBw := bthen hb1 hnx hb1.size
      by_cases hlt : k < l.length
      · have g := (hBw.cell (p := ⟨bl_, ol + k, none⟩) hbl).trans (hcl k hlt)
        have hut := used_take l k hlt
        rw [← HU.out] at hut
        by_cases h0 : 0 < l.getD k 0
        · rw [if_pos h0] at hut
          have HU2 : Hid _ := hut.symm
          have hu2 : u + 1 ≤ 64 := by
            rw [HU2.out]
            exact Nat.le_trans (used_le _) (by rw [List.length_take]; omega)
          have hcd := code_any _ l k wr (hvl0.below hBw) HR.out hlt h0
          have hpw := cd_pow_right HR.out k hlt h0
          have hb16 := inB_at (right_parts HR.out).2.2.1 k
          have hMt : Hid (Mt l (bv xs) (8 * xs.length) p k ↔ (p + (l.getD k 0).toNat ≤ 8 * xs.length ∧ hv (bv xs) p (l.getD k 0).toNat = cd l k)) := ⟨fun h => ⟨h.2.2.1, h.2.2.2⟩, fun h => ⟨hlt, h0, h.1, h.2⟩⟩
          have hrdk : Hid (Mt l (bv xs) (8 * xs.length) p k → rdK l (bv xs) (8 * xs.length) p = l.getD k 0 ∧ rdS l (bv xs) (8 * xs.length) p = k ∧ rdE l (bv xs) (8 * xs.length) p = 0) := fun h => by
            obtain ⟨e1, e2, e3⟩ := rd_some h
            refine ⟨?_, e1, e3⟩
            unfold rdK; rw [find_some h]
          generalize l.getD k 0 = x at g h0 hcd hpw hb16 hMt hrdk
          obtain ⟨n, rfl⟩ := Int.eq_ofNat_of_zero_le hb16.1
          rw [Int.toNat_natCast] at hcd hpw hMt
          generalize cd l k = C at hcd hpw hMt
          clear hut HU
          have hpw2 : Hid _ := hpw
          clear hpw
          by_cases hm : p + n ≤ 8 * xs.length ∧ hv (bv xs) p n = C
          · have hd : decide (p + n ≤ 8 * xs.length ∧ hv (bv xs) p n = C) = true := decide_eq_true hm
            obtain ⟨e1, e2, e3⟩ := hrdk.out (hMt.out.2 hm)
            have E1 : Hid _ := e1
            have E2 : Hid _ := e2
            have E3 : Hid _ := e3
            clear e1 e2 e3 hrdk hMt hm
            go_wp2_with (first | (go_at_call 15; refine hcd.mono ?_; rintro e w2 ⟨v2, rfl, hown2, hb2⟩; obtain ⟨a2, c2, rfl, _⟩ := owns_open hown2) | (go_at_call 33; refine (same4_any _ _ (8 * xs.length) n p (bv xs) C w2 ((hrow.below hnx).below hb2) (Rw.of_owns hown2) (by omega) (by omega) (by omega) hpw2.out (by omega)).mono ?_; rintro e w3 ⟨rfl, hb3⟩; rw [hd]))
            refine bodyPost_ret (v := .tuple #[.int .i64 k, .int .i64 n, .int .i64 0]) (by simp [results, Try.results22, go_sem]) rfl ⟨by rw [E1.out, E2.out, E3.out], ?_⟩
            exact bthen (bthen hBw hb2 hBw.size) hb3 (Nat.le_trans hBw.size hb2.size)
          · have hd : decide (p + n ≤ 8 * xs.length ∧ hv (bv xs) p n = C) = false := decide_eq_false hm
            have HN2 : Hid _ := HN.out.next (fun h => hm (hMt.out.1 h))
            clear hrdk hMt hm
            go_wp2_with (first | (go_at_call 15; refine hcd.mono ?_; rintro e w2 ⟨v2, rfl, hown2, hb2⟩; obtain ⟨a2, c2, rfl, _⟩ := owns_open hown2) | (go_at_call 33; refine (same4_any _ _ (8 * xs.length) n p (bv xs) C w2 ((hrow.below hnx).below hb2) (Rw.of_owns hown2) (by omega) (by omega) (by omega) hpw2.out (by omega)).mono ?_; rintro e w3 ⟨rfl, hb3⟩; rw [hd]))
            exact ⟨⟨k + 1, u + 1, by omega, by go_num, by go_num, hu2, HU2, HN2, bthen (bthen hnx hb2 hnx.size) hb3 (Nat.le_trans hnx.size hb2.size)⟩, by simp [intOf]; omega⟩
        · rw [if_neg h0] at hut
          have HU2 : Hid _ := hut.symm
          have HN2 : Hid _ := HN.out.next (fun h => h0 h.2.1)
          generalize l.getD k 0 = x at g h0
          clear hut HU
          go_wp2
          exact ⟨⟨k + 1, u, by omega, by go_num, rfl, hu, HU2, HN2, hnx⟩, by simp [intOf]; omega⟩
      · have : k = l.length := by omega
        subst this
        have hnone : ∀ s, ¬ Mt l (bv xs) (8 * xs.length) p s := fun s h => HN.out s h.1 h
        obtain ⟨e1, e2, e3⟩ := rd_none hnone
        have e4 : rdK l (bv xs) (8 * xs.length) p = 0 := by unfold rdK; rw [find_none hnone]
        have hul : u = usedN l := by rw [HU.out, List.take_length]
        rw [← hul] at e3
        have E1 : Hid _ := e1
        have E4 : Hid _ := e4
        by_cases h1 : u = 1
        · rw [if_pos ⟨h1, by omega⟩] at e3
          have E3 : Hid _ := e3
          subst h1
          clear e1 e2 e3 e4 hlt HN HU hul
          go_wp2
          refine bodyPost_ret (v := .tuple #[.int .i64 0, .int .i64 0, .int .i64 2]) (by simp [results, Try.results22, go_sem]) rfl ⟨by rw [E1.out, E4.out, E3.out], hBw⟩
        · rw [if_neg (by omega)] at e3
          have E3 : Hid _ := e3
          clear e1 e2 e3 e4 hlt HN HU hul
          go_wp2
          refine bodyPost_ret (v := .tuple #[.int .i64 0, .int .i64 0, .int .i64 4]) (by simp [results, Try.results22, go_sem]) rfl ⟨by rw [E1.out, E4.out, E3.out], hBw⟩
end Go.Proofs.Ytnlahpnpajadpaa
