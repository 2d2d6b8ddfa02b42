/- Contracts: gains for each channel, all channels' pulses, by the program. -/
import Derived.Test.YtlpjkahppogkiaaKf
namespace Go.Proofs.Ytlpjkahppogkiaa
open Go.RowKit
set_option linter.unusedVariables false
set_option linter.unusedSimpArgs false

/-- Are these gains for each channel? -/
def fairG (c : Int) (L : List (List Int)) : Bool := decide ((L.length : Int) = c) && (List.range L.length).all fun i => gokB (L.getD i [])
theorem fair_iff {c : Int} {L : List (List Int)} : fairG c L = true ↔ (L.length : Int) = c ∧ ∀ i, i < L.length → gokB (L.getD i []) = true := by
  unfold fairG
  rw [Bool.and_eq_true, decide_eq_true_eq, List.all_eq_true]
  constructor
  · exact fun h => ⟨h.1, fun i hi => h.2 i (List.mem_range.2 hi)⟩
  · exact fun h => ⟨h.1, fun i hi => h.2 i (List.mem_range.1 hi)⟩
theorem fair_no {c : Int} {L : List (List Int)} (h : ¬ ((L.length : Int) = c ∧ ∀ i, i < L.length → gokB (L.getD i []) = true)) : fairG c L = false := by
  cases hb : fairG c L
  · rfl
  · exact absurd (fair_iff.1 hb) h

set_option maxHeartbeats 1000000 in
theorem rgains_any {ok : Bool} (c : Int) (a : Option Addr) (n cap : Nat) (L : List (List Int)) (w : World) (hn : L.length = n) (hmax : n ≤ 9223372036854775807) (hv : Fr ok w (.slice a n cap) L) : Calls Try.prog 24 #[.int .i64 c, .slice a n cap] w fun e w' => e = .returned (.bool (fairG c L)) ∧ w' = w := by
  by_cases hc : (n : Int) = c
  · subst hc
    have HYES : Hid ((∀ i, i < n → gokB (L.getD i []) = true) → fairG n L = true) := fun h => fair_iff.2 ⟨by omega, fun i hi => h i (by omega)⟩
    have HNO : Hid (∀ i, i < n → gokB (L.getD i []) = false → fairG n L = false) := fun i hi h => fair_no fun hh => by have := hh.2 i (by omega); rw [h] at this; cases this
    have HAT : Hid (∀ i, i < n → ∃ b off, a = some ⟨b, off, none⟩ ∧ b < w.heap.size ∧ ∃ ra rc, w.cell? ⟨b, off + i, none⟩ = some (.slice ra (L.getD i []).length rc) ∧ (ok = true → (L.getD i []).length ≤ rc) ∧ Rw .i64 w (.slice ra (L.getD i []).length rc) (L.getD i [])) := fun i hi => hv.at i hi
    generalize fairG n L = R at *
    clear hn hv
    go_enter Try.func24, Try.ntmps24
    go_wp2
    go_loop [13] (fun i => ∃ k : Nat, k ≤ n ∧ i = .int .i64 (k : Nat) ∧ Hid (∀ j, j < k → gokB (L.getD j []) = true)) (fun i => n - (intOf i).toNat)
    case atStart => exact ⟨0, by omega, rfl, fun j hj => by omega⟩
    case round =>
      obtain ⟨k, hk, rfl, HP⟩ := hrel
      by_cases hlt : k < n
      · obtain ⟨b, off, rfl, hb, ra, rc, hc1, _, hrw⟩ := HAT.out k hlt
        have hr := right_any ra _ rc _ rfl w hrw
        have i1 : (0 : Int) ≤ (k : Int) := by omega
        have i2 : (k : Int) < (n : Int) := by omega
        have i3 : IntKind.i64.wrap (k : Int) = k := wraps_i64 _ (by omega) (by omega)
        by_cases hg : gokB (L.getD k []) = true
        · have HP2 : Hid (∀ j, j < k + 1 → gokB (L.getD j []) = true) := fun j hj => by
            by_cases e : j < k
            · exact HP.out j e
            · obtain rfl : j = k := by omega
              exact hg
          rw [hg] at hr
          clear hg HAT hrw
          generalize (L.getD k []).length = m at *
          go_wp2_with (go_at_call 30; refine hr.mono ?_; rintro e w9 ⟨rfl, h9⟩; have h9 := h9.symm; subst h9)
          exact ⟨⟨k + 1, by omega, by go_num, HP2⟩, by simp [intOf]; omega⟩
        · have hg' : gokB (L.getD k []) = false := by simpa using hg
          have HR := hid (HNO.out k hlt hg')
          rw [hg'] at hr
          clear hg hg' HAT hrw HNO HYES HP
          generalize (L.getD k []).length = m at *
          go_wp2_with (go_at_call 30; refine hr.mono ?_; rintro e w9 ⟨rfl, h9⟩; have h9 := h9.symm; subst h9)
          go_ret
          exact ⟨ret_bool HR.out.symm, rfl⟩
      · obtain rfl : k = n := by omega
        have HR := hid (HYES.out HP.out)
        clear HAT hlt HYES HNO HP
        go_wp2
        go_ret
        exact ⟨ret_bool HR.out.symm, rfl⟩
  · have hR : fairG c L = false := fair_no fun h => hc (by omega)
    have hc' : ((n : Int) != c) = true := by simp; exact hc
    rw [hR]
    clear hR hc hv hn
    go_enter Try.func24, Try.ntmps24
    go_wp2
    go_ret
    exact ⟨rfl, rfl⟩

/-- Pulses are told of no other shape and gains. -/
theorem pulses_no {ok : Bool} (n c : Int) (a : Option Addr) (m cap : Nat) (L : List (List Int)) (w : World) (hm : L.length = m) (hmax : m ≤ 9223372036854775807) (hv : Fr ok w (.slice a m cap) L) (h : (rtB n c && fairG c L) = false) : Calls Try.prog 15 #[.int .i64 n, .int .i64 c, .slice a m cap] w fun e w' => e = .returned (.tuple #[.slice none 0 0, .int .i64 1]) ∧ w' = w := by
  have hr := fun w => aright_any n c w
  have hg := rgains_any c a m cap L w hm hmax hv
  cases h1 : rtB n c
  · rw [h1] at hr
    clear h h1 hg hv hm
    go_enter Try.func15, Try.ntmps15
    go_wp2_with (go_at_call 9; refine (hr _).mono ?_; rintro e w9 ⟨rfl, h9⟩; have h9 := h9.symm; subst h9)
    go_ret2
    exact ⟨rfl, rfl⟩
  · rw [h1] at hr h
    rw [show fairG c L = false from h] at hg
    clear h h1 hv hm
    go_enter Try.func15, Try.ntmps15
    go_wp2_with (first | (go_at_call 9; refine (hr _).mono ?_; rintro e w9 ⟨rfl, h9⟩; have h9 := h9.symm; subst h9) | (go_at_call 24; refine hg.mono ?_; rintro e w8 ⟨rfl, h8⟩; have h8 := h8.symm; subst h8))
    go_ret2
    exact ⟨rfl, rfl⟩
/-- The pulses of a channel, as a list. -/
def pul (room : Int) (L : List (List Int)) (i : Nat) : List Int := pls (chan (L.getD i []) room)

set_option maxHeartbeats 4000000 in
theorem pulses_ok {ok : Bool} (n : Int) (c : Nat) (a : Option Addr) (cap : Nat) (L : List (List Int)) (w : World) (hv : Fr ok w (.slice a c cap) L) (h : rtB n c = true) (hf : fairG c L = true) : Calls Try.prog 15 #[.int .i64 n, .int .i64 c, .slice a c cap] w fun e w' => ∃ G, e = .returned (.tuple #[.slice (some ⟨G, 0, none⟩) c c, .int .i64 0]) ∧ Fr true w' (.slice (some ⟨G, 0, none⟩) c c) ((List.range c).map (pul (rmI n c) L)) ∧ Below w.heap.size w w' := by
  obtain ⟨i1, hi1, hy0, hy1, hy2⟩ := info_parts (show (Try.prog.info? 34).map (fun i => (i.zero, i.size, i.bytes)) = some (some (.slice none 0 0), 1, 24) by kernel_rfl)
  obtain ⟨hl, hall⟩ := fair_iff.1 hf
  have hl : L.length = c := by omega
  have hr := fun w => aright_any n c w
  have hg := fun w hv => rgains_any (ok := ok) c a c cap L w hl (by rcases rt_parts h with h | h <;> omega) hv
  have hro := fun w => room_any n c w
  rw [h] at hr
  rw [hf] at hg
  have hc12 : 1 ≤ c ∧ c ≤ 2 := by rcases rt_parts h with h | h <;> omega
  obtain ⟨c1, c2⟩ := hc12
  have hrm := rm_bd n c
  have HALL : Hid (∀ i, i < c → gokB (L.getD i []) = true) := fun i hi => hall i (by omega)
  have HP : Hid (∀ i, pul (rmI n c) L i = pls (chan (L.getD i []) (rmI n c))) := fun _ => rfl
  have HV := hid hv
  have hg1 := hg w hv
  generalize pul (rmI n c) L = fr at *
  generalize rmI n c = room at *
  clear h hf hl hall hg
  go_enter Try.func15, Try.ntmps15
  go_wp2_with (first | (go_at_call 9; refine (hr _).mono ?_; rintro e w9 ⟨rfl, h9⟩; have h9 := h9.symm; subst h9) | (go_at_call 24; refine hg1.mono ?_; rintro e w8 ⟨rfl, h8⟩; have h8 := h8.symm; subst h8) | (at_make; refine wpList_make_full _ rfl _ _ 25 rfl w.heap.size 34 i1 (.slice none 0 0) 1 Try.underlying25 hi1 hy0 hy1 .i64 .i64 _ _ c rfl rfl (by omega) (by omega) (by rw [hy2]; omega) (by unfold maxLen; omega) (by simp) ?_))
  intro w5 hown5 hgrow5
  have hb5 := grown_of_none hgrow5
  have HF0 : Hid (Fg 34 w5 w.heap.size c fr 0) := Fg.made hown5
  have HB5 := hid hb5
  clear hown5 hgrow5 hb5 hv hg1 hr
  go_wp2
  go_loopw [24] (fun p wr => ∃ i : Nat, i ≤ c ∧ p = .int .i64 i ∧ Hid (Fg 34 wr w.heap.size c fr i) ∧ Hid (Below w.heap.size w wr)) (fun p _ => c - (intOf p).toNat)
  case atStart => exact ⟨0, by omega, rfl, HF0, HB5⟩
  case round =>
    obtain ⟨i, hi2, rfl, HFG, HBW⟩ := hrel
    clear HF0 HB5
    by_cases hlt : i < c
    · obtain ⟨b, off, rfl, hb, ra, rc, hc1, _, hrw⟩ := (HV.out.below HBW.out).at i hlt
      have hlen := gok_len (HALL.out i hlt)
      rw [hlen] at hc1 hrw
      have hsp := fun w' (h : Below wr.heap.size wr w') => spend_any ra rc (L.getD i []) room w' (HALL.out i hlt) (hrw.below h) hrm.1 (by omega)
      have HFI : Hid (fr i = pls (chan (L.getD i []) room)) := HP.out i
      have HIC : Hid (i < c) := hlt
      have j1 : (0 : Int) ≤ (i : Int) := by omega
      have j2 : (i : Int) < (c : Int) := by omega
      have j3 : IntKind.i64.wrap (i : Int) = i := wraps_i64 _ (by omega) (by omega)
      rw [← HFI.out] at hsp
      clear hlen hrw
      generalize L.getD i [] = g at *
      go_wp2
      go_region_with (first | (go_at_call 11; refine (hro _).mono ?_; rintro e w9 ⟨rfl, h9⟩; have h9 := h9.symm; subst h9) | (go_at_call 25; refine (hsp _ (by first | exact (Below.refl _ _).drew | exact Below.refl _ _)).mono ?_; rintro e y1 ⟨G, rfl, hG, hB1, e1⟩; have hy1 : Below wr.heap.size wr y1 := (by first | exact drew_below e1 | exact e1); have HFG2 := hid (HFG.out.below hy1); obtain ⟨r2, hc2, hf2⟩ := HFG2.out.cell i HIC.out; have HB1 := hid hB1; have HY1 := hid hy1; have hG2 : wr.heap.size ≤ G := hG))
      all_goals go_wp2
      all_goals exact ⟨⟨i + 1, by omega, by go_num, HFG2.out.put HIC.out (Rx.of_blk HB1.out (by rw [HFI.out]; exact pls_len _) (Nat.le_refl _) (fun e => by have e2 := Option.some.inj e; have e3 := HFG.out.lt; omega)), bset1 (bthen' HBW.out HY1.out) w.heap.size i _ (Nat.le_refl _)⟩, by simp [intOf]; omega⟩
    · obtain rfl : i = c := by omega
      have HR := hid (Fg.fr (cc := i) HFG.out)
      clear hlt HFG HV
      go_wp2
      go_ret2
      exact ⟨_, rfl, HR.out, HBW.out⟩
end Go.Proofs.Ytlpjkahppogkiaa
