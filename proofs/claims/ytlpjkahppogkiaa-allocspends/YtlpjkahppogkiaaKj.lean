/- Contracts: all channels' pulses, gains for each channel, lists that are the same, more than is looked at, by the document. -/
import Derived.Test.YtlpjkahppogkiaaKi
namespace Go.Proofs.Ytlpjkahppogkiaa
open Go.RowKit
set_option linter.unusedVariables false
set_option linter.unusedSimpArgs false

theorem info_row : (Try.prog.info? 34).map (fun i => (i.zero, i.size, i.bytes)) = some (some (.slice none 0 0), 1, 24) := by kernel_rfl

set_option maxHeartbeats 4000000 in
theorem rpulses_any {ok : Bool} (n : Int) (c : Nat) (a : Option Addr) (cap : Nat) (L : List (List Int)) (w : World) (hv : Fr ok w (.slice a c cap) L) (h : rtB n c = true) (hf : fairG c L = true) : Calls Try.prog 18 #[.int .i64 n, .int .i64 c, .slice a c cap] w fun e w' => ∃ v, e = .returned v ∧ Fr false w' v ((List.range c).map (pul (rmI n c) L)) ∧ Below w.heap.size w w' := by
  obtain ⟨i0, hi, hz0, hz1, hz2⟩ := info_parts info_row
  obtain ⟨hl, hall⟩ := fair_iff.1 hf
  have hl : L.length = c := by omega
  have hro := fun w => rroom_any n c w
  obtain ⟨c1, c2⟩ : 1 ≤ c ∧ c ≤ 2 := by rcases rt_parts h with h | h <;> omega
  have hrm := rm_bd n c
  have HALL : Hid (∀ i, i < c → gokB (L.getD i []) = true) := fun i hi => hall i (by omega)
  have HP : Hid (∀ i, pul (rmI n c) L i = pls (chan (L.getD i []) (rmI n c))) := fun _ => rfl
  have HV := hid hv
  generalize pul (rmI n c) L = fr at *
  generalize rmI n c = room at *
  clear h hf hl hall hv
  go_enter Try.func18, Try.ntmps18
  go_wp2
  go_loopw [7, 8] (fun u p wr => ∃ (i : Nat) (vs : List Value) (oa : Option Addr) (oc : Nat), i ≤ c ∧ p = .int .i64 i ∧ u = .slice oa i oc ∧ Hid (Fo 34 w.heap.size wr (.slice oa i oc) i vs fr) ∧ Hid (Below w.heap.size w wr)) (fun _ p _ => c - (intOf p).toNat)
  case atStart => exact ⟨0, [], none, 0, by omega, rfl, rfl, Fo.nil _ _ _, Below.refl _ _⟩
  case round =>
    obtain ⟨i, vs, oa, oc, hi2, rfl, rfl, HFO, HBW⟩ := hrel
    by_cases hlt : i < c
    · obtain ⟨b, off, rfl, hb, ra, rc, hc1, _, hrw⟩ := HV.out.at i hlt
      have hlen := gok_len (HALL.out i hlt)
      rw [hlen] at hc1 hrw
      have hch := fun w' (h : Below w.heap.size w w') => rchannel_any ra rc (L.getD i []) room w' (HALL.out i hlt) (hrw.below h) hrm.1
      have HFI : Hid (fr i = pls (chan (L.getD i []) room)) := HP.out i
      have hfl : (fr i).length = 5 := by rw [HFI.out]; exact pls_len _
      have HFL := hid hfl
      rw [← HFI.out] at hch
      have HIC : Hid (i < c) := hlt
      have j1 : (0 : Int) ≤ (i : Int) := by omega
      have j2 : (i : Int) < (c : Int) := by omega
      have j3 : IntKind.i64.wrap (i : Int) = i := wraps_i64 _ (by omega) (by omega)
      have m1 : i + 1 ≤ maxLen := by unfold maxLen; omega
      have m2 : (i + 1) * 24 ≤ 140737488355328 := by omega
      have z1 := HBW.out.size
      have hK : ∀ w', Below w.heap.size w w' → w'.cell? ⟨b, off + i, none⟩ = some (.slice ra 5 rc) := fun w' h => ((bcell h).1 _ _ hb).trans hc1
      clear hlen hrw hfl hc1
      generalize L.getD i [] = g at *
      go_wp2
      go_region_held3 (fun w' => w'.cell? ⟨b, off + i, none⟩ = some (.slice ra 5 rc)) (first | exact hK _ hy3 | exact hK _ (bthen' hyw (below1 _ _)) | exact hK _ hyw | exact hK _ HBW.out.drew | exact hK _ HBW.out) (first | (go_at_call 12; refine (hro _).mono ?_; rintro e w9 ⟨rfl, h9⟩; have h9 := h9.symm; subst h9) | (go_at_call 27; refine (hch _ (by first | exact HBW.out.drew | exact HBW.out)).mono ?_; rintro e y1 ⟨G, c3, rfl, hG, hH1, e1⟩; have hy1 : Below wr.heap.size wr y1 := (by first | exact drew_below e1 | exact e1); have hyw := bthen' HBW.out hy1; have hownN := owns_new (owns_below HFO.out.1 hy1) (.cells #[.slice (some ⟨G, 0, none⟩) 5 c3] 34); have hm3 : w.heap.size ≤ (y1.alloc (.cells #[.slice (some ⟨G, 0, none⟩) 5 c3] 34)).drew.heap.size := (by have := hy1.size; simp; omega)) | (refine step_append_lies _ (by rfl) (.tmp 15) (.tmp 24) 25 (by rfl) w.heap.size 34 i0 (.slice none 0 0) 1 24 Try.underlying25 hi hz0 hz1 hz2 rfl (by decide) (.slice oa i oc) i vs (by rfl) hownN ⟨y1.heap.size, 0, none⟩ 1 1 [.slice (some ⟨G, 0, none⟩) 5 c3] (by rfl) rfl (cell_one_drew y1 _ _) (one_slice _ _ _) (by decide) m1 m2 hm3 (y1.heap.size + 1) (by simp) ?_; intro g3 c4 w3 hown3 hgrow3 hat3 hlt3; have hy3 : Below w.heap.size w w3 := (hyw.alloc hyw.size _).grown hgrow3 hm3 (fun q hq => (HFO.out.1.lt q hq).1)))
      go_wp2
      have HR : Hid (RwF wr.heap.size .i64 y1 (.slice (some ⟨G, 0, none⟩) 5 c3) (fr i)) := by
        have h := hH1.lt
        refine ⟨_, c3, by rw [HFL.out], .inr ⟨G, 0, rfl, hG, h, fun q hq => by rw [Nat.zero_add]; exact hH1.cell q hq⟩⟩
      have HF3 := hid (HFO.out.push hy1 HR.out hown3 hgrow3 hat3)
      exact ⟨⟨i + 1, _, _, _, by omega, by go_num, rfl, HF3, hy3⟩, by simp [intOf]; omega⟩
    · obtain rfl : i = c := by omega
      have HR := hid HFO.out.fr
      go_wp2
      go_ret
      exact ⟨_, rfl, HR.out, HBW.out⟩

set_option maxHeartbeats 1000000 in
theorem rfair_any {ok : Bool} (c : Int) (a : Option Addr) (n cap : Nat) (L : List (List Int)) (w : World) (hn : L.length = n) (hmax : n ≤ 20) (hsm : ∀ i, i < n → (L.getD i []).length ≤ 100) (hv : Fr ok w (.slice a n cap) L) : Calls Try.prog 16 #[.int .i64 c, .slice a n cap] w fun e w' => e = .returned (.bool (fairG c L)) ∧ w' = w := by
  by_cases hc : (n : Int) = c
  · subst hc
    have HYES : Hid ((∀ i, i < n → gokB (L.getD i []) = true) → fairG n L = true) := fun h => fair_iff.2 ⟨by omega, fun i hi => h i (by omega)⟩
    have HNO : Hid (∀ i, i < n → gokB (L.getD i []) = false → fairG n L = false) := fun i hi h => fair_no fun hh => by have := hh.2 i (by omega); rw [h] at this; cases this
    have HAT : Hid (∀ i, i < n → ∃ b off, a = some ⟨b, off, none⟩ ∧ b < w.heap.size ∧ ∃ ra rc, w.cell? ⟨b, off + i, none⟩ = some (.slice ra (L.getD i []).length rc) ∧ (ok = true → (L.getD i []).length ≤ rc) ∧ Rw .i64 w (.slice ra (L.getD i []).length rc) (L.getD i [])) := fun i hi => hv.at i hi
    have HSM := hid hsm
    generalize fairG n L = R at *
    clear hn hv hsm
    go_enter Try.func16, Try.ntmps16
    go_wp2
    go_loop [5] (fun i => ∃ k : Nat, k ≤ n ∧ i = .int .i64 (k : Nat) ∧ Hid (∀ j, j < k → gokB (L.getD j []) = true)) (fun i => n - (intOf i).toNat)
    case atStart => exact ⟨0, by omega, rfl, fun j hj => by omega⟩
    case round =>
      obtain ⟨k, hk, rfl, HP⟩ := hrel
      by_cases hlt : k < n
      · obtain ⟨b, off, rfl, hb, ra, rc, hc1, _, hrw⟩ := HAT.out k hlt
        have hr := rright_any ra _ rc _ rfl (HSM.out k hlt) w hrw
        have i1 : (0 : Int) ≤ (k : Int) := by omega
        have i2 : (k : Int) < (n : Int) := by omega
        have i3 : IntKind.i64.wrap (k : Int) = k := wraps_i64 _ (by omega) (by omega)
        by_cases hg : gokB (L.getD k []) = true
        · have HP2 : Hid (∀ j, j < k + 1 → gokB (L.getD j []) = true) := fun j hj => by
            by_cases e : j < k
            · exact HP.out j e
            · obtain rfl : j = k := by omega
              exact hg
          rw [hg] at hr
          clear hg HAT hrw
          generalize (L.getD k []).length = m at *
          go_wp2_with (go_at_call 26; refine hr.mono ?_; rintro e w9 ⟨rfl, h9⟩; have h9 := h9.symm; subst h9)
          exact ⟨⟨k + 1, by omega, by go_num, HP2⟩, by simp [intOf]; omega⟩
        · have hg' : gokB (L.getD k []) = false := by simpa using hg
          have HR := hid (HNO.out k hlt hg')
          rw [hg'] at hr
          clear hg hg' HAT hrw HNO HYES HP
          generalize (L.getD k []).length = m at *
          go_wp2_with (go_at_call 26; refine hr.mono ?_; rintro e w9 ⟨rfl, h9⟩; have h9 := h9.symm; subst h9)
          go_ret
          exact ⟨ret_bool HR.out.symm, rfl⟩
      · obtain rfl : k = n := by omega
        have HR := hid (HYES.out HP.out)
        clear HAT hlt HYES HNO HP
        go_wp2
        go_ret
        exact ⟨ret_bool HR.out.symm, rfl⟩
  · have hR : fairG c L = false := fair_no fun h => hc (by omega)
    have hc' : ((n : Int) != c) = true := by simp; exact hc
    rw [hR]
    clear hR hc hv hn hsm
    go_enter Try.func16, Try.ntmps16
    go_wp2
    go_ret
    exact ⟨rfl, rfl⟩

/-- More than is looked at? -/
def greatG (L : List (List Int)) : Bool := decide (20 < L.length) || (List.range L.length).any fun i => decide (100 < (L.getD i []).length)
theorem great_no {L : List (List Int)} (h : greatG L = false) : L.length ≤ 20 ∧ ∀ i, i < L.length → (L.getD i []).length ≤ 100 := by
  unfold greatG at h
  rw [Bool.or_eq_false_iff, decide_eq_false_iff_not] at h
  refine ⟨by omega, fun i hi => ?_⟩
  have := List.any_eq_false.1 h.2 i (List.mem_range.2 hi)
  simp only [decide_eq_true_eq] at this
  omega
theorem great_at {L : List (List Int)} {i : Nat} (hi : i < L.length) (h : 100 < (L.getD i []).length) : greatG L = true := by
  unfold greatG
  rw [Bool.or_eq_true]
  exact .inr (List.any_eq_true.2 ⟨i, List.mem_range.2 hi, decide_eq_true h⟩)
theorem great_len {L : List (List Int)} (h : ∀ i, i < L.length → (L.getD i []).length ≤ 100) : greatG L = decide (20 < L.length) := by
  unfold greatG
  have : ((List.range L.length).any fun i => decide (100 < (L.getD i []).length)) = false := by
    rw [List.any_eq_false]
    intro i hi
    have := h i (List.mem_range.1 hi)
    simp only [decide_eq_true_eq]
    omega
  rw [this, Bool.or_false]
set_option maxHeartbeats 1000000 in
theorem great_any {ok : Bool} (a : Option Addr) (n cap : Nat) (L : List (List Int)) (w : World) (hn : L.length = n) (hmax : n ≤ 9223372036854775807) (hv : Fr ok w (.slice a n cap) L) : Calls Try.prog 14 #[.slice a n cap] w fun e w' => e = .returned (.bool (greatG L)) ∧ w' = w := by
  have HYES : Hid (∀ i, i < n → 100 < (L.getD i []).length → greatG L = true) := fun i hi h => great_at (by omega) h
  have HNO : Hid ((∀ i, i < n → (L.getD i []).length ≤ 100) → greatG L = decide (20 < (n : Int))) := fun h => by
    rw [great_len (fun i hi => h i (by omega)), hn]
    exact decide_eq_decide.2 (by omega)
  have HAT : Hid (∀ i, i < n → ∃ b off, a = some ⟨b, off, none⟩ ∧ b < w.heap.size ∧ ∃ ra rc, w.cell? ⟨b, off + i, none⟩ = some (.slice ra (L.getD i []).length rc) ∧ (ok = true → (L.getD i []).length ≤ rc) ∧ Rw .i64 w (.slice ra (L.getD i []).length rc) (L.getD i [])) := fun i hi => hv.at i hi
  generalize greatG L = R at *
  clear hn hv
  go_enter Try.func14, Try.ntmps14
  go_wp2
  go_loop [3] (fun i => ∃ k : Nat, k ≤ n ∧ i = .int .i64 (k : Nat) ∧ Hid (∀ j, j < k → (L.getD j []).length ≤ 100)) (fun i => n - (intOf i).toNat)
  case atStart => exact ⟨0, by omega, rfl, fun j hj => by omega⟩
  case round =>
    obtain ⟨k, hk, rfl, HP⟩ := hrel
    by_cases hlt : k < n
    · obtain ⟨b, off, rfl, hb, ra, rc, hc1, _, _⟩ := HAT.out k hlt
      have i1 : (0 : Int) ≤ (k : Int) := by omega
      have i2 : (k : Int) < (n : Int) := by omega
      have i3 : IntKind.i64.wrap (k : Int) = k := wraps_i64 _ (by omega) (by omega)
      by_cases hg : 100 < (L.getD k []).length
      · have HR := hid (HYES.out k hlt hg)
        have k1 : decide ((100 : Int) < ((L.getD k []).length : Int)) = true := decide_eq_true (by omega)
        clear hg HAT HYES HNO HP
        generalize (L.getD k []).length = m at *
        go_wp2
        go_ret
        exact ⟨ret_bool HR.out.symm, rfl⟩
      · have HP2 : Hid (∀ j, j < k + 1 → (L.getD j []).length ≤ 100) := fun j hj => by
          by_cases e : j < k
          · exact HP.out j e
          · obtain rfl : j = k := by omega
            omega
        have k1 : decide ((100 : Int) < ((L.getD k []).length : Int)) = false := decide_eq_false (by omega)
        clear hg HAT HYES HP
        generalize (L.getD k []).length = m at *
        go_wp2
        exact ⟨⟨k + 1, by omega, by go_num, HP2⟩, by simp [intOf]; omega⟩
    · obtain rfl : k = n := by omega
      have HR := hid (HNO.out HP.out)
      clear HAT hlt HYES HNO HP
      go_wp2
      go_ret
      exact ⟨ret_bool HR.out.symm, rfl⟩
end Go.Proofs.Ytlpjkahppogkiaa
