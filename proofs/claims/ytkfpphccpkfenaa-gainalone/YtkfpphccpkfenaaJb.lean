/- Contracts of both Rights, of rightAhead; more than are looked at. -/
import Derived.Test.YtkfpphccpkfenaaJa
import Derived.Deep.QuietTactic
namespace Go.Proofs.Ytkfpphccpkfenaa
open Go.RowKit
set_option linter.unusedVariables false
set_option linter.unusedSimpArgs false

theorem gok_no_len {x : List Int} (h : x.length ≠ 5) : gokB x = false := by
  cases hb : gokB x
  · rfl
  · exact absurd (gok_len hb) h
theorem gok_no_at {x : List Int} {k : Nat} (hk : k < 5) (h : x.getD k 0 < 0 ∨ 44 < x.getD k 0) : gokB x = false := by
  cases hb : gokB x
  · rfl
  · have := gok_bd hb k hk; omega

theorem right_any (a : Option Addr) (n cap : Nat) (x : List Int) (hn : n = x.length) (w : World) (hv : Rw .i64 w (.slice a n cap) x) : Calls Try.prog 15 #[.slice a n cap] w fun e w' => e = .returned (.bool (gokB x)) ∧ w' = w := by
  subst hn
  by_cases h : x.length = 5
  · have hbd : gokB x = true ∨ ∃ k, k < 5 ∧ (x.getD k 0 < 0 ∨ 44 < x.getD k 0) ∧ gokB x = false := by
      cases hb : gokB x
      · refine .inr ?_
        apply Classical.byContradiction
        intro hno
        have : gokB x = true := gok_of h fun j hj => by
          apply Classical.byContradiction
          intro hc
          exact hno ⟨j, hj, by omega, rfl⟩
        rw [this] at hb; cases hb
      · exact .inl rfl
    obtain ⟨b, off, rfl, hb, -⟩ := hv.at 0 (by omega)
    have hc : ∀ k, k < 5 → w.cell? ⟨b, off + k, none⟩ = some (.int .i64 (x.getD k 0)) := fun k hk => by
      obtain ⟨b', off', he, _, hc⟩ := hv.at k (by omega)
      simp at he
      obtain ⟨rfl, rfl⟩ := he
      exact hc
    have H5 : Hid (x.length = 5) := h
    have Hno := fun k hk h => @gok_no_at x k hk h
    have Hyes : (∀ j, j < 5 → 0 ≤ x.getD j 0 ∧ x.getD j 0 ≤ 44) → gokB x = true := fun h => gok_of H5.out h
    rw [h]
    clear hbd hv h
    go_enter Try.func15, Try.ntmps15
    go_wp2
    go_loop [7] (fun i => ∃ k : Nat, k ≤ 5 ∧ i = .int .i64 (k : Nat) ∧ (∀ j, j < k → 0 ≤ x.getD j 0 ∧ x.getD j 0 ≤ 44)) (fun i => 5 - (intOf i).toNat)
    case atStart => exact ⟨0, by omega, rfl, fun j hj => by omega⟩
    case round =>
      obtain ⟨k, hk, rfl, hall⟩ := hrel
      by_cases hlt : k < 5
      · have hck := hc k hlt
        have Hnk := Hno k hlt
        have Hall : (0 ≤ x.getD k 0 ∧ x.getD k 0 ≤ 44) → ∀ j, j < k + 1 → 0 ≤ x.getD j 0 ∧ x.getD j 0 ≤ 44 := fun h j hj => by
          by_cases e : j < k
          · exact hall j e
          · obtain rfl : j = k := by omega
            exact h
        clear hc Hno Hyes hall
        generalize x.getD k 0 = X at *
        have i1 : (0 : Int) ≤ (k : Int) := by omega
        have i2 : (k : Int) < 5 := by omega
        by_cases h0 : X < 0
        · have hg := Hnk (.inl h0)
          go_wp2
          go_ret
          exact ⟨rfl, rfl⟩
        · by_cases h1 : 44 < X
          · have hg := Hnk (.inr h1)
            go_wp2
            go_ret
            exact ⟨rfl, rfl⟩
          · have hA := Hall ⟨by omega, by omega⟩
            have h1' : X ≤ 44 := by omega
            have h0' : 0 ≤ X := by omega
            clear Hall Hnk h0 h1
            go_wp2
            exact ⟨⟨k + 1, by omega, by go_num, hA⟩, by simp [intOf]; omega⟩
      · obtain rfl : k = 5 := by omega
        have hg := Hyes hall
        clear hc Hno Hyes hall hlt
        go_wp2
        go_ret
        exact ⟨rfl, rfl⟩
  · have hg := gok_no_len h
    have h1 : ((x.length : Int) != 5) = true := by simp; omega
    generalize x.length = n at *
    rw [hg]
    clear h hv hg
    go_enter Try.func15, Try.ntmps15
    go_wp2
    go_ret
    exact ⟨rfl, rfl⟩

/-- Are the first k numbers those of gains, and the list as long? -/
def preB (x : List Int) (k : Nat) : Bool := decide (x.length = 5) && (List.range k).all fun j => decide (0 ≤ x.getD j 0 ∧ x.getD j 0 ≤ 44)
theorem preB_succ (x : List Int) (k : Nat) : preB x (k + 1) = (preB x k && decide (0 ≤ x.getD k 0 ∧ x.getD k 0 ≤ 44)) := by
  unfold preB; rw [List.range_succ, List.all_append]; simp [Bool.and_assoc]
theorem preB_all (x : List Int) : preB x x.length = gokB x := by
  unfold preB gokB
  by_cases h : x.length = 5
  · rw [h]
  · rw [decide_eq_false h]; rfl

theorem rright_any (a : Option Addr) (n cap : Nat) (x : List Int) (hn : n = x.length) (hl : x.length ≤ 100) (w : World) (hv : Rw .i64 w (.slice a n cap) x) : Calls Try.prog 16 #[.slice a n cap] w fun e w' => e = .returned (.bool (gokB x)) ∧ w' = w := by
  subst hn
  have he : ((x.length : Int) == 5) = preB x 0 := by
    unfold preB
    by_cases h : x.length = 5
    · rw [h]; rfl
    · rw [decide_eq_false h]; simp; omega
  have Hall : Hid (preB x x.length = gokB x) := preB_all x
  have hcell := fun i hi => hv.at i hi
  obtain ⟨n, hn⟩ : ∃ n, x.length = n := ⟨_, rfl⟩
  have hs := preB_succ x
  rw [hn] at he hl hcell Hall ⊢
  clear hv
  generalize preB x = pre at *
  generalize hP0 : pre 0 = p0 at he
  have HP0 := hid hP0
  clear hP0
  go_enter Try.func16, Try.ntmps16
  go_wp2
  go_loop [3, 4] (fun p i => ∃ k : Nat, k ≤ n ∧ i = .int .i64 (k : Nat) ∧ p = .bool (pre k)) (fun _ i => n - (intOf i).toNat)
  case atStart => exact ⟨0, by omega, rfl, by rw [HP0.out]⟩
  case round =>
    obtain ⟨k, hk, rfl, rfl⟩ := hrel
    by_cases hlt : k < n
    · obtain ⟨b, off, rfl, hb, hck⟩ := hcell k hlt
      have hsk := hs k
      clear hs hcell
      generalize x.getD k 0 = X at *
      have HQ : Hid (pre (k + 1) = (pre k && decide (0 ≤ X ∧ X ≤ 44))) := hsk
      clear hsk
      generalize pre k = r at *
      have i1 : (0 : Int) ≤ (k : Int) := by omega
      have i2 : (k : Int) < (n : Int) := by omega
      cases r
      · have HQ2 : Hid (pre (k + 1) = false) := HQ.out
        clear HQ
        go_wp2
        exact ⟨⟨k + 1, by omega, by go_num, by rw [HQ2.out]⟩, by simp [intOf]; omega⟩
      · by_cases h0 : X < 0
        · have HQ2 : Hid (pre (k + 1) = false) := by unfold Hid; rw [HQ.out, decide_eq_false (by omega)]; rfl
          clear HQ
          have h0' : decide (0 ≤ X) = false := decide_eq_false (by omega)
          go_wp2
          exact ⟨⟨k + 1, by omega, by go_num, by rw [HQ2.out]⟩, by simp [intOf]; omega⟩
        · have h0' : 0 ≤ X := by omega
          by_cases h1 : 44 < X
          · have HQ2 : Hid (pre (k + 1) = false) := by unfold Hid; rw [HQ.out, decide_eq_false (by omega)]; rfl
            clear HQ h0
            go_wp2
            exact ⟨⟨k + 1, by omega, by go_num, by rw [HQ2.out]; simp; omega⟩, by simp [intOf]; omega⟩
          · have h1' : X ≤ 44 := by omega
            have HQ2 : Hid (pre (k + 1) = true) := by unfold Hid; rw [HQ.out, decide_eq_true (by omega)]; rfl
            clear HQ h0 h1
            go_wp2
            exact ⟨⟨k + 1, by omega, by go_num, by rw [HQ2.out]⟩, by simp [intOf]; omega⟩
    · obtain rfl : k = n := by omega
      clear hs hcell hlt
      go_wp2
      go_ret
      exact ⟨ret_bool Hall.out, rfl⟩

/-! ### Rows that lie apart from a struct's cell -/
/-- A row stays as it is where a cell is written that holds no number of its kind. -/
theorem Rw.apart {k : IntKind} {w : World} {v : Value} {xs : List Int} (h : Rw k w v xs) {p o : Nat} {x0 : Value} (h0 : w.cell? ⟨p, o, none⟩ = some x0) (hk : ∀ z, x0 ≠ .int k z) (y : Value) : Rw k (w.setCell ⟨p, o, none⟩ y) v xs := by
  obtain ⟨a, cap, hv, h⟩ := h
  refine ⟨a, cap, hv, ?_⟩
  rcases h with h | ⟨b, off, ha, hlt, hc⟩
  · exact .inl h
  · refine .inr ⟨b, off, ha, by simpa [World.setCell] using hlt, fun i hi => ?_⟩
    by_cases hb : b = p
    · subst hb
      have hne : off + i ≠ o := fun e => by
        have := hc i hi
        rw [e, h0] at this
        exact hk _ (Option.some.inj this)
      have hne' : o ≠ off + i := fun e => hne e.symm
      simp [go_sem, hne, hne', hc i hi]
    · rw [World.cell?_of_block (w := w) (Below.heap_setCell w ⟨p, o, none⟩ y b hb)]
      exact hc i hi
theorem B3.apart {k : IntKind} {w : World} {v : Value} {xs : List Int} {b : Nat} {x0 x1 x2 : Value} (hB : B3 w b x0 x1 x2) (h : Rw k w v xs) (h0 : ∀ z, x0 ≠ .int k z) (h1 : ∀ z, x1 ≠ .int k z) (h2 : ∀ z, x2 ≠ .int k z) (y0 y1 y2 : Value) : Rw k (((w.setCell ⟨b, 0, none⟩ y0).setCell ⟨b, 1, none⟩ y1).setCell ⟨b, 2, none⟩ y2) v xs :=
  ((h.apart hB.c0 h0 y0).apart (hB.set0 y0).c1 h1 y1).apart ((hB.set0 y0).set1 y1).c2 h2 y2
theorem B4.apart {k : IntKind} {w : World} {v : Value} {xs : List Int} {b : Nat} {x0 x1 x2 x3 : Value} (hB : B4 w b x0 x1 x2 x3) (h : Rw k w v xs) (h0 : ∀ z, x0 ≠ .int k z) (h1 : ∀ z, x1 ≠ .int k z) (h2 : ∀ z, x2 ≠ .int k z) (h3 : ∀ z, x3 ≠ .int k z) (y0 y1 y2 y3 : Value) : Rw k ((((w.setCell ⟨b, 0, none⟩ y0).setCell ⟨b, 1, none⟩ y1).setCell ⟨b, 2, none⟩ y2).setCell ⟨b, 3, none⟩ y3) v xs :=
  (((h.apart hB.c0 h0 y0).apart (hB.set0 y0).c1 h1 y1).apart ((hB.set0 y0).set1 y1).c2 h2 y2).apart (((hB.set0 y0).set1 y1).set2 y2).c3 h3 y3
theorem B2.apart {k : IntKind} {w : World} {v : Value} {xs : List Int} {b : Nat} {x0 x1 : Value} (hB : B2 w b x0 x1) (h : Rw k w v xs) (h0 : ∀ z, x0 ≠ .int k z) (h1 : ∀ z, x1 ≠ .int k z) (y0 y1 : Value) : Rw k ((w.setCell ⟨b, 0, none⟩ y0).setCell ⟨b, 1, none⟩ y1) v xs :=
  (h.apart hB.c0 h0 y0).apart (hB.set0 y0).c1 h1 y1
/-- An encoder's bytes lie apart from an encoder's struct. -/
theorem EvOf.set3 {w : World} {L R : Int} {a : Option Addr} {n cap : Nat} {e : En} (h : EvOf w L R a n cap e) {b : Nat} {L' R' : Int} {v : Value} (hB : B3 w b (.int .u64 L') (.int .u32 R') v) (hv : ∀ z, v ≠ .int .u8 z) (y0 y1 y2 : Value) : EvOf (((w.setCell ⟨b, 0, none⟩ y0).setCell ⟨b, 1, none⟩ y1).setCell ⟨b, 2, none⟩ y2) L R a n cap e := by
  obtain ⟨hok, h⟩ := h
  refine ⟨hok, ?_⟩
  rcases h with ⟨h1, h2, h3, h4, hr⟩ | h
  · exact .inl ⟨h1, h2, h3, h4, hB.apart hr (fun z => by simp) (fun z => by simp) hv _ _ _⟩
  · exact .inr h
/-- The encoder that a call hands back. -/
theorem EvOf.encB {w : World} {L R : Int} {a : Option Addr} {n cap : Nat} {e : En} (h : EvOf w L R a n cap e) (hb : encB L R n = true) : L = e.low ∧ R = e.R ∧ n = e.m ∧ Rw .u8 w (.slice a n cap) e.out := by
  rcases h.2 with ⟨_, h2, h3, h4, hr⟩ | ⟨h1, _⟩
  · exact ⟨h2, h3, h4, hr⟩
  · rw [h1] at hb; cases hb
end Go.Proofs.Ytkfpphccpkfenaa
