/- The Go function of the statement SumParts returns true at every input, and leaves each argument as it read. No condition. -/
import Derived.Test.YtdadkmklfphleaaWd
import Derived.Deep.RegionHeld3
import Derived.ProofKit
import Derived.OpenShut
import Derived.ShutString
import Derived.ChangeOld
import Derived.Lib.SmallJoins
namespace Go.Proofs.Ytdadkmklfphleaa.sumParts
open Go.ChangeShapes Go.WideShapes Go.ChangeAt Go.RowKit Go.Joins
set_option linter.unusedVariables false
set_option linter.unusedSimpArgs false

theorem own : ownKnob Try.prog.godebug = none := by kernel_rfl
theorem laidOut : laidOutB Try.prog = true := by kernel_rfl

theorem cut_at (cut : Int) (n P : Nat) (h : P ≤ n) : ∃ Q : Nat, (IntKind.u64.wrap cut).tmod ((n : Int) - P + 1) = Q ∧ P + Q ≤ n := by
  have h0 : 0 ≤ IntKind.u64.wrap cut := by rw [IntKind.wrap_u64]; omega
  have h1 : 0 ≤ (IntKind.u64.wrap cut).tmod ((n : Int) - P + 1) := Int.tmod_nonneg _ h0
  have h2 := Int.tmod_lt_of_pos (IntKind.u64.wrap cut) (show (0 : Int) < (n : Int) - P + 1 by omega)
  exact ⟨((IntKind.u64.wrap cut).tmod ((n : Int) - P + 1)).toNat, by omega, by omega⟩
theorem addL_entry_lt (l : List Nat) (hl : ∀ x ∈ l, x < 256) (c : Nat) (hc : c < 2 ^ 32) : addL entry c l < 2 ^ 32 := by
  rw [addL_steps l hl]
  have h := addL_lt tab_u32 l c hc
  rw [addL_congr (tfn tab) entry (fun i hi => by unfold tfn; rw [tab_getD i hi, Int.toNat_natCast]) l hl] at h
  rw [← addL_steps l hl]
  exact h
def Cells8 (w : World) (b off : Nat) (xs : List Int) : Prop := b < w.heap.size ∧ ∀ i, i < xs.length → w.cell? ⟨b, off + i, none⟩ = some (.int .u8 (xs.getD i 0))
theorem rw_zero {w : World} {xs : List Int} {b off cap P Q : Nat} (h : Cells8 w b off xs) (hle : xs.length ≤ cap) (hcp : cap = P) (hPQ : P + Q ≤ xs.length) {a : Option Addr} {n c : Nat} (hn : n = Q := by omega) : Rw .u8 w (.slice a n c) ((xs.drop P).take Q) := by
  have hq : Q = 0 := by omega
  subst hn
  subst hq
  exact ⟨a, c, by simp, .inl (by simp)⟩

theorem rw_cut {w : World} {xs : List Int} {b off : Nat} (h : Cells8 w b off xs) (P Q : Nat) (hPQ : P + Q ≤ xs.length) {n c : Nat} (hn : n = Q := by omega) : Rw .u8 w (.slice (some ⟨b, off + P, none⟩) n c) ((xs.drop P).take Q) := by
  subst hn
  have hl : ((xs.drop P).take n).length = n := by simp; omega
  refine ⟨_, c, by rw [hl], .inr ⟨b, off + P, rfl, h.1, fun i hi => ?_⟩⟩
  rw [hl] at hi
  rw [Nat.add_assoc, h.2 (P + i) (by omega)]
  simp [List.getD_eq_getElem?_getD, List.getElem?_take, hi]
theorem rw_zero_end {w : World} {xs : List Int} {b off cap P : Nat} (h : Cells8 w b off xs) (hle : xs.length ≤ cap) (hcp : cap = P) (hP : P ≤ xs.length) {a : Option Addr} {n c : Nat} (hn : n = xs.length - P := by omega) : Rw .u8 w (.slice a n c) (xs.drop P) := by
  subst hn
  have hl : xs.drop P = [] := by simp; omega
  exact ⟨a, c, by simp, .inl hl⟩
theorem rw_cut_end {w : World} {xs : List Int} {b off : Nat} (h : Cells8 w b off xs) (P : Nat) (hP : P ≤ xs.length) {n c : Nat} (hn : n = xs.length - P := by omega) : Rw .u8 w (.slice (some ⟨b, off + P, none⟩) n c) (xs.drop P) := by
  have h' := rw_cut h P n (by omega) (n := n) (c := c) rfl
  rwa [List.take_of_length_le (by simp; omega)] at h'
theorem Cells8.below {w w' : World} {xs : List Int} {b off : Nat} (h : Cells8 w b off xs) (hb : Below w.heap.size w w') : Cells8 w' b off xs :=
  ⟨Nat.lt_of_lt_of_le h.1 hb.size, fun i hi => ((bcell hb).1 _ _ h.1).trans (h.2 i hi)⟩

set_option maxRecDepth 10000 in
set_option maxHeartbeats 2000000 in
theorem walk (a0 : Option Addr) (len0 cap0 : Nat) (z0 : List Int) (a1 : Option Addr) (len1 cap1 : Nat) (z1 : List Int) (w : World) (w0 : IsRow .u8 w a0 len0 cap0 z0) (w1 : IsRow .i64 w a1 len1 cap1 z1) :
    Calls Try.prog 6 #[.slice a0 len0 cap0, .slice a1 len1 cap1] w fun e w' => e = .returned (.bool true) ∧ Below w.heap.size w w' := by
  obtain ⟨xs, rfl, hrw, hx⟩ := row_rw w0
  obtain ⟨cs, rfl, hcs, hcw⟩ := row_rw_any w1
  have hlc : cs.length < 2 ^ 63 := by
    rcases w1 with ⟨_, h, _⟩ | ⟨x, _, h1, h2, _⟩
    · omega
    · unfold maxLen at h2; omega
  have hle : xs.length ≤ cap0 := by
    rcases w0 with ⟨_, h, h', _⟩ | ⟨x, _, h1, h2, _⟩
    · omega
    · exact h1
  have hcap := row_cap w0
  clear w0 w1 hcw
  by_cases hg : 5000 < xs.length
  · have hd : decide (5000 < xs.length) = true := decide_eq_true hg
    go_enter Try.func6, Try.ntmps6
    go_wp2_with (first | (go_at_call 11; refine (great_any _ _ _ _).mono ?_; rintro e w ⟨rfl, rfl⟩; rw [hd]) | (go_at_call 10; refine (knows_any _).mono ?_; rintro e w5 ⟨rfl, hb5⟩))
    go_ret
    exact ⟨rfl, hb5⟩
  have hd : decide (5000 < xs.length) = false := decide_eq_false hg
  have hl : xs.length ≤ 5000 := by omega
  clear hg
  obtain ⟨a1', c1', he1, hc1⟩ := hcs
  simp only [Value.slice.injEq, true_and] at he1
  obtain ⟨rfl, rfl⟩ := he1
  by_cases hne : xs = []
  · subst hne
    rcases a0 with _ | x0
    · obtain rfl := hcap rfl
      clear hcap
      have hd0 : decide (5000 < 0) = false := rfl
      go_enter Try.func6, Try.ntmps6
      go_wp2_with (first | (go_at_call 11; refine (great_any _ 0 _ _).mono ?_; rintro e w ⟨rfl, rfl⟩; rw [hd0]) | (go_at_call 8; refine (table_any _).mono ?_; rintro e w1 ⟨g, rfl, hg, hrow, hb1⟩) | (go_at_call 16; refine (begin_any _).mono ?_; rintro e w1 ⟨rfl, rfl⟩))
      go_loopw [6, 7, 8] (fun c p i wr => ∃ I P : Nat, I ≤ cs.length ∧ i = .int .i64 I ∧ P ≤ ([] : List Int).length ∧ p = .int .i64 P ∧ ∃ C : Nat, c = .int .u32 C ∧ C < 2 ^ 32 ∧ Hid (C = addL entry 4294967295 ((([] : List Int).take P).map Int.toNat)) ∧ Below w.heap.size w wr ∧ wr.heap[g]? = some (.cells (tab.map (Value.int .u32)).toArray 24 (0, 0))) (fun _ _ i _ => cs.length - (intOf i).toNat)
      case atStart => exact ⟨0, 0, by omega, rfl, by omega, rfl, _, rfl, by decide, rfl, hb1, hrow⟩
      case round =>
        obtain ⟨I, P, hI, rfl, hP, rfl, C, rfl, hC, hs, hbw, hrw1⟩ := hrel
        obtain rfl : P = 0 := Nat.le_zero.1 hP
        by_cases hi : I < cs.length ∧ I < 20
        · obtain ⟨hi1, hi2⟩ := hi
          obtain ⟨bc, oc, rfl, hbc, hcc⟩ := hc1.resolve_left (by intro h; subst h; simp at hi1)
          have gc := (hbw.cell (p := ⟨bc, oc + I, none⟩) hbc).trans (hcc I hi1)
          generalize cs.getD I 0 = cut at gc
          clear hcc
          obtain ⟨Q, hq, hPQ⟩ := cut_at cut 0 0 (by omega)
          obtain rfl : Q = 0 := by omega
          have hQ : IntKind.i64.wrap (0 : Int) = 0 := wraps_i64 _ (by omega) (by omega)
          have htake : Hid (([] : List Int).take (0 + 0) = ([] : List Int).take 0 ++ (([] : List Int).drop 0).take 0) := List.take_add
          have hyl : ((([] : List Int).drop 0).take 0).length = 0 := by rw [List.length_take, List.length_drop]; omega
          have hyb : Byts ((([] : List Int).drop 0).take 0) := fun x hm => hx x (List.mem_of_mem_drop (List.mem_of_mem_take hm))
          have htab := tab_rw (c := 256) hrw1
          have hC2 : addL entry C (((([] : List Int).drop 0).take 0).map Int.toNat) < 2 ^ 32 := addL_entry_lt _ (nums_lt hyb) C hC
          have hs2 : Hid (addL entry C (((([] : List Int).drop 0).take 0).map Int.toNat) = addL entry 4294967295 ((([] : List Int).take (0 + 0)).map Int.toNat)) := by
            unfold Hid
            rw [htake.out, List.map_append, addL_append, ← hs.out]
          have hadd := fun v hv => add_tab (.slice (some ⟨g, 0, none⟩) 256 256) v ((([] : List Int).drop 0).take 0) C wr htab hv hyb (by omega) hC
          generalize addL entry C (((([] : List Int).drop 0).take 0).map Int.toNat) = C2 at hC2 hs2 hadd
          go_wp2_with fail
          refine (hadd _ ⟨_, _, rfl, .inl rfl⟩).mono ?_
          rintro e w6 ⟨rfl, hb6⟩
          have hbw6 := bthen hbw hb6 hbw.size
          have hrw6 := row_below hrw1 hb6
          clear hbw hrw1 htab hadd hb6
          go_wp2
          exact ⟨⟨I + 1, 0 + 0, by omega, by go_num, hPQ, by go_num, C2, rfl, hC2, hs2, hbw6, hrw6⟩, by simp [intOf]; omega⟩
        · have hge : (cs.length : Int) ≤ I ∨ ((I : Int) < cs.length ∧ (20 : Int) ≤ I) := by omega
          have htake : Hid (([] : List Int).take 0 ++ ([] : List Int).drop 0 = ([] : List Int)) := List.take_append_drop 0 ([] : List Int)
          have hyl : (([] : List Int).drop 0).length = ([] : List Int).length - 0 := List.length_drop
          have hyb : Byts (([] : List Int).drop 0) := fun x hm => hx x (List.mem_of_mem_drop hm)
          have htab := tab_rw (c := 256) hrw1
          have hC2 : addL entry C ((([] : List Int).drop 0).map Int.toNat) < 2 ^ 32 := addL_entry_lt _ (nums_lt hyb) C hC
          have hs2 : Hid (addL entry C ((([] : List Int).drop 0).map Int.toNat) ^^^ 4294967295 = crc (([] : List Int).map Int.toNat)) := by
            unfold Hid crc
            have h2 := addL_append entry 4294967295 ((([] : List Int).take 0).map Int.toNat) ((([] : List Int).drop 0).map Int.toNat)
            rw [← List.map_append, htake.out, ← hs.out] at h2
            rw [h2]
          have hadd := fun v hv => add_tab (.slice (some ⟨g, 0, none⟩) 256 256) v (([] : List Int).drop 0) C wr htab hv hyb (by omega) hC
          generalize addL entry C ((([] : List Int).drop 0).map Int.toNat) = C2 at hC2 hs2 hadd
          have hrwb := hrw.below hbw
          clear hi
          rcases hge with hge | ⟨hge, hge2⟩
          · go_wp2_with fail
            refine (hadd _ ⟨_, _, rfl, .inl rfl⟩).mono ?_
            rintro e w6 ⟨rfl, hb6⟩
            have hbw6 := bthen hbw hb6 hbw.size
            have htab6 := tab_rw (c := 256) (row_below hrw1 hb6)
            have hsum := sum_tab (.slice (some ⟨g, 0, none⟩) 256 256) _ ([] : List Int) w6 htab6 (hrwb.below hb6) hx hl
            clear hbw hrw1 htab hadd hb6 htab6
            rw [← hs2.out] at hsum
            go_wp2_with (first | (go_at_call 12; refine hsum.mono ?_; rintro e w7 ⟨rfl, hb7⟩) | (go_at_call 17; refine (end_any C2 hC2 _).mono ?_; rintro e w7 ⟨rfl, rfl⟩) | (go_at_call 10; refine (knows_any _).mono ?_; rintro e w5 ⟨rfl, hb5⟩))
            go_ret
            have hB7 := bthen hbw6 hb7 hbw6.size
            exact ⟨rfl, bthen hB7 hb5 hB7.size⟩
          · go_wp2_with fail
            refine (hadd _ ⟨_, _, rfl, .inl rfl⟩).mono ?_
            rintro e w6 ⟨rfl, hb6⟩
            have hbw6 := bthen hbw hb6 hbw.size
            have htab6 := tab_rw (c := 256) (row_below hrw1 hb6)
            have hsum := sum_tab (.slice (some ⟨g, 0, none⟩) 256 256) _ ([] : List Int) w6 htab6 (hrwb.below hb6) hx hl
            clear hbw hrw1 htab hadd hb6 htab6
            rw [← hs2.out] at hsum
            go_wp2_with (first | (go_at_call 12; refine hsum.mono ?_; rintro e w7 ⟨rfl, hb7⟩) | (go_at_call 17; refine (end_any C2 hC2 _).mono ?_; rintro e w7 ⟨rfl, rfl⟩) | (go_at_call 10; refine (knows_any _).mono ?_; rintro e w5 ⟨rfl, hb5⟩))
            go_ret
            have hB7 := bthen hbw6 hb7 hbw6.size
            exact ⟨rfl, bthen hB7 hb5 hB7.size⟩
    · by_cases hc0 : cap0 = 0
      · subst hc0
        have hd0 : decide (5000 < 0) = false := rfl
        go_enter Try.func6, Try.ntmps6
        go_wp2_with (first | (go_at_call 11; refine (great_any _ 0 _ _).mono ?_; rintro e w ⟨rfl, rfl⟩; rw [hd0]) | (go_at_call 8; refine (table_any _).mono ?_; rintro e w1 ⟨g, rfl, hg, hrow, hb1⟩) | (go_at_call 16; refine (begin_any _).mono ?_; rintro e w1 ⟨rfl, rfl⟩))
        go_loopw [6, 7, 8] (fun c p i wr => ∃ I P : Nat, I ≤ cs.length ∧ i = .int .i64 I ∧ P ≤ ([] : List Int).length ∧ p = .int .i64 P ∧ ∃ C : Nat, c = .int .u32 C ∧ C < 2 ^ 32 ∧ Hid (C = addL entry 4294967295 ((([] : List Int).take P).map Int.toNat)) ∧ Below w.heap.size w wr ∧ wr.heap[g]? = some (.cells (tab.map (Value.int .u32)).toArray 24 (0, 0))) (fun _ _ i _ => cs.length - (intOf i).toNat)
        case atStart => exact ⟨0, 0, by omega, rfl, by omega, rfl, _, rfl, by decide, rfl, hb1, hrow⟩
        case round =>
          obtain ⟨I, P, hI, rfl, hP, rfl, C, rfl, hC, hs, hbw, hrw1⟩ := hrel
          obtain rfl : P = 0 := Nat.le_zero.1 hP
          by_cases hi : I < cs.length ∧ I < 20
          · obtain ⟨hi1, hi2⟩ := hi
            obtain ⟨bc, oc, rfl, hbc, hcc⟩ := hc1.resolve_left (by intro h; subst h; simp at hi1)
            have gc := (hbw.cell (p := ⟨bc, oc + I, none⟩) hbc).trans (hcc I hi1)
            generalize cs.getD I 0 = cut at gc
            clear hcc
            obtain ⟨Q, hq, hPQ⟩ := cut_at cut 0 0 (by omega)
            obtain rfl : Q = 0 := by omega
            have hQ : IntKind.i64.wrap (0 : Int) = 0 := wraps_i64 _ (by omega) (by omega)
            have htake : Hid (([] : List Int).take (0 + 0) = ([] : List Int).take 0 ++ (([] : List Int).drop 0).take 0) := List.take_add
            have hyl : ((([] : List Int).drop 0).take 0).length = 0 := by rw [List.length_take, List.length_drop]; omega
            have hyb : Byts ((([] : List Int).drop 0).take 0) := fun x hm => hx x (List.mem_of_mem_drop (List.mem_of_mem_take hm))
            have htab := tab_rw (c := 256) hrw1
            have hC2 : addL entry C (((([] : List Int).drop 0).take 0).map Int.toNat) < 2 ^ 32 := addL_entry_lt _ (nums_lt hyb) C hC
            have hs2 : Hid (addL entry C (((([] : List Int).drop 0).take 0).map Int.toNat) = addL entry 4294967295 ((([] : List Int).take (0 + 0)).map Int.toNat)) := by
              unfold Hid
              rw [htake.out, List.map_append, addL_append, ← hs.out]
            have hadd := fun v hv => add_tab (.slice (some ⟨g, 0, none⟩) 256 256) v ((([] : List Int).drop 0).take 0) C wr htab hv hyb (by omega) hC
            generalize addL entry C (((([] : List Int).drop 0).take 0).map Int.toNat) = C2 at hC2 hs2 hadd
            go_wp2_with fail
            refine (hadd _ ⟨_, _, rfl, .inl rfl⟩).mono ?_
            rintro e w6 ⟨rfl, hb6⟩
            have hbw6 := bthen hbw hb6 hbw.size
            have hrw6 := row_below hrw1 hb6
            clear hbw hrw1 htab hadd hb6
            go_wp2
            exact ⟨⟨I + 1, 0 + 0, by omega, by go_num, hPQ, by go_num, C2, rfl, hC2, hs2, hbw6, hrw6⟩, by simp [intOf]; omega⟩
          · have hge : (cs.length : Int) ≤ I ∨ ((I : Int) < cs.length ∧ (20 : Int) ≤ I) := by omega
            have htake : Hid (([] : List Int).take 0 ++ ([] : List Int).drop 0 = ([] : List Int)) := List.take_append_drop 0 ([] : List Int)
            have hyl : (([] : List Int).drop 0).length = ([] : List Int).length - 0 := List.length_drop
            have hyb : Byts (([] : List Int).drop 0) := fun x hm => hx x (List.mem_of_mem_drop hm)
            have htab := tab_rw (c := 256) hrw1
            have hC2 : addL entry C ((([] : List Int).drop 0).map Int.toNat) < 2 ^ 32 := addL_entry_lt _ (nums_lt hyb) C hC
            have hs2 : Hid (addL entry C ((([] : List Int).drop 0).map Int.toNat) ^^^ 4294967295 = crc (([] : List Int).map Int.toNat)) := by
              unfold Hid crc
              have h2 := addL_append entry 4294967295 ((([] : List Int).take 0).map Int.toNat) ((([] : List Int).drop 0).map Int.toNat)
              rw [← List.map_append, htake.out, ← hs.out] at h2
              rw [h2]
            have hadd := fun v hv => add_tab (.slice (some ⟨g, 0, none⟩) 256 256) v (([] : List Int).drop 0) C wr htab hv hyb (by omega) hC
            generalize addL entry C ((([] : List Int).drop 0).map Int.toNat) = C2 at hC2 hs2 hadd
            have hrwb := hrw.below hbw
            clear hi
            rcases hge with hge | ⟨hge, hge2⟩
            · go_wp2_with fail
              refine (hadd _ ⟨_, _, rfl, .inl rfl⟩).mono ?_
              rintro e w6 ⟨rfl, hb6⟩
              have hbw6 := bthen hbw hb6 hbw.size
              have htab6 := tab_rw (c := 256) (row_below hrw1 hb6)
              have hsum := sum_tab (.slice (some ⟨g, 0, none⟩) 256 256) _ ([] : List Int) w6 htab6 (hrwb.below hb6) hx hl
              clear hbw hrw1 htab hadd hb6 htab6
              rw [← hs2.out] at hsum
              go_wp2_with (first | (go_at_call 12; refine hsum.mono ?_; rintro e w7 ⟨rfl, hb7⟩) | (go_at_call 17; refine (end_any C2 hC2 _).mono ?_; rintro e w7 ⟨rfl, rfl⟩) | (go_at_call 10; refine (knows_any _).mono ?_; rintro e w5 ⟨rfl, hb5⟩))
              go_ret
              have hB7 := bthen hbw6 hb7 hbw6.size
              exact ⟨rfl, bthen hB7 hb5 hB7.size⟩
            · go_wp2_with fail
              refine (hadd _ ⟨_, _, rfl, .inl rfl⟩).mono ?_
              rintro e w6 ⟨rfl, hb6⟩
              have hbw6 := bthen hbw hb6 hbw.size
              have htab6 := tab_rw (c := 256) (row_below hrw1 hb6)
              have hsum := sum_tab (.slice (some ⟨g, 0, none⟩) 256 256) _ ([] : List Int) w6 htab6 (hrwb.below hb6) hx hl
              clear hbw hrw1 htab hadd hb6 htab6
              rw [← hs2.out] at hsum
              go_wp2_with (first | (go_at_call 12; refine hsum.mono ?_; rintro e w7 ⟨rfl, hb7⟩) | (go_at_call 17; refine (end_any C2 hC2 _).mono ?_; rintro e w7 ⟨rfl, rfl⟩) | (go_at_call 10; refine (knows_any _).mono ?_; rintro e w5 ⟨rfl, hb5⟩))
              go_ret
              have hB7 := bthen hbw6 hb7 hbw6.size
              exact ⟨rfl, bthen hB7 hb5 hB7.size⟩
      · clear hcap
        have hd0 : decide (5000 < 0) = false := rfl
        go_enter Try.func6, Try.ntmps6
        go_wp2_with (first | (go_at_call 11; refine (great_any _ 0 _ _).mono ?_; rintro e w ⟨rfl, rfl⟩; rw [hd0]) | (go_at_call 8; refine (table_any _).mono ?_; rintro e w1 ⟨g, rfl, hg, hrow, hb1⟩) | (go_at_call 16; refine (begin_any _).mono ?_; rintro e w1 ⟨rfl, rfl⟩))
        go_loopw [6, 7, 8] (fun c p i wr => ∃ I P : Nat, I ≤ cs.length ∧ i = .int .i64 I ∧ P ≤ ([] : List Int).length ∧ p = .int .i64 P ∧ ∃ C : Nat, c = .int .u32 C ∧ C < 2 ^ 32 ∧ Hid (C = addL entry 4294967295 ((([] : List Int).take P).map Int.toNat)) ∧ Below w.heap.size w wr ∧ wr.heap[g]? = some (.cells (tab.map (Value.int .u32)).toArray 24 (0, 0))) (fun _ _ i _ => cs.length - (intOf i).toNat)
        case atStart => exact ⟨0, 0, by omega, rfl, by omega, rfl, _, rfl, by decide, rfl, hb1, hrow⟩
        case round =>
          obtain ⟨I, P, hI, rfl, hP, rfl, C, rfl, hC, hs, hbw, hrw1⟩ := hrel
          obtain rfl : P = 0 := Nat.le_zero.1 hP
          by_cases hi : I < cs.length ∧ I < 20
          · obtain ⟨hi1, hi2⟩ := hi
            obtain ⟨bc, oc, rfl, hbc, hcc⟩ := hc1.resolve_left (by intro h; subst h; simp at hi1)
            have gc := (hbw.cell (p := ⟨bc, oc + I, none⟩) hbc).trans (hcc I hi1)
            generalize cs.getD I 0 = cut at gc
            clear hcc
            obtain ⟨Q, hq, hPQ⟩ := cut_at cut 0 0 (by omega)
            obtain rfl : Q = 0 := by omega
            have hQ : IntKind.i64.wrap (0 : Int) = 0 := wraps_i64 _ (by omega) (by omega)
            have htake : Hid (([] : List Int).take (0 + 0) = ([] : List Int).take 0 ++ (([] : List Int).drop 0).take 0) := List.take_add
            have hyl : ((([] : List Int).drop 0).take 0).length = 0 := by rw [List.length_take, List.length_drop]; omega
            have hyb : Byts ((([] : List Int).drop 0).take 0) := fun x hm => hx x (List.mem_of_mem_drop (List.mem_of_mem_take hm))
            have htab := tab_rw (c := 256) hrw1
            have hC2 : addL entry C (((([] : List Int).drop 0).take 0).map Int.toNat) < 2 ^ 32 := addL_entry_lt _ (nums_lt hyb) C hC
            have hs2 : Hid (addL entry C (((([] : List Int).drop 0).take 0).map Int.toNat) = addL entry 4294967295 ((([] : List Int).take (0 + 0)).map Int.toNat)) := by
              unfold Hid
              rw [htake.out, List.map_append, addL_append, ← hs.out]
            have hadd := fun v hv => add_tab (.slice (some ⟨g, 0, none⟩) 256 256) v ((([] : List Int).drop 0).take 0) C wr htab hv hyb (by omega) hC
            generalize addL entry C (((([] : List Int).drop 0).take 0).map Int.toNat) = C2 at hC2 hs2 hadd
            go_wp2_with fail
            refine (hadd _ ⟨_, _, rfl, .inl rfl⟩).mono ?_
            rintro e w6 ⟨rfl, hb6⟩
            have hbw6 := bthen hbw hb6 hbw.size
            have hrw6 := row_below hrw1 hb6
            clear hbw hrw1 htab hadd hb6
            go_wp2
            exact ⟨⟨I + 1, 0 + 0, by omega, by go_num, hPQ, by go_num, C2, rfl, hC2, hs2, hbw6, hrw6⟩, by simp [intOf]; omega⟩
          · have hge : (cs.length : Int) ≤ I ∨ ((I : Int) < cs.length ∧ (20 : Int) ≤ I) := by omega
            have htake : Hid (([] : List Int).take 0 ++ ([] : List Int).drop 0 = ([] : List Int)) := List.take_append_drop 0 ([] : List Int)
            have hyl : (([] : List Int).drop 0).length = ([] : List Int).length - 0 := List.length_drop
            have hyb : Byts (([] : List Int).drop 0) := fun x hm => hx x (List.mem_of_mem_drop hm)
            have htab := tab_rw (c := 256) hrw1
            have hC2 : addL entry C ((([] : List Int).drop 0).map Int.toNat) < 2 ^ 32 := addL_entry_lt _ (nums_lt hyb) C hC
            have hs2 : Hid (addL entry C ((([] : List Int).drop 0).map Int.toNat) ^^^ 4294967295 = crc (([] : List Int).map Int.toNat)) := by
              unfold Hid crc
              have h2 := addL_append entry 4294967295 ((([] : List Int).take 0).map Int.toNat) ((([] : List Int).drop 0).map Int.toNat)
              rw [← List.map_append, htake.out, ← hs.out] at h2
              rw [h2]
            have hadd := fun v hv => add_tab (.slice (some ⟨g, 0, none⟩) 256 256) v (([] : List Int).drop 0) C wr htab hv hyb (by omega) hC
            generalize addL entry C ((([] : List Int).drop 0).map Int.toNat) = C2 at hC2 hs2 hadd
            have hrwb := hrw.below hbw
            clear hi
            rcases hge with hge | ⟨hge, hge2⟩
            · go_wp2_with fail
              refine (hadd _ ⟨_, _, rfl, .inl rfl⟩).mono ?_
              rintro e w6 ⟨rfl, hb6⟩
              have hbw6 := bthen hbw hb6 hbw.size
              have htab6 := tab_rw (c := 256) (row_below hrw1 hb6)
              have hsum := sum_tab (.slice (some ⟨g, 0, none⟩) 256 256) _ ([] : List Int) w6 htab6 (hrwb.below hb6) hx hl
              clear hbw hrw1 htab hadd hb6 htab6
              rw [← hs2.out] at hsum
              go_wp2_with (first | (go_at_call 12; refine hsum.mono ?_; rintro e w7 ⟨rfl, hb7⟩) | (go_at_call 17; refine (end_any C2 hC2 _).mono ?_; rintro e w7 ⟨rfl, rfl⟩) | (go_at_call 10; refine (knows_any _).mono ?_; rintro e w5 ⟨rfl, hb5⟩))
              go_ret
              have hB7 := bthen hbw6 hb7 hbw6.size
              exact ⟨rfl, bthen hB7 hb5 hB7.size⟩
            · go_wp2_with fail
              refine (hadd _ ⟨_, _, rfl, .inl rfl⟩).mono ?_
              rintro e w6 ⟨rfl, hb6⟩
              have hbw6 := bthen hbw hb6 hbw.size
              have htab6 := tab_rw (c := 256) (row_below hrw1 hb6)
              have hsum := sum_tab (.slice (some ⟨g, 0, none⟩) 256 256) _ ([] : List Int) w6 htab6 (hrwb.below hb6) hx hl
              clear hbw hrw1 htab hadd hb6 htab6
              rw [← hs2.out] at hsum
              go_wp2_with (first | (go_at_call 12; refine hsum.mono ?_; rintro e w7 ⟨rfl, hb7⟩) | (go_at_call 17; refine (end_any C2 hC2 _).mono ?_; rintro e w7 ⟨rfl, rfl⟩) | (go_at_call 10; refine (knows_any _).mono ?_; rintro e w5 ⟨rfl, hb5⟩))
              go_ret
              have hB7 := bthen hbw6 hb7 hbw6.size
              exact ⟨rfl, bthen hB7 hb5 hB7.size⟩
  obtain ⟨a0', c0', he0, hr0⟩ := id hrw
  simp only [Value.slice.injEq, true_and] at he0
  obtain ⟨rfl, rfl⟩ := he0
  obtain ⟨b, off, rfl, hcells0⟩ := hr0.resolve_left hne
  have hcells : Cells8 _ b off xs := hcells0
  clear hr0 hcells0 hcap
  go_enter Try.func6, Try.ntmps6
  go_wp2_with (first | (go_at_call 11; refine (great_any _ _ _ _).mono ?_; rintro e w ⟨rfl, rfl⟩; rw [hd]) | (go_at_call 8; refine (table_any _).mono ?_; rintro e w1 ⟨g, rfl, hg, hrow, hb1⟩) | (go_at_call 16; refine (begin_any _).mono ?_; rintro e w1 ⟨rfl, rfl⟩))
  go_loopw [6, 7, 8] (fun c p i wr => ∃ I P : Nat, I ≤ cs.length ∧ i = .int .i64 I ∧ P ≤ xs.length ∧ p = .int .i64 P ∧ ∃ C : Nat, c = .int .u32 C ∧ C < 2 ^ 32 ∧ Hid (C = addL entry 4294967295 ((xs.take P).map Int.toNat)) ∧ Below w.heap.size w wr ∧ wr.heap[g]? = some (.cells (tab.map (Value.int .u32)).toArray 24 (0, 0))) (fun _ _ i _ => cs.length - (intOf i).toNat)
  case atStart => exact ⟨0, 0, by omega, rfl, by omega, rfl, _, rfl, by decide, rfl, hb1, hrow⟩
  case round =>
    obtain ⟨I, P, hI, rfl, hP, rfl, C, rfl, hC, hs, hbw, hrw1⟩ := hrel
    by_cases hi : I < cs.length ∧ I < 20
    · obtain ⟨hi1, hi2⟩ := hi
      obtain ⟨bc, oc, rfl, hbc, hcc⟩ := hc1.resolve_left (by intro h; subst h; simp at hi1)
      have gc := (hbw.cell (p := ⟨bc, oc + I, none⟩) hbc).trans (hcc I hi1)
      generalize cs.getD I 0 = cut at gc
      clear hcc
      obtain ⟨Q, hq, hPQ⟩ := cut_at cut xs.length P hP
      have hQ : IntKind.i64.wrap (Q : Int) = Q := wraps_i64 _ (by omega) (by omega)
      have htake : Hid (xs.take (P + Q) = xs.take P ++ (xs.drop P).take Q) := List.take_add
      have hyl : ((xs.drop P).take Q).length = Q := by rw [List.length_take, List.length_drop]; omega
      have hyb : Byts ((xs.drop P).take Q) := fun x hm => hx x (List.mem_of_mem_drop (List.mem_of_mem_take hm))
      have htab := tab_rw (c := 256) hrw1
      have hC2 : addL entry C (((xs.drop P).take Q).map Int.toNat) < 2 ^ 32 := addL_entry_lt _ (nums_lt hyb) C hC
      have hs2 : Hid (addL entry C (((xs.drop P).take Q).map Int.toNat) = addL entry 4294967295 ((xs.take (P + Q)).map Int.toNat)) := by
        unfold Hid
        rw [htake.out, List.map_append, addL_append, ← hs.out]
      have hadd := fun v hv => add_tab (.slice (some ⟨g, 0, none⟩) 256 256) v ((xs.drop P).take Q) C wr htab hv hyb (by omega) hC
      generalize addL entry C (((xs.drop P).take Q).map Int.toNat) = C2 at hC2 hs2 hadd
      by_cases hcp : cap0 = P
      · subst hcp
        go_wp2_with fail
        refine (hadd _ (rw_zero (hcells.below hbw) hle rfl hPQ)).mono ?_
        rintro e w6 ⟨rfl, hb6⟩
        have hbw6 := bthen hbw hb6 hbw.size
        have hrw6 := row_below hrw1 hb6
        clear hbw hrw1 htab hadd hb6
        go_wp2
        exact ⟨⟨I + 1, cap0 + Q, by omega, by go_num, hPQ, by go_num, C2, rfl, hC2, hs2, hbw6, hrw6⟩, by simp [intOf]; omega⟩
      · go_wp2_with fail
        refine (hadd _ (rw_cut (hcells.below hbw) P Q hPQ)).mono ?_
        rintro e w6 ⟨rfl, hb6⟩
        have hbw6 := bthen hbw hb6 hbw.size
        have hrw6 := row_below hrw1 hb6
        clear hbw hrw1 htab hadd hb6
        go_wp2
        exact ⟨⟨I + 1, P + Q, by omega, by go_num, hPQ, by go_num, C2, rfl, hC2, hs2, hbw6, hrw6⟩, by simp [intOf]; omega⟩
    · have hge : (cs.length : Int) ≤ I ∨ ((I : Int) < cs.length ∧ (20 : Int) ≤ I) := by omega
      have htake : Hid (xs.take P ++ xs.drop P = xs) := List.take_append_drop P xs
      have hyl : (xs.drop P).length = xs.length - P := List.length_drop
      have hyb : Byts (xs.drop P) := fun x hm => hx x (List.mem_of_mem_drop hm)
      have htab := tab_rw (c := 256) hrw1
      have hC2 : addL entry C ((xs.drop P).map Int.toNat) < 2 ^ 32 := addL_entry_lt _ (nums_lt hyb) C hC
      have hs2 : Hid (addL entry C ((xs.drop P).map Int.toNat) ^^^ 4294967295 = crc (xs.map Int.toNat)) := by
        unfold Hid crc
        have h2 := addL_append entry 4294967295 ((xs.take P).map Int.toNat) ((xs.drop P).map Int.toNat)
        rw [← List.map_append, htake.out, ← hs.out] at h2
        rw [h2]
      have hadd := fun v hv => add_tab (.slice (some ⟨g, 0, none⟩) 256 256) v (xs.drop P) C wr htab hv hyb (by omega) hC
      generalize addL entry C ((xs.drop P).map Int.toNat) = C2 at hC2 hs2 hadd
      have hrwb := hrw.below hbw
      clear hi
      by_cases hcp : cap0 = P
      · subst hcp
        rcases hge with hge | ⟨hge, hge2⟩
        · go_wp2_with fail
          refine (hadd _ (rw_zero_end (hcells.below hbw) hle rfl hP)).mono ?_
          rintro e w6 ⟨rfl, hb6⟩
          have hbw6 := bthen hbw hb6 hbw.size
          have htab6 := tab_rw (c := 256) (row_below hrw1 hb6)
          have hsum := sum_tab (.slice (some ⟨g, 0, none⟩) 256 256) _ xs w6 htab6 (hrwb.below hb6) hx hl
          clear hbw hrw1 htab hadd hb6 htab6
          rw [← hs2.out] at hsum
          go_wp2_with (first | (go_at_call 12; refine hsum.mono ?_; rintro e w7 ⟨rfl, hb7⟩) | (go_at_call 17; refine (end_any C2 hC2 _).mono ?_; rintro e w7 ⟨rfl, rfl⟩) | (go_at_call 10; refine (knows_any _).mono ?_; rintro e w5 ⟨rfl, hb5⟩))
          go_ret
          have hB7 := bthen hbw6 hb7 hbw6.size
          exact ⟨rfl, bthen hB7 hb5 hB7.size⟩
        · go_wp2_with fail
          refine (hadd _ (rw_zero_end (hcells.below hbw) hle rfl hP)).mono ?_
          rintro e w6 ⟨rfl, hb6⟩
          have hbw6 := bthen hbw hb6 hbw.size
          have htab6 := tab_rw (c := 256) (row_below hrw1 hb6)
          have hsum := sum_tab (.slice (some ⟨g, 0, none⟩) 256 256) _ xs w6 htab6 (hrwb.below hb6) hx hl
          clear hbw hrw1 htab hadd hb6 htab6
          rw [← hs2.out] at hsum
          go_wp2_with (first | (go_at_call 12; refine hsum.mono ?_; rintro e w7 ⟨rfl, hb7⟩) | (go_at_call 17; refine (end_any C2 hC2 _).mono ?_; rintro e w7 ⟨rfl, rfl⟩) | (go_at_call 10; refine (knows_any _).mono ?_; rintro e w5 ⟨rfl, hb5⟩))
          go_ret
          have hB7 := bthen hbw6 hb7 hbw6.size
          exact ⟨rfl, bthen hB7 hb5 hB7.size⟩
      · rcases hge with hge | ⟨hge, hge2⟩
        · go_wp2_with fail
          refine (hadd _ (rw_cut_end (hcells.below hbw) P hP)).mono ?_
          rintro e w6 ⟨rfl, hb6⟩
          have hbw6 := bthen hbw hb6 hbw.size
          have htab6 := tab_rw (c := 256) (row_below hrw1 hb6)
          have hsum := sum_tab (.slice (some ⟨g, 0, none⟩) 256 256) _ xs w6 htab6 (hrwb.below hb6) hx hl
          clear hbw hrw1 htab hadd hb6 htab6
          rw [← hs2.out] at hsum
          go_wp2_with (first | (go_at_call 12; refine hsum.mono ?_; rintro e w7 ⟨rfl, hb7⟩) | (go_at_call 17; refine (end_any C2 hC2 _).mono ?_; rintro e w7 ⟨rfl, rfl⟩) | (go_at_call 10; refine (knows_any _).mono ?_; rintro e w5 ⟨rfl, hb5⟩))
          go_ret
          have hB7 := bthen hbw6 hb7 hbw6.size
          exact ⟨rfl, bthen hB7 hb5 hB7.size⟩
        · go_wp2_with fail
          refine (hadd _ (rw_cut_end (hcells.below hbw) P hP)).mono ?_
          rintro e w6 ⟨rfl, hb6⟩
          have hbw6 := bthen hbw hb6 hbw.size
          have htab6 := tab_rw (c := 256) (row_below hrw1 hb6)
          have hsum := sum_tab (.slice (some ⟨g, 0, none⟩) 256 256) _ xs w6 htab6 (hrwb.below hb6) hx hl
          clear hbw hrw1 htab hadd hb6 htab6
          rw [← hs2.out] at hsum
          go_wp2_with (first | (go_at_call 12; refine hsum.mono ?_; rintro e w7 ⟨rfl, hb7⟩) | (go_at_call 17; refine (end_any C2 hC2 _).mono ?_; rintro e w7 ⟨rfl, rfl⟩) | (go_at_call 10; refine (knows_any _).mono ?_; rintro e w5 ⟨rfl, hb5⟩))
          go_ret
          have hB7 := bthen hbw6 hb7 hbw6.size
          exact ⟨rfl, bthen hB7 hb5 hB7.size⟩


set_option maxRecDepth 100000 in
theorem lifted (os : Os) (started : os.Started) (H : Type) (enc : TypeId × Value → H) :
    ReturnsInHanded {} Try.checked os 6 .any (Rows.sumPartsSpec.pre6 enc Try.prog Try.f6 Rows.sumPartsRow.domain false) (Rows.sumPartsSpec.post enc Try.prog Try.f6 false true false false) := by
  refine returnsInHanded_of_change (C := Try.checked) own started (by kernel_rfl) Try.func6
    (ChangeSpec.witness6 (enc := enc) (C := Try.checked) false ⟨#[], #[.slice none 0 0, .slice none 0 0], []⟩ 8 (by kernel_rfl) (by kernel_rfl) (by kernel_rfl) (by kernel_rfl)) ?_
  intro W base args ds gs before hval0 hW hcnd _
  have hval : ∀ (j : Nat) t v, Try.f6.params[j]? = some t → args[j]? = some v → Value.okWide Try.prog W .any base t v := hval0
  have hW' := hW
  obtain ⟨p, q, hA0, hV, rfl, hfz, hnd⟩ := hW
  have hA : DataW.TrodAll enc Try.prog W 0 (fun _ => true) true Try.f6.params.toList args.toList ds p := hA0
  rw [Try.params6] at hA hval
  obtain ⟨v0, vs0, d0, ds0, p0, q0, hargs, rfl, rfl, h0, r0⟩ := trodAll_cons hA
  obtain ⟨v1, vs1, d1, ds1, p1, q1, rfl, rfl, rfl, h1, r1⟩ := trodAll_cons r0
  obtain ⟨rfl, rfl, rfl⟩ := trodAll_nil r1
  obtain rfl : args = #[v0, v1] := by cases args; simp_all
  obtain ⟨rfl, rfl⟩ := trodVars_none hV
  have k0 := h0
  have lt0 : ∀ x ∈ p0, x.block < W.heap.size := by obtain ⟨m, hm⟩ := k0; exact DataW.trod_lt m _ _ _ hm
  obtain ⟨a0, len0, cap0, rfl⟩ := okWide_slice Try.underlying28 (hval 0 28 v0 rfl rfl)
  obtain ⟨z0, w0⟩ : ∃ zs, IsRow .u8 W a0 len0 cap0 zs := by
    obtain ⟨fuel, hf⟩ := h0
    obtain ⟨a', l', c', zs, he, hr⟩ := ints_of_trod Try.underlying28 Try.underlying5 (by kernel_rfl) (show DataW.trod enc Try.prog W 0 (fun _ => true) true fuel 28 [.slice a0 len0 cap0] = _ from hf)
    simp only [Value.slice.injEq] at he
    obtain ⟨rfl, rfl, rfl⟩ := he
    exact ⟨zs, hr⟩
  have k1 := h1
  have lt1 : ∀ x ∈ p1, x.block < W.heap.size := by obtain ⟨m, hm⟩ := k1; exact DataW.trod_lt m _ _ _ hm
  obtain ⟨a1, len1, cap1, rfl⟩ := okWide_slice Try.underlying38 (hval 1 38 v1 rfl rfl)
  obtain ⟨z1, w1⟩ : ∃ zs, IsRow .i64 W a1 len1 cap1 zs := by
    obtain ⟨fuel, hf⟩ := h1
    obtain ⟨a', l', c', zs, he, hr⟩ := ints_of_trod Try.underlying38 Try.underlying3 (by kernel_rfl) (show DataW.trod enc Try.prog W 0 (fun _ => true) true fuel 38 [.slice a1 len1 cap1] = _ from hf)
    simp only [Value.slice.injEq] at he
    obtain ⟨rfl, rfl, rfl⟩ := he
    exact ⟨zs, hr⟩
  clear hA0 hval0
  refine (walk a0 len0 cap0 z0 a1 len1 cap1 z1 W w0 w1).mono fun e W' ⟨he, bel⟩ => ?_
  subst he
  exact ⟨_, rfl, _, _, _, [], _, [], hW', trodAll_mk1 (shut_bool Try.underlying4 _), (trodAll_cons_mk (Below.trod laidOut (by kernel_rfl) (of_decide_eq_true (by kernel_rfl)) k0 bel lt0) (trodAll_cons_mk (Below.trod laidOut (by kernel_rfl) (of_decide_eq_true (by kernel_rfl)) k1 bel lt1) trodAll_mk0)), rfl, bel.frame _, fun h => by cases h⟩

theorem over : Rows.sumPartsRow.holds Try.pinned (OpenSpec.ofChange Rows.sumPartsSpec) :=
  OpenClaim.holds_of_wide 6 Try.f6 rfl rfl rfl rfl rfl rfl rfl ⟨rfl, rfl, rfl, rfl, rfl⟩ rfl rfl rfl rfl rfl (by kernel_rfl) Try.func6 (by kernel_rfl)
    (of_decide_eq_true (by kernel_rfl)) (by unfold Func.isWrapper; first | (rw [if_pos (by decide +kernel)]; kernel_rfl) | (rw [if_neg (by decide +kernel)]; exact ⟨rfl, rfl⟩))
    (fun os started H enc _ => lifted os started H enc)

theorem proved : Rows.SumPartsSaid := over
#print axioms proved
end Go.Proofs.Ytdadkmklfphleaa.sumParts
