/- Contracts of Codes, and of the document's Code, spread and Number. -/
import Derived.Test.YtnlahpnpajadpaaXb
import Derived.Test.YtnlahpnpajadpaaWe
namespace Go.Proofs.Ytnlahpnpajadpaa
open Go.RowKit
set_option linter.unusedVariables false
set_option linter.unusedSimpArgs false

theorem info_u32 : (Try.prog.info? 29).map (fun i => (i.zero, i.size, i.bytes)) = some (some (.int .u32 0), 1, 4) := by kernel_rfl

theorem codes_len (l : List Int) : (codesL l).length = l.length := by simp [codesL]
theorem codes_at (l : List Int) (s : Nat) (h : s < l.length) : (codesL l).getD s 0 = codeAt l s := by
  unfold codesL; simp [h]

/-- What the codes are, behind the lengths below n, and the first k symbols of n bits. -/
structure Out (l : List Int) (n k : Nat) (cur : List Int) : Prop where
  len : cur.length = l.length
  at_ : ∀ s, s < l.length → cur.getD s 0 = if 0 < l.getD s 0 ∧ (l.getD s 0 < n ∨ l.getD s 0 = n ∧ s < k) then (cd l s : Int) else 0
theorem Out.start (l : List Int) : Out l 1 0 (List.replicate l.length 0) :=
  ⟨by simp, fun s hs => by rw [if_neg (by omega)]; simp [hs]⟩
theorem getD_set (l : List Int) (i j : Nat) (y : Int) (hi : i < l.length) : (l.set i y).getD j 0 = if j = i then y else l.getD j 0 := by
  rw [List.getD_eq_getElem?_getD, List.getD_eq_getElem?_getD, List.getElem?_set]
  by_cases h : i = j
  · subst h; simp [hi]
  · rw [if_neg h, if_neg (Ne.symm h)]
theorem Out.hit {l : List Int} {n k y : Nat} {cur : List Int} (h : Out l n k cur) (hn : 1 ≤ n) (hk : k < l.length) (e : l.getD k 0 = n) (hy : y = F l n + (l.take k).count (n : Int)) : Out l n (k + 1) (cur.set k (y : Int)) :=
  ⟨by rw [List.length_set]; exact h.len, fun s hs => by
    rw [getD_set _ _ _ _ (by rw [h.len]; exact hk)]
    by_cases hsk : s = k
    · subst hsk
      rw [if_pos rfl, if_pos (by omega), hy]
      unfold cd
      rw [e, Int.toNat_natCast]
    · rw [if_neg hsk, h.at_ s hs]
      have : (0 < l.getD s 0 ∧ (l.getD s 0 < n ∨ l.getD s 0 = n ∧ s < k)) ↔ (0 < l.getD s 0 ∧ (l.getD s 0 < n ∨ l.getD s 0 = n ∧ s < k + 1)) := by omega
      simp only [this]⟩
theorem Out.miss {l : List Int} {n k : Nat} {cur : List Int} (h : Out l n k cur) (e : l.getD k 0 ≠ n) : Out l n (k + 1) cur :=
  ⟨h.len, fun s hs => by
    rw [h.at_ s hs]
    have : (0 < l.getD s 0 ∧ (l.getD s 0 < n ∨ l.getD s 0 = n ∧ s < k)) ↔ (0 < l.getD s 0 ∧ (l.getD s 0 < n ∨ l.getD s 0 = n ∧ s < k + 1)) := by
      by_cases hsk : s = k
      · subst hsk; omega
      · omega
    simp only [this]⟩
theorem Out.next {l : List Int} {n : Nat} {cur : List Int} (h : Out l n l.length cur) : Out l (n + 1) 0 cur :=
  ⟨h.len, fun s hs => by
    rw [h.at_ s hs]
    have : (0 < l.getD s 0 ∧ (l.getD s 0 < n ∨ l.getD s 0 = n ∧ s < l.length)) ↔ (0 < l.getD s 0 ∧ (l.getD s 0 < ((n + 1 : Nat) : Int) ∨ l.getD s 0 = ((n + 1 : Nat) : Int) ∧ s < 0)) := by omega
    simp only [this]⟩
theorem Out.end_ {l : List Int} {cur : List Int} (h : Out l 17 0 cur) (hb : inB l = true) : cur = codesL l := by
  refine List.ext_getElem (by rw [h.len]; simp [codesL]) fun s h1 h2 => ?_
  have hs : s < l.length := by rw [← h.len]; exact h1
  have e := h.at_ s hs
  have hbs := inB_at hb s
  rw [List.getD_eq_getElem?_getD, List.getElem?_eq_getElem h1] at e
  simp only [Option.getD_some] at e
  rw [e]
  have e2 := codes_at l s hs
  rw [List.getD_eq_getElem?_getD, List.getElem?_eq_getElem h2] at e2
  simp only [Option.getD_some] at e2
  rw [e2]
  unfold codeAt
  have : (0 < l.getD s 0 ∧ (l.getD s 0 < ((17 : Nat) : Int) ∨ l.getD s 0 = ((17 : Nat) : Int) ∧ s < 0)) ↔ 0 < l.getD s 0 := by omega
  simp only [this]
/-- The next code, as far as the loops are. -/
def Nx (l : List Int) (n k y : Nat) : Prop := y = F l n + (l.take k).count (n : Int)
theorem Nx.small {l : List Int} {n k y : Nat} (h : Nx l n k y) (hl : l.length ≤ 64) (hn : n ≤ 16) : y ≤ 8388544 := by
  have h1 := F_small l hl n hn
  have h2 := count_take_le l k (n : Int)
  have h3 : l.count (n : Int) ≤ l.length := List.count_le_length
  unfold Nx at h
  omega
theorem Nx.hit {l : List Int} {n k y : Nat} (h : Nx l n k y) (hk : k < l.length) (e : l.getD k 0 = n) : Nx l n (k + 1) (y + 1) := by
  unfold Nx at *
  rw [count_take l k hk, if_pos e, h]; omega
theorem Nx.miss {l : List Int} {n k y : Nat} (h : Nx l n k y) (hk : k < l.length) (e : l.getD k 0 ≠ n) : Nx l n (k + 1) y := by
  unfold Nx at *
  rw [count_take l k hk, if_neg e, h]; omega
theorem Nx.next {l : List Int} {n y : Nat} (hn : 1 ≤ n) (h : Nx l n l.length y) : Nx l (n + 1) 0 (2 * y) := by
  unfold Nx at *
  rw [List.take_length] at h
  simp only [F, List.take_zero, List.count_nil]
  rw [if_neg (by omega), h]
  omega
theorem Nx.start (l : List Int) : Nx l 1 0 0 := by unfold Nx; simp [F]

set_option maxHeartbeats 1000000 in
theorem codes_no (v : Value) (l : List Int) (w : World) (hv : Rw .i64 w v l) (hr : rightL l = false) :
    Calls Try.prog 13 #[v] w fun e w' => e = .returned (.tuple #[.slice none 0 0, .int .i64 1]) ∧ w' = w := by
  go_enter Try.func13, Try.ntmps13
  go_wp2_with (go_at_call 11; refine (hright_any v l _ hv).mono ?_; rintro e w' ⟨rfl, rfl⟩; rw [hr])
  go_ret2
  exact ⟨rfl, rfl⟩

set_option maxHeartbeats 2000000 in
theorem codes_ok (v : Value) (l : List Int) (w : World) (hv : Rw .i64 w v l) (hr : rightL l = true) :
    Calls Try.prog 13 #[v] w fun e w' => ∃ g, e = .returned (.tuple #[.slice (some ⟨g, 0, none⟩) l.length l.length, .int .i64 0]) ∧ RwF w.heap.size .u32 w' (.slice (some ⟨g, 0, none⟩) l.length l.length) (codesL l) ∧ Below w.heap.size w w' := by
  obtain ⟨i0, hi, hz0, hz1, hz2⟩ := info_parts info_u32
  obtain ⟨hl1, hl2, hb, _⟩ := right_parts hr
  have hv0 := hv
  obtain ⟨a, cap, rfl, ha⟩ := hv
  obtain ⟨b, off, rfl, hbs, hc⟩ := ha.resolve_left (by intro h0; subst h0; simp at hl1)
  have HB : Hid _ := hb
  clear ha hb
  go_enter Try.func13, Try.ntmps13
  go_wp2_with (first | (go_at_call 11; refine (hright_any _ l _ hv0).mono ?_; rintro e w' ⟨rfl, rfl⟩; rw [hr]) | (at_make; refine wpList_make_full _ rfl _ _ 25 rfl w'.heap.size 29 i0 (.int .u32 0) 1 Try.underlying25 hi hz0 hz1 .i64 .i64 _ _ l.length rfl rfl (by omega) (by omega) (by rw [hz2]; omega) (by unfold maxLen; omega) (by simp) ?_))
  intro w1 hown1 hgrow1
  have hb1 := grown_of_none hgrow1
  have hfull := owns_full hown1
  rw [made_one] at hfull
  have hc1 : ∀ i, i < l.length → w1.cell? ⟨b, off + i, none⟩ = some (.int .i64 (l.getD i 0)) := fun i hi => (hb1.cell (p := ⟨b, off + i, none⟩) hbs).trans (hc i hi)
  have hw1 := hb1.size
  have hw2 : w'.heap.size < w1.heap.size := by
    rcases Nat.lt_or_ge w'.heap.size w1.heap.size with h' | h'
    · exact h'
    · rw [Array.getElem?_eq_none h'] at hfull; cases hfull.1
  have HF : Hid (w1.heap[w'.heap.size]? = some (.cells ((List.replicate l.length (0 : Int)).map (Value.int .u32)).toArray 29 (0, 0))) := by
    unfold Hid; rw [List.map_replicate]; exact hfull.1
  clear hown1 hgrow1 hfull hv0
  go_wp2
  go_loopw [5, 6] (fun y i wr => ∃ n p : Nat, ∃ cur : List Int, 1 ≤ n ∧ n ≤ 17 ∧ i = .int .i64 n ∧ y = .int .u32 p ∧ p ≤ 8388544 ∧ Hid (Nx l n 0 (2 * p)) ∧ Hid (Out l n 0 cur) ∧ Hid (wr.heap[w'.heap.size]? = some (.cells (cur.map (Value.int .u32)).toArray 29 (0, 0))) ∧ Below w'.heap.size w' wr ∧ w'.heap.size < wr.heap.size) (fun _ i _ => 17 - (intOf i).toNat)
  case atStart => exact ⟨1, 0, _, by omega, by omega, rfl, rfl, by omega, Nx.start l, Out.start l, HF, hb1, hw2⟩
  case round =>
    obtain ⟨n, p, cur, hn1, hn2, rfl, rfl, hp, HN, HO, HW, hnx, hsz⟩ := hrel
    clear HF
    by_cases h17 : n ≤ 16
    · have hp2 := HN.out.small hl2 h17
      go_wp2
      obtain ⟨W1, rfl⟩ : ∃ x, x = wr := ⟨wr, rfl⟩
      go_loopw [5, 23] (fun y i wr => ∃ k q : Nat, ∃ cur : List Int, k ≤ l.length ∧ i = .int .i64 k ∧ y = .int .u32 q ∧ q ≤ 8388544 ∧ Hid (Nx l n k q) ∧ Hid (Out l n k cur) ∧ Hid (wr.heap[w'.heap.size]? = some (.cells (cur.map (Value.int .u32)).toArray 29 (0, 0))) ∧ Below w'.heap.size w' wr ∧ w'.heap.size < wr.heap.size) (fun _ i _ => l.length - (intOf i).toNat)
      case atStart => exact ⟨0, 2 * p, cur, by omega, rfl, by go_num, hp2, HN, HO, HW, hnx, hsz⟩
      case round =>
        obtain ⟨k, q, cur2, hk, rfl, rfl, hq, HN2, HO2, HW2, hnx2, hsz2⟩ := hrel
        by_cases hlt : k < l.length
        · have g := (hnx2.cell (p := ⟨b, off + k, none⟩) hbs).trans (hc k hlt)
          obtain ⟨c1, c2⟩ := cell_of_row HW2.out k (by rw [HO2.out.len]; exact hlt)
          have hhit : Hid (∀ e : l.getD k 0 = n, _ ∧ _) := fun e => And.intro (HO2.out.hit hn1 hlt e HN2.out) (HN2.out.hit hlt e)
          have hmiss : Hid (∀ e : l.getD k 0 ≠ n, _ ∧ _) := fun e => And.intro (HO2.out.miss e) (HN2.out.miss hlt e)
          generalize l.getD k 0 = x at g hhit hmiss
          generalize cur2.getD k 0 = z at c1
          clear hc hc1 hnx hsz HW HO HN hp hp2
          by_cases hx : x = n
          · subst hx
            obtain ⟨r1, r2⟩ := hhit.out rfl
            have R1 : Hid _ := r1
            have R2 : Hid _ := r2
            have hq2 : q + 1 ≤ 8388544 := r2.small hl2 h17
            clear r1 r2 hhit hmiss
            go_wp2
            refine ⟨⟨k + 1, q + 1, cur2.set k (q : Int), by omega, by go_num, by go_num, hq2, R2, R1, row_set HW2.out _ _, hnx2.setCell (p := ⟨w'.heap.size, k, none⟩) (Nat.le_refl _) _, by simpa [World.setCell] using hsz2⟩, by simp [intOf]; omega⟩
          · obtain ⟨r1, r2⟩ := hmiss.out hx
            have R1 : Hid _ := r1
            have R2 : Hid _ := r2
            clear r1 r2 hhit hmiss
            go_wp2
            refine ⟨⟨k + 1, q, cur2, by omega, by go_num, rfl, hq, R2, R1, HW2, hnx2, hsz2⟩, by simp [intOf]; omega⟩
        · have : k = l.length := by omega
          subst this
          have R1 : Hid _ := HO2.out.next
          have R2 : Hid _ := HN2.out.next hn1
          clear hlt HO2 HN2 HO HN HW hnx hsz hc hc1
          go_wp2
          refine ⟨⟨n + 1, q, cur2, by omega, by omega, by go_num, rfl, hq, R2, R1, HW2, hnx2, hsz2⟩, by simp [intOf]; omega⟩
    · have : n = 17 := by omega
      subst this
      have hcur := HO.out.end_ HB.out
      have hlen := HO.out.len
      subst hcur
      clear h17 hc hc1 HN HO
      go_wp2
      go_ret2
      refine ⟨_, rfl, ?_, hnx⟩
      have := RwF.of_row (base := w'.heap.size) (c := l.length) HW.out hlen (Nat.le_refl _)
      exact this
end Go.Proofs.Ytnlahpnpajadpaa
