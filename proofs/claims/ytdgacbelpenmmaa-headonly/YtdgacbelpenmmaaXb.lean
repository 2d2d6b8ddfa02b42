/- Contracts of Right, the program's and the document's: whether the book is. -/
import Derived.Test.YtdgacbelpenmmaaRows
import Derived.Test.YtdgacbelpenmmaaXa
namespace Go.Proofs.Ytdgacbelpenmmaa
open Go.RowKit
set_option linter.unusedVariables false
set_option linter.unusedSimpArgs false

/-- What the loop over a book has seen. -/
structure Seen (l : List Int) (k u t : Nat) : Prop where
  hu : u = usedN (l.take k)
  ht : t = takenN (l.take k)
  hin : ∀ j, j < k → 0 ≤ l.getD j 0 ∧ l.getD j 0 ≤ 16
theorem Seen.start (l : List Int) : Seen l 0 0 0 := ⟨rfl, rfl, fun j h => by omega⟩
theorem Seen.none {l : List Int} {k u t : Nat} (h : Seen l k u t) (hk : k < l.length) (h0 : l.getD k 0 = 0) : Seen l (k + 1) u t :=
  ⟨by rw [used_take l k hk, h0, h.hu]; simp, by rw [taken_take l k hk, h0, h.ht]; simp [wt], fun j hj => by
    rcases Nat.lt_or_ge j k with h1 | h1
    · exact h.hin j h1
    · have : j = k := by omega
      subst this; omega⟩
theorem Seen.some {l : List Int} {k u t n : Nat} (h : Seen l k u t) (hk : k < l.length) (h0 : l.getD k 0 = n) (h1 : 1 ≤ n) (h2 : n ≤ 16) : Seen l (k + 1) (u + 1) (t + 2 ^ (16 - n)) :=
  ⟨by rw [used_take l k hk, h0, h.hu, if_pos (by omega)], by rw [taken_take l k hk, h0, h.ht]; unfold wt; rw [if_pos (by omega), Int.toNat_natCast], fun j hj => by
    rcases Nat.lt_or_ge j k with h1 | h1
    · exact h.hin j h1
    · have : j = k := by omega
      subst this; omega⟩
theorem Seen.small {l : List Int} {k u t : Nat} (h : Seen l k u t) (hl : l.length ≤ 64) : u ≤ 64 ∧ t ≤ 4194304 := by
  have h1 := used_le (l.take k)
  have h2 := taken_le (l.take k)
  have h3 : (l.take k).length ≤ 64 := by rw [List.length_take]; omega
  rw [← h.hu] at h1
  rw [← h.ht] at h2
  omega
theorem Seen.end_ {l : List Int} {u t : Nat} (h : Seen l l.length u t) (h1 : 2 ≤ l.length) (h2 : l.length ≤ 64) : rightL l = if u = 1 then decide (t = 32768) else decide (t = 65536) := by
  rw [right_end h1 h2 (inB_mk h.hin), h.hu, h.ht, List.take_length]
theorem pow_some (n : Nat) (h : n ≤ 16) : (2 : Nat) ^ (16 - n) ≤ 65536 := Nat.pow_le_pow_right (n := 2) (by decide) (show 16 - n ≤ 16 by omega)
theorem shl_some (n : Nat) (h : n ≤ 16) : wrap64 ((2 : Int) ^ (16 - n)) = ((2 ^ (16 - n) : Nat) : Int) := by
  have hp := pow_some n h
  have e2 : ((2 : Int) ^ (16 - n)) = ((2 ^ (16 - n) : Nat) : Int) := by simp
  rw [e2]
  generalize (2 : Nat) ^ (16 - n) = P at hp
  unfold wrap64; omega
theorem beq_a (t : Nat) : (((t : Int) == 32768) = decide (t = 32768)) := by
  rw [Bool.eq_iff_iff]; simp; omega
theorem beq_b (t : Nat) : (((t : Int) == 65536) = decide (t = 65536)) := by
  rw [Bool.eq_iff_iff]; simp; omega

set_option maxHeartbeats 1000000 in
theorem right_len_h (a : Option Addr) (len cap : Nat) (w : World) (h : len < 2 ∨ 64 < len) :
    Calls Try.prog 34 #[.slice a len cap] w fun e w' => e = .returned (.bool false) ∧ w' = w := by
  rcases h with h | h
  · go_enter Try.func34, Try.ntmps34
    go_wp2
    go_ret
    exact ⟨rfl, rfl⟩
  · go_enter Try.func34, Try.ntmps34
    go_wp2
    go_ret
    exact ⟨rfl, rfl⟩
set_option maxHeartbeats 1000000 in
theorem right_in_h (b off cap : Nat) (l : List Int) (w : World) (h1 : 2 ≤ l.length) (h2 : l.length ≤ 64) (hc : ∀ i, i < l.length → w.cell? ⟨b, off + i, none⟩ = some (.int .i64 (l.getD i 0))) :
    Calls Try.prog 34 #[.slice (some ⟨b, off, none⟩) l.length cap] w fun e w' => e = .returned (.bool (rightL l)) ∧ w' = w := by
  go_enter Try.func34, Try.ntmps34
  go_wp2
  go_loop [3, 4, 17] (fun us ta i => ∃ k u t : Nat, k ≤ l.length ∧ i = .int .i64 k ∧ us = .int .i64 u ∧ ta = .int .i64 t ∧ Seen l k u t ∧ u ≤ 64 ∧ t ≤ 4194304) (fun _ _ i => l.length - (intOf i).toNat)
  case atStart => exact ⟨0, 0, 0, by omega, rfl, rfl, rfl, Seen.start l, by omega, by omega⟩
  case round =>
    obtain ⟨k, u, t, hk, rfl, rfl, rfl, hs, hu, ht⟩ := hrel
    by_cases hlt : k < l.length
    · have g := hc k hlt
      have hn := fun h0 => hs.none hlt h0
      have hm := fun n h0 => hs.some (n := n) hlt h0
      have hno := fun h => right_not_in (inB_not (l := l) k hlt h)
      generalize l.getD k 0 = x at g hn hm hno
      clear hc hs
      by_cases c1 : x < 0
      · have hno2 : Hid _ := hno (by omega)
        clear hn hm hno
        go_wp2
        go_ret
        exact ⟨ret_bool hno2.out.symm, rfl⟩
      · by_cases c2 : 16 < x
        · have hno2 : Hid _ := hno (by omega)
          clear hn hm hno
          go_wp2
          go_ret
          exact ⟨ret_bool hno2.out.symm, rfl⟩
        · obtain ⟨n, rfl⟩ := Int.eq_ofNat_of_zero_le (show 0 ≤ x by omega)
          clear hno
          by_cases c3 : n = 0
          · have hs := hn (by omega)
            clear hn hm
            subst c3
            have hsm := hs.small h2
            go_wp2
            exact ⟨⟨k + 1, u, t, by omega, by go_num, rfl, rfl, hs, hsm.1, hsm.2⟩, by simp [intOf]; omega⟩
          · have hs := hm n rfl (by omega) (by omega)
            have hsm := hs.small h2
            have hsh := shl_some n (by omega)
            clear hn hm
            have hp := pow_some n (by omega)
            generalize (2 : Nat) ^ (16 - n) = P at hs hsm hsh hp
            have H1 : Hid _ := hs
            have H2 : Hid _ := hsm
            clear hs hsm
            go_wp2
            exact ⟨⟨k + 1, u + 1, t + P, by omega, by go_num, by go_num, by go_num, H1.out, H2.out.1, H2.out.2⟩, by simp [intOf]; omega⟩
    · have hge : l.length ≤ k := by omega
      clear hlt hc
      have : k = l.length := by omega
      subst this
      have hr : Hid _ := hs.end_ h1 h2
      clear hs hk hge
      by_cases c : u = 1
      · subst c
        go_wp2
        go_ret
        refine ⟨ret_bool ?_, rfl⟩
        rw [hr.out, if_pos True.intro]
        exact beq_a t
      · go_wp2
        go_ret
        refine ⟨ret_bool ?_, rfl⟩
        rw [hr.out, if_neg c]
        exact beq_b t
theorem hright_any (v : Value) (l : List Int) (w : World) (hv : Rw .i64 w v l) :
    Calls Try.prog 34 #[v] w fun e w' => e = .returned (.bool (rightL l)) ∧ w' = w := by
  obtain ⟨a, cap, rfl, ha⟩ := hv
  by_cases h : l.length < 2 ∨ 64 < l.length
  · rw [right_not_len h]
    exact right_len_h a _ cap w h
  · obtain ⟨b, off, rfl, hb, hc⟩ := ha.resolve_left (by intro h0; subst h0; simp at h)
    exact right_in_h b off cap l w (by omega) (by omega) hc

set_option maxHeartbeats 1000000 in
theorem rright_len_h (a : Option Addr) (len cap : Nat) (w : World) (h : len < 2 ∨ 64 < len) :
    Calls Try.prog 22 #[.slice a len cap] w fun e w' => e = .returned (.bool false) ∧ w' = w := by
  rcases h with h | h
  · go_enter Try.func22, Try.ntmps22
    go_wp2
    go_ret
    exact ⟨rfl, rfl⟩
  · go_enter Try.func22, Try.ntmps22
    go_wp2
    go_ret
    exact ⟨rfl, rfl⟩
theorem half_pow (q : Nat) (hq : q < 16) (P : Nat) (hP : P = 2 ^ (16 - q)) : Hid ((((P : Int) / 2)) = ((2 ^ (16 - (q + 1)) : Nat) : Int)) := by
  have : (2 : Nat) ^ (16 - q) = 2 ^ (16 - (q + 1)) * 2 := by rw [← Nat.pow_succ]; congr 1; omega
  unfold Hid
  generalize (2 : Nat) ^ (16 - (q + 1)) = R at this
  omega
set_option maxHeartbeats 2000000 in
theorem rright_in_h (b off cap : Nat) (l : List Int) (w : World) (h1 : 2 ≤ l.length) (h2 : l.length ≤ 64) (hc : ∀ i, i < l.length → w.cell? ⟨b, off + i, none⟩ = some (.int .i64 (l.getD i 0))) :
    Calls Try.prog 22 #[.slice (some ⟨b, off, none⟩) l.length cap] w fun e w' => e = .returned (.bool (rightL l)) ∧ w' = w := by
  go_enter Try.func22, Try.ntmps22
  go_wp2
  go_loop [3, 4, 5] (fun ta us i => ∃ k u t : Nat, k ≤ l.length ∧ i = .int .i64 k ∧ us = .int .i64 u ∧ ta = .int .i64 t ∧ Seen l k u t ∧ u ≤ 64 ∧ t ≤ 4194304) (fun _ _ i => l.length - (intOf i).toNat)
  case atStart => exact ⟨0, 0, 0, by omega, rfl, rfl, rfl, Seen.start l, by omega, by omega⟩
  case round =>
    obtain ⟨k, u, t, hk, rfl, rfl, rfl, hs, hu, ht⟩ := hrel
    by_cases hlt : k < l.length
    · have g := hc k hlt
      have hn := fun h0 => hs.none hlt h0
      have hm := fun n h0 => hs.some (n := n) hlt h0
      have hno := fun h => right_not_in (inB_not (l := l) k hlt h)
      generalize l.getD k 0 = x at g hn hm hno
      clear hc hs
      by_cases c1 : x < 0
      · have hno2 : Hid _ := hno (by omega)
        clear hn hm hno
        go_wp2
        go_ret
        exact ⟨ret_bool hno2.out.symm, rfl⟩
      · by_cases c2 : 16 < x
        · have hno2 : Hid _ := hno (by omega)
          clear hn hm hno
          go_wp2
          go_ret
          exact ⟨ret_bool hno2.out.symm, rfl⟩
        · obtain ⟨n, rfl⟩ := Int.eq_ofNat_of_zero_le (show 0 ≤ x by omega)
          clear hno
          by_cases c3 : n = 0
          · have hs := hn (by omega)
            clear hn hm
            subst c3
            have hsm := hs.small h2
            go_wp2
            exact ⟨⟨k + 1, u, t, by omega, by go_num, rfl, rfl, hs, hsm.1, hsm.2⟩, by simp [intOf]; omega⟩
          · have H1 : Hid _ := hm n rfl (by omega) (by omega)
            clear hn hm
            go_wp2
            go_loop [6, 7] (fun pa q => ∃ i P : Nat, i ≤ n ∧ q = .int .i64 i ∧ pa = .int .i64 P ∧ P ≤ 65536 ∧ Hid (P = 2 ^ (16 - i))) (fun _ q => n - (intOf q).toNat)
            case atStart => exact ⟨0, 65536, by omega, rfl, rfl, by omega, by unfold Hid; rfl⟩
            case round =>
              obtain ⟨i, P, hi, rfl, rfl, hP, HP⟩ := hrel
              by_cases hin : i < n
              · have hh := half_pow i (by omega) P HP.out
                go_wp2
                refine ⟨⟨i + 1, P / 2, by omega, by go_num, by simp, by omega, ?_⟩, by simp [intOf]; omega⟩
                have := hh.out
                unfold Hid
                omega
              · have : i = n := by omega
                subst this
                have hs := H1.out
                rw [← HP.out] at hs
                have hsm := hs.small h2
                have H2 : Hid _ := hs
                have H3 : Hid _ := hsm
                clear hs hsm hin
                go_wp2
                exact ⟨⟨k + 1, u + 1, t + P, by omega, by go_num, by go_num, by go_num, H2.out, H3.out.1, H3.out.2⟩, by simp [intOf]; omega⟩
    · have hge : l.length ≤ k := by omega
      clear hlt hc
      have : k = l.length := by omega
      subst this
      have hr : Hid _ := hs.end_ h1 h2
      have hz : Hid (u = 0 → t = 0) := fun h => by rw [hs.ht]; exact taken_none _ (by rw [← hs.hu]; exact h)
      clear hs hk hge
      by_cases c : u = 1
      · subst c
        go_wp2
        go_ret
        refine ⟨ret_bool ?_, rfl⟩
        rw [hr.out, if_pos True.intro]
        exact beq_a t
      · by_cases c0 : u = 0
        · have := hz.out c0
          subst c0 this
          go_wp2
          go_ret
          refine ⟨ret_bool ?_, rfl⟩
          rw [hr.out, if_neg c]
          rfl
        · go_wp2
          go_ret
          refine ⟨ret_bool ?_, rfl⟩
          rw [hr.out, if_neg c]
          exact beq_b t
theorem rright4_any (v : Value) (l : List Int) (w : World) (hv : Rw .i64 w v l) :
    Calls Try.prog 22 #[v] w fun e w' => e = .returned (.bool (rightL l)) ∧ w' = w := by
  obtain ⟨a, cap, rfl, ha⟩ := hv
  by_cases h : l.length < 2 ∨ 64 < l.length
  · rw [right_not_len h]
    exact rright_len_h a _ cap w h
  · obtain ⟨b, off, rfl, hb, hc⟩ := ha.resolve_left (by intro h0; subst h0; simp at h)
    exact rright_in_h b off cap l w (by omega) (by omega) hc
end Go.Proofs.Ytdgacbelpenmmaa
