/- Contracts of Add, by any table: the document's, the program's closure, and Add and Sum themselves. -/
import Derived.Test.YtdadkmklfphleaaWa
namespace Go.Proofs.Ytdadkmklfphleaa
open Go.RowKit
set_option linter.unusedVariables false
set_option linter.unusedSimpArgs false

/-- Numbers of 32 bits. -/
def U32s (l : List Int) : Prop := ∀ x ∈ l, 0 ≤ x ∧ x < 2 ^ 32
theorem U32s.getD {l : List Int} (h : U32s l) (i : Nat) : 0 ≤ l.getD i 0 ∧ l.getD i 0 < 2 ^ 32 := by
  by_cases hi : i < l.length
  · have hm := h _ (List.getElem_mem hi)
    simpa [List.getD_eq_getElem?_getD, List.getElem?_eq_getElem hi] using hm
  · rw [List.getD_eq_getElem?_getD, List.getElem?_eq_none (by omega)]; simp
/-- A table as a function. -/
def tfn (ts : List Int) (i : Nat) : Nat := (ts.getD i 0).toNat
/-- What bytes make of a number, by a table. -/
def addI (ts : List Int) (c : Nat) (xs : List Int) : Nat := addL (tfn ts) c (xs.map Int.toNat)
theorem addI_nil (ts : List Int) (c : Nat) : addI ts c [] = c := rfl
theorem addI_append (ts : List Int) (c : Nat) (xs ys : List Int) : addI ts c (xs ++ ys) = addI ts (addI ts c xs) ys := by
  unfold addI; rw [List.map_append, addL_append]
theorem addI_succ (ts : List Int) (c : Nat) (xs : List Int) (k : Nat) (hk : k < xs.length) : addI ts c (xs.take (k + 1)) = addB (tfn ts) (addI ts c (xs.take k)) (xs.getD k 0).toNat := by
  have e : xs.take (k + 1) = xs.take k ++ [xs.getD k 0] := by
    rw [List.take_add_one, List.getD_eq_getElem?_getD, List.getElem?_eq_getElem hk]; rfl
  rw [e, addI_append]; rfl
theorem addB_lt {ts : List Int} (ht : U32s ts) (c b : Nat) (hc : c < 2 ^ 32) : addB (tfn ts) c b < 2 ^ 32 := by
  unfold addB tfn
  refine Nat.xor_lt_two_pow (by omega) ?_
  have := ht.getD (c % 256 ^^^ b)
  omega
theorem addL_lt {ts : List Int} (ht : U32s ts) (l : List Nat) (c : Nat) (hc : c < 2 ^ 32) : addL (tfn ts) c l < 2 ^ 32 := by
  induction l generalizing c with
  | nil => exact hc
  | cons b l ih => exact ih _ (addB_lt ht c b hc)
theorem addI_lt {ts : List Int} (ht : U32s ts) (xs : List Int) (c : Nat) (hc : c < 2 ^ 32) : addI ts c xs < 2 ^ 32 := addL_lt ht _ c hc

theorem xor8_lt (a b : Nat) (ha : a < 256) (hb : b < 256) : a ^^^ b < 256 := Nat.xor_lt_two_pow (n := 8) ha hb

theorem byte_step (y x : Nat) (hx : x < 256) : bits .xor .u8 ((y : Int) % 256) (x : Int) = ((y % 256 ^^^ x : Nat) : Int) := by
  have h := u8_xor_nat (y % 256) x (by omega) hx
  have e : ((y % 256 : Nat) : Int) = (y : Int) % 256 := by omega
  rw [e] at h
  exact h
theorem word_step (y : Nat) (t : Int) (hy : y < 2 ^ 32) (ht : 0 ≤ t ∧ t < 2 ^ 32) : bits .xor .u32 ((y : Int) / 256) t = ((y / 256 ^^^ t.toNat : Nat) : Int) := by
  obtain ⟨X, rfl⟩ := Int.eq_ofNat_of_zero_le ht.1
  have h := u32_xor_nat (y / 256) X (by omega) (by omega)
  have e : ((y / 256 : Nat) : Int) = (y : Int) / 256 := by omega
  rw [e] at h
  rw [Int.toNat_natCast]
  exact h

set_option maxHeartbeats 400000 in
theorem addR_any (vt vb : Value) (ts xs : List Int) (c : Nat) (w : World) (ht : Rw .u32 w vt ts) (hu : U32s ts) (hl : ts.length = 256) (hb : Rw .u8 w vb xs) (hx : Byts xs) (hxl : xs.length ≤ 5000) (hc : c < 2 ^ 32) :
    Calls Try.prog 15 #[vt, .int .u32 c, vb] w fun e w' => e = .returned (.int .u32 (addI ts c xs)) ∧ w' = w := by
  obtain ⟨at_, ct, rfl, ht⟩ := ht
  obtain ⟨bt, ot, rfl, hbt, hct⟩ := ht.resolve_left (by intro h; subst h; simp at hl)
  rw [hl] at hct ⊢
  obtain ⟨ab, cb, rfl, hb⟩ := hb
  have hl' : Hid _ := hl
  clear hl
  go_enter Try.func15, Try.ntmps15
  go_wp2
  go_loop [1, 7] (fun v i => ∃ k : Nat, k ≤ xs.length ∧ i = .int .i64 k ∧ v = .int .u32 (addI ts c (xs.take k))) (fun _ i => xs.length - (intOf i).toNat)
  case atStart => exact ⟨0, by omega, rfl, rfl⟩
  case round =>
    obtain ⟨k, hk, rfl, rfl⟩ := hrel
    by_cases h8 : k < xs.length
    · have hs : Hid _ := addI_succ ts c xs k h8
      have hlt := addI_lt hu (xs.take k) c hc
      obtain ⟨b, off, rfl, hbl, hcb⟩ := hb.resolve_left (by intro h; subst h; simp at h8)
      have g := hcb k h8
      have hx1 := hx.getD k
      generalize xs.getD k 0 = x at g hx1 hs
      obtain ⟨X, rfl⟩ := Int.eq_ofNat_of_zero_le hx1.1
      rw [Int.toNat_natCast] at hs
      generalize addI ts c (xs.take k) = y at hs hlt
      have hX : X < 256 := by omega
      have e1 : bits .xor .u32 ((y : Int) % 256) (X : Int) = ((y % 256 ^^^ X : Nat) : Int) := by
        have h := u32_xor_nat (y % 256) X (by omega) (by omega)
        have e : ((y % 256 : Nat) : Int) = (y : Int) % 256 := by omega
        rw [e] at h
        exact h
      have hj := xor8_lt (y % 256) X (by omega) hX
      have gt := hct (y % 256 ^^^ X) hj
      have ht1 := hu.getD (y % 256 ^^^ X)
      have hs2 : Hid (addI ts c (xs.take (k + 1)) = y / 256 ^^^ (ts.getD (y % 256 ^^^ X) 0).toNat) := hs.out
      generalize ts.getD (y % 256 ^^^ X) 0 = t at gt ht1 hs2
      generalize y % 256 ^^^ X = j at gt e1 hj
      clear hs hct hcb
      go_wp2
      refine ⟨⟨k + 1, by omega, by go_num, ?_⟩, by simp [intOf]; omega⟩
      rw [hs2.out, word_step y t hlt ht1]
    · have hge : xs.length ≤ k := by omega
      clear h8
      go_wp2
      have : k = xs.length := by omega
      subst this
      go_ret
      exact ⟨ret_int (by rw [List.take_length]), rfl⟩

set_option maxRecDepth 10000 in
set_option maxHeartbeats 400000 in
theorem clo_any (vt vb : Value) (ts xs : List Int) (c B : Nat) (w : World) (hB : w.cell? ⟨B, 0, none⟩ = some vt) (ht : Rw .u32 w vt ts) (hu : U32s ts) (hl : ts.length = 256) (hb : Rw .u8 w vb xs) (hx : Byts xs) (hxl : xs.length ≤ 5000) (hc : c < 2 ^ 32) :
    Calls Try.prog 20 #[.int .u32 c, vb, .pointer (some ⟨B, 0, none⟩)] w fun e w' => e = .returned (.int .u32 (addI ts c xs)) ∧ w' = w := by
  obtain ⟨at_, ct, rfl, ht⟩ := ht
  obtain ⟨bt, ot, rfl, hbt, hct⟩ := ht.resolve_left (by intro h; subst h; simp at hl)
  rw [hl] at hct hB
  obtain ⟨ab, cb, rfl, hb⟩ := hb
  have hl' : Hid _ := hl
  clear hl
  go_enter Try.func20, Try.ntmps20
  go_wp2
  go_loop [0, 10] (fun v i => ∃ k : Nat, k ≤ xs.length ∧ i = .int .i64 k ∧ v = .int .u32 (addI ts c (xs.take k))) (fun _ i => xs.length - (intOf i).toNat)
  case atStart => exact ⟨0, by omega, rfl, rfl⟩
  case round =>
    obtain ⟨k, hk, rfl, rfl⟩ := hrel
    by_cases h8 : k < xs.length
    · have hs : Hid _ := addI_succ ts c xs k h8
      have hlt := addI_lt hu (xs.take k) c hc
      obtain ⟨b, off, rfl, hbl, hcb⟩ := hb.resolve_left (by intro h; subst h; simp at h8)
      have g := hcb k h8
      have hx1 := hx.getD k
      generalize xs.getD k 0 = x at g hx1 hs
      obtain ⟨X, rfl⟩ := Int.eq_ofNat_of_zero_le hx1.1
      rw [Int.toNat_natCast] at hs
      generalize addI ts c (xs.take k) = y at hs hlt
      have hX : X < 256 := by omega
      have e1 := byte_step y X hX
      have hj := xor8_lt (y % 256) X (by omega) hX
      have gt := hct (y % 256 ^^^ X) hj
      have ht1 := hu.getD (y % 256 ^^^ X)
      have hs2 : Hid (addI ts c (xs.take (k + 1)) = y / 256 ^^^ (ts.getD (y % 256 ^^^ X) 0).toNat) := hs.out
      generalize ts.getD (y % 256 ^^^ X) 0 = t at gt ht1 hs2
      generalize y % 256 ^^^ X = j at gt e1 hj
      clear hs hct hcb
      go_wp2
      refine ⟨⟨k + 1, by omega, by go_num, ?_⟩, by simp [intOf]; omega⟩
      rw [hs2.out, word_step y t hlt ht1]
    · have hge : xs.length ≤ k := by omega
      clear h8
      go_wp2
      have : k = xs.length := by omega
      subst this
      go_ret
      exact ⟨ret_int (by rw [List.take_length]), rfl⟩

/-- What Add answers: the number, and the error. -/
def addV (ts : List Int) (c : Nat) (xs : List Int) : Nat := if ts.length = 256 then addI ts c xs else 0
def addE (ts : List Int) : Int := if ts.length = 256 then 0 else 1
/-- What Sum answers. -/
def sumV (ts : List Int) (xs : List Int) : Nat := if ts.length = 256 then addI ts 4294967295 xs ^^^ 4294967295 else 0

theorem steps_any (a : Option Addr) (len cap : Nat) (w : World) : Calls Try.prog 19 #[.slice a len cap] w fun e w' => e = .returned (.func (.func 20) #[] #[.pointer (some ⟨w.heap.size, 0, none⟩)]) ∧ w' = w.alloc (.cells #[.slice a len cap] 22) := by
  go_enter Try.func19, Try.ntmps19
  go_wp2
  go_ret
  exact ⟨rfl, rfl⟩

theorem add_any (vt vb : Value) (ts xs : List Int) (c : Nat) (w : World) (ht : Rw .u32 w vt ts) (hu : U32s ts) (hb : Rw .u8 w vb xs) (hx : Byts xs) (hxl : xs.length ≤ 5000) (hc : c < 2 ^ 32) :
    Calls Try.prog 14 #[vt, .int .u32 c, vb] w fun e w' => e = .returned (.tuple #[.int .u32 (addV ts c xs), .int .i64 (addE ts)]) ∧ Below w.heap.size w w' := by
  unfold addV addE
  by_cases hl : ts.length = 256
  · rw [if_pos hl, if_pos hl]
    obtain ⟨at_, ct, rfl, _⟩ := id ht
    have hW := below1 w (.cells #[.slice at_ ts.length ct] 22)
    have hcl := clo_any (.slice at_ ts.length ct) vb ts xs c w.heap.size (w.alloc (.cells #[.slice at_ ts.length ct] 22)) (by simp [go_sem]) (ht.below hW) hu hl (hb.below hW) hx hxl hc
    rw [hl] at hcl hW ⊢
    clear hl ht
    go_enter Try.func14, Try.ntmps14
    go_wp2_with (first | (go_at_call 19; refine (steps_any _ _ _ _).mono ?_; rintro e w' ⟨rfl, rfl⟩) | (go_at_call 20; refine hcl.mono ?_; rintro e w' ⟨rfl, rfl⟩))
    go_ret2
    exact ⟨rfl, hW⟩
  · rw [if_neg hl, if_neg hl]
    obtain ⟨at_, ct, rfl, _⟩ := id ht
    have hl2 : ¬ (ts.length : Int) = 256 := by omega
    go_enter Try.func14, Try.ntmps14
    go_wp2
    go_ret2
    exact ⟨rfl, Below.refl _ _⟩

theorem sum_any (vt vb : Value) (ts xs : List Int) (w : World) (ht : Rw .u32 w vt ts) (hu : U32s ts) (hb : Rw .u8 w vb xs) (hx : Byts xs) (hxl : xs.length ≤ 5000) :
    Calls Try.prog 12 #[vt, vb] w fun e w' => e = .returned (.tuple #[.int .u32 (sumV ts xs), .int .i64 (addE ts)]) ∧ Below w.heap.size w w' := by
  have ha := add_any vt vb ts xs 4294967295 w ht hu hb hx hxl (by decide)
  unfold addV addE at ha
  unfold sumV addE
  have hlt := addI_lt hu xs 4294967295 (by decide)
  by_cases hl : ts.length = 256
  · rw [if_pos hl, if_pos hl] at *
    generalize addI ts 4294967295 xs = y at *
    go_enter Try.func12, Try.ntmps12
    go_wp2_with (first | (go_at_call 16; refine (begin_any _).mono ?_; rintro e w' ⟨rfl, rfl⟩) | (go_at_call 14; refine ha.mono ?_; rintro e w1 ⟨rfl, hb1⟩) | (go_at_call 17; refine (end_any _ hlt _).mono ?_; rintro e w' ⟨rfl, rfl⟩))
    go_ret2
    exact ⟨rfl, hb1⟩
  · rw [if_neg hl, if_neg hl] at *
    go_enter Try.func12, Try.ntmps12
    go_wp2_with (first | (go_at_call 16; refine (begin_any _).mono ?_; rintro e w' ⟨rfl, rfl⟩) | (go_at_call 14; refine ha.mono ?_; rintro e w1 ⟨rfl, hb1⟩))
    go_ret2
    exact ⟨rfl, hb1⟩

set_option maxHeartbeats 400000 in
theorem sumR_any (vb : Value) (xs : List Int) (w : World) (hb : Rw .u8 w vb xs) (hx : Byts xs) (hxl : xs.length ≤ 5000) :
    Calls Try.prog 13 #[vb] w fun e w' => e = .returned (.int .u32 (crc (xs.map Int.toNat))) ∧ w' = w := by
  obtain ⟨ab, cb, rfl, hb⟩ := hb
  go_enter Try.func13, Try.ntmps13
  go_wp2
  go_loop [3, 4] (fun v i => ∃ k : Nat, k ≤ xs.length ∧ i = .int .i64 k ∧ ∃ y : Nat, v = .int .u32 y ∧ y < 2 ^ 32 ∧ Hid (y = addL entry 4294967295 ((xs.take k).map Int.toNat))) (fun _ i => xs.length - (intOf i).toNat)
  case atStart => exact ⟨0, by omega, rfl, _, rfl, by decide, rfl⟩
  case round =>
    obtain ⟨k, hk, rfl, y, rfl, hlt, hs⟩ := hrel
    by_cases h8 : k < xs.length
    · obtain ⟨b, off, rfl, hbl, hcb⟩ := hb.resolve_left (by intro h; subst h; simp at h8)
      have e : Hid (xs.take (k + 1) = xs.take k ++ [xs.getD k 0]) := by
        unfold Hid
        rw [List.take_add_one, List.getD_eq_getElem?_getD, List.getElem?_eq_getElem h8]; rfl
      have g := hcb k h8
      have hx1 := hx.getD k
      generalize xs.getD k 0 = x at g hx1 e
      obtain ⟨X, rfl⟩ := Int.eq_ofNat_of_zero_le hx1.1
      have hX : X < 256 := by omega
      have e1 : bits .xor .u32 ((y : Int) % 256) (X : Int) = ((y % 256 ^^^ X : Nat) : Int) := by
        have h := u32_xor_nat (y % 256) X (by omega) (by omega)
        have e : ((y % 256 : Nat) : Int) = (y : Int) % 256 := by omega
        rw [e] at h
        exact h
      have hj := xor8_lt (y % 256) X (by omega) hX
      have hen : entry (y % 256 ^^^ X) < 2 ^ 32 := stps_lt _ _ (by omega)
      have hs2 : Hid (addL entry 4294967295 ((xs.take (k + 1)).map Int.toNat) = y / 256 ^^^ entry (y % 256 ^^^ X)) := by
        unfold Hid
        rw [e.out, List.map_append, addL_append, ← hs.out]
        rfl
      have hc2 := entryR_any (y % 256 ^^^ X) (by omega)
      generalize entry (y % 256 ^^^ X) = t at hen hs2 hc2
      generalize y % 256 ^^^ X = j at e1 hj hc2
      clear hcb e hs
      go_wp2_with (first | (go_at_call 9; refine (hc2 _).mono ?_; rintro e w' ⟨rfl, rfl⟩))
      have hw := word_step y t hlt (by omega)
      rw [Int.toNat_natCast] at hw
      exact ⟨⟨k + 1, by omega, by go_num, _, by rw [hw], Nat.xor_lt_two_pow (by omega) hen, hs2.out.symm⟩, by simp [intOf]; omega⟩
    · have hge : xs.length ≤ k := by omega
      clear h8
      go_wp2
      have : k = xs.length := by omega
      subst this
      go_ret
      have h := u32_xor_nat y 4294967295 (by omega) (by decide)
      exact ⟨ret_int (by unfold crc; rw [List.take_length] at hs; rw [← hs.out]; exact h), rfl⟩
end Go.Proofs.Ytdadkmklfphleaa
