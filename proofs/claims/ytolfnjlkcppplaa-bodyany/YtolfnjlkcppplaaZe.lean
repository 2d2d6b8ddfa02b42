/- Contracts: rightPosts, rightResidues, and Right of a body. -/
import Derived.Test.YtolfnjlkcppplaaZd
import Derived.Deep.RegionHeld3
namespace Go.Proofs.Ytolfnjlkcppplaa
open Go.RowKit
set_option linter.unusedVariables false
set_option linter.unusedSimpArgs false
set_option maxRecDepth 10000

def PoOk (F x : List Int) : Prop := x.length = 0 ∨ (flOk x = true ∧ ∀ j, j < 6 → 0 < F.getD (x.getD j 0).toNat 0)
def RsOk (z : List Int) (p : Bool) : Prop := (p = false ∧ z.length = 0) ∨ (p = true ∧ z.length = 16 ∧ Bd (-4194303) 4194303 z)
instance (F x : List Int) : Decidable (PoOk F x) := by unfold PoOk; exact inferInstance
instance (z : List Int) (p : Bool) : Decidable (RsOk z p) := by unfold RsOk Bd; exact inferInstance
def poB (F x : List Int) : Bool := decide (PoOk F x)
def rsB (z : List Int) (p : Bool) : Bool := decide (RsOk z p)
theorem po_yes {F x : List Int} (h : PoOk F x) : poB F x = true := decide_eq_true h
theorem po_no {F x : List Int} (h : ¬ PoOk F x) : poB F x = false := decide_eq_false h
theorem rs_iff {z : List Int} {p : Bool} {q : Prop} [Decidable q] (h : RsOk z p ↔ q) : rsB z p = decide q := decide_eq_decide.2 h
theorem rs_no {z : List Int} {p : Bool} (h : ¬ RsOk z p) : rsB z p = false := decide_eq_false h
theorem ch_two (F x z : List Int) : chB F x z = (poB F x && rsB z (decide (0 < x.length))) := by
  unfold chB poB rsB
  rw [← Bool.decide_and, decide_eq_decide]
  unfold ChOk PoOk RsOk
  by_cases h : x.length = 0
  · have e : decide (0 < x.length) = false := decide_eq_false (by omega)
    rw [e]
    constructor
    · rintro (k | k)
      · exact ⟨.inl h, .inl ⟨rfl, k.2⟩⟩
      · exact absurd (flOk_parts k.1).1 (by omega)
    · rintro ⟨_, k | k⟩
      · exact .inl ⟨h, k.2⟩
      · exact absurd k.1 (by decide)
  · have e : decide (0 < x.length) = true := decide_eq_true (by omega)
    rw [e]
    constructor
    · rintro (k | k)
      · exact absurd k.1 h
      · exact ⟨.inr ⟨k.1, k.2.1⟩, .inr ⟨rfl, k.2.2⟩⟩
    · rintro ⟨k1, k | k⟩
      · exact absurd k.1 (by decide)
      · have k2 := k1.resolve_left h
        exact .inr ⟨k2.1, k2.2, k.2⟩
set_option maxHeartbeats 4000000 in
theorem rposts_any (ax : Option Addr) (nx kx : Nat) (x : List Int) (af : Option Addr) (cf : Nat) (F : List Int) (w : World) (hnx : x.length = nx) (hlx : nx ≤ 100) (hvx : Rw .i64 w (.slice ax nx kx) x) (hlF : F.length = 45) (hvF : Rw .i64 w (.slice af 45 cf) F) (hrF : rightL F = true) :
    Calls Try.prog 23 #[.slice ax nx kx, .slice af 45 cf] w fun e w' => e = .returned (.bool (poB F x)) ∧ w' = w := by
  by_cases h0 : nx = 0
  · have HO : Hid (poB F x = true) := po_yes (.inl (by omega))
    subst h0
    clear hvx hvF hnx hlF hlx hrF
    go_enter Try.func23, Try.ntmps23
    go_wp2
    go_ret
    exact ⟨ret_bool HO.out.symm, rfl⟩
  have e0 : ((nx : Int) == 0) = false := by simpa using fun k => h0 (by omega)
  have hr := fright_any ax kx x w (by rw [hnx]; exact hvx) (by omega)
  rw [hnx] at hr
  cases hfl : flOk x
  · have HO : Hid (poB F x = false) := po_no (by rintro (k | k); omega; rw [hfl] at k; exact absurd k.1 (by decide))
    rw [hfl] at hr
    clear hvx hvF hnx hlF hlx hrF hfl h0
    go_enter Try.func23, Try.ntmps23
    go_wp2_with (go_at_call 44; refine hr.mono ?_; rintro e w9 ⟨rfl, h9⟩; have h9 := h9.symm; subst h9)
    go_ret
    exact ⟨ret_bool HO.out.symm, rfl⟩
  rw [hfl] at hr
  obtain ⟨h6, hbx⟩ := flOk_parts hfl
  obtain rfl : 6 = nx := by omega
  have hFat : ∀ i, i < 45 → ∃ b off, af = some ⟨b, off, none⟩ ∧ b < w.heap.size ∧ w.cell? ⟨b, off + i, none⟩ = some (.int .i64 (F.getD i 0)) := fun i hi => by
    have hv := hvF
    rw [← hlF] at hv
    exact hv.at i (by rw [hlF]; exact hi)
  have hXat : ∀ i, i < 6 → ∃ b off, ax = some ⟨b, off, none⟩ ∧ b < w.heap.size ∧ w.cell? ⟨b, off + i, none⟩ = some (.int .i64 (x.getD i 0)) := fun i hi => by
    have hv := hvx
    rw [← h6] at hv
    exact hv.at i (by rw [h6]; exact hi)
  have HXB : Hid (∀ j, j < 6 → 0 ≤ x.getD j 0 ∧ x.getD j 0 ≤ 44) := fun j hj => hbx j (by omega)
  have HFP : Hid (∀ i, 0 ≤ F.getD i 0) := fun i => (five_of_right hrF i).1
  have HNO : Hid (∀ j, j < 6 → ¬ 0 < F.getD (x.getD j 0).toNat 0 → poB F x = false) := fun j hj hn => po_no (by rintro (k | k); omega; exact hn (k.2 j hj))
  have HYES : Hid ((∀ j, j < 6 → 0 < F.getD (x.getD j 0).toNat 0) → poB F x = true) := fun h1 => po_yes (.inr ⟨hfl, h1⟩)
  clear hvx hvF hnx hlF hlx hrF hfl h0 hbx h6 e0
  generalize poB F x = B at *
  go_enter Try.func23, Try.ntmps23
  go_wp2_with (go_at_call 44; refine hr.mono ?_; rintro e w9 ⟨rfl, h9⟩; have h9 := h9.symm; subst h9)
  go_loop [15] (fun p => ∃ k : Nat, k ≤ 6 ∧ p = .int .i64 k ∧ Hid (∀ j, j < k → 0 < F.getD (x.getD j 0).toNat 0)) (fun p => 6 - (intOf p).toNat)
  case atStart => exact ⟨0, by omega, rfl, fun j hj => by omega⟩
  case round =>
    obtain ⟨k, hk, rfl, HA⟩ := hrel
    by_cases hlt : k < 6
    · obtain ⟨b1, o1, rfl, hb1, hc1⟩ := hXat k hlt
      obtain ⟨x0, x1⟩ := HXB.out k hlt
      obtain ⟨X, hX⟩ : ∃ X : Nat, x.getD k 0 = X := ⟨(x.getD k 0).toNat, by omega⟩
      have hno := hid (HNO.out k hlt)
      have hfp := HFP.out (x.getD k 0).toNat
      rw [hX] at hc1 x0 x1
      rw [hX, Int.toNat_natCast] at hno hfp
      obtain ⟨b2, o2, rfl, hb2, hc2⟩ := hFat X (by omega)
      have HA2 : Hid (0 < F.getD X 0 → ∀ j, j < k + 1 → 0 < F.getD (x.getD j 0).toNat 0) := fun hp j hj => by
        by_cases e : j < k
        · exact HA.out j e
        · obtain rfl : j = k := by omega
          rw [hX, Int.toNat_natCast]; exact hp
      generalize F.getD X 0 = V at *
      clear hX hXat hFat
      have i1 : (0 : Int) ≤ (k : Int) := by omega
      have i2 : (k : Int) < 6 := by omega
      have i3 : IntKind.i64.wrap (k : Int) = k := wraps_i64 _ (by omega) (by omega)
      have j1 : (0 : Int) ≤ (X : Int) := by omega
      have j2 : (X : Int) < 45 := by omega
      have j3 : IntKind.i64.wrap (X : Int) = X := wraps_i64 _ (by omega) (by omega)
      by_cases hV : V = 0
      · have HO := hid (hno.out (by omega))
        have eV : (V == 0) = true := by rw [hV]; rfl
        clear hno HA2
        subst hV
        go_wp2
        go_ret
        exact ⟨ret_bool HO.out.symm, rfl⟩
      · have HA3 := hid (HA2.out (by omega))
        have eV : (V == 0) = false := by simpa using hV
        clear hno HA2 hfp
        go_wp2
        exact ⟨⟨k + 1, by omega, by go_num, HA3⟩, by simp [intOf]; omega⟩
    · have hk6 : k = 6 := by omega
      have HO := hid (HYES.out (fun j hj => HA.out j (by omega)))
      clear HA hk6 HNO HXB HFP hXat hFat
      go_wp2
      go_ret
      exact ⟨ret_bool HO.out.symm, rfl⟩
set_option maxHeartbeats 4000000 in
theorem rres_any (az : Option Addr) (nz kz : Nat) (z : List Int) (p : Bool) (w : World) (hnz : z.length = nz) (hlz : nz ≤ 100) (hvz : Rw .i64 w (.slice az nz kz) z) :
    Calls Try.prog 24 #[.slice az nz kz, .bool p] w fun e w' => e = .returned (.bool (rsB z p)) ∧ w' = w := by
  cases p
  · have e : ((nz : Int) == 0) = decide (nz = 0) := by
      by_cases e : nz = 0
      · subst e; rfl
      · rw [decide_eq_false e]; simpa using fun k => e (by omega)
    have HO : Hid (rsB z false = ((nz : Int) == 0)) := by
      unfold Hid
      rw [e]
      exact rs_iff ⟨fun k => k.elim (fun k => by rw [← hnz]; exact k.2) (fun k => absurd k.1 (by decide)), fun k => .inl ⟨rfl, by rw [hnz]; exact k⟩⟩
    generalize hD : ((nz : Int) == 0) = D at *
    clear e hvz hnz hlz
    go_enter Try.func24, Try.ntmps24
    go_wp2
    go_ret
    exact ⟨ret_bool HO.out.symm, rfl⟩
  · have e : ((nz : Int) == 16) = decide (nz = 16) := by
      by_cases e : nz = 16
      · subst e; rfl
      · rw [decide_eq_false e]; simpa using fun k => e (by omega)
    have hZat : ∀ i, i < nz → ∃ b off, az = some ⟨b, off, none⟩ ∧ b < w.heap.size ∧ w.cell? ⟨b, off + i, none⟩ = some (.int .i64 (z.getD i 0)) := fun i hi => by
      have hv := hvz
      rw [← hnz] at hv
      exact hv.at i (by rw [hnz]; exact hi)
    have HYES : Hid ((∀ j, j < nz → -4194303 ≤ z.getD j 0 ∧ z.getD j 0 ≤ 4194303) → rsB z true = ((nz : Int) == 16)) := fun h1 => by
      rw [e]
      exact rs_iff ⟨fun k => k.elim (fun k => absurd k.1 (by decide)) (fun k => by rw [← hnz]; exact k.2.1), fun k => .inr ⟨rfl, by rw [hnz]; exact k, fun j hj => h1 j (by rw [← hnz]; exact hj)⟩⟩
    have HNO : Hid (∀ j, j < nz → ¬ (-4194303 ≤ z.getD j 0 ∧ z.getD j 0 ≤ 4194303) → rsB z true = false) := fun j hj hn => rs_no (by rintro (k | k); exact absurd k.1 (by decide); exact hn (k.2.2 j (by rw [hnz]; exact hj)))
    clear e hvz hnz
    generalize hD : ((nz : Int) == 16) = D at *
    generalize rsB z true = B at *
    have hlz2 : (nz : Int) ≤ 100 := by omega
    go_enter Try.func24, Try.ntmps24
    go_wp2
    go_loop [14] (fun p => ∃ k : Nat, k ≤ nz ∧ p = .int .i64 k ∧ Hid (∀ j, j < k → -4194303 ≤ z.getD j 0 ∧ z.getD j 0 ≤ 4194303)) (fun p => nz - (intOf p).toNat)
    case atStart => exact ⟨0, by omega, rfl, fun j hj => by omega⟩
    case round =>
      obtain ⟨k, hk, rfl, HA⟩ := hrel
      by_cases hlt : k < nz
      · obtain ⟨b1, o1, rfl, hb1, hc1⟩ := hZat k hlt
        have hno := hid (HNO.out k hlt)
        have HA2 : Hid (-4194303 ≤ z.getD k 0 ∧ z.getD k 0 ≤ 4194303 → ∀ j, j < k + 1 → -4194303 ≤ z.getD j 0 ∧ z.getD j 0 ≤ 4194303) := fun hp j hj => by
          by_cases e : j < k
          · exact HA.out j e
          · obtain rfl : j = k := by omega
            exact hp
        generalize z.getD k 0 = V at *
        clear hZat
        have i1 : (0 : Int) ≤ (k : Int) := by omega
        have i2 : (k : Int) < (nz : Int) := by omega
        have i3 : IntKind.i64.wrap (k : Int) = k := wraps_i64 _ (by omega) (by omega)
        by_cases c2 : -4194303 ≤ V
        · by_cases c1 : V ≤ 4194303
          · have HA3 := hid (HA2.out ⟨c2, c1⟩)
            have d1 : decide (4194303 < V) = false := decide_eq_false (by omega)
            have d2 : decide (V < -4194303) = false := decide_eq_false (by omega)
            clear hno HA2
            go_wp2
            exact ⟨⟨k + 1, by omega, by go_num, HA3⟩, by simp [intOf]; omega⟩
          · have HO := hid (hno.out (fun k => c1 k.2))
            have d1 : decide (4194303 < V) = true := decide_eq_true (by omega)
            have d2 : decide (V < -4194303) = false := decide_eq_false (by omega)
            clear hno HA2
            go_wp2
            go_ret
            exact ⟨ret_bool HO.out.symm, rfl⟩
        · have HO := hid (hno.out (fun k => c2 k.1))
          have d2 : decide (V < -4194303) = true := decide_eq_true (by omega)
          clear hno HA2
          go_wp2
          go_ret
          exact ⟨ret_bool HO.out.symm, rfl⟩
      · have hkn : k = nz := by omega
        have HO := hid (HYES.out (fun j hj => HA.out j (by omega)))
        clear HA hkn HNO hZat HYES
        go_wp2
        go_ret
        exact ⟨ret_bool HO.out.symm, rfl⟩
end Go.Proofs.Ytolfnjlkcppplaa
/- Contracts: the writer that remembers the first error (put, putSymbol), ownSymbol, putPosts, putResidue. -/
namespace Go.Proofs.Ytolfnjlkcppplaa
open Go.RowKit
set_option linter.unusedVariables false
set_option linter.unusedSimpArgs false
set_option maxRecDepth 10000

/-- A writer of the bits E, with no error. -/
structure Wv (w : World) (b : Nat) (E : Nat × Nat) : Prop where
  ex : ∃ a cap, B3 w b (.slice a ((E.2 + 7) / 8) cap) (.int .i64 E.2) (.int .i64 0) ∧ RwF (b + 1) .u8 w (.slice a ((E.2 + 7) / 8) cap) (byL E.1 ((E.2 + 7) / 8))
  lt : Ok2 E
  le : E.2 ≤ 32000
theorem Wv.below {w w' : World} {b : Nat} {E : Nat × Nat} (h : Wv w b E) (hb : Below w.heap.size w w') : Wv w' b E := by
  obtain ⟨a, cap, h1, h2⟩ := h.ex
  exact ⟨⟨a, cap, h1.below hb, h2.below hb⟩, h.lt, h.le⟩
theorem Wv.z {w : World} {b : Nat} {E : Nat × Nat} (h : Wv w b E) : b < w.heap.size := by
  obtain ⟨a, cap, h1, h2⟩ := h.ex
  exact h1.z
theorem wv_start (w : World) (t : TypeId) : Wv (w.alloc (.cells #[.slice none 0 0, .int .i64 0, .int .i64 0] t)) w.heap.size (0, 0) :=
  ⟨⟨none, 0, B3.new w _ _ _ t, none, 0, rfl, .inl rfl⟩, Ok2.start, by omega⟩
theorem putE_ok (X N V n : Nat) (hX : X < 2 ^ N) (hN : N ≤ 32000) (hV : V < 2 ^ n) (hn : n ≤ 32) (hN2 : N + n ≤ 32000) :
    putE (byL X ((N + 7) / 8)) N V n = 0 ∧ putN (byL X ((N + 7) / 8)) N V n = ((N + n : Nat) : Int) ∧ putX (byL X ((N + 7) / 8)) N V n = byL (X + V * 2 ^ N) ((N + n + 7) / 8) := by
  obtain ⟨h1, h2⟩ := right_byL X N hX hN
  have e0 : goodN (byL X ((N + 7) / 8)) N = N := by unfold goodN; rw [if_pos h1]
  have e1 : goodX (byL X ((N + 7) / 8)) N = byL X ((N + 7) / 8) := by unfold goodX; rw [if_pos h1]
  have e : putE (byL X ((N + 7) / 8)) N V n = 0 := by
    unfold putE; rw [e0, if_pos ⟨by omega, by omega, by simpa using hV⟩, if_pos (by omega)]
  refine ⟨e, ?_, ?_⟩
  · unfold putN; rw [if_pos e, e0]; simp
  · unfold putX; rw [if_pos e, e0, e1, h2]; simp

set_option maxHeartbeats 2000000 in
theorem wput_any (b : Nat) (E : Nat × Nat) (V n : Nat) (w : World) (h : Wv w b E) (hV : V < 2 ^ n) (hn : n ≤ 32) (hN : E.2 + n ≤ 32000) :
    Calls Try.prog 47 #[.pointer (some ⟨b, 0, none⟩), .int .u64 V, .int .i64 n] w fun e w' => e = .returned (.tuple #[]) ∧ Wv w' b (pu E V n) ∧ w.grownBy w' (some b) := by
  obtain ⟨X, N⟩ := E
  have HPU : Hid (pu (X, N) V n = (X + V * 2 ^ N, N + n)) := by unfold Hid pu; rw [Nat.mod_eq_of_lt hV]
  have HLT : Hid (Ok2 (pu (X, N) V n)) := h.lt.pu V n
  rw [HPU.out] at HLT
  have HLE : Hid (N + n ≤ 32000) := hN
  have hV32 : V < 4294967296 := Nat.lt_of_lt_of_le hV (Nat.pow_le_pow_right (n := 2) (by decide) hn)
  obtain ⟨a, cap, hB, hR⟩ := h.ex
  simp only at hB hR
  obtain ⟨q1, q2, q3⟩ := putE_ok X N V n h.lt h.le hV hn hN
  have hp := fun w' hv => put_any (.slice a ((N + 7) / 8) cap) (byL X ((N + 7) / 8)) N V n w' hv (byL_byts _ _) (by omega)
  rw [q1, q2, q3] at hp
  have hrw := hR.rw
  clear q1 q2 q3 hV h hR hN
  generalize X + V * 2 ^ N = Y at *
  obtain ⟨Z, hZ⟩ : ∃ Z : Int, (V : Int) = Z := ⟨_, rfl⟩
  rw [hZ] at hp ⊢
  have z0 : 0 ≤ Z := by omega
  have z1 : Z < 4294967296 := by omega
  obtain ⟨M, hM⟩ : ∃ M : Int, (n : Int) = M := ⟨_, rfl⟩
  rw [hM] at hp ⊢
  clear hZ hM hV32 hn
  generalize pu (X, N) V n = E' at *
  generalize N + n = N' at *
  obtain ⟨bz, c0, c1, c2, f0, f1, f2⟩ := id hB
  go_enter Try.func47, Try.ntmps47
  go_wp2_with (go_at_call 59; refine (hp _ hrw).mono ?_; rintro e y1 ⟨v, rfl, hv1, hy1⟩; obtain ⟨a2, k2, hv2, _⟩ := id hv1; rw [byL_length] at hv2; subst hv2; have hB1 := hB.below hy1; obtain ⟨bz', c0', c1', c2', f0', f1', f2'⟩ := id hB1)
  have hz := hB.z
  have hB2 := hB1.set (.slice a2 ((N' + 7) / 8) k2) (.int .i64 (N' : Nat)) (.int .i64 0)
  have hg := grown_below hy1 b
  have hv3 := ((((hv1.mono (show b + 1 ≤ w.heap.size by omega)).set b 0 (.slice a2 ((N' + 7) / 8) k2) (by omega)).set b 1 (.int .i64 (N' : Nat)) (by omega)).set b 2 (.int .i64 0) (by omega))
  have hg2 := grown_set (grown_set (grown_set hg b 0 (.inr rfl) (.slice a2 ((N' + 7) / 8) k2)) b 1 (.inr rfl) (.int .i64 (N' : Nat))) b 2 (.inr rfl) (.int .i64 0)
  refine bodyPost_end (results_none rfl _ _ _) rfl ⟨rfl, ?_, hg2⟩
  rw [HPU.out]
  exact ⟨⟨a2, k2, hB2, hv3⟩, HLT.out, HLE.out⟩

set_option maxHeartbeats 2000000 in
theorem wsym_any (b : Nat) (E : Nat × Nat) (s : Int) (vl : Value) (l : List Int) (w : World) (h : Wv w b E) (hvl : Rw .i64 w vl l) (hr : rightL l = true) (hs : Sy l s) (hN : E.2 + sl l s ≤ 32000) :
    Calls Try.prog 48 #[.pointer (some ⟨b, 0, none⟩), .int .i64 s, vl] w fun e w' => e = .returned (.tuple #[]) ∧ Wv w' b (puS l E s) ∧ w.grownBy w' (some b) := by
  obtain ⟨X, N⟩ := E
  have HPU := hid (puS_eq l (X, N) s)
  have HLT : Hid (Ok2 (puS l (X, N) s)) := h.lt.puS l s
  rw [HPU.out] at HLT
  have HLE : Hid (N + sl l s ≤ 32000) := hN
  obtain ⟨s0, s1, s2⟩ := hs
  obtain ⟨m, rfl⟩ := Int.eq_ofNat_of_zero_le s0
  rw [Int.toNat_natCast] at s2
  have esl : sl l (m : Int) = (l.getD m 0).toNat := by unfold sl; rw [Int.toNat_natCast]
  obtain ⟨a, cap, hB, hR⟩ := h.ex
  simp only at hB hR
  have hst : Stands (byL X ((N + 7) / 8)) N X N := ⟨(good_byL X N h.lt h.le).1, (good_byL X N h.lt h.le).2, h.lt, h.le⟩
  have hle : N ≤ 32000 := h.le
  have hp : ∀ w' cap', Rw .u8 w' (.slice a ((N + 7) / 8) cap') (byL X ((N + 7) / 8)) → Rw .i64 w' vl l → Calls Try.prog 60 #[.agg #[.slice a ((N + 7) / 8) cap', .int .i64 (N : Int)], vl, .int .i64 (m : Int)] w' fun e w2 => ∃ x c, e = .returned (.tuple #[.agg #[.slice x ((N + sl l (m : Int) + 7) / 8) c, .int .i64 ((N + sl l (m : Int) : Nat) : Int)], .int .i64 0]) ∧ RwF w'.heap.size .u8 w2 (.slice x ((N + sl l (m : Int) + 7) / 8) c) (byL (X + rvb (cd l m) (sl l (m : Int)) (sl l (m : Int)) * 2 ^ N) ((N + sl l (m : Int) + 7) / 8)) ∧ Below w'.heap.size w' w2 := fun w' cap' k1 k2 => by
    have k3 := write_used a cap' vl (byL X ((N + 7) / 8)) l (N : Int) m X N w' (by rw [byL_length]; exact k1) (byL_byts _ _) (by rw [byL_length]; omega) k2 hr (by omega) s2 hst
    rw [byL_length] at k3
    refine k3.mono ?_
    rintro e w2 (⟨_, x, c, ys, rfl, rfl, q2, q3⟩ | ⟨q1, _⟩)
    · rw [byL_length] at q2
      rw [byL_length, ← esl]
      rw [← esl] at q2
      exact ⟨x, c, rfl, q2, q3⟩
    · rw [esl] at hN; simp only at hN; omega
  have e2 : (N + sl l (m : Int)) = N + sl l (m : Int) := rfl
  have HPU2 : Hid (puS l (X, N) (m : Int) = (X + rvb (cd l m) (sl l (m : Int)) (sl l (m : Int)) * 2 ^ N, N + sl l (m : Int))) := by have := HPU.out; rw [Int.toNat_natCast] at this; exact this
  have HLT2 : Hid (Ok2 (X + rvb (cd l m) (sl l (m : Int)) (sl l (m : Int)) * 2 ^ N, N + sl l (m : Int))) := by have := HLT.out; rw [Int.toNat_natCast] at this; exact this
  have hrw := hR.rw
  have hm45 : (m : Int) < 100000 := by have := (right_parts hr).2.1; omega
  obtain ⟨MM, hMM⟩ : ∃ M : Int, (m : Int) = M := ⟨_, rfl⟩
  clear HPU HLT e2 h hR hst hN esl s1 s2 hr
  generalize X + rvb (cd l m) (sl l (m : Int)) (sl l (m : Int)) * 2 ^ N = Y at *
  generalize N + sl l (m : Int) = N' at *
  generalize puS l (X, N) (m : Int) = E' at *
  rw [hMM] at hp hm45 s0 ⊢
  clear hMM
  obtain ⟨bz, c0, c1, c2, f0, f1, f2⟩ := id hB
  obtain ⟨al, cl, rfl, hal⟩ := id hvl
  go_enter Try.func48, Try.ntmps48
  go_wp2_with (go_at_call 60; refine (hp _ _ hrw hvl).mono ?_; rintro e y1 ⟨a2, k2, rfl, hv1, hy1⟩; have hB1 := hB.below hy1; obtain ⟨bz', c0', c1', c2', f0', f1', f2'⟩ := id hB1)
  have hz := hB.z
  have hB2 := hB1.set (.slice a2 ((N' + 7) / 8) k2) (.int .i64 (N' : Nat)) (.int .i64 0)
  have hg := grown_below hy1 b
  have hv3 := ((((hv1.mono (show b + 1 ≤ w.heap.size by omega)).set b 0 (.slice a2 ((N' + 7) / 8) k2) (by omega)).set b 1 (.int .i64 (N' : Nat)) (by omega)).set b 2 (.int .i64 0) (by omega))
  have hg2 := grown_set (grown_set (grown_set hg b 0 (.inr rfl) (.slice a2 ((N' + 7) / 8) k2)) b 1 (.inr rfl) (.int .i64 (N' : Nat))) b 2 (.inr rfl) (.int .i64 0)
  refine bodyPost_end (results_none rfl _ _ _) rfl ⟨rfl, ?_, hg2⟩
  rw [HPU2.out]
  exact ⟨⟨a2, k2, hB2, hv3⟩, HLT2.out, HLE.out⟩

/-- The symbol that a book uses for a residue. -/
def oS (R : List Int) (v : Int) : Int := if shR R v = true then v + 7 else 15
set_option maxHeartbeats 2000000 in
theorem own_any (v : Int) (ar : Option Addr) (cr : Nat) (R : List Int) (w : World) (h0 : -4194303 ≤ v) (h1 : v ≤ 4194303) (hlR : R.length = 16) (hvR : Rw .i64 w (.slice ar 16 cr) R) (hrR : rightL R = true) :
    Calls Try.prog 49 #[.int .i64 v, .slice ar 16 cr] w fun e w' => e = .returned (.int .i64 (oS R v)) ∧ w' = w := by
  by_cases c1 : v < -7
  · have HO : Hid (oS R v = 15) := by unfold Hid oS; rw [if_neg (by unfold shR; rw [decide_eq_true_eq]; omega)]
    clear hvR hrR hlR
    go_enter Try.func49, Try.ntmps49
    go_wp2
    go_ret
    exact ⟨ret_int HO.out.symm, rfl⟩
  by_cases c2 : 7 < v
  · have HO : Hid (oS R v = 15) := by unfold Hid oS; rw [if_neg (by unfold shR; rw [decide_eq_true_eq]; omega)]
    clear hvR hrR hlR
    have c1' : -7 ≤ v := by omega
    go_enter Try.func49, Try.ntmps49
    go_wp2
    go_ret
    exact ⟨ret_int HO.out.symm, rfl⟩
  obtain ⟨k, hk⟩ : ∃ k : Nat, v + 7 = k := ⟨(v + 7).toNat, by omega⟩
  rw [← hlR] at hvR
  obtain ⟨b, o, rfl, hb, hc⟩ := hvR.at k (by omega)
  have hf := (five_of_right hrR k).1
  have HO : Hid (oS R v = if R.getD k 0 = 0 then 15 else v + 7) := by
    unfold Hid oS shR
    rw [hk, Int.toNat_natCast]
    by_cases e : R.getD k 0 = 0
    · rw [if_pos e, if_neg (by rw [decide_eq_true_eq]; omega)]
    · rw [if_neg e, if_pos (by rw [decide_eq_true_eq]; omega)]

  clear hvR hrR hlR h0 h1
  generalize R.getD k 0 = V at *
  generalize oS R v = OS at *
  obtain rfl : v = (k : Int) - 7 := by omega
  have i0 : IntKind.i64.wrap ((k : Int) - 7 + 7) = (k : Int) := by rw [wraps_i64 _ (by omega) (by omega)]; omega
  have i1 : (0 : Int) ≤ (k : Int) := by omega
  have i2 : (k : Int) < 16 := by omega
  have i3 : IntKind.i64.wrap (k : Int) = k := wraps_i64 _ (by omega) (by omega)
  have d1 : decide ((k : Int) - 7 < -7) = false := decide_eq_false (by omega)
  have d2 : decide (7 < (k : Int) - 7) = false := decide_eq_false (by omega)
  clear hk
  by_cases hV : V = 0
  · have eV : (V == 0) = true := by rw [hV]; rfl
    have HO2 : Hid (OS = 15) := by rw [if_pos hV] at HO; exact HO
    clear HO
    subst hV
    go_enter Try.func49, Try.ntmps49
    go_wp2
    go_ret
    exact ⟨ret_int HO2.out.symm, rfl⟩
  · have eV : (V == 0) = false := by simpa using hV
    have HO2 : Hid (OS = (k : Int) - 7 + 7) := by rw [if_neg hV] at HO; exact HO
    clear HO hf hV
    go_enter Try.func49, Try.ntmps49
    go_wp2
    go_ret
    exact ⟨ret_int (by rw [HO2.out]; omega), rfl⟩
end Go.Proofs.Ytolfnjlkcppplaa
/- Contracts: putPosts, putResidue. -/
namespace Go.Proofs.Ytolfnjlkcppplaa
open Go.RowKit
set_option linter.unusedVariables false
set_option linter.unusedSimpArgs false
set_option maxRecDepth 10000

theorem puS_room {l : List Int} (hr : rightL l = true) (x : List Int) (E : Nat × Nat) (k : Nat) : ((x.take k).foldl (puS l) E).2 ≤ E.2 + 16 * k := by
  have h := fold_len (puS l) 16 (x.take k) (fun E a _ => by rw [puS_len]; have := sl_le hr a; omega) E
  have h2 : (x.take k).length ≤ k := by rw [List.length_take]; omega
  have h3 : 16 * (x.take k).length ≤ 16 * k := Nat.mul_le_mul_left _ h2
  omega
set_option maxHeartbeats 2000000 in
theorem wposts_any (b : Nat) (E : Nat × Nat) (ax : Option Addr) (nx kx : Nat) (x : List Int) (af : Option Addr) (cf : Nat) (F R : List Int) (w : World) (h : Wv w b E) (hx : RwM 0 b .i64 w (.slice ax nx kx) x) (hnx : x.length = nx) (hf : RwM 0 b .i64 w (.slice af 45 cf) F) (hk : Bk F R)
    (hpo : x.length = 0 ∨ (flOk x = true ∧ ∀ j, j < 6 → 0 < F.getD (x.getD j 0).toNat 0)) (hN : E.2 + 97 ≤ 32000) :
    Calls Try.prog 27 #[.pointer (some ⟨b, 0, none⟩), .slice ax nx kx, .slice af 45 cf] w fun e w' => e = .returned (.tuple #[]) ∧ Wv w' b (puX F E x) ∧ w.grownBy w' (some b) := by
  by_cases h0 : nx = 0
  · have HO : Hid (puX F E x = pu E 0 1) := if_pos (by omega)
    have hp := wput_any b E 0 1 w h (by decide) (by omega) (by omega)
    rw [← HO.out] at hp
    subst h0
    clear HO h hx hnx hf hk hpo hN
    generalize puX F E x = E' at *
    go_enter Try.func27, Try.ntmps27
    go_wp2_with (go_at_call 47; refine hp.mono ?_; rintro e y1 ⟨rfl, hw1, hg1⟩)
    refine bodyPost_ret (v := .tuple #[]) (results_none rfl _ _ _) rfl ⟨rfl, hw1, hg1⟩
  have hpo := hpo.resolve_left (by omega)
  have h6 := (flOk_parts hpo.1).1
  obtain rfl : 6 = nx := by omega
  have HX : Hid (puX F E x = x.foldl (puS F) (pu E 1 1)) := if_neg (by omega)
  have hp0 := wput_any b E 1 1 w h (by decide) (by omega) (by omega)
  have HSY : Hid (∀ j, j < 6 → Sy F (x.getD j 0)) := fun j hj => by
    have := flOk_at hpo.1 j
    exact ⟨this.1, by rw [hk.lf]; omega, hpo.2 j hj⟩
  have HR := hid hk.f
  have HN : Hid (E.2 + 97 ≤ 32000) := hN
  have HL := hid h6
  have HXR := hid hx
  have HFR := hid hf
  clear hk hpo hN h0 h6 hnx h hx hf
  go_enter Try.func27, Try.ntmps27
  go_upto_region 3 with (go_at_call 47; refine hp0.mono ?_; rintro e y1 ⟨rfl, hw1, hg1⟩)
  have HW0 := hid hw1
  have HG0 := hid hg1
  clear hw1 hg1 hp0
  go_wp2
  go_loopw [17] (fun p wr => ∃ k : Nat, k ≤ 6 ∧ p = .int .i64 k ∧ Hid (Wv wr b ((x.take k).foldl (puS F) (pu E 1 1))) ∧ Hid (w.grownBy wr (some b))) (fun p _ => 6 - (intOf p).toNat)
  case atStart => exact ⟨0, by omega, rfl, HW0, HG0⟩
  case round =>
    clear HW0 HG0
    obtain ⟨k, hk, rfl, HW, HG⟩ := hrel
    obtain ⟨W1, rfl⟩ : ∃ x, x = wr := ⟨wr, rfl⟩
    by_cases hlt : k < 6
    · have hx1 := (HXR.out.grown HG.out (fun i e => .inr (by simp only [Option.some.injEq] at e; omega))).rw
      have hf1 := (HFR.out.grown HG.out (fun i e => .inr (by simp only [Option.some.injEq] at e; omega))).rw
      have hLL := HL.out
      rw [← hLL] at hx1
      obtain ⟨p0, o0, rfl, _, hc⟩ := hx1.at k (by omega)
      have hroom := puS_room HR.out x (pu E 1 1) k
      have hsl := sl_le HR.out (x.getD k 0)
      have hN := HN.out
      have e1 : (pu E 1 1).2 = E.2 + 1 := rfl
      have hp := wsym_any b _ (x.getD k 0) (.slice af 45 cf) F W1 HW.out hf1 HR.out (HSY.out k hlt) (by omega)
      rw [← fold_step (puS F) (pu E 1 1) x k 0 (by omega)] at hp
      have i1 : (0 : Int) ≤ (k : Int) := by omega
      have i2 : (k : Int) < 6 := by omega
      have i3 : IntKind.i64.wrap (k : Int) = k := wraps_i64 _ (by omega) (by omega)
      clear hx1 HW hroom hsl hN e1 hLL hf1
      generalize x.getD k 0 = X at *
      go_wp2_with (go_at_call 48; refine hp.mono ?_; rintro e y1 ⟨rfl, hw1, hg1⟩)
      exact ⟨⟨k + 1, by omega, by go_num, hw1, grown_trans HG.out hg1⟩, by simp [intOf]; omega⟩
    · have hk6 : k = 6 := by omega
      have HWX : Hid (Wv W1 b (puX F E x)) := by
        unfold Hid
        have := HW.out
        rw [hk6, List.take_of_length_le (by rw [HL.out]; exact Nat.le_refl _)] at this
        rw [HX.out]; exact this
      clear hk6 HW
      go_wp2
      refine bodyPost_end (results_none rfl _ _ _) rfl ⟨rfl, HWX.out, HG.out⟩

set_option maxHeartbeats 2000000 in
theorem wresi_any (b : Nat) (E : Nat × Nat) (v : Int) (ar : Option Addr) (cr : Nat) (F R : List Int) (w : World) (h : Wv w b E) (h0 : -4194303 ≤ v) (h1 : v ≤ 4194303) (hk : Bk F R) (hr : RwM 0 b .i64 w (.slice ar 16 cr) R) (hN : E.2 + 39 ≤ 32000) :
    Calls Try.prog 28 #[.pointer (some ⟨b, 0, none⟩), .int .i64 v, .slice ar 16 cr] w fun e w' => e = .returned (.tuple #[]) ∧ Wv w' b (puV R E v) ∧ w.grownBy w' (some b) := by
  have ho := own_any v ar cr R w h0 h1 hk.lr hr.rw hk.r
  by_cases hs : shR R v = true
  · obtain ⟨hy, b0, b1⟩ := hk.sh hs
    have eo : oS R v = v + 7 := if_pos hs
    have ev : puV R E v = puS R E (v + 7) := if_pos hs
    have hp := wsym_any b E (v + 7) (.slice ar 16 cr) R w h hr.rw hk.r hy (by have := sl_le hk.r (v + 7); omega)
    rw [← ev] at hp
    rw [eo] at ho
    have e15 : (v + 7 != 15) = true := by simpa using fun k => by omega
    clear ev eo hy hs hk hr h h0 h1 hN
    generalize puV R E v = E' at *
    generalize v + 7 = s at *
    clear b0 b1
    go_enter Try.func28, Try.ntmps28
    go_wp2_with (first | (go_at_call 49; refine ho.mono ?_; rintro e w9 ⟨rfl, h9⟩; have h9 := h9.symm; subst h9) | (go_at_call 48; refine hp.mono ?_; rintro e y1 ⟨rfl, hw1, hg1⟩))
    refine bodyPost_ret (v := .tuple #[]) (results_none rfl _ _ _) rfl ⟨rfl, hw1, hg1⟩
  · have eo : oS R v = 15 := if_neg hs
    have hsl := sl_le hk.r 15
    have hp := wsym_any b E 15 (.slice ar 16 cr) R w h hr.rw hk.r hk.y15 (by omega)
    have e2 : (puS R E 15).2 = E.2 + sl R 15 := rfl
    rw [eo] at ho
    obtain ⟨m, hm⟩ : ∃ m : Nat, v.natAbs = m := ⟨_, rfl⟩
    have hm22 : m < 2 ^ 22 := by have : (2 : Nat) ^ 22 = 4194304 := rfl; omega
    by_cases hv : v < 0
    · have ev : puV R E v = pu (pu (puS R E 15) 1 1) m 22 := by unfold puV; rw [if_neg hs, if_pos hv, hm]
      have p1 := fun W hw => wput_any b (puS R E 15) 1 1 W hw (by decide) (by omega) (by omega)
      have p2 := fun W hw => wput_any b (pu (puS R E 15) 1 1) m 22 W hw hm22 (by omega) (by show E.2 + sl R 15 + 1 + 22 ≤ _; omega)
      rw [← ev] at p2
      obtain rfl : v = -(m : Int) := by omega
      clear ev eo hs hk hr h hN e2 hsl hm22
      generalize puV R E (-(m : Int)) = E' at *
      generalize pu (puS R E 15) 1 1 = E2 at *
      generalize puS R E 15 = E1 at *
      obtain ⟨M, hM⟩ : ∃ M : Int, (m : Int) = M := ⟨_, rfl⟩
      rw [hM] at p2 ho hv h0 h1 ⊢
      clear hM hm
      have d1 : decide (-M < 0) = true := decide_eq_true hv
      have mx : max (-M) M = M := by omega
      have w1 : IntKind.u64.wrap M = M := wraps_u64 _ (by omega) (by omega)
      go_enter Try.func28, Try.ntmps28
      go_wp2_with (first | (go_at_call 49; refine ho.mono ?_; rintro e w9 ⟨rfl, h9⟩; have h9 := h9.symm; subst h9) | (go_at_call 48; refine hp.mono ?_; rintro e y1 ⟨rfl, hw1, hg1⟩) | (go_at_call_of 47 (Value.int .i64 1); refine (p1 _ hw1).mono ?_; rintro e y2 ⟨rfl, hw2, hg2⟩) | (go_at_call_of 47 (Value.int .i64 22); refine (p2 _ hw2).mono ?_; rintro e y3 ⟨rfl, hw3, hg3⟩))
      refine bodyPost_end (results_none rfl _ _ _) rfl ⟨rfl, hw3, grown_trans (grown_trans hg1 hg2) hg3⟩
    · have ev : puV R E v = pu (pu (puS R E 15) 0 1) m 22 := by unfold puV; rw [if_neg hs, if_neg hv, hm]
      have p1 := fun W hw => wput_any b (puS R E 15) 0 1 W hw (by decide) (by omega) (by omega)
      have p2 := fun W hw => wput_any b (pu (puS R E 15) 0 1) m 22 W hw hm22 (by omega) (by show E.2 + sl R 15 + 1 + 22 ≤ _; omega)
      rw [← ev] at p2
      obtain rfl : v = (m : Int) := by omega
      clear ev eo hs hk hr h hN e2 hsl hm22
      generalize puV R E (m : Int) = E' at *
      generalize pu (puS R E 15) 0 1 = E2 at *
      generalize puS R E 15 = E1 at *
      obtain ⟨M, hM⟩ : ∃ M : Int, (m : Int) = M := ⟨_, rfl⟩
      rw [hM] at p2 ho hv h0 h1 ⊢
      have d1 : decide (M < 0) = false := decide_eq_false hv
      have m0 : 0 ≤ M := by omega
      clear hM hm hv
      have mx : max M (-M) = M := by omega
      have w1 : IntKind.u64.wrap M = M := wraps_u64 _ (by omega) (by omega)
      go_enter Try.func28, Try.ntmps28
      go_wp2_with (first | (go_at_call 49; refine ho.mono ?_; rintro e w9 ⟨rfl, h9⟩; have h9 := h9.symm; subst h9) | (go_at_call 48; refine hp.mono ?_; rintro e y1 ⟨rfl, hw1, hg1⟩) | (go_at_call_of 47 (Value.int .i64 1); refine (p1 _ hw1).mono ?_; rintro e y2 ⟨rfl, hw2, hg2⟩) | (go_at_call_of 47 (Value.int .i64 22); refine (p2 _ hw2).mono ?_; rintro e y3 ⟨rfl, hw3, hg3⟩))
      refine bodyPost_end (results_none rfl _ _ _) rfl ⟨rfl, hw3, grown_trans (grown_trans hg1 hg2) hg3⟩
end Go.Proofs.Ytolfnjlkcppplaa
/- Contract of Right of a body. -/
namespace Go.Proofs.Ytolfnjlkcppplaa
open Go.RowKit
set_option linter.unusedVariables false
set_option linter.unusedSimpArgs false
set_option maxRecDepth 10000

set_option maxHeartbeats 8000000 in
theorem bright_any (c q : Int) (af : Option Addr) (nf cf : Nat) (F : List Int) (ar : Option Addr) (nr cr : Nat) (R : List Int) (ap : Option Addr) (np kp : Nat) (P : List (List Int)) (az : Option Addr) (nz kz : Nat) (Z : List (List Int)) (w : World) (h : Bks w af nf cf F ar nr cr R) (hb : BoAt w ap np kp P az nz kz Z) (mp : ∀ i, (P.getD i []).length ≤ 100) (mz : ∀ i, (Z.getD i []).length ≤ 100) :
    Calls Try.prog 11 #[.agg #[.int .i64 c, .int .i64 q, .slice af nf cf, .slice ar nr cr], .agg #[.slice ap np kp, .slice az nz kz]] w fun e w' => e = .returned (.bool (boB c q F R P Z)) ∧ Below w.heap.size w w' := by
  have hW := below2 w (.cells #[.int .i64 c, .int .i64 q, .slice af nf cf, .slice ar nr cr] 24) (.cells #[.slice ap np kp, .slice az nz kz] 28)
  have hA := (B4.new w (.int .i64 c) (.int .i64 q) (.slice af nf cf) (.slice ar nr cr) 24).below (below1 _ (.cells #[.slice ap np kp, .slice az nz kz] 28))
  have hB := B2.new2 w (.cells #[.int .i64 c, .int .i64 q, .slice af nf cf, .slice ar nr cr] 24) (.slice ap np kp) (.slice az nz kz) 28
  have hr := vright_any c q af nf cf F ar nr cr R _ (h.below hW)
  obtain ⟨ez, e0, e1, e2, e3, f0, f1, f2, f3⟩ := id hA
  obtain ⟨bz, b0, b1, g0, g1⟩ := id hB
  have HLP := hid hb.lp
  have HLZ := hid hb.lz
  cases hR : vhRight c q F R
  · have HO := hid (bo_no1 (P := P) (Z := Z) (c := c) (q := q) (F := F) (R := R) (fun k => by rw [hR] at k; exact absurd k.1 (by decide)))
    rw [hR] at hr
    clear h hb hR
    go_enter Try.func11, Try.ntmps11
    go_wp2_with (go_at_call 22; refine hr.mono ?_; rintro e y1 ⟨rfl, hy1⟩)
    go_ret
    exact ⟨ret_bool HO.out.symm, bthen' hW hy1⟩
  have hRR := hR
  rw [hR] at hr
  obtain ⟨h1, h2, h3, h4, h5, h6, h7, h8, h9⟩ := vhRight_parts hR
  obtain ⟨n, rfl⟩ := Int.eq_ofNat_of_zero_le (show 0 ≤ c by omega)
  by_cases hp : np = n
  case neg =>
    have HO := hid (bo_no1 (P := P) (Z := Z) (c := (n : Int)) (q := q) (F := F) (R := R) (fun k => hp (by have := k.2.1; rw [HLP.out] at this; omega)))
    have e : ((np : Int) != (n : Int)) = true := by simpa using fun k => hp (by omega)
    clear h hb hR hRR h1 h2 h3 h4 h5 h6 h7 h8 h9 hp
    go_enter Try.func11, Try.ntmps11
    go_wp2_with (go_at_call 22; refine hr.mono ?_; rintro e y1 ⟨rfl, hy1⟩; clear e0 e1 e2 e3 f0 f1 f2 f3 b0 b1 g0 g1; obtain ⟨ez', e0, e1, e2, e3, f0, f1, f2, f3⟩ := id (hA.below hy1); obtain ⟨bz', b0, b1, g0, g1⟩ := id (hB.below hy1))
    go_ret
    exact ⟨ret_bool HO.out.symm, bthen' hW hy1⟩
  subst hp
  by_cases hz : nz = np
  case neg =>
    have HO := hid (bo_no1 (P := P) (Z := Z) (c := (np : Int)) (q := q) (F := F) (R := R) (fun k => hz (by have := k.2.2; rw [HLZ.out] at this; omega)))
    have e : ((nz : Int) != (np : Int)) = true := by simpa using fun k => hz (by omega)
    have e' : ((np : Int) != (np : Int)) = false := by simp
    clear h hb hR hRR h1 h2 h3 h4 h5 h6 h7 h8 h9 hz
    go_enter Try.func11, Try.ntmps11
    go_wp2_with (go_at_call 22; refine hr.mono ?_; rintro e y1 ⟨rfl, hy1⟩; clear e0 e1 e2 e3 f0 f1 f2 f3 b0 b1 g0 g1; obtain ⟨ez', e0, e1, e2, e3, f0, f1, f2, f3⟩ := id (hA.below hy1); obtain ⟨bz', b0, b1, g0, g1⟩ := id (hB.below hy1))
    go_ret
    exact ⟨ret_bool HO.out.symm, bthen' hW hy1⟩
  subst hz
  obtain rfl : 45 = nf := by rw [← h.lf, h5]
  obtain rfl : 16 = nr := by rw [← h.lr, h6]
  have HNO : Hid (∀ i, i < nz → chB F (P.getD i []) (Z.getD i []) = false → boB (nz : Int) q F R P Z = false) := fun i hi hc => by
    unfold boB
    rw [Bool.and_eq_false_iff]
    right
    rw [Bool.eq_false_iff]
    intro k
    have := List.all_eq_true.1 k i (by simp [HLP.out]; exact hi)
    rw [hc] at this; cases this
  have HYES : Hid ((∀ i, i < nz → chB F (P.getD i []) (Z.getD i []) = true) → boB (nz : Int) q F R P Z = true) := fun k => by
    unfold boB
    rw [hRR, decide_eq_true (by rw [HLP.out]), decide_eq_true (by rw [HLZ.out])]
    show ((List.range P.length).all _) = true
    rw [List.all_eq_true]
    intro i hi
    exact k i (by rw [← HLP.out]; simpa using hi)
  have HBO := hid hb
  have HF := hid (And.intro (h.below hW).vf h5)
  have HRF := hid h7
  have HMP := hid mp
  have HMZ := hid mz
  have e' : ((nz : Int) != (nz : Int)) = false := by simp
  have hn2 : nz ≤ 2 := by omega
  clear h hb hR hRR h1 h2 h3 h4 h5 h6 h7 h8 h9 mp mz
  generalize boB (nz : Int) q F R P Z = B at *
  go_enter Try.func11, Try.ntmps11
  go_upto_region 3 with (go_at_call 22; refine hr.mono ?_; rintro e y1 ⟨rfl, hy1⟩; clear e0 e1 e2 e3 f0 f1 f2 f3 b0 b1 g0 g1; obtain ⟨ez', e0, e1, e2, e3, f0, f1, f2, f3⟩ := id (hA.below hy1); obtain ⟨bz', b0, b1, g0, g1⟩ := id (hB.below hy1))
  have HVF := hid (HF.out.1.below hy1)
  have HW1 := hid (bthen' hW hy1)
  clear hA hB hW hy1 hr
  go_wp2
  go_loop [29] (fun p => ∃ k : Nat, k ≤ nz ∧ p = .int .i64 k ∧ Hid (∀ i, i < k → chB F (P.getD i []) (Z.getD i []) = true)) (fun p => nz - (intOf p).toNat)
  case atStart => exact ⟨0, by omega, rfl, fun j hj => by omega⟩
  case round =>
    obtain ⟨k, hk, rfl, HA⟩ := hrel
    by_cases hlt : k < nz
    · obtain ⟨p1, o1, rfl, hp1, rx, kx, cx, _, vx⟩ := (HBO.out.vp.below HW1.out).at k hlt
      obtain ⟨p2, o2, rfl, hp2, rz, kz', cz, _, vz⟩ := (HBO.out.vz.below HW1.out).at k hlt
      have hc1 := rposts_any rx _ kx _ af cf F y1 rfl (HMP.out k) vx HF.out.2 HVF.out HRF.out
      have hc2 : ∀ pb, pb = decide (0 < (P.getD k []).length) → Calls Try.prog 24 #[.slice rz (Z.getD k []).length kz', .bool pb] y1 fun e w' => e = .returned (.bool (rsB (Z.getD k []) (decide (0 < (P.getD k []).length)))) ∧ w' = y1 := fun pb hpb => by rw [hpb]; exact rres_any rz _ kz' _ (decide (0 < (P.getD k []).length)) y1 rfl (HMZ.out k) vz
      have HCH := hid (ch_two F (P.getD k []) (Z.getD k []))
      have HNK := hid (HNO.out k hlt)
      have HA2 : Hid (chB F (P.getD k []) (Z.getD k []) = true → ∀ i, i < k + 1 → chB F (P.getD i []) (Z.getD i []) = true) := fun hp j hj => by
        by_cases e : j < k
        · exact HA.out j e
        · obtain rfl : j = k := by omega
          exact hp
      clear vx vz
      generalize chB F (P.getD k []) (Z.getD k []) = D at *
      generalize poB F (P.getD k []) = D1 at *
      generalize rsB (Z.getD k []) (decide (0 < (P.getD k []).length)) = D2 at *
      generalize (P.getD k []).length = nx at *
      generalize (Z.getD k []).length = nz' at *
      have i1 : (0 : Int) ≤ (k : Int) := by omega
      have i2 : (k : Int) < (nz : Int) := by omega
      have i3 : IntKind.i64.wrap (k : Int) = k := wraps_i64 _ (by omega) (by omega)
      cases D1
      · have HO := hid (HNK.out (by rw [HCH.out]; rfl))
        clear HA2 HNK HCH hc2
        go_wp2_with (go_at_call 23; refine hc1.mono ?_; rintro e w9 ⟨rfl, h9⟩; have h9 := h9.symm; subst h9)
        go_ret
        exact ⟨ret_bool HO.out.symm, HW1.out⟩
      have hd : (nx = 0 ∧ decide (0 < nx) = false) ∨ ((0 : Int) < (nx : Int) ∧ decide (0 < nx) = true) := by
        by_cases e : nx = 0
        · exact .inl ⟨e, decide_eq_false (by omega)⟩
        · exact .inr ⟨by omega, decide_eq_true (by omega)⟩
      rcases hd with ⟨hd, hd2⟩ | ⟨hd, hd2⟩
      · subst hd
        rw [hd2] at hc2
        clear hd2
        cases D2
        · have HO := hid (HNK.out (by rw [HCH.out]; rfl))
          clear HA2 HNK HCH
          go_wp2_with (first | (go_at_call 23; refine hc1.mono ?_; rintro e w9 ⟨rfl, h9⟩; have h9 := h9.symm; subst h9) | (go_at_call 24; refine (hc2 _ (by first | rfl | (simp; done) | (simp; omega) | (simpa using hd))).mono ?_; rintro e w9 ⟨rfl, h9⟩; have h9 := h9.symm; subst h9))
          go_ret
          exact ⟨ret_bool HO.out.symm, HW1.out⟩
        · have HA3 := hid (HA2.out (by rw [HCH.out]; rfl))
          clear HA2 HNK HCH
          go_wp2_with (first | (go_at_call 23; refine hc1.mono ?_; rintro e w9 ⟨rfl, h9⟩; have h9 := h9.symm; subst h9) | (go_at_call 24; refine (hc2 _ (by first | rfl | (simp; done) | (simp; omega) | (simpa using hd))).mono ?_; rintro e w9 ⟨rfl, h9⟩; have h9 := h9.symm; subst h9))
          exact ⟨⟨k + 1, by omega, by go_num, HA3⟩, by simp [intOf]; omega⟩
      · rw [hd2] at hc2
        clear hd2
        cases D2
        · have HO := hid (HNK.out (by rw [HCH.out]; rfl))
          clear HA2 HNK HCH
          go_wp2_with (first | (go_at_call 23; refine hc1.mono ?_; rintro e w9 ⟨rfl, h9⟩; have h9 := h9.symm; subst h9) | (go_at_call 24; refine (hc2 _ (by first | rfl | (simp; done) | (simp; omega) | (simpa using hd))).mono ?_; rintro e w9 ⟨rfl, h9⟩; have h9 := h9.symm; subst h9))
          go_ret
          exact ⟨ret_bool HO.out.symm, HW1.out⟩
        · have HA3 := hid (HA2.out (by rw [HCH.out]; rfl))
          clear HA2 HNK HCH
          go_wp2_with (first | (go_at_call 23; refine hc1.mono ?_; rintro e w9 ⟨rfl, h9⟩; have h9 := h9.symm; subst h9) | (go_at_call 24; refine (hc2 _ (by first | rfl | (simp; done) | (simp; omega) | (simpa using hd))).mono ?_; rintro e w9 ⟨rfl, h9⟩; have h9 := h9.symm; subst h9))
          exact ⟨⟨k + 1, by omega, by go_num, HA3⟩, by simp [intOf]; omega⟩
    · have hkn : k = nz := by omega
      have HO := hid (HYES.out (fun i hi => HA.out i (by omega)))
      clear hkn
      go_wp2
      go_ret
      exact ⟨ret_bool HO.out.symm, HW1.out⟩
end Go.Proofs.Ytolfnjlkcppplaa
/- Contract of Write of a body. -/
namespace Go.Proofs.Ytolfnjlkcppplaa
open Go.RowKit
set_option linter.unusedVariables false
set_option linter.unusedSimpArgs false
set_option maxRecDepth 10000

def wbE (c q : Int) (F R : List Int) (P Z : List (List Int)) : Int := if boB c q F R P Z = true then 0 else 1
def wbX (c q : Int) (F R : List Int) (P Z : List (List Int)) : List Int := if boB c q F R P Z = true then boX F R P Z else []
theorem cell_grown {a b : World} {g p o : Nat} {v : Value} (hg : a.grownBy b (some g)) (hp : p < a.heap.size) (hne : p ≠ g) (hc : a.cell? ⟨p, o, none⟩ = some v) : b.cell? ⟨p, o, none⟩ = some v :=
  (World.cell?_of_block (w := a) (a := ⟨p, o, none⟩) (hg.block p hp (by intro e; simp only [Option.some.injEq] at e; omega))).trans hc
/-- What stands while a body is written: the header's box, the body's box, the writer. -/
structure WrB (w0 W1 w : World) (b : Nat) (E : Nat × Nat) (c q : Int) (af : Option Addr) (cf : Nat) (ar : Option Addr) (cr : Nat) (ap : Option Addr) (np kp : Nat) (az : Option Addr) (nz kz : Nat) : Prop where
  wr : Wv w b E
  box : B4 w w0.heap.size (.int .i64 c) (.int .i64 q) (.slice af 45 cf) (.slice ar 16 cr)
  bod : B2 w (w0.heap.size + 1) (.slice ap np kp) (.slice az nz kz)
  gr : W1.grownBy w (some b)
theorem WrB.next {w0 W1 w w' : World} {b : Nat} {E E' : Nat × Nat} {c q : Int} {af : Option Addr} {cf : Nat} {ar : Option Addr} {cr : Nat} {ap : Option Addr} {np kp : Nat} {az : Option Addr} {nz kz : Nat} (h : WrB w0 W1 w b E c q af cf ar cr ap np kp az nz kz) (hs : w0.heap.size + 1 < b) (hw : Wv w' b E') (hg : w.grownBy w' (some b)) : WrB w0 W1 w' b E' c q af cf ar cr ap np kp az nz kz :=
  ⟨hw, h.box.grown hg (by intro e; simp only [Option.some.injEq] at e; omega), h.bod.grown hg (by intro e; simp only [Option.some.injEq] at e; omega), grown_trans h.gr hg⟩
theorem ch_at {F R : List Int} {n : Nat} {P Z : List (List Int)} (h : BoOk n F R P Z) {i : Nat} (hi : i < n) : ((P.getD i []).length = 0 ∨ (flOk (P.getD i []) = true ∧ ∀ j, j < 6 → 0 < F.getD ((P.getD i []).getD j 0).toNat 0)) ∧ ∀ j, j < (Z.getD i []).length → -4194303 ≤ (Z.getD i []).getD j 0 ∧ (Z.getD i []).getD j 0 ≤ 4194303 := by
  rcases h.ch i hi with k | k
  · exact ⟨.inl k.1, fun j hj => absurd hj (by omega)⟩
  · exact ⟨.inr ⟨k.1, k.2.1⟩, fun j hj => k.2.2.2 j hj⟩
set_option maxHeartbeats 8000000 in
theorem bwrite_any (c q : Int) (af : Option Addr) (nf cf : Nat) (F : List Int) (ar : Option Addr) (nr cr : Nat) (R : List Int) (ap : Option Addr) (np kp : Nat) (P : List (List Int)) (az : Option Addr) (nz kz : Nat) (Z : List (List Int)) (w : World) (h : Bks w af nf cf F ar nr cr R) (hb : BoAt w ap np kp P az nz kz Z) (mp : ∀ i, (P.getD i []).length ≤ 100) (mz : ∀ i, (Z.getD i []).length ≤ 100) :
    Calls Try.prog 15 #[.agg #[.int .i64 c, .int .i64 q, .slice af nf cf, .slice ar nr cr], .agg #[.slice ap np kp, .slice az nz kz]] w fun e w' => ∃ v, e = .returned (.tuple #[v, .int .i64 (wbE c q F R P Z)]) ∧ RwF w.heap.size .u8 w' v (wbX c q F R P Z) ∧ Below w.heap.size w w' := by
  have hW := below2 w (.cells #[.int .i64 c, .int .i64 q, .slice af nf cf, .slice ar nr cr] 24) (.cells #[.slice ap np kp, .slice az nz kz] 28)
  have hA := (B4.new w (.int .i64 c) (.int .i64 q) (.slice af nf cf) (.slice ar nr cr) 24).below (below1 _ (.cells #[.slice ap np kp, .slice az nz kz] 28))
  have hB := B2.new2 w (.cells #[.int .i64 c, .int .i64 q, .slice af nf cf, .slice ar nr cr] 24) (.slice ap np kp) (.slice az nz kz) 28
  have hr := bright_any c q af nf cf F ar nr cr R ap np kp P az nz kz Z _ (h.below hW) (hb.below hW) mp mz
  cases hR : boB c q F R P Z
  · have HE : Hid (wbE c q F R P Z = 1) := by unfold Hid wbE; rw [hR]; rfl
    have HX : Hid (wbX c q F R P Z = []) := by unfold Hid wbX; rw [hR]; rfl
    rw [hR] at hr
    clear hR h hb mp mz
    obtain ⟨ez, e0, e1, e2, e3, f0, f1, f2, f3⟩ := id hA
    obtain ⟨bz, b0, b1, g0, g1⟩ := id hB
    go_enter Try.func15, Try.ntmps15
    go_wp2_with (go_at_call 11; refine hr.mono ?_; rintro e y1 ⟨rfl, hy1⟩)
    go_ret2
    exact ⟨.slice none 0 0, by rw [HE.out]; rfl, by rw [HX.out]; exact ⟨none, 0, rfl, .inl rfl⟩, bthen' hW hy1⟩
  have HE : Hid (wbE c q F R P Z = 0) := by unfold Hid wbE; rw [hR]; rfl
  have HX : Hid (wbX c q F R P Z = boX F R P Z) := by unfold Hid wbX; rw [hR]; rfl
  obtain ⟨hbk, hbo, hl1, hl2⟩ := bk_bo hR
  obtain ⟨hr1, hr2, _⟩ := bo_iff.1 hR
  rw [hR] at hr
  obtain rfl : 45 = nf := by rw [← h.lf, hbk.lf]
  obtain rfl : 16 = nr := by rw [← h.lr, hbk.lr]
  have elp := hb.lp
  have elz : nz = np := by rw [← hb.lz, ← hb.lp, hbo.lz]
  subst elz
  rw [elp] at hbo hr2
  subst hr2
  have hn2 : nz ≤ 2 := by have := vhRight_parts hr1; omega
  have HBK := hid hbk
  have HBO := hid hbo
  have HBA := hid hb
  have HBS := hid h
  have HL := hid (And.intro hl1 hl2)
  have HGP := hid (fun k => (grows_puX F).part P k Ok2.start)
  have HGZ := hid (fun k => (grows_puW R).part Z k (ok_puP F P))
  have HMZ := hid mz
  clear hR hr1 hl1 hl2 hbk hbo hb h mp elp mz
  go_enter Try.func15, Try.ntmps15
  obtain ⟨ez, e0, e1, e2, e3, f0, f1, f2, f3⟩ := id hA
  obtain ⟨bz, b0, b1, g0, g1⟩ := id hB
  go_upto_region 4 with (go_at_call 11; refine hr.mono ?_; rintro e y1 ⟨rfl, hy1⟩; clear e0 e1 e2 e3 f0 f1 f2 f3 b0 b1 g0 g1)
  have hA1 := hA.below hy1
  have hB1 := hB.below hy1
  have HW1 := hid (bthen' hW hy1)
  have hs : w.heap.size + 1 < y1.heap.size := hB1.z
  have H0 : WrB w (y1.alloc (.cells #[.slice none 0 0, .int .i64 0, .int .i64 0] 57)) (y1.alloc (.cells #[.slice none 0 0, .int .i64 0, .int .i64 0] 57)) y1.heap.size (0, 0) (nz : Int) q af cf ar cr ap nz kp az nz kz :=
    ⟨wv_start y1 _, hA1.below (below1 _ _), hB1.below (below1 _ _), World.grownBy.refl _ _⟩
  have HRF := hid (fun W (hg : (y1.alloc (.cells #[.slice none 0 0, .int .i64 0, .int .i64 0] 57)).grownBy W (some y1.heap.size)) => RwM.grown ((RwM.of_rw (HBS.out.vf.below HW1.out)).below (below1 y1 (.cells #[.slice none 0 0, .int .i64 0, .int .i64 0] 57))) hg (fun i e => .inr (by simp only [Option.some.injEq] at e; omega)))
  have HRR := hid (fun W (hg : (y1.alloc (.cells #[.slice none 0 0, .int .i64 0, .int .i64 0] 57)).grownBy W (some y1.heap.size)) => RwM.grown ((RwM.of_rw (HBS.out.vr.below HW1.out)).below (below1 y1 (.cells #[.slice none 0 0, .int .i64 0, .int .i64 0] 57))) hg (fun i e => .inr (by simp only [Option.some.injEq] at e; omega)))
  have HRP : Hid (∀ W, (y1.alloc (.cells #[.slice none 0 0, .int .i64 0, .int .i64 0] 57)).grownBy W (some y1.heap.size) → ∀ i, i < nz → ∃ p o r kk, ap = some ⟨p, o, none⟩ ∧ W.cell? ⟨p, o + i, none⟩ = some (.slice r (P.getD i []).length kk) ∧ RwM 0 y1.heap.size .i64 W (.slice r (P.getD i []).length kk) (P.getD i [])) := fun W hg i hi => by
    obtain ⟨p, o, e, hp, r, kk, cc, _, vv⟩ := (HBA.out.vp.below HW1.out).at i hi
    exact ⟨p, o, r, kk, e, cell_grown hg (by simp; omega) (by omega) (((bcell (below1 y1 _)).1 _ _ hp).trans cc), RwM.grown ((RwM.of_rw vv).below (below1 y1 _)) hg (fun i e => .inr (by simp only [Option.some.injEq] at e; omega))⟩
  have HRZ : Hid (∀ W, (y1.alloc (.cells #[.slice none 0 0, .int .i64 0, .int .i64 0] 57)).grownBy W (some y1.heap.size) → ∀ i, i < nz → ∃ p o r kk, az = some ⟨p, o, none⟩ ∧ W.cell? ⟨p, o + i, none⟩ = some (.slice r (Z.getD i []).length kk) ∧ RwM 0 y1.heap.size .i64 W (.slice r (Z.getD i []).length kk) (Z.getD i [])) := fun W hg i hi => by
    obtain ⟨p, o, e, hp, r, kk, cc, _, vv⟩ := (HBA.out.vz.below HW1.out).at i hi
    exact ⟨p, o, r, kk, e, cell_grown hg (by simp; omega) (by omega) (((bcell (below1 y1 _)).1 _ _ hp).trans cc), RwM.grown ((RwM.of_rw vv).below (below1 y1 _)) hg (fun i e => .inr (by simp only [Option.some.injEq] at e; omega))⟩
  have HBL := hid (HW1.out.alloc (by omega : w.heap.size ≤ y1.heap.size) (.cells #[.slice none 0 0, .int .i64 0, .int .i64 0] 57))
  have hzs : y1.heap.size < (y1.alloc (.cells #[.slice none 0 0, .int .i64 0, .int .i64 0] 57)).heap.size := by simp
  clear hA hB hA1 hB1 HBA HBS hy1 hW hr HW1
  generalize y1.alloc (.cells #[.slice none 0 0, .int .i64 0, .int .i64 0] 57) = W1 at *
  generalize y1.heap.size = b at *
  obtain ⟨ez, e0, e1, e2, e3, f0, f1, f2, f3⟩ := id H0.box
  obtain ⟨bz, b0, b1, g0, g1⟩ := id H0.bod
  have HH0 := hid H0
  clear H0
  go_wp2
  go_loopw [21] (fun p wr => ∃ k : Nat, k ≤ nz ∧ p = .int .i64 k ∧ Hid (WrB w W1 wr b ((P.take k).foldl (puX F) (0, 0)) (nz : Int) q af cf ar cr ap nz kp az nz kz)) (fun p _ => nz - (intOf p).toNat)
  case atStart => exact ⟨0, by omega, rfl, HH0⟩
  case round =>
    clear HH0 e0 e1 e2 e3 f0 f1 f2 f3 b0 b1 g0 g1
    obtain ⟨k, hk, rfl, HW⟩ := hrel
    obtain ⟨W2, rfl⟩ : ∃ x, x = wr := ⟨wr, rfl⟩
    obtain ⟨ez', e0, e1, e2, e3, f0, f1, f2, f3⟩ := id HW.out.box
    obtain ⟨bz', b0, b1, g0, g1⟩ := id HW.out.bod
    by_cases hlt : k < nz
    · obtain ⟨p1, o1, r1, k1, rfl, cx, vx⟩ := HRP.out W2 HW.out.gr k hlt
      have hch := (ch_at HBO.out hlt).1
      have hroom := (HGP.out k).2.1
      have hl1 := HL.out.1
      have hl2 := HL.out.2
      have hpe : (puP F P).2 = (P.foldl (puX F) (0, 0)).2 := rfl
      have hp := wposts_any b _ r1 _ k1 (P.getD k []) af cf F R W2 HW.out.wr vx rfl (HRF.out W2 HW.out.gr) HBK.out hch (by omega)
      rw [← fold_step (puX F) (0, 0) P k [] (by rw [HBO.out.lp]; exact hlt)] at hp
      clear vx hch hroom hl1 hl2 hpe
      generalize (P.getD k []).length = nx at *
      have i1 : (0 : Int) ≤ (k : Int) := by omega
      have i2 : (k : Int) < (nz : Int) := by omega
      have i3 : IntKind.i64.wrap (k : Int) = k := wraps_i64 _ (by omega) (by omega)
      go_wp2_with (go_at_call 27; refine hp.mono ?_; rintro e y2 ⟨rfl, hw2, hg2⟩)
      exact ⟨⟨k + 1, by omega, by go_num, HW.out.next hs hw2 hg2⟩, by simp [intOf]; omega⟩
    have hkn : k = nz := by omega
    have H1 : Hid (WrB w W1 W2 b (puP F P) (nz : Int) q af cf ar cr ap nz kp az nz kz) := by
      have := HW.out
      rw [hkn, List.take_of_length_le (by rw [HBO.out.lp]; exact Nat.le_refl _)] at this
      exact this
    clear HW hk hkn HRP HGP HRF
    go_wp2
    go_loopw [33] (fun p wr => ∃ i : Nat, i ≤ nz ∧ p = .int .i64 i ∧ Hid (WrB w W1 wr b ((Z.take i).foldl (puW R) (puP F P)) (nz : Int) q af cf ar cr ap nz kp az nz kz)) (fun p _ => nz - (intOf p).toNat)
    case atStart => exact ⟨0, by omega, rfl, H1⟩
    case round =>
      clear H1 e0 e1 e2 e3 f0 f1 f2 f3 b0 b1 g0 g1
      obtain ⟨i, hi, rfl, HW⟩ := hrel
      obtain ⟨W3, rfl⟩ : ∃ x, x = wr := ⟨wr, rfl⟩
      obtain ⟨ez', e0, e1, e2, e3, f0, f1, f2, f3⟩ := id HW.out.box
      obtain ⟨bz', b0, b1, g0, g1⟩ := id HW.out.bod
      by_cases hlt : i < nz
      · obtain ⟨p1, o1, r1, k1, rfl, cx, vx⟩ := HRZ.out W3 HW.out.gr i hlt
        have HCH := hid (ch_at HBO.out hlt).2
        have hroom := (HGZ.out (i + 1)).2.1
        have hl1 := HL.out.1
        have hpe : (puZ F R P Z).2 = (Z.foldl (puW R) (puP F P)).2 := rfl
        have hst := fold_step (puW R) (puP F P) Z i [] (by rw [HBO.out.lz]; exact hlt)
        have HRO : Hid (((Z.getD i []).foldl (puV R) ((Z.take i).foldl (puW R) (puP F P))).2 ≤ 1442) := by
          unfold Hid
          rw [hst] at hroom
          exact Nat.le_trans hroom (by rw [← hpe]; exact hl1)
        have HST : Hid ((Z.take (i + 1)).foldl (puW R) (puP F P) = (Z.getD i []).foldl (puV R) ((Z.take i).foldl (puW R) (puP F P))) := hst
        have HVX := hid vx
        have HLZ := HMZ.out i
        clear hroom hl1 hpe hst vx
        generalize Z.getD i [] = z at *
        obtain ⟨nx, hnx⟩ : ∃ n, z.length = n := ⟨_, rfl⟩
        have HNX := hid hnx
        rw [hnx] at cx HLZ
        rw [hnx] at HVX HCH
        have HFP := hid (fun j => (grows_puV R).part z j HW.out.wr.lt)
        clear hnx
        have i1 : (0 : Int) ≤ (i : Int) := by omega
        have i2 : (i : Int) < (nz : Int) := by omega
        have i3 : IntKind.i64.wrap (i : Int) = i := wraps_i64 _ (by omega) (by omega)
        have hnx2 : (nx : Int) ≤ 100 := by omega
        go_wp2
        go_loopw [39] (fun p wr => ∃ j : Nat, j ≤ nx ∧ p = .int .i64 j ∧ Hid (Wv wr b ((z.take j).foldl (puV R) ((Z.take i).foldl (puW R) (puP F P)))) ∧ Hid (W3.grownBy wr (some b))) (fun p _ => nx - (intOf p).toNat)
        case atStart => exact ⟨0, by omega, rfl, HW.out.wr, World.grownBy.refl _ _⟩
        case round =>
          clear e0 e1 e2 e3 f0 f1 f2 f3 b0 b1 g0 g1 cx
          obtain ⟨j, hj, rfl, HV, HG⟩ := hrel
          obtain ⟨W4, rfl⟩ : ∃ x, x = wr := ⟨wr, rfl⟩
          have hn := HW.out.next hs HV.out HG.out
          obtain ⟨ez', e0, e1, e2, e3, f0, f1, f2, f3⟩ := id hn.box
          obtain ⟨bz', b0, b1, g0, g1⟩ := id hn.bod
          have HN := hid hn
          clear hn
          by_cases hjt : j < nx
          · have hv4 := (HVX.out.grown HG.out (fun i e => .inr (by simp only [Option.some.injEq] at e; omega))).rw
            have hLL := HNX.out
            rw [← hLL] at hv4
            obtain ⟨p4, o4, rfl, _, hc4⟩ := hv4.at j (by omega)
            have hcb := HCH.out j hjt
            have hp := wresi_any b _ (z.getD j 0) ar cr F R W4 HV.out hcb.1 hcb.2 HBK.out (HRR.out W4 HN.out.gr) (by have h1 := (HFP.out j).2.1; have h2 := HRO.out; omega)
            rw [← fold_step (puV R) _ z j 0 (by omega)] at hp
            have j1 : (0 : Int) ≤ (j : Int) := by omega
            have j2 : (j : Int) < (nx : Int) := by omega
            have j3 : IntKind.i64.wrap (j : Int) = j := wraps_i64 _ (by omega) (by omega)
            clear hv4 hLL hcb HV
            generalize z.getD j 0 = v at *
            go_wp2_with (go_at_call 28; refine hp.mono ?_; rintro e y2 ⟨rfl, hw2, hg2⟩)
            exact ⟨⟨j + 1, by omega, by go_num, hw2, grown_trans HG.out hg2⟩, by simp [intOf]; omega⟩
          · have hjn : j = nx := by omega
            have HV2 : Hid (Wv W4 b ((Z.take (i + 1)).foldl (puW R) (puP F P))) := by
              unfold Hid
              have := HV.out
              have ht : z.take nx = z := List.take_of_length_le (by rw [HNX.out]; exact Nat.le_refl _)
              rw [hjn, ht] at this
              rw [HST.out]
              exact this
            clear hjn hj HV
            go_wp2
            exact ⟨⟨i + 1, by omega, by go_num, HW.out.next hs HV2.out HG.out⟩, by simp [intOf]; omega⟩
      · have hin : i = nz := by omega
        have H2 : Hid (WrB w W1 W3 b (puZ F R P Z) (nz : Int) q af cf ar cr ap nz kp az nz kz) := by
          have := HW.out
          rw [hin, List.take_of_length_le (by rw [HBO.out.lz]; exact Nat.le_refl _)] at this
          exact this
        clear HW hi hin HRZ HGZ HRR HMZ
        obtain ⟨a5, k5, hB5, hR5⟩ := H2.out.wr.ex
        obtain ⟨tz, t0, t1, t2, u0, u1, u2⟩ := id hB5
        go_wp2
        go_ret2
        exact ⟨_, by rw [HE.out]; rfl, by rw [HX.out]; exact hR5.mono (by omega), HBL.out.trans (grown_lt H2.out.gr (by omega) (by omega))⟩
end Go.Proofs.Ytolfnjlkcppplaa
/- Contracts: a number, a symbol and a residue are read by the program. -/
namespace Go.Proofs.Ytolfnjlkcppplaa
open Go.RowKit
set_option linter.unusedVariables false
set_option linter.unusedSimpArgs false
set_option maxRecDepth 10000

theorem bget_ok (a : Option Addr) (L cap : Nat) (xs : List Int) (q n : Nat) (w : World) (hn : xs.length = L) (hv : Rw .u8 w (.slice a L cap) xs) (hx : Byts xs) (hl : L ≤ 2000) (hk : n ≤ 32) (hT : q + n ≤ 8 * L) :
    Calls Try.prog 51 #[.agg #[.slice a L cap, .int .i64 (q : Nat)], .int .i64 (n : Nat)] w fun e w' => e = .returned (.tuple #[.agg #[.slice a L cap, .int .i64 ((q + n : Nat) : Int)], .int .u64 (fld (bv xs) q n : Nat), .int .i64 0]) ∧ Below w.heap.size w w' := by
  obtain ⟨g1, g2⟩ := tkB_get xs q n hk
  unfold tkB at g1 g2
  rw [hn, if_pos hT] at g1 g2
  have h := get_any (.slice a L cap) xs q n w hv hx (by omega)
  rw [g1, g2, if_pos rfl] at h
  exact h
theorem bget_more (a : Option Addr) (L cap : Nat) (xs : List Int) (q n : Nat) (w : World) (hn : xs.length = L) (hv : Rw .u8 w (.slice a L cap) xs) (hx : Byts xs) (hl : L ≤ 2000) (hk : n ≤ 32) (hT : ¬ q + n ≤ 8 * L) :
    Calls Try.prog 51 #[.agg #[.slice a L cap, .int .i64 (q : Nat)], .int .i64 (n : Nat)] w fun e w' => e = .returned (.tuple #[.agg #[.slice a L cap, .int .i64 (q : Nat)], .int .u64 0, .int .i64 4]) ∧ Below w.heap.size w w' := by
  obtain ⟨g1, g2⟩ := tkB_get xs q n hk
  unfold tkB at g1 g2
  rw [hn, if_neg hT] at g1 g2
  have h := get_any (.slice a L cap) xs q n w hv hx (by omega)
  rw [g1, g2] at h
  rw [if_neg (show ¬ ((4 : Int) = 0) by decide)] at h
  exact h
theorem hread_any (a : Option Addr) (L cap : Nat) (vl : Value) (xs l : List Int) (q : Nat) (w : World) (hn : xs.length = L) (hv : Rw .u8 w (.slice a L cap) xs) (hx : Byts xs) (hl : L ≤ 2000) (hvl : Rw .i64 w vl l) (hr : rightL l = true) :
    Calls Try.prog 52 #[.agg #[.slice a L cap, .int .i64 (q : Nat)], vl] w fun e w' => e = .returned (.tuple #[.agg #[.slice a L cap, .int .i64 ((tkS l (bv xs) (8 * L) q).1 : Nat)], .int .i64 (tkS l (bv xs) (8 * L) q).2.1, .int .i64 (tkS l (bv xs) (8 * L) q).2.2]) ∧ Below w.heap.size w w' := by
  subst hn
  have h := read_ok a cap vl xs l q w hx (by omega) hv hvl hr
  obtain ⟨r1, r2⟩ := tkS_rd l (bv xs) (8 * xs.length) q
  have r3 : rdP l (bv xs) (8 * xs.length) q = ((tkS l (bv xs) (8 * xs.length) q).1 : Nat) := by
    unfold rdP tkS
    cases hf : findS l (bv xs) (8 * xs.length) q with
    | some s =>
      have := inB_at (right_parts hr).2.2.1 s
      show (q : Int) + l.getD s 0 = ((q + (l.getD s 0).toNat : Nat) : Int)
      omega
    | none => rfl
  rw [r1, r2, r3] at h
  exact h
/-- An escaped residue, read. -/
def tkX (V T q : Nat) : Nat × Int × Int := if q + 1 ≤ T then (if q + 23 ≤ T then (if fld V q 1 = 1 then (if fld V (q + 1) 22 = 0 then (q + 23, 0, 2) else (q + 23, -((fld V (q + 1) 22 : Nat) : Int), 0)) else (q + 23, ((fld V (q + 1) 22 : Nat) : Int), 0)) else (q + 1, 0, 4)) else (q, 0, 4)
set_option maxHeartbeats 4000000 in
theorem esc_any (a : Option Addr) (L cap : Nat) (xs : List Int) (q : Nat) (w : World) (hn : xs.length = L) (hv : Rw .u8 w (.slice a L cap) xs) (hx : Byts xs) (hl : L ≤ 2000) (hq : q ≤ 8 * L) :
    Calls Try.prog 65 #[.agg #[.slice a L cap, .int .i64 (q : Nat)]] w fun e w' => e = .returned (.tuple #[.agg #[.slice a L cap, .int .i64 ((tkX (bv xs) (8 * L) q).1 : Nat)], .int .i64 (tkX (bv xs) (8 * L) q).2.1, .int .i64 (tkX (bv xs) (8 * L) q).2.2]) ∧ Below w.heap.size w w' := by
  have hA := (B2.new w (.slice a L cap) (.int .i64 (q : Nat)) 64).below (below1 _ (.cells #[.slice none 0 0, .int .i64 0] 64))
  have hB := B2.new2 w (.cells #[.slice a L cap, .int .i64 (q : Nat)] 64) (.slice none 0 0) (.int .i64 0) 64
  have hW := below2 w (.cells #[.slice a L cap, .int .i64 (q : Nat)] 64) (.cells #[.slice none 0 0, .int .i64 0] 64)
  have gok := fun (q n : Nat) w' (hb : Below w.heap.size w w') (hk : n ≤ 32) (hT : q + n ≤ 8 * L) => bget_ok a L cap xs q n w' hn (hv.below hb) hx hl hk hT
  have gno := fun (q n : Nat) w' (hb : Below w.heap.size w w') (hk : n ≤ 32) (hT : ¬ q + n ≤ 8 * L) => bget_more a L cap xs q n w' hn (hv.below hb) hx hl hk hT
  clear hn hv hx
  generalize bv xs = V at *
  have hTl : 8 * L ≤ 16000 := by omega
  generalize 8 * L = T at *
  have hA0 := hA
  have hB0 := hB
  obtain ⟨z, c0, c1, f0, f1⟩ := id hA
  obtain ⟨z9, d0, d1, g0, g1⟩ := id hB
  by_cases c1' : q + 1 ≤ T
  case neg =>
    have HO : Hid (tkX V T q = (q, 0, 4)) := if_neg c1'
    have h1 := fun w' hb => gno q 1 w' hb (by omega) c1'
    clear gok gno c1'
    go_enter Try.func65, Try.ntmps65
    go_wp2_with (first | (go_at_call_of 51 (Value.int .i64 1); refine (h1 _ hW).mono ?_; rintro e y1 ⟨rfl, hy1⟩; have hP1 := hA0.below hy1; have hA1 := hP1.set (.slice a L cap) (.int .i64 (q : Nat)); have hB1 := ((hB0.below hy1).other w.heap.size 0 (.slice a L cap) (by omega)).other w.heap.size 1 (.int .i64 (q : Nat)) (by omega); have hb1 := bset2' (bthen hW hy1 hW.size) w.heap.size (.slice a L cap) (.int .i64 (q : Nat)) (by omega); clear c0 c1 f0 f1 d0 d1 g0 g1; obtain ⟨z1, m10, m11, n10, n11⟩ := id hP1; obtain ⟨z1', c0, c1, f0, f1⟩ := id hA1; obtain ⟨z1'', d0, d1, g0, g1⟩ := id hB1))
    obtain ⟨zz, r0, r1, t0, t1⟩ := hB1.set (.slice a L cap) (.int .i64 (q : Nat))
    refine bodyPost_ret (v := .tuple #[.agg #[.slice a L cap, .int .i64 (q : Nat)], .int .i64 0, .int .i64 4]) (by simp [results, Try.results65, go_sem, r0, r1, t0, t1]) rfl ⟨by rw [HO.out], bset2' hb1 (w.heap.size + 1) _ _ (by omega)⟩
  have h1 := fun w' hb => gok q 1 w' hb (by omega) c1'
  have hsg : fld V q 1 < 2 := fld_lt V q 1
  by_cases c2 : q + 23 ≤ T
  case neg =>
    have HO : Hid (tkX V T q = (q + 1, 0, 4)) := by unfold Hid tkX; rw [if_pos c1', if_neg c2]
    have h22 := fun w' hb => gno (q + 1) 22 w' hb (by omega) (by omega)
    clear gok gno c1' c2 hsg
    generalize fld V q 1 = G at *
    generalize q + 1 = qq at *
    go_enter Try.func65, Try.ntmps65
    go_wp2_with (first | (go_at_call_of 51 (Value.int .i64 1); refine (h1 _ hW).mono ?_; rintro e y1 ⟨rfl, hy1⟩; have hP1 := hA0.below hy1; have hA1 := hP1.set (.slice a L cap) (.int .i64 (qq : Nat)); have hB1 := ((hB0.below hy1).other w.heap.size 0 (.slice a L cap) (by omega)).other w.heap.size 1 (.int .i64 (qq : Nat)) (by omega); have hb1 := bset2' (bthen hW hy1 hW.size) w.heap.size (.slice a L cap) (.int .i64 (qq : Nat)) (by omega); clear c0 c1 f0 f1 d0 d1 g0 g1; obtain ⟨z1, m10, m11, n10, n11⟩ := id hP1; obtain ⟨z1', c0, c1, f0, f1⟩ := id hA1; obtain ⟨z1'', d0, d1, g0, g1⟩ := id hB1) | (go_at_call_of 51 (Value.int .i64 22); refine (h22 _ hb1).mono ?_; rintro e y2 ⟨rfl, hy2⟩; have hP2 := hA1.below hy2; have hA2 := hP2.set (.slice a L cap) (.int .i64 (qq : Nat)); have hB2 := ((hB1.below hy2).other w.heap.size 0 (.slice a L cap) (by omega)).other w.heap.size 1 (.int .i64 (qq : Nat)) (by omega); have hb2 := bset2' (bthen hb1 hy2 hb1.size) w.heap.size (.slice a L cap) (.int .i64 (qq : Nat)) (by omega); clear c0 c1 f0 f1 d0 d1 g0 g1; obtain ⟨z2, m20, m21, n20, n21⟩ := id hP2; obtain ⟨z2', c0, c1, f0, f1⟩ := id hA2; obtain ⟨z2'', d0, d1, g0, g1⟩ := id hB2))
    obtain ⟨zz, r0, r1, t0, t1⟩ := hB2.set (.slice a L cap) (.int .i64 (qq : Nat))
    refine bodyPost_ret (v := .tuple #[.agg #[.slice a L cap, .int .i64 (qq : Nat)], .int .i64 0, .int .i64 4]) (by simp [results, Try.results65, go_sem, r0, r1, t0, t1]) rfl ⟨by rw [HO.out], bset2' hb2 (w.heap.size + 1) _ _ (by omega)⟩
  have h22 := fun w' hb => gok (q + 1) 22 w' hb (by omega) (by omega)
  rw [show q + 1 + 22 = q + 23 by omega] at h22
  have hm : fld V (q + 1) 22 < 4194304 := fld_lt V (q + 1) 22
  by_cases c3 : fld V q 1 = 1
  case neg =>
    have HO : Hid (tkX V T q = (q + 23, ((fld V (q + 1) 22 : Nat) : Int), 0)) := by unfold Hid tkX; rw [if_pos c1', if_pos c2, if_neg c3]
    obtain h0 : fld V q 1 = 0 := by omega
    rw [h0] at h1
    clear gok gno c1' c2 hsg c3 h0
    generalize fld V (q + 1) 22 = M at *
    generalize q + 23 = q3 at *
    generalize q + 1 = qq at *
    obtain ⟨Z, hZ⟩ : ∃ Z : Int, (M : Int) = Z := ⟨_, rfl⟩
    have z0 : 0 ≤ Z := by omega
    have z1 : Z < 4194304 := by omega
    rw [hZ] at h22 HO
    clear hZ hm
    have w1 : IntKind.i64.wrap Z = Z := wraps_i64 _ (by omega) (by omega)
    go_enter Try.func65, Try.ntmps65
    go_wp2_with (first | (go_at_call_of 51 (Value.int .i64 1); refine (h1 _ hW).mono ?_; rintro e y1 ⟨rfl, hy1⟩; have hP1 := hA0.below hy1; have hA1 := hP1.set (.slice a L cap) (.int .i64 (qq : Nat)); have hB1 := ((hB0.below hy1).other w.heap.size 0 (.slice a L cap) (by omega)).other w.heap.size 1 (.int .i64 (qq : Nat)) (by omega); have hb1 := bset2' (bthen hW hy1 hW.size) w.heap.size (.slice a L cap) (.int .i64 (qq : Nat)) (by omega); clear c0 c1 f0 f1 d0 d1 g0 g1; obtain ⟨z1, m10, m11, n10, n11⟩ := id hP1; obtain ⟨z1', c0, c1, f0, f1⟩ := id hA1; obtain ⟨z1'', d0, d1, g0, g1⟩ := id hB1) | (go_at_call_of 51 (Value.int .i64 22); refine (h22 _ hb1).mono ?_; rintro e y2 ⟨rfl, hy2⟩; have hP2 := hA1.below hy2; have hA2 := hP2.set (.slice a L cap) (.int .i64 (q3 : Nat)); have hB2 := ((hB1.below hy2).other w.heap.size 0 (.slice a L cap) (by omega)).other w.heap.size 1 (.int .i64 (q3 : Nat)) (by omega); have hb2 := bset2' (bthen hb1 hy2 hb1.size) w.heap.size (.slice a L cap) (.int .i64 (q3 : Nat)) (by omega); clear c0 c1 f0 f1 d0 d1 g0 g1; obtain ⟨z2, m20, m21, n20, n21⟩ := id hP2; obtain ⟨z2', c0, c1, f0, f1⟩ := id hA2; obtain ⟨z2'', d0, d1, g0, g1⟩ := id hB2))
    obtain ⟨zz, r0, r1, t0, t1⟩ := hB2.set (.slice a L cap) (.int .i64 (q3 : Nat))
    refine bodyPost_ret (v := .tuple #[.agg #[.slice a L cap, .int .i64 (q3 : Nat)], .int .i64 Z, .int .i64 0]) (by simp [results, Try.results65, go_sem, r0, r1, t0, t1]) rfl ⟨by rw [HO.out], bset2' hb2 (w.heap.size + 1) _ _ (by omega)⟩
  rw [c3] at h1
  by_cases c4 : fld V (q + 1) 22 = 0
  case pos =>
    have HO : Hid (tkX V T q = (q + 23, 0, 2)) := by unfold Hid tkX; rw [if_pos c1', if_pos c2, if_pos c3, if_pos c4]
    rw [c4] at h22
    clear gok gno c1' c2 hsg c3 c4 hm
    generalize q + 23 = q3 at *
    generalize q + 1 = qq at *
    go_enter Try.func65, Try.ntmps65
    go_wp2_with (first | (go_at_call_of 51 (Value.int .i64 1); refine (h1 _ hW).mono ?_; rintro e y1 ⟨rfl, hy1⟩; have hP1 := hA0.below hy1; have hA1 := hP1.set (.slice a L cap) (.int .i64 (qq : Nat)); have hB1 := ((hB0.below hy1).other w.heap.size 0 (.slice a L cap) (by omega)).other w.heap.size 1 (.int .i64 (qq : Nat)) (by omega); have hb1 := bset2' (bthen hW hy1 hW.size) w.heap.size (.slice a L cap) (.int .i64 (qq : Nat)) (by omega); clear c0 c1 f0 f1 d0 d1 g0 g1; obtain ⟨z1, m10, m11, n10, n11⟩ := id hP1; obtain ⟨z1', c0, c1, f0, f1⟩ := id hA1; obtain ⟨z1'', d0, d1, g0, g1⟩ := id hB1) | (go_at_call_of 51 (Value.int .i64 22); refine (h22 _ hb1).mono ?_; rintro e y2 ⟨rfl, hy2⟩; have hP2 := hA1.below hy2; have hA2 := hP2.set (.slice a L cap) (.int .i64 (q3 : Nat)); have hB2 := ((hB1.below hy2).other w.heap.size 0 (.slice a L cap) (by omega)).other w.heap.size 1 (.int .i64 (q3 : Nat)) (by omega); have hb2 := bset2' (bthen hb1 hy2 hb1.size) w.heap.size (.slice a L cap) (.int .i64 (q3 : Nat)) (by omega); clear c0 c1 f0 f1 d0 d1 g0 g1; obtain ⟨z2, m20, m21, n20, n21⟩ := id hP2; obtain ⟨z2', c0, c1, f0, f1⟩ := id hA2; obtain ⟨z2'', d0, d1, g0, g1⟩ := id hB2))
    obtain ⟨zz, r0, r1, t0, t1⟩ := hB2.set (.slice a L cap) (.int .i64 (q3 : Nat))
    refine bodyPost_ret (v := .tuple #[.agg #[.slice a L cap, .int .i64 (q3 : Nat)], .int .i64 0, .int .i64 2]) (by simp [results, Try.results65, go_sem, r0, r1, t0, t1]) rfl ⟨by rw [HO.out], bset2' hb2 (w.heap.size + 1) _ _ (by omega)⟩
  have HO : Hid (tkX V T q = (q + 23, -((fld V (q + 1) 22 : Nat) : Int), 0)) := by unfold Hid tkX; rw [if_pos c1', if_pos c2, if_pos c3, if_neg c4]
  clear gok gno c1' c2 hsg c3
  generalize fld V (q + 1) 22 = M at *
  generalize q + 23 = q3 at *
  generalize q + 1 = qq at *
  obtain ⟨Z, hZ⟩ : ∃ Z : Int, (M : Int) = Z := ⟨_, rfl⟩
  have z0 : 1 ≤ Z := by omega
  have z1 : Z < 4194304 := by omega
  rw [hZ] at h22 HO
  clear hZ hm c4
  have w0 : (Z == 0) = false := by simpa using fun k => by omega
  have w1 : IntKind.i64.wrap Z = Z := wraps_i64 _ (by omega) (by omega)
  have w2 : IntKind.i64.wrap (-Z) = -Z := wraps_i64 _ (by omega) (by omega)
  go_enter Try.func65, Try.ntmps65
  go_wp2_with (first | (go_at_call_of 51 (Value.int .i64 1); refine (h1 _ hW).mono ?_; rintro e y1 ⟨rfl, hy1⟩; have hP1 := hA0.below hy1; have hA1 := hP1.set (.slice a L cap) (.int .i64 (qq : Nat)); have hB1 := ((hB0.below hy1).other w.heap.size 0 (.slice a L cap) (by omega)).other w.heap.size 1 (.int .i64 (qq : Nat)) (by omega); have hb1 := bset2' (bthen hW hy1 hW.size) w.heap.size (.slice a L cap) (.int .i64 (qq : Nat)) (by omega); clear c0 c1 f0 f1 d0 d1 g0 g1; obtain ⟨z1, m10, m11, n10, n11⟩ := id hP1; obtain ⟨z1', c0, c1, f0, f1⟩ := id hA1; obtain ⟨z1'', d0, d1, g0, g1⟩ := id hB1) | (go_at_call_of 51 (Value.int .i64 22); refine (h22 _ hb1).mono ?_; rintro e y2 ⟨rfl, hy2⟩; have hP2 := hA1.below hy2; have hA2 := hP2.set (.slice a L cap) (.int .i64 (q3 : Nat)); have hB2 := ((hB1.below hy2).other w.heap.size 0 (.slice a L cap) (by omega)).other w.heap.size 1 (.int .i64 (q3 : Nat)) (by omega); have hb2 := bset2' (bthen hb1 hy2 hb1.size) w.heap.size (.slice a L cap) (.int .i64 (q3 : Nat)) (by omega); clear c0 c1 f0 f1 d0 d1 g0 g1; obtain ⟨z2, m20, m21, n20, n21⟩ := id hP2; obtain ⟨z2', c0, c1, f0, f1⟩ := id hA2; obtain ⟨z2'', d0, d1, g0, g1⟩ := id hB2))
  obtain ⟨zz, r0, r1, t0, t1⟩ := hB2.set (.slice a L cap) (.int .i64 (q3 : Nat))
  refine bodyPost_ret (v := .tuple #[.agg #[.slice a L cap, .int .i64 (q3 : Nat)], .int .i64 (-Z), .int .i64 0]) (by simp [results, Try.results65, go_sem, r0, r1, t0, t1]) rfl ⟨by rw [HO.out], bset2' hb2 (w.heap.size + 1) _ _ (by omega)⟩
set_option maxHeartbeats 4000000 in
theorem tres_any (a : Option Addr) (L cap : Nat) (xs : List Int) (ar : Option Addr) (cr : Nat) (R : List Int) (p : Nat) (w : World) (hn : xs.length = L) (hv : Rw .u8 w (.slice a L cap) xs) (hx : Byts xs) (hl : L ≤ 2000) (hvR : Rw .i64 w (.slice ar 16 cr) R) (hr : rightL R = true) (hlr : R.length = 16) (hp : p ≤ 8 * L) :
    Calls Try.prog 53 #[.agg #[.slice a L cap, .int .i64 (p : Nat)], .slice ar 16 cr] w fun e w' => e = .returned (.tuple #[.agg #[.slice a L cap, .int .i64 ((tkV R (bv xs) (8 * L) p).1 : Nat)], .int .i64 (tkV R (bv xs) (8 * L) p).2.1, .int .i64 (tkV R (bv xs) (8 * L) p).2.2]) ∧ Below w.heap.size w w' := by
  have hA0 := (B2.new w (.slice a L cap) (.int .i64 (p : Nat)) 64).below (below1 _ (.cells #[.slice none 0 0, .int .i64 0] 64))
  have hB0 := B2.new2 w (.cells #[.slice a L cap, .int .i64 (p : Nat)] 64) (.slice none 0 0) (.int .i64 0) 64
  have hW := below2 w (.cells #[.slice a L cap, .int .i64 (p : Nat)] 64) (.cells #[.slice none 0 0, .int .i64 0] 64)
  have hrd := fun w' (hb : Below w.heap.size w w') => hread_any a L cap (.slice ar 16 cr) xs R p w' hn (hv.below hb) hx hl (hvR.below hb) hr
  have hes := fun q w' (hb : Below w.heap.size w w') hq => esc_any a L cap xs q w' hn (hv.below hb) hx hl hq
  have hS := fun h => tkS_ok (l := R) (V := bv xs) (T := 8 * L) (p := p) h
  obtain ⟨q, s, e1, hq⟩ : ∃ q s e1, tkS R (bv xs) (8 * L) p = (q, s, e1) := ⟨_, _, _, rfl⟩
  rw [hq] at hrd hS
  dsimp only at hrd hS
  clear hn hv hx hvR hr
  generalize bv xs = V at *
  have hTl : 8 * L ≤ 16000 := by omega
  generalize 8 * L = T at *
  obtain ⟨z, c0, c1, f0, f1⟩ := id hA0
  obtain ⟨z9, d0, d1, g0, g1⟩ := id hB0
  by_cases h1 : e1 = 0
  case neg =>
    have HO := hid (tkV_e hq h1)
    have hne : (e1 != 0) = true := by simpa using h1
    obtain rfl := (tkS_err hq h1).1
    clear hS hes h1 hq
    go_enter Try.func53, Try.ntmps53
    go_wp2_with (first | (go_at_call 52; refine (hrd _ hW).mono ?_; rintro e y1 ⟨rfl, hy1⟩; have hP1 := hA0.below hy1; have hA1 := hP1.set (.slice a L cap) (.int .i64 (q : Nat)); have hB1 := ((hB0.below hy1).other w.heap.size 0 (.slice a L cap) (by omega)).other w.heap.size 1 (.int .i64 (q : Nat)) (by omega); have hb1 := bset2' (bthen hW hy1 hW.size) w.heap.size (.slice a L cap) (.int .i64 (q : Nat)) (by omega); clear c0 c1 f0 f1 d0 d1 g0 g1; obtain ⟨z1, m10, m11, n10, n11⟩ := id hP1; obtain ⟨z1', c0, c1, f0, f1⟩ := id hA1; obtain ⟨z1'', d0, d1, g0, g1⟩ := id hB1))
    obtain ⟨zz, r0, r1, t0, t1⟩ := hB1.set (.slice a L cap) (.int .i64 (q : Nat))
    refine bodyPost_ret (v := .tuple #[.agg #[.slice a L cap, .int .i64 (q : Nat)], .int .i64 0, .int .i64 e1]) (by simp [results, Try.results53, go_sem, r0, r1, t0, t1]) rfl ⟨by rw [HO.out], bset2' hb1 (w.heap.size + 1) _ _ (by omega)⟩
  subst h1
  obtain ⟨hy, -, hqT⟩ := hS rfl
  have hs0 : 0 ≤ s ∧ s ≤ 15 := by have := hy.1; have h := hy.2.1; rw [hlr] at h; exact ⟨hy.1, by omega⟩
  obtain ⟨hs1, hs2⟩ := hs0
  clear hS hy
  by_cases h15 : s = 15
  case neg =>
    have HO := hid (tkV_s hq h15)
    have hne : (s == 15) = false := by simpa using h15
    clear hes h15 hq
    go_enter Try.func53, Try.ntmps53
    go_wp2_with (first | (go_at_call 52; refine (hrd _ hW).mono ?_; rintro e y1 ⟨rfl, hy1⟩; have hP1 := hA0.below hy1; have hA1 := hP1.set (.slice a L cap) (.int .i64 (q : Nat)); have hB1 := ((hB0.below hy1).other w.heap.size 0 (.slice a L cap) (by omega)).other w.heap.size 1 (.int .i64 (q : Nat)) (by omega); have hb1 := bset2' (bthen hW hy1 hW.size) w.heap.size (.slice a L cap) (.int .i64 (q : Nat)) (by omega); clear c0 c1 f0 f1 d0 d1 g0 g1; obtain ⟨z1, m10, m11, n10, n11⟩ := id hP1; obtain ⟨z1', c0, c1, f0, f1⟩ := id hA1; obtain ⟨z1'', d0, d1, g0, g1⟩ := id hB1))
    obtain ⟨zz, r0, r1, t0, t1⟩ := hB1.set (.slice a L cap) (.int .i64 (q : Nat))
    refine bodyPost_ret (v := .tuple #[.agg #[.slice a L cap, .int .i64 (q : Nat)], .int .i64 (s - 7), .int .i64 0]) (by simp [results, Try.results53, go_sem, r0, r1, t0, t1]) rfl ⟨by rw [HO.out], bset2' hb1 (w.heap.size + 1) _ _ (by omega)⟩
  subst h15
  have HO : Hid (tkV R V T p = tkX V T q) := tkV_x hq
  have hes := fun w' hb => hes q w' hb hqT
  rw [← HO.out] at hes
  have HO : Hid (tkV R V T p = ((tkV R V T p).1, (tkV R V T p).2.1, (tkV R V T p).2.2)) := rfl
  clear hq hs1 hs2 hqT
  generalize hQ : (tkV R V T p).1 = Q at *
  generalize hU : (tkV R V T p).2.1 = U at *
  generalize hE : (tkV R V T p).2.2 = E at *
  clear hQ hU hE
  go_enter Try.func53, Try.ntmps53
  go_wp2_with (first | (go_at_call 52; refine (hrd _ hW).mono ?_; rintro e y1 ⟨rfl, hy1⟩; have hP1 := hA0.below hy1; have hA1 := hP1.set (.slice a L cap) (.int .i64 (q : Nat)); have hB1 := ((hB0.below hy1).other w.heap.size 0 (.slice a L cap) (by omega)).other w.heap.size 1 (.int .i64 (q : Nat)) (by omega); have hb1 := bset2' (bthen hW hy1 hW.size) w.heap.size (.slice a L cap) (.int .i64 (q : Nat)) (by omega); clear c0 c1 f0 f1 d0 d1 g0 g1; obtain ⟨z1, m10, m11, n10, n11⟩ := id hP1; obtain ⟨z1', c0, c1, f0, f1⟩ := id hA1; obtain ⟨z1'', d0, d1, g0, g1⟩ := id hB1) | (go_at_call 65; refine (hes _ hb1).mono ?_; rintro e y2 ⟨rfl, hy2⟩; have hB2 := hB1.below hy2; have hb2 := bthen hb1 hy2 hb1.size; clear c0 c1 f0 f1 d0 d1 g0 g1 m10 m11 n10 n11; obtain ⟨z2'', d0, d1, g0, g1⟩ := id hB2))
  obtain ⟨zz, r0, r1, t0, t1⟩ := hB2.set (.slice a L cap) (.int .i64 (Q : Nat))
  refine bodyPost_ret (v := .tuple #[.agg #[.slice a L cap, .int .i64 (Q : Nat)], .int .i64 U, .int .i64 E]) (by simp [results, Try.results53, go_sem, r0, r1, t0, t1]) rfl ⟨rfl, bset2' hb2 (w.heap.size + 1) _ _ (by omega)⟩
end Go.Proofs.Ytolfnjlkcppplaa
/- What stands while the program reads a body's parts: rows laid into a block, the reader's box, the header's box. -/
namespace Go.Proofs.Ytolfnjlkcppplaa
open Go.RowKit
set_option linter.unusedVariables false
set_option linter.unusedSimpArgs false
set_option maxRecDepth 10000

/-- Rows L laid into a block G that the call made, in blocks from B on and below D; from m on nothing is laid yet. -/
structure Mz (ts : TypeId) (B : Nat) (w : World) (G c : Nat) (L : List (List Int)) (D m : Nat) : Prop where
  cells : ∃ cur : Array Value, w.heap[G]? = some (.cells cur ts (0, 0)) ∧ cur.size = c
  base : B ≤ G
  rows : ∀ j, j < L.length → ∃ r, w.cell? ⟨G, j, none⟩ = some r ∧ Rp (fun b => B ≤ b ∧ b ≠ G ∧ b < D) w r (L.getD j [])
  rest : ∀ j, m ≤ j → j < c → w.cell? ⟨G, j, none⟩ = some (.slice none 0 0)
theorem Mz.lt {ts : TypeId} {B : Nat} {w : World} {G c : Nat} {L : List (List Int)} {D m : Nat} (h : Mz ts B w G c L D m) : G < w.heap.size := by
  obtain ⟨cur, h, _⟩ := h.cells
  exact block_in h
theorem Mz.free {ts : TypeId} {B : Nat} {w : World} {G c : Nat} {L : List (List Int)} {D m : Nat} (h : Mz ts B w G c L D m) (j : Nat) : w.frozen? ⟨G, j, none⟩ = false := by
  obtain ⟨cur, h, hc⟩ := h.cells
  simp [World.frozen?, h]
theorem Mz.below {ts : TypeId} {B : Nat} {w w' : World} {G c : Nat} {L : List (List Int)} {D m : Nat} (h : Mz ts B w G c L D m) (hb : Below w.heap.size w w') : Mz ts B w' G c L D m := by
  have hlt := h.lt
  obtain ⟨⟨cur, h1, h2⟩, h0, h3, h4⟩ := h
  refine ⟨⟨cur, (hb.block _ hlt).trans h1, h2⟩, h0, fun j hj => ?_, fun j h5 h6 => ((bcell hb).1 _ _ hlt).trans (h4 j h5 h6)⟩
  obtain ⟨r, e1, e2⟩ := h3 j hj
  exact ⟨r, ((bcell hb).1 _ _ hlt).trans e1, Rp.keeps.below e2 hb⟩
theorem Mz.mono {ts : TypeId} {B : Nat} {w : World} {G c : Nat} {L : List (List Int)} {D D' m : Nat} (h : Mz ts B w G c L D m) (hD : D ≤ D') : Mz ts B w G c L D' m :=
  ⟨h.cells, h.base, fun j hj => by obtain ⟨r, e1, e2⟩ := h.rows j hj; exact ⟨r, e1, Rp.keeps.mono e2 fun b _ hp => ⟨hp.1, hp.2.1, by omega⟩⟩, h.rest⟩
theorem Mz.off {ts : TypeId} {B : Nat} {w : World} {G c : Nat} {L : List (List Int)} {D m : Nat} (h : Mz ts B w G c L D m) (p o : Nat) (y : Value) (hp : p < B ∨ D ≤ p) (hG : p ≠ G) : Mz ts B (w.setCell ⟨p, o, none⟩ y) G c L D m := by
  have hg : w.grownBy (w.setCell ⟨p, o, none⟩ y) (some p) := grown_set (World.grownBy.refl w (some p)) p o (.inr rfl) y
  have hc : ∀ j, (w.setCell ⟨p, o, none⟩ y).cell? ⟨G, j, none⟩ = w.cell? ⟨G, j, none⟩ := fun j => World.cell?_of_block (w := w) (Below.heap_setCell w ⟨p, o, none⟩ y G (Ne.symm hG))
  obtain ⟨⟨cur, h1, h2⟩, h0, h3, h4⟩ := h
  refine ⟨⟨cur, (heap_setCell_other _ _ _ _ (Ne.symm hG)).trans h1, h2⟩, h0, fun j hj => ?_, fun j h5 h6 => (hc j).trans (h4 j h5 h6)⟩
  obtain ⟨r, e1, e2⟩ := h3 j hj
  exact ⟨r, (hc j).trans e1, Rp.keeps.grown e2 hg fun b hb e => by have := Option.some.inj e; omega⟩
theorem Mz.put {ts : TypeId} {B : Nat} {w : World} {G c : Nat} {L : List (List Int)} {D i : Nat} (h : Mz ts B w G c L D i) (hL : L.length = i) (hi : i < c) (r : Value) :
    Mz ts B (w.setCell ⟨G, i, none⟩ r) G c L D (i + 1) ∧ (w.setCell ⟨G, i, none⟩ r).cell? ⟨G, i, none⟩ = some r := by
  have hg : w.grownBy (w.setCell ⟨G, i, none⟩ r) (some G) := grown_set (World.grownBy.refl w (some G)) G i (.inr rfl) r
  obtain ⟨⟨cur, h1, h2⟩, h0, h3, h4⟩ := h
  have hne : ∀ j v, j ≠ i → w.cell? ⟨G, j, none⟩ = some v → (w.setCell ⟨G, i, none⟩ r).cell? ⟨G, j, none⟩ = some v := fun j v e e1 => by
    simp [World.cell?, h1] at e1
    simp [World.cell?, World.setCell, Array.getElem?_modify, h1, Array.getElem?_setIfInBounds, Ne.symm e]
    exact e1
  refine ⟨⟨⟨cur.setIfInBounds i r, ?_, by simp [h2]⟩, h0, fun j hj => ?_, fun j h5 h6 => hne j _ (by omega) (h4 j (by omega) h6)⟩, ?_⟩
  · simp [World.setCell, Array.getElem?_modify, h1]
  · obtain ⟨r2, e1, e2⟩ := h3 j hj
    exact ⟨r2, hne j _ (by omega) e1, Rp.keeps.grown e2 hg fun b hb e => hb.2.1 (Option.some.inj e)⟩
  · simp [World.cell?, World.setCell, Array.getElem?_modify, h1, h2, hi]
theorem getD_snoc_lt {α : Type} (L : List α) (l d : α) (j : Nat) (h : j < L.length) : (L ++ [l]).getD j d = L.getD j d := by
  rw [List.getD_eq_getElem?_getD, List.getElem?_append_left h, ← List.getD_eq_getElem?_getD]
theorem getD_snoc_eq {α : Type} (L : List α) (l d : α) : (L ++ [l]).getD L.length d = l := by
  simp [List.getD_eq_getElem?_getD]
theorem Mz.close {ts : TypeId} {B : Nat} {w : World} {G c : Nat} {L : List (List Int)} {D D' i : Nat} (h : Mz ts B w G c L D (i + 1)) (hL : L.length = i) {r : Value} {l : List Int} (hr : w.cell? ⟨G, i, none⟩ = some r) (hl : Rp (fun b => B ≤ b ∧ b ≠ G ∧ b < D') w r l) (hD : D ≤ D') : Mz ts B w G c (L ++ [l]) D' (i + 1) := by
  have h := h.mono hD
  refine ⟨h.cells, h.base, fun j hj => ?_, h.rest⟩
  by_cases e : j < L.length
  · obtain ⟨r2, e1, e2⟩ := h.rows j e
    exact ⟨r2, e1, by rw [getD_snoc_lt _ _ _ _ e]; exact e2⟩
  · obtain rfl : j = L.length := by simp at hj; omega
    exact ⟨r, by rw [hL]; exact hr, by rw [getD_snoc_eq]; exact hl⟩
theorem Mz.nil {ts : TypeId} {B : Nat} {w : World} {G c : Nat} {L : List (List Int)} {D i : Nat} (h : Mz ts B w G c L D i) (hL : L.length = i) (hi : i < c) : Mz ts B w G c (L ++ [[]]) D (i + 1) :=
  Mz.close (⟨h.cells, h.base, h.rows, fun j h1 h2 => h.rest j (by omega) h2⟩ : Mz ts B w G c L D (i + 1)) hL (h.rest i (Nat.le_refl _) hi) ⟨none, 0, rfl, .inl rfl⟩ (Nat.le_refl _)
theorem Mz.all {ts : TypeId} {B : Nat} {w : World} {G c : Nat} {L : List (List Int)} {D m : Nat} (h : Mz ts B w G c L D m) (hL : L.length = c) (cc : Nat) : Gp (fun b => B ≤ b) w (.slice (some ⟨G, 0, none⟩) c cc) L := by
  subst hL
  refine ⟨_, cc, rfl, .inr ⟨G, 0, rfl, h.base, h.lt, fun j hj => ?_⟩⟩
  obtain ⟨r, e1, e2⟩ := h.rows j hj
  exact ⟨r, by rw [Nat.zero_add]; exact e1, Rp.keeps.mono e2 fun b _ hp => hp.1⟩
theorem Mz.made {ts : TypeId} {B : Nat} {w : World} {G c base : Nat} (h : w.ownsRow base ts 1 (.slice (some ⟨G, 0, none⟩) c c) c (madeCells #[.slice none 0 0] c).toList) (hB : B ≤ base) : Mz ts B w G c [] 0 0 := by
  obtain ⟨h1, h2, _⟩ := owns_full h
  refine ⟨⟨_, h1, ?_⟩, by omega, fun j hj => absurd hj (by simp), fun j _ hj => ?_⟩
  · rw [made_one]; simp
  · rw [made_one] at h1
    simp [World.cell?, h1, hj]
/-- The reader's box, the header's box, an empty reader, all of the call's own. -/
structure Tp (w wr : World) (a : Option Addr) (L cap p : Nat) (c q : Int) (af : Option Addr) (cf : Nat) (ar : Option Addr) (cr : Nat) : Prop where
  rd : B2 wr w.heap.size (.slice a L cap) (.int .i64 (p : Nat))
  hd : B4 wr (w.heap.size + 1) (.int .i64 c) (.int .i64 q) (.slice af 45 cf) (.slice ar 16 cr)
  rz : B2 wr (w.heap.size + 2) (.slice none 0 0) (.int .i64 0)
  bl : Below w.heap.size w wr
theorem Tp.below {w wr w' : World} {a : Option Addr} {L cap p : Nat} {c q : Int} {af : Option Addr} {cf : Nat} {ar : Option Addr} {cr : Nat} (h : Tp w wr a L cap p c q af cf ar cr) (hb : Below wr.heap.size wr w') : Tp w w' a L cap p c q af cf ar cr :=
  ⟨h.rd.below hb, h.hd.below hb, h.rz.below hb, bthen h.bl hb h.bl.size⟩
theorem Tp.move {w wr : World} {a : Option Addr} {L cap p : Nat} {c q : Int} {af : Option Addr} {cf : Nat} {ar : Option Addr} {cr : Nat} (h : Tp w wr a L cap p c q af cf ar cr) (p' : Nat) : Tp w ((wr.setCell ⟨w.heap.size, 0, none⟩ (.slice a L cap)).setCell ⟨w.heap.size, 1, none⟩ (.int .i64 (p' : Nat))) a L cap p' c q af cf ar cr :=
  ⟨h.rd.set _ _, (h.hd.other _ _ _ (by omega)).other _ _ _ (by omega), (h.rz.other _ _ _ (by omega)).other _ _ _ (by omega), bset2' h.bl _ _ _ (Nat.le_refl _)⟩
theorem Tp.off {w wr : World} {a : Option Addr} {L cap p : Nat} {c q : Int} {af : Option Addr} {cf : Nat} {ar : Option Addr} {cr : Nat} (h : Tp w wr a L cap p c q af cf ar cr) (b o : Nat) (y : Value) (hb : w.heap.size + 3 ≤ b) : Tp w (wr.setCell ⟨b, o, none⟩ y) a L cap p c q af cf ar cr :=
  ⟨h.rd.other _ _ _ (by omega), h.hd.other _ _ _ (by omega), h.rz.other _ _ _ (by omega), bset1 h.bl _ _ _ (by omega)⟩
theorem Tp.start (w : World) (a : Option Addr) (L cap p : Nat) (c q : Int) (af : Option Addr) (cf : Nat) (ar : Option Addr) (cr : Nat) (t1 t2 t3 : TypeId) :
    Tp w (((w.alloc (.cells #[.slice a L cap, .int .i64 (p : Nat)] t1)).alloc (.cells #[.int .i64 c, .int .i64 q, .slice af 45 cf, .slice ar 16 cr] t2)).alloc (.cells #[.slice none 0 0, .int .i64 0] t3)) a L cap p c q af cf ar cr := by
  refine ⟨((B2.new w _ _ _).below (below1 _ _)).below (below1 _ _), ?_, ?_, below3 w _ _ _⟩
  · have := (B4.new2 w (.cells #[.slice a L cap, .int .i64 (p : Nat)] t1) (.int .i64 c) (.int .i64 q) (.slice af 45 cf) (.slice ar 16 cr) t2).below (below1 _ (.cells #[.slice none 0 0, .int .i64 0] t3))
    exact this
  · have := B2.new ((w.alloc (.cells #[.slice a L cap, .int .i64 (p : Nat)] t1)).alloc (.cells #[.int .i64 c, .int .i64 q, .slice af 45 cf, .slice ar 16 cr] t2)) (.slice none 0 0) (.int .i64 0) t3
    simpa using this
/-- A list of which the first k numbers are l, the others 0. -/
def fil (m : Nat) (l : List Int) : List Int := tab m fun s => l.getD s 0
theorem fil_len (m : Nat) (l : List Int) : (fil m l).length = m := tab_len _ _
theorem fil_nil (m : Nat) : fil m [] = tab m fun _ => 0 := tab_congr fun i _ => by simp
theorem fil_set {m k : Nat} {l : List Int} (hl : l.length = k) (hk : k < m) (x : Int) : (fil m l).set k x = fil m (l ++ [x]) := by
  unfold fil
  rw [tab_set _ _ _ _ hk]
  refine tab_congr fun i hi => ?_
  by_cases e : i = k
  · subst e; rw [if_pos rfl, ← hl, getD_snoc_eq]
  · rw [if_neg e]
    by_cases e2 : i < l.length
    · rw [getD_snoc_lt _ _ _ _ e2]
    · rw [List.getD_eq_getElem?_getD, List.getD_eq_getElem?_getD, List.getElem?_eq_none (by omega), List.getElem?_eq_none (by simp; omega)]
theorem fil_all {m : Nat} {l : List Int} (hl : l.length = m) : fil m l = l := (tab_eq hl fun i _ => rfl).symm
end Go.Proofs.Ytolfnjlkcppplaa
/- Contract: the posts of all channels are read by the program. -/
namespace Go.Proofs.Ytolfnjlkcppplaa
open Go.RowKit
set_option linter.unusedVariables false
set_option linter.unusedSimpArgs false
set_option maxRecDepth 10000

/-- What takePosts answers. -/
def PqPost (F : List Int) (V T n : Nat) (a : Option Addr) (L cap : Nat) (w : World) (e : Ending) (w' : World) : Prop :=
  ∃ (P g c1 : Nat), e = .returned (.tuple #[.agg #[.slice a L cap, .int .i64 (P : Nat)], .slice (some ⟨g, 0, none⟩) n c1, .int .i64 (tkP F V T n).2.2]) ∧ ((tkP F V T n).2.2 = 0 → P = (tkP F V T n).1 ∧ Gp (fun b => w.heap.size ≤ b) w' (.slice (some ⟨g, 0, none⟩) n c1) (tkP F V T n).2.1) ∧ Below w.heap.size w w'
theorem pq_bad {F : List Int} {V T n p P g c1 : Nat} {PL : List (List Int)} {a : Option Addr} {L cap : Nat} {w w' : World} {E : Int} (h : tkP F V T n = (p, PL, E)) (h0 : E ≠ 0) (hb : Below w.heap.size w w') : PqPost F V T n a L cap w (.returned (.tuple #[.agg #[.slice a L cap, .int .i64 (P : Nat)], .slice (some ⟨g, 0, none⟩) n c1, .int .i64 E])) w' :=
  ⟨P, g, c1, by rw [h], fun e => absurd (by rw [h] at e; exact e) h0, hb⟩
theorem pq_good {F : List Int} {V T n p g c1 : Nat} {PL : List (List Int)} {a : Option Addr} {L cap : Nat} {w w' : World} (h : tkP F V T n = (p, PL, 0)) (hg : Gp (fun b => w.heap.size ≤ b) w' (.slice (some ⟨g, 0, none⟩) n c1) PL) (hb : Below w.heap.size w w') : PqPost F V T n a L cap w (.returned (.tuple #[.agg #[.slice a L cap, .int .i64 (p : Nat)], .slice (some ⟨g, 0, none⟩) n c1, .int .i64 0])) w' :=
  ⟨p, g, c1, by rw [h], fun _ => ⟨by rw [h], by rw [h]; exact hg⟩, hb⟩
theorem cell_off3 {w : World} {G k : Nat} {v : Value} (h : w.cell? ⟨G, k, none⟩ = some v) (p1 o1 p2 o2 p3 o3 : Nat) (y1 y2 y3 : Value) (h1 : G ≠ p1) (h2 : G ≠ p2) (h3 : G ≠ p3) : (((w.setCell ⟨p1, o1, none⟩ y1).setCell ⟨p2, o2, none⟩ y2).setCell ⟨p3, o3, none⟩ y3).cell? ⟨G, k, none⟩ = some v :=
  (World.cell?_of_block (w := (w.setCell ⟨p1, o1, none⟩ y1).setCell ⟨p2, o2, none⟩ y2) (Below.heap_setCell _ ⟨p3, o3, none⟩ y3 G h3)).trans ((World.cell?_of_block (w := w.setCell ⟨p1, o1, none⟩ y1) (Below.heap_setCell _ ⟨p2, o2, none⟩ y2 G h2)).trans ((World.cell?_of_block (w := w) (Below.heap_setCell w ⟨p1, o1, none⟩ y1 G h1)).trans h))
set_option maxHeartbeats 4000000 in
theorem tposts_any (n : Nat) (q : Int) (a : Option Addr) (L cap : Nat) (xs : List Int) (af : Option Addr) (cf : Nat) (F : List Int) (ar : Option Addr) (cr : Nat) (w : World) (hn1 : 1 ≤ n) (hn2 : n ≤ 2) (hn : xs.length = L) (hv : Rw .u8 w (.slice a L cap) xs) (hx : Byts xs) (hl : L ≤ 2000) (hvF : Rw .i64 w (.slice af 45 cf) F) (hr : rightL F = true) :
    Calls Try.prog 32 #[.agg #[.slice a L cap, .int .i64 0], .agg #[.int .i64 (n : Nat), .int .i64 q, .slice af 45 cf, .slice ar 16 cr]] w (PqPost F (bv xs) (8 * L) n a L cap w) := by
  obtain ⟨i0, hi, hz0, hz1, hz2⟩ := info_parts info3
  obtain ⟨i1, hi1, ny0, ny1, ny2⟩ := info_parts info_rows
  have gok := fun (q n : Nat) w' (hb : Below w.heap.size w w') (hk : n ≤ 32) (hT : q + n ≤ 8 * L) => bget_ok a L cap xs q n w' hn (hv.below hb) hx hl hk hT
  have gno := fun (q n : Nat) w' (hb : Below w.heap.size w w') (hk : n ≤ 32) (hT : ¬ q + n ≤ 8 * L) => bget_more a L cap xs q n w' hn (hv.below hb) hx hl hk hT
  have hrd := fun (q : Nat) w' (hb : Below w.heap.size w w') => hread_any a L cap (.slice af 45 cf) xs F q w' hn (hv.below hb) hx hl (hvF.below hb) hr
  have HA : Hid (Tp w (((w.alloc (.cells #[.slice a L cap, .int .i64 0] 64)).alloc (.cells #[.int .i64 (n : Nat), .int .i64 q, .slice af 45 cf, .slice ar 16 cr] 24)).alloc (.cells #[.slice none 0 0, .int .i64 0] 64)) a L cap 0 n q af cf ar cr) := Tp.start w a L cap 0 n q af cf ar cr _ _ _
  have hz : (((w.alloc (.cells #[.slice a L cap, .int .i64 0] 64)).alloc (.cells #[.int .i64 (n : Nat), .int .i64 q, .slice af 45 cf, .slice ar 16 cr] 24)).alloc (.cells #[.slice none 0 0, .int .i64 0] 64)).heap.size = w.heap.size + 3 := by simp
  clear hn hv hx hvF hr
  generalize bv xs = V at *
  have hTl : 8 * L ≤ 16000 := by omega
  generalize 8 * L = T at *
  have HBAD := hid (fun (p P g c1 : Nat) (PL : List (List Int)) (E : Int) w' (h : tkP F V T n = (p, PL, E)) h0 hb => pq_bad (P := P) (g := g) (c1 := c1) (a := a) (L := L) (cap := cap) (w := w) (w' := w') h h0 hb)
  have HGOOD := hid (fun (p g c1 : Nat) (PL : List (List Int)) w' (h : tkP F V T n = (p, PL, 0)) hg hb => pq_good (g := g) (c1 := c1) (a := a) (L := L) (cap := cap) (w := w) (w' := w') h hg hb)
  have HZ := hid hz
  clear hz
  go_enter Try.func32, Try.ntmps32
  go_wp2
  generalize ((w.alloc (.cells #[.slice a L cap, .int .i64 0] 64)).alloc (.cells #[.int .i64 (n : Nat), .int .i64 q, .slice af 45 cf, .slice ar 16 cr] 24)).alloc (.cells #[.slice none 0 0, .int .i64 0] 64) = W0 at *
  obtain ⟨hdz, c0, c1, c2, c3, f0, f1, f2, f3⟩ := id HA.out.hd
  go_step3
  go_wp2_with (at_make; refine wpList_make_full _ rfl _ _ 25 rfl W0.heap.size 22 i1 (.slice none 0 0) 1 Try.underlying25 hi1 ny0 ny1 .i64 .i64 _ _ n rfl rfl (by omega) (by omega) (by rw [ny2]; omega) (by unfold maxLen; omega) (by simp) ?_)
  intro w5 hown5 hgrow5
  have hb5 := grown_of_none hgrow5
  have HA5 := hid (HA.out.below hb5)
  have HM0 : Hid (Mz 22 (w.heap.size + 3) w5 W0.heap.size n [] 0 0) := Mz.made (base := W0.heap.size) hown5 (by have := HZ.out; omega)
  obtain ⟨G, hG⟩ : ∃ G, W0.heap.size = G := ⟨_, rfl⟩
  rw [hG] at HM0
  have hGw : w.heap.size + 3 ≤ G := by have := HZ.out; omega
  clear hown5 hgrow5 hb5 HA c0 c1 c2 c3 f0 f1 f2 f3 hdz HZ
  rw [hG]
  clear hG
  go_wp2
  go_step3
  go_wp2
  go_loopw [8, 17] (fun ev i wr => ∃ (k p D : Nat) (PL : List (List Int)), k ≤ n ∧ ev = .int .i64 0 ∧ i = .int .i64 k ∧ Hid (stL (fun _ p => tkC F V T p) 0 k = (p, PL, 0)) ∧ Hid (PL.length = k) ∧ Hid (Tp w wr a L cap p n q af cf ar cr) ∧ Hid (Mz 22 (w.heap.size + 3) wr G n PL D k) ∧ Hid (D ≤ wr.heap.size) ∧ p ≤ T) (fun _ i _ => n - (intOf i).toNat)
  case atStart => exact ⟨0, 0, 0, [], by omega, rfl, rfl, rfl, rfl, HA5, HM0, Nat.zero_le _, Nat.zero_le _⟩
  case round =>
    clear HA5 HM0
    obtain ⟨k, p, D, PL, hk, rfl, rfl, HST, HPL, HTP, HMZ, HD, hpT⟩ := hrel
    obtain ⟨W1, rfl⟩ : ∃ x, x = wr := ⟨wr, rfl⟩
    obtain ⟨rz, c0, c1, f0, f1⟩ := id HTP.out.rd
    by_cases hlt : k < n
    · have hbw := HTP.out.bl
      by_cases c1' : p + 1 ≤ T
      case neg =>
        have h1 := gno p 1 W1 hbw (by omega) c1'
        have htk : tkC F V T p = (p, [], 4) := by unfold tkC; rw [if_neg c1']
        have hP : tkP F V T n = (p, PL, 4) := by
          have h := stL_end HST.out (by rw [htk]; show (4 : Int) ≠ 0; decide) hlt
          rw [htk] at h
          exact h
        have HF := hid (fun (g c1 : Nat) w' hb => HBAD.out p p g c1 PL 4 w' hP (by decide) hb)
        clear hP htk HST hrd gok gno c1' HGOOD HBAD
        go_wp2_with (go_at_call 51; refine h1.mono ?_; rintro e y1 ⟨rfl, hy1⟩; have HT1 := hid (HTP.out.below hy1); have HT2 := hid (HT1.out.move p); clear c0 c1 f0 f1; obtain ⟨z1, m10, m11, n10, n11⟩ := id HT1.out.rd; obtain ⟨z2, c0, c1, f0, f1⟩ := id HT2.out.rd; obtain ⟨z3, d0, d1, g0, g1⟩ := id HT2.out.rz)
        obtain ⟨zz, r0, r1, t0, t1⟩ := HT2.out.rz.set (.slice a L cap) (.int .i64 (p : Nat))
        refine bodyPost_ret (v := .tuple #[.agg #[.slice a L cap, .int .i64 (p : Nat)], .slice (some ⟨G, 0, none⟩) n n, .int .i64 4]) (by simp [results, Try.results32, go_sem, r0, r1, t0, t1]) rfl (HF.out _ _ _ (bset2' HT2.out.bl (w.heap.size + 2) _ _ (by omega)))
      have h1 := gok p 1 W1 hbw (by omega) c1'
      have hsg : fld V p 1 < 2 := fld_lt V p 1
      by_cases c2 : fld V p 1 = 1
      case neg =>
        have htk := tkC_zero (F := F) c1' c2
        have h0 : fld V p 1 = 0 := by omega
        rw [h0] at h1
        obtain ⟨p1, hp1⟩ : ∃ p1, p + 1 = p1 := ⟨_, rfl⟩
        rw [hp1] at h1 htk c1'
        have HSTN : Hid (stL (fun _ p => tkC F V T p) 0 (k + 1) = (p1, PL ++ [[]], 0)) := by
          have h := stL_go HST.out (by rw [htk])
          rw [htk] at h
          exact h
        have HPLN : Hid ((PL ++ [([] : List Int)]).length = k + 1) := by unfold Hid; rw [List.length_append, HPL.out]; rfl
        have hlt0 : (k : Int) < n := by omega
        have HKN := hid hlt
        clear htk HST hrd gok gno hsg c2 h0 hp1 HGOOD HBAD
        go_wp2_with (go_at_call 51; refine h1.mono ?_; rintro e y1 ⟨rfl, hy1⟩; have HT1 := hid (HTP.out.below hy1); have HT2 := hid (HT1.out.move p1); have HM2 := hid ((((HMZ.out.below hy1).off w.heap.size 0 (.slice a L cap) (.inl (by omega)) (by omega)).off w.heap.size 1 (.int .i64 (p1 : Nat)) (.inl (by omega)) (by omega)).nil HPL.out HKN.out); have HY := hid hy1; clear c0 c1 f0 f1; obtain ⟨z1, m10, m11, n10, n11⟩ := id HT1.out.rd)
        exact ⟨⟨k + 1, p1, D, PL ++ [[]], by omega, rfl, by go_num, HSTN, HPLN, HT2, HM2, Nat.le_trans HD.out (by simpa using HY.out.size), c1'⟩, by simp [intOf]; omega⟩
      have HCP := hid (fun pj lj e h => tkC_pos (F := F) (pj := pj) (lj := lj) (e := e) c1' c2 h)
      rw [c2] at h1
      obtain ⟨p1, hp1⟩ : ∃ p1, p + 1 = p1 := ⟨_, rfl⟩
      rw [hp1] at h1 HCP c1'
      have HKN := hid hlt
      clear hsg c2 hp1 gok gno
      have i1' : (0 : Int) ≤ (k : Int) := by omega
      have hlt0 : (k : Int) < n := by omega
      go_upto_region 10 with (go_at_call 51; refine h1.mono ?_; rintro e y1 ⟨rfl, hy1⟩; have HT1 := hid (HTP.out.below hy1); have HT2 := hid (HT1.out.move p1); have HM2 := hid (((HMZ.out.below hy1).off w.heap.size 0 (.slice a L cap) (.inl (by omega)) (by omega)).off w.heap.size 1 (.int .i64 (p1 : Nat)) (.inl (by omega)) (by omega)); have HD2 : Hid (D ≤ ((y1.setCell ⟨w.heap.size, 0, none⟩ (.slice a L cap)).setCell ⟨w.heap.size, 1, none⟩ (.int .i64 (p1 : Nat))).heap.size) := Nat.le_trans HD.out (by simpa using hy1.size); clear c0 c1 f0 f1; obtain ⟨z1, m10, m11, n10, n11⟩ := id HT1.out.rd)
      generalize (y1.setCell ⟨w.heap.size, 0, none⟩ (.slice a L cap)).setCell ⟨w.heap.size, 1, none⟩ (.int .i64 (p1 : Nat)) = Y2 at *
      clear HTP HMZ HD HT1 hy1 hbw m10 m11 n10 n11 z1 rz
      go_wp2_with (at_make; refine wpList_make_full _ rfl _ _ 22 rfl Y2.heap.size 3 i0 (.int .i64 0) 1 Try.underlying22 hi hz0 hz1 .i64 .i64 _ _ 6 rfl rfl (by omega) (by omega) (by rw [hz2]; omega) (by unfold maxLen; omega) (by simp) ?_)
      intro w6 hown6 hgrow6
      have hb6 := grown_of_none hgrow6
      obtain ⟨g, hg⟩ : ∃ g, Y2.heap.size = g := ⟨_, rfl⟩
      have hM6 := HM2.out.below hb6
      have hT6 := HT2.out.below hb6
      have hB6 := Blk.made hown6
      have hGg : G < g := by rw [← hg]; exact HM2.out.lt
      have HDg : Hid (D ≤ g) := by unfold Hid; rw [← hg]; exact HD2.out
      rw [hg] at hB6
      rw [hg]
      clear hown6 hgrow6 hb6 hg HD2 HM2 HT2 Y2
      have hck := hM6.rest k (Nat.le_refl _) hlt
      have hfk := hM6.free k
      obtain ⟨hM7, hc7⟩ := hM6.put HPL.out hlt (.slice (some ⟨g, 0, none⟩) 6 6)
      have HM7 := hid hM7
      have HC7 := hid hc7
      have HT7 := hid (hT6.off G k (.slice (some ⟨g, 0, none⟩) 6 6) hGw)
      have HB7 : Hid (Blk .i64 3 (w6.setCell ⟨G, k, none⟩ (.slice (some ⟨g, 0, none⟩) 6 6)) g (fil 6 [])) := by rw [fil_nil]; exact hB6.other _ _ _ (by omega)
      clear hM6 hT6 hB6 hM7
      go_wp2
      generalize w6.setCell ⟨G, k, none⟩ (.slice (some ⟨g, 0, none⟩) 6 6) = W3 at *
      clear hc7 hck hfk
      go_loopw [8, 39] (fun ev i wr => ∃ (j pj : Nat) (lj : List Int), j ≤ 6 ∧ ev = .int .i64 0 ∧ i = .int .i64 j ∧ Hid (st (tkS F V T) p1 j = (pj, lj, 0)) ∧ Hid (lj.length = j) ∧ Hid (Tp w wr a L cap pj n q af cf ar cr) ∧ Hid (Mz 22 (w.heap.size + 3) wr G n PL D (k + 1)) ∧ Hid (wr.cell? ⟨G, k, none⟩ = some (.slice (some ⟨g, 0, none⟩) 6 6)) ∧ Hid (Blk .i64 3 wr g (fil 6 lj)) ∧ pj ≤ T) (fun _ i _ => 6 - (intOf i).toNat)
      case atStart => exact ⟨0, p1, [], by omega, rfl, rfl, rfl, rfl, HT7, HM7, HC7, HB7, c1'⟩
      case round =>
        clear HT7 HM7 HC7 HB7
        obtain ⟨j, pj, lj, hj, rfl, rfl, HSJ, HLJ, HTJ, HMJ, HCJ, HBJ, hpjT⟩ := hrel
        obtain ⟨W2, rfl⟩ : ∃ x, x = wr := ⟨wr, rfl⟩
        by_cases hj6 : j < 6
        · have h14 := fun W h => hrd pj W (bthen HTJ.out.bl h HTJ.out.bl.size)
          obtain ⟨pq, s, e, hts⟩ : ∃ pq s e, tkS F V T pj = (pq, s, e) := ⟨_, _, _, rfl⟩
          rw [hts] at h14
          dsimp only at h14
          obtain ⟨rz, c0, c1, f0, f1⟩ := id HTJ.out.rd
          obtain ⟨hdz, d0, d1, d2, d3, e0, e1, e2, e3⟩ := id HTJ.out.hd
          have hck := HCJ.out
          have j1 : (0 : Int) ≤ (j : Int) := by omega
          have j2 : (j : Int) < 6 := by omega
          have j3 : IntKind.i64.wrap (j : Int) = j := wraps_i64 _ (by omega) (by omega)
          have k3 : IntKind.i64.wrap (k : Int) = k := wraps_i64 _ (by omega) (by omega)
          have hfl := fil_len 6 lj
          have HFL := hid hfl
          clear hfl
          have HJ6 := hid hj6
          by_cases he : e = 0
          case neg =>
            have hP : tkP F V T n = (p, PL, e) := by
              have h1 := st_end HSJ.out (by rw [hts]; exact he) hj6
              rw [hts] at h1
              have h2 := HCP.out pj lj e h1
              have h3 := stL_end HST.out (by rw [h2]; exact he) HKN.out
              rw [h2] at h3
              exact h3
            have HF := hid (fun (P g c1 : Nat) w' hb => HBAD.out p P g c1 PL e w' hP he hb)
            have hne : (e != 0) = true := by simpa using he
            clear hP hts HSJ he hrd HCP HST HGOOD HBAD
            go_wp2
            go_region_with (go_at_call 52; refine (h14 _ (by first | exact (Below.refl _ _).drew | exact Below.refl _ _)).mono ?_; rintro e' y1 ⟨rfl, hy1'⟩; have hy1 : Below W2.heap.size W2 y1 := (by first | exact drew_below hy1' | exact hy1'); have HT1 := hid (HTJ.out.below hy1); have HB1 := hid (HBJ.out.below hy1); have HT3 := hid ((HT1.out.move pq).off g j (.int .i64 s) (by omega)); have hcy := ((bcell hy1).1 _ _ HMJ.out.lt).trans HCJ.out; have hB2 := (HB1.out.other w.heap.size 0 (.slice a L cap) (by omega)).other w.heap.size 1 (.int .i64 (pq : Nat)) (by omega); have hcb := hB2.cell j (by rw [HFL.out]; exact HJ6.out); have hfb := hB2.free j (by rw [HFL.out]; exact HJ6.out); obtain ⟨z1, m10, m11, n10, n11⟩ := id HT1.out.rd; obtain ⟨z2, p0, p1, q0, q1⟩ := id HT3.out.rd; obtain ⟨z3, o0, o1, g0, g1⟩ := id HT3.out.rz)
            all_goals go_wp2
            all_goals (obtain ⟨zz, r0, r1, t0, t1⟩ := HT3.out.rz.set (.slice a L cap) (.int .i64 (pq : Nat)); refine bodyPost_ret (v := .tuple #[.agg #[.slice a L cap, .int .i64 (pq : Nat)], .slice (some ⟨G, 0, none⟩) n n, .int .i64 e]) (by simp [results, Try.results32, go_sem, r0, r1, t0, t1]) rfl (HF.out _ _ _ _ (bset2' HT3.out.bl (w.heap.size + 2) _ _ (by omega))))
          subst he
          have hqT := (tkS_ok (l := F) (V := V) (T := T) (p := pj) (by rw [hts])).2.2
          rw [hts] at hqT
          have hqT : pq ≤ T := hqT
          have HSN : Hid (st (tkS F V T) p1 (j + 1) = (pq, lj ++ [s], 0)) := by
            have h := st_go HSJ.out (by rw [hts])
            rw [hts] at h
            exact h
          have HLN : Hid ((lj ++ [s]).length = j + 1) := by unfold Hid; rw [List.length_append, HLJ.out]; rfl
          have HFS := hid (fil_set HLJ.out hj6 s)
          clear hts HSJ hrd HCP HST HGOOD HBAD
          go_wp2
          go_region_with (go_at_call 52; refine (h14 _ (by first | exact (Below.refl _ _).drew | exact Below.refl _ _)).mono ?_; rintro e' y1 ⟨rfl, hy1'⟩; have hy1 : Below W2.heap.size W2 y1 := (by first | exact drew_below hy1' | exact hy1'); have HT1 := hid (HTJ.out.below hy1); have HB1 := hid (HBJ.out.below hy1); have HT3 := hid ((HT1.out.move pq).off g j (.int .i64 s) (by omega)); have hcy := ((bcell hy1).1 _ _ HMJ.out.lt).trans HCJ.out; have HM3 := hid ((((HMJ.out.below hy1).off w.heap.size 0 (.slice a L cap) (.inl (by omega)) (by omega)).off w.heap.size 1 (.int .i64 (pq : Nat)) (.inl (by omega)) (by omega)).off g j (.int .i64 s) (.inr HDg.out) (by omega)); have HB2 := hid ((HB1.out.other w.heap.size 0 (.slice a L cap) (by omega)).other w.heap.size 1 (.int .i64 (pq : Nat)) (by omega)); have hcb := HB2.out.cell j (by rw [HFL.out]; exact HJ6.out); have hfb := HB2.out.free j (by rw [HFL.out]; exact HJ6.out); have HC3 : Hid ((((y1.setCell ⟨w.heap.size, 0, none⟩ (.slice a L cap)).setCell ⟨w.heap.size, 1, none⟩ (.int .i64 (pq : Nat))).setCell ⟨g, j, none⟩ (.int .i64 s)).cell? ⟨G, k, none⟩ = some (.slice (some ⟨g, 0, none⟩) 6 6)) := cell_off3 hcy _ _ _ _ _ _ _ _ _ (by omega) (by omega) (by omega); obtain ⟨z1, m10, m11, n10, n11⟩ := id HT1.out.rd)
          all_goals go_wp2
          all_goals exact ⟨⟨j + 1, pq, lj ++ [s], by omega, rfl, by go_num, HSN, HLN, HT3, HM3, HC3, by rw [← HFS.out]; exact HB2.out.set j s, hqT⟩, by simp [intOf]; omega⟩
        · have hj66 : j = 6 := by omega
          have HTK : Hid (tkC F V T p = (pj, lj, 0)) := HCP.out pj lj 0 (by rw [← hj66]; exact HSJ.out)
          have HSTN : Hid (stL (fun _ p => tkC F V T p) 0 (k + 1) = (pj, PL ++ [lj], 0)) := by
            have h := stL_go HST.out (by rw [HTK.out])
            rw [HTK.out] at h
            exact h
          have HPLN : Hid ((PL ++ [lj]).length = k + 1) := by unfold Hid; rw [List.length_append, HPL.out]; rfl
          have HBF : Blk .i64 3 W2 g lj := by have h := HBJ.out; rw [fil_all (HLJ.out.trans hj66)] at h; exact h
          have HMN : Hid (Mz 22 (w.heap.size + 3) W2 G n (PL ++ [lj]) (g + 1) (k + 1)) := HMJ.out.close HPL.out HCJ.out (Rp.of_hl (Hl.of_blk HBF) (HLJ.out.trans hj66) ⟨by omega, by omega, by omega⟩) (by have := HDg.out; omega)
          have HDN : Hid (g + 1 ≤ W2.heap.size) := HBF.lt
          have hnj : ¬ (j : Int) < 6 := by omega
          have hkn := HKN.out
          clear hj66 HTK hj6 HBF HST HPL HMJ HCJ HBJ HSJ HLJ hrd HGOOD HBAD
          go_wp2
          exact ⟨⟨k + 1, pj, g + 1, PL ++ [lj], by omega, rfl, by go_num, HSTN, HPLN, HTJ, HMN, HDN, hpjT⟩, by simp [intOf]; omega⟩
    · have hkn : k = n := by omega
      have hP : tkP F V T n = (p, PL, 0) := by rw [← hkn]; exact HST.out
      have HF := hid (fun (g c1 : Nat) w' hg hb => HGOOD.out p g c1 PL w' hP hg hb)
      have hgp := HMZ.out.all (HPL.out.trans hkn) n
      have HGP := hid (gpz_off (gpz_off hgp (w.heap.size + 2) 0 (.slice a L cap) (by omega)) (w.heap.size + 2) 1 (.int .i64 (p : Nat)) (by omega))
      have hci : ¬ (k : Int) < n := by omega
      obtain ⟨z3, o0, o1, g0, g1⟩ := id HTP.out.rz
      clear hkn hP hgp HST HPL HMZ hrd gok gno HGOOD HBAD hlt
      go_wp2
      obtain ⟨zz, r0, r1, t0, t1⟩ := HTP.out.rz.set (.slice a L cap) (.int .i64 (p : Nat))
      refine bodyPost_ret (v := .tuple #[.agg #[.slice a L cap, .int .i64 (p : Nat)], .slice (some ⟨G, 0, none⟩) n n, .int .i64 0]) (by simp [results, Try.results32, go_sem, r0, r1, t0, t1]) rfl (HF.out _ _ _ (Gp.keeps.mono HGP.out fun b _ hb => by omega) (bset2' HTP.out.bl (w.heap.size + 2) _ _ (by omega)))
end Go.Proofs.Ytolfnjlkcppplaa
/- Contract: the residues of all channels that have posts are read by the program. -/
namespace Go.Proofs.Ytolfnjlkcppplaa
open Go.RowKit
set_option linter.unusedVariables false
set_option linter.unusedSimpArgs false
set_option maxRecDepth 10000

/-- What takeResidues answers, t what is read. -/
def TqPost (t : Nat × List (List Int) × Int) (n : Nat) (a : Option Addr) (L cap : Nat) (w : World) (e : Ending) (w' : World) : Prop :=
  ∃ (P g c1 : Nat), e = .returned (.tuple #[.agg #[.slice a L cap, .int .i64 (P : Nat)], .slice (some ⟨g, 0, none⟩) n c1, .int .i64 t.2.2]) ∧ (t.2.2 = 0 → P = t.1 ∧ Gp (fun b => w.heap.size ≤ b) w' (.slice (some ⟨g, 0, none⟩) n c1) t.2.1) ∧ Below w.heap.size w w'
theorem tq_bad {t : Nat × List (List Int) × Int} {n p P g c1 : Nat} {ZL : List (List Int)} {a : Option Addr} {L cap : Nat} {w w' : World} {E : Int} (h : t = (p, ZL, E)) (h0 : E ≠ 0) (hb : Below w.heap.size w w') : TqPost t n a L cap w (.returned (.tuple #[.agg #[.slice a L cap, .int .i64 (P : Nat)], .slice (some ⟨g, 0, none⟩) n c1, .int .i64 E])) w' :=
  ⟨P, g, c1, by rw [h], fun e => absurd (by rw [h] at e; exact e) h0, hb⟩
theorem tq_good {t : Nat × List (List Int) × Int} {n p g c1 : Nat} {ZL : List (List Int)} {a : Option Addr} {L cap : Nat} {w w' : World} (h : t = (p, ZL, 0)) (hg : Gp (fun b => w.heap.size ≤ b) w' (.slice (some ⟨g, 0, none⟩) n c1) ZL) (hb : Below w.heap.size w w') : TqPost t n a L cap w (.returned (.tuple #[.agg #[.slice a L cap, .int .i64 (p : Nat)], .slice (some ⟨g, 0, none⟩) n c1, .int .i64 0])) w' :=
  ⟨p, g, c1, by rw [h], fun _ => ⟨by rw [h], by rw [h]; exact hg⟩, hb⟩
set_option maxHeartbeats 4000000 in
theorem tresidues_any (n : Nat) (q : Int) (a : Option Addr) (L cap : Nat) (xs : List Int) (p0 : Nat) (af : Option Addr) (cf : Nat) (F : List Int) (ar : Option Addr) (cr : Nat) (R : List Int) (ap : Option Addr) (cp : Nat) (PL : List (List Int)) {PP : Nat → Prop} (w : World) (hn1 : 1 ≤ n) (hn2 : n ≤ 2) (hn : xs.length = L) (hv : Rw .u8 w (.slice a L cap) xs) (hx : Byts xs) (hl : L ≤ 2000) (hvR : Rw .i64 w (.slice ar 16 cr) R) (hk : Bk F R) (hp0 : p0 ≤ 8 * L) (hgp : Gp PP w (.slice ap n cp) PL) :
    Calls Try.prog 33 #[.agg #[.slice a L cap, .int .i64 (p0 : Nat)], .agg #[.int .i64 (n : Nat), .int .i64 q, .slice af 45 cf, .slice ar 16 cr], .slice ap n cp] w (TqPost (stL (tkR R (bv xs) (8 * L) PL) p0 n) n a L cap w) := by
  obtain ⟨gb, go, -, rfl, -, -, -⟩ := Lp.at hgp 0 (by omega)
  obtain ⟨i6, hi, hz0, hz1, hz2⟩ := info_parts info_i64
  obtain ⟨i7, hi1, ny0, ny1, ny2⟩ := info_parts info_rows64
  have hrd := fun (q : Nat) w' (hb : Below w.heap.size w w') (hq : q ≤ 8 * L) => tres_any a L cap xs ar cr R q w' hn (hv.below hb) hx hl (hvR.below hb) hk.r hk.lr hq
  have HKK := hid hk
  have HGP := hid hgp
  have HA : Hid (Tp w (((w.alloc (.cells #[.slice a L cap, .int .i64 (p0 : Nat)] 64)).alloc (.cells #[.int .i64 (n : Nat), .int .i64 q, .slice af 45 cf, .slice ar 16 cr] 24)).alloc (.cells #[.slice none 0 0, .int .i64 0] 64)) a L cap p0 n q af cf ar cr) := Tp.start w a L cap p0 n q af cf ar cr _ _ _
  have HZ := hid (show (((w.alloc (.cells #[.slice a L cap, .int .i64 (p0 : Nat)] 64)).alloc (.cells #[.int .i64 (n : Nat), .int .i64 q, .slice af 45 cf, .slice ar 16 cr] 24)).alloc (.cells #[.slice none 0 0, .int .i64 0] 64)).heap.size = w.heap.size + 3 by simp)
  clear hn hv hx hvR hk hgp
  generalize bv xs = V at *
  have hTl : 8 * L ≤ 16000 := by omega
  generalize 8 * L = T at *
  have HBAD := hid (fun (p P g c1 : Nat) (ZL : List (List Int)) (E : Int) w' (h : stL (tkR R V T PL) p0 n = (p, ZL, E)) h0 hb => tq_bad (n := n) (P := P) (g := g) (c1 := c1) (a := a) (L := L) (cap := cap) (w := w) (w' := w') h h0 hb)
  have HGOOD := hid (fun (p g c1 : Nat) (ZL : List (List Int)) w' (h : stL (tkR R V T PL) p0 n = (p, ZL, 0)) hg hb => tq_good (n := n) (g := g) (c1 := c1) (a := a) (L := L) (cap := cap) (w := w) (w' := w') h hg hb)
  generalize hSS : stL (tkR R V T PL) p0 n = SS at HBAD HGOOD ⊢
  have HSS := hid hSS
  clear hSS
  go_enter Try.func33, Try.ntmps33
  go_wp2
  generalize ((w.alloc (.cells #[.slice a L cap, .int .i64 (p0 : Nat)] 64)).alloc (.cells #[.int .i64 (n : Nat), .int .i64 q, .slice af 45 cf, .slice ar 16 cr] 24)).alloc (.cells #[.slice none 0 0, .int .i64 0] 64) = W0 at *
  obtain ⟨hdz, c0, c1, c2, c3, f0, f1, f2, f3⟩ := id HA.out.hd
  go_step3
  go_wp2_with (at_make; refine wpList_make_full _ rfl _ _ 26 rfl W0.heap.size 48 i7 (.slice none 0 0) 1 Try.underlying26 hi1 ny0 ny1 .i64 .i64 _ _ n rfl rfl (by omega) (by omega) (by rw [ny2]; omega) (by unfold maxLen; omega) (by simp) ?_)
  intro w5 hown5 hgrow5
  have hb5 := grown_of_none hgrow5
  have HA5 := hid (HA.out.below hb5)
  have HM0 : Hid (Mz 48 (w.heap.size + 3) w5 W0.heap.size n [] 0 0) := Mz.made (base := W0.heap.size) hown5 (by have := HZ.out; omega)
  obtain ⟨G, hG⟩ : ∃ G, W0.heap.size = G := ⟨_, rfl⟩
  rw [hG] at HM0
  have hGw : w.heap.size + 3 ≤ G := by have := HZ.out; omega
  clear hown5 hgrow5 hb5 HA c0 c1 c2 c3 f0 f1 f2 f3 hdz HZ
  rw [hG]
  clear hG
  go_wp2
  go_step3
  go_wp2
  go_loopw [10, 18] (fun ev i wr => ∃ (k p D : Nat) (ZL : List (List Int)), k ≤ n ∧ ev = .int .i64 0 ∧ i = .int .i64 k ∧ Hid (stL (tkR R V T PL) p0 k = (p, ZL, 0)) ∧ Hid (ZL.length = k) ∧ Hid (Tp w wr a L cap p n q af cf ar cr) ∧ Hid (Mz 48 (w.heap.size + 3) wr G n ZL D k) ∧ Hid (D ≤ wr.heap.size) ∧ p ≤ T) (fun _ i _ => n - (intOf i).toNat)
  case atStart => exact ⟨0, p0, 0, [], by omega, rfl, rfl, rfl, rfl, HA5, HM0, Nat.zero_le _, hp0⟩
  case round =>
    clear HA5 HM0
    obtain ⟨k, p, D, ZL, hk, rfl, rfl, HST, HPL, HTP, HMZ, HD, hpT⟩ := hrel
    obtain ⟨W1, rfl⟩ : ∃ x, x = wr := ⟨wr, rfl⟩
    by_cases hlt : k < n
    · obtain ⟨gb', go', r, hoa, hgb, hgc, hgr⟩ := Lp.at (Gp.keeps.below HGP.out HTP.out.bl) k hlt
      simp only [Option.some.injEq, Addr.mk.injEq, and_true] at hoa
      obtain ⟨rfl, rfl⟩ := hoa
      obtain ⟨ra, rc, rfl, -⟩ := id hgr.rw
      obtain ⟨X, hX⟩ : ∃ X, (PL.getD k []).length = X := ⟨_, rfl⟩
      rw [hX] at hgc
      clear hgr
      have i1' : (0 : Int) ≤ (k : Int) := by omega
      have hlt0 : (k : Int) < n := by omega
      have HKN := hid hlt
      by_cases c2 : X = 0
      case pos =>
        have htk := tkR_zero (R := R) (V := V) (T := T) (p := p) (by rw [hX, c2] : (PL.getD k []).length = 0)
        have HSTN : Hid (stL (tkR R V T PL) p0 (k + 1) = (p, ZL ++ [[]], 0)) := by
          have h := stL_go HST.out (by rw [htk])
          rw [htk] at h
          exact h
        have HPLN : Hid ((ZL ++ [([] : List Int)]).length = k + 1) := by unfold Hid; rw [List.length_append, HPL.out]; rfl
        have HM2 := hid (HMZ.out.nil HPL.out hlt)
        clear hX
        subst c2
        clear htk HST hrd HGOOD HBAD HMZ
        go_wp2
        exact ⟨⟨k + 1, p, D, ZL ++ [[]], by omega, rfl, by go_num, HSTN, HPLN, HTP, HM2, HD, hpT⟩, by simp [intOf]; omega⟩
      have HCP := hid (tkR_pos (R := R) (V := V) (T := T) (p := p) (by rw [hX]; exact c2 : (PL.getD k []).length ≠ 0))
      have hX0 : ((X : Int) == 0) = false := by simpa using fun h => c2 (by omega)
      clear hX c2
      go_wp2_with (at_make; refine wpList_make_full _ rfl _ _ 48 rfl W1.heap.size 2 i6 (.int .i64 0) 1 Try.underlying48 hi hz0 hz1 .i64 .i64 _ _ 16 rfl rfl (by omega) (by omega) (by rw [hz2]; omega) (by unfold maxLen; omega) (by simp) ?_)
      intro w6 hown6 hgrow6
      have hb6 := grown_of_none hgrow6
      obtain ⟨g, hg⟩ : ∃ g, W1.heap.size = g := ⟨_, rfl⟩
      have hM6 := HMZ.out.below hb6
      have hT6 := HTP.out.below hb6
      have hB6 := Blk.made hown6
      have hGg : G < g := by rw [← hg]; exact HMZ.out.lt
      have HDg : Hid (D ≤ g) := by unfold Hid; rw [← hg]; exact HD.out
      rw [hg] at hB6
      rw [hg]
      clear hown6 hgrow6 hb6 hg HD HMZ HTP hgb hgc W1
      have hck := hM6.rest k (Nat.le_refl _) hlt
      have hfk := hM6.free k
      obtain ⟨hM7, hc7⟩ := hM6.put HPL.out hlt (.slice (some ⟨g, 0, none⟩) 16 16)
      have HM7 := hid hM7
      have HC7 := hid hc7
      have HT7 := hid (hT6.off G k (.slice (some ⟨g, 0, none⟩) 16 16) hGw)
      have HB7 : Hid (Blk .i64 2 (w6.setCell ⟨G, k, none⟩ (.slice (some ⟨g, 0, none⟩) 16 16)) g (fil 16 [])) := by rw [fil_nil]; exact hB6.other _ _ _ (by omega)
      clear hM6 hT6 hB6 hM7
      go_wp2
      generalize w6.setCell ⟨G, k, none⟩ (.slice (some ⟨g, 0, none⟩) 16 16) = W3 at *
      clear hc7 hck hfk
      go_loopw [10, 36] (fun ev i wr => ∃ (j pj : Nat) (lj : List Int), j ≤ 16 ∧ ev = .int .i64 0 ∧ i = .int .i64 j ∧ Hid (st (tkV R V T) p j = (pj, lj, 0)) ∧ Hid (lj.length = j) ∧ Hid (Tp w wr a L cap pj n q af cf ar cr) ∧ Hid (Mz 48 (w.heap.size + 3) wr G n ZL D (k + 1)) ∧ Hid (wr.cell? ⟨G, k, none⟩ = some (.slice (some ⟨g, 0, none⟩) 16 16)) ∧ Hid (Blk .i64 2 wr g (fil 16 lj)) ∧ pj ≤ T) (fun _ i _ => 16 - (intOf i).toNat)
      case atStart => exact ⟨0, p, [], by omega, rfl, rfl, rfl, rfl, HT7, HM7, HC7, HB7, hpT⟩
      case round =>
        clear HT7 HM7 HC7 HB7
        obtain ⟨j, pj, lj, hj, rfl, rfl, HSJ, HLJ, HTJ, HMJ, HCJ, HBJ, hpjT⟩ := hrel
        obtain ⟨W2, rfl⟩ : ∃ x, x = wr := ⟨wr, rfl⟩
        by_cases hj6 : j < 16
        · have h14 := fun W h => hrd pj W (bthen HTJ.out.bl h HTJ.out.bl.size) hpjT
          obtain ⟨pq, s, e, hts⟩ : ∃ pq s e, tkV R V T pj = (pq, s, e) := ⟨_, _, _, rfl⟩
          rw [hts] at h14
          dsimp only at h14
          obtain ⟨rz, c0, c1, f0, f1⟩ := id HTJ.out.rd
          obtain ⟨hdz, d0, d1, d2, d3, e0, e1, e2, e3⟩ := id HTJ.out.hd
          have hck := HCJ.out
          have j1 : (0 : Int) ≤ (j : Int) := by omega
          have j2 : (j : Int) < 16 := by omega
          have j3 : IntKind.i64.wrap (j : Int) = j := wraps_i64 _ (by omega) (by omega)
          have k3 : IntKind.i64.wrap (k : Int) = k := wraps_i64 _ (by omega) (by omega)
          have hfl := fil_len 16 lj
          have HFL := hid hfl
          clear hfl
          have HJ6 := hid hj6
          by_cases he : e = 0
          case neg =>
            have hP : SS = (p, ZL, e) := by
              have h1 := st_end HSJ.out (by rw [hts]; exact he) hj6
              rw [hts] at h1
              have h2 : tkR R V T PL k p = (pj, lj, e) := HCP.out.trans h1
              have h3 := stL_end HST.out (by rw [h2]; exact he) HKN.out
              rw [h2] at h3
              exact HSS.out.symm.trans h3
            have HF := hid (fun (P g c1 : Nat) w' hb => HBAD.out p P g c1 ZL e w' hP he hb)
            have hne : (e != 0) = true := by simpa using he
            clear hP hts HSJ he hrd HCP HST HGOOD HBAD
            go_wp2
            go_region_with (go_at_call 53; refine (h14 _ (by first | exact (Below.refl _ _).drew | exact Below.refl _ _)).mono ?_; rintro e' y1 ⟨rfl, hy1'⟩; have hy1 : Below W2.heap.size W2 y1 := (by first | exact drew_below hy1' | exact hy1'); have HT1 := hid (HTJ.out.below hy1); have HB1 := hid (HBJ.out.below hy1); have HT3 := hid ((HT1.out.move pq).off g j (.int .i64 s) (by omega)); have hcy := ((bcell hy1).1 _ _ HMJ.out.lt).trans HCJ.out; have hB2 := (HB1.out.other w.heap.size 0 (.slice a L cap) (by omega)).other w.heap.size 1 (.int .i64 (pq : Nat)) (by omega); have hcb := hB2.cell j (by rw [HFL.out]; exact HJ6.out); have hfb := hB2.free j (by rw [HFL.out]; exact HJ6.out); obtain ⟨z1, m10, m11, n10, n11⟩ := id HT1.out.rd; obtain ⟨z2, p0, p1, q0, q1⟩ := id HT3.out.rd; obtain ⟨z3, o0, o1, g0, g1⟩ := id HT3.out.rz)
            all_goals go_wp2
            all_goals (obtain ⟨zz, r0, r1, t0, t1⟩ := HT3.out.rz.set (.slice a L cap) (.int .i64 (pq : Nat)); refine bodyPost_ret (v := .tuple #[.agg #[.slice a L cap, .int .i64 (pq : Nat)], .slice (some ⟨G, 0, none⟩) n n, .int .i64 e]) (by simp [results, Try.results33, go_sem, r0, r1, t0, t1]) rfl (HF.out _ _ _ _ (bset2' HT3.out.bl (w.heap.size + 2) _ _ (by omega))))
          subst he
          have hqT := (tkV_inv HKK.out V T pj (by rw [hts])).2.1
          rw [hts] at hqT
          have hqT : pq ≤ T := hqT
          have HSN : Hid (st (tkV R V T) p (j + 1) = (pq, lj ++ [s], 0)) := by
            have h := st_go HSJ.out (by rw [hts])
            rw [hts] at h
            exact h
          have HLN : Hid ((lj ++ [s]).length = j + 1) := by unfold Hid; rw [List.length_append, HLJ.out]; rfl
          have HFS := hid (fil_set HLJ.out hj6 s)
          clear hts HSJ hrd HCP HST HGOOD HBAD
          go_wp2
          go_region_with (go_at_call 53; refine (h14 _ (by first | exact (Below.refl _ _).drew | exact Below.refl _ _)).mono ?_; rintro e' y1 ⟨rfl, hy1'⟩; have hy1 : Below W2.heap.size W2 y1 := (by first | exact drew_below hy1' | exact hy1'); have HT1 := hid (HTJ.out.below hy1); have HB1 := hid (HBJ.out.below hy1); have HT3 := hid ((HT1.out.move pq).off g j (.int .i64 s) (by omega)); have hcy := ((bcell hy1).1 _ _ HMJ.out.lt).trans HCJ.out; have HM3 := hid ((((HMJ.out.below hy1).off w.heap.size 0 (.slice a L cap) (.inl (by omega)) (by omega)).off w.heap.size 1 (.int .i64 (pq : Nat)) (.inl (by omega)) (by omega)).off g j (.int .i64 s) (.inr HDg.out) (by omega)); have HB2 := hid ((HB1.out.other w.heap.size 0 (.slice a L cap) (by omega)).other w.heap.size 1 (.int .i64 (pq : Nat)) (by omega)); have hcb := HB2.out.cell j (by rw [HFL.out]; exact HJ6.out); have hfb := HB2.out.free j (by rw [HFL.out]; exact HJ6.out); have HC3 : Hid ((((y1.setCell ⟨w.heap.size, 0, none⟩ (.slice a L cap)).setCell ⟨w.heap.size, 1, none⟩ (.int .i64 (pq : Nat))).setCell ⟨g, j, none⟩ (.int .i64 s)).cell? ⟨G, k, none⟩ = some (.slice (some ⟨g, 0, none⟩) 16 16)) := cell_off3 hcy _ _ _ _ _ _ _ _ _ (by omega) (by omega) (by omega); obtain ⟨z1, m10, m11, n10, n11⟩ := id HT1.out.rd)
          all_goals go_wp2
          all_goals exact ⟨⟨j + 1, pq, lj ++ [s], by omega, rfl, by go_num, HSN, HLN, HT3, HM3, HC3, by rw [← HFS.out]; exact HB2.out.set j s, hqT⟩, by simp [intOf]; omega⟩
        · have hj66 : j = 16 := by omega
          have HTK : Hid (tkR R V T PL k p = (pj, lj, 0)) := HCP.out.trans (by rw [← hj66]; exact HSJ.out)
          have HSTN : Hid (stL (tkR R V T PL) p0 (k + 1) = (pj, ZL ++ [lj], 0)) := by
            have h := stL_go HST.out (by rw [HTK.out])
            rw [HTK.out] at h
            exact h
          have HPLN : Hid ((ZL ++ [lj]).length = k + 1) := by unfold Hid; rw [List.length_append, HPL.out]; rfl
          have HBF : Blk .i64 2 W2 g lj := by have h := HBJ.out; rw [fil_all (HLJ.out.trans hj66)] at h; exact h
          have HMN : Hid (Mz 48 (w.heap.size + 3) W2 G n (ZL ++ [lj]) (g + 1) (k + 1)) := HMJ.out.close HPL.out HCJ.out (Rp.of_hl (Hl.of_blk HBF) (HLJ.out.trans hj66) ⟨by omega, by omega, by omega⟩) (by have := HDg.out; omega)
          have HDN : Hid (g + 1 ≤ W2.heap.size) := HBF.lt
          have hnj : ¬ (j : Int) < 16 := by omega
          have hkn := HKN.out
          clear hj66 HTK hj6 HBF HST HPL HMJ HCJ HBJ HSJ HLJ hrd HGOOD HBAD
          go_wp2
          exact ⟨⟨k + 1, pj, g + 1, ZL ++ [lj], by omega, rfl, by go_num, HSTN, HPLN, HTJ, HMN, HDN, hpjT⟩, by simp [intOf]; omega⟩
    · have hkn : k = n := by omega
      have hP : stL (tkR R V T PL) p0 n = (p, ZL, 0) := by rw [← hkn]; exact HST.out
      have HF := hid (fun (g c1 : Nat) w' hg hb => HGOOD.out p g c1 ZL w' (HSS.out.symm.trans hP) hg hb)
      have hgp := HMZ.out.all (HPL.out.trans hkn) n
      have HGP := hid (gpz_off (gpz_off hgp (w.heap.size + 2) 0 (.slice a L cap) (by omega)) (w.heap.size + 2) 1 (.int .i64 (p : Nat)) (by omega))
      have hci : ¬ (k : Int) < n := by omega
      obtain ⟨z3, o0, o1, g0, g1⟩ := id HTP.out.rz
      obtain ⟨rz, c0, c1, f0, f1⟩ := id HTP.out.rd
      clear hkn hP hgp HST HPL HMZ hrd HGOOD HBAD hlt
      go_wp2
      obtain ⟨zz, r0, r1, t0, t1⟩ := HTP.out.rz.set (.slice a L cap) (.int .i64 (p : Nat))
      refine bodyPost_ret (v := .tuple #[.agg #[.slice a L cap, .int .i64 (p : Nat)], .slice (some ⟨G, 0, none⟩) n n, .int .i64 0]) (by simp [results, Try.results33, go_sem, r0, r1, t0, t1]) rfl (HF.out _ _ _ (Gp.keeps.mono HGP.out fun b _ hb => by omega) (bset2' HTP.out.bl (w.heap.size + 2) _ _ (by omega)))
end Go.Proofs.Ytolfnjlkcppplaa
/- Contracts: whether a packet has ended; Read of a body by the program. -/
namespace Go.Proofs.Ytolfnjlkcppplaa
open Go.RowKit
set_option linter.unusedVariables false
set_option linter.unusedSimpArgs false
set_option maxRecDepth 10000

theorem fld_rest {V T p : Nat} (hV : V < 2 ^ T) (hp : p ≤ T) : fld V p (T - p) = V / 2 ^ p := by
  unfold fld
  refine Nat.mod_eq_of_lt ?_
  rw [Nat.div_lt_iff_lt_mul (Nat.two_pow_pos _), ← Nat.pow_add, show T - p + p = T by omega]
  exact hV
def endT (V T p : Nat) : Bool := decide (¬ 8 ≤ T - p ∧ V / 2 ^ p = 0)
theorem nat_is0 (G : Nat) : ((G : Int) == 0) = decide (G = 0) := by
  by_cases e : G = 0
  · subst e; rfl
  · rw [decide_eq_false e]; simpa using fun k => e (by omega)
set_option maxHeartbeats 2000000 in
theorem bended_any (a : Option Addr) (L cap : Nat) (xs : List Int) (p : Nat) (w : World) (hn : xs.length = L) (hv : Rw .u8 w (.slice a L cap) xs) (hx : Byts xs) (hl : L ≤ 2000) (hp : p ≤ 8 * L) :
    Calls Try.prog 34 #[.agg #[.slice a L cap, .int .i64 (p : Nat)]] w fun e w' => e = .returned (.bool (endT (bv xs) (8 * L) p)) ∧ Below w.heap.size w w' := by
  have hA := B2.new w (.slice a L cap) (.int .i64 (p : Nat)) 64
  have hW := below1 w (.cells #[.slice a L cap, .int .i64 (p : Nat)] 64)
  have hlf := left_any a L cap (p : Nat) (w.alloc (.cells #[.slice a L cap, .int .i64 (p : Nat)] 64)) (by omega)
  rw [if_pos ⟨by omega, by omega⟩, show 8 * (L : Int) - (p : Int) = ((8 * L - p : Nat) : Int) by omega] at hlf
  have HVT : bv xs < 2 ^ (8 * L) := by
    have h := bv_lt hx
    rw [hn] at h
    rw [Nat.pow_mul]
    exact h
  have hg := fun w' (hb : Below w.heap.size w w') (h8 : ¬ 8 ≤ 8 * L - p) => bget_ok a L cap xs p (8 * L - p) w' hn (hv.below hb) hx hl (by omega) (by omega)
  rw [fld_rest HVT hp] at hg
  have HO := hid (show endT (bv xs) (8 * L) p = decide (¬ 8 ≤ 8 * L - p ∧ bv xs / 2 ^ p = 0) from rfl)
  obtain ⟨bz, c0, c1, f0, f1⟩ := id hA
  clear hn hv hx HVT
  generalize endT (bv xs) (8 * L) p = E at *
  generalize bv xs / 2 ^ p = G at *
  have hM2 : 8 * L - p ≤ 16000 := by omega
  generalize 8 * L - p = M at *
  generalize p + M = Q at *
  by_cases h8 : 8 ≤ M
  · obtain rfl : E = false := HO.out.trans (decide_eq_false fun k => k.1 h8)
    have h8' : (8 : Int) ≤ (M : Int) := by omega
    clear hg HO hp
    go_enter Try.func34, Try.ntmps34
    go_wp2_with (go_at_call 54; refine hlf.mono ?_; rintro e y1 ⟨rfl, hy1⟩)
    go_ret
    exact ⟨rfl, bthen' hW hy1⟩
  · have hE : E = decide (G = 0) := HO.out.trans (decide_eq_decide.2 ⟨fun k => k.2, fun k => ⟨h8, k⟩⟩)
    have hg := fun w' hb => hg w' hb h8
    have h8' : (M : Int) < 8 := by omega
    have HG := hid (nat_is0 G)
    clear HO hp h8
    rw [← hE] at HG
    clear hE
    obtain ⟨Z, hZ⟩ : ∃ Z : Int, (G : Int) = Z := ⟨_, rfl⟩
    rw [hZ] at HG hg
    clear hZ
    have hzz := HG.out
    clear HG
    go_enter Try.func34, Try.ntmps34
    go_wp2_with (first | (go_at_call 54; refine hlf.mono ?_; rintro e y1 ⟨rfl, hy1⟩; have hA1 := hA.below hy1; have hb1 := bthen' hW hy1; clear c0 c1 f0 f1; obtain ⟨z1, c0, c1, f0, f1⟩ := id hA1) | (go_at_call 51; refine (hg _ hb1).mono ?_; rintro e y2 ⟨rfl, hy2⟩; have hb2 := bthen' hb1 hy2; have hQ := B2.new y2 (.slice none 0 0) (.int .i64 0) 64; obtain ⟨z2, d0, d1, g0, g1⟩ := id hQ))
    go_ret
    exact ⟨rfl, hb2.alloc hb2.size _⟩
theorem stL_len {g : Nat → Nat → Nat × List Int × Int} {p0 : Nat} : ∀ (k : Nat) {p : Nat} {l : List (List Int)}, stL g p0 k = (p, l, 0) → l.length = k := by
  intro k
  induction k with
  | zero =>
    intro p l h
    simp only [stL, Prod.mk.injEq] at h
    rw [← h.2.1]
    rfl
  | succ k ih =>
    intro p l h
    obtain ⟨q, l1, e1, hq⟩ : ∃ q l1 e1, stL g p0 k = (q, l1, e1) := ⟨_, _, _, rfl⟩
    by_cases he1 : e1 = 0
    · subst he1
      by_cases he2 : (g k q).2.2 = 0
      · rw [stL_go hq he2] at h
        simp only [Prod.mk.injEq] at h
        rw [← h.2.1, List.length_append, ih hq]
        rfl
      · rw [stL_no hq he2] at h
        simp only [Prod.mk.injEq] at h
        exact absurd h.2.2 he2
    · have h1 : stL g p0 (k + 1) = stL g p0 k := stL_stay (by rw [hq]; exact he1) 1
      rw [h1, hq] at h
      simp only [Prod.mk.injEq] at h
      exact absurd h.2.2 he1
theorem tkP_le {F R : List Int} (hk : Bk F R) {V T n p : Nat} {P : List (List Int)} (h1 : tkP F V T n = (p, P, 0)) : p ≤ T :=
  (stL_inv (f := puX F) (Q := fun _ x => x.length = 0 ∨ (flOk x = true ∧ ∀ j, j < 6 → 0 < F.getD (x.getD j 0).toNat 0)) (n := n) (T := T) (fun i p _ _ h => tkC_inv hk V T p h) 0 n p (Nat.le_refl _) P (Nat.zero_le _) h1).2.1
set_option maxHeartbeats 4000000 in
theorem bread_ok (n : Nat) (q : Int) (af : Option Addr) (cf : Nat) (F : List Int) (ar : Option Addr) (cr : Nat) (R : List Int) (ab : Option Addr) (L cb : Nat) (xs : List Int) (w : World) (h : Bks w af 45 cf F ar 16 cr R) (hR : vhRight (n : Int) q F R = true) (hn : xs.length = L) (hv : Rw .u8 w (.slice ab L cb) xs) (hx : Byts xs) (hl : L ≤ 2000) :
    Calls Try.prog 18 #[.agg #[.int .i64 (n : Int), .int .i64 q, .slice af 45 cf, .slice ar 16 cr], .slice ab L cb] w (RbPost (n : Int) q F R (bv xs) (8 * L) w) := by
  have hk := bk_of hR
  have hn2 : 1 ≤ n ∧ n ≤ 2 := by have := vhRight_parts hR; omega
  have hW := below2 w (.cells #[.int .i64 (n : Int), .int .i64 q, .slice af 45 cf, .slice ar 16 cr] 24) (.cells #[.slice none 0 0, .slice none 0 0] 28)
  have hA := (B4.new w (.int .i64 (n : Int)) (.int .i64 q) (.slice af 45 cf) (.slice ar 16 cr) 24).below (below1 _ (.cells #[.slice none 0 0, .slice none 0 0] 28))
  have hB := B2.new2 w (.cells #[.int .i64 (n : Int), .int .i64 q, .slice af 45 cf, .slice ar 16 cr] 24) (.slice none 0 0) (.slice none 0 0) 28
  have hr := vright_any (n : Int) q af 45 cf F ar 16 cr R _ (h.below hW)
  rw [hR] at hr
  have hrE : rbE (n : Int) q F R (bv xs) (8 * L) = tkE F R (bv xs) (8 * L) n := if_pos hR
  have hP := fun W (hb : Below w.heap.size w W) => tposts_any n q ab L cb xs af cf F ar cr W hn2.1 hn2.2 hn (hv.below hb) hx hl (h.vf.below hb) hk.f
  have hZ := fun (p g c1 : Nat) (PL : List (List Int)) (PP : Nat → Prop) W (hb : Below w.heap.size w W) (hp : p ≤ 8 * L) (hg : Gp PP W (.slice (some ⟨g, 0, none⟩) n c1) PL) => tresidues_any n q ab L cb xs p af cf F ar cr R (some ⟨g, 0, none⟩) c1 PL W hn2.1 hn2.2 hn (hv.below hb) hx hl (h.vr.below hb) hk hp hg
  have hD := fun (p : Nat) W (hb : Below w.heap.size w W) (hp : p ≤ 8 * L) => bended_any ab L cb xs p W hn (hv.below hb) hx hl hp
  have HBAD := hid (fun (E : Int) w' (hE : tkE F R (bv xs) (8 * L) n = E) h0 hb => rb_bad (c := (n : Int)) (q := q) (F := F) (R := R) (V := bv xs) (T := 8 * L) (w := w) (w' := w') E (hrE.trans hE) h0 hb)
  have HRE := hid hrE
  clear hrE h hv hR hx hn
  generalize hVV : bv xs = V at *
  generalize hTT : 8 * L = T at *
  clear hVV hTT
  obtain ⟨p, PL, eP, htP⟩ : ∃ p PL eP, tkP F V T n = (p, PL, eP) := ⟨_, _, _, rfl⟩
  have HTP := hid htP
  unfold PqPost at hP
  rw [htP] at hP
  dsimp only at hP
  obtain ⟨ez, e0, e1, e2, e3, f0, f1, f2, f3⟩ := id hA
  by_cases heP : eP = 0
  case neg =>
    have hE : tkE F R V T n = eP := by unfold tkE; rw [htP]; exact if_pos heP
    have HF := hid (fun w' hb => HBAD.out eP w' hE heP hb)
    have hne : (eP != 0) = true := by simpa using heP
    clear hE htP heP hZ hD HBAD hk
    go_enter Try.func18, Try.ntmps18
    go_upto_region 4 with (first | (go_at_call 22; refine hr.mono ?_; rintro e y1 ⟨rfl, hy1⟩; have hb1 := bthen' hW hy1; have hA1 := hA.below hy1; have hB1 := hB.below hy1; clear e0 e1 e2 e3 f0 f1 f2 f3; obtain ⟨ez1, e0, e1, e2, e3, f0, f1, f2, f3⟩ := id hA1) | (go_at_call 32; refine (hP _ hb1).mono ?_; rintro e y2 ⟨P, g, c1, rfl, -, hy2⟩; have hb2 := bthen' hb1 hy2; have hzz := Nat.lt_of_lt_of_le hB1.z hy2.size; have hA2 := (hA1.below hy2).below (below1 y2 (.cells #[.slice ab L cb, .int .i64 (P : Nat)] 64)); have hB2 := (hB1.below hy2).below (below1 y2 (.cells #[.slice ab L cb, .int .i64 (P : Nat)] 64)); have hQ := B2.new y2 (.slice ab L cb) (.int .i64 (P : Nat)) 64; have hb3 := hb2.alloc hb2.size (.cells #[.slice ab L cb, .int .i64 (P : Nat)] 64); clear e0 e1 e2 e3 f0 f1 f2 f3))
    generalize y2.alloc (.cells #[.slice ab L cb, .int .i64 (P : Nat)] 64) = W3 at *
    have hzz3 := hQ.z
    obtain ⟨ez2, e0, e1, e2, e3, f0, f1, f2, f3⟩ := id hA2
    obtain ⟨bz2, b0, b1, g0, g1⟩ := id hB2
    obtain ⟨qz2, q0, q1, r0, r1⟩ := id hQ
    go_wp2
    obtain ⟨zz, s0, s1, t0, t1⟩ := (hB2.set (.slice none 0 0) (.slice none 0 0))
    refine bodyPost_ret (v := .tuple #[.agg #[.slice none 0 0, .slice none 0 0], .int .i64 eP]) (by simp [results, Try.results18, go_sem, s0, s1, t0, t1]) rfl (HF.out _ (bset2' hb3 (w.heap.size + 1) _ _ (by omega)))
  subst heP
  have hpT := tkP_le hk htP
  have hPL := hid (stL_len n htP)
  obtain ⟨p2, ZL, eZ, htZ⟩ : ∃ p2 ZL eZ, stL (tkR R V T PL) p n = (p2, ZL, eZ) := ⟨_, _, _, rfl⟩
  have hZ := fun g c1 PP W hb hg => hZ p g c1 PL PP W hb hpT hg
  unfold TqPost at hZ
  rw [htZ] at hZ
  dsimp only at hZ
  by_cases heZ : eZ = 0
  case neg =>
    have hE : tkE F R V T n = eZ := by rw [tkE_res htP htZ]; exact if_pos heZ
    have HF := hid (fun w' hb => HBAD.out eZ w' hE heZ hb)
    have hne : (eZ != 0) = true := by simpa using heZ
    clear hE htP htZ heZ hD HBAD hk HTP
    go_enter Try.func18, Try.ntmps18
    go_upto_region 4 with (first | (go_at_call 22; refine hr.mono ?_; rintro e y1 ⟨rfl, hy1⟩; have hb1 := bthen' hW hy1; have hA1 := hA.below hy1; have hB1 := hB.below hy1; clear e0 e1 e2 e3 f0 f1 f2 f3; obtain ⟨ez1, e0, e1, e2, e3, f0, f1, f2, f3⟩ := id hA1) | (go_at_call 32; refine (hP _ hb1).mono ?_; rintro e y2 ⟨P, g, c1, rfl, hq, hy2⟩; have hgp := (hq (by first | trivial | exact rfl)).2; obtain rfl : p = P := (hq (by first | trivial | exact rfl)).1.symm; have hb2 := bthen' hb1 hy2; have hzz := Nat.lt_of_lt_of_le hB1.z hy2.size; have hA2 := (hA1.below hy2).below (below1 y2 (.cells #[.slice ab L cb, .int .i64 (p : Nat)] 64)); have hB2 := (hB1.below hy2).below (below1 y2 (.cells #[.slice ab L cb, .int .i64 (p : Nat)] 64)); have hQ := B2.new y2 (.slice ab L cb) (.int .i64 (p : Nat)) 64; have hb3 := hb2.alloc hb2.size (.cells #[.slice ab L cb, .int .i64 (p : Nat)] 64); have HG3 := hid (Gp.keeps.below (Gp.keeps.mono hgp fun b hb hp => (⟨hp, hb⟩ : y1.heap.size ≤ b ∧ b < y2.heap.size)) (below1 y2 (.cells #[.slice ab L cb, .int .i64 (p : Nat)] 64))); have HY1 := hid hB1.z; clear hq hgp; clear e0 e1 e2 e3 f0 f1 f2 f3))
    generalize y2.alloc (.cells #[.slice ab L cb, .int .i64 (p : Nat)] 64) = W3 at *
    have hzz3 := hQ.z
    obtain ⟨ez2, e0, e1, e2, e3, f0, f1, f2, f3⟩ := id hA2
    obtain ⟨bz2, b0, b1, g0, g1⟩ := id hB2
    obtain ⟨qz2, q0, q1, r0, r1⟩ := id hQ
    go_wp2_with (first | (go_at_call 33; refine (hZ g c1 _ _ hb3 HG3.out).mono ?_; rintro e y4 ⟨P2, g2, c2, rfl, -, hy4⟩; have hb4 := bthen' hb3 hy4; have hB4 := hB2.below hy4; have hQ4 := hQ.below hy4; have hB5 := (hB4.other y2.heap.size 0 (.slice ab L cb) (by omega)).other y2.heap.size 1 (.int .i64 (P2 : Nat)) (by omega); have hQ5 := hQ4.set (.slice ab L cb) (.int .i64 (P2 : Nat)); have hb5 := bset2' hb4 y2.heap.size (.slice ab L cb) (.int .i64 (P2 : Nat)) hb2.size; clear b0 b1 g0 g1 q0 q1 r0 r1; obtain ⟨qz4, q40, q41, r40, r41⟩ := id hQ4; obtain ⟨bz5, b0, b1, g0, g1⟩ := id hB5; obtain ⟨qz5, q0, q1, r0, r1⟩ := id hQ5))
    obtain ⟨zz, s0, s1, t0, t1⟩ := (hB5.set (.slice none 0 0) (.slice none 0 0))
    refine bodyPost_ret (v := .tuple #[.agg #[.slice none 0 0, .slice none 0 0], .int .i64 eZ]) (by simp [results, Try.results18, go_sem, s0, s1, t0, t1]) rfl (HF.out _ (bset2' hb5 (w.heap.size + 1) _ _ (by omega)))
  subst heZ
  have htZ2 := tkZ_of htP htZ
  have hp2 : p2 ≤ T := (tk_any hk htP htZ2).2.1
  have hZL := hid (stL_len n htZ)
  have hD := fun W hb => hD p2 W hb hp2
  by_cases hen : endT V T p2 = true
  case neg =>
    have hE : tkE F R V T n = 2 := by
      rw [tkE_res htP htZ, if_neg (by simp)]
      by_cases c1 : 8 ≤ T - p2
      · exact if_pos c1
      · rw [if_neg c1]
        refine if_pos fun c2 => hen ?_
        unfold endT
        exact decide_eq_true ⟨c1, c2⟩
    have HF := hid (fun w' hb => HBAD.out 2 w' hE (by decide) hb)
    have hen : endT V T p2 = false := by simpa using hen
    rw [hen] at hD
    clear hE htP htZ htZ2 hp2 hen HBAD hk HTP
    go_enter Try.func18, Try.ntmps18
    go_upto_region 4 with (first | (go_at_call 22; refine hr.mono ?_; rintro e y1 ⟨rfl, hy1⟩; have hb1 := bthen' hW hy1; have hA1 := hA.below hy1; have hB1 := hB.below hy1; clear e0 e1 e2 e3 f0 f1 f2 f3; obtain ⟨ez1, e0, e1, e2, e3, f0, f1, f2, f3⟩ := id hA1) | (go_at_call 32; refine (hP _ hb1).mono ?_; rintro e y2 ⟨P, g, c1, rfl, hq, hy2⟩; have hgp := (hq (by first | trivial | exact rfl)).2; obtain rfl : p = P := (hq (by first | trivial | exact rfl)).1.symm; have hb2 := bthen' hb1 hy2; have hzz := Nat.lt_of_lt_of_le hB1.z hy2.size; have hA2 := (hA1.below hy2).below (below1 y2 (.cells #[.slice ab L cb, .int .i64 (p : Nat)] 64)); have hB2 := (hB1.below hy2).below (below1 y2 (.cells #[.slice ab L cb, .int .i64 (p : Nat)] 64)); have hQ := B2.new y2 (.slice ab L cb) (.int .i64 (p : Nat)) 64; have hb3 := hb2.alloc hb2.size (.cells #[.slice ab L cb, .int .i64 (p : Nat)] 64); have HG3 := hid (Gp.keeps.below (Gp.keeps.mono hgp fun b hb hp => (⟨hp, hb⟩ : y1.heap.size ≤ b ∧ b < y2.heap.size)) (below1 y2 (.cells #[.slice ab L cb, .int .i64 (p : Nat)] 64))); have HY1 := hid hB1.z; clear hq hgp; clear e0 e1 e2 e3 f0 f1 f2 f3))
    generalize y2.alloc (.cells #[.slice ab L cb, .int .i64 (p : Nat)] 64) = W3 at *
    have hzz3 := hQ.z
    obtain ⟨ez2, e0, e1, e2, e3, f0, f1, f2, f3⟩ := id hA2
    obtain ⟨bz2, b0, b1, g0, g1⟩ := id hB2
    obtain ⟨qz2, q0, q1, r0, r1⟩ := id hQ
    go_wp2_with (first | (go_at_call 33; refine (hZ g c1 _ _ hb3 HG3.out).mono ?_; rintro e y4 ⟨P2, g2, c2, rfl, hq2, hy4⟩; have hgz := (hq2 (by first | trivial | exact rfl)).2; obtain rfl : p2 = P2 := (hq2 (by first | trivial | exact rfl)).1.symm; have HG5 := hid (gpz_off (gpz_off (Gp.keeps.below HG3.out hy4) y2.heap.size 0 (.slice ab L cb) (by omega)) y2.heap.size 1 (.int .i64 (p2 : Nat)) (by omega)); have HZ5 := hid (gpz_off (gpz_off hgz y2.heap.size 0 (.slice ab L cb) (by omega)) y2.heap.size 1 (.int .i64 (p2 : Nat)) (by omega)); clear hq2 hgz; have hb4 := bthen' hb3 hy4; have hB4 := hB2.below hy4; have hQ4 := hQ.below hy4; have hB5 := (hB4.other y2.heap.size 0 (.slice ab L cb) (by omega)).other y2.heap.size 1 (.int .i64 (p2 : Nat)) (by omega); have hQ5 := hQ4.set (.slice ab L cb) (.int .i64 (p2 : Nat)); have hb5 := bset2' hb4 y2.heap.size (.slice ab L cb) (.int .i64 (p2 : Nat)) hb2.size; clear b0 b1 g0 g1 q0 q1 r0 r1; obtain ⟨qz4, q40, q41, r40, r41⟩ := id hQ4; obtain ⟨bz5, b0, b1, g0, g1⟩ := id hB5; obtain ⟨qz5, q0, q1, r0, r1⟩ := id hQ5) | (go_at_call 34; refine (hD _ hb5).mono ?_; rintro e y6 ⟨rfl, hy6⟩; have hb6 := bthen' hb5 hy6; have hB6 := hB5.below hy6; have HY6 := hid hy6; clear b0 b1 g0 g1 q0 q1 r0 r1; obtain ⟨bz6, b0, b1, g0, g1⟩ := id hB6))
    obtain ⟨zz, s0, s1, t0, t1⟩ := (hB6.set (.slice none 0 0) (.slice none 0 0))
    refine bodyPost_ret (v := .tuple #[.agg #[.slice none 0 0, .slice none 0 0], .int .i64 2]) (by simp [results, Try.results18, go_sem, s0, s1, t0, t1]) rfl (HF.out _ (bset2' hb6 (w.heap.size + 1) _ _ (by omega)))
  have hE : tkE F R V T n = 0 := by
    unfold endT at hen
    obtain ⟨c1, c2⟩ := of_decide_eq_true hen
    rw [tkE_res htP htZ, if_neg (by simp), if_neg c1, if_neg (by simpa using c2)]
  have HF := hid (fun w' a1 c1 a2 c2 g1 g2 hb => rb_good (c1 := c1) (c2 := c2) (a1 := a1) (a2 := a2) (w := w) (w' := w') (HRE.out.trans hE) htP htZ2 hPL.out hZL.out g1 g2 hb)
  rw [hen] at hD
  clear hE htP htZ htZ2 hp2 hen HBAD hk HTP hPL hZL HRE
  go_enter Try.func18, Try.ntmps18
  go_upto_region 4 with (first | (go_at_call 22; refine hr.mono ?_; rintro e y1 ⟨rfl, hy1⟩; have hb1 := bthen' hW hy1; have hA1 := hA.below hy1; have hB1 := hB.below hy1; clear e0 e1 e2 e3 f0 f1 f2 f3; obtain ⟨ez1, e0, e1, e2, e3, f0, f1, f2, f3⟩ := id hA1) | (go_at_call 32; refine (hP _ hb1).mono ?_; rintro e y2 ⟨P, g, c1, rfl, hq, hy2⟩; have hgp := (hq (by first | trivial | exact rfl)).2; obtain rfl : p = P := (hq (by first | trivial | exact rfl)).1.symm; have hb2 := bthen' hb1 hy2; have hzz := Nat.lt_of_lt_of_le hB1.z hy2.size; have hA2 := (hA1.below hy2).below (below1 y2 (.cells #[.slice ab L cb, .int .i64 (p : Nat)] 64)); have hB2 := (hB1.below hy2).below (below1 y2 (.cells #[.slice ab L cb, .int .i64 (p : Nat)] 64)); have hQ := B2.new y2 (.slice ab L cb) (.int .i64 (p : Nat)) 64; have hb3 := hb2.alloc hb2.size (.cells #[.slice ab L cb, .int .i64 (p : Nat)] 64); have HG3 := hid (Gp.keeps.below (Gp.keeps.mono hgp fun b hb hp => (⟨hp, hb⟩ : y1.heap.size ≤ b ∧ b < y2.heap.size)) (below1 y2 (.cells #[.slice ab L cb, .int .i64 (p : Nat)] 64))); have HY1 := hid hB1.z; clear hq hgp; clear e0 e1 e2 e3 f0 f1 f2 f3))
  generalize y2.alloc (.cells #[.slice ab L cb, .int .i64 (p : Nat)] 64) = W3 at *
  have hzz3 := hQ.z
  obtain ⟨ez2, e0, e1, e2, e3, f0, f1, f2, f3⟩ := id hA2
  obtain ⟨bz2, b0, b1, g0, g1⟩ := id hB2
  obtain ⟨qz2, q0, q1, r0, r1⟩ := id hQ
  go_wp2_with (first | (go_at_call 33; refine (hZ g c1 _ _ hb3 HG3.out).mono ?_; rintro e y4 ⟨P2, g2, c2, rfl, hq2, hy4⟩; have hgz := (hq2 (by first | trivial | exact rfl)).2; obtain rfl : p2 = P2 := (hq2 (by first | trivial | exact rfl)).1.symm; have HG5 := hid (gpz_off (gpz_off (Gp.keeps.below HG3.out hy4) y2.heap.size 0 (.slice ab L cb) (by omega)) y2.heap.size 1 (.int .i64 (p2 : Nat)) (by omega)); have HZ5 := hid (gpz_off (gpz_off hgz y2.heap.size 0 (.slice ab L cb) (by omega)) y2.heap.size 1 (.int .i64 (p2 : Nat)) (by omega)); clear hq2 hgz; have hb4 := bthen' hb3 hy4; have hB4 := hB2.below hy4; have hQ4 := hQ.below hy4; have hB5 := (hB4.other y2.heap.size 0 (.slice ab L cb) (by omega)).other y2.heap.size 1 (.int .i64 (p2 : Nat)) (by omega); have hQ5 := hQ4.set (.slice ab L cb) (.int .i64 (p2 : Nat)); have hb5 := bset2' hb4 y2.heap.size (.slice ab L cb) (.int .i64 (p2 : Nat)) hb2.size; clear b0 b1 g0 g1 q0 q1 r0 r1; obtain ⟨qz4, q40, q41, r40, r41⟩ := id hQ4; obtain ⟨bz5, b0, b1, g0, g1⟩ := id hB5; obtain ⟨qz5, q0, q1, r0, r1⟩ := id hQ5) | (go_at_call 34; refine (hD _ hb5).mono ?_; rintro e y6 ⟨rfl, hy6⟩; have hb6 := bthen' hb5 hy6; have hB6 := hB5.below hy6; have HY6 := hid hy6; clear b0 b1 g0 g1 q0 q1 r0 r1; obtain ⟨bz6, b0, b1, g0, g1⟩ := id hB6))
  obtain ⟨zz, s0, s1, t0, t1⟩ := (hB6.set (.slice (some ⟨g, 0, none⟩) n c1) (.slice (some ⟨g2, 0, none⟩) n c2))
  refine bodyPost_ret (v := .tuple #[.agg #[.slice (some ⟨g, 0, none⟩) n c1, .slice (some ⟨g2, 0, none⟩) n c2], .int .i64 0]) (by simp [results, Try.results18, go_sem, s0, s1, t0, t1]) rfl (HF.out _ _ _ _ _ ?_ ?_ (bset2' hb6 (w.heap.size + 1) _ _ (by omega)))
  · exact Gp.keeps.mono (gpz_off (gpz_off (Gp.keeps.below HG5.out hy6) (w.heap.size + 1) 0 _ (by have := HY1.out; omega)) (w.heap.size + 1) 1 _ (by have := HY1.out; omega)) fun b _ hb => by omega
  · exact Gp.keeps.mono (gpz_off (gpz_off (Gp.keeps.below HZ5.out hy6) (w.heap.size + 1) 0 _ (by omega)) (w.heap.size + 1) 1 _ (by omega)) fun b _ hb => by omega
theorem bread_any (c q : Int) (af : Option Addr) (nf cf : Nat) (F : List Int) (ar : Option Addr) (nr cr : Nat) (R : List Int) (ab : Option Addr) (L cb : Nat) (xs : List Int) (w : World) (h : Bks w af nf cf F ar nr cr R) (hn : xs.length = L) (hv : Rw .u8 w (.slice ab L cb) xs) (hx : Byts xs) (hl : L ≤ 2000) :
    Calls Try.prog 18 #[.agg #[.int .i64 c, .int .i64 q, .slice af nf cf, .slice ar nr cr], .slice ab L cb] w (RbPost c q F R (bv xs) (8 * L) w) := by
  by_cases hR : vhRight c q F R = true
  · obtain ⟨h1, h2, -, -, h5, h6, -⟩ := vhRight_parts hR
    obtain ⟨n, rfl⟩ := Int.eq_ofNat_of_zero_le (show 0 ≤ c by omega)
    obtain rfl : nf = 45 := h.lf.symm.trans h5
    obtain rfl : nr = 16 := h.lr.symm.trans h6
    exact bread_ok n q af cf F ar cr R ab L cb xs w h hR hn hv hx hl
  · have hR : vhRight c q F R = false := by simpa using hR
    have hW := below2 w (.cells #[.int .i64 c, .int .i64 q, .slice af nf cf, .slice ar nr cr] 24) (.cells #[.slice none 0 0, .slice none 0 0] 28)
    have hA := (B4.new w (.int .i64 c) (.int .i64 q) (.slice af nf cf) (.slice ar nr cr) 24).below (below1 _ (.cells #[.slice none 0 0, .slice none 0 0] 28))
    have hB := B2.new2 w (.cells #[.int .i64 c, .int .i64 q, .slice af nf cf, .slice ar nr cr] 24) (.slice none 0 0) (.slice none 0 0) 28
    have hr := vright_any c q af nf cf F ar nr cr R _ (h.below hW)
    rw [hR] at hr
    have HF := hid (fun w' hb => rb_bad (c := c) (q := q) (F := F) (R := R) (V := bv xs) (T := 8 * L) (w := w) (w' := w') 1 (if_neg (by rw [hR]; decide)) (by decide) hb)
    clear h hR hn hv hx hl
    generalize bv xs = V at *
    obtain ⟨ez, e0, e1, e2, e3, f0, f1, f2, f3⟩ := id hA
    go_enter Try.func18, Try.ntmps18
    go_wp2_with (go_at_call 22; refine hr.mono ?_; rintro e y1 ⟨rfl, hy1⟩; have hB1 := hB.below hy1; obtain ⟨bz, b0, b1, g0, g1⟩ := id hB1)
    obtain ⟨zz, r0, r1, t0, t1⟩ := (hB1.set (.slice none 0 0) (.slice none 0 0))
    refine bodyPost_ret (v := .tuple #[.agg #[.slice none 0 0, .slice none 0 0], .int .i64 1]) (by simp [results, Try.results18, go_sem, r0, r1, t0, t1]) rfl (HF.out _ (bset2' (bthen' hW hy1) (w.heap.size + 1) _ _ (by omega)))
end Go.Proofs.Ytolfnjlkcppplaa
/- What a body that was written is read as; the examples' numbers; literals in memory. -/
namespace Go.Proofs.Ytolfnjlkcppplaa
open Go.RowKit
set_option linter.unusedVariables false
set_option linter.unusedSimpArgs false
set_option maxRecDepth 10000

theorem wb_ok {c q : Int} {F R : List Int} {P Z : List (List Int)} (h : boB c q F R P Z = true) : wbE c q F R P Z = 0 ∧ wbX c q F R P Z = boX F R P Z := ⟨if_pos h, if_pos h⟩
theorem wb_no {c q : Int} {F R : List Int} {P Z : List (List Int)} (h : boB c q F R P Z = false) : wbE c q F R P Z = 1 ∧ wbX c q F R P Z = [] := by
  unfold wbE wbX; rw [h]; exact ⟨rfl, rfl⟩
/-- A right body, written, is read as it was. -/
theorem rb_back {c q : Int} {F R : List Int} {P Z : List (List Int)} (h : boB c q F R P Z = true) :
    rbE c q F R (bv (boX F R P Z)) (8 * (boX F R P Z).length) = 0 ∧ rbP c q F R (bv (boX F R P Z)) (8 * (boX F R P Z).length) = P ∧ rbZ c q F R (bv (boX F R P Z)) (8 * (boX F R P Z).length) = Z := by
  obtain ⟨hR, hc, hb⟩ := bo_iff.1 h
  obtain ⟨h1, h2, h3⟩ := bo_back (bk_of hR) hb
  have hn : c.toNat = P.length := by omega
  have hE : rbE c q F R (bv (boX F R P Z)) (8 * (boX F R P Z).length) = 0 := by unfold rbE; rw [if_pos hR, hn]; exact h3
  refine ⟨hE, ?_, ?_⟩
  · unfold rbP; rw [if_pos hE, hn, h1]
  · unfold rbZ; rw [if_pos hE, hn, h2]
/-- What is read without an error is a right body, and not shorter than what it is written as. -/
theorem rb_right {c q : Int} {F R : List Int} {V L : Nat} (h : rbE c q F R V (8 * L) = 0) : boB c q F R (rbP c q F R V (8 * L)) (rbZ c q F R V (8 * L)) = true ∧ (boX F R (rbP c q F R V (8 * L)) (rbZ c q F R V (8 * L))).length ≤ L := by
  have hR : vhRight c q F R = true := by
    cases hb : vhRight c q F R with
    | true => rfl
    | false => unfold rbE at h; rw [hb] at h; simp at h
  have hk := bk_of hR
  have hc := vhRight_parts hR
  have hE : tkE F R V (8 * L) c.toNat = 0 := by unfold rbE at h; rw [if_pos hR] at h; exact h
  obtain ⟨p, P, e, h1⟩ : ∃ p P e, tkP F V (8 * L) c.toNat = (p, P, e) := ⟨_, _, _, rfl⟩
  obtain ⟨q2, Z, e2, h2⟩ : ∃ q2 Z e2, tkZ F R V (8 * L) c.toNat = (q2, Z, e2) := ⟨_, _, _, rfl⟩
  have hp : rbP c q F R V (8 * L) = P := by unfold rbP; rw [if_pos h, h1]
  have hz : rbZ c q F R V (8 * L) = Z := by unfold rbZ; rw [if_pos h, h2]
  unfold tkE at hE
  rw [h1, h2] at hE
  dsimp only at hE
  have e0 : e = 0 := by
    by_cases k : e = 0
    · exact k
    · rw [if_pos k] at hE; exact hE
  subst e0
  rw [if_neg (by simp)] at hE
  have e20 : e2 = 0 := by
    by_cases k : e2 = 0
    · exact k
    · rw [if_pos k] at hE; exact hE
  subst e20
  obtain ⟨hb, hq, hl⟩ := tk_any hk h1 h2
  rw [hp, hz]
  have hlp := hb.lp
  refine ⟨bo_iff.2 ⟨hR, by omega, by rw [hlp]; exact hb⟩, ?_⟩
  rw [boX_len]
  omega
/-- A right body's rows are short. -/
theorem bo_sizes {c q : Int} {F R : List Int} {P Z : List (List Int)} (h : boB c q F R P Z = true) : P.length ≤ 2 ∧ Z.length ≤ 2 ∧ (∀ i, (P.getD i []).length ≤ 100) ∧ ∀ i, (Z.getD i []).length ≤ 100 := by
  obtain ⟨hR, hc, hb⟩ := bo_iff.1 h
  have h2 := vhRight_parts hR
  have hz := hb.lz
  refine ⟨by omega, by omega, fun i => ?_, fun i => ?_⟩
  · by_cases e : i < P.length
    · rcases hb.ch i e with ⟨h1, _⟩ | ⟨h1, _⟩
      · omega
      · have := (flOk_parts h1).1; omega
    · rw [List.getD_eq_getElem?_getD, List.getElem?_eq_none (by omega)]; simp
  · by_cases e : i < P.length
    · rcases hb.ch i e with ⟨_, h1⟩ | ⟨_, _, h1, _⟩ <;> omega
    · rw [List.getD_eq_getElem?_getD, List.getElem?_eq_none (by omega)]; simp
theorem rb_sizes (c q : Int) (F R : List Int) (V L : Nat) : (rbP c q F R V (8 * L)).length ≤ 2 ∧ (rbZ c q F R V (8 * L)).length ≤ 2 ∧ (∀ i, ((rbP c q F R V (8 * L)).getD i []).length ≤ 100) ∧ ∀ i, ((rbZ c q F R V (8 * L)).getD i []).length ≤ 100 := by
  by_cases h : rbE c q F R V (8 * L) = 0
  · exact bo_sizes (rb_right h).1
  · have e1 : rbP c q F R V (8 * L) = [] := if_neg h
    have e2 : rbZ c q F R V (8 * L) = [] := if_neg h
    rw [e1, e2]
    exact ⟨by simp, by simp, fun i => by simp, fun i => by simp⟩
/-- A right body is written in 1 to 400 bytes. -/
theorem bo_short {c q : Int} {F R : List Int} {P Z : List (List Int)} (h : boB c q F R P Z = true) : 1 ≤ (boX F R P Z).length ∧ (boX F R P Z).length ≤ 400 := by
  obtain ⟨hR, hc, hb⟩ := bo_iff.1 h
  have h2 := vhRight_parts hR
  obtain ⟨h1, h3⟩ := bo_len (bk_of hR) hb
  have h3 := h3 (by omega)
  rw [boX_len]
  omega
theorem rb_no {c q : Int} {F R : List Int} {V T : Nat} (h : rbE c q F R V T ≠ 0) : rbP c q F R V T = [] ∧ rbZ c q F R V T = [] := ⟨if_neg h, if_neg h⟩
theorem rw_slice {k : IntKind} {w : World} {base : Nat} {v : Value} {xs : List Int} (h : RwF base k w v xs) : ∃ a cap, v = .slice a xs.length cap := by
  obtain ⟨a, cap, e, _⟩ := h; exact ⟨a, cap, e⟩
theorem copied {w : World} {base n : Nat} {e : TypeId} {v : Value} {B : List Int} (h : w.ownsRow base e 1 v n (B.map (Value.int .u8))) : ∃ a c, v = .slice a n c ∧ Rw .u8 w (.slice a n c) B := by
  have hr := Rw.of_owns h
  obtain ⟨a, c, rfl, _⟩ := owns_open h
  exact ⟨a, c, rfl, hr⟩
/-- A body's box that stood ahead of the call whose answer is put into it. -/
theorem box_put {w y : World} {b : Nat} {z0 z1 v1 v2 : Value} {P Z : List (List Int)} (hz : B2 w b z0 z1) (hb : Below w.heap.size w y) (h1 : Gp (fun b => w.heap.size ≤ b) y v1 P) (h2 : Gp (fun b => w.heap.size ≤ b) y v2 Z) :
    B2 y b z0 z1 ∧ B2 ((y.setCell ⟨b, 0, none⟩ v1).setCell ⟨b, 1, none⟩ v2) b v1 v2 ∧ Fr false ((y.setCell ⟨b, 0, none⟩ v1).setCell ⟨b, 1, none⟩ v2) v1 P ∧ Fr false ((y.setCell ⟨b, 0, none⟩ v1).setCell ⟨b, 1, none⟩ v2) v2 Z := by
  have h := hz.z
  exact ⟨hz.below hb, (hz.below hb).set _ _, Gp.fr (gpz_off (gpz_off h1 b 0 v1 (by omega)) b 1 v2 (by omega)), Gp.fr (gpz_off (gpz_off h2 b 0 v1 (by omega)) b 1 v2 (by omega))⟩
theorem own_empty1 {w : World} {base : Nat} {e : TypeId} (o : Obj) (h : base ≤ w.heap.size) : ((w.alloc o).alloc (.cells #[] e)).ownsRow base e 1 (.slice (some ⟨w.heap.size + 1, 0, none⟩) 0 0) 0 [] := by
  have h1 := own_empty (w := w.alloc o) (base := base) (e := e) (by simp; omega)
  rw [show (w.alloc o).heap.size = w.heap.size + 1 by simp] at h1
  exact h1
/-! ### The examples -/
def zP : List (List Int) := [[0, 0, 0, 0, 0, 0]]
def zZ : List (List Int) := [List.replicate 16 0]
theorem z_bo : boB 1 0 plF plR zP zZ = true := by decide
theorem n_bo : boB 1 0 plF plR [[]] [[]] = true := by decide
theorem n_x : boX plF plR [[]] [[]] = [0] := by decide
theorem z_len : (boX plF plR zP zZ).length = 12 := by decide
/-! ### Literals in memory -/
theorem lit_fr {ok : Bool} {w : World} {b : Nat} {r : Value} {xs : List Int} (hc : w.cell? ⟨b, 0, none⟩ = some r) (hb : b < w.heap.size) (h : Rx ok none w r xs) (k : Nat) : Fr ok w (.slice (some ⟨b, 0, none⟩) 1 k) [xs] :=
  ⟨_, k, rfl, .inr ⟨b, 0, rfl, hb, fun i hi => by
    have hi : i = 0 := by simpa using hi
    subst hi
    exact ⟨r, hc, h⟩⟩⟩
theorem rx_nil {ok : Bool} (w : World) : Rx ok none w (.slice none 0 0) [] := ⟨none, 0, rfl, fun _ => Nat.le_refl _, .inl rfl⟩
end Go.Proofs.Ytolfnjlkcppplaa
/- Contract: the examples at the end of all statements, walked. -/
namespace Go.Proofs.Ytolfnjlkcppplaa
open Go.RowKit
set_option linter.unusedVariables false
set_option linter.unusedSimpArgs false
set_option maxRecDepth 10000

theorem pl_bks {w : World} {g1 g2 : Nat} (h1 : Rw .i64 w (.slice (some ⟨g1, 0, none⟩) 45 45) plF) (h2 : Rw .i64 w (.slice (some ⟨g2, 0, none⟩) 16 16) plR) : Bks w (some ⟨g1, 0, none⟩) 45 45 plF (some ⟨g2, 0, none⟩) 16 16 plR :=
  ⟨tab_len _ _, h1, tab_len _ _, h2⟩
theorem bo_small {w : World} {ap : Option Addr} {np kp : Nat} {P : List (List Int)} {az : Option Addr} {nz kz : Nat} {Z : List (List Int)} (lp : P.length = np) (vp : Fr false w (.slice ap np kp) P) (lz : Z.length = nz) (vz : Fr false w (.slice az nz kz) Z) (mp : ∀ i, (P.getD i []).length ≤ 100) (mz : ∀ i, (Z.getD i []).length ≤ 100) : BoAt w ap np kp P az nz kz Z :=
  ⟨lp, vp, lz, vz, fun i => Nat.le_trans (mp i) (by omega), fun i => Nat.le_trans (mz i) (by omega)⟩
theorem one_le {xs : List Int} (h : xs.length ≤ 100) (i : Nat) : (([xs] : List (List Int)).getD i []).length ≤ 100 := by
  cases i with
  | zero => exact h
  | succ i => simp
theorem rows_le {P : List (List Int)} {k m : Nat} (h : ∀ i, i < P.length → (P.getD i []).length ≤ k) (hk : k ≤ m) (i : Nat) : (P.getD i []).length ≤ m := by
  by_cases e : i < P.length
  · exact Nat.le_trans (h i e) hk
  · rw [List.getD_eq_getElem?_getD, List.getElem?_eq_none (by omega)]; simp
theorem lit_n (w : World) (t1 t2 : TypeId) : BoAt ((w.alloc (.cells #[.slice none 0 0] t1)).alloc (.cells #[.slice none 0 0] t2)) (some ⟨w.heap.size, 0, none⟩) 1 1 [[]] (some ⟨w.heap.size + 1, 0, none⟩) 1 1 [[]] := by
  refine bo_small rfl (lit_fr (by simp [go_sem]) (by simp; omega) (rx_nil _) 1) rfl (lit_fr (by simp [go_sem]) (by simp) (rx_nil _) 1) (one_le (by simp)) (one_le (by simp))
theorem rx_weak {G : Option Nat} {w : World} {v : Value} {xs : List Int} (h : Rx true G w v xs) : Rx false G w v xs := by
  obtain ⟨a, c, hv, _, h⟩ := h
  exact ⟨a, c, hv, (fun e => by cases e), h⟩
theorem lit_z {W : World} {b1 b2 b3 b4 : Nat} {t1 t2 t3 t4 : TypeId} (h1 : W.heap[b1]? = some (.cells #[.int .i64 0, .int .i64 0, .int .i64 0, .int .i64 0, .int .i64 0, .int .i64 0] t1 (0, 0))) (h2 : W.heap[b2]? = some (.cells #[.slice (some ⟨b1, 0, none⟩) 6 6] t2 (0, 0))) (h3 : W.heap[b3]? = some (.cells (Array.replicate 16 (.int .i64 0)) t3 (0, 0))) (h4 : W.heap[b4]? = some (.cells #[.slice (some ⟨b3, 0, none⟩) 16 16] t4 (0, 0))) :
    BoAt W (some ⟨b2, 0, none⟩) 1 1 zP (some ⟨b4, 0, none⟩) 1 1 zZ := by
  have e1 : Blk .i64 t1 W b1 [0, 0, 0, 0, 0, 0] := h1
  have e3 : Blk .i64 t3 W b3 (List.replicate 16 0) := h3
  refine bo_small rfl (lit_fr (by simp [World.cell?, h2]) (block_in h2) (rx_weak (Rx.of_blk e1 (n := 6) (c := 6) rfl (by decide) (fun e => by cases e))) 1) rfl (lit_fr (by simp [World.cell?, h4]) (block_in h4) (rx_weak (Rx.of_blk e3 (n := 16) (c := 16) rfl (by decide) (fun e => by cases e))) 1) (one_le (by decide)) (one_le (by decide))
theorem heap4 (w : World) (o1 o2 o3 o4 : Obj) : ((((w.alloc o1).alloc o2).alloc o3).alloc o4).drew.heap[w.heap.size]? = some o1 ∧ ((((w.alloc o1).alloc o2).alloc o3).alloc o4).drew.heap[w.heap.size + 1]? = some o2 ∧ ((((w.alloc o1).alloc o2).alloc o3).alloc o4).drew.heap[w.heap.size + 1 + 1]? = some o3 ∧ ((((w.alloc o1).alloc o2).alloc o3).alloc o4).drew.heap[w.heap.size + 1 + 1 + 1]? = some o4 := by
  show ((((w.heap.push o1).push o2).push o3).push o4)[w.heap.size]? = some o1 ∧ ((((w.heap.push o1).push o2).push o3).push o4)[w.heap.size + 1]? = some o2 ∧ ((((w.heap.push o1).push o2).push o3).push o4)[w.heap.size + 1 + 1]? = some o3 ∧ ((((w.heap.push o1).push o2).push o3).push o4)[w.heap.size + 1 + 1 + 1]? = some o4
  refine ⟨?_, ?_, ?_, ?_⟩
  · rw [Array.getElem?_push, if_neg (by simp only [Array.size_push]; omega), Array.getElem?_push, if_neg (by simp only [Array.size_push]; omega), Array.getElem?_push, if_neg (by simp only [Array.size_push]; omega), Array.getElem?_push, if_pos rfl]
  · rw [Array.getElem?_push, if_neg (by simp only [Array.size_push]; omega), Array.getElem?_push, if_neg (by simp only [Array.size_push]; omega), Array.getElem?_push, if_pos (by simp only [Array.size_push])]
  · rw [Array.getElem?_push, if_neg (by simp only [Array.size_push]; omega), Array.getElem?_push, if_pos (by simp only [Array.size_push])]
  · rw [Array.getElem?_push, if_pos (by simp only [Array.size_push])]
theorem lit_o1 (w : World) (t1 t2 t3 t4 : TypeId) : BoAt (((((w.alloc (.cells #[.int .i64 0, .int .i64 0, .int .i64 0, .int .i64 0, .int .i64 0, .int .i64 0] t1)).alloc (.cells #[.slice (some ⟨w.heap.size, 0, none⟩) 6 6] t2)).alloc (.cells (Array.replicate 16 (.int .i64 0)) t3)).alloc (.cells #[.slice (some ⟨w.heap.size + 1 + 1, 0, none⟩) 16 16] t4)).drew) (some ⟨w.heap.size + 1, 0, none⟩) 1 1 zP (some ⟨w.heap.size + 1 + 1 + 1, 0, none⟩) 1 1 zZ :=
  lit_z (b1 := w.heap.size) (b3 := w.heap.size + 1 + 1) (t1 := t1) (t2 := t2) (t3 := t3) (t4 := t4) (heap4 w _ _ _ _).1 (heap4 w _ _ _ _).2.1 (heap4 w _ _ _ _).2.2.1 (heap4 w _ _ _ _).2.2.2
theorem lit_o2 (w : World) (t1 t2 t3 t4 : TypeId) : BoAt (((((w.alloc (.cells #[.int .i64 0, .int .i64 0, .int .i64 0, .int .i64 0, .int .i64 0, .int .i64 0] t1)).alloc (.cells (Array.replicate 16 (.int .i64 0)) t3)).alloc (.cells #[.slice (some ⟨w.heap.size, 0, none⟩) 6 6] t2)).alloc (.cells #[.slice (some ⟨w.heap.size + 1, 0, none⟩) 16 16] t4)).drew) (some ⟨w.heap.size + 1 + 1, 0, none⟩) 1 1 zP (some ⟨w.heap.size + 1 + 1 + 1, 0, none⟩) 1 1 zZ :=
  lit_z (b1 := w.heap.size) (b3 := w.heap.size + 1) (t1 := t1) (t2 := t2) (t3 := t3) (t4 := t4) (heap4 w _ _ _ _).1 (heap4 w _ _ _ _).2.2.1 (heap4 w _ _ _ _).2.1 (heap4 w _ _ _ _).2.2.2
theorem lit_o3 (w : World) (t1 t2 t3 t4 : TypeId) : BoAt (((((w.alloc (.cells #[.int .i64 0, .int .i64 0, .int .i64 0, .int .i64 0, .int .i64 0, .int .i64 0] t1)).alloc (.cells (Array.replicate 16 (.int .i64 0)) t3)).alloc (.cells #[.slice (some ⟨w.heap.size + 1, 0, none⟩) 16 16] t4)).alloc (.cells #[.slice (some ⟨w.heap.size, 0, none⟩) 6 6] t2)).drew) (some ⟨w.heap.size + 1 + 1 + 1, 0, none⟩) 1 1 zP (some ⟨w.heap.size + 1 + 1, 0, none⟩) 1 1 zZ :=
  lit_z (b1 := w.heap.size) (b3 := w.heap.size + 1) (t1 := t1) (t2 := t2) (t3 := t3) (t4 := t4) (heap4 w _ _ _ _).1 (heap4 w _ _ _ _).2.2.2 (heap4 w _ _ _ _).2.1 (heap4 w _ _ _ _).2.2.1
theorem lit_o4 (w : World) (t1 t2 t3 t4 : TypeId) : BoAt (((((w.alloc (.cells (Array.replicate 16 (.int .i64 0)) t3)).alloc (.cells #[.int .i64 0, .int .i64 0, .int .i64 0, .int .i64 0, .int .i64 0, .int .i64 0] t1)).alloc (.cells #[.slice (some ⟨w.heap.size + 1, 0, none⟩) 6 6] t2)).alloc (.cells #[.slice (some ⟨w.heap.size, 0, none⟩) 16 16] t4)).drew) (some ⟨w.heap.size + 1 + 1, 0, none⟩) 1 1 zP (some ⟨w.heap.size + 1 + 1 + 1, 0, none⟩) 1 1 zZ :=
  lit_z (b1 := w.heap.size + 1) (b3 := w.heap.size) (t1 := t1) (t2 := t2) (t3 := t3) (t4 := t4) (heap4 w _ _ _ _).2.1 (heap4 w _ _ _ _).2.2.1 (heap4 w _ _ _ _).1 (heap4 w _ _ _ _).2.2.2
theorem lit_o5 (w : World) (t1 t2 t3 t4 : TypeId) : BoAt (((((w.alloc (.cells (Array.replicate 16 (.int .i64 0)) t3)).alloc (.cells #[.int .i64 0, .int .i64 0, .int .i64 0, .int .i64 0, .int .i64 0, .int .i64 0] t1)).alloc (.cells #[.slice (some ⟨w.heap.size, 0, none⟩) 16 16] t4)).alloc (.cells #[.slice (some ⟨w.heap.size + 1, 0, none⟩) 6 6] t2)).drew) (some ⟨w.heap.size + 1 + 1 + 1, 0, none⟩) 1 1 zP (some ⟨w.heap.size + 1 + 1, 0, none⟩) 1 1 zZ :=
  lit_z (b1 := w.heap.size + 1) (b3 := w.heap.size) (t1 := t1) (t2 := t2) (t3 := t3) (t4 := t4) (heap4 w _ _ _ _).2.1 (heap4 w _ _ _ _).2.2.2 (heap4 w _ _ _ _).1 (heap4 w _ _ _ _).2.2.1
theorem lit_o6 (w : World) (t1 t2 t3 t4 : TypeId) : BoAt (((((w.alloc (.cells (Array.replicate 16 (.int .i64 0)) t3)).alloc (.cells #[.slice (some ⟨w.heap.size, 0, none⟩) 16 16] t4)).alloc (.cells #[.int .i64 0, .int .i64 0, .int .i64 0, .int .i64 0, .int .i64 0, .int .i64 0] t1)).alloc (.cells #[.slice (some ⟨w.heap.size + 1 + 1, 0, none⟩) 6 6] t2)).drew) (some ⟨w.heap.size + 1 + 1 + 1, 0, none⟩) 1 1 zP (some ⟨w.heap.size + 1, 0, none⟩) 1 1 zZ :=
  lit_z (b1 := w.heap.size + 1 + 1) (b3 := w.heap.size) (t1 := t1) (t2 := t2) (t3 := t3) (t4 := t4) (heap4 w _ _ _ _).2.2.1 (heap4 w _ _ _ _).2.2.2 (heap4 w _ _ _ _).1 (heap4 w _ _ _ _).2.1
theorem below4d (w : World) (o1 o2 o3 o4 : Obj) : Below w.heap.size w (((((w.alloc o1).alloc o2).alloc o3).alloc o4).drew) := (bthen' (below3 w o1 o2 o3) (below1 _ o4)).drew
theorem k_write0 (af ar : Option Addr) (ap az : Option Addr) (w : World) (h : Bks w af 45 45 plF ar 16 16 plR) (hb : BoAt w ap 1 1 [[]] az 1 1 [[]]) :
    Calls Try.prog 15 #[.agg #[.int .i64 1, .int .i64 0, .slice af 45 45, .slice ar 16 16], .agg #[.slice ap 1 1, .slice az 1 1]] w fun e w' => ∃ a c, e = .returned (.tuple #[.slice a 1 c, .int .i64 0]) ∧ Rw .u8 w' (.slice a 1 c) [0] ∧ Below w.heap.size w w' := by
  have h1 := bwrite_any 1 0 af 45 45 plF ar 16 16 plR ap 1 1 [[]] az 1 1 [[]] w h hb (one_le (by simp)) (one_le (by simp))
  rw [(wb_ok n_bo).1, (wb_ok n_bo).2, n_x] at h1
  refine h1.mono ?_
  rintro e w' ⟨v, rfl, hv, hbl⟩
  obtain ⟨a, c, rfl, _⟩ := id hv
  exact ⟨a, c, rfl, hv.rw, hbl⟩
theorem k_write1 (af ar : Option Addr) (ap az : Option Addr) (w : World) (h : Bks w af 45 45 plF ar 16 16 plR) (hb : BoAt w ap 1 1 zP az 1 1 zZ) :
    Calls Try.prog 15 #[.agg #[.int .i64 1, .int .i64 0, .slice af 45 45, .slice ar 16 16], .agg #[.slice ap 1 1, .slice az 1 1]] w fun e w' => ∃ a c, e = .returned (.tuple #[.slice a 12 c, .int .i64 0]) ∧ Rw .u8 w' (.slice a 12 c) (boX plF plR zP zZ) ∧ Below w.heap.size w w' := by
  have h1 := bwrite_any 1 0 af 45 45 plF ar 16 16 plR ap 1 1 zP az 1 1 zZ w h hb (one_le (by simp)) (one_le (by simp))
  rw [(wb_ok z_bo).1, (wb_ok z_bo).2] at h1
  refine h1.mono ?_
  rintro e w' ⟨v, rfl, hv, hbl⟩
  obtain ⟨a, c, rfl, _⟩ := id hv
  rw [z_len] at hv ⊢
  exact ⟨a, c, rfl, hv.rw, hbl⟩
theorem k_read (af ar a : Option Addr) (c : Nat) (w : World) (h : Bks w af 45 45 plF ar 16 16 plR) (hv : Rw .u8 w (.slice a 12 c) (boX plF plR zP zZ)) :
    Calls Try.prog 18 #[.agg #[.int .i64 1, .int .i64 0, .slice af 45 45, .slice ar 16 16], .slice a 12 c] w fun e w' => ∃ b1 o1 c1 b2 o2 c2 v1 d1 v2 d2, e = .returned (.tuple #[.agg #[.slice (some ⟨b1, o1, none⟩) 1 c1, .slice (some ⟨b2, o2, none⟩) 1 c2], .int .i64 0]) ∧ BoAt w' (some ⟨b1, o1, none⟩) 1 c1 zP (some ⟨b2, o2, none⟩) 1 c2 zZ ∧ w'.cell? ⟨b1, o1, none⟩ = some (.slice v1 6 d1) ∧ w'.cell? ⟨b2, o2, none⟩ = some (.slice v2 16 d2) ∧ b1 < w'.heap.size ∧ b2 < w'.heap.size ∧ Below w.heap.size w w' := by
  have h1 := bread_any 1 0 af 45 45 plF ar 16 16 plR a 12 c (boX plF plR zP zZ) w h z_len hv (byL_byts _ _) (by decide)
  obtain ⟨k1, k2, k3⟩ := rb_back z_bo
  rw [z_len] at k1 k2 k3
  unfold RbPost at h1
  rw [k1, k2, k3] at h1
  refine h1.mono ?_
  rintro e w' ⟨a1, c1, a2, c2, rfl, hp, hz, hbl⟩
  obtain ⟨b1, o1, r1, rfl, hb1, hc1, hr1⟩ := Lp.at hp 0 (by decide)
  obtain ⟨b2, o2, r2, rfl, hb2, hc2, hr2⟩ := Lp.at hz 0 (by decide)
  obtain ⟨v1, d1, rfl, _⟩ := hr1
  obtain ⟨v2, d2, rfl, _⟩ := hr2
  exact ⟨b1, o1, c1, b2, o2, c2, v1, d1, v2, d2, rfl, bo_small rfl (Gp.fr hp) rfl (Gp.fr hz) (one_le (by decide)) (one_le (by decide)), hc1, hc2, hb1, hb2, hbl⟩
set_option maxHeartbeats 8000000 in
theorem knows_any (w : World) : Calls Try.prog 10 #[] w fun e w' => e = .returned (.bool true) ∧ Below w.heap.size w w' := by
  have p1 := fun w => plain_any 1 0 w
  have hmk : ∀ w, (Instr.makeSlice 48 (.int .i64 16) (.int .i64 16)).run Try.prog w = .ok (.slice (some ⟨w.heap.size, 0, none⟩) 16 16) (w.alloc (.cells (Array.replicate 16 (.int .i64 0)) 2)) := fun _ => by kernel_rfl
  go_enter Try.func10, Try.ntmps10
  go_upto_region 2 with (go_at_call 21; refine (p1 _).mono ?_; rintro e y1 ⟨g1, g2, rfl, hf1, hr1, _, _, hy1⟩)
  have hB := B4.new y1 (.int .i64 1) (.int .i64 0) (.slice (some ⟨g1, 0, none⟩) 45 45) (.slice (some ⟨g2, 0, none⟩) 16 16) 24
  have hk := (pl_bks hf1 hr1).below (below1 y1 (.cells #[.int .i64 1, .int .i64 0, .slice (some ⟨g1, 0, none⟩) 45 45, .slice (some ⟨g2, 0, none⟩) 16 16] 24))
  have hb1 := hy1.alloc hy1.size (.cells #[.int .i64 1, .int .i64 0, .slice (some ⟨g1, 0, none⟩) 45 45, .slice (some ⟨g2, 0, none⟩) 16 16] 24)
  generalize y1.alloc (.cells #[.int .i64 1, .int .i64 0, .slice (some ⟨g1, 0, none⟩) 45 45, .slice (some ⟨g2, 0, none⟩) 16 16] 24) = W1 at *
  generalize y1.heap.size = s1 at *
  have hbl := below2 W1 (.cells #[.slice none 0 0] 22) (.cells #[.slice none 0 0] 48)
  have hw0 := k_write0 _ _ _ _ _ (hk.below hbl) (lit_n W1 22 48)
  obtain ⟨bz, e0, e1, e2, e3, f0, f1, f2, f3⟩ := id hB
  go_upto_region 3 with (go_at_call 15; refine hw0.mono ?_; rintro e y3 ⟨xa, xc, rfl, hx, hy3⟩)
  have hB3 := (hB.below hbl).below hy3
  have hk3 := (hk.below hbl).below hy3
  have hb3 := bthen' hb1 (bthen' hbl hy3)
  clear hB hk hbl hw0 e0 e1 e2 e3 f0 f1 f2 f3 bz
  obtain ⟨bz, e0, e1, e2, e3, f0, f1, f2, f3⟩ := id hB3
  have hw1 := fun o1 o2 o3 o4 ap az hb => Calls.mono (k_write1 (some ⟨g1, 0, none⟩) (some ⟨g2, 0, none⟩) ap az _ (hk3.below (below4d y3 o1 o2 o3 o4)) hb) (fun e w' h => (by obtain ⟨a, c, h1, h2, h3⟩ := h; exact ⟨a, c, h1, h2, bthen' (below4d y3 o1 o2 o3 o4) h3⟩ : ∃ a c, e = .returned (.tuple #[.slice a 12 c, .int .i64 0]) ∧ Rw .u8 w' (.slice a 12 c) (boX plF plR zP zZ) ∧ Below y3.heap.size y3 w'))
  have hK : ∀ w', Below y3.heap.size y3 w' → w'.cell? ⟨s1, 0, none⟩ = some (.int .i64 1) ∧ w'.cell? ⟨s1, 1, none⟩ = some (.int .i64 0) ∧ w'.cell? ⟨s1, 2, none⟩ = some (.slice (some ⟨g1, 0, none⟩) 45 45) ∧ w'.cell? ⟨s1, 3, none⟩ = some (.slice (some ⟨g2, 0, none⟩) 16 16) := fun w' h => ⟨(hB3.below h).c0, (hB3.below h).c1, (hB3.below h).c2, (hB3.below h).c3⟩
  go_cut [4, 5] from 17 to 26 (fun s4 s5 wx => s5 = .int .i64 0 ∧ ∃ a c, s4 = .slice a 12 c ∧ Rw .u8 wx (.slice a 12 c) (boX plF plR zP zZ) ∧ Below y3.heap.size y3 wx)
  case first =>
    go_region_held3 (fun w' => w'.cell? ⟨s1, 0, none⟩ = some (.int .i64 1) ∧ w'.cell? ⟨s1, 1, none⟩ = some (.int .i64 0) ∧ w'.cell? ⟨s1, 2, none⟩ = some (.slice (some ⟨g1, 0, none⟩) 45 45) ∧ w'.cell? ⟨s1, 3, none⟩ = some (.slice (some ⟨g2, 0, none⟩) 16 16)) (exact hK _ (by first | exact (Below.refl _ _).drew | exact Below.refl _ _ | exact (below1 _ _).drew | exact (below2 _ _ _).drew | exact (below3 _ _ _ _).drew | exact below4d _ _ _ _ _ | exact hy4)) (first | (go_at_call 15; refine (hw1 _ _ _ _ _ _ (by first | exact lit_o1 _ _ _ _ _ | exact lit_o2 _ _ _ _ _ | exact lit_o3 _ _ _ _ _ | exact lit_o4 _ _ _ _ _ | exact lit_o5 _ _ _ _ _ | exact lit_o6 _ _ _ _ _)).mono ?_; rintro e y4 ⟨a4, c4, rfl, hx4, hy4⟩))
    all_goals (go_wp2_with fail; go_meet; exact ⟨rfl, a4, c4, rfl, hx4, hy4⟩)
  case rest =>
    obtain ⟨rfl, a4, c4, rfl, hx4, hy4⟩ := hcut
    have hB4 := hB3.below hy4
    have hk4 := hk3.below hy4
    have hb4 := bthen' hb3 hy4
    have hxw := hx.below hy4
    have hrd := k_read _ _ a4 c4 wc hk4 hx4
    clear hw1 bz e0 e1 e2 e3 f0 f1 f2 f3 hB3 hk3 hb3 hx hmk hK
    obtain ⟨bz, e0, e1, e2, e3, f0, f1, f2, f3⟩ := id hB4
    go_upto_region 5 with (go_at_call 18; refine hrd.mono ?_; rintro e y5 ⟨b1, o1, c1, b2, o2, c2, v1, d1, v2, d2, rfl, hbo, hc1, hc2, hl1, hl2, hy5⟩)
    have hbl := below1 y5 (.cells #[.slice (some ⟨b1, o1, none⟩) 1 c1, .slice (some ⟨b2, o2, none⟩) 1 c2] 28)
    have hQ := B2.new y5 (.slice (some ⟨b1, o1, none⟩) 1 c1) (.slice (some ⟨b2, o2, none⟩) 1 c2) 28
    have hB5 := (hB4.below hy5).below hbl
    have hk5 := (hk4.below hy5).below hbl
    have hb5 := bthen' hb4 (bthen' hy5 hbl)
    have hxw5 := (hxw.below hy5).below hbl
    have hbo5 := hbo.below hbl
    have hc1' := ((bcell hbl).1 _ _ hl1).trans hc1
    have hc2' := ((bcell hbl).1 _ _ hl2).trans hc2
    generalize y5.alloc (.cells #[.slice (some ⟨b1, o1, none⟩) 1 c1, .slice (some ⟨b2, o2, none⟩) 1 c2] 28) = W5 at *
    generalize y5.heap.size = s5 at *
    clear hrd hxw hB4 hk4 bz e0 e1 e2 e3 f0 f1 f2 f3 hbo hc1 hc2 hx4
    have hconv : (convert 36 9 (.slice xa 1 xc)).run Try.prog W5 = .ok (.string ⟨#[0]⟩) W5 := conv_rw hxw5 36 9 5 (by kernel_rfl) (by kernel_rfl) (by kernel_rfl)
    obtain ⟨bz, e0, e1, e2, e3, f0, f1, f2, f3⟩ := id hB5
    obtain ⟨qz, q0, q1, r0, r1⟩ := id hQ
    have hri := bright_any 1 0 _ 45 45 plF _ 16 16 plR _ 1 c1 zP _ 1 c2 zZ W5 hk5 hbo5 (one_le (by decide)) (one_le (by decide))
    rw [z_bo] at hri
    go_wp2_with (go_at_call 11; refine hri.mono ?_; rintro e y6 ⟨rfl, hy6⟩)
    go_ret
    exact ⟨rfl, bthen' hb5 hy6⟩
end Go.Proofs.Ytolfnjlkcppplaa
