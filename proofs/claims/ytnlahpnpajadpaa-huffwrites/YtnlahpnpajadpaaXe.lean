/- The map of codes: its keys, what it tells; the contracts of slices.Max and symbolsByCode. -/
import Derived.Test.YtnlahpnpajadpaaXd
import Derived.Maps.OwnSet
import Derived.Maps.OwnOps
import Derived.DeepKeys4
namespace Go.Proofs.Ytnlahpnpajadpaa
open Go.RowKit Go.Maps
set_option linter.unusedVariables false
set_option linter.unusedSimpArgs false

theorem try_laid : laidOutB Try.prog = true := by kernel_rfl
theorem rowC : (66 : TypeId) < Try.prog.types.size := of_decide_eq_true (by kernel_rfl)
theorem cellsC : Try.prog.cellsOf 66 = 2 := by kernel_rfl
theorem cellsU : Try.prog.cellsOf 29 = 1 := by kernel_rfl
theorem cellsI : Try.prog.cellsOf 3 = 1 := by kernel_rfl
theorem deepC : Try.prog.keyType 66 = true := by kernel_rfl
theorem wideC : (match Try.prog.underlying 66 with | some (.array _ _) | some (.struct _) => true | _ => false) = true := by kernel_rfl
theorem lawC : Keyed Try.prog 66 := Keyed.of_law (deep_law_laid try_laid (m := 2) (by omega) rowC (by kernel_rfl) wideC)
/-- What a code reads as, as a key. -/
def kk (v n : Int) : Lit := .string (keyBytes [.int .u32 v, .int .i64 n])
theorem key_mk (v n : Int) (hv : (Lit.int .u32 v).wf = true) (hn : (Lit.int .i64 n).wf = true) : keyOf Try.prog 66 (.agg #[.int .u32 v, .int .i64 n]) = some (kk v n) := by
  obtain ⟨m, hm⟩ : ∃ m, Try.prog.types.size = m + 1 := ⟨Try.prog.types.size - 1, by have h : (66 : Nat) < Try.prog.types.size := rowC; omega⟩
  unfold keyOf
  simp only [Try.underlying66]
  rw [if_pos (by simp [deepC, Value.formed, Try.underlying66, cellsC]), hm]
  unfold Program.keyLits
  simp only [Try.underlying66, Value.cells]
  rw [if_pos (by rw [cellsC]; exact ⟨rfl, by simp⟩)]
  simp [cellsU, cellsI, Program.keyLits, Try.underlying29, Try.underlying3, hv, hn, kk]
theorem key_inj {v n v' n' : Int} (hv : (Lit.int .u32 v).wf = true) (hn : (Lit.int .i64 n).wf = true) (hv' : (Lit.int .u32 v').wf = true) (hn' : (Lit.int .i64 n').wf = true) (h : kk v n = kk v' n') : v = v' ∧ n = n' := by
  have h1 := key_mk v n hv hn
  have h2 := key_mk v' n' hv' hn'
  rw [h] at h1
  have := lawC.inj h1 h2
  simpa using this
theorem key_lit {v n : Int} (hv : (Lit.int .u32 v).wf = true) (hn : (Lit.int .i64 n).wf = true) : WideAt.IsKeyLit (kk v n) := lawC.key (key_mk v n hv hn)
theorem wf_u32 (n : Nat) (h : n < 4294967296) : (Lit.int .u32 (n : Int)).wf = true := by
  simp [Lit.wf, IntKind.min, IntKind.max, IntKind.bits, IntKind.signed]; omega
theorem wf_i64 (n : Nat) (h : n < 9223372036854775808) : (Lit.int .i64 (n : Int)).wf = true := by
  simp [Lit.wf, IntKind.min, IntKind.max, IntKind.bits, IntKind.signed]; omega

/-- The map tells the symbols below k by their codes. -/
structure Tells (l : List Int) (k : Nat) (D : DataW Unit) : Prop where
  isMap : IsMap D
  has_ : ∀ v n : Nat, v < 4294967296 → n ≤ 64 → (Maps.has D (kk v n) = true ↔ ∃ s, s < k ∧ 0 < l.getD s 0 ∧ l.getD s 0 = n ∧ cd l s = v)
  at_ : ∀ s, s < k → 0 < l.getD s 0 → D.atKey (kk (cd l s : Int) (l.getD s 0)) (.lit (.int .i64 0)) = .lit (.int .i64 (s : Int))
theorem Tells.start (l : List Int) : Tells l 0 (.map []) :=
  ⟨isMap_empty, fun v n _ _ => by simp [Maps.has], fun s h => by omega⟩
theorem Tells.none {l : List Int} {k : Nat} {D : DataW Unit} (h : Tells l k D) (h0 : ¬ 0 < l.getD k 0) : Tells l (k + 1) D :=
  ⟨h.isMap, fun v n hv hn => by
    rw [h.has_ v n hv hn]
    constructor
    · rintro ⟨s, h1, h2⟩; exact ⟨s, by omega, h2⟩
    · rintro ⟨s, h1, h2⟩
      refine ⟨s, ?_, h2⟩
      rcases Nat.lt_or_ge s k with h3 | h3
      · exact h3
      · have : s = k := by omega
        subst this; exact absurd h2.1 h0, fun s hs hp => by
    rcases Nat.lt_or_ge s k with h3 | h3
    · exact h.at_ s h3 hp
    · have : s = k := by omega
      subst this; exact absurd hp h0⟩
theorem Tells.some {l : List Int} {k : Nat} {D : DataW Unit} (h : Tells l k D) (hl : l.length ≤ 64) (hb : inB l = true) (hk : k < l.length) (h0 : 0 < l.getD k 0) : Tells l (k + 1) (D.put (kk (cd l k : Int) (l.getD k 0)) (.lit (.int .i64 (k : Int)))) := by
  have hbk := inB_at hb k
  have hck := cd_small l hl hb k
  obtain ⟨N, hN⟩ : ∃ N : Nat, l.getD k 0 = N := ⟨_, (Int.toNat_of_nonneg (by omega)).symm⟩
  have wk1 := wf_u32 (cd l k) (by omega)
  have wk2 := wf_i64 N (by omega)
  have hlit : WideAt.IsKeyLit (kk (cd l k : Int) (l.getD k 0)) := by rw [hN]; exact key_lit wk1 wk2
  refine ⟨h.isMap.put _ _, fun v n hv hn => ?_, fun s hs hp => ?_⟩
  · by_cases he : v = cd l k ∧ n = N
    · obtain ⟨rfl, rfl⟩ := he
      rw [← hN, has_put_same h.isMap hlit]
      exact ⟨fun _ => ⟨k, by omega, h0, rfl, rfl⟩, fun _ => rfl⟩
    · rw [has_put_other (k := kk (cd l k : Int) (l.getD k 0)) (by
        intro e
        rw [hN] at e
        have := key_inj (wf_u32 v hv) (wf_i64 n (by omega)) wk1 wk2 e
        exact he ⟨by omega, by omega⟩), h.has_ v n hv hn]
      constructor
      · rintro ⟨s, h1, h2⟩; exact ⟨s, by omega, h2⟩
      · rintro ⟨s, h1, h2⟩
        refine ⟨s, ?_, h2⟩
        rcases Nat.lt_or_ge s k with h3 | h3
        · exact h3
        · have : s = k := by omega
          subst this
          exact absurd ⟨h2.2.2.symm, by omega⟩ he
  · rcases Nat.lt_or_ge s k with h3 | h3
    · have hbs := inB_at hb s
      have hcs := cd_small l hl hb s
      obtain ⟨M, hM⟩ : ∃ M : Nat, l.getD s 0 = M := ⟨_, (Int.toNat_of_nonneg (by omega)).symm⟩
      rw [atKey_put_other (by
        intro e
        rw [hN, hM] at e
        have := key_inj (wf_u32 (cd l s) (by omega)) (wf_i64 M (by omega)) wk1 wk2 e
        refine cd_apart l s k (by omega) hk (by omega) hp (by omega) ?_
        rw [hN, hM, show N = M by omega, Nat.sub_self, Nat.pow_zero, Nat.div_one]
        omega)]
      exact h.at_ s h3 hp
    · have : s = k := by omega
      subst this
      exact atKey_put_same h.isMap hlit _ _

theorem make_map {n : Int} {w : World} : (Instr.makeMap 63 (some (.int .i64 n))).run Try.prog w = .ok (.map (some w.heap.size)) (w.alloc (.map #[] 0)) := by
  simp [Instr.makeMap, run_underlying Try.underlying63, asInt, asIntOf, Result.andThen]
theorem zeroI (w : World) : (zeroValue 3).run Try.prog w = .ok (.int .i64 0) w := by kernel_rfl

/-- The greatest of a list. -/
def IsMax (l : List Int) (m : Int) : Prop := (∃ j, j < l.length ∧ l.getD j 0 = m) ∧ ∀ j, j < l.length → l.getD j 0 ≤ m
set_option maxHeartbeats 1000000 in
theorem max_any (v : Value) (l : List Int) (w : World) (hv : Rw .i64 w v l) (h1 : 1 ≤ l.length) (hl : l.length ≤ 100000) :
    Calls Try.prog 31 #[v] w fun e w' => ∃ m, e = .returned (.int .i64 m) ∧ IsMax l m ∧ w' = w := by
  obtain ⟨a, cap, rfl, ha⟩ := hv
  obtain ⟨b, off, rfl, hbs, hc⟩ := ha.resolve_left (by intro h0; subst h0; simp at h1)
  have g0 := hc 0 (by omega)
  rw [Nat.add_zero] at g0
  generalize hz : l.getD 0 0 = z at g0
  have HZ : Hid _ := hz
  clear ha hz
  go_enter Try.func31, Try.ntmps31
  go_wp2
  go_loop [3, 4] (fun y i => ∃ k : Nat, ∃ m : Int, 1 ≤ k ∧ k ≤ l.length ∧ i = .int .i64 k ∧ y = .int .i64 m ∧ Hid ((∃ j, j < k ∧ l.getD j 0 = m) ∧ ∀ j, j < k → l.getD j 0 ≤ m)) (fun _ i => l.length - (intOf i).toNat)
  case atStart =>
    refine ⟨1, z, by omega, by omega, rfl, rfl, ⟨⟨0, by omega, HZ.out⟩, fun j hj => ?_⟩⟩
    have h : j = 0 := by omega
    rw [h, HZ.out]
    exact Int.le_refl _
  case round =>
    obtain ⟨k, m, hk1, hk, rfl, rfl, HM⟩ := hrel
    by_cases hlt : k < l.length
    · have g := hc k hlt
      have hs : Hid _ := Eq.refl (l.getD k 0)
      generalize hxe : l.getD k 0 = x at g
      have HX : Hid _ := hxe
      clear hc hxe hs g0
      go_wp2
      have hx := HX.out
      obtain ⟨⟨j, hj1, hj2⟩, hm⟩ := HM.out
      refine ⟨⟨k + 1, max m x, by omega, by omega, by go_num, ?_, ?_⟩, by simp [intOf]; omega⟩
      · first | rfl | (congr 1; omega)
      · by_cases hmx : x ≤ m
        · refine ⟨⟨j, by omega, by omega⟩, fun i hi => ?_⟩
          rcases Nat.lt_or_ge i k with h | h
          · have := hm i h; omega
          · have : i = k := by omega
            subst this; omega
        · refine ⟨⟨k, by omega, by omega⟩, fun i hi => ?_⟩
          rcases Nat.lt_or_ge i k with h | h
          · have := hm i h; omega
          · have : i = k := by omega
            subst this; omega
    · have : k = l.length := by omega
      subst this
      clear hlt hc g0
      go_wp2
      go_ret
      exact ⟨m, rfl, HM.out, rfl⟩

theorem Below.mapped {w wr w1 : World} {k : Nat} (h : Below w.heap.size w wr) (hg : wr.grownBy w1 (some w.heap.size)) : Below w.heap.size w w1 :=
  h.grown hg h.size (fun j hj => by cases hj; exact Nat.le_refl _)

set_option maxHeartbeats 2000000 in
set_option maxRecDepth 10000 in
theorem symbols_any (v vc : Value) (l : List Int) (w : World) (hv : Rw .i64 w v l) (hvc : Rw .u32 w vc (codesL l)) (hr : rightL l = true) :
    Calls Try.prog 30 #[v, vc] w fun e w' => ∃ D : DataW Unit, e = .returned (.map (some w.heap.size)) ∧ w'.ownsMap Try.prog 66 (plainElem Try.prog 3) w.heap.size l.length D ∧ Tells l l.length D ∧ Below w.heap.size w w' := by
  have hmm := @make_map
  obtain ⟨hl1, hl2, hb, _⟩ := right_parts hr
  obtain ⟨a, cap, rfl, ha⟩ := hv
  obtain ⟨b, off, rfl, hbs, hc⟩ := ha.resolve_left (by intro h0; subst h0; simp at hl1)
  obtain ⟨a', cap', rfl, ha'⟩ := hvc
  obtain ⟨b', off', rfl, hbs', hc'⟩ := ha'.resolve_left (by intro h0; have := codes_len l; rw [h0] at this; simp at this; omega)
  rw [codes_len] at hc' ⊢
  have HB : Hid _ := hb
  clear ha ha' hb hr
  go_enter Try.func30, Try.ntmps30
  go_wp2
  go_loopw [13] (fun i wr => ∃ k : Nat, ∃ D : DataW Unit, k ≤ l.length ∧ i = .int .i64 k ∧ Hid (wr.ownsMap Try.prog 66 (plainElem Try.prog 3) w.heap.size k D) ∧ Hid (Tells l k D) ∧ Below w.heap.size w wr) (fun i _ => l.length - (intOf i).toNat)
  case atStart => exact ⟨0, .map [], by omega, rfl, World.ownsMap_made _ _ _ _, Tells.start l, (Below.refl _ _).alloc (Nat.le_refl _) _⟩
  case round =>
    obtain ⟨k, D, hk, rfl, HO, HT, hnx⟩ := hrel
    by_cases hlt : k < l.length
    · have g := (hnx.cell (p := ⟨b, off + k, none⟩) hbs).trans (hc k hlt)
      have g' := (hnx.cell (p := ⟨b', off' + k, none⟩) hbs').trans (hc' k hlt)
      rw [codes_at l k hlt] at g'
      unfold codeAt at g'
      have hbk := inB_at HB.out k
      have hck := cd_small l hl2 HB.out k
      by_cases h0 : 0 < l.getD k 0
      · rw [if_pos h0] at g'
        have T1 : Hid _ := HT.out.some hl2 HB.out hlt h0
        generalize l.getD k 0 = x at g h0 hbk T1
        obtain ⟨N, rfl⟩ := Int.eq_ofNat_of_zero_le hbk.1
        generalize cd l k = C at g' hck T1
        have hkey := key_mk C N (wf_u32 C (by omega)) (wf_i64 N (by omega))
        clear hc hc'
        go_wp2_with (first | (at_mapUpdate; refine wpList_mapUpdate_own _ rfl _ _ _ 63 rfl 66 3 lawC Try.underlying63 _ w.heap.size k _ rfl HO.out (by unfold maxLen; omega) _ _ _ rfl rfl hkey _ [] (plainElem_int Try.underlying3 (wf_i64 k (by omega))) ?_; intro w1 hown1 hgrow1) | go_in)
        have hb1 := hnx.grown hgrow1 hnx.size (fun j hj => by cases hj; exact Nat.le_refl _)
        have H1 : Hid _ := hown1
        clear hown1 hgrow1 hkey
        first | (refine ⟨⟨k + 1, _, by omega, by go_num, H1, T1, hb1⟩, by simp [intOf]; omega⟩) | skip
      · have T1 : Hid _ := HT.out.none h0
        generalize l.getD k 0 = x at g h0 hbk T1
        clear hc hc' g'
        go_wp2
        refine ⟨⟨k + 1, _, by omega, by go_num, HO.out.mono (by omega), T1, hnx⟩, by simp [intOf]; omega⟩
    · have : k = l.length := by omega
      subst this
      clear hlt hc hc'
      go_wp2
      go_ret
      exact ⟨D, rfl, HO.out, HT.out, hnx⟩
end Go.Proofs.Ytnlahpnpajadpaa
