/- Contracts of the document's spread, Number and Code: a code's bits, from the highest one on. -/
import Derived.Test.YtnlahpnpajadpaaXc
namespace Go.Proofs.Ytnlahpnpajadpaa
open Go.RowKit
set_option linter.unusedVariables false
set_option linter.unusedSimpArgs false

/-- So many bits of a number, from the highest one on. -/
def sp (c : Nat) : Nat → List Int
  | 0 => []
  | m + 1 => sp (c / 2) m ++ [((c % 2 : Nat) : Int)]
theorem sp_len (c m : Nat) : (sp c m).length = m := by
  induction m generalizing c with
  | zero => rfl
  | succ m ih => simp [sp, ih]
theorem sp_at (c m i : Nat) (h : i < m) : (sp c m).getD i 0 = ((c / 2 ^ (m - 1 - i) % 2 : Nat) : Int) := by
  induction m generalizing c with
  | zero => omega
  | succ m ih =>
    simp only [sp]
    by_cases hi : i < m
    · rw [List.getD_eq_getElem?_getD, List.getElem?_append_left (by rw [sp_len]; exact hi), ← List.getD_eq_getElem?_getD, ih (c / 2) hi]
      rw [Nat.div_div_eq_div_mul, ← Nat.pow_add_one']
      congr 4
      omega
    · have : i = m := by omega
      subst this
      rw [List.getD_eq_getElem?_getD, List.getElem?_append_right (by rw [sp_len]; omega), sp_len]
      simp
theorem tdiv2 (n : Nat) : (n : Int).tdiv 2 = ((n / 2 : Nat) : Int) := by
  rw [Int.tdiv_eq_ediv_of_nonneg (by omega)]; simp
theorem tmod2 (n : Nat) : (n : Int).tmod 2 = ((n % 2 : Nat) : Int) := by
  rw [Int.tmod_eq_emod_of_nonneg (by omega)]; simp

set_option maxHeartbeats 1000000 in
theorem spread_any (m : Nat) (hm : m ≤ 1000) : ∀ (c : Nat) (w : World), c < 2 ^ 62 →
    Calls Try.prog 24 #[.int .i64 c, .int .i64 m] w fun e w' => ∃ v, e = .returned v ∧ w'.ownsRow w.heap.size 3 1 v m ((sp c m).map (Value.int .i64)) ∧ Below w.heap.size w w' := by
  obtain ⟨i0, hi, hz0, hz1, hz2⟩ := info_parts info3
  induction m with
  | zero =>
    intro c w hc
    go_enter Try.func24, Try.ntmps24
    go_wp2
    go_ret
    exact ⟨_, rfl, World.ownsRow_nil _ _ _ _, Below.refl _ _⟩
  | succ m ih =>
    intro c w hc
    have ih := ih (by omega)
    have hne : ((((m + 1 : Nat) : Int)) == 0) = false := by simp; omega
    have e0 : (((m + 1 : Nat) : Int)) - 1 = (m : Int) := by omega
    go_enter Try.func24, Try.ntmps24
    go_wp2_with (first | (go_at_call 24; refine (ih (c / 2) _ (by omega)).mono ?_; rintro e w1 ⟨v1, rfl, hown1, hb1⟩) | (at_builtin; refine wpList_append_own _ rfl _ _ 22 rfl w.heap.size 3 i0 (.int .i64 0) 1 8 Try.underlying22 hi hz0 hz1 hz2 rfl (by decide) _ _ _ rfl (hown1.alloc _) ⟨_, 0, none⟩ 1 1 [_] rfl rfl (cell_one_new _ _ _) ?c2 ?c3 ?c4 ?c5 ?_))
    case c2 => intro u hu; simp at hu; subst hu; rfl
    case c3 => unfold maxLen; omega
    case c4 => omega
    case c5 => have := hb1.size; simp; omega
    intro v' w2 hown' hgrow _
    have hb2 := (hb1.alloc hb1.size (Obj.cells #[Value.int IntKind.i64 ((c : Int) % 2)] 3)).grown hgrow (by have := hb1.size; simp; omega) (fun k hk => (hown1.lt k hk).1)
    go_wp2
    go_ret
    refine ⟨_, rfl, ?_, hb2⟩
    simp only [sp, List.map_append, List.map_cons, List.map_nil]
    exact hown'

/-! ### Number -/
theorem num_step (c m k : Nat) (hk : k < m) : c / 2 ^ (m - (k + 1)) = c / 2 ^ (m - k) * 2 + c / 2 ^ (m - 1 - k) % 2 := by
  have e : m - k = (m - (k + 1)) + 1 := by omega
  rw [e, Nat.pow_succ, ← Nat.div_div_eq_div_mul, show m - 1 - k = m - (k + 1) by omega]
  omega
set_option maxHeartbeats 1000000 in
theorem number_any (v : Value) (c m : Nat) (w : World) (hv : Rw .i64 w v (sp c m)) (hm : m ≤ 16) (hc : c < 2 ^ m) :
    Calls Try.prog 14 #[v] w fun e w' => e = .returned (.int .u32 c) ∧ w' = w := by
  have hc2 : c < 65536 := Nat.lt_of_lt_of_le hc (Nat.pow_le_pow_right (n := 2) (by decide) hm)
  obtain ⟨a, cap, rfl, ha⟩ := hv
  rw [sp_len]
  have HC : Hid _ := hc
  clear hc
  go_enter Try.func14, Try.ntmps14
  go_wp2
  go_loop [3, 4] (fun y i => ∃ k p : Nat, k ≤ m ∧ i = .int .i64 k ∧ y = .int .u32 p ∧ p < 65536 ∧ Hid (p = c / 2 ^ (m - k))) (fun _ i => m - (intOf i).toNat)
  case atStart => exact ⟨0, 0, by omega, rfl, rfl, by omega, by unfold Hid; rw [Nat.sub_zero, Nat.div_eq_of_lt HC.out]⟩
  case round =>
    obtain ⟨k, p, hk, rfl, rfl, hp, HP⟩ := hrel
    by_cases hlt : k < m
    · have hne : sp c m ≠ [] := by intro h; have := sp_len c m; rw [h] at this; simp at this; omega
      obtain ⟨b, off, rfl, hb, hcx⟩ := ha.resolve_left hne
      have g := hcx k (by rw [sp_len]; exact hlt)
      rw [sp_at c m k hlt] at g
      have hs : Hid (c / 2 ^ (m - (k + 1)) = p * 2 + c / 2 ^ (m - 1 - k) % 2) := by unfold Hid; rw [HP.out]; exact num_step c m k hlt
      have hbit : c / 2 ^ (m - 1 - k) % 2 < 2 := Nat.mod_lt _ (by decide)
      have hle : Hid (c / 2 ^ (m - (k + 1)) ≤ c) := Nat.div_le_self _ _
      generalize c / 2 ^ (m - 1 - k) % 2 = z at g hs hbit
      clear hcx ha hne HC HP
      go_wp2
      have h1 := hs.out
      have h2 := hle.out
      refine ⟨⟨k + 1, p * 2 + z, by omega, by go_num, by go_num, by omega, by unfold Hid; omega⟩, by simp [intOf]; omega⟩
    · have : k = m := by omega
      subst this
      clear hlt ha HC
      have hpc : p = c := by have := HP.out; rwa [Nat.sub_self, Nat.pow_zero, Nat.div_one] at this
      subst hpc
      go_wp2
      go_ret
      exact ⟨rfl, rfl⟩

/-! ### Code -/
set_option maxHeartbeats 2000000 in
theorem code_any (v : Value) (l : List Int) (s : Nat) (w : World) (hv : Rw .i64 w v l) (hr : rightL l = true) (hs : s < l.length) (h0 : 0 < l.getD s 0) :
    Calls Try.prog 15 #[v, .int .i64 s] w fun e w' => ∃ v', e = .returned v' ∧ w'.ownsRow w.heap.size 3 1 v' (l.getD s 0).toNat ((sp (cd l s) (l.getD s 0).toNat).map (Value.int .i64)) ∧ Below w.heap.size w w' := by
  obtain ⟨hl1, hl2, hb, _⟩ := right_parts hr
  obtain ⟨a, cap, rfl, ha⟩ := hv
  obtain ⟨b, off, rfl, hbs, hc⟩ := ha.resolve_left (by intro h0; subst h0; simp at hl1)
  have hb16 := inB_at hb s
  obtain ⟨N, hN⟩ : ∃ N : Nat, l.getD s 0 = N := ⟨_, (Int.toNat_of_nonneg (by omega)).symm⟩
  have hcd : cd l s = F l N + (l.take s).count (N : Int) := by unfold cd; rw [hN, Int.toNat_natCast]
  rw [hN] at h0 hb16 ⊢
  rw [Int.toNat_natCast]
  have HS : Hid _ := hN
  have HD : Hid _ := hcd
  clear ha hb hN hcd hr
  go_enter Try.func15, Try.ntmps15
  go_wp2
  go_loop [5, 6] (fun y i => ∃ n p : Nat, 1 ≤ n ∧ n ≤ N ∧ i = .int .i64 n ∧ y = .int .i64 p ∧ p ≤ 8388544 ∧ Hid (Nx l n 0 p)) (fun _ i => 17 - (intOf i).toNat)
  case atStart => exact ⟨1, 0, by omega, by omega, rfl, rfl, by omega, Nx.start l⟩
  case round =>
    obtain ⟨n, p, hn1, hn2, rfl, rfl, hp, HN⟩ := hrel
    go_wp2
    go_loop [5, 7] (fun y i => ∃ k q : Nat, k ≤ l.length ∧ (n = N → k ≤ s) ∧ i = .int .i64 k ∧ y = .int .i64 q ∧ q ≤ 8388544 ∧ Hid (Nx l n k q)) (fun _ i => l.length - (intOf i).toNat)
    case atStart => exact ⟨0, p, by omega, by omega, rfl, rfl, hp, HN⟩
    case round =>
      obtain ⟨k, q, hk, hks, rfl, rfl, hq, HQ⟩ := hrel
      by_cases hlt : k < l.length
      · have g := hc k hlt
        have hhit : Hid (∀ e : l.getD k 0 = n, _) := fun e => HQ.out.hit hlt e
        have hmiss : Hid (∀ e : l.getD k 0 ≠ n, _) := fun e => HQ.out.miss hlt e
        have hsk : Hid (k = s → l.getD k 0 = N) := fun e => by subst e; exact HS.out
        generalize l.getD k 0 = x at g hhit hmiss hsk
        by_cases hx : x = n
        · subst hx
          by_cases hks2 : k = s
          · subst hks2
            have hnN : n = N := by have := hsk.out rfl; omega
            subst hnN
            have hqc : Hid (q = cd l k) := by unfold Hid; rw [HD.out]; exact HQ.out
            have hsp := spread_any n (by omega) q w (by omega)
            clear hhit hmiss hsk HD HS hc hks
            go_wp2_with (go_at_call 24; refine hsp.mono ?_; rintro e w1 ⟨v1, rfl, hown1, hb1⟩)
            go_ret
            rw [hqc.out] at hown1
            exact ⟨_, rfl, hown1, hb1⟩
          · have r2 : Hid _ := hhit.out rfl
            have hq2 : q + 1 ≤ 8388544 := Nx.small r2.out hl2 (by omega)
            have hks3 : Hid (n = N → k + 1 ≤ s) := fun e => by have := hks e; omega
            clear hhit hmiss hsk HD HS hc hks
            go_wp2
            refine ⟨⟨k + 1, q + 1, by omega, hks3.out, by go_num, by go_num, hq2, r2⟩, by simp [intOf]; omega⟩
        · have r2 : Hid _ := hmiss.out hx
          have hks3 : Hid (n = N → k + 1 ≤ s) := fun e => by
            have h1 := hks e
            have : k ≠ s := fun e2 => hx (by rw [hsk.out e2, e])
            omega
          clear hhit hmiss hsk HD HS hc hks
          go_wp2
          refine ⟨⟨k + 1, q, by omega, hks3.out, by go_num, rfl, hq, r2⟩, by simp [intOf]; omega⟩
      · have : k = l.length := by omega
        subst this
        have hnN : n < N := by
          rcases Nat.lt_or_ge n N with h | h
          · exact h
          · have := hks (by omega); omega
        have R2 : Hid _ := HQ.out.next hn1
        have hq2 : 2 * q ≤ 8388544 := Nx.small R2.out hl2 (by omega)
        clear hlt HQ HD HS hc hks
        go_wp2
        refine ⟨⟨n + 1, 2 * q, by omega, by omega, by go_num, by go_num, hq2, R2⟩, by simp [intOf]; omega⟩
end Go.Proofs.Ytnlahpnpajadpaa
