/- For the last three laws: two lists the same (it only draws), a size, Frames of any list, bounds. -/
import Derived.Test.YtdfihdkkidekjaaDoorHl
namespace Go.Proofs.YtdfihdkkidekjaaDoor
open Go.RowKit
set_option linter.unusedVariables false
set_option linter.unusedSimpArgs false

set_option maxHeartbeats 2000000 in
theorem same_quiet (v1 v2 : Value) (xs : List Int) (w : World) (h1 : Rw .i64 w v1 xs) (h2 : Rw .i64 w v2 xs) (hl : xs.length ≤ 4000) : Calls Tryd.prog 16 #[v1, v2] w fun e w' => e = .returned (.bool true) ∧ ∃ m, w' = w.drewN m := by
  obtain ⟨a1, c1, rfl, ha1⟩ := h1
  obtain ⟨a2, c2, rfl, ha2⟩ := h2
  obtain ⟨n, hn⟩ : ∃ n, xs.length = n := ⟨_, rfl⟩
  rw [hn] at ha1 ha2 hl ⊢
  have hnil : 0 < n → xs ≠ [] := fun h e => by rw [e] at hn; simp at hn; omega
  clear hn
  go_enter Tryd.func16, Tryd.ntmps16
  go_wp2
  go_loopw [5] (fun i wr => ∃ k : Nat, k ≤ n ∧ i = .int .i64 k ∧ ∃ m, wr = w.drewN m) (fun i _ => n - (intOf i).toNat)
  case atStart => exact ⟨0, by omega, rfl, 0, rfl⟩
  case round =>
    obtain ⟨k, hk, rfl, m, hm⟩ := hrel
    by_cases hlt : k < n
    · obtain ⟨b1, o1, rfl, hb1, hc1⟩ := ha1.resolve_left (hnil (by omega))
      obtain ⟨b2, o2, rfl, hb2, hc2⟩ := ha2.resolve_left (hnil (by omega))
      have hnx := drewN_below (Below.refl w.heap.size w) m
      rw [← hm] at hnx
      have g1 := (hnx.cell (p := ⟨b1, o1 + k, none⟩) hb1).trans (hc1 k hlt)
      have g2 := (hnx.cell (p := ⟨b2, o2 + k, none⟩) hb2).trans (hc2 k hlt)
      have HM := hid hm
      clear ha1 ha2 hc1 hc2 hnil hnx hm
      generalize xs.getD k 0 = x at *
      have i1 : (0 : Int) ≤ (k : Int) := by omega
      have i2 : (k : Int) < (n : Int) := by omega
      have i3 : IntKind.i64.wrap (k : Int) = k := wraps_i64 _ (by omega) (by omega)
      go_wp2
      go_quiet (fail)
      go_wp2
      exact ⟨⟨k + 1, by omega, by go_num, m + nq, by rw [HM.out, World.drewN_drewN]⟩, by simp [intOf]; omega⟩
    · clear ha1 ha2 hnil
      have HM := hid hm
      clear hm
      go_wp2
      go_ret
      exact ⟨rfl, m, HM.out⟩
theorem size_same (n : Int) (h : (Lit.int .u8 n).wf = true) : ∃ s K : Nat, Sz s K ∧ ∀ w, Calls Tryd.prog 26 #[.int .u8 n] w fun e w' => e = .returned (.int .i64 s) ∧ w' = w := by
  have hn : 0 ≤ n ∧ n < 256 := by
    simp [Lit.wf, IntKind.min, IntKind.max, IntKind.bits, IntKind.signed] at h
    omega
  clear h
  have hm : n.tmod 3 = n % 3 := Int.tmod_eq_emod_of_nonneg hn.1
  by_cases c1 : n % 3 = 0
  · have d1 : n.tmod 3 = 0 := by omega
    refine ⟨8, 3, .inl ⟨rfl, rfl⟩, fun w => ?_⟩
    go_enter Tryd.func26, Tryd.ntmps26
    go_wp2
    go_ret
    exact ⟨rfl, rfl⟩
  · by_cases c2 : n % 3 = 1
    · have d1 : n.tmod 3 = 1 := by omega
      refine ⟨16, 4, .inr (.inl ⟨rfl, rfl⟩), fun w => ?_⟩
      go_enter Tryd.func26, Tryd.ntmps26
      go_wp2
      go_ret
      exact ⟨rfl, rfl⟩
    · have d1 : n.tmod 3 = 2 := by omega
      refine ⟨32, 5, .inr (.inr ⟨rfl, rfl⟩), fun w => ?_⟩
      go_enter Tryd.func26, Tryd.ntmps26
      go_wp2
      go_ret
      exact ⟨rfl, rfl⟩
/-- Frames of any list. -/
theorem lframes_some (a : Option Addr) (cap s K : Nat) (x : List Int) (w : World) (hw : Wt w) (hv : Rw .i64 w (.slice a x.length cap) x) (hf : Fits x) (hS : Sz s K) (hn : x.length ≤ 200) :
    Calls Tryd.prog 20 #[.slice a x.length cap, .int .i64 s] w fun e w' => ∃ v er, e = .returned (.tuple #[v, .int .i64 er]) ∧ Below w.heap.size w w' := by
  cases hx : okB 262144 x
  · refine (lframes_no a cap x s w hv hf hn (by rw [hx]; rfl)).mono ?_
    rintro e w' ⟨rfl, rfl⟩
    exact ⟨_, _, rfl, Below.refl _ _⟩
  · refine (lframes_ok a cap s K x w hw hv hf hS hn (okB_bd hx)).mono ?_
    rintro e w' ⟨v, rfl, _, hB⟩
    exact ⟨v, _, rfl, hB⟩
theorem tnL_bd {p : Nat} {x : List Int} (h : Bd (-262144) 262144 x) (hp : 4 ≤ p) (hl : p + 4 ≤ x.length) : Bd (-1048576) 1048576 (tnL p x) := by
  have hin : ∀ lo hi, In x lo hi 262144 := In.of_bd h
  have := tw_bd (U := tu x p) (V := tv x p) (B := 262144) hp hl (tu_bd (hin _ _) hp hl) (fun k hk => by have := tv_bd (hin (p - 4) (p + 4)) hp hl k hk; omega) 0 x.length ((hin 0 x.length).mono (Nat.le_refl _) (Nat.le_refl _) (by omega))
  refine Bd.mono (lo := -(3 * 262144)) (hi := 3 * 262144) (In.bd ?_) (by omega) (by omega)
  rw [tnL_len]
  exact this
theorem set_bd {B : Int} {x : List Int} (h : Bd (-B) B x) (i : Nat) (v : Int) (h0 : -B ≤ v) (h1 : v ≤ B) : Bd (-B) B (x.set i v) := fun j hj => by
  rw [List.length_set] at hj
  by_cases e : i < x.length
  · rw [getD_set_at _ _ _ _ e]
    split
    · omega
    · exact h j hj
  · rw [List.set_eq_of_length_le (by omega)]
    exact h j hj
theorem set_fits {x : List Int} (h : Fits x) (i : Nat) (v : Int) (h0 : -9223372036854775808 ≤ v) (h1 : v ≤ 9223372036854775807) : Fits (x.set i v) := fun j => by
  by_cases e : i < x.length
  · rw [getD_set_at _ _ _ _ e]
    split
    · omega
    · exact h j
  · rw [List.set_eq_of_length_le (by omega)]
    exact h j
end Go.Proofs.YtdfihdkkidekjaaDoor
