/- Contracts of Power, As, Same and Good. -/
import Derived.Test.YtnlahpnpajadpaaWg
namespace Go.Proofs.Ytnlahpnpajadpaa
open Go.RowKit
set_option linter.unusedVariables false
set_option linter.unusedSimpArgs false

def P2 (n : Nat) : Int := ((2 ^ n : Nat) : Int)
theorem as_any (a : Option Addr) (len cap : Nat) (n : Int) (w : World) :
    Calls Try.prog 19 #[.agg #[.slice a len cap, .int .i64 n]] w fun e w' => e = .returned (.agg #[.slice a len cap, .int .i64 n]) ∧ Below w.heap.size w w' := by
  go_enter Try.func19, Try.ntmps19
  go_wp2
  refine bodyPost_ret (v := .agg #[.slice a len cap, .int .i64 n]) (by simp [results, Try.results19, go_sem]) rfl ⟨rfl, ?_⟩
  exact below2 _ _ _

set_option maxHeartbeats 400000 in
theorem same_ne (v1 v2 : Value) (n1 n2 : Int) (w : World) (h : (n1 == n2) = false) :
    Calls Try.prog 20 #[.agg #[v1, .int .i64 n1], .agg #[v2, .int .i64 n2]] w fun e w' => e = .returned (.bool false) ∧ Below w.heap.size w w' := by
  go_enter Try.func20, Try.ntmps20
  go_wp2
  go_ret
  exact ⟨rfl, ((Below.refl _ _).alloc (Nat.le_refl _) _).alloc (by simp) _⟩

set_option maxHeartbeats 400000 in
theorem same_eq (v1 v2 : Value) (n : Int) (xs ys : List Int) (w : World) (h1 : Rw .u8 w v1 xs) (h2 : Rw .u8 w v2 ys) (hx : Byts xs) (hy : Byts ys) :
    Calls Try.prog 20 #[.agg #[v1, .int .i64 n], .agg #[v2, .int .i64 n]] w fun e w' => e = .returned (.bool (decide (xs = ys))) ∧ Below w.heap.size w w' := by
  have c1 := conv_rw (P := Try.prog) (h1.below (below2 w (.cells #[v1, .int .i64 n] 38) (.cells #[v2, .int .i64 n] 38))) 32 9 5 Try.underlying32 Try.underlying5 Try.underlying9
  have c2 := conv_rw (P := Try.prog) (h2.below (below2 w (.cells #[v1, .int .i64 n] 38) (.cells #[v2, .int .i64 n] 38))) 32 9 5 Try.underlying32 Try.underlying5 Try.underlying9
  obtain ⟨a1, k1, rfl, _⟩ := h1
  obtain ⟨a2, k2, rfl, _⟩ := h2
  rw [← str_inj hx hy]
  go_enter Try.func20, Try.ntmps20
  go_wp2
  go_ret
  exact ⟨rfl, below2 _ _ _⟩

theorem same_any (v1 v2 : Value) (n1 n2 : Int) (xs ys : List Int) (w : World) (h1 : Rw .u8 w v1 xs) (h2 : Rw .u8 w v2 ys) (hx : Byts xs) (hy : Byts ys) :
    Calls Try.prog 20 #[.agg #[v1, .int .i64 n1], .agg #[v2, .int .i64 n2]] w fun e w' => e = .returned (.bool (decide (n1 = n2 ∧ xs = ys))) ∧ Below w.heap.size w w' := by
  by_cases h : n1 = n2
  · subst h
    refine (same_eq v1 v2 n1 xs ys w h1 h2 hx hy).mono ?_
    rintro e w' ⟨rfl, hb⟩
    exact ⟨ret_bool (by simp), hb⟩
  · refine (same_ne v1 v2 n1 n2 w (by simpa using h)).mono ?_
    rintro e w' ⟨rfl, hb⟩
    exact ⟨ret_bool (by simp [h]), hb⟩

/-- The writer that stands in the place of one that isn't right. -/
def goodX (xs : List Int) (n : Int) : List Int := if rightB xs n then xs else []
def goodV (v : Value) (xs : List Int) (n : Int) : Value := if rightB xs n then v else .slice none 0 0
def goodN (xs : List Int) (n : Int) : Int := if rightB xs n then n else 0

theorem good_rw {w : World} {v : Value} {xs : List Int} (h : Rw .u8 w v xs) (n : Int) : Rw .u8 w (goodV v xs n) (goodX xs n) := by
  unfold goodV goodX
  split
  · exact h
  · exact ⟨none, 0, rfl, .inl rfl⟩
set_option maxHeartbeats 400000 in
theorem good_any (v : Value) (n : Int) (xs : List Int) (w : World) (hv : Rw .u8 w v xs) (hx : Byts xs) (hl : xs.length ≤ 100000) :
    Calls Try.prog 27 #[.agg #[v, .int .i64 n]] w fun e w' => e = .returned (.agg #[goodV v xs n, .int .i64 (goodN xs n)]) ∧ Below w.heap.size w w' := by
  have hv0 := hv
  obtain ⟨a, cap, rfl, _⟩ := hv
  have hW := below2 w (.cells #[.slice a xs.length cap, .int .i64 n] 38) (.cells #[.slice none 0 0, .int .i64 0] 38)
  have hv1 := hv0.below hW
  cases hr : rightB xs n
  · go_enter Try.func27, Try.ntmps27
    go_wp2_with (go_at_call 37; refine (rright_any _ xs n _ hv1 hx hl).mono ?_; rintro e w' ⟨rfl, hb1⟩; obtain ⟨hc1, hf1⟩ := bcell hb1; rw [hr])
    have hz : w.heap.size + 1 < w'.heap.size := by have := hb1.size; simp at this; omega
    refine bodyPost_ret (v := .agg #[.slice none 0 0, .int .i64 0]) (by simp [results, Try.results27, go_sem, hc1]) rfl ⟨by simp [goodN, goodV, hr], bset2 (bthen hW hb1 hW.size) _ _ _ _ _ _ (by omega) (by omega)⟩
  · go_enter Try.func27, Try.ntmps27
    go_wp2_with (go_at_call 37; refine (rright_any _ xs n _ hv1 hx hl).mono ?_; rintro e w' ⟨rfl, hb1⟩; obtain ⟨hc1, hf1⟩ := bcell hb1; rw [hr])
    have hz : w.heap.size + 1 < w'.heap.size := by have := hb1.size; simp at this; omega
    have hB := bset2 (bthen hW hb1 hW.size) (w.heap.size + 1) (w.heap.size + 1) 0 1 (.slice a xs.length cap) (.int .i64 n) (by omega) (by omega)
    refine bodyPost_ret (v := .agg #[.slice a xs.length cap, .int .i64 n]) (by simp [results, Try.results27, go_sem, hc1]) rfl ⟨by simp [goodN, goodV, hr], hB⟩
end Go.Proofs.Ytnlahpnpajadpaa
