/- What Write answers, the program's and the document's: alike. -/
import Derived.Test.YtnlahpnpajadpaaXn
import Derived.Test.YtnlahpnpajadpaaXk
namespace Go.Proofs.Ytnlahpnpajadpaa
open Go.RowKit Go.Maps
set_option linter.unusedVariables false
set_option linter.unusedSimpArgs false

/-- A call of Write, told by the row, the number of bits and the error that it answers. -/
def Writes (f : Nat) (xs l : List Int) (M s : Int) (Y : List Int) (G E : Int) : Prop :=
  ∀ (a : Option Addr) (cap : Nat) (vl : Value) (w : World), Rw .u8 w (.slice a xs.length cap) xs → Rw .i64 w vl l →
    Calls Try.prog f #[.agg #[.slice a xs.length cap, .int .i64 M], vl, .int .i64 s] w fun e w' => ∃ x c, e = .returned (.tuple #[.agg #[.slice x Y.length c, .int .i64 G], .int .i64 E]) ∧ Rw .u8 w' (.slice x Y.length c) Y ∧ Below w.heap.size w w'

theorem used_at {l : List Int} {s : Int} (h : usedS l s = true) : ∃ n : Nat, s = n ∧ n < l.length ∧ 0 < l.getD n 0 := by
  unfold usedS at h
  rw [decide_eq_true_eq] at h
  exact ⟨s.toNat, by omega, by omega, h.2.2⟩

theorem writes_alike (xs l : List Int) (M s : Int) (hx : Byts xs) (hlx : xs.length ≤ 100000) :
    ∃ (Y : List Int) (G E : Int), Byts Y ∧ Writes 17 xs l M s Y G E ∧ Writes 18 xs l M s Y G E := by
  cases hr : rightL l
  · refine ⟨goodX xs M, goodN xs M, 1, good_byts hx M, fun a cap vl w hv hvl => ?_, fun a cap vl w hv hvl => ?_⟩
    · refine (write_no a cap vl xs l M s w hv hx hvl hr).mono ?_
      rintro e w' ⟨x, c, ys, G, HY, HG, rfl, hrow, hb⟩
      rw [← HY.out, ← HG.out]
      exact ⟨x, c, rfl, hrow.rw, hb⟩
    · refine (rwrite_no a cap vl xs l M s w hv hx hlx hvl hr).mono ?_
      rintro e w' ⟨x, c, ys, G, HY, HG, rfl, hrow, hb⟩
      rw [← HY.out, ← HG.out]
      exact ⟨x, c, rfl, hrow, hb⟩
  · cases hs : usedS l s
    · refine ⟨goodX xs M, goodN xs M, 1, good_byts hx M, fun a cap vl w hv hvl => ?_, fun a cap vl w hv hvl => ?_⟩
      · refine (write_unused a cap vl xs l M s w hv hx hvl hr hs).mono ?_
        rintro e w' ⟨x, c, ys, G, HY, HG, rfl, hrow, hb⟩
        rw [← HY.out, ← HG.out]
        exact ⟨x, c, rfl, hrow.rw, hb⟩
      · refine (rwrite_unused a cap vl xs l M s w hv hx hlx hvl hr hs).mono ?_
        rintro e w' ⟨x, c, ys, G, HY, HG, rfl, hrow, hb⟩
        rw [← HY.out, ← HG.out]
        exact ⟨x, c, rfl, hrow, hb⟩
    · obtain ⟨n, rfl, hn, h0⟩ := used_at hs
      obtain ⟨X, N, hst⟩ := Stands.mk hx M
      by_cases hfit : N + (l.getD n 0).toNat ≤ 32000
      · refine ⟨byL (X + rvb (cd l n) (l.getD n 0).toNat (l.getD n 0).toNat * 2 ^ N) ((N + (l.getD n 0).toNat + 7) / 8), ((N + (l.getD n 0).toNat : Nat) : Int), 0, byL_byts _ _, fun a cap vl w hv hvl => ?_, fun a cap vl w hv hvl => ?_⟩
        · refine (write_used a cap vl xs l M n X N w hv hx hlx hvl hr hn h0 hst).mono ?_
          rintro e w' (⟨_, x, c, ys, hy, rfl, hrow, hb⟩ | ⟨h, _⟩)
          · rw [← hy]
            exact ⟨x, c, rfl, hrow.rw, hb⟩
          · omega
        · refine (rwrite_used a cap vl xs l M n X N w hv hx hlx hvl hr hn h0 hst).mono ?_
          rintro e w' (⟨_, x, c, ys, HY, rfl, hrow, hb⟩ | ⟨h, _⟩)
          · rw [← HY.out]
            exact ⟨x, c, rfl, hrow, hb⟩
          · omega
      · refine ⟨goodX xs M, goodN xs M, 3, good_byts hx M, fun a cap vl w hv hvl => ?_, fun a cap vl w hv hvl => ?_⟩
        · refine (write_used a cap vl xs l M n X N w hv hx hlx hvl hr hn h0 hst).mono ?_
          rintro e w' (⟨h, _⟩ | ⟨_, x, c, ys, G, HY, HG, rfl, hrow, hb⟩)
          · omega
          · rw [← HY.out, ← HG.out]
            exact ⟨x, c, rfl, hrow.rw, hb⟩
        · refine (rwrite_used a cap vl xs l M n X N w hv hx hlx hvl hr hn h0 hst).mono ?_
          rintro e w' (⟨h, _⟩ | ⟨_, x, c, ys, G, HY, HG, rfl, hrow, hb⟩)
          · omega
          · rw [← HY.out, ← HG.out]
            exact ⟨x, c, rfl, hrow, hb⟩

theorem same_self (v1 v2 : Value) (n : Int) (xs : List Int) (w : World) (h1 : Rw .u8 w v1 xs) (h2 : Rw .u8 w v2 xs) (hx : Byts xs) :
    Calls Try.prog 20 #[.agg #[v1, .int .i64 n], .agg #[v2, .int .i64 n]] w fun e w' => e = .returned (.bool true) ∧ Below w.heap.size w w' := by
  refine (same_eq v1 v2 n xs xs w h1 h2 hx hx).mono ?_
  rintro e w' ⟨rfl, hb⟩
  exact ⟨by simp, hb⟩
end Go.Proofs.Ytnlahpnpajadpaa
