/- Decoders that are right, in the laws' own forms. -/
import Derived.Test.YtkfpphccpkfenaaCo
namespace Go.Proofs.Ytkfpphccpkfenaa
open Go.RowKit
set_option linter.unusedVariables false
set_option linter.unusedSimpArgs false

theorem rightDec_ok (a : Option Addr) (cap : Nat) (d : De) (w : World) (h : d.Ok) : Calls Try.prog 25 #[decV a cap d] w fun e w' => e = .returned (.bool true) ∧ Below w.heap.size w w' := by
  have := rightDec_any d.C d.R a d.B.length cap d.A w
  rw [h.decB] at this
  exact this
theorem De.get_lt (d : De) (tot : Nat) (h : 1 ≤ tot) : d.get tot < tot := by unfold De.get; omega
theorem get_at (a : Option Addr) (cap : Nat) (d : De) (T : Nat) (w : World) (h : d.Ok) (hrw : Rw .u8 w (.slice a d.B.length cap) d.B) (hT : T < 65536) :
    Calls Try.prog 60 #[decV a cap d, .int .i64 (1 + (T : Int))] w fun e w' => e = .returned (.tuple #[.int .i64 (d.get (1 + T) : Nat), .int .i64 0]) ∧ Below w.heap.size w w' := by
  have := get_any _ _ _ _ _ _ d (1 + T) w (h.dv hrw) (by omega) (by omega)
  rw [show (((1 + T : Nat) : Int)) = 1 + (T : Int) by omega] at this
  exact this
theorem take_at (a : Option Addr) (cap : Nat) (d : De) (v T : Nat) (w : World) (h : d.Ok) (hrw : Rw .u8 w (.slice a d.B.length cap) d.B) (hT : T < 65536) (hv : v < 1 + T) :
    Calls Try.prog 61 #[decV a cap d, .int .i64 (v : Int), .int .i64 ((v : Int) + 1), .int .i64 (1 + (T : Int))] w fun e w' => ∃ a' cap' d', e = .returned (.tuple #[decV a' cap' d', .int .i64 0]) ∧ d' = d.take v (v + 1) (1 + T) ∧ d'.Ok ∧ (∀ w1, Rw .u8 w1 (.slice a d.B.length cap) d.B → Rw .u8 w1 (.slice a' d'.B.length cap') d'.B) ∧ Below w.heap.size w w' := by
  have hf : Fair v (v + 1) (1 + T) := ⟨by omega, by omega, by omega⟩
  have := take_any _ _ _ _ _ _ d v (v + 1) (1 + T) w (h.dv hrw) hf
  rw [show (((1 + T : Nat) : Int)) = 1 + (T : Int) by omega, show (((v + 1 : Nat) : Int)) = (v : Int) + 1 by omega] at this
  refine this.mono ?_
  rintro e w' ⟨a', cap', rfl, hrw', hb⟩
  exact ⟨a', cap', _, rfl, rfl, h.take hf, fun w1 hr => by rw [De.take_B]; exact hrw' w1 (h.dv hr), hb⟩
end Go.Proofs.Ytkfpphccpkfenaa
