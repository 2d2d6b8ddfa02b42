/- Decoders in the forms that the laws' second loops want. -/
import Derived.Test.YtkfpphccpkfenaaCv
namespace Go.Proofs.Ytkfpphccpkfenaa
open Go.RowKit
set_option linter.unusedVariables false
set_option linter.unusedSimpArgs false

theorem get_dec {d : De} (h : d.Ok) {tot : Nat} (h1 : 1 ≤ tot) (h2 : tot ≤ 65536) (a : Option Addr) (cap : Nat) (W : World) (hr : Rw .u8 W (.slice a d.B.length cap) d.B) :
    Calls Try.prog 60 #[.agg #[.int .u64 d.C, .int .u32 d.R, .slice a d.B.length cap, .int .i64 d.A], .int .i64 tot] W fun e w' => e = .returned (.tuple #[.int .i64 (d.get tot : Nat), .int .i64 0]) ∧ Below W.heap.size W w' :=
  get_any _ _ _ _ _ _ d tot W (h.dv hr) h1 h2
theorem take_dec {d : De} (h : d.Ok) {lo hi tot : Nat} (hf : Fair lo hi tot) (a : Option Addr) (cap : Nat) (W : World) (hr : Rw .u8 W (.slice a d.B.length cap) d.B) :
    Calls Try.prog 61 #[.agg #[.int .u64 d.C, .int .u32 d.R, .slice a d.B.length cap, .int .i64 d.A], .int .i64 lo, .int .i64 hi, .int .i64 tot] W fun e w' => ∃ a' cap', e = .returned (.tuple #[.agg #[.int .u64 (d.take lo hi tot).C, .int .u32 (d.take lo hi tot).R, .slice a' (d.take lo hi tot).B.length cap', .int .i64 (d.take lo hi tot).A], .int .i64 0]) ∧ (∀ w1, Rw .u8 w1 (.slice a d.B.length cap) d.B → Rw .u8 w1 (.slice a' (d.take lo hi tot).B.length cap') (d.take lo hi tot).B) ∧ Below W.heap.size W w' := by
  refine (take_any _ _ _ _ _ _ d lo hi tot W (h.dv hr) hf).mono ?_
  rintro e w' ⟨a', cap', rfl, hrw, hb⟩
  refine ⟨a', cap', rfl, fun w1 h1 => ?_, hb⟩
  rw [De.take_B]
  exact hrw w1 (h.dv h1)
theorem open_dec {B : List Int} (hB : Byts B) (hl : B.length ≤ 5000) (a : Option Addr) (cap : Nat) (W : World) (hr : Rw .u8 W (.slice a B.length cap) B) :
    Calls Try.prog 23 #[.slice a B.length cap] W fun e w' => e = .returned (.agg #[.int .u64 (De.open B).C, .int .u32 (De.open B).R, .slice a (De.open B).B.length cap, .int .i64 (De.open B).A]) ∧ Below W.heap.size W w' :=
  open_any a cap B W hr hB hl
theorem track_new {K : List (Nat × Nat × Nat)} (hK : Fairs K) : Track (puts En.new K).N (puts En.new K).m (puts En.new (K.take 0)) (De.open (puts En.new K).all) :=
  Track.init (En.new_good.puts hK).lt
end Go.Proofs.Ytkfpphccpkfenaa
