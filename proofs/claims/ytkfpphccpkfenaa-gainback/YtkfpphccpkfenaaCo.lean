/- The rows of the document's examples. -/
import Derived.Test.YtkfpphccpkfenaaCn
namespace Go.Proofs.Ytkfpphccpkfenaa
open Go.RowKit
set_option linter.unusedVariables false
set_option linter.unusedSimpArgs false

theorem ev_new (w : World) : EvOf w 0 4294967295 none 0 0 En.new :=
  En.new_ok.ev (a := none) (cap := 0) ⟨none, 0, rfl, .inl rfl⟩
def knowE : En := ⟨2147483647, 0, 2147483648⟩
theorem know_eq : En.new.put 1 2 2 = knowE := by rfl
theorem know_put (w : World) : Calls Try.prog 43 #[.agg #[.int .u64 0, .int .u32 4294967295, .slice none 0 0], .int .i64 1, .int .i64 2, .int .i64 2] w fun x w' => ∃ a' cap', x = .returned (.tuple #[.agg #[.int .u64 2147483647, .int .u32 2147483648, .slice a' 0 cap'], .int .i64 0]) ∧ EvOf w' 2147483647 2147483648 a' 0 cap' knowE ∧ Below w.heap.size w w' := by
  have h := put_ok 0 4294967295 none 0 0 En.new 1 2 2 w (ev_new w) ⟨by decide, by decide, by decide⟩ (by decide)
  rw [know_eq] at h
  refine h.mono ?_
  rintro x w' ⟨a', cap', rfl, hown, hb⟩
  have hok : knowE.Ok := by rw [← know_eq]; exact En.put_ok En.new_ok ⟨by decide, by decide, by decide⟩ (by decide)
  exact ⟨a', cap', rfl, hok.ev (Rw.of_owns hown), hb⟩
theorem know_all : knowE.all = [127, 255, 255, 255] := by decide
theorem know_fin (a : Option Addr) (cap : Nat) (w : World) (h : EvOf w 2147483647 2147483648 a 0 cap knowE) : Calls Try.prog 24 #[.agg #[.int .u64 2147483647, .int .u32 2147483648, .slice a 0 cap]] w fun x w' => ∃ a' cap', x = .returned (.slice a' 4 cap') ∧ Rw .u8 w' (.slice a' 4 cap') [127, 255, 255, 255] ∧ Below w.heap.size w w' := by
  refine (finish_any _ _ _ _ _ knowE w h).mono ?_
  rintro x w' ⟨v', rfl, hown, hb⟩
  obtain ⟨a', cap', rfl, _⟩ := owns_open hown
  rw [know_all] at hown
  exact ⟨a', cap', rfl, Rw.of_owns hown, hb⟩
theorem know_open (a : Option Addr) (cap : Nat) (w : World) (h : Rw .u8 w (.slice a 4 cap) [127, 255, 255, 255]) : Calls Try.prog 23 #[.slice a 4 cap] w fun x w' => x = .returned (.agg #[.int .u64 2147483647, .int .u32 4294967295, .slice a 4 cap, .int .i64 4]) ∧ Below w.heap.size w w' :=
  open_any a cap [127, 255, 255, 255] w h (fun x hx => by simp at hx; omega) (by decide)
theorem know_dec (a : Option Addr) (cap : Nat) (w : World) (h : Rw .u8 w (.slice a 4 cap) [127, 255, 255, 255]) : DvOf w 2147483647 4294967295 a 4 cap 4 (De.open [127, 255, 255, 255]) :=
  (De.open_ok (B := [127, 255, 255, 255]) (fun x hx => by simp at hx; omega) (by decide)).dv h
theorem know_get (a : Option Addr) (cap : Nat) (w : World) (h : Rw .u8 w (.slice a 4 cap) [127, 255, 255, 255]) : Calls Try.prog 60 #[.agg #[.int .u64 2147483647, .int .u32 4294967295, .slice a 4 cap, .int .i64 4], .int .i64 2] w fun x w' => x = .returned (.tuple #[.int .i64 1, .int .i64 0]) ∧ Below w.heap.size w w' := by
  have := get_any _ _ _ _ _ _ _ 2 w (know_dec a cap w h) (by decide) (by decide)
  exact this
theorem open_none (w : World) : Calls Try.prog 23 #[.slice none 0 0] w fun x w' => x = .returned (.agg #[.int .u64 0, .int .u32 4294967295, .slice none 0 0, .int .i64 4]) ∧ Below w.heap.size w w' := by
  have := open_any none 0 [] w ⟨none, 0, rfl, .inl rfl⟩ Byts.nil (by simp)
  rw [De.open_nil] at this
  exact this

end Go.Proofs.Ytkfpphccpkfenaa
