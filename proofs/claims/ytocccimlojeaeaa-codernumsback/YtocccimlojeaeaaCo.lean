/- The rows of the document's examples. -/
import Derived.Test.YtocccimlojeaeaaCn
namespace Go.Proofs.Ytocccimlojeaeaa
open Go.RowKit
set_option linter.unusedVariables false
set_option linter.unusedSimpArgs false

theorem ev_new (w : World) : EvOf w 0 4294967295 none 0 0 En.new :=
  En.new_ok.ev (a := none) (cap := 0) ⟨none, 0, rfl, .inl rfl⟩
def knowE : En := ⟨2147483647, 0, 2147483648⟩
theorem know_eq : En.new.put 1 2 2 = knowE := by rfl
theorem know_put (w : World) : Calls Try.prog 12 #[.agg #[.int .u64 0, .int .u32 4294967295, .slice none 0 0], .int .i64 1, .int .i64 2, .int .i64 2] w fun x w' => ∃ a' cap', x = .returned (.tuple #[.agg #[.int .u64 2147483647, .int .u32 2147483648, .slice a' 0 cap'], .int .i64 0]) ∧ EvOf w' 2147483647 2147483648 a' 0 cap' knowE ∧ Below w.heap.size w w' := by
  have h := put_ok 0 4294967295 none 0 0 En.new 1 2 2 w (ev_new w) ⟨by decide, by decide, by decide⟩ (by decide)
  rw [know_eq] at h
  refine h.mono ?_
  rintro x w' ⟨a', cap', rfl, hown, hb⟩
  have hok : knowE.Ok := by rw [← know_eq]; exact En.put_ok En.new_ok ⟨by decide, by decide, by decide⟩ (by decide)
  exact ⟨a', cap', rfl, hok.ev (Rw.of_owns hown), hb⟩
theorem know_all : knowE.all = [127, 255, 255, 255] := by decide
theorem know_fin (a : Option Addr) (cap : Nat) (w : World) (h : EvOf w 2147483647 2147483648 a 0 cap knowE) : Calls Try.prog 18 #[.agg #[.int .u64 2147483647, .int .u32 2147483648, .slice a 0 cap]] w fun x w' => ∃ a' cap', x = .returned (.slice a' 4 cap') ∧ Rw .u8 w' (.slice a' 4 cap') [127, 255, 255, 255] ∧ Below w.heap.size w w' := by
  refine (finish_any _ _ _ _ _ knowE w h).mono ?_
  rintro x w' ⟨v', rfl, hown, hb⟩
  obtain ⟨a', cap', rfl, _⟩ := owns_open hown
  rw [know_all] at hown
  exact ⟨a', cap', rfl, Rw.of_owns hown, hb⟩
theorem know_open (a : Option Addr) (cap : Nat) (w : World) (h : Rw .u8 w (.slice a 4 cap) [127, 255, 255, 255]) : Calls Try.prog 27 #[.slice a 4 cap] w fun x w' => x = .returned (.agg #[.int .u64 2147483647, .int .u32 4294967295, .slice a 4 cap, .int .i64 4]) ∧ Below w.heap.size w w' :=
  open_any a cap [127, 255, 255, 255] w h (fun x hx => by simp at hx; omega) (by decide)
theorem know_dec (a : Option Addr) (cap : Nat) (w : World) (h : Rw .u8 w (.slice a 4 cap) [127, 255, 255, 255]) : DvOf w 2147483647 4294967295 a 4 cap 4 (De.open [127, 255, 255, 255]) :=
  (De.open_ok (B := [127, 255, 255, 255]) (fun x hx => by simp at hx; omega) (by decide)).dv h
theorem know_get (a : Option Addr) (cap : Nat) (w : World) (h : Rw .u8 w (.slice a 4 cap) [127, 255, 255, 255]) : Calls Try.prog 20 #[.agg #[.int .u64 2147483647, .int .u32 4294967295, .slice a 4 cap, .int .i64 4], .int .i64 2] w fun x w' => x = .returned (.tuple #[.int .i64 1, .int .i64 0]) ∧ Below w.heap.size w w' := by
  have := get_any _ _ _ _ _ _ _ 2 w (know_dec a cap w h) (by decide) (by decide)
  exact this
theorem open_none (w : World) : Calls Try.prog 27 #[.slice none 0 0] w fun x w' => x = .returned (.agg #[.int .u64 0, .int .u32 4294967295, .slice none 0 0, .int .i64 4]) ∧ Below w.heap.size w w' := by
  have := open_any none 0 [] w ⟨none, 0, rfl, .inl rfl⟩ Byts.nil (by simp)
  rw [De.open_nil] at this
  exact this

set_option maxRecDepth 10000 in
set_option maxHeartbeats 1000000 in
theorem knows_any (w : World) : Calls Try.prog 11 #[] w fun x w' => x = .returned (.bool true) ∧ Below w.heap.size w w' := by
  have e1 : encB 2147483647 2147483648 0 = true := by decide
  have e2 : decB 0 4294967295 4 = true := by decide
  have hs : ((strOfNums [127, 255, 255, 255]).toList == [127, 255, 255, 255]) = true := by rw [ByteArray.toList_eq]; decide
  go_enter Try.func11, Try.ntmps11
  go_wp2_with (first | (go_at_call 33; refine (new_any _).mono ?_; rintro x w1 ⟨rfl, hb1⟩) | (go_at_call 12; refine (know_put _).mono ?_; rintro x w2 ⟨a2, cap2, rfl, hev, hb2⟩; have hbw2 := bthen hb1 hb2 hb1.size; have hbx2 := hbw2.alloc hbw2.size (.cells #[.int .u64 2147483647, .int .u32 2147483648, .slice a2 0 cap2] 26); have hev2 := hev.below (below1 w2 (.cells #[.int .u64 2147483647, .int .u32 2147483648, .slice a2 0 cap2] 26)); have hB := B3.new w2 (.int .u64 2147483647) (.int .u32 2147483648) (.slice a2 0 cap2) 26) | (go_at_call 18; refine (know_fin _ _ _ hev2).mono ?_; rintro x w3 ⟨a3, cap3, rfl, hrw3, hb3⟩; have hB3 := hB.below hb3; have hbx3 := bthen hbx2 hb3 hbx2.size) | (go_at_call_of 27 (Value.slice a3 4 cap3); refine (know_open _ _ _ hrw3).mono ?_; rintro x w4 ⟨rfl, hb4⟩; have hB4 := hB3.below hb4; have hbx4 := bthen hbx3 hb4 hbx3.size; have hrw4 := hrw3.below hb4) | (go_at_call 20; refine (know_get _ _ _ hrw4).mono ?_; rintro x w5 ⟨rfl, hb5⟩; obtain ⟨z, c0, c1, c2, f0, f1, f2⟩ := hB4.below hb5; have hbx5 := bthen hbx4 hb5 hbx4.size; have hcv := conv_rw (P := Try.prog) (hrw4.below hb5) 24 9 5 Try.underlying24 Try.underlying5 Try.underlying9) | (go_at_call 15; refine (rightEnc_any _ _ _ _ _ _).mono ?_; rw [e1]; rintro x w6 ⟨rfl, hb6⟩; have hbx6 := bthen hbx5 hb6 hbx5.size) | (go_at_call_of 27 (Value.slice none 0 0); refine (open_none _).mono ?_; rintro x w7 ⟨rfl, hb7⟩; have hbx7 := bthen hbx6 hb7 hbx6.size) | (go_at_call 26; refine (rightDec_any _ _ _ _ _ _ _).mono ?_; rw [e2]; rintro x w8 ⟨rfl, hb8⟩; have hbx8 := bthen hbx7 hb8 hbx7.size))
  go_ret
  exact ⟨rfl, hbx8⟩
end Go.Proofs.Ytocccimlojeaeaa
