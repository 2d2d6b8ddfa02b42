/- All bytes of an encoder; what is carried. -/
import Derived.Test.YtkfpphccpkfenaaCh
namespace Go.Proofs.Ytkfpphccpkfenaa
open Go.RowKit
set_option linter.unusedVariables false
set_option linter.unusedSimpArgs false

set_option maxRecDepth 10000 in
set_option maxHeartbeats 2000000 in
theorem finish_any (L R : Int) (a : Option Addr) (n cap : Nat) (e : En) (w : World) (h : EvOf w L R a n cap e) :
    Calls Try.prog 24 #[.agg #[.int .u64 L, .int .u32 R, .slice a n cap]] w fun x w' => ∃ v', x = .returned v' ∧ w'.ownsRow w.heap.size 5 1 v' (e.m + 4) (e.all.map (Value.int .u8)) ∧ Below w.heap.size w w' := by
  have hle := h.1.le
  have hlow := En.Ok.low_lt e
  obtain ⟨i0, hi, hz0, hz1, hz2⟩ := info_parts info5
  have hW := below1 w (.cells #[.int .u64 L, .int .u32 R, .slice a n cap] 26)
  have hall : e.all.map (Value.int .u8) = e.out.map (Value.int .u8) ++ [.int .u8 ((e.low : Int) / 16777216), .int .u8 ((e.low : Int) / 65536 % 256), .int .u8 ((e.low : Int) / 256 % 256), .int .u8 ((e.low : Int) % 256)] := by
    rw [En.all_eq]
    simp only [List.map_append, List.map_cons, List.map_nil]
    rfl
  rw [hall]
  clear hall
  obtain ⟨l, hl⟩ : ∃ l : Int, (e.low : Int) = l := ⟨_, rfl⟩
  have l0 : 0 ≤ l := by omega
  have l1 : l < 4294967296 := by omega
  rw [hl]
  have HL : Hid ((e.low : Int) = l) := hl
  clear hl hlow
  go_enter Try.func24, Try.ntmps24
  go_wp2_with (first | (go_at_call 42; refine (encFor_any _ _ _ _ _ e _ (h.below hW)).mono ?_; rintro x w1 ⟨a1, cap1, rfl, hown, hb1⟩; unfold encV; rw [HL.out]; obtain ⟨z, c0, c1, c2, f0, f1, f2⟩ := (B3.new w _ _ _ _).below hb1; have hown1 : w1.ownsRow (w.heap.size + 1) 5 1 (.slice a1 e.m cap1) e.m (e.out.map (Value.int .u8)) := (by simpa using hown); clear hown; have hown2 : (((w1.setCell ⟨w.heap.size, 0, none⟩ (.int .u64 l)).setCell ⟨w.heap.size, 1, none⟩ (.int .u32 e.R)).setCell ⟨w.heap.size, 2, none⟩ (.slice a1 e.m cap1)).ownsRow (w.heap.size + 1) 5 1 (.slice a1 e.m cap1) e.m (e.out.map (Value.int .u8)) := (owns_other (owns_other (owns_other hown1 _ _ _ (by omega)) _ _ _ (by omega)) _ _ _ (by omega))) | (at_builtin; refine wpList_append_own _ rfl _ _ 24 rfl (w.heap.size + 1) 5 i0 (.int .u8 0) 1 1 Try.underlying24 hi hz0 hz1 hz2 rfl (by decide) _ _ _ rfl (hown2.alloc _) ⟨w1.heap.size, 0, none⟩ 4 4 [.int .u8 (l / 16777216), .int .u8 (l / 65536 % 256), .int .u8 (l / 256 % 256), .int .u8 (l % 256)] rfl rfl (cell_four_at (by simp [World.setCell]) _ _ _ _ _) ?c2 ?c3 ?c4 ?c5 ?_))
  case c2 => intro u hu; simp at hu; rcases hu with rfl | rfl | rfl | rfl <;> rfl
  case c3 => unfold maxLen; omega
  case c4 => omega
  case c5 => simp [World.setCell]; omega
  intro v' w2 hown' hgrow _
  have hz1 := hb1.size
  simp at hz1
  have hbb : Below w.heap.size w w2 := by
    have h1 := bset3 (bthen hW hb1 hW.size) w.heap.size (.int .u64 l) (.int .u32 e.R) (.slice a1 e.m cap1) (Nat.le_refl _)
    refine (h1.alloc h1.size _).grown hgrow (by simp [World.setCell]; omega) (fun k hk => ?_)
    have := (hown2.lt k hk).1
    omega
  go_wp2
  go_ret
  exact ⟨_, rfl, owns_base hown' (by omega), hbb⟩
end Go.Proofs.Ytkfpphccpkfenaa
