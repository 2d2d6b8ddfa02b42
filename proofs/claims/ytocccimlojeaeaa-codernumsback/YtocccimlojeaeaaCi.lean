/- All bytes of an encoder; what is carried. -/
import Derived.Test.YtocccimlojeaeaaCh
namespace Go.Proofs.Ytocccimlojeaeaa
open Go.RowKit
set_option linter.unusedVariables false
set_option linter.unusedSimpArgs false

theorem cell_four_new (w : World) (x y z u : Value) (t : TypeId) : ∀ j v, [x, y, z, u][j]? = some v → (w.alloc (.cells #[x, y, z, u] t)).cell? ((⟨w.heap.size, 0, none⟩ : Addr).add j) = some v := by
  intro j v h
  match j, h with
  | 0, h => simp at h; subst h; simp [Addr.add, go_sem]
  | 1, h => simp at h; subst h; simp [Addr.add, go_sem]
  | 2, h => simp at h; subst h; simp [Addr.add, go_sem]
  | 3, h => simp at h; subst h; simp [Addr.add, go_sem]
  | j + 4, h => simp at h

theorem cell_four_at {W : World} {k : Nat} (hk : W.heap.size = k) (x y z u : Value) (t : TypeId) : ∀ j v, [x, y, z, u][j]? = some v → (W.alloc (.cells #[x, y, z, u] t)).cell? ((⟨k, 0, none⟩ : Addr).add j) = some v := by
  subst hk; exact cell_four_new W x y z u t
theorem cell_one_at {W : World} {k : Nat} (hk : W.heap.size = k) (x : Value) (t : TypeId) : ∀ j v, [x][j]? = some v → (W.alloc (.cells #[x] t)).cell? ((⟨k, 0, none⟩ : Addr).add j) = some v := by
  subst hk
  intro j v h
  match j, h with
  | 0, h => simp at h; subst h; simp [Addr.add, go_sem]
  | j + 1, h => simp at h

set_option maxRecDepth 10000 in
set_option maxHeartbeats 2000000 in
theorem finish_any (L R : Int) (a : Option Addr) (n cap : Nat) (e : En) (w : World) (h : EvOf w L R a n cap e) :
    Calls Try.prog 18 #[.agg #[.int .u64 L, .int .u32 R, .slice a n cap]] w fun x w' => ∃ v', x = .returned v' ∧ w'.ownsRow w.heap.size 5 1 v' (e.m + 4) (e.all.map (Value.int .u8)) ∧ Below w.heap.size w w' := by
  have hle := h.1.le
  have hlow := En.Ok.low_lt e
  obtain ⟨i0, hi, hz0, hz1, hz2⟩ := info_parts info5
  have hW := below1 w (.cells #[.int .u64 L, .int .u32 R, .slice a n cap] 26)
  have hall : e.all.map (Value.int .u8) = e.out.map (Value.int .u8) ++ [.int .u8 ((e.low : Int) / 16777216), .int .u8 ((e.low : Int) / 65536 % 256), .int .u8 ((e.low : Int) / 256 % 256), .int .u8 ((e.low : Int) % 256)] := by
    rw [En.all_eq]
    simp only [List.map_append, List.map_cons, List.map_nil]
    rfl
  rw [hall]
  clear hall
  obtain ⟨l, hl⟩ : ∃ l : Int, (e.low : Int) = l := ⟨_, rfl⟩
  have l0 : 0 ≤ l := by omega
  have l1 : l < 4294967296 := by omega
  rw [hl]
  have HL : Hid ((e.low : Int) = l) := hl
  clear hl hlow
  go_enter Try.func18, Try.ntmps18
  go_wp2_with (first | (go_at_call 35; refine (encFor_any _ _ _ _ _ e _ (h.below hW)).mono ?_; rintro x w1 ⟨a1, cap1, rfl, hown, hb1⟩; unfold encV; rw [HL.out]; obtain ⟨z, c0, c1, c2, f0, f1, f2⟩ := (B3.new w _ _ _ _).below hb1; have hown1 : w1.ownsRow (w.heap.size + 1) 5 1 (.slice a1 e.m cap1) e.m (e.out.map (Value.int .u8)) := (by simpa using hown); clear hown; have hown2 : (((w1.setCell ⟨w.heap.size, 0, none⟩ (.int .u64 l)).setCell ⟨w.heap.size, 1, none⟩ (.int .u32 e.R)).setCell ⟨w.heap.size, 2, none⟩ (.slice a1 e.m cap1)).ownsRow (w.heap.size + 1) 5 1 (.slice a1 e.m cap1) e.m (e.out.map (Value.int .u8)) := (owns_other (owns_other (owns_other hown1 _ _ _ (by omega)) _ _ _ (by omega)) _ _ _ (by omega))) | (at_builtin; refine wpList_append_own _ rfl _ _ 24 rfl (w.heap.size + 1) 5 i0 (.int .u8 0) 1 1 Try.underlying24 hi hz0 hz1 hz2 rfl (by decide) _ _ _ rfl (hown2.alloc _) ⟨w1.heap.size, 0, none⟩ 4 4 [.int .u8 (l / 16777216), .int .u8 (l / 65536 % 256), .int .u8 (l / 256 % 256), .int .u8 (l % 256)] rfl rfl (cell_four_at (by simp [World.setCell]) _ _ _ _ _) ?c2 ?c3 ?c4 ?c5 ?_))
  case c2 => intro u hu; simp at hu; rcases hu with rfl | rfl | rfl | rfl <;> rfl
  case c3 => unfold maxLen; omega
  case c4 => omega
  case c5 => simp [World.setCell]; omega
  intro v' w2 hown' hgrow _
  have hz1 := hb1.size
  simp at hz1
  have hbb : Below w.heap.size w w2 := by
    have h1 := bset3 (bthen hW hb1 hW.size) w.heap.size (.int .u64 l) (.int .u32 e.R) (.slice a1 e.m cap1) (Nat.le_refl _)
    refine (h1.alloc h1.size _).grown hgrow (by simp [World.setCell]; omega) (fun k hk => ?_)
    have := (hown2.lt k hk).1
    omega
  go_wp2
  go_ret
  exact ⟨_, rfl, owns_base hown' (by omega), hbb⟩
end Go.Proofs.Ytocccimlojeaeaa
