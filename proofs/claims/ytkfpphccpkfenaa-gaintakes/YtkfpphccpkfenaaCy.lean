/- A number is put: the program. -/
import Derived.Test.YtkfpphccpkfenaaCx
import Derived.Deep.CutRange
import Derived.Deep.DeepCutAuto
namespace Go.Proofs.Ytkfpphccpkfenaa
open Go.RowKit
set_option linter.unusedVariables false
set_option linter.unusedSimpArgs false

theorem upper_any (n : Nat) (h1 : 1 ≤ n) (h2 : n ≤ 4294967296) (w : World) : Calls Try.prog 56 #[.int .u64 n] w fun x w' => x = .returned (.int .u64 (((n - 1) / 65536 + 1 : Nat) : Int)) ∧ w' = w := by
  obtain ⟨k, rfl⟩ : ∃ k, n = k + 1 := ⟨n - 1, by omega⟩
  obtain ⟨q, hq, hq2⟩ : ∃ q : Nat, ((k : Int).tdiv 65536) = (q : Int) ∧ q = k / 65536 := ⟨k / 65536, rfl, rfl⟩
  rw [show k + 1 - 1 = k by omega, ← hq2]
  have hq3 : q ≤ 65536 := by omega
  rw [show ((k + 1 : Nat) : Int) = (k : Int) + 1 by omega, show ((q + 1 : Nat) : Int) = (q : Int) + 1 by omega]
  clear hq2 h1
  go_enter Try.func56, Try.ntmps56
  go_wp2
  go_ret
  exact ⟨rfl, rfl⟩

set_option maxRecDepth 10000 in
set_option maxHeartbeats 2000000 in
theorem putOne_any (L R : Int) (a : Option Addr) (n cap : Nat) (e : En) (v t : Nat) (hv : v ≤ 4294967296) (ht : t ≤ 4294967296) (w : World) (h : EvOf w L R a n cap e) :
    Calls Try.prog 55 #[.agg #[.int .u64 L, .int .u32 R, .slice a n cap], .int .u64 v, .int .u64 t] w fun x w' => ∃ a' cap', x = .returned (.tuple #[.agg #[.int .u64 (putE e v (v + 1) t).low, .int .u32 (putE e v (v + 1) t).R, .slice a' (putE e v (v + 1) t).m cap'], .int .i64 (putF e v (v + 1) t)]) ∧ RwF w.heap.size .u8 w' (.slice a' (putE e v (v + 1) t).m cap') (putE e v (v + 1) t).out ∧ Below w.heap.size w w' := by
  have hW := below2 w (.cells #[.int .u64 L, .int .u32 R, .slice a n cap] 26) (.cells #[.int .u64 0, .int .u32 0, .slice none 0 0] 26)
  have hput := fun W h => put_all L R a n cap e v (v + 1) t W h
  generalize putE e v (v + 1) t = F at *
  generalize putF e v (v + 1) t = er at *
  have i1 : IntKind.i64.wrap (v : Int) = v := wraps_i64 _ (by omega) (by omega)
  have i2 : IntKind.i64.wrap (t : Int) = t := wraps_i64 _ (by omega) (by omega)
  go_enter Try.func55, Try.ntmps55
  go_wp2_with (go_at_call 43; refine (hput _ (h.below hW)).mono ?_; rintro x w1 ⟨a1, cap1, rfl, hown, hb1⟩; obtain ⟨rz, r0, r1, r2, p0, p1, p2⟩ := (B3.new2 w _ _ _ _ _).below hb1)
  have hbw := bthen hW hb1 hW.size
  refine bodyPost_ret (v := .tuple #[.agg #[.int .u64 F.low, .int .u32 F.R, .slice a1 F.m cap1], .int .i64 er]) (by simp [results, Try.results55, go_sem, r0, r1, r2, p0, p1, p2]) rfl ⟨a1, cap1, rfl, ?_, bset3 hbw _ _ _ _ (by omega)⟩
  have q := RwF.of_owns hown
  simp only [World.size_alloc] at q
  exact (((q.set _ _ _ (by omega)).set _ _ _ (by omega)).set _ _ _ (by omega)).mono (by omega)

/-! ### What PutNum answers -/
def putNE (e : En) (v n : Nat) : En :=
  if n = 0 ∨ 4294967296 < n ∨ n ≤ v then e
  else if n ≤ 65536 then putE e v (v + 1) n
  else if putF e (v / 65536 : Nat) ((v / 65536 : Nat) + 1) ((n - 1) / 65536 + 1 : Nat) = 0 then
    (if putF (putE e (v / 65536 : Nat) ((v / 65536 : Nat) + 1) ((n - 1) / 65536 + 1 : Nat)) (v % 65536 : Nat) ((v % 65536 : Nat) + 1) (65536 : Nat) = 0 then putE (putE e (v / 65536 : Nat) ((v / 65536 : Nat) + 1) ((n - 1) / 65536 + 1 : Nat)) (v % 65536 : Nat) ((v % 65536 : Nat) + 1) (65536 : Nat) else e)
  else e
def putNF (e : En) (v n : Nat) : Int :=
  if n = 0 ∨ 4294967296 < n ∨ n ≤ v then 1
  else if n ≤ 65536 then putF e v (v + 1) n
  else if putF e (v / 65536 : Nat) ((v / 65536 : Nat) + 1) ((n - 1) / 65536 + 1 : Nat) = 0 then
    putF (putE e (v / 65536 : Nat) ((v / 65536 : Nat) + 1) ((n - 1) / 65536 + 1 : Nat)) (v % 65536 : Nat) ((v % 65536 : Nat) + 1) (65536 : Nat)
  else putF e (v / 65536 : Nat) ((v / 65536 : Nat) + 1) ((n - 1) / 65536 + 1 : Nat)
theorem putNE_ok {e : En} (h : e.Ok) (v n : Nat) : (putNE e v n).Ok := by
  unfold putNE
  repeat' split
  all_goals first | exact h | exact putE_ok h _ _ _ | exact putE_ok (putE_ok h _ _ _) _ _ _

/-- The program's answer. -/
def PutN (w : World) (x : Ending) (w' : World) (F : En) (er : Int) : Prop := ∃ a' cap', x = .returned (.tuple #[.agg #[.int .u64 F.low, .int .u32 F.R, .slice a' F.m cap'], .int .i64 er]) ∧ RwF w.heap.size .u8 w' (.slice a' F.m cap') F.out ∧ Below w.heap.size w w'

theorem encFor_row (L R : Int) (a : Option Addr) (n cap : Nat) (e : En) (w : World) (h : EvOf w L R a n cap e) :
    Calls Try.prog 42 #[.agg #[.int .u64 L, .int .u32 R, .slice a n cap]] w fun x w' => ∃ a' cap', x = .returned (.agg #[.int .u64 e.low, .int .u32 e.R, .slice a' e.m cap']) ∧ RwF w.heap.size .u8 w' (.slice a' e.m cap') e.out ∧ Below w.heap.size w w' := by
  refine (encFor_any L R a n cap e w h).mono ?_
  rintro x w' ⟨a', cap', rfl, hown, hb⟩
  exact ⟨a', cap', rfl, RwF.of_owns hown, hb⟩

set_option maxRecDepth 10000 in
set_option maxHeartbeats 2000000 in
theorem putNum_arg (L R : Int) (a : Option Addr) (m cap : Nat) (e : En) (v n : Nat) (hn : n = 0 ∨ 4294967296 < n ∨ n ≤ v) (w : World) (h : EvOf w L R a m cap e) :
    Calls Try.prog 44 #[.agg #[.int .u64 L, .int .u32 R, .slice a m cap], .int .u64 v, .int .u64 n] w fun x w' => PutN w x w' e 1 := by
  have hW := below2 w (.cells #[.int .u64 L, .int .u32 R, .slice a m cap] 26) (.cells #[.int .u64 0, .int .u32 0, .slice none 0 0] 26)
  have h3 : (n : Int) < 1 ∨ (¬ (n : Int) < 1 ∧ (4294967296 : Int) < n) ∨ (¬ (n : Int) < 1 ∧ ¬ (4294967296 : Int) < n ∧ (n : Int) ≤ v) := by omega
  clear hn
  rcases h3 with h1 | ⟨h1, h2⟩ | ⟨h1, h2, h3⟩
  all_goals
    go_enter Try.func44, Try.ntmps44
    go_wp2_with (go_at_call 42; refine (encFor_row _ _ _ _ _ e _ (h.below hW)).mono ?_; rintro x w1 ⟨a1, cap1, rfl, q, hb1⟩; obtain ⟨rz, r0, r1, r2, p0, p1, p2⟩ := (B3.new2 w _ _ _ _ _).below hb1)
    have hbw := bthen hW hb1 hW.size
    refine bodyPost_ret (v := .tuple #[.agg #[.int .u64 e.low, .int .u32 e.R, .slice a1 e.m cap1], .int .i64 1]) (by simp [results, Try.results44, go_sem, r0, r1, r2, p0, p1, p2]) rfl ⟨a1, cap1, rfl, ?_, bset3 hbw _ _ _ _ (by omega)⟩
    simp only [World.size_alloc] at q
    exact (((q.set _ _ _ (by omega)).set _ _ _ (by omega)).set _ _ _ (by omega)).mono (by omega)

set_option maxRecDepth 10000 in
set_option maxHeartbeats 2000000 in
theorem putNum_small (L R : Int) (a : Option Addr) (m cap : Nat) (e : En) (v n : Nat) (h1 : 1 ≤ n) (h2 : n ≤ 65536) (h3 : v < n) (w : World) (h : EvOf w L R a m cap e) :
    Calls Try.prog 44 #[.agg #[.int .u64 L, .int .u32 R, .slice a m cap], .int .u64 v, .int .u64 n] w fun x w' => PutN w x w' (putE e v (v + 1) n) (putF e v (v + 1) n) := by
  have hW := below2 w (.cells #[.int .u64 L, .int .u32 R, .slice a m cap] 26) (.cells #[.int .u64 0, .int .u32 0, .slice none 0 0] 26)
  have hone := fun W h => putOne_any L R a m cap e v n (by omega) (by omega) W h
  generalize putE e v (v + 1) n = F at *
  generalize putF e v (v + 1) n = er at *
  have k1 : ¬ (n : Int) < 1 := by omega
  have k2 : ¬ (4294967296 : Int) < n := by omega
  have k3 : ¬ (n : Int) ≤ v := by omega
  have k4 : (n : Int) ≤ 65536 := by omega
  clear h1 h2 h3
  go_enter Try.func44, Try.ntmps44
  go_wp2_with (go_at_call 55; refine (hone _ (h.below hW)).mono ?_; rintro x w1 ⟨a1, cap1, rfl, q, hb1⟩; obtain ⟨rz, r0, r1, r2, p0, p1, p2⟩ := (B3.new2 w _ _ _ _ _).below hb1)
  have hbw := bthen hW hb1 hW.size
  refine bodyPost_ret (v := .tuple #[.agg #[.int .u64 F.low, .int .u32 F.R, .slice a1 F.m cap1], .int .i64 er]) (by simp [results, Try.results44, go_sem, r0, r1, r2, p0, p1, p2]) rfl ⟨a1, cap1, rfl, ?_, bset3 hbw _ _ _ _ (by omega)⟩
  simp only [World.size_alloc] at q
  exact (((q.set _ _ _ (by omega)).set _ _ _ (by omega)).set _ _ _ (by omega)).mono (by omega)
end Go.Proofs.Ytkfpphccpkfenaa
