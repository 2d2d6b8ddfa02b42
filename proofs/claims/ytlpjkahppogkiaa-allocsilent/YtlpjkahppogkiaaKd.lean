/- Contract of the program's add: one pulse more of a band. -/
import Derived.Test.YtlpjkahppogkiaaKc
import Derived.Deep.RegionWith
import Derived.Deep.DeepCutAuto
import Derived.Deep.CutRange
namespace Go.Proofs.Ytlpjkahppogkiaa
open Go.RowKit
set_option linter.unusedVariables false
set_option linter.unusedSimpArgs false

/-- All blocks but two stay as they are. -/
def But (W w' : World) (s p : Nat) : Prop := ∀ q, q < W.heap.size → q ≠ s → q ≠ p → w'.heap[q]? = W.heap[q]?
theorem But.cell {W w' : World} {s p q o : Nat} {v : Value} (h : But W w' s p) (hc : W.cell? ⟨q, o, none⟩ = some v) (h1 : q ≠ s) (h2 : q ≠ p) : w'.cell? ⟨q, o, none⟩ = some v := (World.cell?_of_block (w := W) (h q (block_of_cell hc) h1 h2)).trans hc
theorem But.below {W w' : World} {s p : Nat} (h : Below W.heap.size W w') : But W w' s p := fun q hq _ _ => h.block q hq
theorem But.set1 {W w' : World} {s p : Nat} (h : But W w' s p) (o : Nat) (v : Value) : But W (w'.setCell ⟨s, o, none⟩ v) s p := fun q hq h1 h2 => (heap_setCell_other _ _ _ _ h1).trans (h q hq h1 h2)
theorem But.set2 {W w' : World} {s p : Nat} (h : But W w' s p) (o : Nat) (v : Value) : But W (w'.setCell ⟨p, o, none⟩ v) s p := fun q hq h1 h2 => (heap_setCell_other _ _ _ _ h2).trans (h q hq h1 h2)
theorem Sh.left {W : World} {s p gb go gc : Nat} {g : List Int} {f : Nat → Nat} {left : Int} (h : Sh W s p gb go gc g f left) (left2 : Int) : Sh (W.setCell ⟨s, 2, none⟩ (.int .i64 left2)) s p gb go gc g f left2 :=
  ⟨h.box.set2 _, fun i hi => (World.cell?_of_block (w := W) (Below.heap_setCell W ⟨s, 2, none⟩ _ gb (Ne.symm h.n2))).trans (h.ga i hi), by simpa [World.setCell] using h.gl, h.pu.other s 2 _ (Ne.symm h.n1), h.n1, h.n2, h.n3⟩
theorem Sh.more {W : World} {s p gb go gc : Nat} {g : List Int} {f : Nat → Nat} {left : Int} (h : Sh W s p gb go gc g f left) (b : Nat) (hb : b < 5) : Sh (W.setCell ⟨p, b, none⟩ (.int .i64 ((f b : Int) + 1))) s p gb go gc g (up f b) left := by
  refine ⟨h.box.other p b _ h.n1, fun i hi => (World.cell?_of_block (w := W) (Below.heap_setCell W ⟨p, b, none⟩ _ gb (Ne.symm h.n3))).trans (h.ga i hi), by simpa [World.setCell] using h.gl, ?_, h.n1, h.n2, h.n3⟩
  rw [← pls_set f b hb]
  exact h.pu.set b _
theorem Sh.drew {W : World} {s p gb go gc : Nat} {g : List Int} {f : Nat → Nat} {left : Int} (h : Sh W s p gb go gc g f left) : Sh W.drew s p gb go gc g f left := h.below (Below.refl _ _).drew

set_option maxHeartbeats 2000000 in
theorem add_any (s p gb go gc b B : Nat) (g : List Int) (f : Nat → Nat) (room : Int) (W : World) (H : Sh W s p gb go gc g f (room - sp f)) (hb : b < 5) (hf : f b ≤ 11) (h1 : -1000 ≤ room - sp f) (h2 : room - sp f ≤ 1000) (hs : B ≤ s) (hp : B ≤ p) : Calls Try.prog 33 #[.pointer (some ⟨s, 0, none⟩), .int .i64 (b : Nat)] W fun e w' => e = .returned (.tuple #[]) ∧ Sh w' s p gb go gc g (up f b) (room - sp (up f b)) ∧ Below B W w' ∧ But W w' s p := by
  have hpr := fun (w : World) (hw : Below W.heap.size W w) => price_any s p gb go gc b g f _ w (H.below hw) hb hf
  have l1 := co_le b (f b) hb (by omega)
  have l2 := co_le b (f b + 1) hb (by omega)
  have hup := sp_up f b hb
  have hset := hid (pls_set f b hb)
  have hK := fun w' h => Sh.held5 (w' := w') h H hb
  have HH := hid H
  have HU : Hid (room - sp f - ((co b (f b + 1) : Int) - co b (f b)) = room - sp (up f b)) := by unfold Hid; omega
  have hf1 := H.box.f2
  have i1 : (0 : Int) ≤ (b : Int) := by omega
  have i2 : (b : Int) < 5 := by omega
  have i3 : IntKind.i64.wrap (b : Int) = b := wraps_i64 _ (by omega) (by omega)
  have HL := hid (pls_len f)
  have HB := hid hb
  generalize room - (sp (up f b) : Int) = left2 at *
  generalize hLL : room - (sp f : Int) = left at *
  have hP1 : -64 ≤ (co b (f b + 1) : Int) - co b (f b) := by omega
  have hP2 : (co b (f b + 1) : Int) - co b (f b) ≤ 64 := by omega
  generalize (co b (f b + 1) : Int) - co b (f b) = P at *
  generalize hkk : f b = k at *
  have HKK := hid hkk
  clear H hup l1 l2 hLL hkk hb
  go_enter Try.func33, Try.ntmps33
  go_wp2
  have HBW : Hid (B ≤ W.heap.size) := by have := HH.out.box.z; unfold Hid; omega
  have e2 : IntKind.i64.wrap (left - P) = left2 := by rw [← HU.out]; exact wraps_i64 _ (by omega) (by omega)
  have i5 : IntKind.i64.wrap ((k : Int) + 1) = (k : Int) + 1 := wraps_i64 _ (by omega) (by omega)
  go_cut [] (fun wz => Hid (Sh wz s p gb go gc g f left2 ∧ Below B W wz ∧ But W wz s p))
  case first =>
    have c2 := HH.out.box.c2
    go_region_with (first | (go_at_call 38; refine (hpr _ (by first | exact (Below.refl _ _).drew | exact Below.refl _ _)).mono ?_; rintro e y1 ⟨rfl, e1⟩; have hy1 : Below W.heap.size W y1 := (by first | exact drew_below e1 | exact e1); have HY1 := hid hy1; have c3 := (HH.out.below hy1).box.c2; have c4 := (HH.out.below hy1).box.f2))
    all_goals go_wp2
    all_goals go_meet
    all_goals exact ⟨(HH.out.below HY1.out).left left2, ((HY1.out.mono HBW.out).setCell (p := ⟨s, 2, none⟩) hs _), (But.below HY1.out).set1 2 _⟩
  case rest =>
    have HR := hid hcut.out.1
    have HBB := hid hcut.out.2.1
    have HBT := hid hcut.out.2.2
    clear hcut
    have c1 := HR.out.box.c1
    have d1 := HR.out.pat b HB.out
    have f1 := HR.out.pu.free b (by rw [pls_len]; exact HB.out)
    rw [HKK.out] at d1
    go_wp2
    refine bodyPost_end (results_none rfl _ _ _) rfl ⟨rfl, ?_, ?_, HBT.out.set2 b _⟩
    · have := HR.out.more b HB.out
      rw [HKK.out] at this
      exact this
    · exact HBB.out.setCell (p := ⟨p, b, none⟩) hp _
end Go.Proofs.Ytlpjkahppogkiaa
