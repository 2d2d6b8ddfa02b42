/- A choice is put alike by the program and by the document, whatever comes of it. -/
import Derived.Test.YtkfpphccpkfenaaCs
namespace Go.Proofs.Ytkfpphccpkfenaa
open Go.RowKit
set_option linter.unusedVariables false
set_option linter.unusedSimpArgs false

/-- What Put answers: the encoder, the error. -/
def putE (e : En) (lo hi tot : Int) : En := if fairB lo hi tot = true ∧ e.m < 3996 then e.put lo.toNat hi.toNat tot.toNat else e
def putF (e : En) (lo hi tot : Int) : Int := if fairB lo hi tot = true then (if e.m < 3996 then 0 else 3) else 1
theorem putE_ok {e : En} (h : e.Ok) (lo hi tot : Int) : (putE e lo hi tot).Ok := by
  unfold putE
  split
  · rename_i hh
    obtain ⟨l, h', t, rfl, rfl, rfl, hf⟩ := fair_of hh.1
    simp only [Int.toNat_natCast]
    exact En.put_ok h hf hh.2
  · exact h
/-- The program's encoder, as a call hands it back. -/
def OutE (w w' : World) (x : Value) (F : En) : Prop := ∃ a' cap', x = .agg #[.int .u64 F.low, .int .u32 F.R, .slice a' F.m cap'] ∧ w'.ownsRow w.heap.size 5 1 (.slice a' F.m cap') F.m (F.out.map (Value.int .u8)) ∧ Below w.heap.size w w'
theorem put_all (L R : Int) (a : Option Addr) (n cap : Nat) (e : En) (lo hi tot : Int) (w : World) (h : EvOf w L R a n cap e) :
    Calls Try.prog 43 #[.agg #[.int .u64 L, .int .u32 R, .slice a n cap], .int .i64 lo, .int .i64 hi, .int .i64 tot] w fun x w' => ∃ a' cap', x = .returned (.tuple #[.agg #[.int .u64 (putE e lo hi tot).low, .int .u32 (putE e lo hi tot).R, .slice a' (putE e lo hi tot).m cap'], .int .i64 (putF e lo hi tot)]) ∧ w'.ownsRow w.heap.size 5 1 (.slice a' (putE e lo hi tot).m cap') (putE e lo hi tot).m ((putE e lo hi tot).out.map (Value.int .u8)) ∧ Below w.heap.size w w' := by
  unfold putE putF
  cases hf : fairB lo hi tot
  · simp only [Bool.false_eq_true, false_and, if_false]
    exact put_arg L R a n cap e lo hi tot w h hf
  · by_cases hm : e.m < 3996
    · simp only [true_and, hm, if_true]
      obtain ⟨l, h', t, rfl, rfl, rfl, hff⟩ := fair_of hf
      simp only [Int.toNat_natCast]
      exact put_ok L R a n cap e l h' t w h hff (by omega)
    · simp only [true_and, hm, if_false, if_true]
      exact put_full L R a n cap e lo hi tot w h hf (by omega)
theorem rput_all (R : Int) (a : Option Addr) (n cap : Nat) (e : En) (lo hi tot : Int) (w : World) (h : rEv w R a n cap e) :
    Calls Try.prog 31 #[.agg #[.int .u64 R, .slice a n cap], .int .i64 lo, .int .i64 hi, .int .i64 tot] w fun x w' => ∃ R' a' n' cap', x = .returned (.tuple #[.agg #[.int .u64 R', .slice a' n' cap'], .int .i64 (putF e lo hi tot)]) ∧ rEv w' R' a' n' cap' (putE e lo hi tot) ∧ Below w.heap.size w w' := by
  unfold putE putF
  have hn := h.2.2.1
  cases hf : fairB lo hi tot
  · simp only [Bool.false_eq_true, false_and, if_false]
    refine (rput_arg R a n cap e lo hi tot w h hf).mono ?_
    rintro x w' ⟨rfl, hb⟩
    exact ⟨R, a, n, cap, rfl, h.below hb, hb⟩
  · by_cases hm : e.m < 3996
    · simp only [true_and, hm, if_true]
      obtain ⟨l, h', t, rfl, rfl, rfl, hff⟩ := fair_of hf
      simp only [Int.toNat_natCast]
      exact rput_ok R a n cap e l h' t w h hff (by omega)
    · simp only [true_and, hm, if_false, if_true]
      refine (rput_full R a n cap e lo hi tot w h hf (by omega)).mono ?_
      rintro x w' ⟨rfl, hb⟩
      exact ⟨R, a, n, cap, rfl, h.below hb, hb⟩
theorem asEnc_ev (L R : Int) (a : Option Addr) (n cap : Nat) (e : En) (w : World) (h : EvOf w L R a n cap e) :
    Calls Try.prog 13 #[.agg #[.int .u64 L, .int .u32 R, .slice a n cap]] w fun x w' => ∃ R' a' n' cap', x = .returned (.agg #[.int .u64 R', .slice a' n' cap']) ∧ rEv w' R' a' n' cap' e ∧ Below w.heap.size w w' := by
  refine (asEnc_any L R a n cap e w h).mono ?_
  rintro x w' ⟨a', cap', rfl, hrw, hb⟩
  exact ⟨e.R, a', e.m + 4, cap', rfl, ⟨h.1, rfl, rfl, hrw⟩, hb⟩
theorem finish_ev (L R : Int) (a : Option Addr) (n cap : Nat) (e : En) (K : Nat) (hK : e.m + 4 = K) (w : World) (h : EvOf w L R a n cap e) :
    Calls Try.prog 24 #[.agg #[.int .u64 L, .int .u32 R, .slice a n cap]] w fun x w' => ∃ a' cap', x = .returned (.slice a' K cap') ∧ Rw .u8 w' (.slice a' K cap') e.all ∧ Below w.heap.size w w' := by
  subst hK
  refine (finish_any L R a n cap e w h).mono ?_
  rintro x w' ⟨v', rfl, hown, hb⟩
  obtain ⟨a', cap', rfl, _⟩ := owns_open hown
  exact ⟨a', cap', rfl, Rw.of_owns hown, hb⟩
end Go.Proofs.Ytkfpphccpkfenaa
