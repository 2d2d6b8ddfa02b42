/- Contracts of Power, As, Same and Good. -/
import Derived.Test.YtdgacbelpenmmaaWg
namespace Go.Proofs.Ytdgacbelpenmmaa
open Go.RowKit
set_option linter.unusedVariables false
set_option linter.unusedSimpArgs false

def P2 (n : Nat) : Int := ((2 ^ n : Nat) : Int)
/-- The writer that stands in the place of one that isn't right. -/
def goodX (xs : List Int) (n : Int) : List Int := if rightB xs n then xs else []
def goodV (v : Value) (xs : List Int) (n : Int) : Value := if rightB xs n then v else .slice none 0 0
def goodN (xs : List Int) (n : Int) : Int := if rightB xs n then n else 0

theorem good_rw {w : World} {v : Value} {xs : List Int} (h : Rw .u8 w v xs) (n : Int) : Rw .u8 w (goodV v xs n) (goodX xs n) := by
  unfold goodV goodX
  split
  · exact h
  · exact ⟨none, 0, rfl, .inl rfl⟩
end Go.Proofs.Ytdgacbelpenmmaa
