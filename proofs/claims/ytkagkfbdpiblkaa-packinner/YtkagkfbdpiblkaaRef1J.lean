/- What the document's own Join and Pad of chapter 1 answer: the bytes one behind the other, and noughts behind. -/
import Derived.Test.YtkagkfbdpiblkaaWordJ
namespace Go.Proofs.Ytkagkfbdpiblkaa
open Go.RowKit
set_option linter.unusedVariables false

theorem owns_shape {w : World} {base : Nat} {e : TypeId} {v : Value} {n : Nat} {xs : List Value} (h : w.ownsRow base e 1 v n xs) : ∃ a c, v = .slice a n c := by
  rcases h.2 with ⟨rfl, rfl⟩ | ⟨g, cap, cur, rfl, _⟩
  · exact ⟨_, _, rfl⟩
  · exact ⟨_, _, rfl⟩

theorem pad_step (xs : List Int) (j : Nat) : xs ++ List.replicate (j + 1) 0 = xs ++ List.replicate j 0 ++ [(0 : Int)] := by
  rw [List.replicate_succ', List.append_assoc]

end Go.Proofs.Ytkagkfbdpiblkaa
