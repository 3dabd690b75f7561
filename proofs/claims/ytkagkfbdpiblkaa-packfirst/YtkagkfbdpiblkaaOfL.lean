/- The checksum of a literal of slices. -/
import Derived.Test.YtkagkfbdpiblkaaPart
namespace Go.Proofs.Ytkagkfbdpiblkaa
open Go.RowKit
set_option linter.unusedVariables false

/-- Of a literal of slices. -/
theorem ofL_any (N k : Nat) (vs : List Value) (L : List (List Int)) (w : World) (hg : w.heap[N]? = some (.cells vs.toArray 22 (0, 0))) (hk : L.length = k) (hk' : k ≤ 1000)
    (h : ∀ i, i < k → ∃ p n c, vs[i]? = some (.slice p n c) ∧ Bytes w p n (L[i]?.getD []) ∧ (p = none → c = 0)) (ys : List Int) (n : Nat) (hf : L.flatten = ys) (hn : ys.length = n) (hs : n ≤ 1000000) (hok : BytesOk ys) :
    Calls Try.prog 77 #[.slice (some ⟨N, 0, none⟩) k k] w fun e w' => e = .returned (.int .i64 (ofV ys)) ∧ w' = w := by
  have hL : BytesL w (some ⟨N, 0, none⟩) k L := ⟨hk, by omega, .inr ⟨N, 0, rfl, fun i hi => by
    obtain ⟨p, n, c, h1, h2, h3⟩ := h i hi
    exact ⟨p, n, c, by rw [heap_cell hg]; simpa using h1, h2, h3⟩⟩⟩
  exact of_n _ k k L w ys n hf hn hL hs hok

end Go.Proofs.Ytkagkfbdpiblkaa
