/- A pointer to a flow that comes in (chapter 8). -/
import Derived.Test.YtkagkfbdpiblkaaPack1
import Derived.Test.YtkagkfbdpiblkaaFrame
namespace Go.Proofs.Ytkagkfbdpiblkaa.Pack
open Go.ChangeShapes Go.WideShapes Go.ChangeAt Go.RowKit
set_option linter.unusedVariables false

theorem five {α : Type} {cs : List α} (h : cs.length = 5) : ∃ u0 u1 u2 u3 u4, cs = [u0, u1, u2, u3, u4] := by
  match cs, h with
  | [u0, u1, u2, u3, u4], _ => exact ⟨u0, u1, u2, u3, u4, rfl⟩

theorem key_cells : Try.prog.cellsOf 38 = 5 := by kernel_rfl

/-- A pointer to a flow, read. -/
theorem open_key {H : Type} {enc : TypeId × Value → H} {w : World} {base : Nat} {spare : Nat → Bool} {held : Bool} {fuel : Nat} {cs : List Value} {x : DataW H × List MemPlace}
    (h : DataW.trod enc Try.prog w base spare held fuel 26 cs = some x) : ∃ k o, cs = [.pointer k] ∧ IsKey w k o := by
  rcases DataW.trod_pointer Try.underlying26 h with ⟨rfl, _⟩ | ⟨a, cs', y, n, _, rfl, _, hc, ht⟩
  · exact ⟨none, none, rfl, rfl⟩
  · rw [key_cells] at hc
    unfold World.cells? at hc
    by_cases hb : base ≤ a.block
    · rw [if_pos hb] at hc
      have hl : cs'.length = 5 := by have := mapM_some_length hc; simpa using this
      have hg : ∀ i, i < 5 → w.cell? (a.add i) = cs'[i]? := fun i hi => mapM_some_get hc i i (by simp [hi])
      obtain ⟨u0, u1, u2, u3, u4, rfl⟩ := five hl
      obtain ⟨_, _, e0⟩ := field_at Try.underlying38 ht 0 rfl 1 (by kernel_rfl)
      obtain ⟨_, _, e1⟩ := field_at Try.underlying38 ht 1 rfl 1 (by kernel_rfl)
      obtain ⟨_, _, e2⟩ := field_at Try.underlying38 ht 2 rfl 1 (by kernel_rfl)
      obtain ⟨_, _, e3⟩ := field_at Try.underlying38 ht 3 rfl 1 (by kernel_rfl)
      obtain ⟨_, _, e4⟩ := field_at Try.underlying38 ht 4 rfl 1 (by kernel_rfl)
      obtain ⟨n0, c0, _, _⟩ := DataW.trod_int Try.underlying3 e0
      obtain ⟨n1, c1, _, _⟩ := DataW.trod_int Try.underlying23 e1
      obtain ⟨n2, c2, _, _⟩ := DataW.trod_int Try.underlying23 e2
      obtain ⟨n3, c3, _, _⟩ := DataW.trod_int Try.underlying3 e3
      obtain ⟨n4, c4, _, _⟩ := DataW.trod_int Try.underlying3 e4
      obtain rfl : u0 = .int .i64 n0 := by simpa using c0
      obtain rfl : u1 = .int .u32 n1 := by simpa using c1
      obtain rfl : u2 = .int .u32 n2 := by simpa using c2
      obtain rfl : u3 = .int .i64 n3 := by simpa using c3
      obtain rfl : u4 = .int .i64 n4 := by simpa using c4
      have h0 := hg 0 (by omega)
      have h1 := hg 1 (by omega)
      have h2 := hg 2 (by omega)
      have h3 := hg 3 (by omega)
      have h4 := hg 4 (by omega)
      obtain ⟨b, off, spot⟩ := a
      have hspot : spot = none := by simpa [Addr.add] using World.cell?_spot (h0.trans rfl)
      subst hspot
      exact ⟨some ⟨b, off, none⟩, some ⟨n0, n1, n2, n3, n4⟩, rfl, b, off, rfl, ⟨by simpa [Addr.add] using h0, by simpa [Addr.add] using h1, by simpa [Addr.add] using h2, by simpa [Addr.add] using h3, by simpa [Addr.add] using h4⟩⟩
    · rw [if_neg hb] at hc; cases hc

end Go.Proofs.Ytkagkfbdpiblkaa.Pack
