/- Arguments opened: a slice of slices of bytes that came in, and how many bytes it holds together. -/
import Derived.Test.YticdbkdcnahgfaaRows
import Derived.Test.YticdbkdcnahgfaaPlain
import Derived.ProofKit
import Derived.OpenShut
import Derived.JoinedCond
import Derived.Deep.Matrix
namespace Go.Proofs.Yticdbkdcnahgfaa
open Go.ChangeShapes Go.WideShapes Go.ChangeAt Go.RowKit Go.Deep
set_option linter.unusedVariables false

namespace bulks
theorem one_le {H : Type} (d : DataW H) : 1 ≤ Rows.uptoBulk d := by
  cases d with
  | lit l => cases l <;> simp [Rows.uptoBulk]
  | nil => simp [Rows.uptoBulk]
  | ptr d => simp [Rows.uptoBulk]
  | slice elems spare => simp [Rows.uptoBulk]
  | agg parts => simp [Rows.uptoBulk]
  | iface t d => simp [Rows.uptoBulk]
  | map entries => simp [Rows.uptoBulk]
  | held h => simp [Rows.uptoBulk]
theorem length_le {H : Type} (l : List (DataW H)) : l.length ≤ Rows.uptoBulkAll l := by
  induction l with
  | nil => simp [Rows.uptoBulkAll]
  | cons x r ih => have := one_le x; simp only [Rows.uptoBulkAll, List.length_cons]; omega
end bulks

theorem bulk_row {H : Type} (k : IntKind) (A : Option Addr) (L : Nat) (zs : List Int) : (A = none → L = 0) → L ≤ zs.length → L + 1 ≤ Rows.uptoBulk (intRow (H := H) k A L zs) := by
  intro h0 h1
  cases A with
  | none => simp [intRow, Rows.uptoBulk, h0 rfl]
  | some a =>
    have := bulks.length_le (H := H) (lits k (zs.take L))
    simp only [intRow, Rows.uptoBulk]
    simp [lits] at this ⊢
    omega

theorem bulk_rows {H : Type} (f : Nat → DataW H) (g : Nat → List Int) (h : ∀ r, (g r).length + 1 ≤ Rows.uptoBulk (f r)) : ∀ l : List Nat, l.length + (l.map g).flatten.length ≤ Rows.uptoBulkAll (l.map f)
  | [] => by simp
  | r :: l => by
    have h1 := h r
    have h2 := bulk_rows f g h l
    simp only [List.map_cons, List.flatten_cons, List.length_append, List.length_cons, Rows.uptoBulkAll]
    omega

section
variable {H : Type} {enc : TypeId × Value → H} {P : Program} {w : World} {base : Nat} {held : Bool}

theorem open_bytesL {t e q : TypeId} {fuel : Nat} {a : Option Addr} {len cap : Nat} {x : DataW H × List MemPlace} (ht : P.underlying t = some (.slice e)) (he : P.underlying e = some (.slice q)) (hq : P.underlying q = some (.int .u8))
    (ce : P.cellsOf e = 1) (cq : P.cellsOf q = 1) (h : DataW.trod enc P w base (fun _ => true) held fuel t [.slice a len cap] = some x) :
    ∃ L, BytesL w a len L ∧ L.length + L.flatten.length ≤ Rows.uptoBulk x.1 := by
  rcases open_int_rows ht he hq ce cq h with ⟨hcs, hx⟩ | ⟨ad, l, c, A, Ls, C, Z, hcs, _, hl, hm, hx, hr⟩
  · simp at hcs
    obtain ⟨rfl, rfl, rfl⟩ := hcs
    exact ⟨[], ⟨rfl, by omega, .inl rfl⟩, by simp⟩
  · simp at hcs
    obtain ⟨rfl, rfl, rfl⟩ := hcs
    have hrow : ∀ r, r < cap → IsRow .u8 w (A r) (Ls r) (C r) (Z r) := fun r hrc => by
      obtain ⟨h1, h2, h3, h4, h5, h6, h7⟩ := hr r hrc
      cases hA : A r with
      | none =>
        have e0 := h6 hA
        have e1 : Ls r = 0 := by omega
        have e2 : Z r = [] := List.length_eq_zero_iff.1 (by omega)
        exact .inl ⟨rfl, e1, e0, e2⟩
      | some a' =>
        refine .inr ⟨a', rfl, h2, h3, h4, fun i hi => ?_, h5⟩
        exact (h7 a' hA).2 i (by omega)
    have hlt : ∀ r, r < len → r < cap := fun r h => by omega
    refine ⟨(List.range len).map fun r => if r < len then (Z r).take (Ls r) else [], ⟨by simp, by unfold maxLen at hm; omega, ?_⟩, ?_⟩
    · by_cases h0 : len = 0
      · exact .inl h0
      · obtain ⟨b, off, spot⟩ := ad
        have hspot : spot = none := by simpa [Addr.add] using World.cell?_spot (hr 0 (by omega)).1
        subst hspot
        refine .inr ⟨b, off, rfl, fun i hi => ?_⟩
        have hc := (hr i (hlt i hi)).1
        have hb := (hrow i (hlt i hi)).bytes
        have hn := (hrow i (hlt i hi)).nil_cap
        refine ⟨A i, Ls i, C i, ?_, by simpa [hi] using hb, hn⟩
        by_cases h0 : i = 0
        · subst h0; simpa [Addr.add] using hc
        · simpa [Addr.add, h0] using hc
    · rw [hx]
      have hb := bulk_rows (H := H) (fun r => if r < len then intRow .u8 (A r) (Ls r) (Z r) else .nil) (fun r => if r < len then (Z r).take (Ls r) else []) (fun r => by
        by_cases hrl : r < len
        · have h1 := hrow r (hlt r hrl)
          have h2 := h1.bytes
          simp only [if_pos hrl]
          have := bulk_row (H := H) .u8 (A r) (Ls r) (Z r) (fun hA => by
            have := h1.nil_cap hA; have := (hr r (hlt r hrl)).2.1; omega) (by have := (hr r (hlt r hrl)).2.1; have := (hr r (hlt r hrl)).2.2.2.1; omega)
          rw [h2.length]; exact this
        · simp [if_neg hrl, Rows.uptoBulk]) (List.range len)
      have e1 : (List.range len).map (fun r => if r < len then intRow (H := H) .u8 (A r) (Ls r) (Z r) else .nil) = (List.range len).map fun r => intRow .u8 (A r) (Ls r) (Z r) := by
        apply List.map_congr_left
        intro r hr
        rw [if_pos (by simpa using hr)]
      rw [e1] at hb
      simp only [Rows.uptoBulk, List.length_map]
      omega
end

theorem flat_ok {w : World} {a : Option Addr} {len : Nat} {L : List (List Int)} (h : BytesL w a len L) : BytesOk L.flatten := by
  intro x hx
  obtain ⟨l, hl, hxl⟩ := List.mem_flatten.1 hx
  obtain ⟨i, hi, rfl⟩ := List.getElem_of_mem hl
  obtain ⟨b, off, p, n, c, _, _, hb, _⟩ := h.cell (k := i) (by rw [← h.length]; exact hi)
  have := hb.ok x
  simp [hi] at this
  exact this hxl

/-- How many bytes the first k hold. -/
def flen (L : List (List Int)) (k : Nat) : Nat := (L.take k).flatten.length
end Go.Proofs.Yticdbkdcnahgfaa
