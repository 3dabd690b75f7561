/- A block of 6 cells, stored whole and read cell by cell. (Made by tools/boxes.py.) -/
import Derived.Test.YtbchfmadmcppkaaPlain
import Derived.Test.YtbchfmadmcppkaaGrow3
namespace Go.Proofs.Ytbchfmadmcppkaa
open Go.RowKit
set_option linter.unusedVariables false

theorem set_rt {w : World} {g : Nat} {c0 c1 c2 c3 c4 c5 : Value} {t : TypeId} (h : w.heap[g]? = some (.cells #[c0, c1, c2, c3, c4, c5] t (0, 0))) (v0 v1 v2 v3 v4 v5 : Value) : ((((((w.setCell ⟨g, 0, none⟩ v0).setCell ⟨g, 1, none⟩ v1).setCell ⟨g, 2, none⟩ v2).setCell ⟨g, 3, none⟩ v3).setCell ⟨g, 4, none⟩ v4).setCell ⟨g, 5, none⟩ v5).heap[g]? = some (.cells #[v0, v1, v2, v3, v4, v5] t (0, 0)) := by
  have st : ∀ (w : World) (l : List Value) (k : Nat) (u : Value), w.heap[g]? = some (.cells l.toArray t (0, 0)) → (w.setCell ⟨g, k, none⟩ u).heap[g]? = some (.cells (l.set k u).toArray t (0, 0)) := fun w l k u h => by
    rw [heap_set h]; simp
  have h0 := st _ [c0, c1, c2, c3, c4, c5] 0 v0 h
  simp only [List.set_cons_zero] at h0
  have h1 := st _ [v0, c1, c2, c3, c4, c5] 1 v1 h0
  simp only [List.set_cons_zero, List.set_cons_succ] at h1
  have h2 := st _ [v0, v1, c2, c3, c4, c5] 2 v2 h1
  simp only [List.set_cons_zero, List.set_cons_succ] at h2
  have h3 := st _ [v0, v1, v2, c3, c4, c5] 3 v3 h2
  simp only [List.set_cons_zero, List.set_cons_succ] at h3
  have h4 := st _ [v0, v1, v2, v3, c4, c5] 4 v4 h3
  simp only [List.set_cons_zero, List.set_cons_succ] at h4
  have h5 := st _ [v0, v1, v2, v3, v4, c5] 5 v5 h4
  simp only [List.set_cons_zero, List.set_cons_succ] at h5
  exact h5

theorem box_rt {x : Nat} {w : World} {b : Nat} {v0 v1 v2 v3 v4 v5 : Value} {t : TypeId} (h : w.heap[b]? = some (.cells #[v0, v1, v2, v3, v4, v5] t (0, 0))) (hx : b ≠ x) :
    ∀ w', ExtX x w w' → w'.cell? ⟨b, 0, none⟩ = some v0 ∧ w'.cell? ⟨b, 1, none⟩ = some v1 ∧ w'.cell? ⟨b, 2, none⟩ = some v2 ∧ w'.cell? ⟨b, 3, none⟩ = some v3 ∧ w'.cell? ⟨b, 4, none⟩ = some v4 ∧ w'.cell? ⟨b, 5, none⟩ = some v5 := fun w' h1 => by
  have hlt : b < w.heap.size := by
    rcases Nat.lt_or_ge b w.heap.size with hl | hl
    · exact hl
    · simp [Array.getElem?_eq_none hl] at h
  have hk : ∀ k, w'.cell? ⟨b, k, none⟩ = #[v0, v1, v2, v3, v4, v5][k]? := fun k => heap_cell ((h1.block b hlt hx).trans h)
  exact ⟨hk 0, hk 1, hk 2, hk 3, hk 4, hk 5⟩

theorem box_rtE {w : World} {b : Nat} {v0 v1 v2 v3 v4 v5 : Value} {t : TypeId} (h : w.heap[b]? = some (.cells #[v0, v1, v2, v3, v4, v5] t (0, 0))) :
    (∀ w', Ext w w' → w'.cell? ⟨b, 0, none⟩ = some v0) ∧ (∀ w', Ext w w' → w'.cell? ⟨b, 1, none⟩ = some v1) ∧ (∀ w', Ext w w' → w'.cell? ⟨b, 2, none⟩ = some v2) ∧ (∀ w', Ext w w' → w'.cell? ⟨b, 3, none⟩ = some v3) ∧ (∀ w', Ext w w' → w'.cell? ⟨b, 4, none⟩ = some v4) ∧ (∀ w', Ext w w' → w'.cell? ⟨b, 5, none⟩ = some v5) := by
  have hk : ∀ k w', Ext w w' → w'.cell? ⟨b, k, none⟩ = #[v0, v1, v2, v3, v4, v5][k]? := fun k w' hx => heap_cell (hx.heap h)
  exact ⟨hk 0, hk 1, hk 2, hk 3, hk 4, hk 5⟩

theorem extX_set_rt (w1 : World) (g : Nat) (v0 v1 v2 v3 v4 v5 : Value) : ExtX g w1 ((((((w1.setCell ⟨g, 0, none⟩ v0).setCell ⟨g, 1, none⟩ v1).setCell ⟨g, 2, none⟩ v2).setCell ⟨g, 3, none⟩ v3).setCell ⟨g, 4, none⟩ v4).setCell ⟨g, 5, none⟩ v5) :=
  (((((((ExtX.refl g w1).setCell rfl v0).setCell rfl v1).setCell rfl v2).setCell rfl v3).setCell rfl v4).setCell rfl v5)

theorem ext_set_rt {w w1 : World} {g : Nat} (hx : Ext w w1) (hg : w.heap.size ≤ g) (v0 v1 v2 v3 v4 v5 : Value) : Ext w ((((((w1.setCell ⟨g, 0, none⟩ v0).setCell ⟨g, 1, none⟩ v1).setCell ⟨g, 2, none⟩ v2).setCell ⟨g, 3, none⟩ v3).setCell ⟨g, 4, none⟩ v4).setCell ⟨g, 5, none⟩ v5) :=
  ExtX.ext hx (extX_set_rt w1 g v0 v1 v2 v3 v4 v5) hg

theorem extN_set_rt {N : Nat} (w1 : World) (g : Nat) (hg : N ≤ g) (v0 v1 v2 v3 v4 v5 : Value) : ExtN N w1 ((((((w1.setCell ⟨g, 0, none⟩ v0).setCell ⟨g, 1, none⟩ v1).setCell ⟨g, 2, none⟩ v2).setCell ⟨g, 3, none⟩ v3).setCell ⟨g, 4, none⟩ v4).setCell ⟨g, 5, none⟩ v5) :=
  (((((((ExtN.refl N w1).setCell hg v0).setCell hg v1).setCell hg v2).setCell hg v3).setCell hg v4).setCell hg v5)

end Go.Proofs.Ytbchfmadmcppkaa
