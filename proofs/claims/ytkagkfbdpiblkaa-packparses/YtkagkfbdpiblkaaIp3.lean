/- What ip.Parse answers at any bytes (chapter 4). -/
import Derived.Test.YtkagkfbdpiblkaaIp1
import Derived.Test.YtkagkfbdpiblkaaApp
import Derived.Test.YtkagkfbdpiblkaaMake
import Derived.Test.YtkagkfbdpiblkaaPart
namespace Go.Proofs.Ytkagkfbdpiblkaa
open Go.RowKit
set_option linter.unusedVariables false

/-- Eleven cells are set. -/
theorem set_ip {w : World} {g : Nat} {c0 c1 c2 c3 c4 c5 c6 c7 c8 c9 ca : Value} {t : TypeId} (h : w.heap[g]? = some (.cells #[c0, c1, c2, c3, c4, c5, c6, c7, c8, c9, ca] t (0, 0))) (v0 v1 v2 v3 v4 v5 v6 v7 v8 v9 va : Value) :
    ((((((((((((w.setCell ⟨g, 0, none⟩ v0).setCell ⟨g, 1, none⟩ v1).setCell ⟨g, 2, none⟩ v2).setCell ⟨g, 3, none⟩ v3).setCell ⟨g, 4, none⟩ v4).setCell ⟨g, 5, none⟩ v5).setCell ⟨g, 6, none⟩ v6).setCell ⟨g, 7, none⟩ v7).setCell ⟨g, 8, none⟩ v8).setCell ⟨g, 9, none⟩ v9).setCell ⟨g, 10, none⟩ va).heap[g]?) =
      some (.cells #[v0, v1, v2, v3, v4, v5, v6, v7, v8, v9, va] t (0, 0)) := by
  have st : ∀ (w : World) (l : List Value) (k : Nat) (u : Value), w.heap[g]? = some (.cells l.toArray t (0, 0)) → (w.setCell ⟨g, k, none⟩ u).heap[g]? = some (.cells (l.set k u).toArray t (0, 0)) := fun w l k u h => by
    rw [heap_set h]; simp
  have h0 := st _ [c0, c1, c2, c3, c4, c5, c6, c7, c8, c9, ca] 0 v0 h
  simp only [List.set_cons_zero] at h0
  have h1 := st _ [v0, c1, c2, c3, c4, c5, c6, c7, c8, c9, ca] 1 v1 h0
  simp only [List.set_cons_zero, List.set_cons_succ] at h1
  have h2 := st _ [v0, v1, c2, c3, c4, c5, c6, c7, c8, c9, ca] 2 v2 h1
  simp only [List.set_cons_zero, List.set_cons_succ] at h2
  have h3 := st _ [v0, v1, v2, c3, c4, c5, c6, c7, c8, c9, ca] 3 v3 h2
  simp only [List.set_cons_zero, List.set_cons_succ] at h3
  have h4 := st _ [v0, v1, v2, v3, c4, c5, c6, c7, c8, c9, ca] 4 v4 h3
  simp only [List.set_cons_zero, List.set_cons_succ] at h4
  have h5 := st _ [v0, v1, v2, v3, v4, c5, c6, c7, c8, c9, ca] 5 v5 h4
  simp only [List.set_cons_zero, List.set_cons_succ] at h5
  have h6 := st _ [v0, v1, v2, v3, v4, v5, c6, c7, c8, c9, ca] 6 v6 h5
  simp only [List.set_cons_zero, List.set_cons_succ] at h6
  have h7 := st _ [v0, v1, v2, v3, v4, v5, v6, c7, c8, c9, ca] 7 v7 h6
  simp only [List.set_cons_zero, List.set_cons_succ] at h7
  have h8 := st _ [v0, v1, v2, v3, v4, v5, v6, v7, c8, c9, ca] 8 v8 h7
  simp only [List.set_cons_zero, List.set_cons_succ] at h8
  have h9 := st _ [v0, v1, v2, v3, v4, v5, v6, v7, v8, c9, ca] 9 v9 h8
  simp only [List.set_cons_zero, List.set_cons_succ] at h9
  have h10 := st _ [v0, v1, v2, v3, v4, v5, v6, v7, v8, v9, ca] 10 va h9
  simp only [List.set_cons_zero, List.set_cons_succ] at h10
  exact h10

/-- What a packet's value is, in a world. -/
structure IsIP (w : World) (v : Value) (p : IPv) : Prop where
  val : ∃ a1 n1 c1 a2 n2 c2, v = .agg #[.int .i64 p.tos, .int .i64 p.id, .bool p.df, .bool p.mf, .int .i64 p.off, .int .i64 p.ttl, .int .i64 p.proto, .int .u32 p.src, .int .u32 p.dst, .slice a1 n1 c1, .slice a2 n2 c2] ∧ Bytes w a1 n1 p.opts ∧ (a1 = none → c1 = 0) ∧ Bytes w a2 n2 p.data ∧ (a2 = none → c2 = 0) ∧ n2 ≤ c2

/-- The eleven cells of a block, one by one, in every later world. -/
theorem box_ip {x : Nat} {w : World} {b : Nat} {v0 v1 v2 v3 v4 v5 v6 v7 v8 v9 va : Value} {t : TypeId} (h : w.heap[b]? = some (.cells #[v0, v1, v2, v3, v4, v5, v6, v7, v8, v9, va] t (0, 0))) (hx : b ≠ x) :
    ∀ w', ExtX x w w' → w'.cell? ⟨b, 0, none⟩ = some v0 ∧ w'.cell? ⟨b, 1, none⟩ = some v1 ∧ w'.cell? ⟨b, 2, none⟩ = some v2 ∧ w'.cell? ⟨b, 3, none⟩ = some v3 ∧ w'.cell? ⟨b, 4, none⟩ = some v4 ∧ w'.cell? ⟨b, 5, none⟩ = some v5 ∧
      w'.cell? ⟨b, 6, none⟩ = some v6 ∧ w'.cell? ⟨b, 7, none⟩ = some v7 ∧ w'.cell? ⟨b, 8, none⟩ = some v8 ∧ w'.cell? ⟨b, 9, none⟩ = some v9 ∧ w'.cell? ⟨b, 10, none⟩ = some va := fun w' h1 => by
  have hlt : b < w.heap.size := by
    rcases Nat.lt_or_ge b w.heap.size with hl | hl
    · exact hl
    · simp [Array.getElem?_eq_none hl] at h
  have hk : ∀ k, w'.cell? ⟨b, k, none⟩ = #[v0, v1, v2, v3, v4, v5, v6, v7, v8, v9, va][k]? := fun k => heap_cell ((h1.block b hlt hx).trans h)
  exact ⟨hk 0, hk 1, hk 2, hk 3, hk 4, hk 5, hk 6, hk 7, hk 8, hk 9, hk 10⟩

/-- The same, cell by cell, in every world with new blocks behind. -/
theorem box_ipE {w : World} {b : Nat} {v0 v1 v2 v3 v4 v5 v6 v7 v8 v9 va : Value} {t : TypeId} (h : w.heap[b]? = some (.cells #[v0, v1, v2, v3, v4, v5, v6, v7, v8, v9, va] t (0, 0))) :
    (∀ w', Ext w w' → w'.cell? ⟨b, 0, none⟩ = some v0) ∧ (∀ w', Ext w w' → w'.cell? ⟨b, 1, none⟩ = some v1) ∧ (∀ w', Ext w w' → w'.cell? ⟨b, 2, none⟩ = some v2) ∧ (∀ w', Ext w w' → w'.cell? ⟨b, 3, none⟩ = some v3) ∧
    (∀ w', Ext w w' → w'.cell? ⟨b, 4, none⟩ = some v4) ∧ (∀ w', Ext w w' → w'.cell? ⟨b, 5, none⟩ = some v5) ∧ (∀ w', Ext w w' → w'.cell? ⟨b, 6, none⟩ = some v6) ∧ (∀ w', Ext w w' → w'.cell? ⟨b, 7, none⟩ = some v7) ∧
    (∀ w', Ext w w' → w'.cell? ⟨b, 8, none⟩ = some v8) ∧ (∀ w', Ext w w' → w'.cell? ⟨b, 9, none⟩ = some v9) ∧ (∀ w', Ext w w' → w'.cell? ⟨b, 10, none⟩ = some va) := by
  have hk : ∀ k w', Ext w w' → w'.cell? ⟨b, k, none⟩ = #[v0, v1, v2, v3, v4, v5, v6, v7, v8, v9, va][k]? := fun k w' hx => heap_cell (hx.heap h)
  exact ⟨hk 0, hk 1, hk 2, hk 3, hk 4, hk 5, hk 6, hk 7, hk 8, hk 9, hk 10⟩

end Go.Proofs.Ytkagkfbdpiblkaa
