/- A block of 18 cells, stored whole and read cell by cell. (Made by tools/boxes.py.) -/
import Derived.Test.YtkagkfbdpiblkaaPlain
import Derived.Test.YtkagkfbdpiblkaaGrow3
namespace Go.Proofs.Ytkagkfbdpiblkaa
open Go.RowKit
set_option linter.unusedVariables false

theorem set_pkt {w : World} {g : Nat} {c0 c1 c2 c3 c4 c5 c6 c7 c8 c9 ca cb cc cd ce cf cg ch : Value} {t : TypeId} (h : w.heap[g]? = some (.cells #[c0, c1, c2, c3, c4, c5, c6, c7, c8, c9, ca, cb, cc, cd, ce, cf, cg, ch] t (0, 0))) (v0 v1 v2 v3 v4 v5 v6 v7 v8 v9 va vb vc vd ve vf vg vh : Value) : ((((((((((((((((((w.setCell ⟨g, 0, none⟩ v0).setCell ⟨g, 1, none⟩ v1).setCell ⟨g, 2, none⟩ v2).setCell ⟨g, 3, none⟩ v3).setCell ⟨g, 4, none⟩ v4).setCell ⟨g, 5, none⟩ v5).setCell ⟨g, 6, none⟩ v6).setCell ⟨g, 7, none⟩ v7).setCell ⟨g, 8, none⟩ v8).setCell ⟨g, 9, none⟩ v9).setCell ⟨g, 10, none⟩ va).setCell ⟨g, 11, none⟩ vb).setCell ⟨g, 12, none⟩ vc).setCell ⟨g, 13, none⟩ vd).setCell ⟨g, 14, none⟩ ve).setCell ⟨g, 15, none⟩ vf).setCell ⟨g, 16, none⟩ vg).setCell ⟨g, 17, none⟩ vh).heap[g]? = some (.cells #[v0, v1, v2, v3, v4, v5, v6, v7, v8, v9, va, vb, vc, vd, ve, vf, vg, vh] t (0, 0)) := by
  have st : ∀ (w : World) (l : List Value) (k : Nat) (u : Value), w.heap[g]? = some (.cells l.toArray t (0, 0)) → (w.setCell ⟨g, k, none⟩ u).heap[g]? = some (.cells (l.set k u).toArray t (0, 0)) := fun w l k u h => by
    rw [heap_set h]; simp
  have h0 := st _ [c0, c1, c2, c3, c4, c5, c6, c7, c8, c9, ca, cb, cc, cd, ce, cf, cg, ch] 0 v0 h
  simp only [List.set_cons_zero] at h0
  have h1 := st _ [v0, c1, c2, c3, c4, c5, c6, c7, c8, c9, ca, cb, cc, cd, ce, cf, cg, ch] 1 v1 h0
  simp only [List.set_cons_zero, List.set_cons_succ] at h1
  have h2 := st _ [v0, v1, c2, c3, c4, c5, c6, c7, c8, c9, ca, cb, cc, cd, ce, cf, cg, ch] 2 v2 h1
  simp only [List.set_cons_zero, List.set_cons_succ] at h2
  have h3 := st _ [v0, v1, v2, c3, c4, c5, c6, c7, c8, c9, ca, cb, cc, cd, ce, cf, cg, ch] 3 v3 h2
  simp only [List.set_cons_zero, List.set_cons_succ] at h3
  have h4 := st _ [v0, v1, v2, v3, c4, c5, c6, c7, c8, c9, ca, cb, cc, cd, ce, cf, cg, ch] 4 v4 h3
  simp only [List.set_cons_zero, List.set_cons_succ] at h4
  have h5 := st _ [v0, v1, v2, v3, v4, c5, c6, c7, c8, c9, ca, cb, cc, cd, ce, cf, cg, ch] 5 v5 h4
  simp only [List.set_cons_zero, List.set_cons_succ] at h5
  have h6 := st _ [v0, v1, v2, v3, v4, v5, c6, c7, c8, c9, ca, cb, cc, cd, ce, cf, cg, ch] 6 v6 h5
  simp only [List.set_cons_zero, List.set_cons_succ] at h6
  have h7 := st _ [v0, v1, v2, v3, v4, v5, v6, c7, c8, c9, ca, cb, cc, cd, ce, cf, cg, ch] 7 v7 h6
  simp only [List.set_cons_zero, List.set_cons_succ] at h7
  have h8 := st _ [v0, v1, v2, v3, v4, v5, v6, v7, c8, c9, ca, cb, cc, cd, ce, cf, cg, ch] 8 v8 h7
  simp only [List.set_cons_zero, List.set_cons_succ] at h8
  have h9 := st _ [v0, v1, v2, v3, v4, v5, v6, v7, v8, c9, ca, cb, cc, cd, ce, cf, cg, ch] 9 v9 h8
  simp only [List.set_cons_zero, List.set_cons_succ] at h9
  have h10 := st _ [v0, v1, v2, v3, v4, v5, v6, v7, v8, v9, ca, cb, cc, cd, ce, cf, cg, ch] 10 va h9
  simp only [List.set_cons_zero, List.set_cons_succ] at h10
  have h11 := st _ [v0, v1, v2, v3, v4, v5, v6, v7, v8, v9, va, cb, cc, cd, ce, cf, cg, ch] 11 vb h10
  simp only [List.set_cons_zero, List.set_cons_succ] at h11
  have h12 := st _ [v0, v1, v2, v3, v4, v5, v6, v7, v8, v9, va, vb, cc, cd, ce, cf, cg, ch] 12 vc h11
  simp only [List.set_cons_zero, List.set_cons_succ] at h12
  have h13 := st _ [v0, v1, v2, v3, v4, v5, v6, v7, v8, v9, va, vb, vc, cd, ce, cf, cg, ch] 13 vd h12
  simp only [List.set_cons_zero, List.set_cons_succ] at h13
  have h14 := st _ [v0, v1, v2, v3, v4, v5, v6, v7, v8, v9, va, vb, vc, vd, ce, cf, cg, ch] 14 ve h13
  simp only [List.set_cons_zero, List.set_cons_succ] at h14
  have h15 := st _ [v0, v1, v2, v3, v4, v5, v6, v7, v8, v9, va, vb, vc, vd, ve, cf, cg, ch] 15 vf h14
  simp only [List.set_cons_zero, List.set_cons_succ] at h15
  have h16 := st _ [v0, v1, v2, v3, v4, v5, v6, v7, v8, v9, va, vb, vc, vd, ve, vf, cg, ch] 16 vg h15
  simp only [List.set_cons_zero, List.set_cons_succ] at h16
  have h17 := st _ [v0, v1, v2, v3, v4, v5, v6, v7, v8, v9, va, vb, vc, vd, ve, vf, vg, ch] 17 vh h16
  simp only [List.set_cons_zero, List.set_cons_succ] at h17
  exact h17

theorem box_pkt {x : Nat} {w : World} {b : Nat} {v0 v1 v2 v3 v4 v5 v6 v7 v8 v9 va vb vc vd ve vf vg vh : Value} {t : TypeId} (h : w.heap[b]? = some (.cells #[v0, v1, v2, v3, v4, v5, v6, v7, v8, v9, va, vb, vc, vd, ve, vf, vg, vh] t (0, 0))) (hx : b ≠ x) :
    ∀ w', ExtX x w w' → w'.cell? ⟨b, 0, none⟩ = some v0 ∧ w'.cell? ⟨b, 1, none⟩ = some v1 ∧ w'.cell? ⟨b, 2, none⟩ = some v2 ∧ w'.cell? ⟨b, 3, none⟩ = some v3 ∧ w'.cell? ⟨b, 4, none⟩ = some v4 ∧ w'.cell? ⟨b, 5, none⟩ = some v5 ∧ w'.cell? ⟨b, 6, none⟩ = some v6 ∧ w'.cell? ⟨b, 7, none⟩ = some v7 ∧ w'.cell? ⟨b, 8, none⟩ = some v8 ∧ w'.cell? ⟨b, 9, none⟩ = some v9 ∧ w'.cell? ⟨b, 10, none⟩ = some va ∧ w'.cell? ⟨b, 11, none⟩ = some vb ∧ w'.cell? ⟨b, 12, none⟩ = some vc ∧ w'.cell? ⟨b, 13, none⟩ = some vd ∧ w'.cell? ⟨b, 14, none⟩ = some ve ∧ w'.cell? ⟨b, 15, none⟩ = some vf ∧ w'.cell? ⟨b, 16, none⟩ = some vg ∧ w'.cell? ⟨b, 17, none⟩ = some vh := fun w' h1 => by
  have hlt : b < w.heap.size := by
    rcases Nat.lt_or_ge b w.heap.size with hl | hl
    · exact hl
    · simp [Array.getElem?_eq_none hl] at h
  have hk : ∀ k, w'.cell? ⟨b, k, none⟩ = #[v0, v1, v2, v3, v4, v5, v6, v7, v8, v9, va, vb, vc, vd, ve, vf, vg, vh][k]? := fun k => heap_cell ((h1.block b hlt hx).trans h)
  exact ⟨hk 0, hk 1, hk 2, hk 3, hk 4, hk 5, hk 6, hk 7, hk 8, hk 9, hk 10, hk 11, hk 12, hk 13, hk 14, hk 15, hk 16, hk 17⟩

theorem box_pktE {w : World} {b : Nat} {v0 v1 v2 v3 v4 v5 v6 v7 v8 v9 va vb vc vd ve vf vg vh : Value} {t : TypeId} (h : w.heap[b]? = some (.cells #[v0, v1, v2, v3, v4, v5, v6, v7, v8, v9, va, vb, vc, vd, ve, vf, vg, vh] t (0, 0))) :
    (∀ w', Ext w w' → w'.cell? ⟨b, 0, none⟩ = some v0) ∧ (∀ w', Ext w w' → w'.cell? ⟨b, 1, none⟩ = some v1) ∧ (∀ w', Ext w w' → w'.cell? ⟨b, 2, none⟩ = some v2) ∧ (∀ w', Ext w w' → w'.cell? ⟨b, 3, none⟩ = some v3) ∧ (∀ w', Ext w w' → w'.cell? ⟨b, 4, none⟩ = some v4) ∧ (∀ w', Ext w w' → w'.cell? ⟨b, 5, none⟩ = some v5) ∧ (∀ w', Ext w w' → w'.cell? ⟨b, 6, none⟩ = some v6) ∧ (∀ w', Ext w w' → w'.cell? ⟨b, 7, none⟩ = some v7) ∧ (∀ w', Ext w w' → w'.cell? ⟨b, 8, none⟩ = some v8) ∧ (∀ w', Ext w w' → w'.cell? ⟨b, 9, none⟩ = some v9) ∧ (∀ w', Ext w w' → w'.cell? ⟨b, 10, none⟩ = some va) ∧ (∀ w', Ext w w' → w'.cell? ⟨b, 11, none⟩ = some vb) ∧ (∀ w', Ext w w' → w'.cell? ⟨b, 12, none⟩ = some vc) ∧ (∀ w', Ext w w' → w'.cell? ⟨b, 13, none⟩ = some vd) ∧ (∀ w', Ext w w' → w'.cell? ⟨b, 14, none⟩ = some ve) ∧ (∀ w', Ext w w' → w'.cell? ⟨b, 15, none⟩ = some vf) ∧ (∀ w', Ext w w' → w'.cell? ⟨b, 16, none⟩ = some vg) ∧ (∀ w', Ext w w' → w'.cell? ⟨b, 17, none⟩ = some vh) := by
  have hk : ∀ k w', Ext w w' → w'.cell? ⟨b, k, none⟩ = #[v0, v1, v2, v3, v4, v5, v6, v7, v8, v9, va, vb, vc, vd, ve, vf, vg, vh][k]? := fun k w' hx => heap_cell (hx.heap h)
  exact ⟨hk 0, hk 1, hk 2, hk 3, hk 4, hk 5, hk 6, hk 7, hk 8, hk 9, hk 10, hk 11, hk 12, hk 13, hk 14, hk 15, hk 16, hk 17⟩

theorem extX_set_pkt (w1 : World) (g : Nat) (v0 v1 v2 v3 v4 v5 v6 v7 v8 v9 va vb vc vd ve vf vg vh : Value) : ExtX g w1 ((((((((((((((((((w1.setCell ⟨g, 0, none⟩ v0).setCell ⟨g, 1, none⟩ v1).setCell ⟨g, 2, none⟩ v2).setCell ⟨g, 3, none⟩ v3).setCell ⟨g, 4, none⟩ v4).setCell ⟨g, 5, none⟩ v5).setCell ⟨g, 6, none⟩ v6).setCell ⟨g, 7, none⟩ v7).setCell ⟨g, 8, none⟩ v8).setCell ⟨g, 9, none⟩ v9).setCell ⟨g, 10, none⟩ va).setCell ⟨g, 11, none⟩ vb).setCell ⟨g, 12, none⟩ vc).setCell ⟨g, 13, none⟩ vd).setCell ⟨g, 14, none⟩ ve).setCell ⟨g, 15, none⟩ vf).setCell ⟨g, 16, none⟩ vg).setCell ⟨g, 17, none⟩ vh) :=
  (((((((((((((((((((ExtX.refl g w1).setCell rfl v0).setCell rfl v1).setCell rfl v2).setCell rfl v3).setCell rfl v4).setCell rfl v5).setCell rfl v6).setCell rfl v7).setCell rfl v8).setCell rfl v9).setCell rfl va).setCell rfl vb).setCell rfl vc).setCell rfl vd).setCell rfl ve).setCell rfl vf).setCell rfl vg).setCell rfl vh)

theorem ext_set_pkt {w w1 : World} {g : Nat} (hx : Ext w w1) (hg : w.heap.size ≤ g) (v0 v1 v2 v3 v4 v5 v6 v7 v8 v9 va vb vc vd ve vf vg vh : Value) : Ext w ((((((((((((((((((w1.setCell ⟨g, 0, none⟩ v0).setCell ⟨g, 1, none⟩ v1).setCell ⟨g, 2, none⟩ v2).setCell ⟨g, 3, none⟩ v3).setCell ⟨g, 4, none⟩ v4).setCell ⟨g, 5, none⟩ v5).setCell ⟨g, 6, none⟩ v6).setCell ⟨g, 7, none⟩ v7).setCell ⟨g, 8, none⟩ v8).setCell ⟨g, 9, none⟩ v9).setCell ⟨g, 10, none⟩ va).setCell ⟨g, 11, none⟩ vb).setCell ⟨g, 12, none⟩ vc).setCell ⟨g, 13, none⟩ vd).setCell ⟨g, 14, none⟩ ve).setCell ⟨g, 15, none⟩ vf).setCell ⟨g, 16, none⟩ vg).setCell ⟨g, 17, none⟩ vh) :=
  ExtX.ext hx (extX_set_pkt w1 g v0 v1 v2 v3 v4 v5 v6 v7 v8 v9 va vb vc vd ve vf vg vh) hg

theorem extN_set_pkt {N : Nat} (w1 : World) (g : Nat) (hg : N ≤ g) (v0 v1 v2 v3 v4 v5 v6 v7 v8 v9 va vb vc vd ve vf vg vh : Value) : ExtN N w1 ((((((((((((((((((w1.setCell ⟨g, 0, none⟩ v0).setCell ⟨g, 1, none⟩ v1).setCell ⟨g, 2, none⟩ v2).setCell ⟨g, 3, none⟩ v3).setCell ⟨g, 4, none⟩ v4).setCell ⟨g, 5, none⟩ v5).setCell ⟨g, 6, none⟩ v6).setCell ⟨g, 7, none⟩ v7).setCell ⟨g, 8, none⟩ v8).setCell ⟨g, 9, none⟩ v9).setCell ⟨g, 10, none⟩ va).setCell ⟨g, 11, none⟩ vb).setCell ⟨g, 12, none⟩ vc).setCell ⟨g, 13, none⟩ vd).setCell ⟨g, 14, none⟩ ve).setCell ⟨g, 15, none⟩ vf).setCell ⟨g, 16, none⟩ vg).setCell ⟨g, 17, none⟩ vh) :=
  (((((((((((((((((((ExtN.refl N w1).setCell hg v0).setCell hg v1).setCell hg v2).setCell hg v3).setCell hg v4).setCell hg v5).setCell hg v6).setCell hg v7).setCell hg v8).setCell hg v9).setCell hg va).setCell hg vb).setCell hg vc).setCell hg vd).setCell hg ve).setCell hg vf).setCell hg vg).setCell hg vh)

end Go.Proofs.Ytkagkfbdpiblkaa
