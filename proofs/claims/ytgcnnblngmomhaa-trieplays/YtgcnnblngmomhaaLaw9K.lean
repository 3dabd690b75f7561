/- Law 9's known: a fork. -/
import Derived.Test.YtgcnnblngmomhaaTree9
import Derived.Test.YtgcnnblngmomhaaTree5
namespace Go.Proofs.Ytgcnnblngmomhaa.Tri
open Go.RowKit Go.Proofs.Ytgcnnblngmomhaa
set_option linter.unusedVariables false

theorem trie_new (w : World) : TrieAt (w.alloc (.cells #[.pointer none] 62)) w.heap.size .nil [w.heap.size] :=
  ⟨none, [], rfl, heap_new w _, ⟨rfl, rfl⟩, by simp, trivial⟩

/-- The tree of two networks. -/
def knownS : Sh := putS (putS .nil (167772160, 16) 1) (167837696, 16) 2

theorem known_sz : szS knownS = 3 := by decide +kernel
theorem known_last : lastF none (coversS (begS knownS (167837701, 32)) (167837701, 32)) = some ((167837696, 16), 2) := by decide +kernel

set_option maxHeartbeats 1000000 in
theorem known_any (w : World) : Calls Try.prog 20 #[] w fun e w' => e = .returned (.bool true) ∧ Ext w w' := by
  have hp1 : Vp (167772160, 16) := ⟨167772160, 16, rfl, by omega, by omega, by decide⟩
  have hp2 : Vp (167837696, 16) := ⟨167837696, 16, rfl, by omega, by omega, by decide⟩
  have k0 := fun w => new_any w
  have k1 := Set_good w.heap.size 167772160 16 1 .nil [w.heap.size] _ hp1 (trie_new w)
  have k2 := fun w2 F2 (h : TrieAt w2 w.heap.size (putS .nil (167772160, 16) 1) F2) => Set_good w.heap.size 167837696 16 2 _ F2 w2 hp2 h
  have k3 := fun w3 F3 (h : TrieAt w3 w.heap.size knownS F3) => (fun root (h1 : Top w3 (some ⟨w.heap.size, 0, none⟩) root) (h2 : Is w3 knownS root) => Longest_any _ root knownS 167837701 w3 h1 h2 h.wf (by omega) (by omega))
  have k4 := fun w3 root (h1 : Top w3 (some ⟨w.heap.size, 0, none⟩) root) (h2 : Is w3 knownS root) => Nodes_any _ root knownS w3 h1 h2 (by rw [known_sz]; omega)
  rw [known_sz] at k4
  rw [known_last] at k3
  have e2 : putS (putS .nil (167772160, 16) 1) (167837696, 16) 2 = knownS := rfl
  rw [e2] at k2
  generalize knownS = s2 at *
  generalize putS .nil (167772160, 16) 1 = s1 at *
  have hx1 : Ext w (w.alloc (.cells #[.pointer none] 62)) := (Ext.refl w).alloc _
  have tok1 : Hid True := trivial
  clear hp1 hp2 e2
  go_enter Try.func20, Try.ntmps20
  go_wp2_with (first
    | (go_at_call 12; refine (k0 _).mono ?_; rintro e w1 ⟨rfl, rfl⟩)
    | (go_at_call 15; clear tok1; refine k1.mono ?_; rintro e w2 ⟨rfl, F2, hT2, hx2, hn2⟩)
    | (go_at_call 15; refine (k2 _ _ hT2).mono ?_; rintro e w3 ⟨rfl, F3, hT3, hx3, hn3⟩; obtain ⟨root, ht1, ht2⟩ := hT3.top)
    | (go_at_call 22; refine (k3 _ _ hT3 _ ht1 ht2).mono ?_; rintro e w4 ⟨rfl, hx4⟩; simp only [ansO]; replace ht1 := (ht1.later hx4).later ((Ext.refl w4).alloc (.cells #[.int .u32 167837696, .int .i64 16] 32)); replace ht2 := (ht2.later hx4).later ((Ext.refl w4).alloc (.cells #[.int .u32 167837696, .int .i64 16] 32)))
    | (go_at_call 28; refine (k4 _ _ ht1 ht2).mono ?_; rintro e w5 ⟨rfl, hw5⟩))
  go_ret
  have hxA : ExtS [w.heap.size] w w2 := (hx1.toS _).trans hx2
  have hxB : ExtS [w.heap.size] w w3 := hxA.then hx3 (fun x hx => (hn2 x hx).imp id (fun h => Nat.le_trans hx1.size h))
  have hxC : Ext w w3 := hxB.ext (by simp)
  exact ⟨rfl, (hxC.trans hx4).alloc _⟩
end Go.Proofs.Ytgcnnblngmomhaa.Tri
