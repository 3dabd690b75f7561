/- Later worlds in which the first N blocks stand as they were: for statements that write into blocks of the call's own. -/
import Derived.Test.YtdkmakjjcfkfaaaMake
namespace Go.Proofs.Ytdkmakjjcfkfaaa
open Go.RowKit

/-- w' is W with new blocks behind; blocks from N on may have been written. -/
structure ExtN (N : Nat) (W w' : World) : Prop where
  os : w'.os = W.os
  tape : w'.tape = W.tape
  output : w'.output = W.output
  size : W.heap.size ≤ w'.heap.size
  block : ∀ k, k < N → k < W.heap.size → w'.heap[k]? = W.heap[k]?

theorem ExtN.refl (N : Nat) (W : World) : ExtN N W W := ⟨rfl, rfl, rfl, Nat.le_refl _, fun _ _ _ => rfl⟩
theorem ExtN.trans {N : Nat} {A B C : World} (h : ExtN N A B) (k : ExtN N B C) : ExtN N A C :=
  ⟨k.os.trans h.os, k.tape.trans h.tape, k.output.trans h.output, Nat.le_trans h.size k.size, fun i hi hx => (k.block i hi (Nat.lt_of_lt_of_le hx h.size)).trans (h.block i hi hx)⟩
theorem Ext.upto {A B : World} (h : Ext A B) (N : Nat) : ExtN N A B := ⟨h.os, h.tape, h.output, h.size, fun k _ hk => h.block k hk⟩
theorem ExtN.setCell {N : Nat} {A B : World} (h : ExtN N A B) {p : Addr} (hp : N ≤ p.block) (u : Value) : ExtN N A (B.setCell p u) :=
  h.trans ⟨rfl, rfl, rfl, by simp [World.setCell], fun k hk _ => Below.heap_setCell _ _ _ _ (by omega)⟩
theorem ExtN.ext {N : Nat} {A B C : World} (h : Ext A B) (k : ExtN N B C) (hN : A.heap.size ≤ N) : Ext A C :=
  ⟨k.os.trans h.os, k.tape.trans h.tape, k.output.trans h.output, Nat.le_trans h.size k.size, fun i hi => (k.block i (Nat.lt_of_lt_of_le hi hN) (Nat.lt_of_lt_of_le hi h.size)).trans (h.block i hi)⟩
theorem ExtN.heap {N : Nat} {A B : World} (h : ExtN N A B) {b : Nat} {o : Obj} (hb : b < N) (k : A.heap[b]? = some o) : B.heap[b]? = some o := by
  have hlt : b < A.heap.size := by
    rcases Nat.lt_or_ge b A.heap.size with hl | hl
    · exact hl
    · simp [Array.getElem?_eq_none hl] at k
  exact (h.block b hb hlt).trans k

section
variable {P : Program} {Q : Exit → Act → World → Prop}
theorem wp_region_makeN {id : Nat} {a : Act} {w : World} {l : List Oper} (N B : Nat) (hB : B ≤ w.heap.size) (sched : List (Nat × Nat)) (hm : P.follows .mixedOrders = true)
    (hs : Region.noSelect l.toArray = true) (hl : cntB sched = l.toArray.size) (he : makeB l.toArray sched [] (Array.replicate l.toArray.size false) = true)
    (hQ : ∀ c a d v w, Q (.panic c) (Act.put a (some d) v) w ↔ Q (.panic c) a w) (h : wpW (ExtN N) B P l.toArray Q sched a w.drew) : (Code.region id l.toArray true).wp P Q a w :=
  wp_region_makeR B (fun _ _ _ h k => h.trans k) (fun _ _ h => h.upto N) (fun _ _ h => h.size) hB sched hm hs hl he hQ h

theorem wp_region_eagerN (N : Nat) {id : Nat} {a : Act} {w : World} {l : List Oper} (sched : List (Nat × Bool)) (hm : P.follows .mixedOrders = true)
    (hs : Region.noSelect l.toArray = true) (hl : sched.length = l.toArray.size) (he : eagerB l.toArray sched (Array.replicate l.toArray.size false) = true)
    (hQ : ∀ c a d v w, Q (.panic c) (Act.put a (some d) v) w → Q (.panic c) a w) (h : wpE (ExtN N) P l.toArray Q (Q .normal) sched a w.drew) : (Code.region id l.toArray true).wp P Q a w :=
  wp_region_eagerR (ExtN N) (ExtN.refl N) (fun _ _ _ h k => h.trans k) sched hm hs hl he hQ h
end

theorem extN_set_ip {N : Nat} (w1 : World) (g : Nat) (hg : N ≤ g) (v0 v1 v2 v3 v4 v5 v6 v7 v8 v9 va : Value) :
    ExtN N w1 (((((((((((w1.setCell ⟨g, 0, none⟩ v0).setCell ⟨g, 1, none⟩ v1).setCell ⟨g, 2, none⟩ v2).setCell ⟨g, 3, none⟩ v3).setCell ⟨g, 4, none⟩ v4).setCell ⟨g, 5, none⟩ v5).setCell ⟨g, 6, none⟩ v6).setCell ⟨g, 7, none⟩ v7).setCell ⟨g, 8, none⟩ v8).setCell ⟨g, 9, none⟩ v9).setCell ⟨g, 10, none⟩ va) :=
  ((((((((((((ExtN.refl N w1).setCell hg v0).setCell hg v1).setCell hg v2).setCell hg v3).setCell hg v4).setCell hg v5).setCell hg v6).setCell hg v7).setCell hg v8).setCell hg v9).setCell hg va)
end Go.Proofs.Ytdkmakjjcfkfaaa
