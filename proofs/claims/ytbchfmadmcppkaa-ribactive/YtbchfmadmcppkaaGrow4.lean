/- Later worlds in which all blocks but some stand as they were; a statement that leaves its order open, calls what writes those, and ends in stores into what it read. -/
import Derived.Test.YtbchfmadmcppkaaGrow2
import Derived.Test.YtbchfmadmcppkaaPlain
namespace Go.Proofs.Ytbchfmadmcppkaa
open Go.RowKit

/-- w' is W with new blocks behind; of the old ones those of F may have been written. -/
structure ExtS (F : List Nat) (W w' : World) : Prop where
  os : w'.os = W.os
  tape : w'.tape = W.tape
  output : w'.output = W.output
  size : W.heap.size ≤ w'.heap.size
  block : ∀ k, k < W.heap.size → k ∉ F → w'.heap[k]? = W.heap[k]?

theorem ExtS.refl (F : List Nat) (W : World) : ExtS F W W := ⟨rfl, rfl, rfl, Nat.le_refl _, fun _ _ _ => rfl⟩
theorem ExtS.trans {F : List Nat} {A B C : World} (h : ExtS F A B) (k : ExtS F B C) : ExtS F A C :=
  ⟨k.os.trans h.os, k.tape.trans h.tape, k.output.trans h.output, Nat.le_trans h.size k.size, fun i hi hx => (k.block i (Nat.lt_of_lt_of_le hi h.size) hx).trans (h.block i hi hx)⟩
/-- What is written behind may be other blocks, if these are new. -/
theorem ExtS.then {F G : List Nat} {A B C : World} (h : ExtS F A B) (k : ExtS G B C) (hg : ∀ b ∈ G, b ∈ F ∨ A.heap.size ≤ b) : ExtS F A C :=
  ⟨k.os.trans h.os, k.tape.trans h.tape, k.output.trans h.output, Nat.le_trans h.size k.size, fun i hi hx =>
    (k.block i (Nat.lt_of_lt_of_le hi h.size) (fun hb => by rcases hg i hb with h1 | h1; exact hx h1; omega)).trans (h.block i hi hx)⟩
theorem ExtS.mono {F G : List Nat} {A B : World} (h : ExtS F A B) (hg : ∀ b ∈ F, b ∈ G) : ExtS G A B :=
  ⟨h.os, h.tape, h.output, h.size, fun i hi hx => h.block i hi fun hb => hx (hg i hb)⟩
theorem Ext.toS {A B : World} (h : Ext A B) (F : List Nat) : ExtS F A B := ⟨h.os, h.tape, h.output, h.size, fun k hk _ => h.block k hk⟩
theorem ExtS.ext {F : List Nat} {A B : World} (h : ExtS F A B) (hf : ∀ b ∈ F, A.heap.size ≤ b) : Ext A B :=
  ⟨h.os, h.tape, h.output, h.size, fun k hk => h.block k hk fun hb => by have := hf k hb; omega⟩
theorem ExtS.drew {F : List Nat} {A B : World} (h : ExtS F A B) : ExtS F A B.drew := ⟨h.os, h.tape, h.output, h.size, h.block⟩
theorem ExtS.alloc {F : List Nat} {A B : World} (h : ExtS F A B) (o : Obj) : ExtS F A (B.alloc o) := h.trans (((Ext.refl B).alloc o).toS F)
theorem ExtS.setCell {F : List Nat} {A B : World} (h : ExtS F A B) {p : Addr} (hp : p.block ∈ F ∨ A.heap.size ≤ p.block) (u : Value) : ExtS F A (B.setCell p u) :=
  h.then (G := [p.block]) ⟨rfl, rfl, rfl, by simp [World.setCell], fun k _ hx => Below.heap_setCell _ _ _ _ (by simpa using hx)⟩ (by simpa using hp)
theorem heap_lt {w : World} {b : Nat} {o : Obj} (h : w.heap[b]? = some o) : b < w.heap.size := by
  rcases Nat.lt_or_ge b w.heap.size with hl | hl
  · exact hl
  · simp [Array.getElem?_eq_none hl] at h
theorem ExtS.heap {F : List Nat} {A B : World} (hx : ExtS F A B) {b : Nat} {o : Obj} (hb : b ∉ F) (h : A.heap[b]? = some o) : B.heap[b]? = some o :=
  (hx.block b (heap_lt h) hb).trans h

section
variable {P : Program} {ops : Array Oper} {Q : Exit → Act → World → Prop} {R : World → World → Prop} {T : List Nat}

/-- As eagerT, the operations that wait for each read being given. -/
def eagerD (ops : Array Oper) (T : List Nat) : List (Nat × Bool) → List (List Nat) → Array Bool → Bool
  | [], _, listed => tailB ops T listed
  | (i, c) :: rest, Ds, listed =>
    (if c then Region.ready .any ops listed == [i] && !T.contains i else (Region.free .any ops listed i && (Region.ready .any ops listed).contains i && waitB ops T listed i (Ds.headD []))) &&
      eagerD ops T rest Ds.tail (listed.setIfInBounds i true)

theorem wpAnyL_of_D (rr : ∀ w, R w w) (rt : ∀ a b c, R a b → R b c → R a c) (hs : Region.noSelect ops = true) (hQ : ∀ c a d v w, Q (.panic c) (Act.put a (some d) v) w → Q (.panic c) a w) :
    ∀ (sched : List (Nat × Bool)) (Ds : List (List Nat)) (listed : Array Bool) (a : Act) (W : World), eagerD ops T sched Ds listed = true → wpE R P ops Q (wpT P ops Q T) sched a W →
      wpAnyL P .any ops Q (R W) T (sched.length + T.length) listed a W
  | [], Ds, listed, a, W, he, h => by
    have := wpAnyL_of_T (Q := Q) (P := P) (T := T) (R W) T listed a W (fun i hi => by simpa using hi) (by simpa [eagerD] using he) h
    simpa using this
  | (i, c) :: rest, Ds, listed, a, W, he, h => by
    simp only [eagerD, Bool.and_eq_true] at he
    obtain ⟨h1, h2⟩ := he
    have ih := wpAnyL_of_D rr rt hs hQ rest Ds.tail (listed.setIfInBounds i true)
    rw [show ((i, c) :: rest).length + T.length = (rest.length + T.length) + 1 by simp; omega]
    unfold wpE at h
    split at h
    · exact h.elim
    · rename_i o ho
      cases c with
      | false =>
        simp only [Bool.false_eq_true, if_false, Bool.and_eq_true] at h1
        obtain ⟨⟨hf, hr⟩, hw⟩ := h1
        have hq : ∀ v c a w, Q (.panic c) (a.put o.dst v) w → Q (.panic c) a w := fun v c a w h => by cases hd : o.dst with | none => rw [hd] at h; exact h | some d => rw [hd] at h; exact hQ c a d _ w h
        split at h
        · rename_i hw'
          simp only [Bool.false_eq_true, if_false] at h
          obtain ⟨v, hv, hn⟩ := h
          exact wpAnyL_first ho (Region.noSelect_spec hs) (hq v) _ (waitB_spec hw).1 (waitB_spec hw).2.1 _ _ _ _ (waitB_spec hw).2.2 (Region.free_spec ho hf) (by simpa using hr) (.inl ⟨hw', hv⟩) (rr W) (ih _ _ h2 hn)
        · rename_i hw'
          exact wpAnyL_first ho (Region.noSelect_spec hs) (hq undef) _ (waitB_spec hw).1 (waitB_spec hw).2.1 _ _ _ _ (waitB_spec hw).2.2 (Region.free_spec ho hf) (by simpa using hr) (.inr ⟨by simpa using hw', rfl⟩) (rr W) (ih _ _ h2 h)
      | true =>
        simp only [if_true, Bool.and_eq_true, beq_iff_eq] at h1
        refine ⟨fun h0 => (by rw [h1.1] at h0; cases h0), fun j hj => ?_⟩
        rw [h1.1] at hj
        obtain rfl : j = i := by simpa using hj
        unfold wpOp
        simp only [ho]
        split
        · rename_i hw
          simp only [hw, if_true] at h
          exact .inl (Oper.wp_mono (fun a' w' ⟨hx, hn⟩ => ⟨fun _ => hx, wpAnyL_mono (fun x hx' => rt _ _ _ hx hx') _ _ _ _ (ih _ _ h2 hn)⟩) h)
        · rename_i hw
          simp only [hw] at h
          exact ⟨fun _ => rr W, ih _ _ h2 h⟩

/-- **The region, by that walk, the stores of T behind all else; the calls may write the blocks of F.** -/
theorem wp_region_tailS (F : List Nat) (T : List Nat) (Ds : List (List Nat)) {id : Nat} {a : Act} {w : World} {l : List Oper} (sched : List (Nat × Bool)) (hm : P.follows .mixedOrders = true)
    (hs : Region.noSelect l.toArray = true) (hl : sched.length + T.length = l.toArray.size) (he : eagerD l.toArray T sched Ds (Array.replicate l.toArray.size false) = true)
    (hQ : ∀ c a d v w, Q (.panic c) (Act.put a (some d) v) w → Q (.panic c) a w) (h : wpE (ExtS F) P l.toArray Q (wpT P l.toArray Q T) sched a w.drew) : (Code.region id l.toArray true).wp P Q a w := by
  have := wpAnyL_of_D (ExtS.refl F) (fun _ _ _ h k => h.trans k) hs hQ sched Ds _ a w.drew he h
  rw [hl] at this
  exact wp_region_any hm (wpAny_of_L _ _ _ _ this)

theorem wp_region_eagerS (F : List Nat) {id : Nat} {a : Act} {w : World} {l : List Oper} (sched : List (Nat × Bool)) (hm : P.follows .mixedOrders = true)
    (hs : Region.noSelect l.toArray = true) (hl : sched.length = l.toArray.size) (he : eagerB l.toArray sched (Array.replicate l.toArray.size false) = true)
    (hQ : ∀ c a d v w, Q (.panic c) (Act.put a (some d) v) w → Q (.panic c) a w) (h : wpE (ExtS F) P l.toArray Q (Q .normal) sched a w.drew) : (Code.region id l.toArray true).wp P Q a w :=
  wp_region_eagerR (ExtS F) (ExtS.refl F) (fun _ _ _ h k => h.trans k) sched hm hs hl he hQ h
end
end Go.Proofs.Ytbchfmadmcppkaa
