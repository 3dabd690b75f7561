/- A statement that leaves its order open, whose calls only make new memory: one walk, in which each read is taken as soon as it may come up, serves every order. -/
import Derived.OrdersHeld
import Derived.Deep.RegionWith
import Derived.Below
import Derived.WalkKit
import Derived.KernelRfl
namespace Go.Proofs.Ytdkmakjjcfkfaaa
open Go.RowKit

/-- w' is W with new blocks behind. -/
def Ext (W w' : World) : Prop := Below W.heap.size W w'

theorem Ext.refl (W : World) : Ext W W := Below.refl _ _
theorem Ext.trans {A B C : World} (h : Ext A B) (k : Ext B C) : Ext A C := Below.trans h (Below.mono k h.size)
theorem Ext.drew {A B : World} (h : Ext A B) : Ext A B.drew := Below.drew h
theorem Ext.alloc {A B : World} (h : Ext A B) (o : Obj) : Ext A (B.alloc o) := Below.alloc h h.size o
theorem Ext.below {A B : World} (h : Ext A B) : Below A.heap.size A B := h

/-- w' is W with new blocks behind, but for block x, which may have been written. -/
structure ExtX (x : Nat) (W w' : World) : Prop where
  os : w'.os = W.os
  tape : w'.tape = W.tape
  output : w'.output = W.output
  size : W.heap.size ≤ w'.heap.size
  block : ∀ k, k < W.heap.size → k ≠ x → w'.heap[k]? = W.heap[k]?

theorem ExtX.refl (x : Nat) (W : World) : ExtX x W W := ⟨rfl, rfl, rfl, Nat.le_refl _, fun _ _ _ => rfl⟩
theorem ExtX.trans {x : Nat} {A B C : World} (h : ExtX x A B) (k : ExtX x B C) : ExtX x A C :=
  ⟨k.os.trans h.os, k.tape.trans h.tape, k.output.trans h.output, Nat.le_trans h.size k.size, fun i hi hx => (k.block i (Nat.lt_of_lt_of_le hi h.size) hx).trans (h.block i hi hx)⟩
theorem Ext.but {A B : World} (h : Ext A B) (x : Nat) : ExtX x A B := ⟨h.os, h.tape, h.output, h.size, fun k hk _ => h.block k hk⟩
theorem ExtX.setCell {x : Nat} {A B : World} (h : ExtX x A B) {p : Addr} (hp : p.block = x) (u : Value) : ExtX x A (B.setCell p u) :=
  h.trans ⟨rfl, rfl, rfl, by simp [World.setCell], fun k hk hx => Below.heap_setCell _ _ _ _ (by rw [hp]; exact hx)⟩
theorem ExtX.drew {x : Nat} {A B : World} (h : ExtX x A B) : ExtX x A B.drew := ⟨h.os, h.tape, h.output, h.size, h.block⟩
theorem ExtX.ext {x : Nat} {A B C : World} (h : Ext A B) (k : ExtX x B C) (hx : A.heap.size ≤ x) : Ext A C :=
  ⟨k.os.trans h.os, k.tape.trans h.tape, k.output.trans h.output, Nat.le_trans h.size k.size, fun i hi => (k.block i (Nat.lt_of_lt_of_le hi h.size) (by omega)).trans (h.block i hi)⟩

section
variable {P : Program} {ops : Array Oper} {Q : Exit → Act → World → Prop} {R : World → World → Prop} {E : Act → World → Prop}

theorem wpAnyH_mono {md : Region.Mode} {S S' : World → Prop} (h : ∀ w, S w → S' w) : ∀ (fuel : Nat) (listed : Array Bool) (a : Act) (w : World),
    wpAnyH P md ops Q S fuel listed a w → wpAnyH P md ops Q S' fuel listed a w
  | 0, _, _, _, H => H
  | fuel + 1, _, _, _, H => ⟨H.1, fun i hi => wpOp_mono (fun a' w' h' => ⟨h _ h'.1, wpAnyH_mono h fuel _ a' w' h'.2⟩) (H.2 i hi)⟩

/-- The walk along a list of places (true: the operation may change the world). -/
def wpE (R : World → World → Prop) (P : Program) (ops : Array Oper) (Q : Exit → Act → World → Prop) (E : Act → World → Prop) : List (Nat × Bool) → Act → World → Prop
  | [], a, W => E a W
  | (i, c) :: rest, a, W =>
    match ops[i]? with
    | none => False
    | some o =>
      if Region.wanted o (yielded ops a.tmps) = true then
        if c = true then o.wp P a W (fun a' w' => R W w' ∧ wpE R P ops Q E rest a' w') Q
        else ∃ v, (∀ w', R W w' → (execOp a.eval o).run P w' = .ok (.value v) w') ∧ wpE R P ops Q E rest (a.put o.dst v) W
      else wpE R P ops Q E rest (a.put o.dst undef) W

/-- The list is a way through the region, in which what changes the world comes up alone. -/
def eagerB (ops : Array Oper) : List (Nat × Bool) → Array Bool → Bool
  | [], listed => (Region.ready .any ops listed).isEmpty
  | (i, c) :: rest, listed =>
    (if c then Region.ready .any ops listed == [i] else (Region.free .any ops listed i && (Region.ready .any ops listed).contains i)) &&
      eagerB ops rest (listed.setIfInBounds i true)

theorem wpAnyH_of_E (rr : ∀ w, R w w) (rt : ∀ a b c, R a b → R b c → R a c) (hs : Region.noSelect ops = true) (hQ : ∀ c a d v w, Q (.panic c) (Act.put a (some d) v) w → Q (.panic c) a w) :
    ∀ (sched : List (Nat × Bool)) (listed : Array Bool) (a : Act) (W : World), eagerB ops sched listed = true → wpE R P ops Q (Q .normal) sched a W →
      wpAnyH P .any ops Q (R W) sched.length listed a W
  | [], listed, a, W, he, h => wpAnyH_done (by simpa [eagerB] using he) h 0
  | (i, c) :: rest, listed, a, W, he, h => by
    simp only [eagerB, Bool.and_eq_true] at he
    obtain ⟨h1, h2⟩ := he
    have ih := wpAnyH_of_E rr rt hs hQ rest (listed.setIfInBounds i true)
    unfold wpE at h
    split at h
    · exact h.elim
    · rename_i o ho
      cases c with
      | false =>
        simp only [Bool.false_eq_true, if_false, Bool.and_eq_true] at h1
        obtain ⟨hf, hr⟩ := h1
        split at h
        · rename_i hw
          simp only [Bool.false_eq_true, if_false] at h
          obtain ⟨v, hv, hn⟩ := h
          exact wpAnyH_take ho hs hf hr (fun c a w h => by cases hd : o.dst with | none => rw [hd] at h; exact h | some d => rw [hd] at h; exact hQ c a d _ w h) (.inl ⟨hw, hv⟩) (rr W) (ih _ _ h2 hn)
        · rename_i hw
          exact wpAnyH_take ho hs hf hr (fun c a w h => by cases hd : o.dst with | none => rw [hd] at h; exact h | some d => rw [hd] at h; exact hQ c a d _ w h) (.inr ⟨by simpa using hw, rfl⟩) (rr W) (ih _ _ h2 h)
      | true =>
        simp only [if_true, beq_iff_eq] at h1
        refine wpAnyH_all h1 (by simp) fun j hj => ?_
        obtain rfl : j = i := by simpa using hj
        unfold wpOp
        simp only [ho]
        split
        · rename_i hw
          simp only [hw, if_true] at h
          exact .inl (Oper.wp_mono (fun a' w' ⟨hx, hn⟩ => ⟨hx, wpAnyH_mono (fun x hx' => rt _ _ _ hx hx') _ _ _ _ (ih _ _ h2 hn)⟩) h)
        · rename_i hw
          simp only [hw] at h
          exact ⟨rr W, ih _ _ h2 h⟩

/-- **The region, by that walk**, whatever relation holds what is read. -/
theorem wp_region_eagerR (R : World → World → Prop) (rr : ∀ w, R w w) (rt : ∀ a b c, R a b → R b c → R a c) {id : Nat} {a : Act} {w : World} {l : List Oper} (sched : List (Nat × Bool)) (hm : P.follows .mixedOrders = true)
    (hs : Region.noSelect l.toArray = true) (hl : sched.length = l.toArray.size) (he : eagerB l.toArray sched (Array.replicate l.toArray.size false) = true)
    (hQ : ∀ c a d v w, Q (.panic c) (Act.put a (some d) v) w → Q (.panic c) a w) (h : wpE R P l.toArray Q (Q .normal) sched a w.drew) : (Code.region id l.toArray true).wp P Q a w := by
  have := wpAnyH_of_E rr rt hs hQ sched _ a w.drew he h
  rw [hl] at this
  exact wp_region_held (S := R w.drew) hm this

/-- **The region, by that walk**, all memory held. -/
theorem wp_region_eager {id : Nat} {a : Act} {w : World} {l : List Oper} (sched : List (Nat × Bool)) (hm : P.follows .mixedOrders = true)
    (hs : Region.noSelect l.toArray = true) (hl : sched.length = l.toArray.size) (he : eagerB l.toArray sched (Array.replicate l.toArray.size false) = true)
    (hQ : ∀ c a d v w, Q (.panic c) (Act.put a (some d) v) w → Q (.panic c) a w) (h : wpE Ext P l.toArray Q (Q .normal) sched a w.drew) : (Code.region id l.toArray true).wp P Q a w :=
  wp_region_eagerR Ext Ext.refl (fun _ _ _ h k => h.trans k) sched hm hs hl he hQ h

/-- The same, but for the block x, which may be written. -/
theorem wp_region_eagerX (x : Nat) {id : Nat} {a : Act} {w : World} {l : List Oper} (sched : List (Nat × Bool)) (hm : P.follows .mixedOrders = true)
    (hs : Region.noSelect l.toArray = true) (hl : sched.length = l.toArray.size) (he : eagerB l.toArray sched (Array.replicate l.toArray.size false) = true)
    (hQ : ∀ c a d v w, Q (.panic c) (Act.put a (some d) v) w → Q (.panic c) a w) (h : wpE (ExtX x) P l.toArray Q (Q .normal) sched a w.drew) : (Code.region id l.toArray true).wp P Q a w :=
  wp_region_eagerR (ExtX x) (ExtX.refl x) (fun _ _ _ h k => h.trans k) sched hm hs hl he hQ h

theorem wpE_read {l : List Oper} {i : Nat} {rest : List (Nat × Bool)} {a : Act} {W : World} {o : Oper} {v : Value} (ho : l[i]? = some o) (hw : Region.wanted o (yielded l.toArray a.tmps) = true)
    (hv : ∀ w', R W w' → (execOp a.eval o).run P w' = .ok (.value v) w') (h : wpE R P l.toArray Q E rest (a.put o.dst v) W) : wpE R P l.toArray Q E ((i, false) :: rest) a W := by
  unfold wpE; simp only [List.getElem?_toArray, ho, hw, if_true, Bool.false_eq_true, if_false]; exact ⟨v, hv, h⟩

theorem wpE_skip {l : List Oper} {i : Nat} {c : Bool} {rest : List (Nat × Bool)} {a : Act} {W : World} {o : Oper} (ho : l[i]? = some o) (hw : Region.wanted o (yielded l.toArray a.tmps) = false)
    (h : wpE R P l.toArray Q E rest (a.put o.dst undef) W) : wpE R P l.toArray Q E ((i, c) :: rest) a W := by
  unfold wpE; simp only [List.getElem?_toArray, ho, hw, Bool.false_eq_true, if_false]; exact h

theorem wpE_call {l : List Oper} {i : Nat} {rest : List (Nat × Bool)} {a : Act} {W : World} {o : Oper} (ho : l[i]? = some o) (hw : Region.wanted o (yielded l.toArray a.tmps) = true)
    (h : ∀ K : Act → World → Prop, (∀ a' w', R W w' → wpE R P l.toArray Q E rest a' w' → K a' w') → o.wp P a W K Q) : wpE R P l.toArray Q E ((i, true) :: rest) a W := by
  unfold wpE; simp only [List.getElem?_toArray, ho, hw, if_true]; exact h _ fun _ _ hx hn => ⟨hx, hn⟩

theorem wpE_done {a : Act} {W : World} (h : E a W) : wpE R P ops Q E [] a W := h
end
end Go.Proofs.Ytdkmakjjcfkfaaa
