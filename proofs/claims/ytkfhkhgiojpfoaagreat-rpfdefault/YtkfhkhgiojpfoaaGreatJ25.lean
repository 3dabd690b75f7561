/- Texts joined by a program: Law12K, Law12L, Law12T, RpfP, RpfR, Rpf1, Rpf2. -/
import Derived.Shelf.Abstract
import Derived.Test.YtkfhkhgiojpfoaaGreatJ9
import Derived.Test.YtkfhkhgiojpfoaaGreatJ21
import Derived.Test.YtkfhkhgiojpfoaaGreatJ24
namespace Go.Proofs.YtkfhkhgiojpfoaaGreat.Fb

set_option maxRecDepth 100000

open Go.RowKit Go.Proofs.YtkfhkhgiojpfoaaGreat Go.Proofs.YtkfhkhgiojpfoaaGreat.Rb

set_option linter.unusedVariables false

set_option linter.unusedSimpArgs false

/-- A Fib of (L, U) and the document's of (M, V), in memory of the call's own, apart, all in H. -/
def BothH (w wr : World) (fb xb : Nat) (L : List Rt) (U : List Bool) (M : List Rt) (V : List Bool) (H : List Nat) : Prop := ∃ F G, FibAt wr fb L U F ∧ DocAt wr xb M V G ∧ (∀ y ∈ F, y ∉ G) ∧ (∀ y ∈ F, y ∈ H) ∧ (∀ y ∈ G, y ∈ H) ∧ (∀ y ∈ H, w.heap.size ≤ y ∧ y < wr.heap.size) ∧ Ext w wr

theorem BothH.later {w wr w' : World} {fb xb : Nat} {L : List Rt} {U : List Bool} {M : List Rt} {V : List Bool} {H : List Nat} (h : BothH w wr fb xb L U M V H) (hx : Ext wr w') : BothH w w' fb xb L U M V H := by
  obtain ⟨F, G, h1, h2, h3, h4, h5, h6, h7⟩ := h
  exact ⟨F, G, h1.ext hx, h2.ext hx, h3, h4, h5, fun y hy => ⟨(h6 y hy).1, Nat.lt_of_lt_of_le (h6 y hy).2 hx.size⟩, h7.trans hx⟩

theorem BothH.ext {w wr : World} {fb xb : Nat} {L : List Rt} {U : List Bool} {M : List Rt} {V : List Bool} {H : List Nat} (h : BothH w wr fb xb L U M V H) : Ext w wr := by
  obtain ⟨F, G, h1, h2, h3, h4, h5, h6, h7⟩ := h
  exact h7

theorem BothH.lt {w wr : World} {fb xb : Nat} {L : List Rt} {U : List Bool} {M : List Rt} {V : List Bool} {H : List Nat} (h : BothH w wr fb xb L U M V H) : ∀ y ∈ H, w.heap.size ≤ y ∧ y < wr.heap.size := by
  obtain ⟨F, G, h1, h2, h3, h4, h5, h6, h7⟩ := h
  exact h6

theorem BothH.good {w wr : World} {fb xb : Nat} {L : List Rt} {U : List Bool} {M : List Rt} {V : List Bool} {H : List Nat} (h : BothH w wr fb xb L U M V H) : Rb.Good L ∧ U.length ≤ 8 ∧ fullB L U = false := by
  obtain ⟨F, G, h1, h2, h3, h4, h5, h6, h7⟩ := h
  exact ⟨h1.good, h1.eight, h1.room⟩

/-- Both, and what may have been written for them. -/
def BothAns (w wr : World) (fb xb : Nat) (L : List Rt) (U : List Bool) (M : List Rt) (V : List Bool) (H : List Nat) (w' : World) : Prop := ∃ H', BothH w w' fb xb L U M V H' ∧ ExtS H wr w' ∧ ∀ y ∈ H', y ∈ H ∨ wr.heap.size ≤ y

theorem BothAns.later {w wr w' w2 : World} {fb xb : Nat} {L : List Rt} {U : List Bool} {M : List Rt} {V : List Bool} {H : List Nat} (h : BothAns w wr fb xb L U M V H w') (hx : Ext w' w2) : BothAns w wr fb xb L U M V H w2 := by
  obtain ⟨H', h1, h2, h3⟩ := h
  exact ⟨H', h1.later hx, h2.trans (hx.toS H), h3⟩

theorem BothAns.from {w wr w1 w' : World} {fb xb : Nat} {L : List Rt} {U : List Bool} {M : List Rt} {V : List Bool} {H : List Nat} (hx : Ext wr w1) (h : BothAns w w1 fb xb L U M V H w') : BothAns w wr fb xb L U M V H w' := by
  obtain ⟨H', h1, h2, h3⟩ := h
  exact ⟨H', h1, (hx.toS H).trans h2, fun y hy => (h3 y hy).imp_right fun h => Nat.le_trans hx.size h⟩

theorem BothH.stepF {w wr : World} {fb xb : Nat} {L : List Rt} {U : List Bool} {M : List Rt} {V : List Bool} {H : List Nat} (h : BothH w wr fb xb L U M V H) : ∃ F, FibAt wr fb L U F ∧ ∀ {L' : List Rt} {U' : List Bool} {w' : World}, FibAns wr fb F L' U' w' → BothAns w wr fb xb L' U' M V H w' := by
  obtain ⟨F, G, h1, h2, h3, h4, h5, h6, h7⟩ := h
  refine ⟨F, h1, fun {L' U' w'} ⟨F', k1, k2, k3⟩ => ⟨H ++ F', ⟨F', G, k1, h2.later k2 fun y hy hf => h3 y hf hy, fun y hy hg => ?_, fun y hy => List.mem_append_right _ hy, fun y hy => List.mem_append_left _ (h5 y hy), fun y hy => ?_, ?_⟩, k2.mono h4, fun y hy => ?_⟩⟩
  · rcases k3 y hy with hh | hh
    · exact h3 y hh hg
    · have := h2.lt y hg; omega
  · have := k2.size
    have := h7.size
    rcases List.mem_append.1 hy with hy | hy
    · have := h6 y hy; omega
    · refine ⟨?_, k1.lt y hy⟩
      rcases k3 y hy with hh | hh
      · exact (h6 y (h4 y hh)).1
      · omega
  · exact ExtS.ext ((h7.toS F).trans k2) fun b hb => (h6 b (h4 b hb)).1
  · rcases List.mem_append.1 hy with hy | hy
    · exact .inl hy
    · exact (k3 y hy).imp_left (h4 y)

theorem BothH.stepX {w wr : World} {fb xb : Nat} {L : List Rt} {U : List Bool} {M : List Rt} {V : List Bool} {H : List Nat} (h : BothH w wr fb xb L U M V H) : ∃ G, DocAt wr xb M V G ∧ ∀ {M' : List Rt} {V' : List Bool} {w' : World}, DocAns wr xb G M' V' w' → BothAns w wr fb xb L U M' V' H w' := by
  obtain ⟨F, G, h1, h2, h3, h4, h5, h6, h7⟩ := h
  refine ⟨G, h2, fun {M' V' w'} ⟨G', k1, k2, k3⟩ => ⟨H ++ G', ⟨F, G', h1.later k2 fun y hy hg => h3 y hy hg, k1, fun y hy hg => ?_, fun y hy => List.mem_append_left _ (h4 y hy), fun y hy => List.mem_append_right _ hy, fun y hy => ?_, ?_⟩, k2.mono h5, fun y hy => ?_⟩⟩
  · rcases k3 y hg with hh | hh
    · exact h3 y hy hh
    · have := h1.lt y hy; omega
  · have := k2.size
    have := h7.size
    rcases List.mem_append.1 hy with hy | hy
    · have := h6 y hy; omega
    · refine ⟨?_, k1.lt y hy⟩
      rcases k3 y hy with hh | hh
      · exact (h6 y (h5 y hh)).1
      · omega
  · exact ExtS.ext ((h7.toS G).trans k2) fun b hb => (h6 b (h5 b hb)).1
  · rcases List.mem_append.1 hy with hy | hy
    · exact .inl hy
    · exact (k3 y hy).imp_left (h5 y)

theorem BothAns.then {w wr w1 w2 : World} {fb xb : Nat} {L L' : List Rt} {U U' : List Bool} {M M' : List Rt} {V V' : List Bool} {H : List Nat} (h : BothAns w wr fb xb L U M V H w1) (k : ∀ H1, BothH w w1 fb xb L U M V H1 → BothAns w w1 fb xb L' U' M' V' H1 w2) : BothAns w wr fb xb L' U' M' V' H w2 := by
  obtain ⟨H1, h1, h2, h3⟩ := h
  obtain ⟨H2, k1, k2, k3⟩ := k H1 h1
  refine ⟨H2, k1, h2.then k2 h3, fun y hy => ?_⟩
  rcases k3 y hy with hh | hh
  · exact h3 y hh
  · exact .inr (Nat.le_trans h2.size hh)

/-- A Fib and the document's, new. -/
theorem both_new {w w1 w2 : World} {n : Nat} {fb xb : Nat} {F G : List Nat} (h1 : FibAt w1 fb [] (List.replicate n true) F) (hx1 : Ext w w1) (hF : ∀ y ∈ F, w.heap.size ≤ y) (h2 : DocAt w2 xb [] (List.replicate n true) G) (hx2 : Ext w1 w2) (hG : ∀ y ∈ G, w1.heap.size ≤ y) : BothH w w2 fb xb [] (List.replicate n true) [] (List.replicate n true) (F ++ G) := by
  have s1 := hx1.size
  have s2 := hx2.size
  refine ⟨F, G, h1.ext hx2, h2, fun y hy hg => by have := h1.lt y hy; have := hG y hg; omega, fun y hy => List.mem_append_left _ hy, fun y hy => List.mem_append_right _ hy, fun y hy => ?_, hx1.trans hx2⟩
  rcases List.mem_append.1 hy with hy | hy
  · have := h1.lt y hy; have := hF y hy; omega
  · have := h2.lt y hy; have := hG y hy; omega
end Go.Proofs.YtkfhkhgiojpfoaaGreat.Fb

namespace Go.Proofs.YtkfhkhgiojpfoaaGreat.Fb

set_option maxRecDepth 100000

open Go.RowKit Go.Proofs.YtkfhkhgiojpfoaaGreat Go.Proofs.YtkfhkhgiojpfoaaGreat.Rb

set_option linter.unusedVariables false

set_option linter.unusedSimpArgs false

def k1 : Rt := ⟨0, 0, 0, 0, 0, 0⟩
def k2 : Rt := ⟨0, 167772160, 8, 1, 0, 0⟩

/-- The cells of a row of bools. -/
theorem OwnB.cell {w : World} {B : Nat} {q : Option Addr} {n c : Nat} {U : List Bool} (h : OwnB w B (.slice q n c) U) {k : Nat} {u : Bool} (hk : U[k]? = some u) : ∃ g, q = some ⟨g, 0, none⟩ ∧ w.cell? ⟨g, k, none⟩ = some (.bool u) := by
  obtain ⟨g, c', cur, e, -, hg, hc⟩ := h.block (by have := (List.getElem?_eq_some_iff.1 hk).1; omega)
  cases e
  exact ⟨g, rfl, by rw [heap_cell hg]; exact hc k u hk⟩
end Go.Proofs.YtkfhkhgiojpfoaaGreat.Fb

namespace Go.Proofs.YtkfhkhgiojpfoaaGreat.Fb

set_option maxRecDepth 100000

open Go.RowKit Go.Proofs.YtkfhkhgiojpfoaaGreat Go.Proofs.YtkfhkhgiojpfoaaGreat.Rb

open Go.Proofs.YtkfhkhgiojpfoaaGreat.Tri (PX Vp cov has_cov)

open Go.Proofs.YtkfhkhgiojpfoaaGreat.Dr (ownN own_cons moreN lvN keysL)

set_option linter.unusedVariables false

set_option linter.unusedSimpArgs false

/-! What is told is up. -/

theorem way_mem {L : List Rt} (hg : Rb.Good L) {U : List Bool} {t a : Int} (a0 : 0 ≤ a) (a1 : a ≤ 4294967295) {r : Rt} (h : wayO L U t a = some r) : r ∈ actL L t U ∧ cov (pxR r) (a, 32) = true ∧ ∀ s ∈ actL L t U, cov (pxR s) (a, 32) = true → s.l ≤ r.l := by
  have h1 := look_way (act_pf hg t U) a0 a1
  unfold wayO at h
  rw [h] at h1
  exact h1

theorem way_none {L : List Rt} (hg : Rb.Good L) {U : List Bool} {t a : Int} (a0 : 0 ≤ a) (a1 : a ≤ 4294967295) (h : wayO L U t a = none) : ∀ s ∈ actL L t U, cov (pxR s) (a, 32) = false := by
  have h1 := look_way (act_pf hg t U) a0 a1
  unfold wayO at h
  rw [h] at h1
  exact h1

theorem down_upB {U : List Bool} {n : Nat} {j : Int} (h : upB (U.set n false) j = true) : upB U j = true ∧ j ≠ (n : Int) := by
  unfold upB at *
  rw [Bool.and_eq_true] at *
  obtain ⟨h1, h2⟩ := h
  rw [List.getElem?_set] at h2
  split at h2
  · split at h2 <;> simp at h2
  · rename_i hne
    have := of_decide_eq_true h1
    exact ⟨⟨h1, h2⟩, fun e => hne (by omega)⟩

theorem setF_down {L : List Rt} {U : List Bool} {n : Nat} (hn : n < U.length) (h : fullB L U = false) : setF L U (n : Int) false = (0, U.set n false) := by
  unfold setF
  have hh : hasB U (n : Int) = true := by unfold hasB; simp; omega
  rw [if_neg (by rw [hh]; simp), Int.toNat_natCast, if_neg]
  rw [fullB_sub (fun x hx => hx) (fun i hi => (down_upB hi).1) h]
  simp

/-! What is told is the best. -/
end Go.Proofs.YtkfhkhgiojpfoaaGreat.Fb

namespace Go.Proofs.YtkfhkhgiojpfoaaGreat.Rp

set_option maxRecDepth 100000

open Go.RowKit Go.Proofs.YtkfhkhgiojpfoaaGreat Go.Proofs.YtkfhkhgiojpfoaaGreat.Rb Go.Proofs.YtkfhkhgiojpfoaaGreat.Fb

open Go.Proofs.YtkfhkhgiojpfoaaGreat.Tri (PX Vp cov has_cov)

set_option linter.unusedVariables false

set_option linter.unusedSimpArgs false

/-- Each way's interface is there. -/
def InB (L : List Rt) (U : List Bool) : Prop := ∀ r ∈ L, hasB U r.i = true

theorem InB.nil (U : List Bool) : InB [] U := fun r hr => by cases hr

theorem InB.add {L : List Rt} {U : List Bool} (h : InB L U) (r : Rt) : InB (addF L U r).2 U := by
  unfold addF
  split
  · exact h
  · rename_i hb
    split
    · rename_i he
      split
      · exact h
      · intro x hx
        have hx : x ∈ addS L r := hx
        have e : addS L r = insR L r := by unfold addS; rw [if_pos he]
        rw [e] at hx
        rcases mem_ins hx with hx | hx
        · rw [hx]; simpa using hb
        · exact h x hx
    · exact h

theorem hasB_len {U V : List Bool} (h : U.length = V.length) (i : Int) : hasB U i = hasB V i := by unfold hasB; rw [h]

theorem setF_len (L : List Rt) (U : List Bool) (i : Int) (b : Bool) : (setF L U i b).2.length = U.length := by
  unfold setF
  split
  · rfl
  · split
    · rfl
    · exact List.length_set

theorem InB.set {L : List Rt} {U : List Bool} (h : InB L U) (i : Int) (b : Bool) : InB L (setF L U i b).2 := fun r hr => by
  rw [hasB_len (setF_len L U i b)]; exact h r hr

theorem InB.up {L : List Rt} {U : List Bool} (h : InB L U) {r : Rt} (hr : r ∈ L) : ∃ (k : Nat) (u : Bool), r.i = (k : Int) ∧ k < U.length ∧ U[k]? = some u ∧ upB U r.i = u := by
  have h1 := h r hr
  unfold hasB at h1
  rw [Bool.and_eq_true, decide_eq_true_eq, decide_eq_true_eq] at h1
  have hk : r.i.toNat < U.length := by omega
  refine ⟨r.i.toNat, U[r.i.toNat], by omega, hk, List.getElem?_eq_getElem hk, ?_⟩
  unfold upB
  rw [List.getElem?_eq_getElem hk]
  simp [h1.1]

/-- A way of table 0 that is up and has src. -/
def aliveB (U : List Bool) (src : Int) (r : Rt) : Bool := decide (r.t = 0) && (upB U r.i && hasV r.a r.l src)

/-- What a mode asks of an alive way. -/
def suchV (mode iface : Int) (r : Rt) : Bool := decide (mode = 3) || (decide (mode = 2) && decide (0 < r.l)) || (decide (mode = 4) && decide (r.i = iface))

/-- P13.1. -/
def checkV (L : List Rt) (U : List Bool) (mode iface src : Int) : Bool :=
  if mode = 0 then true
  else if mode = 1 then (wayO L U 0 src).isSome && decide ((theR (wayO L U 0 src)).i = iface)
  else L.any fun r => aliveB U src r && suchV mode iface r

/-- What is told is alive. -/
theorem way_alive {L : List Rt} (hg : Rb.Good L) {U : List Bool} {src : Int} (a0 : 0 ≤ src) (a1 : src ≤ 4294967295) {r : Rt} (h : wayO L U 0 src = some r) : r ∈ L ∧ aliveB U src r = true := by
  obtain ⟨h1, h2, -⟩ := way_mem hg a0 a1 h
  obtain ⟨-, m1, m2, m3⟩ := act_is h1
  have hc : cov (pxR r) (src, 32) = hasV r.a r.l src := has_cov (pxR r) src
  rw [hc] at h2
  refine ⟨m1, ?_⟩
  unfold aliveB
  rw [m2, m3, h2]
  rfl

/-- P13.3. -/
theorem check_order {L : List Rt} (hg : Rb.Good L) (U : List Bool) (iface src : Int) (a0 : 0 ≤ src) (a1 : src ≤ 4294967295) :
    (checkV L U 1 iface src = true → checkV L U 4 iface src = true) ∧ (checkV L U 4 iface src = true → checkV L U 3 iface src = true) ∧ (checkV L U 2 iface src = true → checkV L U 3 iface src = true) := by
  unfold checkV suchV
  simp only [Int.reduceEq, ↓reduceIte, decide_false, decide_true, Bool.false_and, Bool.true_and, Bool.or_false, Bool.false_or, Bool.true_or, Bool.and_true]
  refine ⟨fun h => ?_, fun h => ?_, fun h => ?_⟩
  · cases hw : wayO L U 0 src with
    | none => rw [hw] at h; simp at h
    | some r =>
      rw [hw] at h
      obtain ⟨h1, h2⟩ := way_alive hg a0 a1 hw
      have h3 : r.i = iface := of_decide_eq_true (by rw [Bool.and_eq_true] at h; exact h.2)
      exact List.any_eq_true.2 ⟨r, h1, by rw [h2, h3]; simp⟩
  · obtain ⟨r, h1, h2⟩ := List.any_eq_true.1 h
    rw [Bool.and_eq_true] at h2
    exact List.any_eq_true.2 ⟨r, h1, h2.1⟩
  · obtain ⟨r, h1, h2⟩ := List.any_eq_true.1 h
    rw [Bool.and_eq_true] at h2
    exact List.any_eq_true.2 ⟨r, h1, h2.1⟩

/-- Ways laid, one behind the other. -/
def layL (U : List Bool) (L : List Rt) (R : List Rt) : List Rt := R.foldl (fun L r => (addF L U r).2) L

theorem layL_take {U : List Bool} {L R : List Rt} {k : Nat} {x : Rt} (h : R[k]? = some x) : layL U L (R.take (k + 1)) = (addF (layL U L (R.take k)) U x).2 := by
  rw [List.take_add_one, h]
  unfold layL
  rw [List.foldl_append]
  rfl
end Go.Proofs.YtkfhkhgiojpfoaaGreat.Rp

namespace Go.Proofs.YtkfhkhgiojpfoaaGreat.Rp

set_option maxRecDepth 100000

open Go.RowKit Go.Proofs.YtkfhkhgiojpfoaaGreat Go.Proofs.YtkfhkhgiojpfoaaGreat.Rb Go.Proofs.YtkfhkhgiojpfoaaGreat.Fb

open Go.Proofs.YtkfhkhgiojpfoaaGreat.Tri (PX Vp OwnP pxC pxC_get pxC_length pxC_one)

set_option linter.unusedVariables false

set_option linter.unusedSimpArgs false

theorem any_take {α : Type} {L : List α} {f : α → Bool} {k : Nat} {x : α} (h : L[k]? = some x) : (L.take (k + 1)).any f = ((L.take k).any f || f x) := by
  rw [List.take_add_one, h]; simp

theorem any_in {α : Type} {L : List α} {f : α → Bool} {k : Nat} {x : α} (h : (L.take (k + 1)).any f = ((L.take k).any f || f x)) (hx : f x = true) : L.any f = true := by
  rw [hx, Bool.or_true] at h
  obtain ⟨y, h1, h2⟩ := List.any_eq_true.1 h
  exact List.any_eq_true.2 ⟨y, List.mem_of_mem_take h1, h2⟩

/-- A place, or none. -/
def IndexAns (w : World) (y : Bool) (e : Ending) (w' : World) : Prop := ∃ z, e = .returned (.int .i64 z) ∧ ((∃ k : Nat, z = (k : Int) ∧ y = true) ∨ (z = -1 ∧ y = false)) ∧ Ext w w'

abbrev RdR (w : World) (p : Option Addr) (n c : Nat) (L : List Rt) : Prop := Rd w p n c L

/-- An interface: Name, Addr's Addr and Len, MTU, Rpf. -/
abbrev IfE := ByteArray × Int × Int × Int × Int

def ifE (x : IfE) : List Value := [.string x.1, .int .u32 x.2.1, .int .i64 x.2.2.1, .int .i64 x.2.2.2.1, .int .i64 x.2.2.2.2]

def RdI (w : World) (p : Option Addr) (n c : Nat) (L : List IfE) : Prop := L.length = n ∧ (n = 0 ∨ ∃ b off, p = some ⟨b, off, none⟩ ∧ b < w.heap.size ∧ ∀ (i : Nat) (x : IfE), L[i]? = some x → ∀ j, j < 5 → w.cell? ⟨b, off + (i * 5 + j), none⟩ = (ifE x)[j]?)

theorem RdI.len {w : World} {p : Option Addr} {n c : Nat} {L : List IfE} (h : RdI w p n c L) : L.length = n := h.1

theorem RdI.ext {w w' : World} {p : Option Addr} {n c : Nat} {L : List IfE} (h : RdI w p n c L) (hx : Ext w w') : RdI w' p n c L := by
  refine ⟨h.1, h.2.imp_right fun ⟨b, off, e, hb, hc⟩ => ⟨b, off, e, Nat.lt_of_lt_of_le hb hx.size, fun i x hi j hj => ?_⟩⟩
  rw [hx.below.cell (p := ⟨b, off + (i * 5 + j), none⟩) hb]
  exact hc i x hi j hj

theorem RdI.cell {w : World} {p : Option Addr} {n c : Nat} {L : List IfE} (h : RdI w p n c L) {i : Nat} {x : IfE} (hi : L[i]? = some x) :
    ∃ b off, p = some ⟨b, off, none⟩ ∧ b < w.heap.size ∧ w.cell? ⟨b, off + i * 5, none⟩ = some (.string x.1) ∧ w.cell? ⟨b, off + i * 5 + 1, none⟩ = some (.int .u32 x.2.1) ∧ w.cell? ⟨b, off + i * 5 + 2, none⟩ = some (.int .i64 x.2.2.1) ∧
      w.cell? ⟨b, off + i * 5 + 3, none⟩ = some (.int .i64 x.2.2.2.1) ∧ w.cell? ⟨b, off + i * 5 + 4, none⟩ = some (.int .i64 x.2.2.2.2) := by
  have hil := (List.getElem?_eq_some_iff.1 hi).1
  rcases h.2 with h0 | ⟨b, off, rfl, hb, hc⟩
  · have := h.1; omega
  · have g0 := hc i x hi 0 (by omega)
    have g1 := hc i x hi 1 (by omega)
    have g2 := hc i x hi 2 (by omega)
    have g3 := hc i x hi 3 (by omega)
    have g4 := hc i x hi 4 (by omega)
    simp only [← Nat.add_assoc, Nat.add_zero] at g0 g1 g2 g3 g4
    exact ⟨b, off, rfl, hb, g0, g1, g2, g3, g4⟩

/-- A row that comes in. -/
theorem rdI_row {ok : IfE → Prop} {w : World} {p : Option Addr} {n c : Nat} {L : List IfE} (h : IsRowG 5 ifE ok w p n c L) : RdI w p n c L := by
  refine ⟨h.length, ?_⟩
  have hl := h.length
  rcases h.cells with h0 | ⟨b, off, rfl, hc⟩
  · exact .inl h0
  · rcases Nat.eq_zero_or_pos n with h0 | h0
    · exact .inl h0
    · obtain ⟨x, hx⟩ : ∃ x, L[0]? = some x := ⟨_, List.getElem?_eq_getElem (by omega)⟩
      exact .inr ⟨b, off, rfl, block_lt (hc 0 x hx 0 (by omega)), hc⟩

def pxE (x : PX) : List Value := [.int .u32 x.1, .int .i64 x.2]

def RdP (w : World) (p : Option Addr) (n c : Nat) (L : List PX) : Prop := L.length = n ∧ (n = 0 ∨ ∃ b off, p = some ⟨b, off, none⟩ ∧ b < w.heap.size ∧ ∀ (i : Nat) (x : PX), L[i]? = some x → ∀ j, j < 2 → w.cell? ⟨b, off + (i * 2 + j), none⟩ = (pxE x)[j]?)

theorem RdP.len {w : World} {p : Option Addr} {n c : Nat} {L : List PX} (h : RdP w p n c L) : L.length = n := h.1

theorem RdP.ext {w w' : World} {p : Option Addr} {n c : Nat} {L : List PX} (h : RdP w p n c L) (hx : Ext w w') : RdP w' p n c L := by
  refine ⟨h.1, h.2.imp_right fun ⟨b, off, e, hb, hc⟩ => ⟨b, off, e, Nat.lt_of_lt_of_le hb hx.size, fun i x hi j hj => ?_⟩⟩
  rw [hx.below.cell (p := ⟨b, off + (i * 2 + j), none⟩) hb]
  exact hc i x hi j hj

theorem RdP.cell {w : World} {p : Option Addr} {n c : Nat} {L : List PX} (h : RdP w p n c L) {i : Nat} {x : PX} (hi : L[i]? = some x) :
    ∃ b off, p = some ⟨b, off, none⟩ ∧ b < w.heap.size ∧ w.cell? ⟨b, off + i * 2, none⟩ = some (.int .u32 x.1) ∧ w.cell? ⟨b, off + i * 2 + 1, none⟩ = some (.int .i64 x.2) := by
  have hil := (List.getElem?_eq_some_iff.1 hi).1
  rcases h.2 with h0 | ⟨b, off, rfl, hb, hc⟩
  · have := h.1; omega
  · have g0 := hc i x hi 0 (by omega)
    have g1 := hc i x hi 1 (by omega)
    simp only [← Nat.add_assoc, Nat.add_zero] at g0 g1
    exact ⟨b, off, rfl, hb, g0, g1⟩

theorem rdP_row {ok : PX → Prop} {w : World} {p : Option Addr} {n c : Nat} {L : List PX} (h : IsRowG 2 pxE ok w p n c L) : RdP w p n c L := by
  refine ⟨h.length, ?_⟩
  have hl := h.length
  rcases h.cells with h0 | ⟨b, off, rfl, hc⟩
  · exact .inl h0
  · rcases Nat.eq_zero_or_pos n with h0 | h0
    · exact .inl h0
    · obtain ⟨x, hx⟩ : ∃ x, L[0]? = some x := ⟨_, List.getElem?_eq_getElem (by omega)⟩
      exact .inr ⟨b, off, rfl, block_lt (hc 0 x hx 0 (by omega)), hc⟩

/-- A row of ways that comes in. -/
abbrev RtE := Int × Int × Int × Int × Int × Int

def rtE (x : RtE) : List Value := [.int .i64 x.1, .int .u32 x.2.1, .int .i64 x.2.2.1, .int .i64 x.2.2.2.1, .int .u32 x.2.2.2.2.1, .int .i64 x.2.2.2.2.2]

def rtEok (x : RtE) : Prop := (Lit.int .i64 (x.1)).wf = true ∧ (Lit.int .u32 (x.2.1)).wf = true ∧ (Lit.int .i64 (x.2.2.1)).wf = true ∧ (Lit.int .i64 (x.2.2.2.1)).wf = true ∧ (Lit.int .u32 (x.2.2.2.2.1)).wf = true ∧ (Lit.int .i64 (x.2.2.2.2.2)).wf = true

def rtOf (x : RtE) : Rt := ⟨x.1, x.2.1, x.2.2.1, x.2.2.2.1, x.2.2.2.2.1, x.2.2.2.2.2⟩

theorem flat_get {α : Type} {k : Nat} {f : α → List Value} (hk : ∀ z, (f z).length = k) : ∀ (L : List α) (j : Nat) (u : Value), (L.flatMap f)[j]? = some u → 0 < k → ∃ i z, L[i]? = some z ∧ j = i * k + j % k ∧ (f z)[j % k]? = some u
  | [], j, u, h, _ => by simp at h
  | y :: L, j, u, h, h0 => by
    rw [List.flatMap_cons] at h
    rcases Nat.lt_or_ge j k with hj | hj
    · rw [List.getElem?_append_left (by rw [hk]; exact hj)] at h
      have e : j % k = j := Nat.mod_eq_of_lt hj
      exact ⟨0, y, rfl, by rw [e]; omega, by rw [e]; exact h⟩
    · rw [List.getElem?_append_right (by rw [hk]; exact hj), hk] at h
      obtain ⟨i, z, h1, h2, h3⟩ := flat_get hk L (j - k) u h h0
      have e : (j - k) % k = j % k := (Nat.mod_eq_sub_mod hj).symm
      rw [e] at h2 h3
      refine ⟨i + 1, z, h1, ?_, h3⟩
      rw [Nat.add_mul, Nat.one_mul]
      omega

theorem rdR_row {w : World} {p : Option Addr} {n c : Nat} {L : List RtE} (h : IsRowG 6 rtE rtEok w p n c L) : Rd w p n c (L.map rtOf) ∧ ∀ r ∈ L.map rtOf, RtOk r := by
  have hf : ∀ L : List RtE, rtCs (L.map rtOf) = L.flatMap rtE := fun L => by
    induction L with
    | nil => rfl
    | cons y L ih =>
      rw [List.map_cons, List.flatMap_cons, ← ih]
      rfl
  have hlen : ∀ L : List RtE, (L.flatMap rtE).length = L.length * 6 := fun L => by
    induction L with
    | nil => rfl
    | cons y L ih => rw [List.flatMap_cons, List.length_append, ih]; simp [rtE]; omega
  have hl := h.length
  refine ⟨⟨?_, h.nil, ?_, ?_⟩, ?_⟩
  · rw [hf, hlen, hl]
  · rw [hf]
    intro u hu
    obtain ⟨z, -, hz⟩ := List.mem_flatMap.1 hu
    simp only [rtE, List.mem_cons, List.not_mem_nil, or_false] at hz
    rcases hz with rfl | rfl | rfl | rfl | rfl | rfl <;> rfl
  · rcases h.cells with h0 | ⟨b, off, rfl, hc⟩
    · exact .inl h0
    · refine .inr ⟨b, off, rfl, fun j u hj => ?_⟩
      rw [hf] at hj
      obtain ⟨i, z, h1, h2, h3⟩ := flat_get (k := 6) (fun _ => rfl) L j u hj (by omega)
      have := hc i z h1 (j % 6) (Nat.mod_lt _ (by omega))
      rw [h3, ← h2] at this
      exact this
  · intro r hr
    obtain ⟨z, hz, rfl⟩ := List.mem_map.1 hr
    obtain ⟨w1, w2, w3, w4, w5, w6⟩ := h.ok z hz
    exact rtOk_of w1 w2 w3 w4 w5 w6
end Go.Proofs.YtkfhkhgiojpfoaaGreat.Rp

namespace Go.Proofs.YtkfhkhgiojpfoaaGreat.Rp

set_option maxRecDepth 100000

open Go.RowKit Go.Proofs.YtkfhkhgiojpfoaaGreat Go.Proofs.YtkfhkhgiojpfoaaGreat.Rb Go.Proofs.YtkfhkhgiojpfoaaGreat.Fb

open Go.Proofs.YtkfhkhgiojpfoaaGreat.Tri (PX)

set_option linter.unusedVariables false

set_option linter.unusedSimpArgs false

set_option maxHeartbeats 1000000 in
theorem indexR (g : Nat) (cb : Array Value) (p : Option Addr) (n c : Nat) (L : List Rt) (f : Rt → Bool) (w : World) (eg : ∀ args w, (callFunc g args).run Tryz.prog w = .ok (.enter g args) w) (hR : RdR w p n c L) (hn : n ≤ 1000000)
    (hf : ∀ w', Ext w w' → ∀ x ∈ L, Calls Tryz.prog g (#[.agg #[.int .i64 x.t, .int .u32 x.a, .int .i64 x.l, .int .i64 x.i, .int .u32 x.g, .int .i64 x.m]] ++ cb) w' fun e w2 => e = .returned (.bool (f x)) ∧ Ext w' w2) :
    Calls Tryz.prog 78 #[.slice p n c, .func (.func g) #[] cb] w (IndexAns w (L.any f)) := by
  have HF : Hid _ := hf
  have HR : Hid (RdR w p n c L) := hR
  have HL : Hid (L.length = n) := hR.len
  clear hf hR
  go_enter Tryz.func78, Tryz.ntmps78
  go_wp2_with fail
  go_loopg [8] n (fun kx s8 wr => ∃ k : Nat, s8 = .int .i64 k ∧ k ≤ n ∧ n - k ≤ kx ∧ Ext w wr ∧ Hid ((L.take k).any f = false))
  case atStart => exact ⟨0, rfl, Nat.zero_le _, Nat.le_refl _, Ext.refl _, (rfl : (L.take 0).any f = false)⟩
  case round =>
    obtain ⟨k, rfl, hkn, hkx, hx, HA⟩ := hrel
    by_cases hlt : k < n
    · obtain ⟨x, hxk⟩ : ∃ x, L[k]? = some x := ⟨_, List.getElem?_eq_getElem (by rw [HL.out]; omega)⟩
      have hc := HF.out wr hx x (List.mem_of_getElem? hxk)
      obtain ⟨b, off, rfl, hb, g0, g1, g2, g3, g4, g5⟩ := (HR.out.ext hx).cell hxk
      have HT : Hid ((L.take (k + 1)).any f = ((L.take k).any f || f x)) := any_take hxk
      have hki : (k : Int) < (n : Int) := by omega
      clear hxk hb
      cases hz : f x with
      | true =>
        rw [hz] at hc
        have HZ : Hid (L.any f = true) := any_in HT.out hz
        clear hz
        go_wp2_with (go_at_fn g; refine hc.mono ?_; rintro e w1 ⟨rfl, hx1⟩)
        go_ret
        exact ⟨(k : Int), rfl, .inl ⟨k, rfl, HZ.out⟩, hx.trans hx1⟩
      | false =>
        rw [hz] at hc
        have HZ : Hid ((L.take (k + 1)).any f = false) := by have h := HT.out; rw [HA.out, hz] at h; exact h
        clear hz
        go_wp2_with (go_at_fn g; refine hc.mono ?_; rintro e w1 ⟨rfl, hx1⟩)
        go_roundg (n - (k + 1))
        case measure => omega
        case rel => exact ⟨k + 1, by go_num, by omega, Nat.le_refl _, hx.trans hx1, HZ⟩
    · obtain rfl : k = n := by omega
      have HZ : Hid (L.any f = false) := by have h := HA.out; rwa [List.take_of_length_le (by rw [HL.out]; exact Nat.le_refl _)] at h
      go_wp2_with fail
      go_ret
      exact ⟨-1, rfl, .inr ⟨rfl, HZ.out⟩, hx⟩

set_option maxHeartbeats 1000000 in
theorem containsR (g : Nat) (cb : Array Value) (p : Option Addr) (n c : Nat) (L : List Rt) (f : Rt → Bool) (w : World) (eg : ∀ args w, (callFunc g args).run Tryz.prog w = .ok (.enter g args) w) (hR : RdR w p n c L) (hn : n ≤ 1000000)
    (hf : ∀ w', Ext w w' → ∀ x ∈ L, Calls Tryz.prog g (#[.agg #[.int .i64 x.t, .int .u32 x.a, .int .i64 x.l, .int .i64 x.i, .int .u32 x.g, .int .i64 x.m]] ++ cb) w' fun e w2 => e = .returned (.bool (f x)) ∧ Ext w' w2) :
    Calls Tryz.prog 55 #[.slice p n c, .func (.func g) #[] cb] w fun e w' => e = .returned (.bool (L.any f)) ∧ Ext w w' := by
  have ci := indexR g cb p n c L f w eg hR hn hf
  generalize L.any f = y at *
  clear hf hR eg
  go_enter Tryz.func55, Tryz.ntmps55
  go_wp2_with fail
  go_at_call 78
  refine ci.mono ?_
  rintro e w1 ⟨z, rfl, hz, hx1⟩
  rcases hz with ⟨k, rfl, rfl⟩ | ⟨rfl, rfl⟩
  · have hk : (0 : Int) ≤ (k : Int) := by omega
    go_wp2_with fail
    go_ret
    exact ⟨rfl, hx1⟩
  · go_wp2_with fail
    go_ret
    exact ⟨rfl, hx1⟩

set_option maxHeartbeats 1000000 in
theorem indexI (g : Nat) (cb : Array Value) (p : Option Addr) (n c : Nat) (L : List IfE) (f : IfE → Bool) (w : World) (eg : ∀ args w, (callFunc g args).run Tryz.prog w = .ok (.enter g args) w) (hR : RdI w p n c L) (hn : n ≤ 1000000)
    (hf : ∀ w', Ext w w' → ∀ x ∈ L, Calls Tryz.prog g (#[.agg #[.string x.1, .int .u32 x.2.1, .int .i64 x.2.2.1, .int .i64 x.2.2.2.1, .int .i64 x.2.2.2.2]] ++ cb) w' fun e w2 => e = .returned (.bool (f x)) ∧ Ext w' w2) :
    Calls Tryz.prog 63 #[.slice p n c, .func (.func g) #[] cb] w (IndexAns w (L.any f)) := by
  have HF : Hid _ := hf
  have HR : Hid (RdI w p n c L) := hR
  have HL : Hid (L.length = n) := hR.len
  clear hf hR
  go_enter Tryz.func63, Tryz.ntmps63
  go_wp2_with fail
  go_loopg [8] n (fun kx s8 wr => ∃ k : Nat, s8 = .int .i64 k ∧ k ≤ n ∧ n - k ≤ kx ∧ Ext w wr ∧ Hid ((L.take k).any f = false))
  case atStart => exact ⟨0, rfl, Nat.zero_le _, Nat.le_refl _, Ext.refl _, (rfl : (L.take 0).any f = false)⟩
  case round =>
    obtain ⟨k, rfl, hkn, hkx, hx, HA⟩ := hrel
    by_cases hlt : k < n
    · obtain ⟨x, hxk⟩ : ∃ x, L[k]? = some x := ⟨_, List.getElem?_eq_getElem (by rw [HL.out]; omega)⟩
      have hc := HF.out wr hx x (List.mem_of_getElem? hxk)
      obtain ⟨b, off, rfl, hb, g0, g1, g2, g3, g4⟩ := (HR.out.ext hx).cell hxk
      have HT : Hid ((L.take (k + 1)).any f = ((L.take k).any f || f x)) := any_take hxk
      have hki : (k : Int) < (n : Int) := by omega
      clear hxk hb
      cases hz : f x with
      | true =>
        rw [hz] at hc
        have HZ : Hid (L.any f = true) := any_in HT.out hz
        clear hz
        go_wp2_with (go_at_fn g; refine hc.mono ?_; rintro e w1 ⟨rfl, hx1⟩)
        go_ret
        exact ⟨(k : Int), rfl, .inl ⟨k, rfl, HZ.out⟩, hx.trans hx1⟩
      | false =>
        rw [hz] at hc
        have HZ : Hid ((L.take (k + 1)).any f = false) := by have h := HT.out; rw [HA.out, hz] at h; exact h
        clear hz
        go_wp2_with (go_at_fn g; refine hc.mono ?_; rintro e w1 ⟨rfl, hx1⟩)
        go_roundg (n - (k + 1))
        case measure => omega
        case rel => exact ⟨k + 1, by go_num, by omega, Nat.le_refl _, hx.trans hx1, HZ⟩
    · obtain rfl : k = n := by omega
      have HZ : Hid (L.any f = false) := by have h := HA.out; rwa [List.take_of_length_le (by rw [HL.out]; exact Nat.le_refl _)] at h
      go_wp2_with fail
      go_ret
      exact ⟨-1, rfl, .inr ⟨rfl, HZ.out⟩, hx⟩

set_option maxHeartbeats 1000000 in
theorem containsI (g : Nat) (cb : Array Value) (p : Option Addr) (n c : Nat) (L : List IfE) (f : IfE → Bool) (w : World) (eg : ∀ args w, (callFunc g args).run Tryz.prog w = .ok (.enter g args) w) (hR : RdI w p n c L) (hn : n ≤ 1000000)
    (hf : ∀ w', Ext w w' → ∀ x ∈ L, Calls Tryz.prog g (#[.agg #[.string x.1, .int .u32 x.2.1, .int .i64 x.2.2.1, .int .i64 x.2.2.2.1, .int .i64 x.2.2.2.2]] ++ cb) w' fun e w2 => e = .returned (.bool (f x)) ∧ Ext w' w2) :
    Calls Tryz.prog 38 #[.slice p n c, .func (.func g) #[] cb] w fun e w' => e = .returned (.bool (L.any f)) ∧ Ext w w' := by
  have ci := indexI g cb p n c L f w eg hR hn hf
  generalize L.any f = y at *
  clear hf hR eg
  go_enter Tryz.func38, Tryz.ntmps38
  go_wp2_with fail
  go_at_call 63
  refine ci.mono ?_
  rintro e w1 ⟨z, rfl, hz, hx1⟩
  rcases hz with ⟨k, rfl, rfl⟩ | ⟨rfl, rfl⟩
  · have hk : (0 : Int) ≤ (k : Int) := by omega
    go_wp2_with fail
    go_ret
    exact ⟨rfl, hx1⟩
  · go_wp2_with fail
    go_ret
    exact ⟨rfl, hx1⟩

set_option maxHeartbeats 1000000 in
theorem indexP (g : Nat) (cb : Array Value) (p : Option Addr) (n c : Nat) (L : List PX) (f : PX → Bool) (w : World) (eg : ∀ args w, (callFunc g args).run Tryz.prog w = .ok (.enter g args) w) (hR : RdP w p n c L) (hn : n ≤ 1000000)
    (hf : ∀ w', Ext w w' → ∀ x ∈ L, Calls Tryz.prog g (#[.agg #[.int .u32 x.1, .int .i64 x.2]] ++ cb) w' fun e w2 => e = .returned (.bool (f x)) ∧ Ext w' w2) :
    Calls Tryz.prog 82 #[.slice p n c, .func (.func g) #[] cb] w (IndexAns w (L.any f)) := by
  have HF : Hid _ := hf
  have HR : Hid (RdP w p n c L) := hR
  have HL : Hid (L.length = n) := hR.len
  clear hf hR
  go_enter Tryz.func82, Tryz.ntmps82
  go_wp2_with fail
  go_loopg [8] n (fun kx s8 wr => ∃ k : Nat, s8 = .int .i64 k ∧ k ≤ n ∧ n - k ≤ kx ∧ Ext w wr ∧ Hid ((L.take k).any f = false))
  case atStart => exact ⟨0, rfl, Nat.zero_le _, Nat.le_refl _, Ext.refl _, (rfl : (L.take 0).any f = false)⟩
  case round =>
    obtain ⟨k, rfl, hkn, hkx, hx, HA⟩ := hrel
    by_cases hlt : k < n
    · obtain ⟨x, hxk⟩ : ∃ x, L[k]? = some x := ⟨_, List.getElem?_eq_getElem (by rw [HL.out]; omega)⟩
      have hc := HF.out wr hx x (List.mem_of_getElem? hxk)
      obtain ⟨b, off, rfl, hb, g0, g1⟩ := (HR.out.ext hx).cell hxk
      have HT : Hid ((L.take (k + 1)).any f = ((L.take k).any f || f x)) := any_take hxk
      have hki : (k : Int) < (n : Int) := by omega
      clear hxk hb
      cases hz : f x with
      | true =>
        rw [hz] at hc
        have HZ : Hid (L.any f = true) := any_in HT.out hz
        clear hz
        go_wp2_with (go_at_fn g; refine hc.mono ?_; rintro e w1 ⟨rfl, hx1⟩)
        go_ret
        exact ⟨(k : Int), rfl, .inl ⟨k, rfl, HZ.out⟩, hx.trans hx1⟩
      | false =>
        rw [hz] at hc
        have HZ : Hid ((L.take (k + 1)).any f = false) := by have h := HT.out; rw [HA.out, hz] at h; exact h
        clear hz
        go_wp2_with (go_at_fn g; refine hc.mono ?_; rintro e w1 ⟨rfl, hx1⟩)
        go_roundg (n - (k + 1))
        case measure => omega
        case rel => exact ⟨k + 1, by go_num, by omega, Nat.le_refl _, hx.trans hx1, HZ⟩
    · obtain rfl : k = n := by omega
      have HZ : Hid (L.any f = false) := by have h := HA.out; rwa [List.take_of_length_le (by rw [HL.out]; exact Nat.le_refl _)] at h
      go_wp2_with fail
      go_ret
      exact ⟨-1, rfl, .inr ⟨rfl, HZ.out⟩, hx⟩

set_option maxHeartbeats 1000000 in
theorem containsP (g : Nat) (cb : Array Value) (p : Option Addr) (n c : Nat) (L : List PX) (f : PX → Bool) (w : World) (eg : ∀ args w, (callFunc g args).run Tryz.prog w = .ok (.enter g args) w) (hR : RdP w p n c L) (hn : n ≤ 1000000)
    (hf : ∀ w', Ext w w' → ∀ x ∈ L, Calls Tryz.prog g (#[.agg #[.int .u32 x.1, .int .i64 x.2]] ++ cb) w' fun e w2 => e = .returned (.bool (f x)) ∧ Ext w' w2) :
    Calls Tryz.prog 61 #[.slice p n c, .func (.func g) #[] cb] w fun e w' => e = .returned (.bool (L.any f)) ∧ Ext w w' := by
  have ci := indexP g cb p n c L f w eg hR hn hf
  generalize L.any f = y at *
  clear hf hR eg
  go_enter Tryz.func61, Tryz.ntmps61
  go_wp2_with fail
  go_at_call 82
  refine ci.mono ?_
  rintro e w1 ⟨z, rfl, hz, hx1⟩
  rcases hz with ⟨k, rfl, rfl⟩ | ⟨rfl, rfl⟩
  · have hk : (0 : Int) ≤ (k : Int) := by omega
    go_wp2_with fail
    go_ret
    exact ⟨rfl, hx1⟩
  · go_wp2_with fail
    go_ret
    exact ⟨rfl, hx1⟩
end Go.Proofs.YtkfhkhgiojpfoaaGreat.Rp

namespace Go.Proofs.YtkfhkhgiojpfoaaGreat.Rp

set_option maxRecDepth 100000

open Go.RowKit Go.Proofs.YtkfhkhgiojpfoaaGreat Go.Proofs.YtkfhkhgiojpfoaaGreat.Rb Go.Proofs.YtkfhkhgiojpfoaaGreat.Fb

set_option linter.unusedVariables false

set_option linter.unusedSimpArgs false

set_option maxHeartbeats 2000000 in
theorem alive1_any (g : Nat) (cb : Array Value) (ub sb xb : Nat) (q : Option Addr) (d : Nat) (U : List Bool) (src t a l i gt m : Int) (y : Bool) (w : World) (eg : ∀ args w, (callFunc g args).run Tryz.prog w = .ok (.enter g args) w)
    (hu : ∀ w', Ext w w' → w'.cell? ⟨ub, 0, none⟩ = some (.slice q U.length d)) (hs : ∀ w', Ext w w' → w'.cell? ⟨sb, 0, none⟩ = some (.int .u32 src)) (hf : ∀ w', Ext w w' → w'.cell? ⟨xb, 0, none⟩ = some (.func (.func g) #[] cb))
    (hO : OwnB w 0 (.slice q U.length d) U) (hk : ∃ (k : Nat) (u : Bool), i = (k : Int) ∧ k < U.length ∧ U[k]? = some u ∧ upB U i = u) (a0 : 0 ≤ a) (a1 : a ≤ 4294967295) (s0 : 0 ≤ src) (s1 : src ≤ 4294967295)
    (hg : ∀ w', Ext w w' → Calls Tryz.prog g (#[.agg #[.int .i64 t, .int .u32 a, .int .i64 l, .int .i64 i, .int .u32 gt, .int .i64 m]] ++ cb) w' fun e w2 => e = .returned (.bool y) ∧ Ext w' w2) :
    Calls Tryz.prog 57 (#[.agg #[.int .i64 t, .int .u32 a, .int .i64 l, .int .i64 i, .int .u32 gt, .int .i64 m]] ++ #[.pointer (some ⟨ub, 0, none⟩), .pointer (some ⟨sb, 0, none⟩), .pointer (some ⟨xb, 0, none⟩)]) w fun e w' => e = .returned (.bool (aliveB U src ⟨t, a, l, i, gt, m⟩ && y)) ∧ Ext w w' := by
  obtain ⟨k, u, rfl, hkl, hku, hup⟩ := hk
  have hA : Ext w (w.alloc (.cells #[.int .i64 t, .int .u32 a, .int .i64 l, .int .i64 (k : Int), .int .u32 gt, .int .i64 m] 48)) := (Ext.refl w).alloc _
  have HQ : Hid _ := box_rtE (heap_new w (.cells #[.int .i64 t, .int .u32 a, .int .i64 l, .int .i64 (k : Int), .int .u32 gt, .int .i64 m] 48))
  obtain ⟨b0, b1, b2, b3, b4, b5⟩ := HQ.out
  have y0 := b0 _ (Ext.refl _)
  have y1 := b1 _ (Ext.refl _)
  have y2 := b2 _ (Ext.refl _)
  have y3 := b3 _ (Ext.refl _)
  obtain ⟨gq, hq, hc⟩ := (hO.ext hA).cell hku
  subst hq
  have u0 := hu _ hA
  have v0 := hs _ hA
  have cH := fun w => has_any a l src w a0 a1 s0 s1
  have hki : (k : Int) < (U.length : Int) := by omega
  have HF : Hid _ := hf
  have HG : Hid _ := hg
  have HA : Hid _ := hA
  have hal : aliveB U src ⟨t, a, l, (k : Int), gt, m⟩ = (decide (t = 0) && (u && hasV a l src)) := by unfold aliveB; dsimp only; rw [hup]
  rw [hal]
  clear hal hup hku hO hu hs hf hg hA
  by_cases ht : t = 0
  · subst ht
    cases u with
    | false =>
      go_enter Tryz.func57, Tryz.ntmps57
      go_wp2_with fail
      go_ret
      exact ⟨rfl, HA.out⟩
    | true =>
      cases hh : hasV a l src with
      | false =>
        rw [hh] at cH
        clear hh
        go_enter Tryz.func57, Tryz.ntmps57
        go_wp2_with (go_at_call 34; refine (cH _).mono ?_; rintro e w1 ⟨rfl, hx1⟩)
        go_ret
        exact ⟨rfl, Ext.trans HA.out hx1⟩
      | true =>
        rw [hh] at cH
        clear hh
        go_enter Tryz.func57, Tryz.ntmps57
        go_wp2_with (first
          | (go_at_call 34; refine (cH _).mono ?_; rintro e w1 ⟨rfl, hx1⟩; have z0 := b0 _ hx1; have z1 := b1 _ hx1; have z2 := b2 _ hx1; have z3 := b3 _ hx1; have z4 := b4 _ hx1; have z5 := b5 _ hx1; have f1 := HF.out _ (Ext.trans HA.out hx1); have cg := HG.out _ (Ext.trans HA.out hx1); clear cH)
          | (go_at_fn g; refine cg.mono ?_; rintro e w2 ⟨rfl, hx2⟩))
        go_ret
        exact ⟨rfl, Ext.trans HA.out (Ext.trans hx1 hx2)⟩
  · have htd : decide (t = 0) = false := decide_eq_false ht
    rw [htd]
    go_enter Tryz.func57, Tryz.ntmps57
    go_wp2_with fail
    go_ret
    exact ⟨rfl, HA.out⟩

theorem enters_a (args : Array Value) (w : World) : (callFunc 57 args).run Tryz.prog w = .ok (.enter 57 args) w := enters_of Tryz.func57 (by kernel_rfl) rfl args w

set_option maxHeartbeats 2000000 in
theorem alive_any (fb : Nat) (L : List Rt) (U : List Bool) (F : List Nat) (src : Int) (g : Nat) (cb : Array Value) (such : Rt → Bool) (w : World) (eg : ∀ args w, (callFunc g args).run Tryz.prog w = .ok (.enter g args) w) (h : FibAt w fb L U F) (hb : InB L U) (s0 : 0 ≤ src) (s1 : src ≤ 4294967295)
    (hg : ∀ w', Ext w w' → ∀ x : Rt, Calls Tryz.prog g (#[(.agg #[.int .i64 x.t, .int .u32 x.a, .int .i64 x.l, .int .i64 x.i, .int .u32 x.g, .int .i64 x.m])] ++ cb) w' fun e w2 => e = .returned (.bool (such x)) ∧ Ext w' w2) :
    Calls Tryz.prog 27 #[.pointer (some ⟨fb, 0, none⟩), .int .u32 src, .func (.func g) #[] cb] w fun e w' => e = .returned (.bool (L.any fun x => aliveB U src x && such x)) ∧ Ext w w' := by
  have hA : Ext w ((w.alloc (.cells #[.int .u32 src] 23)).alloc (.cells #[.func (.func g) #[] cb] 66)) := ((Ext.refl w).alloc _).alloc _
  have hB1 : ((w.alloc (.cells #[.int .u32 src] 23)).alloc (.cells #[.func (.func g) #[] cb] 66)).heap[w.heap.size]? = some (.cells #[.int .u32 src] 23 (0, 0)) :=
    (Below.heap_alloc (w.alloc (.cells #[.int .u32 src] 23)) _ w.heap.size (by simp)).trans (heap_new w _)
  have hB2 : ((w.alloc (.cells #[.int .u32 src] 23)).alloc (.cells #[.func (.func g) #[] cb] 66)).heap[w.heap.size + 1]? = some (.cells #[.func (.func g) #[] cb] 66 (0, 0)) := by
    have := heap_new (w.alloc (.cells #[.int .u32 src] 23)) (.cells #[.func (.func g) #[] cb] 66)
    rwa [show (w.alloc (.cells #[.int .u32 src] 23)).heap.size = w.heap.size + 1 by simp] at this
  have HS : Hid _ := box1E hB1
  have HX : Hid _ := box1E hB2
  have cu := up_any fb L U F _ (h.ext hA)
  have HFA : Hid (FibAt w fb L U F) := h
  have HGL : Hid (Rb.Good L) := h.good
  have HIN : Hid (InB L U) := hb
  have HG : Hid _ := hg
  have hmf : ∀ (fn : Fn) (first cap : Array Value) (w : World), (Instr.makeFunc fn first cap).run Tryz.prog w = .ok (.func fn first cap) w := fun _ _ _ _ => rfl
  have HA : Hid _ := hA
  clear h hb hg hB1 hB2 hA
  go_enter Tryz.func27, Tryz.ntmps27
  go_wp2_with (go_at_call 53; refine cu.mono ?_; rintro e w1 ⟨v1, rfl, ho1, hx1⟩; obtain ⟨q1, c1, rfl, -, -⟩ := ho1.slice; have H1 : Hid (OwnB w1 _ (.slice q1 U.length c1) U ∧ Ext w w1 ∧ Ext _ w1) := ⟨ho1, Ext.trans HA.out hx1, hx1⟩; clear ho1 hx1)
  have HU : Hid _ := box1E (heap_new w1 (.cells #[.slice q1 U.length c1] 52))
  have HE1 : Hid (Ext w (w1.alloc (.cells #[.slice q1 U.length c1] 52))) := H1.out.2.1.alloc _
  have ca := fall_any fb L U F _ (HFA.out.ext HE1.out)
  clear cu
  go_wp2_with (go_at_call 56; refine ca.mono ?_; rintro e w2 ⟨v2, rfl, ho2, hx2⟩; obtain ⟨p2, c2, rfl, -, -, hR2⟩ := ho2.slice; have H2 : Hid (Rd w2 p2 L.length c2 L ∧ Ext (w1.alloc (.cells #[.slice q1 U.length c1] 52)) w2) := ⟨hR2, hx2⟩; clear ho2 hR2 hx2)
  have HE2 : Hid (Ext w w2) := HE1.out.trans H2.out.2
  have cc := containsR 57 #[.pointer (some ⟨w1.heap.size, 0, none⟩), .pointer (some ⟨w.heap.size, 0, none⟩), .pointer (some ⟨w.heap.size + 1, 0, none⟩)] p2 L.length c2 L (fun x => aliveB U src x && such x) w2 enters_a H2.out.1 (by have := HGL.out.len; omega)
    (fun w' hx x hxL => alive1_any g cb w1.heap.size w.heap.size (w.heap.size + 1) q1 c1 U src x.t x.a x.l x.i x.g x.m (such x) w' eg (fun w'' h => HU.out w'' ((H2.out.2.trans hx).trans h)) (fun w'' h => HS.out w'' (((H1.out.2.2.alloc _).trans (H2.out.2.trans hx)).trans h)) (fun w'' h => HX.out w'' (((H1.out.2.2.alloc _).trans (H2.out.2.trans hx)).trans h))
      ((H1.out.1.ext (((Ext.refl w1).alloc _).trans (H2.out.2.trans hx))).base (Nat.zero_le _)) (HIN.out.up hxL) (HGL.out.ok x hxL).2.2.1 (HGL.out.ok x hxL).2.2.2.1 s0 s1 (fun w'' h => HG.out w'' (HE2.out.trans (hx.trans h)) x))
  clear ca
  go_wp2_with (go_at_call 55; refine cc.mono ?_; rintro e w3 ⟨rfl, hx3⟩)
  go_ret
  exact ⟨rfl, HE2.out.trans hx3⟩

theorem enters_1 (args : Array Value) (w : World) : (callFunc 28 args).run Tryz.prog w = .ok (.enter 28 args) w := enters_of Tryz.func28 (by kernel_rfl) rfl args w

theorem enters_2 (args : Array Value) (w : World) : (callFunc 29 args).run Tryz.prog w = .ok (.enter 29 args) w := enters_of Tryz.func29 (by kernel_rfl) rfl args w

theorem enters_3 (args : Array Value) (w : World) : (callFunc 30 args).run Tryz.prog w = .ok (.enter 30 args) w := enters_of Tryz.func30 (by kernel_rfl) rfl args w

theorem such1_any (ib : Nat) (iface : Int) (x : Rt) (w : World) (hi : ∀ w', Ext w w' → w'.cell? ⟨ib, 0, none⟩ = some (.int .i64 iface)) :
    Calls Tryz.prog 28 (#[(.agg #[.int .i64 x.t, .int .u32 x.a, .int .i64 x.l, .int .i64 x.i, .int .u32 x.g, .int .i64 x.m])] ++ #[.pointer (some ⟨ib, 0, none⟩)]) w fun e w2 => e = .returned (.bool (decide (x.i = iface))) ∧ Ext w w2 := by
  have hA : Ext w (w.alloc (.cells #[.int .i64 x.t, .int .u32 x.a, .int .i64 x.l, .int .i64 x.i, .int .u32 x.g, .int .i64 x.m] 48)) := (Ext.refl w).alloc _
  have i0 := hi _ hA
  have HA : Hid _ := hA
  clear hi hA
  go_enter Tryz.func28, Tryz.ntmps28
  go_wp2_with fail
  go_ret
  exact ⟨rfl, HA.out⟩

theorem such2_any (x : Rt) (w : World) : Calls Tryz.prog 29 (#[(.agg #[.int .i64 x.t, .int .u32 x.a, .int .i64 x.l, .int .i64 x.i, .int .u32 x.g, .int .i64 x.m])] ++ #[]) w fun e w2 => e = .returned (.bool (decide (0 < x.l))) ∧ Ext w w2 := by
  have HA : Hid (Ext w (w.alloc (.cells #[.int .i64 x.t, .int .u32 x.a, .int .i64 x.l, .int .i64 x.i, .int .u32 x.g, .int .i64 x.m] 48))) := (Ext.refl w).alloc _
  go_enter Tryz.func29, Tryz.ntmps29
  go_wp2_with fail
  go_ret
  exact ⟨rfl, HA.out⟩

theorem such3_any (x : Rt) (w : World) : Calls Tryz.prog 30 (#[(.agg #[.int .i64 x.t, .int .u32 x.a, .int .i64 x.l, .int .i64 x.i, .int .u32 x.g, .int .i64 x.m])] ++ #[]) w fun e w2 => e = .returned (.bool true) ∧ Ext w w2 := by
  have HA : Hid (Ext w (w.alloc (.cells #[.int .i64 x.t, .int .u32 x.a, .int .i64 x.l, .int .i64 x.i, .int .u32 x.g, .int .i64 x.m] 48))) := (Ext.refl w).alloc _
  go_enter Tryz.func30, Tryz.ntmps30
  go_wp2_with fail
  go_ret
  exact ⟨rfl, HA.out⟩

def ChecksTo (w : World) (y : Bool) (e : Ending) (w' : World) : Prop := e = .returned (.bool y) ∧ Ext w w'

set_option maxHeartbeats 4000000 in
theorem check_any (fb : Nat) (L : List Rt) (U : List Bool) (F : List Nat) (mode iface src : Int) (w : World) (h : FibAt w fb L U F) (hb : InB L U) (s0 : 0 ≤ src) (s1 : src ≤ 4294967295) :
    Calls Tryz.prog 10 #[.pointer (some ⟨fb, 0, none⟩), .int .i64 mode, .int .i64 iface, .int .u32 src] w (ChecksTo w (checkV L U mode iface src)) := by
  have HA : Hid (Ext w (w.alloc (.cells #[.int .i64 iface] 3))) := (Ext.refl w).alloc _
  have HB : Hid _ := box1E (heap_new w (.cells #[.int .i64 iface] 3))
  have hmf : ∀ (fn : Fn) (first cap : Array Value) (w : World), (Instr.makeFunc fn first cap).run Tryz.prog w = .ok (.func fn first cap) w := fun _ _ _ _ => rfl
  by_cases m0 : mode = 0
  · subst m0
    have hv : checkV L U 0 iface src = true := rfl
    rw [hv]
    clear hv hb h hmf
    go_enter Tryz.func10, Tryz.ntmps10
    go_wp2_with fail
    go_ret
    exact ⟨rfl, HA.out⟩
  · by_cases m1 : mode = 1
    · subst m1
      have hv : checkV L U 1 iface src = ((wayO L U 0 src).isSome && decide ((theR (wayO L U 0 src)).i = iface)) := rfl
      rw [hv]
      have cl := look_any fb 0 src L U F _ (h.ext HA.out) s0 s1
      generalize wayO L U 0 src = oo at *
      have i0 := fun w' hx => HB.out w' hx
      clear hv hb h hmf m0
      cases oo with
      | none =>
        go_enter Tryz.func10, Tryz.ntmps10
        go_wp2_with (go_at_call 26; refine cl.mono ?_; rintro e w1 ⟨rfl, hx1⟩)
        go_ret
        exact ⟨rfl, HA.out.trans (hx1.alloc _)⟩
      | some r =>
        go_enter Tryz.func10, Tryz.ntmps10
        go_wp2_with (go_at_call 26; refine cl.mono ?_; rintro e w1 ⟨rfl, hx1⟩; have i1 := i0 _ (hx1.alloc (.cells #[.int .i64 (theR (some r)).t, .int .u32 (theR (some r)).a, .int .i64 (theR (some r)).l, .int .i64 (theR (some r)).i, .int .u32 (theR (some r)).g, .int .i64 (theR (some r)).m] 48)); clear i0)
        go_ret
        exact ⟨rfl, HA.out.trans (hx1.alloc _)⟩
    · have hv : checkV L U mode iface src = (L.any fun r => aliveB U src r && suchV mode iface r) := by unfold checkV; rw [if_neg m0, if_neg m1]
      rw [hv]
      clear hv
      by_cases m4 : mode = 4
      · subst m4
        have hs : (fun r => aliveB U src r && suchV 4 iface r) = fun r => aliveB U src r && decide (r.i = iface) := by funext r; unfold suchV; simp
        rw [hs]
        have ca := alive_any fb L U F src 28 #[.pointer (some ⟨w.heap.size, 0, none⟩)] (fun r => decide (r.i = iface)) _ enters_1 (h.ext HA.out) hb s0 s1 (fun w' hx x => such1_any w.heap.size iface x w' (fun w'' h2 => HB.out w'' (hx.trans h2)))
        generalize L.any _ = y at *
        clear hs h hb m0 m1
        go_enter Tryz.func10, Tryz.ntmps10
        go_wp2_with (go_at_call 27; refine ca.mono ?_; rintro e w1 ⟨rfl, hx1⟩)
        go_ret
        exact ⟨rfl, HA.out.trans hx1⟩
      · by_cases m2 : mode = 2
        · subst m2
          have hs : (fun r => aliveB U src r && suchV 2 iface r) = fun r => aliveB U src r && decide (0 < r.l) := by funext r; unfold suchV; simp
          rw [hs]
          have ca := alive_any fb L U F src 29 #[] (fun r => decide (0 < r.l)) _ enters_2 (h.ext HA.out) hb s0 s1 (fun w' hx x => such2_any x w')
          generalize L.any _ = y at *
          clear hs h hb m0 m1 m4 hmf
          go_enter Tryz.func10, Tryz.ntmps10
          go_wp2_with (go_at_call 27; refine ca.mono ?_; rintro e w1 ⟨rfl, hx1⟩)
          go_ret
          exact ⟨rfl, HA.out.trans hx1⟩
        · by_cases m3 : mode = 3
          · subst m3
            have hs : (fun r => aliveB U src r && suchV 3 iface r) = fun r => aliveB U src r && true := by funext r; unfold suchV; simp
            rw [hs]
            have ca := alive_any fb L U F src 30 #[] (fun r => true) _ enters_3 (h.ext HA.out) hb s0 s1 (fun w' hx x => such3_any x w')
            generalize L.any _ = y at *
            clear hs h hb m0 m1 m4 m2 hmf
            go_enter Tryz.func10, Tryz.ntmps10
            go_wp2_with (go_at_call 27; refine ca.mono ?_; rintro e w1 ⟨rfl, hx1⟩)
            go_ret
            exact ⟨rfl, HA.out.trans hx1⟩
          · have hs : (fun r => aliveB U src r && suchV mode iface r) = fun r => false := by funext r; unfold suchV; simp [m2, m3, m4]
            rw [hs]
            have hf : (L.any fun _ => false) = false := by simp
            rw [hf]
            clear hs hf h hb hmf
            go_enter Tryz.func10, Tryz.ntmps10
            go_wp2_with fail
            go_ret
            exact ⟨rfl, HA.out⟩
end Go.Proofs.YtkfhkhgiojpfoaaGreat.Rp
