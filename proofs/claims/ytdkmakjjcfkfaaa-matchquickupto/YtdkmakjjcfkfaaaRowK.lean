/- A row of structs that is read, each element a stretch of cells; what a row has. -/
import Derived.Test.YtdkmakjjcfkfaaaGrow3
import Derived.Test.YtdkmakjjcfkfaaaRowG
import Derived.Test.YtdkmakjjcfkfaaaProg
import Derived.Deep.MidRow
namespace Go.Proofs.Ytdkmakjjcfkfaaa
open Go.RowKit
set_option linter.unusedVariables false

/-- The row (p, n) reads as the elements L, each of k cells f x. -/
def RdK {α : Type} (k : Nat) (f : α → List Value) (w : World) (p : Option Addr) (n : Nat) (L : List α) : Prop :=
  L.length = n ∧ (n = 0 ∨ ∃ b off, p = some ⟨b, off, none⟩ ∧ b < w.heap.size ∧ ∀ (i : Nat) (x : α), L[i]? = some x → w.rangeAt b (off + i * k) (f x))

theorem RdK.len {α : Type} {k : Nat} {f : α → List Value} {w : World} {p : Option Addr} {n : Nat} {L : List α} (h : RdK k f w p n L) : L.length = n := h.1

theorem range_later {w w' : World} {b o : Nat} {cs : List Value} (h : w.rangeAt b o cs) (hb : b < w.heap.size) (hx : Ext w w') : w'.rangeAt b o cs := fun j v hj => by
  rw [hx.below.cell (p := ⟨b, o + j, none⟩) hb]; exact h j v hj

theorem RdK.ext {α : Type} {k : Nat} {f : α → List Value} {w w' : World} {p : Option Addr} {n : Nat} {L : List α} (h : RdK k f w p n L) (hx : Ext w w') : RdK k f w' p n L :=
  ⟨h.1, h.2.imp_right fun ⟨b, off, e, hb, hc⟩ => ⟨b, off, e, Nat.lt_of_lt_of_le hb hx.size, fun i x hi => range_later (hc i x hi) hb hx⟩⟩

/-- An element, as a stretch of cells in every later world. -/
theorem RdK.get {α : Type} {k : Nat} {f : α → List Value} {w : World} {p : Option Addr} {n : Nat} {L : List α} (h : RdK k f w p n L) {i : Nat} {x : α} (hi : L[i]? = some x) :
    ∃ b off, p = some ⟨b, off, none⟩ ∧ b < w.heap.size ∧ ∀ w', Ext w w' → w'.rangeAt b (off + i * k) (f x) := by
  have hil := (List.getElem?_eq_some_iff.1 hi).1
  rcases h.2 with h0 | ⟨b, off, rfl, hb, hc⟩
  · have := h.1; omega
  · exact ⟨b, off, rfl, hb, fun w' hx => range_later (hc i x hi) hb hx⟩

theorem rdK_nil {α : Type} (k : Nat) (f : α → List Value) (w : World) (p : Option Addr) : RdK k f w p 0 [] := ⟨rfl, .inl rfl⟩

/-- A row that comes in. -/
theorem rdK_row {α : Type} {k : Nat} {f : α → List Value} {ok : α → Prop} (hk0 : 0 < k) (hk : ∀ z, (f z).length = k) {w : World} {p : Option Addr} {n c : Nat} {L : List α} (h : IsRowG k f ok w p n c L) : RdK k f w p n L := by
  refine ⟨h.length, ?_⟩
  have hl := h.length
  rcases h.cells with h0 | ⟨b, off, rfl, hc⟩
  · exact .inl h0
  · rcases Nat.eq_zero_or_pos n with h0 | h0
    · exact .inl h0
    · obtain ⟨x, hx⟩ : ∃ x, L[0]? = some x := ⟨_, List.getElem?_eq_getElem (by omega)⟩
      obtain ⟨v, hv⟩ : ∃ v, (f x)[0]? = some v := ⟨_, List.getElem?_eq_getElem (by rw [hk]; exact hk0)⟩
      refine .inr ⟨b, off, rfl, block_lt ((hc 0 x hx 0 hk0).trans hv), fun i y hy j v hj => ?_⟩
      have hj' : j < k := by have := (List.getElem?_eq_some_iff.1 hj).1; rw [hk] at this; exact this
      rw [Nat.add_assoc]
      rw [hc i y hy j hj']; exact hj

/-- A row in other words. -/
theorem RdK.map {α β : Type} {k : Nat} {f : α → List Value} {g : β → List Value} (m : α → β) (hm : ∀ x, g (m x) = f x) {w : World} {p : Option Addr} {n : Nat} {L : List α} (h : RdK k f w p n L) : RdK k g w p n (L.map m) := by
  refine ⟨by rw [List.length_map]; exact h.1, h.2.imp_right fun ⟨b, off, e, hb, hc⟩ => ⟨b, off, e, hb, fun i y hy => ?_⟩⟩
  rw [List.getElem?_map] at hy
  obtain ⟨x, hx, rfl⟩ := Option.map_eq_some_iff.1 hy
  rw [hm]; exact hc i x hx

/-- What a load of such a stretch answers, in every later world. -/
theorem load_range {W : World} {b o : Nat} (ty : TypeId) (cs : List Value) (d : TypeDesc) (h : ∀ w', Ext W w' → w'.rangeAt b o cs) (hu : Try.prog.underlying ty = some d) (hd : d.isRow = true) (hi : (Try.prog.info? ty).map (·.size) = some cs.length) :
    ∀ w', Ext W w' → (Instr.loadAt ty (.pointer (some ⟨b, o, none⟩))).run Try.prog w' = .ok (.agg cs.toArray) w' := fun w' hx =>
  run_loadAt_mid w' b o ty cs d (h w' hx) hu hd hi

/-- A load of such a stretch, at the head of a region's rest. -/
theorem wpl_range {P : Program} {w : World} {ops : Array Oper} {rest : List Oper} {o : Oper} {a : Act} {Q : Exit → Act → World → Prop} (hgd : Region.wanted o (yielded ops a.tmps) = true) (ty : TypeId) (x : Operand) (hop : o.op = .load ty x) (b k : Nat) (cs : List Value) (d : TypeDesc)
    (hx : a.eval x = .pointer (some ⟨b, k, none⟩)) (hc : w.rangeAt b k cs) (hu : P.underlying ty = some d) (hd : d.isRow = true) (hi : (P.info? ty).map (·.size) = some cs.length)
    (h : wpList P ops Q rest (a.put o.dst (.agg cs.toArray)) w) : wpList P ops Q (o :: rest) a w :=
  wpList_want hgd fun _ hK => wp_load_mid ty x hop b k hx cs d hc hu hd hi (hK _ _ h)

/-- The same, in a region that draws its order. -/
theorem exec_range {P : Program} {w : World} {o : Oper} {ev : Operand → Value} (ty : TypeId) (x : Operand) (hop : o.op = .load ty x) (b k : Nat) (cs : List Value) (d : TypeDesc)
    (hx : ev x = .pointer (some ⟨b, k, none⟩)) (hc : w.rangeAt b k cs) (hu : P.underlying ty = some d) (hd : d.isRow = true) (hi : (P.info? ty).map (·.size) = some cs.length) :
    (execOp ev o).run P w = .ok (.value (.agg cs.toArray)) w := by
  simp only [execOp, hop, hx, Instr.loadAt, Instr.sureAddr, Sem.run_bind, Sem.run_pure, Result.andThen, run_loadVar_mid w b k ty cs d hc hu hd hi]

/-- A stretch within a stretch. -/
theorem range_part {W : World} {b o : Nat} {cs : List Value} (k : Nat) (ds : List Value) (hd : ∀ (j : Nat) v, ds[j]? = some v → cs[k + j]? = some v) (h : ∀ w', Ext W w' → w'.rangeAt b o cs) : ∀ w', Ext W w' → w'.rangeAt b (o + k) ds := fun w' hx j v hj => by
  rw [Nat.add_assoc]; exact h w' hx (k + j) v (hd j v hj)

/-- One cell of a stretch. -/
theorem range_cell {W : World} {b o : Nat} {cs : List Value} (h : ∀ w', Ext W w' → w'.rangeAt b o cs) (j : Nat) (v : Value) (hj : cs[j]? = some v) : ∀ w', Ext W w' → w'.cell? ⟨b, o + j, none⟩ = some v := fun w' hx => h w' hx j v hj

/-- A block of cells, as a stretch. -/
theorem range_box {W : World} {b : Nat} {cs : List Value} {t : TypeId} (h : W.heap[b]? = some (.cells cs.toArray t (0, 0))) : ∀ w', Ext W w' → w'.rangeAt b 0 cs := fun w' hx j v hj => by
  have hlt : b < W.heap.size := by
    rcases Nat.lt_or_ge b W.heap.size with hl | hl
    · exact hl
    · simp [Array.getElem?_eq_none hl] at h
  rw [heap_cell ((hx.block b hlt).trans h), Nat.zero_add]
  simpa using hj

theorem any_take {α : Type} {L : List α} {f : α → Bool} {k : Nat} {x : α} (h : L[k]? = some x) : (L.take (k + 1)).any f = ((L.take k).any f || f x) := by
  rw [List.take_add_one, h]; simp

theorem any_in {α : Type} {L : List α} {f : α → Bool} {k : Nat} {x : α} (h : (L.take (k + 1)).any f = ((L.take k).any f || f x)) (hx : f x = true) : L.any f = true := by
  rw [hx, Bool.or_true] at h
  obtain ⟨y, h1, h2⟩ := List.any_eq_true.1 h
  exact List.any_eq_true.2 ⟨y, List.mem_of_mem_take h1, h2⟩
end Go.Proofs.Ytdkmakjjcfkfaaa
