/- A store into a part of a block of one's own: the world behind it is a letter. -/
import Derived.Test.YtdkmakjjcfkfaaaWhole
import Derived.Laws.CopyRow
namespace Go.Proofs.Ytdkmakjjcfkfaaa
open Go.RowKit
set_option linter.unusedVariables false

theorem run_storeVar_at {P : Program} (w : World) (g k : Nat) (t ty : TypeId) (old : Array Value) (v : Value) (vs : List Value) (hv : v.cells = vs.toArray) (hg : w.heap[g]? = some (.cells old t (0, 0))) (hi : (P.info? ty).map (·.size) = some vs.length)
    (ho : k + vs.length ≤ old.size) (h1 : ∀ v ∈ vs, v.oneCell' = true) :
    (storeVar ty ⟨g, k, none⟩ v).run P w = .ok () (w.setRow g (old.toList.take k ++ vs ++ old.toList.drop (k + vs.length)).toArray) := by
  have := run_storeCells_at (P := P) g k t vs 0 old w hg (by omega) h1
  simp only [Nat.add_zero] at this
  cases hq : P.info? ty with
  | none => simp [hq] at hi
  | some i =>
    have hs : vs.length = i.size := by simp [hq] at hi; omega
    simp [storeVar, sizeOf, typeInfo, hq, hv, hs]
    rw [hs, List.append_assoc] at this
    exact this

/-- A store of a value into a part of a block, as an operation. -/
theorem wp_put {P : Program} {w : World} {o : Oper} {a : Act} {K : Act → World → Prop} {Q : Exit → Act → World → Prop} (t : TypeId) (x v : Operand) (hop : o.op = .store t x v) (hd : o.dst = none) (g k : Nat) (vs : List Value) (cur : Array Value) (t' : TypeId)
    (hx : a.eval x = .pointer (some ⟨g, k, none⟩)) (hv : (a.eval v).cells = vs.toArray) (hg : w.heap[g]? = some (.cells cur t' (0, 0))) (hi : (P.info? t).map (·.size) = some vs.length) (hk : k + vs.length ≤ cur.size) (h1 : ∀ v ∈ vs, v.oneCell' = true)
    (h : ∀ w', ExtX g w w' → w'.heap[g]? = some (.cells (cur.toList.take k ++ vs ++ cur.toList.drop (k + vs.length)).toArray t' (0, 0)) → K a w') : o.wp P a w K Q := by
  have hr := run_storeVar_at (P := P) w g k t' t cur _ vs hv hg hi hk h1
  unfold Oper.wp
  simp only [execOp, hop, hx, Instr.storeAt, Instr.sureAddr, Sem.run_bind, Sem.run_pure, Result.andThen, hr]
  show K (a.put o.dst undef) _
  rw [hd]
  exact h _ (setRow_extX w g _) (setRow_heap w g cur (cur.toList.take k ++ vs ++ cur.toList.drop (k + vs.length)).toArray t' _ hg)

/-- The same, at the head of a region's rest. -/
theorem wpl_put {P : Program} {w : World} {ops : Array Oper} {rest : List Oper} {o : Oper} {a : Act} {Q : Exit → Act → World → Prop} (hgd : Region.wanted o (yielded ops a.tmps) = true) (t : TypeId) (x v : Operand) (hop : o.op = .store t x v) (hd : o.dst = none) (g k : Nat) (vs : List Value) (cur : Array Value) (t' : TypeId)
    (hx : a.eval x = .pointer (some ⟨g, k, none⟩)) (hv : (a.eval v).cells = vs.toArray) (hg : w.heap[g]? = some (.cells cur t' (0, 0))) (hi : (P.info? t).map (·.size) = some vs.length) (hk : k + vs.length ≤ cur.size) (h1 : ∀ v ∈ vs, v.oneCell' = true)
    (h : ∀ w', ExtX g w w' → w'.heap[g]? = some (.cells (cur.toList.take k ++ vs ++ cur.toList.drop (k + vs.length)).toArray t' (0, 0)) → wpList P ops Q rest a w') : wpList P ops Q (o :: rest) a w :=
  wpList_want hgd fun K hK => wp_put t x v hop hd g k vs cur t' hx hv hg hi hk h1 fun w' h2 h3 => hK _ _ (h w' h2 h3)

/-- w' is W but for the blocks p and g, with new blocks behind. -/
structure Two (p g : Nat) (W w' : World) : Prop where
  os : w'.os = W.os
  tape : w'.tape = W.tape
  output : w'.output = W.output
  size : W.heap.size ≤ w'.heap.size
  block : ∀ k, k < W.heap.size → k ≠ p → k ≠ g → w'.heap[k]? = W.heap[k]?

theorem Two.refl (p g : Nat) (W : World) : Two p g W W := ⟨rfl, rfl, rfl, Nat.le_refl _, fun _ _ _ _ => rfl⟩
theorem Two.one {p g : Nat} {A B C : World} (h : Two p g A B) (k : ExtX p B C) : Two p g A C :=
  ⟨k.os.trans h.os, k.tape.trans h.tape, k.output.trans h.output, Nat.le_trans h.size k.size, fun i hi hp hg => (k.block i (Nat.lt_of_lt_of_le hi h.size) hp).trans (h.block i hi hp hg)⟩
theorem Two.two {p g : Nat} {A B C : World} (h : Two p g A B) (k : ExtX g B C) : Two p g A C :=
  ⟨k.os.trans h.os, k.tape.trans h.tape, k.output.trans h.output, Nat.le_trans h.size k.size, fun i hi hp hg => (k.block i (Nat.lt_of_lt_of_le hi h.size) hg).trans (h.block i hi hp hg)⟩
theorem Two.extX {p g : Nat} {A B C : World} (h : Ext A B) (k : Two p g B C) (hg : A.heap.size ≤ g) : ExtX p A C :=
  ⟨k.os.trans h.os, k.tape.trans h.tape, k.output.trans h.output, Nat.le_trans h.size k.size, fun i hi hp => (k.block i (Nat.lt_of_lt_of_le hi h.size) hp (by omega)).trans (h.block i hi)⟩
end Go.Proofs.Ytdkmakjjcfkfaaa
