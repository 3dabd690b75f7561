/- A struct that is stored whole, into a block of its own: the world behind it is a letter. -/
import Derived.Test.YtdkmakjjcfkfaaaPlain
import Derived.Test.YtdkmakjjcfkfaaaGrow3
import Derived.Laws.Rows
import Derived.Laws.Tables
namespace Go.Proofs.Ytdkmakjjcfkfaaa
open Go.RowKit
set_option linter.unusedVariables false

theorem setRow_extX (w : World) (g : Nat) (cs : Array Value) : ExtX g w (w.setRow g cs) :=
  ⟨rfl, rfl, rfl, by simp [World.setRow], fun k hk hne => setRow_other w g k cs (fun e => hne e)⟩

/-- One cell of a block. -/
theorem putX (x k : Nat) (w : World) (v : Value) : ExtX x w (w.setCell ⟨x, k, none⟩ v) := (ExtX.refl x w).setCell rfl v

/-- A store of a whole struct, as an operation. -/
theorem wp_store {P : Program} {w : World} {o : Oper} {a : Act} {K : Act → World → Prop} {Q : Exit → Act → World → Prop} (t : TypeId) (x v : Operand) (hop : o.op = .store t x v) (hd : o.dst = none) (n g : Nat) (cs cur : Array Value) (t' : TypeId)
    (hx : a.eval x = .pointer (some ⟨g, 0, none⟩)) (hv : a.eval v = .agg cs) (hg : w.heap[g]? = some (.cells cur t' (0, 0))) (hi : (P.info? t).map (·.size) = some n) (hn : cs.size = n) (hs : cur.size = n) (h1 : ∀ v ∈ cs.toList, v.oneCell' = true)
    (h : ∀ w', ExtX g w w' → w'.heap[g]? = some (.cells cs t' (0, 0)) → K a w') : o.wp P a w K Q := by
  have hr := run_storeVar_row (P := P) w g t' t cur cs hg (by rw [hi, hn]) (by omega) (by rw [Array.all_eq_true']; intro v hv; exact h1 v (by simpa using hv))
  unfold Oper.wp
  simp only [execOp, hop, hx, hv, Instr.storeAt, Instr.sureAddr, Sem.run_bind, Sem.run_pure, Result.andThen, hr]
  show K (a.put o.dst undef) _
  rw [hd]
  exact h _ (setRow_extX w g cs) (setRow_heap w g cur cs t' _ hg)

/-- The same, at the head of a region's rest. -/
theorem wpl_store {P : Program} {w : World} {ops : Array Oper} {rest : List Oper} {o : Oper} {a : Act} {Q : Exit → Act → World → Prop} (hgd : Region.wanted o (yielded ops a.tmps) = true) (t : TypeId) (x v : Operand) (hop : o.op = .store t x v) (hd : o.dst = none) (n g : Nat) (cs cur : Array Value) (t' : TypeId)
    (hx : a.eval x = .pointer (some ⟨g, 0, none⟩)) (hv : a.eval v = .agg cs) (hg : w.heap[g]? = some (.cells cur t' (0, 0))) (hi : (P.info? t).map (·.size) = some n) (hn : cs.size = n) (hs : cur.size = n) (h1 : ∀ v ∈ cs.toList, v.oneCell' = true)
    (h : ∀ w', ExtX g w w' → w'.heap[g]? = some (.cells cs t' (0, 0)) → wpList P ops Q rest a w') : wpList P ops Q (o :: rest) a w :=
  wpList_want hgd fun K hK => wp_store t x v hop hd n g cs cur t' hx hv hg hi hn hs h1 fun w' h2 h3 => hK _ _ (h w' h2 h3)

/-- A load of a whole struct, as an operation. -/
theorem wp_load {P : Program} {w : World} {o : Oper} {a : Act} {K : Act → World → Prop} {Q : Exit → Act → World → Prop} (t : TypeId) (x : Operand) (hop : o.op = .load t x) (g : Nat) (cs : Array Value) (t' : TypeId) (d : TypeDesc)
    (hx : a.eval x = .pointer (some ⟨g, 0, none⟩)) (hg : w.heap[g]? = some (.cells cs t' (0, 0))) (hu : P.underlying t = some d) (hd : (match d with | .struct _ | .array _ _ => true | _ => false) = true) (hi : (P.info? t).map (·.size) = some cs.size)
    (h : K (a.put o.dst (.agg cs)) w) : o.wp P a w K Q := by
  have hr := run_loadVar_row (P := P) w g t' t cs (0, 0) d hg hu hd hi
  unfold Oper.wp
  simp only [execOp, hop, hx, Instr.loadAt, Instr.sureAddr, Sem.run_bind, Sem.run_pure, Result.andThen, hr]
  exact h

/-- The same, at the head of a region's rest. -/
theorem wpl_load {P : Program} {w : World} {ops : Array Oper} {rest : List Oper} {o : Oper} {a : Act} {Q : Exit → Act → World → Prop} (hgd : Region.wanted o (yielded ops a.tmps) = true) (t : TypeId) (x : Operand) (hop : o.op = .load t x) (g : Nat) (cs : Array Value) (t' : TypeId) (d : TypeDesc)
    (hx : a.eval x = .pointer (some ⟨g, 0, none⟩)) (hg : w.heap[g]? = some (.cells cs t' (0, 0))) (hu : P.underlying t = some d) (hd : (match d with | .struct _ | .array _ _ => true | _ => false) = true) (hi : (P.info? t).map (·.size) = some cs.size)
    (h : wpList P ops Q rest (a.put o.dst (.agg cs)) w) : wpList P ops Q (o :: rest) a w :=
  wpList_want hgd fun K hK => wp_load t x hop g cs t' d hx hg hu hd hi (hK _ _ h)

/-- A load of a whole struct, in a region that draws its order. -/
theorem exec_load {P : Program} {w : World} {o : Oper} {ev : Operand → Value} (t : TypeId) (x : Operand) (hop : o.op = .load t x) (g : Nat) (cs : Array Value) (t' : TypeId) (d : TypeDesc)
    (hx : ev x = .pointer (some ⟨g, 0, none⟩)) (hg : w.heap[g]? = some (.cells cs t' (0, 0))) (hu : P.underlying t = some d) (hd : (match d with | .struct _ | .array _ _ => true | _ => false) = true) (hi : (P.info? t).map (·.size) = some cs.size) :
    (execOp ev o).run P w = .ok (.value (.agg cs)) w := by
  have hr := run_loadVar_row (P := P) w g t' t cs (0, 0) d hg hu hd hi
  simp only [execOp, hop, hx, Instr.loadAt, Instr.sureAddr, Sem.run_bind, Sem.run_pure, Result.andThen, hr]

/-- What is answered: a struct's block, and a slot. -/
theorem results_two {P : Program} {fn : Func} {t u : Tmp} {ty : TypeId} (h : fn.results = #[.cell t ty, .tmp u]) {tmps : Array Value} {w : World} {g : Nat} {cs : Array Value} {t' : TypeId} (d : TypeDesc) (hp : tmps.getD t undef = .pointer (some ⟨g, 0, none⟩))
    (hg : w.heap[g]? = some (.cells cs t' (0, 0))) (hu : P.underlying ty = some d) (hd : (match d with | .struct _ | .array _ _ => true | _ => false) = true) (hi : (P.info? ty).map (·.size) = some cs.size) :
    (results fn tmps).run P w = .ok (.tuple #[.agg cs, tmps.getD u undef]) w := by
  have hr := run_loadVar_row (P := P) w g t' ty cs (0, 0) d hg hu hd hi
  have hp' : tmps[t]?.getD undef = .pointer (some ⟨g, 0, none⟩) := by simpa using hp
  simp [results, h, hp', asAddr, hr, Result.andThen]

/-- A struct's block alone. -/
theorem results_one {P : Program} {fn : Func} {t : Tmp} {ty : TypeId} (h : fn.results = #[.cell t ty]) {tmps : Array Value} {w : World} {g : Nat} {cs : Array Value} {t' : TypeId} (d : TypeDesc) (hp : tmps.getD t undef = .pointer (some ⟨g, 0, none⟩))
    (hg : w.heap[g]? = some (.cells cs t' (0, 0))) (hu : P.underlying ty = some d) (hd : (match d with | .struct _ | .array _ _ => true | _ => false) = true) (hi : (P.info? ty).map (·.size) = some cs.size) :
    (results fn tmps).run P w = .ok (.agg cs) w := by
  have hr := run_loadVar_row (P := P) w g t' ty cs (0, 0) d hg hu hd hi
  have hp' : tmps[t]?.getD undef = .pointer (some ⟨g, 0, none⟩) := by simpa using hp
  simp [results, h, hp', asAddr, hr]

end Go.Proofs.Ytdkmakjjcfkfaaa
