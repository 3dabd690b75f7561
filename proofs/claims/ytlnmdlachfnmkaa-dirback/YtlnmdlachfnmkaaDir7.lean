/- Package dir: a block held against an empty one; disown. -/
import Derived.Test.YtlnmdlachfnmkaaDirQ
namespace Go.Proofs.Ytlnmdlachfnmkaa.Dr
set_option maxRecDepth 100000
open Go.RowKit Go.Proofs.Ytlnmdlachfnmkaa Go.Proofs.Ytlnmdlachfnmkaa.Tri
set_option linter.unusedVariables false

theorem part_place (cs : Array Value) (off : Nat) (w : World) : (part 82 cs off).run Try.prog w = .ok (.agg (cs.extract off (off + 2))) w := by kernel_rfl

theorem extract_two {cs : Array Value} {off : Nat} {a b : Value} (h1 : cs[off]? = some a) (h2 : cs[off + 1]? = some b) : cs.extract off (off + 2) = #[a, b] := by
  have l2 := (Array.getElem?_eq_some_iff.1 h2).1
  apply Array.ext'
  simp only [Array.toList_extract, List.extract_eq_take_drop]
  have e1 : cs.toList[off]? = some a := by simpa using h1
  have e2 : cs.toList[off + 1]? = some b := by simpa using h2
  obtain ⟨l1, g1⟩ := List.getElem?_eq_some_iff.1 e1
  obtain ⟨l2', g2⟩ := List.getElem?_eq_some_iff.1 e2
  rw [List.drop_eq_getElem_cons l1, List.drop_eq_getElem_cons l2', g1, g2]
  simp

theorem eq_place (o1 o2 : Option Nat) (w : World) : (Op.equalIn 9999 82 (.agg #[ptV o1, ptV o2]) (.agg #[.pointer none, .pointer none])).run Try.prog w = .ok (o1.isNone && o2.isNone) w := by
  cases o1 <;> cases o2 <;> kernel_rfl

theorem items_any (cs : Array Value) (f g : Nat → Option Nat) (h : ∀ i, i < 256 → cs[i * 2]? = some (ptV (f i)) ∧ cs[i * 2 + 1]? = some (ptV (g i))) (w : World) :
    ∀ is : List Nat, (∀ i ∈ is, i < 256) → (Op.eqItems 9999 82 2 cs zB is).run Try.prog w = .ok (is.all fun i => (f i).isNone && (g i).isNone) w
  | [], _ => rfl
  | i :: is, hi => by
    have ih := items_any cs f g h w is (fun j hj => hi j (List.mem_cons_of_mem _ hj))
    have hi0 := hi i List.mem_cons_self
    have ez : zB.extract (i * 2) (i * 2 + 2) = #[.pointer none, .pointer none] := extract_two (by simp only [zB, Array.getElem?_replicate]; rw [if_pos (by omega)]) (by simp only [zB, Array.getElem?_replicate]; rw [if_pos (by omega)])
    simp only [Op.eqItems, Sem.run_bind, part_place, Result.andThen_ok, extract_two (h i hi0).1 (h i hi0).2, ez, eq_place, List.all_cons]
    cases hb : ((f i).isNone && (g i).isNone) with
    | false => rfl
    | true => simpa using ih

theorem under_block : Try.prog.underlying 102 = some (.array 256 82) := by kernel_rfl

theorem cells_place : Try.prog.cellsOf 82 = 2 := by kernel_rfl

theorem eql_block {cs : Array Value} {f g : Nat → Option Nat} (h : ∀ i, i < 256 → cs[i * 2]? = some (ptV (f i)) ∧ cs[i * 2 + 1]? = some (ptV (g i))) (w : World) :
    (Op.equalIn 10000 102 (.agg cs) (.agg Try.zeroCells102)).run Try.prog w = .ok ((List.range 256).all fun i => (f i).isNone && (g i).isNone) w := by
  obtain ⟨i0, hi0, -⟩ := Option.map_eq_some_iff.1 info_place
  rw [zero_cells, show (10000 : Nat) = 9999 + 1 from rfl, run_equalIn_array w 9999 cs zB under_block hi0, cells_place]
  exact items_any cs f g h w _ (fun i hi => List.mem_range.1 hi)

/-- A load of a whole block, at the head of a region's rest. -/
theorem wpl_block {P : Program} {w : World} {ops : Array Oper} {rest : List Oper} {o : Oper} {a : Act} {Q : Exit → Act → World → Prop} (hgd : Region.wanted o (yielded ops a.tmps) = true) (t : TypeId) (x : Operand) (hop : o.op = .load t x) (g : Nat) (cs : Array Value) (t' : TypeId) (d : TypeDesc)
    (hx : a.eval x = .pointer (some ⟨g, 0, none⟩)) (hg : w.heap[g]? = some (.cells cs t' (0, 0))) (hu : P.underlying t = some d) (hd : (match d with | .struct _ | .array _ _ => true | _ => false) = true) (hi : (P.info? t).map (·.size) = some cs.size)
    (h : wpList P ops Q rest (a.put o.dst (.agg cs)) w) : wpList P ops Q (o :: rest) a w := by
  refine wpList_want hgd fun K hK => ?_
  have hr := run_loadVar_row (P := P) w g t' t cs (0, 0) d hg hu hd hi
  unfold Oper.wp
  simp only [execOp, hop, hx, Instr.loadAt, Instr.sureAddr, Sem.run_bind, Sem.run_pure, Result.andThen, hr]
  exact hK _ _ h

theorem size_block : (Try.prog.info? 102).map (·.size) = some 512 := by kernel_rfl
end Go.Proofs.Ytlnmdlachfnmkaa.Dr
