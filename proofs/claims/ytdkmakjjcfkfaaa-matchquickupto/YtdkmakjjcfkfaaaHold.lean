/- The walk through a region that draws its order, as a structure: nothing unfolds it unasked. -/
import Derived.Test.YtdkmakjjcfkfaaaGrow
namespace Go.Proofs.Ytdkmakjjcfkfaaa
open Go.RowKit

section
variable {R : World → World → Prop} {P : Program} {Q : Exit → Act → World → Prop} {E : Act → World → Prop}

/-- The walk along a list of places, held. -/
structure WpH (R : World → World → Prop) (P : Program) (ops : Array Oper) (Q : Exit → Act → World → Prop) (E : Act → World → Prop) (sched : List (Nat × Bool)) (a : Act) (W : World) : Prop where
  out : wpE R P ops Q E sched a W

theorem wpH_read {l : List Oper} {i : Nat} {rest : List (Nat × Bool)} {a : Act} {W : World} {o : Oper} {v : Value} (ho : l[i]? = some o) (hw : Region.wanted o (yielded l.toArray a.tmps) = true)
    (hv : ∀ w', R W w' → (execOp a.eval o).run P w' = .ok (.value v) w') (h : WpH R P l.toArray Q E rest (a.put o.dst v) W) : WpH R P l.toArray Q E ((i, false) :: rest) a W := ⟨wpE_read ho hw hv h.out⟩

theorem wpH_skip {l : List Oper} {i : Nat} {c : Bool} {rest : List (Nat × Bool)} {a : Act} {W : World} {o : Oper} (ho : l[i]? = some o) (hw : Region.wanted o (yielded l.toArray a.tmps) = false)
    (h : WpH R P l.toArray Q E rest (a.put o.dst undef) W) : WpH R P l.toArray Q E ((i, c) :: rest) a W := ⟨wpE_skip ho hw h.out⟩

theorem wpH_call {l : List Oper} {i : Nat} {rest : List (Nat × Bool)} {a : Act} {W : World} {o : Oper} (ho : l[i]? = some o) (hw : Region.wanted o (yielded l.toArray a.tmps) = true)
    (h : ∀ K : Act → World → Prop, (∀ a' w', R W w' → WpH R P l.toArray Q E rest a' w' → K a' w') → o.wp P a W K Q) : WpH R P l.toArray Q E ((i, true) :: rest) a W :=
  ⟨wpE_call ho hw fun K hK => h K fun a' w' hx hn => hK a' w' hx hn.out⟩

theorem wpH_done {ops : Array Oper} {a : Act} {W : World} (h : E a W) : WpH R P ops Q E [] a W := ⟨wpE_done h⟩
end
end Go.Proofs.Ytdkmakjjcfkfaaa
