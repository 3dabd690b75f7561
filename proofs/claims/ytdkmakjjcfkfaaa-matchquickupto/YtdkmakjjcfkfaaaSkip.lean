/- An operation that is not wanted, in a region that draws its order: by rewriting (so that nothing asks what the rest of the region is). -/
import Derived.Test.YtdkmakjjcfkfaaaGrow
namespace Go.Proofs.Ytdkmakjjcfkfaaa
open Go.RowKit

theorem wpE_skip_eq {R : World → World → Prop} {P : Program} {Q : Exit → Act → World → Prop} {E : Act → World → Prop} {l : List Oper} {i : Nat} {c : Bool} {rest : List (Nat × Bool)} {a : Act} {W : World} (o : Oper) (ho : l[i]? = some o)
    (hw : Region.wanted o (yielded l.toArray a.tmps) = false) : wpE R P l.toArray Q E ((i, c) :: rest) a W = wpE R P l.toArray Q E rest (a.put o.dst undef) W := by
  conv => lhs; unfold wpE
  simp only [List.getElem?_toArray, ho, hw, Bool.false_eq_true, if_false]

end Go.Proofs.Ytdkmakjjcfkfaaa
